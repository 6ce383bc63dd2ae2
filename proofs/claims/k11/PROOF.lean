import PyProof.Rows.All
import Wide.All
import OpenK.AllK
import Wide.FinOn
import Lean
import PyProof.EqAt
import PyProof.EqKinds
import PyProof.TupleCall
import PySem.Challenge.RW_restfigures_k11_divisors_put_in_and_take
set_option Elab.async false
set_option compiler.extract_closed false
set_option linter.all false
set_option maxRecDepth 100000
namespace L2
open PySem PySem.Spec PyProof.Rows
noncomputable abbrev Key := Sum Int Str
noncomputable def keyIs : Key → Value → Bool
  | .inl k, v => Value.isInt k v
  | .inr x, v => Value.isStrOf x v
noncomputable def keyH (w : World) : Key → Int
  | .inl k => hashInt k
  | .inr x => hashStr w x
theorem keyIs_shape : ∀ {k : Key} {v : Value}, keyIs k v = true → (∃ i t, k = Sum.inl i ∧ v = Value.int i t) ∨ (∃ x t, k = Sum.inr x ∧ v = Value.str x t)
  | .inl i, v, h => by
    obtain ⟨t, e⟩ := Value.isInt_shape (k := i) (v := v) h
    exact .inl ⟨i, t, rfl, e⟩
  | .inr x, v, h => by
    obtain ⟨t, e⟩ := Value.isStrOf_shape (x := x) (v := v) h
    exact .inr ⟨x, t, rfl, e⟩
theorem key_ll (a b : Int) : decide ((Sum.inl a : Key) = Sum.inl b) = (a == b) := by
  by_cases e : a = b
  · subst e; simp
  · have h : ¬ (Sum.inl a : Key) = Sum.inl b := fun q => e (Sum.inl.inj q)
    rw [decide_eq_false h]
    exact (beq_eq_false_iff_ne.mpr e).symm
theorem key_rr (a b : Str) : decide ((Sum.inr a : Key) = Sum.inr b) = decide (a = b) := by
  by_cases e : a = b
  · subst e; simp
  · have h : ¬ (Sum.inr a : Key) = Sum.inr b := fun q => e (Sum.inr.inj q)
    rw [decide_eq_false h, decide_eq_false e]
theorem key_lr (a : Int) (b : Str) : decide ((Sum.inl a : Key) = Sum.inr b) = false := decide_eq_false (fun q => nomatch q)
theorem key_rl (a : Str) (b : Int) : decide ((Sum.inr a : Key) = Sum.inl b) = false := decide_eq_false (fun q => nomatch q)
noncomputable def mixKind (prog : Program) (w : World) : PySem.KeyKind prog w Key where
  is := keyIs
  hash := keyH w
  inj := fun v a b ha hb => by
    rcases keyIs_shape ha with ⟨i, t, rfl, rfl⟩ | ⟨x, t, rfl, rfl⟩
    · rcases keyIs_shape hb with ⟨j, u, rfl, e⟩ | ⟨y, u, rfl, e⟩
      · injection e with e1 _; rw [e1]
      · exact nomatch e
    · rcases keyIs_shape hb with ⟨j, u, rfl, e⟩ | ⟨y, u, rfl, e⟩
      · exact nomatch e
      · injection e with e1 _; rw [e1]
  byValue := fun k v h => by
    rcases keyIs_shape h with ⟨i, t, rfl, rfl⟩ | ⟨x, t, rfl, rfl⟩ <;> rfl
  pyHash := fun hv h => by
    rcases keyIs_shape hv with ⟨i, t, rfl, rfl⟩ | ⟨x, t, rfl, rfl⟩
    · exact wpAny_pyHash_int h
    · exact wpAny_pyHash_str h
  eqBool := fun hu hv h => by
    rcases keyIs_shape hu with ⟨i, t, rfl, rfl⟩ | ⟨x, t, rfl, rfl⟩
    · rcases keyIs_shape hv with ⟨j, u, rfl, rfl⟩ | ⟨y, u, rfl, rfl⟩
      · rw [key_ll] at h; exact wpAny_eqBool_int h
      · rw [key_lr] at h; exact SeqAt.EqAt.int_str i t y u _ _ _ _ h
    · rcases keyIs_shape hv with ⟨j, u, rfl, rfl⟩ | ⟨y, u, rfl, rfl⟩
      · rw [key_rl] at h; exact SeqAt.EqAt.str_int x t j u _ _ _ _ h
      · rw [key_rr] at h; exact wpAny_eqBool_str h
  «strs» := fun k x t v h => by
    rcases keyIs_shape h with ⟨i, u, rfl, e⟩ | ⟨y, u, rfl, e⟩
    · exact nomatch e
    · injection e with e1 _
      subst e1
      cases v <;> rfl
end L2
namespace L2
open PySem PySem.Spec PyProof.Rows
inductive V where
  | non | bl (b : Bool) | int (i : Int) | str (x : Str) | byt (b : Array UInt8) | flt (b : UInt64) | ref (a : Addr) | ty (n : String)
  deriving DecidableEq
noncomputable def RelV : V → Value → Prop
  | .non, u => u = Value.none
  | .bl b, u => u = Value.bool b
  | .int i, u => ∃ t, u = Value.int i t
  | .str x, u => ∃ t, u = Value.str x t
  | .byt b, u => ∃ t, u = Value.bytes b t
  | .flt b, u => ∃ t, u = Value.float b t
  | .ref a, u => u = Value.ref a
  | .ty n, u => u = Value.type n
noncomputable abbrev Vals : List V → List Value → Prop := Paired RelV
theorem Vals.length {xs : List V} {us : List Value} (r : Vals xs us) : xs.length = us.length := Paired.length r
theorem Vals.get : ∀ {xs : List V} {us : List Value} {i : Nat} {x : V}, Vals xs us → xs[i]? = some x → ∃ u, us[i]? = some u ∧ RelV x u
  | _, _, _, _, .nil, e => by simp at e
  | _, _, 0, _, .cons r _, e => by simp at e; subst e; exact ⟨_, rfl, r⟩
  | _, _, i + 1, x, .cons _ t, e => by
    obtain ⟨u, h1, h2⟩ := Vals.get (i := i) (x := x) t (by simpa using e)
    exact ⟨u, by simpa using h1, h2⟩
theorem Vals.set {x : V} {u : Value} (r : RelV x u) : ∀ {xs : List V} {us : List Value} (i : Nat), Vals xs us → Vals (xs.set i x) (us.set i u)
  | _, _, _, .nil => .nil
  | _, _, 0, .cons _ t => .cons r t
  | _, _, i + 1, .cons q t => .cons q (Vals.set r i t)
theorem Vals.append : ∀ {xs ys : List V} {us ws : List Value}, Vals xs us → Vals ys ws → Vals (xs ++ ys) (us ++ ws)
  | _, _, _, _, .nil, s => s
  | _, _, _, _, .cons r t, s => .cons r (Vals.append t s)
theorem Vals.take : ∀ {xs : List V} {us : List Value} (n : Nat), Vals xs us → Vals (xs.take n) (us.take n)
  | _, _, 0, _ => .nil
  | _, _, _ + 1, .nil => .nil
  | _, _, n + 1, .cons r t => .cons r (Vals.take n t)
theorem Vals.drop : ∀ {xs : List V} {us : List Value} (n : Nat), Vals xs us → Vals (xs.drop n) (us.drop n)
  | _, _, 0, r => r
  | _, _, _ + 1, .nil => .nil
  | _, _, n + 1, .cons _ t => Vals.drop n t
theorem Vals.none_of : ∀ {xs : List V} {us : List Value} {i : Nat}, Vals xs us → xs[i]? = none → us[i]? = none := fun {xs us i} r e => by
  have h1 := r.length
  have h2 : xs.length ≤ i := List.getElem?_eq_none_iff.mp e
  exact List.getElem?_eq_none_iff.mpr (by omega)
noncomputable def RelO : Option V → Option Value → Prop
  | some v, some u => RelV v u
  | none, none => True
  | _, _ => False
noncomputable def KV {κ : Type} : List (κ × V) → List (κ × Value) → Prop := Paired fun (p : κ × V) (q : κ × Value) => p.1 = q.1 ∧ RelV p.2 q.2
noncomputable def kV : Key → V
  | .inl i => .int i
  | .inr x => .str x
inductive HO where
  | lst (xs : List V)
  | tup (xs : List V)
  | dK (kvs : List (Key × V)) | dT (kvs : List (List Key × V))
  | set (S : Int → Bool) (n : Nat)
  | ins (C dx : Addr) (fs : List (Str × V))
  | own (x : Addr)
  | xd (fs : List (Str × V))
  | met (f x : Addr)
  | rng (lo hi : Int)
  | frz (o : Obj) (u : HO)
  | tbl (ps : Array Value)
  | ext (φ : Heap → Prop)
noncomputable abbrev Hp := Addr → Option HO
noncomputable def upd (H : Hp) (a : Addr) (o : HO) : Hp := fun b => if b = a then some o else H b
theorem upd_same {H : Hp} {a : Addr} {o : HO} : upd H a o a = some o := by unfold upd; rw [if_pos rfl]
theorem upd_ne {H : Hp} {a b : Addr} {o : HO} (h : b ≠ a) : upd H a o b = H b := by unfold upd; rw [if_neg h]
theorem ne_of_none {H : Hp} {a b : Addr} {o : HO} (h : H a = some o) (h' : H b = none) : a ≠ b := by
  intro e; subst e; rw [h] at h'; cases h'
section
variable (P : Program) (w : World)
noncomputable def ObjOk (H : Hp) (h : Heap) (a : Addr) : HO → Prop
  | .lst xs => xs.length ≤ sizeLine ∧ ∃ (its : List Value) (n : Nat), Vals xs its ∧ h.get? a = some { cls := .type "list", data := .seq its.toArray n }
  | .tup xs => xs.length ≤ sizeLine ∧ ∃ its : List Value, Vals xs its ∧ IsTup h a its.toArray
  | .dK kvs => kvs.length ≤ sizeLine ∧ (a == sysModules) = false ∧ ∃ vs, KV kvs vs ∧ h.DictOf (mixKind P w) a vs
  | .dT kvs => kvs.length ≤ sizeLine ∧ (a == sysModules) = false ∧ ∃ xs : List (List Key × Addr × Value),
      Paired (fun (p : List Key × V) (q : List Key × Addr × Value) => p.1 = q.1 ∧ H q.2.1 = some (.tup (p.1.map kV)) ∧ RelV p.2 q.2.2) kvs xs ∧
      ∃ o es ep, h.get? a = some o ∧ o.ExactDict ∧ o.data = .dict es ep ∧ es.toList = xs.map (entryOfKey (tupleKind (mixKind P w))) ∧ (xs.map (·.1)).Nodup
  | .set S n => h.SetOf (intKind P w) a S n
  | .ins C dx fs => H dx = some (.own a) ∧ fs.length ≤ 1000 ∧ dx ≠ a ∧ h.get? a = some (PySem.W.instObj C dx) ∧
      ∃ mA, h.Ns1 dx mA ∧ (∀ f, RelO (fs.lookup f) (mA f)) ∧ PySem.Within mA (fs.map (·.1))
  | .own _ => ∃ o, h.get? a = some o
  | .xd fs => ∃ mA, h.Ns1 a mA ∧ ∀ f, RelO (fs.lookup f) (mA f)
  | .rng lo hi => ∃ t u v, h.get? a = some { cls := .type "range", data := .fields #[.int lo t, .int hi u, .int 1 v] }
  | .frz o u => h.get? a = some o ∧ ObjOk H h a u
  | .tbl ps => h.get? a = some { cls := .none, data := .fields ps }
  | .met f x => h.get? a = some (PySem.W.methodObj (.ref f) (.ref x))
  | .ext φ => φ h ∧ (∃ o, h.get? a = some o) ∧ ∀ h1 h2 : Heap, φ h1 → (∀ o, h1.get? a = some o → h2.get? a = some o) → φ h2
noncomputable def HOk (H : Hp) (h : Heap) : Prop := ∀ a o, H a = some o → ObjOk P w H h a o
end
section
variable {P : Program} {w : World} {H H' : Hp} {h h' : Heap} {a : Addr} {o : HO}
theorem ObjOk.lt (x : ObjOk P w H h a o) : a < h.objs.size := by
  cases o with
  | lst xs => obtain ⟨_, _, _, _, e⟩ := x; exact Heap.lt_size e
  | tup xs => obtain ⟨_, _, _, p⟩ := x; exact p.lt
  | dK kvs => obtain ⟨_, _, _, _, o, _, _, e, _⟩ := x; exact Heap.lt_size e
  | dT kvs => obtain ⟨_, _, _, _, o, _, _, e, _⟩ := x; exact Heap.lt_size e
  | set S n => obtain ⟨o, _, _, _, e, _⟩ := x; exact Heap.lt_size e
  | ins C dx fs => obtain ⟨_, _, _, e, _⟩ := x; exact Heap.lt_size e
  | own y => obtain ⟨_, e⟩ := x; exact Heap.lt_size e
  | xd fs => obtain ⟨_, ⟨_, _, _, e, _⟩, _⟩ := x; exact Heap.lt_size e
  | rng lo hi => obtain ⟨_, _, _, e⟩ := x; exact Heap.lt_size e
  | frz ob u => obtain ⟨e, _⟩ := x; exact Heap.lt_size e
  | tbl ps => exact Heap.lt_size (show h.get? a = some _ from x)
  | met f y => exact Heap.lt_size (show h.get? a = some _ from x)
  | ext φ => obtain ⟨_, ⟨_, e⟩, _⟩ := x; exact Heap.lt_size e
theorem Paired.mapP {α β : Type} {F G : α → β → Prop} : ∀ {l₁ : List α} {l₂ : List β}, Paired F l₁ l₂ → (∀ a b, F a b → G a b) → Paired G l₁ l₂
  | _, _, .nil, _ => .nil
  | _, _, .cons r t, f => .cons (f _ _ r) (Paired.mapP t f)
theorem ObjOk.stay (x : ObjOk P w H h a o) (k : ∀ b u, (b = a ∨ H b = some (.own a)) → h.get? b = some u → h'.get? b = some u)
    (ho : ∀ b, H b = some (.own a) → H' b = some (.own a)) (ht : ∀ b xs, H b = some (.tup xs) → H' b = some (.tup xs)) : ObjOk P w H' h' a o := by
  induction o with
  | lst xs => obtain ⟨z, its, n, r, e⟩ := x; exact ⟨z, its, n, r, k _ _ (.inl rfl) e⟩
  | tup xs => obtain ⟨z, its, r, ob, e, c⟩ := x; exact ⟨z, its, r, ob, k _ _ (.inl rfl) e, c⟩
  | dK kvs => obtain ⟨z, y, vs, r, ob, es, ep, e, c⟩ := x; exact ⟨z, y, vs, r, ob, es, ep, k _ _ (.inl rfl) e, c⟩
  | dT kvs =>
    obtain ⟨z, y, xs, r, ob, es, ep, e, c⟩ := x
    exact ⟨z, y, xs, Paired.mapP r fun p q z => ⟨z.1, ht _ _ z.2.1, z.2.2⟩, ob, es, ep, k _ _ (.inl rfl) e, c⟩
  | set S n => obtain ⟨ob, es, ep, t, e, c⟩ := x; exact ⟨ob, es, ep, t, k _ _ (.inl rfl) e, c⟩
  | ins C dx fs =>
    obtain ⟨d, z, ne, e, mA, ⟨od, es, ep, e2, c⟩, r⟩ := x
    exact ⟨ho _ d, z, ne, k _ _ (.inl rfl) e, mA, ⟨od, es, ep, k _ _ (.inr d) e2, c⟩, r⟩
  | own y => obtain ⟨ob, e⟩ := x; exact ⟨ob, k _ _ (.inl rfl) e⟩
  | xd fs => obtain ⟨mA, ⟨od, es, ep, e, c⟩, r⟩ := x; exact ⟨mA, ⟨od, es, ep, k _ _ (.inl rfl) e, c⟩, r⟩
  | rng lo hi => obtain ⟨t, u, v, e⟩ := x; exact ⟨t, u, v, k _ _ (.inl rfl) e⟩
  | frz ob u ih => obtain ⟨e, q⟩ := x; exact ⟨k _ _ (.inl rfl) e, ih q⟩
  | tbl ps =>
    have e : h.get? a = some { cls := .none, data := .fields ps } := x
    show h'.get? a = some { cls := .none, data := .fields ps }
    exact k a _ (.inl rfl) e
  | met f y =>
    have e : h.get? a = some (PySem.W.methodObj (.ref f) (.ref y)) := x
    show h'.get? a = some (PySem.W.methodObj (.ref f) (.ref y))
    exact k a _ (.inl rfl) e
  | ext φ => obtain ⟨p, ⟨o, e⟩, st⟩ := x; exact ⟨st _ _ p fun o q => k _ _ (.inl rfl) q, ⟨o, k _ _ (.inl rfl) e⟩, st⟩
theorem HOk.lt (x : HOk P w H h) (e : H a = some o) : a < h.objs.size := (x a o e).lt
theorem HOk.fresh (x : HOk P w H h) (e : h.objs.size ≤ a) : H a = none := by
  cases q : H a with
  | none => rfl
  | some u => exact absurd (Nat.lt_of_lt_of_le (x.lt q) e) (Nat.lt_irrefl _)
theorem HOk.kept (x : HOk P w H h) (k : ∀ b u, h.get? b = some u → h'.get? b = some u) : HOk P w H h' := fun a o e =>
  (x a o e).stay (fun b u _ q => k b u q) (fun _ q => q) fun _ _ q => q
theorem HOk.laid (x : HOk P w H h) (k : ∀ b u, h.get? b = some u → h'.get? b = some u) (hp : h.objs.size ≤ a) (new : ObjOk P w (upd H a o) h' a o) : HOk P w (upd H a o) h' := fun b u e => by
  have hn := x.fresh hp
  by_cases hb : b = a
  · subst hb; rw [upd_same] at e; cases e; exact new
  · rw [upd_ne hb] at e
    exact (x b u e).stay (fun c v _ q => k c v q) (fun c q => by rw [upd_ne (ne_of_none q hn)]; exact q) fun c xs q => by rw [upd_ne (ne_of_none q hn)]; exact q
end
noncomputable def Rd (H : Hp) (a : Addr) (u : HO) : Prop := H a = some u ∨ ∃ o, H a = some (.frz o u)
theorem Rd.ok {P : Program} {w : World} {H : Hp} {h : Heap} {a : Addr} {u : HO} (r : Rd H a u) (x : HOk P w H h) : ObjOk P w H h a u := by
  rcases r with r | ⟨o, r⟩
  · exact x a u r
  · obtain ⟨_, q⟩ := x a _ r
    exact q
noncomputable def Mut : Option HO → Prop
  | some (.lst _) => True
  | some (.dK _) => True
  | some (.dT _) => True
  | some (.set _ _) => True
  | some (.ins _ _ _) => True
  | some (.ext _) => True
  | _ => False
section
variable {P : Program} {w : World} {H : Hp} {h h' : Heap} {x e : Addr} {o' : HO}
theorem HOk.write (ok : HOk P w H h) (mu : Mut (H x)) (he : e = x ∨ H e = some (.own x)) (k : ∀ b u, b ≠ e → h.get? b = some u → h'.get? b = some u) (heo : ∃ u, h'.get? e = some u)
    (new : ObjOk P w (upd H x o') h' x o') : HOk P w (upd H x o') h' := fun b u q => by
  have nown : ∀ c y, H c = some (.own y) → c ≠ x := fun c y r z => by subst z; rw [r] at mu; exact mu
  have ntup : ∀ c xs, H c = some (.tup xs) → c ≠ x := fun c xs r z => by subst z; rw [r] at mu; exact mu
  by_cases hb : b = x
  · subst hb; rw [upd_same] at q; cases q; exact new
  · rw [upd_ne hb] at q
    by_cases hbe : b = e
    · have q' : H b = some (.own x) := by
        rcases he with z | z
        · exact absurd (hbe.trans z) hb
        · rw [hbe]; exact z
      rw [q] at q'; cases q'
      obtain ⟨v, hv⟩ := heo
      exact ⟨v, by rw [hbe]; exact hv⟩
    · refine (ok b u q).stay (fun c v hc r => k c v ?_ r) (fun c r => by rw [upd_ne (nown c b r)]; exact r) fun c xs r => by rw [upd_ne (ntup c xs r)]; exact r
      rcases hc with rfl | hc
      · exact hbe
      · rintro rfl
        rcases he with z | z
        · exact nown c b hc z
        · rw [hc] at z; cases z; exact hb rfl
end
structure Un (fs ex : List Addr) (H H' : Hp) (h h' : Heap) : Prop where
  keep : ∀ b o, h.get? b = some o → H b = none → b ∉ fs → b ∉ ex → h'.get? b = some o
  slot : ∀ b o, h.get? b = some o → H b = none → b ∈ fs → b ∉ ex → ∃ sl, h'.get? b = some { o with slots := sl }
  free : ∀ b o, h.get? b = some o → H b = none → b ∉ ex → H' b = none
  there : ∀ b o, h.get? b = some o → b ∉ ex → ∃ o', h'.get? b = some o'
  tups : ∀ b xs, H b = some (.tup xs) → H' b = some (.tup xs)
  frzs : ∀ b o u, H b = some (.frz o u) → H' b = some (.frz o u)
  tbls : ∀ b ps, H b = some (.tbl ps) → ∃ more, H' b = some (.tbl (ps ++ more))
section
variable {fs fs' ex ex' : List Addr} {H H1 H2 : Hp} {h h1 h2 h' : Heap} {a x e : Addr} {o : HO}
theorem Un.any (u : Un fs ex H H1 h h1) {b : Addr} {ob : Obj} (q : h.get? b = some ob) (n : H b = none) (hx : b ∉ ex) : ∃ sl, h1.get? b = some { ob with slots := sl } := by
  by_cases hb : b ∈ fs
  · exact u.slot b ob q n hb hx
  · exact ⟨ob.slots, u.keep b ob q n hb hx⟩
theorem Un.kept (k : ∀ b u, h.get? b = some u → h'.get? b = some u) : Un fs ex H H h h' :=
  ⟨fun b ob q _ _ _ => k b ob q, fun b ob q _ _ _ => ⟨ob.slots, k b ob q⟩, fun _ _ _ n _ => n, fun b ob q _ => ⟨ob, k b ob q⟩, fun _ _ q => q, fun _ _ _ q => q, fun _ ps q => ⟨#[], by rw [q]; simp⟩⟩
theorem Un.refl : Un fs ex H H h h := Un.kept fun _ _ q => q
theorem Un.laid (k : ∀ b u, h.get? b = some u → h'.get? b = some u) (hp : h.objs.size ≤ a) (hn : H a = none) : Un fs ex H (upd H a o) h h' where
  keep := fun b u q _ _ _ => k b u q
  slot := fun b u q _ _ _ => ⟨u.slots, k b u q⟩
  free := fun b u q n _ => by rw [upd_ne (Nat.ne_of_lt (Nat.lt_of_lt_of_le (Heap.lt_size q) hp))]; exact n
  there := fun b u q _ => ⟨u, k b u q⟩
  tups := fun b xs q => by rw [upd_ne (ne_of_none q hn)]; exact q
  frzs := fun b u xs q => by rw [upd_ne (ne_of_none q hn)]; exact q
  tbls := fun b ps q => ⟨#[], by rw [upd_ne (ne_of_none q hn), q]; simp⟩
theorem Un.write (mu : Mut (H x)) (he : e = x ∨ H e = some (.own x)) (k : ∀ b u, b ≠ e → h.get? b = some u → h'.get? b = some u) (heo : ∃ u, h'.get? e = some u) : Un fs ex H (upd H x o) h h' := by
  have hx : ∀ b, H b = none → b ≠ x := fun b n z => by subst z; rw [n] at mu; exact mu
  have hb : ∀ b, H b = none → b ≠ e := fun b n z => by
    subst z
    rcases he with r | r
    · exact hx b n r
    · rw [n] at r; cases r
  have hm : ∀ b u, H b = some u → ¬ Mut (some u) → b ≠ x := fun b u q nm z => by subst z; rw [q] at mu; exact nm mu
  refine ⟨fun b u q n _ _ => k b u (hb b n) q, fun b u q n _ _ => ⟨u.slots, k b u (hb b n) q⟩, fun b u q n _ => by rw [upd_ne (hx b n)]; exact n, fun b u q _ => ?_,
    fun b xs q => by rw [upd_ne (hm b _ q fun z => z)]; exact q, fun b u xs q => by rw [upd_ne (hm b _ q fun z => z)]; exact q, fun b ps q => ⟨#[], by rw [upd_ne (hm b _ q fun z => z), q]; simp⟩⟩
  by_cases hbe : b = e
  · subst hbe; exact heo
  · exact ⟨u, k b u hbe q⟩
end
noncomputable def trk (h : Heap) (H : Hp) : List Addr := (List.range h.objs.size).filter fun a => (H a).isSome
noncomputable def hidT (h : Heap) (H : Hp) : Heap := PySem.W.hideAll h (trk h H)
theorem hidT_size (h : Heap) (H : Hp) : (hidT h H).objs.size = h.objs.size := PySem.W.hideAll_size _ _
theorem hidT_get {h : Heap} {H : Hp} {b : Addr} {o : Obj} (e : h.get? b = some o) (n : H b = none) : (hidT h H).get? b = some o :=
  PySem.W.hideAll_get _ e fun hm => by
    have q : (H b).isSome = true := (List.mem_filter.mp hm).2
    rw [n] at q; simp at q
theorem of_hidT {h : Heap} {H : Hp} {b : Addr} {o : Obj} (e : (hidT h H).get? b = some o) : h.get? b = some o ∧ H b = none := by
  have e' : h.get? b = some o := PySem.W.of_hideAll (trk h H) e
  refine ⟨e', ?_⟩
  cases q : H b with
  | none => rfl
  | some x =>
    have hm : b ∈ trk h H := List.mem_filter.mpr ⟨List.mem_range.mpr (Heap.lt_size e'), by simp [q]⟩
    have z : (hidT h H).get? b = none := PySem.W.hideAll_none (trk h H) hm
    rw [z] at e; cases e
end L2
namespace L2
open PySem PySem.Spec PyProof.Rows
structure Mod (K : PySem.W.Frag) (mg : Str → Option Value) (base : Heap) : Prop where
  kin : K.In base
  glob : base.Ns mainGlobals mg
  blt : ∃ mb, base.Ns builtinsNs mb ∧ ∀ x : Str, x ≠ "__name__" → mb x = bootBuiltins x
  nolimit : base.NoLimit
set_option genInjectivity false in
structure Cx where
  prog : Program
  w : World
  K : PySem.W.Frag
  mg : Str → Option Value
  base : Heap
  A : Around
  N : List Str
  s₀ : Shared
  H₀ : Hp
  env : Env
  outer : List Env
  stack : List Env
  ex : List Addr
  fn : Str → Bool
  calm : Bool
  pn : List (Addr × Obj)
  xe : Value → Shared → Prop
noncomputable def frs (l : List Env) : List Addr := l.filterMap (·.frame)
noncomputable abbrev Cx.fs (X : Cx) : List Addr := frs X.outer
noncomputable def Vis (sc : Scope) (x : Str) : Prop := sc.names.lookup x = some .local ∨ sc.names.lookup x = some .cell ∨ sc.names.lookup x = some .free
noncomputable def Loc (sc : Scope) (x : Str) : Prop := sc.names.lookup x = some .local ∨ sc.names.lookup x = some .cell
noncomputable def Look (env : Env) (h : Heap) (m : Str → Option Value) (x : Str) (u : Value) : Prop :=
  (env.kindOf x = some .local ∧ m x = some u) ∨ ((env.kindOf x = some .cell ∨ env.kindOf x = some .free) ∧ ∃ c, env.cells.lookup x = some c ∧ h.IsCell c (some u))
set_option genInjectivity false in
structure Cx.Ok (X : Cx) : Prop where
  mod : Mod X.K X.mg X.base
  kind : X.env.scope.kind = .function
  glob : X.env.globals = mainGlobals
  blt : X.env.builtins = builtinsNs
  above : X.s₀.heap.objs.size ≤ X.env.locals
  inj : ∀ x y c, X.env.cells.lookup x = some c → X.env.cells.lookup y = some c → x = y
  has : ∀ x, (X.env.kindOf x = some .cell ∨ X.env.kindOf x = some .free) → ∃ c, X.env.cells.lookup x = some c
  cab : ∀ x c, X.fn x = true → X.env.cells.lookup x = some c → X.s₀.heap.objs.size ≤ c
  hd : X.calm = true → X.A.handled = none
  frames : X.A.frames = some X.stack
  stk : X.stack = X.outer ∨ (X.stack = X.env :: X.outer ∧ X.env.frame = some X.env.locals)
  exf : ∀ b ∈ X.ex, b ≠ X.env.locals ∧ ∀ x c, X.env.cells.lookup x = some c → c ≠ b
  bs : ∀ b o, X.base.get? b = some o → X.s₀.heap.get? b = some o ∧ X.H₀ b = none
  bsz : X.base.objs.size ≤ X.s₀.heap.objs.size
  noex : ∀ b o, X.base.get? b = some o → b ∉ X.ex
  exfs : ∀ b ∈ X.ex, b ∉ X.fs
  funs : X.s₀.heap.FunFrames X.base X.outer
  frf : ∀ b ∈ X.fs, X.H₀ b = none
structure Inv (X : Cx) (pins : List (Addr × Obj)) (σ : List (Option V)) (H : Hp) (s : Shared) : Prop where
  ok : X.Ok
  os : s.os = X.s₀.os
  bare : AllBare s.gens
  base : Un X.fs X.ex X.H₀ H X.s₀.heap s.heap
  loc : ∃ m, s.heap.Ns X.env.locals m ∧ ∀ (i : Nat) (x : Str) (v : V), X.N[i]? = some x → σ[i]? = some (some v) → Vis X.env.scope x → ∃ u, RelV v u ∧ Look X.env s.heap m x u
  cell : ∀ x c, X.env.cells.lookup x = some c → ∃ v, s.heap.IsCell c v
  free : H X.env.locals = none
  freeC : ∀ x c, X.env.cells.lookup x = some c → H c = none
  pin : ∀ p ∈ X.pn ++ pins, s.heap.get? p.1 = some p.2 ∧ H p.1 = none ∧ p.1 ≠ X.env.locals ∧ p.1 ∉ X.fs ∧ ∀ v, p.2.data ≠ .cell v
  hok : HOk X.prog X.w H s.heap
  len : σ.length = X.N.length
section
variable {X : Cx} {pins : List (Addr × Obj)} {σ : List (Option V)} {H H' : Hp} {s : Shared} {h' : Heap}
theorem Cx.Ok.nofr (ok : X.Ok) {b : Addr} {o : Obj} (e : X.base.get? b = some o) : b ∉ X.fs := fun hb => by
  have := (ok.funs.mem hb).1
  rw [e] at this; cases this
theorem Inv.bs (I : Inv X pins σ H s) : ∀ b o, X.base.get? b = some o → s.heap.get? b = some o ∧ H b = none := fun b o e =>
  ⟨I.base.keep b o (I.ok.bs b o e).1 (I.ok.bs b o e).2 (I.ok.nofr e) (I.ok.noex b o e), I.base.free b o (I.ok.bs b o e).1 (I.ok.bs b o e).2 (I.ok.noex b o e)⟩
theorem Inv.bk (I : Inv X pins σ H s) : ∀ b o, X.base.get? b = some o → s.heap.get? b = some o := fun b o e => (I.bs b o e).1
theorem Inv.mod (I : Inv X pins σ H s) : Mod X.K X.mg X.base := I.ok.mod
theorem Inv.kIn (I : Inv X pins σ H s) : X.K.In s.heap := I.ok.mod.kin.keeps I.bk
theorem Inv.fr (I : Inv X pins σ H s) : ∃ m, Fr X.base X.env.locals s.heap m :=
  let ⟨m, hn, _⟩ := I.loc
  ⟨m, hn, I.bk, Nat.le_trans I.ok.bsz I.ok.above⟩
theorem Inv.lt (I : Inv X pins σ H s) : X.env.locals < s.heap.objs.size := let ⟨_, hn, _⟩ := I.loc; hn.lt
theorem Inv.sz (I : Inv X pins σ H s) : X.s₀.heap.objs.size ≤ s.heap.objs.size := Nat.le_trans I.ok.above (Nat.le_of_lt I.lt)
theorem Inv.nofs (I : Inv X pins σ H s) {a : Addr} (h : s.heap.objs.size ≤ a) : a ∉ X.fs := fun hb => by
  obtain ⟨_, o, ho, _⟩ := I.ok.funs.mem hb
  exact absurd (Nat.lt_of_lt_of_le (Heap.lt_size ho) (Nat.le_trans I.sz h)) (Nat.lt_irrefl _)
theorem Inv.cne (I : Inv X pins σ H s) : ∀ x c, X.env.cells.lookup x = some c → c ≠ X.env.locals := fun x c e z => by
  obtain ⟨v, o, ho, hd⟩ := I.cell x c e
  obtain ⟨m, ⟨o', es, ep, ho', hd', _⟩, _⟩ := I.loc
  rw [z, ho'] at ho; cases ho; rw [hd'] at hd; cases hd
theorem Inv.funs (I : Inv X pins σ H s) : s.heap.FunFrames X.base X.outer := by
  have all : ∀ (l : List Env), (∀ b ∈ frs l, b ∈ X.fs) → X.s₀.heap.FunFrames X.base l → s.heap.FunFrames X.base l := by
    intro l
    induction l with
    | nil => intro _ _; trivial
    | cons env r ih =>
      intro hs hl
      obtain ⟨hk, ⟨L, o, hf, hn, ho, hd⟩, hr⟩ := hl
      have hL : L ∈ X.fs := hs L (by unfold frs; rw [List.filterMap_cons, hf]; exact List.mem_cons_self)
      obtain ⟨sl, e⟩ := I.base.slot L o ho (I.ok.frf L hL) hL fun z => I.ok.exfs L z hL
      exact ⟨hk, ⟨L, _, hf, hn, e, hd⟩, ih (fun b hb => hs b (by unfold frs; rw [List.filterMap_cons, hf]; exact List.mem_cons_of_mem _ hb)) hr⟩
  exact all X.outer (fun _ hb => hb) I.ok.funs
theorem Inv.stack (I : Inv X pins σ H s) : s.heap.FunFrames X.base X.stack := by
  rcases I.ok.stk with e | ⟨e, hf⟩
  · rw [e]; exact I.funs
  · rw [e]
    obtain ⟨m, hn, _⟩ := I.loc
    refine .cons (by rw [I.ok.kind]; decide) hf hn ?_ I.funs
    exact Heap.get?_none_of_le (Nat.le_trans I.ok.bsz I.ok.above)
theorem Inv.stkSub (I : Inv X pins σ H s) : ∀ b ∈ frs X.stack, b ∈ X.env.locals :: X.fs := fun b hb => by
  rcases I.ok.stk with e | ⟨e, hf⟩
  · rw [e] at hb; exact List.mem_cons_of_mem _ hb
  · rw [e] at hb
    unfold frs at hb
    rw [List.filterMap_cons, hf] at hb
    exact hb
theorem Inv.stkFree (I : Inv X pins σ H s) : ∀ b ∈ frs X.stack, H b = none := fun b hb => by
  rcases List.mem_cons.mp (I.stkSub b hb) with e | hb
  · rw [e]; exact I.free
  · obtain ⟨_, o, ho, _⟩ := I.ok.funs.mem hb
    exact I.base.free b o ho (I.ok.frf b hb) fun z => I.ok.exfs b z hb
theorem Inv.step {g' : Array GenState} {t' : Nat} {d' : Drawn} {ch : List Addr} (I : Inv X pins σ H s)
    (hch : ∀ b ∈ ch, (b ∈ X.ex ∨ X.s₀.heap.objs.size ≤ b) ∧ b ≠ X.env.locals ∧ (∀ x c, X.env.cells.lookup x = some c → c ≠ b) ∧ ∀ p ∈ X.pn ++ pins, p.1 ≠ b)
    (keep : ∀ b o, b ≠ X.env.locals → b ∉ X.fs → b ∉ ch → s.heap.get? b = some o → H b = none → h'.get? b = some o)
    (slot : ∀ b o, b ≠ X.env.locals → b ∈ X.fs → b ∉ ch → s.heap.get? b = some o → H b = none → ∃ sl, h'.get? b = some { o with slots := sl }) (free : ∀ b o, b ∉ ch → s.heap.get? b = some o → H b = none → H' b = none)
    (there : ∀ b o, b ∉ ch → s.heap.get? b = some o → ∃ o', h'.get? b = some o')
    (tups : ∀ b xs, H b = some (.tup xs) → H' b = some (.tup xs)) (frzs : ∀ b o u, H b = some (.frz o u) → H' b = some (.frz o u)) (tbls : ∀ b ps, H b = some (.tbl ps) → ∃ more, H' b = some (.tbl (ps ++ more)))
    (ns : ∀ m, s.heap.Ns X.env.locals m → h'.Ns X.env.locals m) (hok : HOk X.prog X.w H' h') (hg : AllBare g') :
    Inv X pins σ H' { s with heap := h', gens := g', drawn := d', toks := t' } := by
  have neL : ∀ b o, X.s₀.heap.get? b = some o → b ≠ X.env.locals := fun b o e => Nat.ne_of_lt (Nat.lt_of_lt_of_le (Heap.lt_size e) I.ok.above)
  have neC : ∀ b o, X.s₀.heap.get? b = some o → b ∉ X.ex → b ∉ ch := fun b o e hx hb => by
    rcases (hch b hb).1 with z | z
    · exact hx z
    · exact absurd (Nat.lt_of_lt_of_le (Heap.lt_size e) z) (Nat.lt_irrefl _)
  have cellK : ∀ x c, X.env.cells.lookup x = some c → ∀ v, s.heap.IsCell c v → h'.IsCell c v := fun x c e v ⟨o, ho, hd⟩ => by
    have nch : c ∉ ch := fun z => (hch c z).2.2.1 x c e rfl
    by_cases hc : c ∈ X.fs
    · obtain ⟨sl, q⟩ := slot c o (I.cne x c e) hc nch ho (I.freeC x c e)
      exact ⟨_, q, hd⟩
    · exact ⟨o, keep c o (I.cne x c e) hc nch ho (I.freeC x c e), hd⟩
  refine ⟨I.ok, I.os, hg, ⟨fun b o e n hb hx => ?_, fun b o e n hb hx => ?_, fun b o e n hx => ?_, fun b o e hx => ?_, fun b xs e => tups b xs (I.base.tups b xs e), fun b o xs e => frzs b o xs (I.base.frzs b o xs e), fun b ps e => ?_⟩, ?_, fun x c e => ?_, ?_, fun x c e => ?_, fun p hp => ?_, hok, I.len⟩
  · exact keep b o (neL b o e) hb (neC b o e hx) (I.base.keep b o e n hb hx) (I.base.free b o e n hx)
  · obtain ⟨sl, e1⟩ := I.base.slot b o e n hb hx
    obtain ⟨sl', e2⟩ := slot b _ (neL b o e) hb (neC b o e hx) e1 (I.base.free b o e n hx)
    exact ⟨sl', e2⟩
  · obtain ⟨o', e1⟩ := I.base.there b o e hx
    exact free b o' (neC b o e hx) e1 (I.base.free b o e n hx)
  · obtain ⟨o', e1⟩ := I.base.there b o e hx
    exact there b o' (neC b o e hx) e1
  · obtain ⟨m1, e1⟩ := I.base.tbls b ps e
    obtain ⟨m2, e2⟩ := tbls b _ e1
    exact ⟨m1 ++ m2, by rw [e2, Array.append_assoc]⟩
  · obtain ⟨m, hn, hl⟩ := I.loc
    refine ⟨m, ns m hn, fun i x v e1 e2 e3 => ?_⟩
    obtain ⟨u, r, l⟩ := hl i x v e1 e2 e3
    refine ⟨u, r, ?_⟩
    rcases l with l | ⟨k, c, e, z⟩
    · exact .inl l
    · exact .inr ⟨k, c, e, cellK x c e _ z⟩
  · obtain ⟨v, z⟩ := I.cell x c e
    exact ⟨v, cellK x c e v z⟩
  · obtain ⟨m, ⟨o, _, _, ho, _⟩, _⟩ := I.loc
    exact free _ o (fun z => (hch _ z).2.1 rfl) ho I.free
  · obtain ⟨v, o, ho, hd⟩ := I.cell x c e
    exact free c o (fun z => (hch c z).2.2.1 x c e rfl) ho (I.freeC x c e)
  · obtain ⟨e, n, ne, nf, d⟩ := I.pin p hp
    have nch : p.1 ∉ ch := fun z => (hch p.1 z).2.2.2 p hp rfl
    exact ⟨keep p.1 p.2 ne nf nch e n, free p.1 p.2 nch e n, ne, nf, d⟩
theorem Inv.un {t' : Nat} (I : Inv X pins σ H s) (u : Un X.fs [] H H' s.heap h') (hok : HOk X.prog X.w H' h') : Inv X pins σ H' { s with heap := h', toks := t' } := by
  obtain ⟨m, ⟨o, es, ep, ho, r⟩, _⟩ := id I.loc
  obtain ⟨sl, hL⟩ := u.any ho I.free (by simp)
  exact I.step (g' := s.gens) (d' := s.drawn) (ch := []) (fun _ z => nomatch z) (fun b o _ hb _ e n => u.keep b o e n hb (by simp)) (fun b o _ hb _ e n => u.slot b o e n hb (by simp)) (fun b o _ e n => u.free b o e n (by simp)) (fun b o _ e => u.there b o e (by simp)) u.tups u.frzs u.tbls (fun m' hm => by
    obtain ⟨o', es', ep', ho', r'⟩ := hm
    rw [ho] at ho'; cases ho'
    exact ⟨_, es', ep', hL, r'⟩) hok I.bare
theorem Inv.call {g' : Array GenState} {t' : Nat} {d' : Drawn} {ch : List Addr} (I : Inv X pins σ H s) (u : Un (frs X.stack) ch H H' s.heap h') (hok : HOk X.prog X.w H' h') (hg : AllBare g')
    (hch : ∀ b ∈ ch, (b ∈ X.ex ∨ X.s₀.heap.objs.size ≤ b) ∧ b ≠ X.env.locals ∧ (∀ x c, X.env.cells.lookup x = some c → c ≠ b) ∧ ∀ p ∈ X.pn ++ pins, p.1 ≠ b) :
    Inv X pins σ H' { s with heap := h', gens := g', drawn := d', toks := t' } := by
  obtain ⟨m, ⟨o, es, ep, ho, r⟩, _⟩ := id I.loc
  obtain ⟨sl, hL⟩ := u.any ho I.free fun z => (hch _ z).2.1 rfl
  exact I.step (ch := ch) hch (fun b o hL hb hc e n => u.keep b o e n (fun z => (List.mem_cons.mp (I.stkSub b z)).elim hL hb) hc) (fun b o _ _ hc e n => u.any e n hc) (fun b o hc e n => u.free b o e n hc) (fun b o hc e => u.there b o e hc) u.tups u.frzs u.tbls (fun m' hm => by
    obtain ⟨o', es', ep', ho', r'⟩ := hm
    rw [ho] at ho'; cases ho'
    exact ⟨_, es', ep', hL, r'⟩) hok hg
theorem Inv.turned {t' : Nat} {it : Addr} (I : Inv X pins σ H s) (k : ∀ b o, b ≠ it → s.heap.get? b = some o → h'.get? b = some o) (hn : H it = none) (hL : it ≠ X.env.locals)
    (h1 : it ∈ X.ex ∨ X.s₀.heap.objs.size ≤ it) (h2 : ∀ x c, X.env.cells.lookup x = some c → c ≠ it) (h3 : ∀ p ∈ X.pn ++ pins, p.1 ≠ it) : Inv X pins σ H { s with heap := h', toks := t' } := by
  have nit : ∀ b u, H b = some u → b ≠ it := fun b u e z => by rw [z, hn] at e; cases e
  refine I.step (g' := s.gens) (d' := s.drawn) (ch := [it]) (fun b hb => ?_) (fun b o _ _ hc e _ => k b o (fun z => hc (by simp [z])) e) (fun b o _ _ hc e _ => ⟨o.slots, k b o (fun z => hc (by simp [z])) e⟩) (fun _ _ _ _ n => n)
    (fun b o hc e => ⟨o, k b o (fun z => hc (by simp [z])) e⟩) (fun _ _ e => e) (fun _ _ _ e => e) (fun b ps e => ⟨#[], by rw [e]; simp⟩) (fun m hm => ?_) (fun b u e => ?_) I.bare
  · have e : b = it := by simpa using hb
    subst e
    exact ⟨h1, hL, h2, h3⟩
  · obtain ⟨o, es, ep, ho, r⟩ := hm
    exact ⟨o, es, ep, k _ o (Ne.symm hL) ho, r⟩
  · refine (I.hok b u e).stay (fun c v hc q => k c v ?_ q) (fun _ q => q) fun _ _ q => q
    rcases hc with z | z
    · rw [z]; exact nit b u e
    · exact nit c _ z
theorem Inv.tok (I : Inv X pins σ H s) (t : Nat) : Inv X pins σ H { s with toks := t } := I.un (h' := s.heap) (t' := t) Un.refl I.hok
theorem Inv.kept {t' : Nat} (I : Inv X pins σ H s) (k : ∀ b u, s.heap.get? b = some u → h'.get? b = some u) : Inv X pins σ H { s with heap := h', toks := t' } := I.un (Un.kept k) (I.hok.kept k)
theorem Inv.laid {a : Addr} {o : HO} {t' : Nat} (I : Inv X pins σ H s) (k : ∀ b u, s.heap.get? b = some u → h'.get? b = some u) (hp : s.heap.objs.size ≤ a) (new : ObjOk X.prog X.w (upd H a o) h' a o) :
    Inv X pins σ (upd H a o) { s with heap := h', toks := t' } := I.un (Un.laid k hp (I.hok.fresh hp)) (I.hok.laid k hp new)
theorem Inv.write {x e : Addr} {o : HO} {t' : Nat} (I : Inv X pins σ H s) (mu : Mut (H x)) (he : e = x ∨ H e = some (.own x)) (k : ∀ b u, b ≠ e → s.heap.get? b = some u → h'.get? b = some u) (heo : ∃ u, h'.get? e = some u)
    (new : ObjOk X.prog X.w (upd H x o) h' x o) : Inv X pins σ (upd H x o) { s with heap := h', toks := t' } := I.un (Un.write mu he k heo) (I.hok.write mu he k heo new)
theorem Inv.weak {σ' : List (Option V)} (I : Inv X pins σ H s) (hl : σ'.length = σ.length) (w : ∀ (i : Nat) v, σ'[i]? = some (some v) → σ[i]? = some (some v)) : Inv X pins σ' H s :=
  ⟨I.ok, I.os, I.bare, I.base, let ⟨m, hn, hl'⟩ := I.loc; ⟨m, hn, fun i x v e1 e2 e3 => hl' i x v e1 (w i v e2) e3⟩, I.cell, I.free, I.freeC, I.pin, I.hok, hl.trans I.len⟩
theorem Inv.pins_of {pins' : List (Addr × Obj)} (I : Inv X pins σ H s) (h : ∀ p ∈ pins', s.heap.get? p.1 = some p.2 ∧ H p.1 = none ∧ p.1 ≠ X.env.locals ∧ p.1 ∉ X.fs ∧ ∀ v, p.2.data ≠ .cell v) : Inv X pins' σ H s :=
  ⟨I.ok, I.os, I.bare, I.base, I.loc, I.cell, I.free, I.freeC, fun p hp => (List.mem_append.mp hp).elim (fun z => I.pin p (List.mem_append_left _ z)) (h p), I.hok, I.len⟩
theorem nodup_ix {N : List Str} (hN : N.Nodup) {i j : Nat} {x : Str} (a : N[i]? = some x) (b : N[j]? = some x) : i = j := by
  obtain ⟨h1, e1⟩ := List.getElem?_eq_some_iff.mp a
  obtain ⟨h2, e2⟩ := List.getElem?_eq_some_iff.mp b
  exact (List.getElem_inj hN).mp (e1.trans e2.symm)
theorem store_ok2 {M : Model} {A : Around} {E : Value → Shared → Prop} {i : Nat} {x : Str} {v : V} {u : Value} {Q : Unit → Shared → Prop} (I : Inv X pins σ H s) (hN : X.N.Nodup) (hi : X.N[i]? = some x) (hx : Loc X.env.scope x) (r : RelV v u)
    (h : ∀ s', Inv X pins (σ.set i (some v)) H s' → (∃ a, Heap.SameBut a s.heap s'.heap ∧ (a = X.env.locals ∨ X.env.cells.lookup x = some a)) → Q () s') (hf : X.fn x = true ∨ X.env.scope.names.lookup x = some .local := by first | exact .inl rfl | exact .inr rfl | assumption) : wpAny M A (storeName X.env x u) Q E s := by
  obtain ⟨m, hn, hl⟩ := id I.loc
  have hcls : (X.env.scope.kind == .class || (X.env.scope.kind == .module && X.env.locals != X.env.globals)) = false := by rw [I.ok.kind]; rfl
  have hiσ : i < σ.length := by rw [I.len]; exact (List.getElem?_eq_some_iff.mp hi).1
  have cne := I.cne
  have tracked : ∀ {a : Addr} {h' : Heap}, (∃ o, s.heap.get? a = some o ∧ H a = none) → Heap.SameBut a s.heap h' → HOk X.prog X.w H h' := fun {a h'} ha hs b ob e => by
    obtain ⟨_, _, hfree⟩ := ha
    refine (I.hok b ob e).stay (fun c w' hc q => (hs.2 c ?_).trans q) (fun _ q => q) fun _ _ q => q
    rintro rfl
    rcases hc with rfl | hc
    · rw [hfree] at e; cases e
    · rw [hfree] at hc; cases hc
  rcases hx with hk | hk
  · refine wpAny_storeName_local hk hn (fun h' hn' hs => ?_) hcls
    obtain ⟨oL, _, _, hoL, _⟩ := id hn
    refine h _ ⟨I.ok, I.os, I.bare, ⟨fun b o e n hb hx => ?_, fun b o e n hb hx => ?_, I.base.free, fun b o e hx => ?_, I.base.tups, I.base.frzs, I.base.tbls⟩, ⟨_, hn', fun j y v' e1 e2 e3 => ?_⟩, fun y c e => ?_, I.free, I.freeC, fun p hp => ?_, tracked ⟨oL, hoL, I.free⟩ hs, by simpa using I.len⟩ ⟨_, hs, .inl rfl⟩
    · exact (hs.2 b (Nat.ne_of_lt (Nat.lt_of_lt_of_le (Heap.lt_size e) I.ok.above))).trans (I.base.keep b o e n hb hx)
    · obtain ⟨sl, e1⟩ := I.base.slot b o e n hb hx
      exact ⟨sl, (hs.2 b (Nat.ne_of_lt (Nat.lt_of_lt_of_le (Heap.lt_size e) I.ok.above))).trans e1⟩
    · obtain ⟨o', e1⟩ := I.base.there b o e hx
      exact ⟨o', (hs.2 b (Nat.ne_of_lt (Nat.lt_of_lt_of_le (Heap.lt_size e) I.ok.above))).trans e1⟩
    · by_cases hj : j = i
      · subst hj
        rw [hi] at e1; cases e1
        rw [List.getElem?_set_self hiσ] at e2
        cases e2
        exact ⟨u, r, .inl ⟨hk, by simp⟩⟩
      · rw [List.getElem?_set_ne (Ne.symm hj)] at e2
        obtain ⟨u', r', q⟩ := hl j y v' e1 e2 e3
        refine ⟨u', r', ?_⟩
        rcases q with ⟨k, e⟩ | ⟨k, c, e, z⟩
        · refine .inl ⟨k, ?_⟩
          have : y ≠ x := fun e => hj (nodup_ix hN e1 (e ▸ hi))
          simp [this, e]
        · exact .inr ⟨k, c, e, z.sameBut hs (cne y c e)⟩
    · obtain ⟨w', z⟩ := I.cell y c e
      exact ⟨w', z.sameBut hs (cne y c e)⟩
    · obtain ⟨e, n, ne, nf, d⟩ := I.pin p hp
      exact ⟨(hs.2 p.1 ne).trans e, n, ne, nf, d⟩
  · have hfn : X.fn x = true := by
      rcases hf with z | z
      · exact z
      · rw [z] at hk; cases hk
    obtain ⟨c, hc⟩ := I.ok.has x (.inl hk)
    obtain ⟨w', z⟩ := I.cell x c hc
    refine wpAny_storeName_cell I.ok.kind hk hc z (fun h' hc' hs => ?_)
    obtain ⟨oc, hoc, hocd⟩ := id z
    refine h { s with heap := h' } ⟨I.ok, I.os, I.bare, ⟨fun b o e n hb hx => ?_, fun b o e n hb hx => ?_, I.base.free, fun b o e hx => ?_, I.base.tups, I.base.frzs, I.base.tbls⟩, ⟨m, hn.sameBut hs (Ne.symm (cne x c hc)), fun j y v' e1 e2 e3 => ?_⟩, fun y c' e => ?_, I.free, I.freeC, fun p hp => ?_, tracked ⟨oc, hoc, I.freeC x c hc⟩ hs, by simpa using I.len⟩ ⟨c, hs, .inr hc⟩
    · exact (hs.2 b (Nat.ne_of_lt (Nat.lt_of_lt_of_le (Heap.lt_size e) (I.ok.cab x c hfn hc)))).trans (I.base.keep b o e n hb hx)
    · obtain ⟨sl, e1⟩ := I.base.slot b o e n hb hx
      exact ⟨sl, (hs.2 b (Nat.ne_of_lt (Nat.lt_of_lt_of_le (Heap.lt_size e) (I.ok.cab x c hfn hc)))).trans e1⟩
    · obtain ⟨o', e1⟩ := I.base.there b o e hx
      exact ⟨o', (hs.2 b (Nat.ne_of_lt (Nat.lt_of_lt_of_le (Heap.lt_size e) (I.ok.cab x c hfn hc)))).trans e1⟩
    · by_cases hj : j = i
      · subst hj
        rw [hi] at e1; cases e1
        rw [List.getElem?_set_self hiσ] at e2
        cases e2
        exact ⟨u, r, .inr ⟨.inl hk, c, hc, hc'⟩⟩
      · rw [List.getElem?_set_ne (Ne.symm hj)] at e2
        obtain ⟨u', r', q⟩ := hl j y v' e1 e2 e3
        refine ⟨u', r', ?_⟩
        rcases q with q | ⟨k, c', e, z'⟩
        · exact .inl q
        · refine .inr ⟨k, c', e, z'.sameBut hs ?_⟩
          rintro rfl
          exact hj (nodup_ix hN e1 (I.ok.inj _ _ _ e hc ▸ hi))
    · by_cases hcc : c' = c
      · subst hcc; exact ⟨_, hc'⟩
      · obtain ⟨w2, z2⟩ := I.cell y c' e
        exact ⟨w2, z2.sameBut hs hcc⟩
    · obtain ⟨e, n, ne, nf, d⟩ := I.pin p hp
      refine ⟨(hs.2 p.1 ?_).trans e, n, ne, nf, d⟩
      intro q
      rw [q, hoc] at e
      have q' : oc = p.2 := Option.some.inj e
      exact d w' (by rw [← q']; exact hocd)
theorem store_ok {M : Model} {A : Around} {E : Value → Shared → Prop} {i : Nat} {x : Str} {v : V} {u : Value} {Q : Unit → Shared → Prop} (I : Inv X pins σ H s) (hN : X.N.Nodup) (hi : X.N[i]? = some x) (hx : Loc X.env.scope x) (r : RelV v u)
    (h : ∀ s', Inv X pins (σ.set i (some v)) H s' → Q () s') (hf : X.fn x = true ∨ X.env.scope.names.lookup x = some .local := by first | exact .inl rfl | exact .inr rfl | assumption) : wpAny M A (storeName X.env x u) Q E s :=
  store_ok2 I hN hi hx r (fun s' I' _ => h s' I') hf
theorem Inv.call' {s' : Shared} {ch : List Addr} (I : Inv X pins σ H s) (ho : s'.os = s.os) (u : Un (frs X.stack) ch H H' s.heap s'.heap) (hok : HOk X.prog X.w H' s'.heap) (hg : AllBare s'.gens)
    (hch : ∀ b ∈ ch, (b ∈ X.ex ∨ X.s₀.heap.objs.size ≤ b) ∧ b ≠ X.env.locals ∧ (∀ x c, X.env.cells.lookup x = some c → c ≠ b) ∧ ∀ p ∈ X.pn ++ pins, p.1 ≠ b) : Inv X pins σ H' s' := by
  obtain ⟨h', g', d', t', o'⟩ := s'
  have e : o' = s.os := ho
  subst e
  exact I.call (g' := g') (t' := t') (d' := d') u hok hg hch
end
noncomputable abbrev XK := Value → Option Addr → Hp → Prop
noncomputable abbrev St := List (Option V)
noncomputable abbrev VK := V → Hp → Prop
noncomputable abbrev TE := St → Hp → VK → Prop
noncomputable abbrev TT := St → Hp → (Bool → Hp → Prop) → Prop
noncomputable abbrev TA := St → Hp → (List V → Hp → Prop) → Prop
structure Ends where
  nx : St → Hp → Prop
  rt : VK
  bk : St → Hp → Prop := fun _ _ => False
  ct : St → Hp → Prop := fun _ _ => False
noncomputable abbrev TS := Ends → St → Hp → Prop
noncomputable def EP (X : Cx) (pins : List (Addr × Obj)) (σ : St) (Q : VK) (u : Value) (s' : Shared) : Prop := ∃ v H', Inv X pins σ H' s' ∧ RelV v u ∧ Q v H'
noncomputable def TP (X : Cx) (pins : List (Addr × Obj)) (σ : St) (Q : Bool → Hp → Prop) (b : Bool) (s' : Shared) : Prop := ∃ H', Inv X pins σ H' s' ∧ Q b H'
noncomputable def AP (X : Cx) (pins : List (Addr × Obj)) (σ : St) (Q : List V → Hp → Prop) (us : List Value) (s' : Shared) : Prop := ∃ vs H', Inv X pins σ H' s' ∧ Vals vs us ∧ Q vs H'
noncomputable def SP (X : Cx) (pins : List (Addr × Obj)) (D : Ends) (f : Flow) (s' : Shared) : Prop :=
  match f with
  | .next => ∃ σ' H', Inv X pins σ' H' s' ∧ D.nx σ' H'
  | .brk => ∃ σ' H', Inv X pins σ' H' s' ∧ D.bk σ' H'
  | .cont => ∃ σ' H', Inv X pins σ' H' s' ∧ D.ct σ' H'
  | .ret u => ∃ v σ' H', Inv X pins σ' H' s' ∧ RelV v u ∧ D.rt v H'
noncomputable def PE (X : Cx) (e : Expr) (t : TE) : Prop :=
  ∀ (pins : List (Addr × Obj)) (s : Shared) (σ : St) (H : Hp) (Q : VK), Inv X pins σ H s → t σ H Q → wpAny (model X.prog X.w) X.A (eval e X.env) (EP X pins σ Q) X.xe s
noncomputable def PT (X : Cx) (e : Expr) (t : TT) : Prop :=
  ∀ (pins : List (Addr × Obj)) (s : Shared) (σ : St) (H : Hp) (Q : Bool → Hp → Prop), Inv X pins σ H s → t σ H Q → wpAny (model X.prog X.w) X.A (isTrue e X.env (eval e X.env)) (TP X pins σ Q) X.xe s
noncomputable def PW (X : Cx) (e : Expr) (t : TT) : Prop :=
  ∀ (whole : Sem Value) (pins : List (Addr × Obj)) (s : Shared) (σ : St) (H : Hp) (Q : Bool → Hp → Prop), Inv X pins σ H s → t σ H Q → wpAny (model X.prog X.w) X.A (isTrue e X.env whole) (TP X pins σ Q) X.xe s
theorem PW.pt {X : Cx} {e : Expr} {t : TT} (h : PW X e t) : PT X e t := h _
noncomputable def PA (X : Cx) (es : List Expr) (t : TA) : Prop :=
  ∀ (pos : Pos) (pins : List (Addr × Obj)) (s : Shared) (σ : St) (H : Hp) (Q : List V → Hp → Prop), Inv X pins σ H s → t σ H Q → wpAny (model X.prog X.w) X.A (spliced (backTo pos (starEach es X.env))) (AP X pins σ Q) X.xe s
noncomputable def PS (X : Cx) (st : Stmt) (t : TS) : Prop :=
  ∀ (pins : List (Addr × Obj)) (s : Shared) (σ : St) (H : Hp) (D : Ends), Inv X pins σ H s → t D σ H → wpAny (model X.prog X.w) X.A (exec st X.env) (SP X pins D) X.xe s
noncomputable def PSs (X : Cx) (st : List Stmt) (t : TS) : Prop :=
  ∀ (pins : List (Addr × Obj)) (s : Shared) (σ : St) (H : Hp) (D : Ends), Inv X pins σ H s → t D σ H → wpAny (model X.prog X.w) X.A (execs st X.env) (SP X pins D) X.xe s
theorem thn {α : Type} {t : Sem α} {Q Q' : α → Shared → Prop} {M : Model} {A : Around} {E : Value → Shared → Prop} {s : Shared} (h : wpAny M A t Q E s) (hQ : ∀ a s, Q a s → Q' a s) : wpAny M A t Q' E s := wpAny_mono h hQ fun _ _ x => x
end L2
namespace L2
open PySem PySem.Spec PyProof.Rows
section
variable {X : Cx}
inductive tVar (i : Nat) (σ : St) (H : Hp) (Q : VK) : Prop
  | mk (v : V) (e : σ[i]? = some (some v)) (q : Q v H) : tVar i σ H Q
noncomputable def tC (v : V) : TE := fun _ H Q => Q v H
theorem pe_var {i : Nat} {x : Str} {pos : Pos} (hN : X.N[i]? = some x) (hv : Vis X.env.scope x) (hd : (x == ("__debug__" : Str)) = false := by decide) (hcd : (x == ("__classdict__" : Str)) = false := by decide) : PE X (.Name x pos) (tVar i) := by
  intro pins s σ H Q I h
  obtain ⟨v, e, h⟩ := h
  obtain ⟨m, hn, hl⟩ := I.loc
  obtain ⟨u, r, l⟩ := hl i x v hN e hv
  have fin : EP X pins σ Q u s := ⟨v, H, I, r, h⟩
  rcases l with ⟨hk, hm⟩ | ⟨hk, c, hc, hcell⟩
  · exact wpAny_Name (wpAny_loadName_local I.ok.kind hk hn hm fin) hd
  · rcases hk with hk | hk
    · exact wpAny_Name (wpAny_loadName_cell I.ok.kind hk hc hcell fin) hd
    · exact wpAny_Name (wpAny_loadName_free I.ok.kind hk hc hcell fin hcd) hd
theorem pe_int {i j pos} : PE X (.Constant (.int i) j pos) (tC (.int i)) := fun _ _ _ H _ I h => wpAny_Constant_int ⟨.int i, H, I.tok _, ⟨_, rfl⟩, h⟩
theorem pe_bl {b j pos} : PE X (.Constant (.bool b) j pos) (tC (.bl b)) := fun _ _ _ H _ I h => Constant_bool ⟨.bl b, H, I, rfl, h⟩
theorem pe_non {j pos} : PE X (.Constant .none j pos) (tC .non) := fun _ _ _ H _ I h => Constant_none ⟨.non, H, I, rfl, h⟩
theorem pe_str {x j pos} : PE X (.Constant (.str x) j pos) (tC (.str x)) := fun _ _ _ H _ I h => Calls.Constant_str ⟨.str x, H, I.tok _, ⟨_, rfl⟩, h⟩
noncomputable def Gl (X : Cx) (x : Str) : Prop := X.env.kindOf x = some .globalImplicit
theorem ld_glob {E : Value → Shared → Prop} {pins : List (Addr × Obj)} {s : Shared} {σ : St} {H : Hp} {x : Str} {u : Value} {pos : Pos} {Q : Value → Shared → Prop} (I : Inv X pins σ H s) (hg : Gl X x) (hm : X.mg x = some u) (h : Q u s)
    (hd : (x == ("__debug__" : Str)) = false := by decide) : wpAny (model X.prog X.w) X.A (eval (.Name x pos) X.env) Q E s :=
  Calls.Name_function_global I.ok.kind hg (Calls.loadGlobal_global (by rw [I.ok.glob]; exact I.mod.glob.keeps I.bk) hm h) hd
theorem ld_blt {E : Value → Shared → Prop} {pins : List (Addr × Obj)} {s : Shared} {σ : St} {H : Hp} {x : Str} {u : Value} {pos : Pos} {Q : Value → Shared → Prop} (I : Inv X pins σ H s) (hg : Gl X x) (hm : X.mg x = none) (hv : bootBuiltins x = some u) (h : Q u s)
    (hn : x ≠ "__name__" := by decide) (hd : (x == ("__debug__" : Str)) = false := by decide) : wpAny (model X.prog X.w) X.A (eval (.Name x pos) X.env) Q E s := by
  obtain ⟨mb, h1, h2⟩ := I.mod.blt
  exact Calls.Name_function_global I.ok.kind hg (Calls.loadGlobal_builtin (by rw [I.ok.glob]; exact I.mod.glob.keeps I.bk) hm (by rw [I.ok.blt]; exact h1.keeps I.bk) ((h2 x hn).trans hv) h) hd
theorem pe_glob {x : Str} {v : V} {u : Value} {pos : Pos} (hg : Gl X x) (hm : X.mg x = some u) (r : RelV v u) (hd : (x == ("__debug__" : Str)) = false := by decide) : PE X (.Name x pos) (tC v) :=
  fun _ _ _ H _ I h => ld_glob I hg hm ⟨v, H, I, r, h⟩ hd
theorem pe_bltn {x : Str} {v : V} {u : Value} {pos : Pos} (hg : Gl X x) (hm : X.mg x = none) (hv : bootBuiltins x = some u) (r : RelV v u) (hn : x ≠ "__name__" := by decide) (hd : (x == ("__debug__" : Str)) = false := by decide) : PE X (.Name x pos) (tC v) :=
  fun _ _ _ H _ I h => ld_blt I hg hm hv ⟨v, H, I, r, h⟩ hn hd
variable {a b : Expr} {ta tb : TE} {pos : Pos}
inductive isBl (Q : Bool → Hp → Prop) (x : V) (H : Hp) : Prop
  | mk (c : Bool) (e : x = .bl c) (q : Q c H) : isBl Q x H
noncomputable def tB (t : TE) : TT := fun σ H Q => t σ H (isBl Q)
theorem pt_val {e : Expr} {t : TE} (h : PE X e t) (he : ∀ whole, isTrue e X.env whole = (do let v ← whole; standAt e.pos; holding [v] (truthy v)) := by intro _; rfl) : PT X e (tB t) := by
  intro pins s σ H Q I hw
  refine isTrue_plain (thn (h pins s σ H _ I hw) fun v s1 ⟨x, H1, I1, r1, q1⟩ => ?_) (he _)
  obtain ⟨d, rfl, q⟩ := q1
  cases r1
  exact wpAny_truthy_bool ⟨H1, I1, q⟩
variable {tA tB' : TT} {rest : List Expr}
noncomputable def tAnd (t u : TT) : TT := fun σ H Q => t σ H fun c H1 => if c = true then u σ H1 Q else Q false H1
noncomputable def tOr (t u : TT) : TT := fun σ H Q => t σ H fun c H1 => if c = true then Q true H1 else u σ H1 Q
noncomputable def tNot (t : TT) : TT := fun σ H Q => t σ H fun c H1 => Q (!c) H1
theorem pw_and1 (ha : PT X a tA) : PW X (.BoolOp .And [a] pos) tA := by
  intro wh pins s σ H Q I h
  refine isTrue_and (thn (ha pins s σ H Q I h) fun c s1 e => ?_)
  cases c with
  | true => exact isTrue_and_nil e
  | false => exact e
theorem pw_or1 (ha : PT X a tA) : PW X (.BoolOp .Or [a] pos) tA := by
  intro wh pins s σ H Q I h
  refine isTrue_or (thn (ha pins s σ H Q I h) fun c s1 e => ?_)
  cases c with
  | false => exact isTrue_or_nil e
  | true => exact e
theorem pw_and (ha : PT X a tA) (hb : PW X (.BoolOp .And (b :: rest) pos) tB') : PW X (.BoolOp .And (a :: b :: rest) pos) (tAnd tA tB') := by
  intro wh pins s σ H Q I h
  refine isTrue_and (thn (ha pins s σ H _ I h) fun c s1 ⟨H1, I1, q1⟩ => ?_)
  cases c with
  | true => exact hb wh pins s1 σ H1 Q I1 q1
  | false => exact ⟨H1, I1, q1⟩
theorem pw_or (ha : PT X a tA) (hb : PW X (.BoolOp .Or (b :: rest) pos) tB') : PW X (.BoolOp .Or (a :: b :: rest) pos) (tOr tA tB') := by
  intro wh pins s σ H Q I h
  refine isTrue_or (thn (ha pins s σ H _ I h) fun c s1 ⟨H1, I1, q1⟩ => ?_)
  cases c with
  | true => exact ⟨H1, I1, q1⟩
  | false => exact hb wh pins s1 σ H1 Q I1 q1
theorem pt_not (ha : PT X a tA) : PT X (.UnaryOp .Not a pos) (tNot tA) := by
  intro pins s σ H Q I h
  exact isTrue_not (ha pins s σ H (fun c H1 => Q (!c) H1) I h)
noncomputable def tAndV (ta tb : TE) : TE := fun σ H Q => ta σ H fun x H1 => ∃ c, x = .bl c ∧ if c = true then tb σ H1 Q else Q (.bl false) H1
noncomputable def tOrV (ta tb : TE) : TE := fun σ H Q => ta σ H fun x H1 => ∃ c, x = .bl c ∧ if c = true then Q (.bl true) H1 else tb σ H1 Q
noncomputable def tNotV (ta : TE) : TE := fun σ H Q => ta σ H fun x H1 => ∃ c, x = .bl c ∧ Q (.bl (!c)) H1
theorem pe_one {op} {t : TE} (h : PE X a t) : PE X (.BoolOp op [a] pos) t := fun pins s σ H Q I hw => BoolOp_one (h pins s σ H Q I hw)
theorem pe_and (ha : PE X a ta) (hb : PE X (.BoolOp .And (b :: rest) pos) tb) : PE X (.BoolOp .And (a :: b :: rest) pos) (tAndV ta tb) := by
  intro pins s σ H Q I h
  refine BoolOp_and (thn (ha pins s σ H _ I h) fun v s1 ⟨x, H1, I1, r1, q1⟩ => ?_)
  obtain ⟨c, rfl, q1⟩ := q1
  cases r1
  refine wpAny_truthy_bool ?_
  cases c with
  | true => exact hb pins s1 σ H1 Q I1 q1
  | false => exact ⟨.bl false, H1, I1, rfl, q1⟩
theorem pe_or (ha : PE X a ta) (hb : PE X (.BoolOp .Or (b :: rest) pos) tb) : PE X (.BoolOp .Or (a :: b :: rest) pos) (tOrV ta tb) := by
  intro pins s σ H Q I h
  refine BoolOp_or (thn (ha pins s σ H _ I h) fun v s1 ⟨x, H1, I1, r1, q1⟩ => ?_)
  obtain ⟨c, rfl, q1⟩ := q1
  cases r1
  refine wpAny_truthy_bool ?_
  cases c with
  | false => exact hb pins s1 σ H1 Q I1 q1
  | true => exact ⟨.bl true, H1, I1, rfl, q1⟩
theorem pe_not (ha : PE X a ta) : PE X (.UnaryOp .Not a pos) (tNotV ta) := by
  intro pins s σ H Q I h
  refine UnaryOp_ (thn (ha pins s σ H _ I h) fun v s1 ⟨x, H1, I1, r1, q1⟩ => ?_)
  obtain ⟨c, rfl, q1⟩ := q1
  cases r1
  exact not_of (wpAny_truthy_bool ⟨.bl (!c), H1, I1, rfl, q1⟩)
end
end L2
namespace L2
open PySem PySem.Spec PyProof.Rows
noncomputable def SqL (K : PySem.W.Frag) (H : Hp) (a : Addr) (xs : List V) : Prop :=
  Rd H a (.lst xs) ∨
    ∃ (o : Obj) (its : Array Value) (n : Nat), K.lookup a = some o ∧ o.cls = .type "list" ∧ o.dict = none ∧ o.data = .seq its n ∧ its.size ≤ sizeLine ∧ Vals xs its.toList
noncomputable def SqT (K : PySem.W.Frag) (H : Hp) (a : Addr) (xs : List V) : Prop :=
  Rd H a (.tup xs) ∨
    ∃ (o : Obj) (its : Array Value) (n : Nat), K.lookup a = some o ∧ o.cls = .type "tuple" ∧ o.data = .seq its n ∧ its.size ≤ sizeLine ∧ Vals xs its.toList
noncomputable def absV : Value → Option V
  | .none => some .non
  | .bool b => some (.bl b)
  | .int i _ => some (.int i)
  | .str x _ => some (.str x)
  | .bytes b _ => some (.byt b)
  | .float b _ => some (.flt b)
  | .ref a => some (.ref a)
  | .type n => some (.ty n)
  | _ => none
theorem RelV.abs {x : V} {u : Value} (r : RelV x u) : absV u = some x := by
  cases x with
  | non => cases r; rfl
  | bl _ => cases r; rfl
  | int _ => obtain ⟨t, rfl⟩ := r; rfl
  | str _ => obtain ⟨t, rfl⟩ := r; rfl
  | byt _ => obtain ⟨t, rfl⟩ := r; rfl
  | flt _ => obtain ⟨t, rfl⟩ := r; rfl
  | ref _ => cases r; rfl
  | ty _ => cases r; rfl
theorem RelV.inj {x y : V} {u : Value} (r : RelV x u) (q : RelV y u) : x = y := Option.some.inj (r.abs.symm.trans q.abs)
theorem Vals.inj {xs ys : List V} {us : List Value} (h : Vals xs us) (h' : Vals ys us) : xs = ys := by
  induction h generalizing ys with
  | nil => cases h'; rfl
  | cons r t ih => cases h' with | cons r' t' => rw [r.inj r', ih t']
section
variable {X : Cx} {pins : List (Addr × Obj)} {σ : St} {H : Hp} {s : Shared} {a : Addr} {xs ys : List V}
theorem SqL.of {K : PySem.W.Frag} (h : H a = some (.lst xs)) : SqL K H a xs := .inl (.inl h)
theorem SqT.of {K : PySem.W.Frag} (h : H a = some (.tup xs)) : SqT K H a xs := .inl (.inl h)
theorem Inv.list (I : Inv X pins σ H s) (h : SqL X.K H a xs) : ∃ its : List Value, Vals xs its ∧ PlainL s.heap a its.toArray ∧ xs.length ≤ sizeLine := by
  rcases h with h | ⟨o, its, n, hk, hc, hd, hs, hz, r⟩
  · obtain ⟨z, its, n, r, e⟩ := h.ok I.hok
    exact ⟨its, r, ⟨_, n, e, rfl, rfl, rfl⟩, z⟩
  · refine ⟨its.toList, r, ⟨o, n, I.kIn a o hk, hc, hd, by simpa using hs⟩, ?_⟩
    have e := r.length
    simp only [Array.length_toList] at e
    omega
theorem Inv.tuple (I : Inv X pins σ H s) (h : SqT X.K H a xs) : ∃ its : List Value, Vals xs its ∧ IsTup s.heap a its.toArray ∧ xs.length ≤ sizeLine := by
  rcases h with h | ⟨o, its, n, hk, hc, hs, hz, r⟩
  · obtain ⟨z, its, r, p⟩ := h.ok I.hok
    exact ⟨its, r, p, z⟩
  · refine ⟨its.toList, r, ⟨o, I.kIn a o hk, hc, n, by simpa using hs⟩, ?_⟩
    have e := r.length
    simp only [Array.length_toList] at e
    omega
theorem Inv.list_inj (I : Inv X pins σ H s) (h : SqL X.K H a xs) (h' : SqL X.K H a ys) : xs = ys := by
  obtain ⟨its, r, ⟨o, n, e, _, _, d⟩, _⟩ := I.list h
  obtain ⟨its', r', ⟨o', n', e', _, _, d'⟩, _⟩ := I.list h'
  rw [e] at e'; cases e'
  rw [d] at d'
  injection d' with d1 _
  have : its = its' := by simpa using congrArg Array.toList d1
  subst this
  exact r.inj r'
theorem Inv.tuple_inj (I : Inv X pins σ H s) (h : SqT X.K H a xs) (h' : SqT X.K H a ys) : xs = ys := by
  obtain ⟨its, r, ⟨o, e, _, n, d⟩, _⟩ := I.tuple h
  obtain ⟨its', r', ⟨o', e', _, n', d'⟩, _⟩ := I.tuple h'
  rw [e] at e'; cases e'
  rw [d] at d'
  injection d' with d1 _
  have : its = its' := by simpa using congrArg Array.toList d1
  subst this
  exact r.inj r'
end
noncomputable abbrev Cx.wish (X : Cx) (E : Value → Shared → Prop) : Cx := { X with xe := E }
noncomputable abbrev Cx.nox (X : Cx) : Cx := X.wish fun _ _ => False
theorem Cx.Ok.wish {X : Cx} (ok : X.Ok) (E : Value → Shared → Prop) : (X.wish E).Ok :=
  ⟨ok.mod, ok.kind, ok.glob, ok.blt, ok.above, ok.inj, ok.has, ok.cab, ok.hd, ok.frames, ok.stk, ok.exf, ok.bs, ok.bsz, ok.noex, ok.exfs, ok.funs, ok.frf⟩
theorem Cx.Ok.unwish {X : Cx} {E : Value → Shared → Prop} (ok : (X.wish E).Ok) : X.Ok :=
  ⟨ok.mod, ok.kind, ok.glob, ok.blt, ok.above, ok.inj, ok.has, ok.cab, ok.hd, ok.frames, ok.stk, ok.exf, ok.bs, ok.bsz, ok.noex, ok.exfs, ok.funs, ok.frf⟩
section
variable {X : Cx} {pins : List (Addr × Obj)} {σ : St} {H : Hp} {s : Shared} {E : Value → Shared → Prop}
theorem Inv.wish (I : Inv X pins σ H s) (E : Value → Shared → Prop) : Inv (X.wish E) pins σ H s := ⟨I.ok.wish E, I.os, I.bare, I.base, I.loc, I.cell, I.free, I.freeC, I.pin, I.hok, I.len⟩
theorem Inv.unwish (I : Inv (X.wish E) pins σ H s) : Inv X pins σ H s := ⟨I.ok.unwish, I.os, I.bare, I.base, I.loc, I.cell, I.free, I.freeC, I.pin, I.hok, I.len⟩
theorem SP.unwish {D : Ends} {f : Flow} {s' : Shared} (h : SP (X.wish E) pins D f s') : SP X pins D f s' := by
  cases f with
  | next => obtain ⟨σ', H', I, q⟩ := h; exact ⟨σ', H', I.unwish, q⟩
  | brk => obtain ⟨σ', H', I, q⟩ := h; exact ⟨σ', H', I.unwish, q⟩
  | cont => obtain ⟨σ', H', I, q⟩ := h; exact ⟨σ', H', I.unwish, q⟩
  | ret u => obtain ⟨v, σ', H', I, r, q⟩ := h; exact ⟨v, σ', H', I.unwish, r, q⟩
end
section
variable {X : Cx} {st : Stmt} {rest : List Stmt} {t u : TS} {e : Expr} {te : TE} {pos : Pos}
noncomputable def tNext : TS := fun D σ H => D.nx σ H
noncomputable def tSeq (t u : TS) : TS := fun D σ H => t { D with nx := u D } σ H
theorem pss_nil : PSs X [] tNext := fun _ _ σ H _ I h => wpAny_execs_nil ⟨σ, H, I, h⟩
theorem pss_cons (h1 : PS X st t) (h2 : PSs X rest u) : PSs X (st :: rest) (tSeq t u) := by
  intro pins s σ H D I h
  refine wpAny_execs_cons (thn (h1 pins s σ H { D with nx := u D } I h) fun f s1 q => ?_)
  cases f with
  | next =>
    obtain ⟨σ', H', I', q⟩ := q
    exact h2 pins s1 σ' H' D I' q
  | ret v => exact q
  | brk => exact q
  | cont => exact q
theorem pss_one (h1 : PS X st t) : PSs X [st] t := by
  intro pins s σ H D I h
  refine wpAny_execs_cons (thn (h1 pins s σ H D I h) fun f s1 q => ?_)
  cases f with
  | next => exact wpAny_execs_nil q
  | ret v => exact q
  | brk => exact q
  | cont => exact q
theorem Inv.quiet {pins : List (Addr × Obj)} {σ : St} {H : Hp} {s : Shared} (I : Inv X pins σ H s) : interactive X.env = false := by simp [interactive, I.ok.kind]
noncomputable def tDrop (te : TE) : TS := fun D σ H => te σ H fun _ H1 => D.nx σ H1
theorem ps_expr (he : PE X e te) (hs : swapsWith e none pos.line X.env = pure false := by rfl) : PS X (.Expr e pos) (tDrop te) := by
  intro pins s σ H D I h
  exact wpAny_Expr_any (thn (he pins s σ H _ I h) fun v s1 ⟨x, H1, I1, r1, q1⟩ => ⟨σ, H1, I1, q1⟩) I.quiet hs
noncomputable def tRet (te : TE) : TS := fun D σ H => te σ H D.rt
theorem ps_ret (he : PE X e te) : PS X (.Return (some e) pos) (tRet te) := by
  intro pins s σ H D I h
  exact wpAny_Return_some (thn (he pins s σ H _ I h) fun v s1 ⟨x, H1, I1, r1, q1⟩ => ⟨x, σ, H1, I1, r1, q1⟩)
noncomputable def tIfS (c : TT) (t u : TS) : TS := fun D σ H => c σ H fun b H1 => if b = true then t D σ H1 else u D σ H1
theorem ps_if {c : Expr} {a b : List Stmt} {tc : TT} (hc : PT X c tc) (ha : PSs X a t) (hb : PSs X b u) : PS X (.If c a b pos) (tIfS tc t u) := by
  intro pins s σ H D I h
  refine wpAny_If (thn (hc pins s σ H _ I h) fun d s1 ⟨H1, I1, q1⟩ => ?_)
  cases d with
  | true => exact ha pins s1 σ H1 D I1 q1
  | false => exact hb pins s1 σ H1 D I1 q1
end
noncomputable abbrev TG := V → St → Hp → (St → Hp → Prop) → Prop
noncomputable abbrev TGs := List V → St → Hp → (St → Hp → Prop) → Prop
noncomputable def PG (X : Cx) (target : Expr) (t : TG) : Prop :=
  ∀ (pins : List (Addr × Obj)) (s : Shared) (σ : St) (H : Hp) (v : V) (u : Value) (Q : St → Hp → Prop), Inv X pins σ H s → RelV v u → t v σ H Q →
    wpAny (model X.prog X.w) X.A (assign target X.env u) (fun _ s' => ∃ σ' H', Inv X pins σ' H' s' ∧ Q σ' H') X.xe s
noncomputable def PGs (X : Cx) (ts : List Expr) (t : TGs) : Prop :=
  ∀ (pins : List (Addr × Obj)) (s : Shared) (σ : St) (H : Hp) (vs : List V) (us : List Value) (Q : St → Hp → Prop), Inv X pins σ H s → Vals vs us → t vs σ H Q →
    wpAny (model X.prog X.w) X.A (assignInOrder ((assignEach ts X.env).map (·.2)) us) (fun _ s' => ∃ σ' H', Inv X pins σ' H' s' ∧ Q σ' H') X.xe s
section
variable {X : Cx} {pos : Pos}
noncomputable def gName (i : Nat) : TG := fun v σ H Q => Q (σ.set i (some v)) H
theorem pg_name {i : Nat} {x : Str} (hN : X.N.Nodup) (hi : X.N[i]? = some x) (hx : Loc X.env.scope x) (hf : X.fn x = true ∨ X.env.scope.names.lookup x = some .local := by first | exact .inl rfl | exact .inr rfl | assumption) : PG X (.Name x pos) (gName i) := by
  intro pins s σ H v u Q I r h
  exact wpAny_assign_Name (store_ok I hN hi hx r (fun s' I' => ⟨_, H, I', h⟩) hf)
noncomputable def gNil : TGs := fun vs σ H Q => vs = [] ∧ Q σ H
noncomputable def gCons (t : TG) (u : TGs) : TGs := fun vs σ H Q => ∃ v r, vs = v :: r ∧ t v σ H fun σ' H' => u r σ' H' Q
theorem pgs_nil : PGs X [] gNil := by
  intro pins s σ H vs us Q I r h
  obtain ⟨e, h⟩ := h
  subst e
  cases r
  exact assignInOrder_nil ⟨σ, H, I, h⟩
theorem pgs_cons {e : Expr} {es : List Expr} {t : TG} {u : TGs} (h1 : PG X e t) (h2 : PGs X es u)
    (hs : (assignEach (e :: es) X.env).map (·.2) = assign e X.env :: (assignEach es X.env).map (·.2) := by rfl) : PGs X (e :: es) (gCons t u) := by
  intro pins s σ H vs us Q I r h
  obtain ⟨v, vr, e1, h⟩ := h
  subst e1
  cases r with
  | cons r rr =>
    rw [hs]
    refine assignInOrder_cons (thn (h1 pins s σ H _ _ _ I r h) fun _ s1 ⟨σ1, H1, I1, q1⟩ => ?_)
    exact h2 pins s1 σ1 H1 _ _ Q I1 rr q1
noncomputable def gTup (K : PySem.W.Frag) (n : Nat) (t : TGs) : TG := fun v σ H Q => ∃ a xs, v = .ref a ∧ SqT K H a xs ∧ xs.length = n ∧ t xs σ H Q
theorem pg_tup {es : List Expr} {k : Nat} {t : TGs} {n : Nat} (hc : X.calm = true) (h : PGs X es t)
    (hn : (assignEach es X.env).length = n := by rfl) (hst : (assignEach es X.env).findIdx? (·.1) = none := by rfl) : PG X (.Tuple es k pos) (gTup X.K n t) := by
  intro pins s σ H v u Q I r hw
  obtain ⟨a, xs, e1, hq, hl, hw⟩ := hw
  subst e1
  cases r
  obtain ⟨its, rv, ht, hz⟩ := I.tuple hq
  refine assign_Tuple_tuple (I.ok.hd hc) ht (by simp [hn, ← hl, rv.length]) hst fun h' hx => ?_
  have I1 : Inv X pins σ H { s with heap := h' } := I.kept (t' := s.toks) fun b o e => hx b o (Nat.ne_of_lt (Heap.lt_size e)) e
  exact h pins _ σ H xs _ Q I1 (by simpa using rv) hw
noncomputable def tAsg (te : TE) (g : TG) : TS := fun D σ H => te σ H fun x H1 => g x σ H1 D.nx
theorem ps_asg {tg e : Expr} {te : TE} {g : TG} (he : PE X e te) (hg : PG X tg g) (hs : swapsWithSole [tg] e pos.line X.env = pure false := by rfl) (hw : swappedStores [tg] e X.env = pure none := by rfl)
    (h1 : (assignEach [tg] X.env).map (·.2) = [assign tg X.env] := by rfl) : PS X (.Assign [tg] e pos) (tAsg te g) := by
  intro pins s σ H D I h
  refine wpAny_Assign_stores (thn (he pins s σ H _ I h) fun v s1 ⟨x, H1, I1, r1, q1⟩ => ?_) hs hw
  rw [h1]
  exact thn (hg pins s1 σ H1 x v _ I1 r1 q1) fun _ s2 q => q
theorem ps_set {i : Nat} {x : Str} {e : Expr} {te : TE} {pos' : Pos} (hN : X.N.Nodup) (hi : X.N[i]? = some x) (hx : Loc X.env.scope x) (he : PE X e te) (hs : swapsWith e (some (.Name x pos')) pos.line X.env = pure false := by rfl) (hf : X.fn x = true ∨ X.env.scope.names.lookup x = some .local := by first | exact .inl rfl | exact .inr rfl | assumption) :
    PS X (.Assign [.Name x pos'] e pos) (tAsg te (gName i)) := by
  intro pins s σ H D I h
  refine wpAny_Assign_Name (thn (he pins s σ H _ I h) fun v s1 ⟨y, H1, I1, r1, q1⟩ => ?_) hs
  exact store_ok I1 hN hi hx r1 (fun s2 I2 => ⟨_, H1, I2, q1⟩) hf
noncomputable def tPar (i j : Nat) (ta : TA) : TS := fun D σ H => ta σ H fun vs H1 => ∃ v w, vs = [v, w] ∧ D.nx ((σ.set i (some v)).set j (some w)) H1
theorem ps_par {i j : Nat} {x y : Str} {a b : Expr} {ta : TA} {px py pt : Pos} {kt k2 pt2} (hc : X.calm = true) (hN : X.N.Nodup) (hi : X.N[i]? = some x) (hj : X.N[j]? = some y) (hij : i ≠ j)
    (hx : X.env.scope.names.lookup x = some .local) (hy : X.env.scope.names.lookup y = some .local) (ha : PA X [a, b] ta)
    (hw : swappedStores [.Tuple [.Name x px, .Name y py] kt pt] (.Tuple [a, b] k2 pt2) X.env = pure (some [x, y]))
    (hs : swapsWithSole [.Tuple [.Name x px, .Name y py] kt pt] (.Tuple [a, b] k2 pt2) pos.line X.env = pure false := by rfl) :
    PS X (.Assign [.Tuple [.Name x px, .Name y py] kt pt] (.Tuple [a, b] k2 pt2) pos) (tPar i j ta) := by
  intro pins s σ H D I h
  rw [exec_Assign_arm]
  refine wpAny_bind (wpAny_standAt ?_)
  rw [hs]
  refine wpAny_bind (wpAny_pure ?_)
  rw [if_neg (by decide)]
  refine wpAny_bind (Tuple_ (thn (ha _ pins s σ H _ I h) fun us s1 ⟨vs, H1, I1, r1, q1⟩ => ?_))
  obtain ⟨v, w, e1, q1⟩ := q1
  subst e1
  obtain ⟨u1, u2, rfl, rv, rw'⟩ : ∃ u1 u2, us = [u1, u2] ∧ RelV v u1 ∧ RelV w u2 := by
    cases r1 with
    | cons p q =>
      cases q with
      | cons p' q' =>
        cases q'
        exact ⟨_, _, rfl, p, p'⟩
  refine wpAny_newObj_type ?_ (by show 2 ≤ sizeLine; decide)
  have I2 : Inv X pins σ H1 { s1 with heap := s1.heap.push { cls := .type "tuple", data := .seq [u1, u2].toArray } } := I1.kept (t' := s1.toks) fun b o e => Heap.get?_push_of_some _ e
  rw [hw]
  refine wpAny_bind (wpAny_pure ?_)
  show wpAny (model X.prog X.w) X.A (do rule "assign.swapped-stores"; let items ← unpackItems (.ref s1.heap.objs.size) 2 none; assignInOrder [fun v => bindName X.env y v, fun v => bindName X.env x v] items.reverse; pure Flow.next) _ _ _
  refine wpAny_bind (wpAny_rule (wpAny_bind (unpackItems_tuple (items := #[u1, u2]) (I.ok.hd hc) (IsTup.new s1.heap _) fun h' hx' => ?_)))
  have I3 := I2.kept (h' := h') (t' := s1.toks) fun b o e => hx' b o (Nat.ne_of_lt (Heap.lt_size e)) e
  show wpAny _ _ (assignInOrder [fun v => bindName X.env y v, fun v => bindName X.env x v] [u2, u1] >>= fun _ => pure Flow.next) _ _ _
  refine wpAny_bind (assignInOrder_cons (wpAny_bindName (store_ok I3 hN hj (.inl hy) rw' (fun s2 I4 => ?_) (.inr hy))))
  refine assignInOrder_cons (wpAny_bindName (store_ok I4 hN hi (.inl hx) rv (fun s3 I5 => assignInOrder_nil (wpAny_pure ?_)) (.inr hx)))
  rw [List.set_comm _ _ (Ne.symm hij)] at I5
  exact ⟨_, H1, I5, q1⟩
end
section
variable {X : Cx} {pos : Pos}
inductive tWhile (c : TT) (tb : TS) (D : Ends) (σ0 : St) (H0 : Hp) : Prop
  | mk (W : Nat → St → Hp → Prop) (h0 : ∃ m, W m σ0 H0) (h : ∀ m σ H, W m σ H → c σ H fun b H1 => if b = true then ∃ N : St → Hp → Prop, (∀ σ' H', N σ' H' → ∃ m', m' < m ∧ W m' σ' H') ∧ tb { D with nx := N, ct := N, bk := D.nx } σ H1 else D.nx σ H1) : tWhile c tb D σ0 H0
theorem ps_while {c : Expr} {body : List Stmt} {tc : TT} {tb : TS} (hp : PassesOwn (model X.prog X.w) X.A X.env X.xe) (hc : PT X c tc) (hb : PSs X body tb) : PS X (.While c body [] pos) (tWhile tc tb) := by
  intro pins s σ H D I h
  obtain ⟨W, ⟨m0, w0⟩, turn⟩ := h
  refine wpAny_While (codeAny_whileLoop (fun n s' => ∃ σ' H', Inv X pins σ' H' s' ∧ W n σ' H') ?_ m0 ⟨σ, H, I, w0⟩)
  rintro n s1 ⟨σ1, H1, I1, w1⟩
  refine wpAny_passesOwn hp (thn (hc pins s1 σ1 H1 _ I1 (turn n σ1 H1 w1)) fun b s2 ⟨H2, I2, q2⟩ => ?_)
  cases b with
  | true =>
    obtain ⟨N, hN, q2⟩ := q2
    rw [if_pos rfl]
    refine wpAny_passesOwn hp (thn (hb pins s2 σ1 H2 _ I2 q2) fun f s3 q3 => ?_)
    cases f with
    | next =>
      obtain ⟨σ3, H3, I3, n3⟩ := q3
      obtain ⟨m', hm, w3⟩ := hN σ3 H3 n3
      exact ⟨m', hm, σ3, H3, I3, w3⟩
    | cont =>
      obtain ⟨σ3, H3, I3, n3⟩ := q3
      obtain ⟨m', hm, w3⟩ := hN σ3 H3 n3
      exact ⟨m', hm, σ3, H3, I3, w3⟩
    | brk => exact q3
    | ret v => exact q3
  | false =>
    rw [if_neg Bool.false_ne_true]
    exact wpAny_execs_nil ⟨σ1, H2, I2, q2⟩
end
structure It where
  go : Nat → Hp → Prop
  yld : Nat → Hp → V → Hp → Prop
  stop : Nat → Hp → Prop
noncomputable def FpOk (X : Cx) (pins : List (Addr × Obj)) (H : Hp) (b : Addr) : Prop :=
  H b = none ∧ b ≠ X.env.locals ∧ b ∉ X.fs ∧ (b ∈ X.ex ∨ X.s₀.heap.objs.size ≤ b) ∧ (∀ x c, X.env.cells.lookup x = some c → c ≠ b) ∧ ∀ p ∈ X.pn ++ pins, p.1 ≠ b
theorem Inv.fpOk {X : Cx} {pins : List (Addr × Obj)} {σ : St} {H H' : Hp} {s : Shared} {b : Addr} (I : Inv X pins σ H s) (hb : s.heap.objs.size ≤ b) (hn : H' b = none) : FpOk X pins H' b := by
  refine ⟨hn, Nat.ne_of_gt (Nat.lt_of_lt_of_le I.lt hb), I.nofs hb, .inr (Nat.le_trans I.sz hb), fun x c e z => ?_, fun p hp z => ?_⟩
  · obtain ⟨v, q⟩ := I.cell x c e
    exact absurd (Nat.lt_of_lt_of_le q.lt (by rw [z]; exact hb)) (Nat.lt_irrefl _)
  · exact absurd (Nat.lt_of_lt_of_le (Heap.lt_size (I.pin p hp).1) (by rw [z]; exact hb)) (Nat.lt_irrefl _)
structure Turn (P : Program) (w : World) (K : PySem.W.Frag) (tg : Expr) (J : It) (fp : List Addr) (it : Addr) (tn : Nat → Heap → Prop) : Prop where
  mem : it ∈ fp
  obj : ∀ i h, tn i h → ∀ b ∈ fp, ∃ o, h.get? b = some o ∧ ∀ v, o.data ≠ .cell v
  keep : ∀ i h h', tn i h → (∀ b ∈ fp, ∀ o, h.get? b = some o → h'.get? b = some o) → tn i h'
  item : ∀ (X : Cx), X.prog = P → X.w = w → X.K = K → X.calm = true → ∀ (i : Nat) (pins : List (Addr × Obj)) (s : Shared) (σ : St) (H : Hp) (E : Value → Shared → Prop), Inv X pins σ H s → (∀ b ∈ fp, FpOk X pins H b) → tn i s.heap → J.go i H →
    wpAny (model P w) X.A (pyNext (.ref it)) (fun r s1 => ∃ u, r = some u ∧
      wpAny (model P w) X.A (letOwnedTupleGo tg (.ref it) u) (fun _ s2 => ∃ x H', Inv X pins σ H' s2 ∧ RelV x u ∧ J.yld i H x H' ∧ tn (i + 1) s2.heap ∧ ∀ b ∈ fp, H' b = none) E s1) E s
  done : ∀ (X : Cx), X.prog = P → X.w = w → X.K = K → X.calm = true → ∀ (i : Nat) (pins : List (Addr × Obj)) (s : Shared) (σ : St) (H : Hp) (E : Value → Shared → Prop), Inv X pins σ H s → (∀ b ∈ fp, FpOk X pins H b) → tn i s.heap → J.stop i H →
    wpAny (model P w) X.A (pyNext (.ref it)) (fun r s1 => r = none ∧ Inv X pins σ H s1) E s
  self : ∀ (A : Around) (i : Nat) (s : Shared) (Q : Value → Shared → Prop) (E : Value → Shared → Prop), tn i s.heap → Q (.ref it) s → wpAny (model P w) A (pyIter (.ref it)) Q E s
noncomputable abbrev TI := St → Hp → (It → Hp → Prop) → Prop
noncomputable def PIE (X : Cx) (pins : List (Addr × Obj)) (σ : St) (tg : Expr) (R : It → Hp → Prop) (itv : Value) (s2 : Shared) : Prop :=
  ∃ (it : Addr) (fp : List Addr) (tn : Nat → Heap → Prop) (J : It) (H' : Hp), itv = .ref it ∧ Inv X pins σ H' s2 ∧ Turn X.prog X.w X.K tg J fp it tn ∧ tn 0 s2.heap ∧ (∀ b ∈ fp, FpOk X pins H' b) ∧ R J H'
noncomputable def PI (X : Cx) (tg iter : Expr) (wi : TI) : Prop :=
  ∀ (pins : List (Addr × Obj)) (s : Shared) (σ : St) (H : Hp) (R : It → Hp → Prop), Inv X pins σ H s → wi σ H R →
    wpAny (model X.prog X.w) X.A (eval iter X.env) (fun v s1 => wpAny (model X.prog X.w) X.A (pyIter v) (PIE X pins σ tg R) X.xe s1) X.xe s
theorem go_of {M : Model} {A : Around} {E : Value → Shared → Prop} {s : Shared} {tg : Expr} {it : Addr} {u : Value} {o : Obj} {n : String} {vs : Array Value} {Q : Unit → Shared → Prop} (ho : s.heap.get? it = some o) (hc : o.cls = .type n) (hd : o.data = .fields vs)
    (hn : ["enumerate", "zip", "dict_itemiterator", "dict_reverseitemiterator", "odict_iterator", "itertools.zip_longest", "itertools.pairwise"].contains n = false) (hQ : Q () s) : wpAny M A (letOwnedTupleGo tg (.ref it) u) Q E s := by
  unfold letOwnedTupleGo
  cases tg <;> first
    | exact wpAny_pure hQ
    | (cases u <;> first
        | exact wpAny_pure hQ
        | (refine wpAny_bind (wpAny_load ho ?_)
           rw [hc, hd]
           show wpAny M A (if (["enumerate", "zip", "dict_itemiterator", "dict_reverseitemiterator", "odict_iterator", "itertools.zip_longest", "itertools.pairwise"].contains n && vs[0]? == some (rawInt _)) = true then _ else _) Q E s
           rw [if_neg (by intro h; rw [hn, Bool.false_and] at h; cases h)]
           exact wpAny_pure hQ))
noncomputable def Itl (K : PySem.W.Frag) (a : Addr) : It :=
  ⟨fun i H => ∃ xs x, SqL K H a xs ∧ xs[i]? = some x, fun i H x H' => H' = H ∧ ∀ xs, SqL K H a xs → xs[i]? = some x, fun i H => ∃ xs, SqL K H a xs ∧ xs.length ≤ i⟩
noncomputable def Itt (K : PySem.W.Frag) (a : Addr) : It :=
  ⟨fun i H => ∃ xs x, SqT K H a xs ∧ xs[i]? = some x, fun i H x H' => H' = H ∧ ∀ xs, SqT K H a xs → xs[i]? = some x, fun i H => ∃ xs, SqT K H a xs ∧ xs.length ≤ i⟩
noncomputable def Itr (lo : Int) (n : Nat) : It := ⟨fun i _ => i < n, fun i H x H' => H' = H ∧ x = .int (lo + i), fun i _ => n ≤ i⟩
theorem turn_list {P : Program} {w : World} {K : PySem.W.Frag} {tg : Expr} (a it : Addr) : Turn P w K tg (Itl K a) [it] it (fun i h => h.IsListIter it a i) where
  mem := by simp
  obj := fun i h st b hb => by
    have e : b = it := by simpa using hb
    subst e
    obtain ⟨o, e, c, d⟩ := st
    exact ⟨o, e, fun v z => by rw [d] at z; cases z⟩
  keep := fun i h h' st k => st.at fun o e => k it (by simp) o e
  item := by
    intro X hP hw hK hc i pins s σ H E I hf st hg
    subst hP hw hK
    obtain ⟨xs, x, hq, hx⟩ := hg
    obtain ⟨its, rv, p, hz⟩ := I.list hq
    obtain ⟨u, hu, ru⟩ := rv.get hx
    obtain ⟨f0, f1, f2, f3, f4, f5⟩ := hf it (by simp)
    refine wpAny_pyNext_list_item st p.isList (x := u) (by simpa using hu) fun h' st' sb => ?_
    have I1 : Inv X pins σ H { s with heap := h' } := I.turned (t' := s.toks) (fun b o hb e => (sb.2 b hb).trans e) f0 f1 f3 f4 f5
    obtain ⟨o, e, c, d⟩ := id st'
    exact ⟨u, rfl, go_of (s := { s with heap := h' }) e c d (by decide) ⟨x, H, I1, ru, ⟨rfl, fun ys hy => by rw [I.list_inj hy hq]; exact hx⟩, st', fun b hb => (hf b hb).1⟩⟩
  done := by
    intro X hP hw hK hc i pins s σ H E I hf st hg
    subst hP hw hK
    obtain ⟨xs, hq, hx⟩ := hg
    obtain ⟨its, rv, p, hz⟩ := I.list hq
    obtain ⟨f0, f1, f2, f3, f4, f5⟩ := hf it (by simp)
    have hl := rv.length
    exact wpAny_pyNext_list_end (I.ok.hd hc) st p.isList (by simp; omega) fun h' eb => ⟨rfl, I.turned (t' := s.toks) (fun b o hb e => eb b o hb e) f0 f1 f3 f4 f5⟩
  self := fun _ _ _ _ _ st h => wpAny_pyIter_listiter st h
theorem turn_tuple {P : Program} {w : World} {K : PySem.W.Frag} {tg : Expr} (a it : Addr) : Turn P w K tg (Itt K a) [it] it (fun i h => h.IsTupleIter it a i) where
  mem := by simp
  obj := fun i h st b hb => by
    have e : b = it := by simpa using hb
    subst e
    obtain ⟨o, e, c, d⟩ := st
    exact ⟨o, e, fun v z => by rw [d] at z; cases z⟩
  keep := fun i h h' st k => st.at fun o e => k it (by simp) o e
  item := by
    intro X hP hw hK hc i pins s σ H E I hf st hg
    subst hP hw hK
    obtain ⟨xs, x, hq, hx⟩ := hg
    obtain ⟨its, rv, p, hz⟩ := I.tuple hq
    obtain ⟨u, hu, ru⟩ := rv.get hx
    obtain ⟨f0, f1, f2, f3, f4, f5⟩ := hf it (by simp)
    refine wpAny_pyNext_tuple_item st (show s.heap.IsTuple a its.toArray from p) (x := u) (by simpa using hu) fun h' st' sb => ?_
    have I1 : Inv X pins σ H { s with heap := h' } := I.turned (t' := s.toks) (fun b o hb e => (sb.2 b hb).trans e) f0 f1 f3 f4 f5
    obtain ⟨o, e, c, d⟩ := id st'
    exact ⟨u, rfl, go_of (s := { s with heap := h' }) e c d (by decide) ⟨x, H, I1, ru, ⟨rfl, fun ys hy => by rw [I.tuple_inj hy hq]; exact hx⟩, st', fun b hb => (hf b hb).1⟩⟩
  done := by
    intro X hP hw hK hc i pins s σ H E I hf st hg
    subst hP hw hK
    obtain ⟨xs, hq, hx⟩ := hg
    obtain ⟨its, rv, p, hz⟩ := I.tuple hq
    obtain ⟨f0, f1, f2, f3, f4, f5⟩ := hf it (by simp)
    have hl := rv.length
    exact wpAny_pyNext_tuple_end (I.ok.hd hc) st (show s.heap.IsTuple a its.toArray from p) (by simp; omega) fun h' eb => ⟨rfl, I.turned (t' := s.toks) (fun b o hb e => eb b o hb e) f0 f1 f3 f4 f5⟩
  self := fun _ _ _ _ _ st h => wpAny_pyIter_tupleiter st h
theorem turn_range {P : Program} {w : World} {K : PySem.W.Frag} {tg : Expr} (it : Addr) (lo : Int) (n : Nat) : Turn P w K tg (Itr lo n) [it] it (fun i h => IsRangeIter h it (lo + (i : Nat) * 1) ((n : Int) - (i : Nat)) 1) where
  mem := by simp
  obj := fun i h st b hb => by
    have e : b = it := by simpa using hb
    subst e
    exact ⟨_, st, fun v z => by
      have z' : Data.fields _ = Data.cell v := z
      cases z'⟩
  keep := fun i h h' st k => k it (by simp) _ st
  item := by
    intro X hP hw hK hc i pins s σ H E I hf st hg
    subst hP hw hK
    obtain ⟨f0, f1, f2, f3, f4, f5⟩ := hf it (by simp)
    have W := Walks.range (prog := X.prog) (w := X.w) (I.ok.hd hc) it lo 1 n
    refine W.item i s _ _ hg st fun v h' tk hv st' kk => ?_
    obtain ⟨t, rfl⟩ := hv
    have I1 : Inv X pins σ H { s with heap := h', toks := tk } := I.turned (fun b o hb e => kk b o (by simpa using hb) e) f0 f1 f3 f4 f5
    refine ⟨_, rfl, go_of (s := { s with heap := h', toks := tk }) (n := "range_iterator") st' rfl rfl (by decide) ⟨.int (lo + i), H, I1, ⟨t, ?_⟩, ⟨rfl, rfl⟩, st', fun b hb => (hf b hb).1⟩⟩
    rw [Int.mul_one]
  done := by
    intro X hP hw hK hc i pins s σ H E I hf st hg
    subst hP hw hK
    obtain ⟨f0, f1, f2, f3, f4, f5⟩ := hf it (by simp)
    exact wpAny_pyNext_range_end (I.ok.hd hc) st (by have : n ≤ i := hg; omega) fun h' eb => ⟨rfl, I.turned (t' := s.toks) (fun b o hb e => eb b o hb e) f0 f1 f3 f4 f5⟩
  self := fun _ _ _ _ _ st h => wpAny_pyIter_rangeiter st h
end L2
namespace L2
open PySem PySem.Spec PyProof.Rows
section
variable {X : Cx} {tg : Expr}
noncomputable def iList (K : PySem.W.Frag) (tl : TE) : TI := fun σ H R => tl σ H fun x H1 => ∃ a, x = .ref a ∧ (∃ xs, SqL K H1 a xs) ∧ R (Itl K a) H1
noncomputable def iTup (K : PySem.W.Frag) (tl : TE) : TI := fun σ H R => tl σ H fun x H1 => ∃ a, x = .ref a ∧ (∃ xs, SqT K H1 a xs) ∧ R (Itt K a) H1
theorem pi_list {l : Expr} {tl : TE} (hl : PE X l tl) : PI X tg l (iList X.K tl) := by
  intro pins s σ H R I h
  refine thn (hl pins s σ H _ I h) fun v s1 ⟨x, H1, I1, r1, q1⟩ => ?_
  obtain ⟨a, e, ⟨xs, hq⟩, q⟩ := q1
  subst e
  cases r1
  obtain ⟨its, rv, p, hz⟩ := I1.list hq
  refine wpAny_pyIter_list p.isList ?_
  refine ⟨s1.heap.objs.size, [s1.heap.objs.size], _, _, H1, rfl, I1.kept (t' := s1.toks) fun b o e => Heap.get?_push_of_some _ e, turn_list a _, ⟨_, Heap.get?_push_size _ rfl, rfl, rfl⟩, fun b hb => ?_, q⟩
  have e : b = s1.heap.objs.size := by simpa using hb
  subst e
  exact I1.fpOk (Nat.le_refl _) (I1.hok.fresh (Nat.le_refl _))
theorem pi_tup {l : Expr} {tl : TE} (hl : PE X l tl) : PI X tg l (iTup X.K tl) := by
  intro pins s σ H R I h
  refine thn (hl pins s σ H _ I h) fun v s1 ⟨x, H1, I1, r1, q1⟩ => ?_
  obtain ⟨a, e, ⟨xs, hq⟩, q⟩ := q1
  subst e
  cases r1
  obtain ⟨its, rv, p, hz⟩ := I1.tuple hq
  refine wpAny_pyIter_tuple (show s1.heap.IsTuple a its.toArray from p) ?_
  refine ⟨s1.heap.objs.size, [s1.heap.objs.size], _, _, H1, rfl, I1.kept (t' := s1.toks) fun b o e => Heap.get?_push_of_some _ e, turn_tuple a _, ⟨_, Heap.get?_push_size _ rfl, rfl, rfl⟩, fun b hb => ?_, q⟩
  have e : b = s1.heap.objs.size := by simpa using hb
  subst e
  exact I1.fpOk (Nat.le_refl _) (I1.hok.fresh (Nat.le_refl _))
theorem range_it {pins : List (Addr × Obj)} {σ : St} {H : Hp} {s : Shared} {R : It → Hp → Prop} {E : Value → Shared → Prop} {lo hi : Int} {t u v : Tok} {tk : Nat} (I : Inv X pins σ H s) (h1 : -(2 ^ 62) ≤ lo) (h2 : lo < 2 ^ 62) (h3 : -(2 ^ 62) ≤ hi) (h4 : hi < 2 ^ 62)
    (q : R (Itr lo (hi - lo).toNat) H) : wpAny (model X.prog X.w) X.A (pyIter (.ref s.heap.objs.size)) (PIE X pins σ tg R) E { s with heap := s.heap.push { cls := .type "range", data := .fields #[.int lo t, .int hi u, .int 1 v] }, toks := tk } := by
  refine wpAny_pyIter_range (IsRange.new ..) (small_one h1 h2 h3 h4) ?_
  have I1 : Inv X pins σ H { s with heap := s.heap.push { cls := .type "range", data := .fields #[.int lo t, .int hi u, .int 1 v] }, toks := tk } := I.kept fun b o e => Heap.get?_push_of_some _ e
  refine ⟨(s.heap.push { cls := .type "range", data := .fields #[.int lo t, .int hi u, .int 1 v] }).objs.size, [(s.heap.push { cls := .type "range", data := .fields #[.int lo t, .int hi u, .int 1 v] }).objs.size], _, _, H, rfl,
    I1.kept (t' := tk) fun b o e => Heap.get?_push_of_some _ e, turn_range _ lo (hi - lo).toNat, ?_, fun b hb => ?_, q⟩
  · have e1 : lo + ((0 : Nat) : Int) * 1 = lo := by simp
    have e2 : (((hi - lo).toNat : Nat) : Int) - ((0 : Nat) : Int) = Builtin.Range.rangeSize lo hi 1 := by rw [rangeSize_one]; split <;> omega
    show IsRangeIter _ _ (lo + ((0 : Nat) : Int) * 1) ((((hi - lo).toNat : Nat) : Int) - ((0 : Nat) : Int)) 1
    rw [e1, e2]
    exact Heap.get?_push_size _ rfl
  · have e : b = (s.heap.push { cls := .type "range", data := .fields #[.int lo t, .int hi u, .int 1 v] }).objs.size := by simpa using hb
    subst e
    exact I1.fpOk (Nat.le_refl _) (I1.hok.fresh (Nat.le_refl _))
noncomputable def iRng1 (ta : TA) : TI := fun σ H R => ta σ H fun vs H1 => ∃ j : Int, vs = [.int j] ∧ -(2 ^ 62) ≤ j ∧ j < 2 ^ 62 ∧ R (Itr 0 j.toNat) H1
noncomputable def iRng2 (ta : TA) : TI := fun σ H R => ta σ H fun vs H1 => ∃ i j : Int, vs = [.int i, .int j] ∧ (-(2 ^ 62) ≤ i ∧ i < 2 ^ 62 ∧ -(2 ^ 62) ≤ j ∧ j < 2 ^ 62) ∧ R (Itr i (j - i).toNat) H1
theorem pi_range1 {a : Expr} {ta : TA} {p pos : Pos} (hg : Gl X "range") (hm : X.mg "range" = none) (ha : PA X [a] ta) (hs : starEach [a] X.env = [(false, eval a X.env)] := by rfl) : PI X tg (.Call (.Name "range" p) [a] [] pos) (iRng1 ta) := by
  intro pins s σ H R I h
  refine Call_ (ld_blt I hg hm boot_range (PyProof.Rows.callWith_type1 (thn (ha pos pins s σ H _ I h) fun us s1 ⟨vs, H1, I1, r1, q1⟩ => ?_) hs rfl))
  obtain ⟨j, e, q1, q2, q⟩ := q1
  subst e
  cases r1 with
  | cons r rr =>
    cases rr
    obtain ⟨t, rfl⟩ := r
    exact call_range_1 (range_it I1 (by omega) (by omega) q1 q2 (by simpa using q))
theorem pi_range2 {a b : Expr} {ta : TA} {p pos : Pos} (hg : Gl X "range") (hm : X.mg "range" = none) (ha : PA X [a, b] ta) (hs : starEach [a, b] X.env = [(false, eval a X.env), (false, eval b X.env)] := by rfl) (hs2 : starEach [b] X.env = [(false, eval b X.env)] := by rfl) :
    PI X tg (.Call (.Name "range" p) [a, b] [] pos) (iRng2 ta) := by
  intro pins s σ H R I h
  refine Call_ (ld_blt I hg hm boot_range (PyProof.Rows.callWith_type1 (thn (ha pos pins s σ H _ I h) fun us s1 ⟨vs, H1, I1, r1, q1⟩ => ?_) (by rw [hs, hs2]) (by rw [hs2]; rfl)))
  obtain ⟨i, j, e, ⟨q1, q2, q3, q4⟩, q⟩ := q1
  subst e
  cases r1 with
  | cons r rr =>
    cases rr with
    | cons r' rr =>
      cases rr
      obtain ⟨t, rfl⟩ := r
      obtain ⟨t', rfl⟩ := r'
      exact call_range_2 (range_it I1 q1 q2 q3 q4 q)
noncomputable def tFor (wi : TI) (g : TG) (tb : TS) : TS := fun D σ H => wi σ H fun J H1 => ∃ W : Nat → Nat → St → Hp → Prop, (∃ m, W 0 m σ H1) ∧ ∀ i m σ H, W i m σ H →
  (J.stop i H ∧ D.nx σ H) ∨ (J.go i H ∧ ∃ N : St → Hp → Prop, (∀ σ' H', N σ' H' → ∃ m', m' < m ∧ W (i + 1) m' σ' H') ∧ ∀ x H', J.yld i H x H' → g x σ H' fun σ2 H2 => tb { D with nx := N, ct := N, bk := D.nx } σ2 H2)
noncomputable def pinsAt (fp : List Addr) (h : Heap) : List (Addr × Obj) := fp.filterMap fun b => (h.get? b).map fun o => (b, o)
theorem mem_pinsAt {fp : List Addr} {h : Heap} {b : Addr} {o : Obj} (hb : b ∈ fp) (e : h.get? b = some o) : (b, o) ∈ pinsAt fp h := List.mem_filterMap.mpr ⟨b, hb, by rw [e]; rfl⟩
theorem of_pinsAt {fp : List Addr} {h : Heap} {p : Addr × Obj} (hp : p ∈ pinsAt fp h) : p.1 ∈ fp ∧ h.get? p.1 = some p.2 := by
  obtain ⟨b, hb, e⟩ := List.mem_filterMap.mp hp
  cases q : h.get? b with
  | none => rw [q] at e; cases e
  | some o =>
    rw [q] at e
    have e' : (b, o) = p := Option.some.inj e
    subst e'
    exact ⟨hb, q⟩
theorem Inv.pinned {pins : List (Addr × Obj)} {σ : St} {H : Hp} {s : Shared} {fp : List Addr} (I : Inv X pins σ H s) (hf : ∀ b ∈ fp, FpOk X pins H b) (ho : ∀ b ∈ fp, ∃ o, s.heap.get? b = some o ∧ ∀ v, o.data ≠ .cell v) : Inv X (pins ++ pinsAt fp s.heap) σ H s :=
  I.pins_of fun p hp => (List.mem_append.mp hp).elim (fun z => I.pin p (List.mem_append_right _ z)) fun z => by
    obtain ⟨hb, e⟩ := of_pinsAt z
    obtain ⟨f0, f1, f2, _⟩ := hf p.1 hb
    obtain ⟨o, e', d⟩ := ho p.1 hb
    rw [e] at e'; cases e'
    exact ⟨e, f0, f1, f2, d⟩
theorem Inv.unpinned {pins pl : List (Addr × Obj)} {σ : St} {H : Hp} {s : Shared} (I : Inv X (pins ++ pl) σ H s) : Inv X pins σ H s := I.pins_of fun p hp => I.pin p (List.mem_append_right _ (List.mem_append_left _ hp))
theorem ps_for {iter : Expr} {body : List Stmt} {wi : TI} {g : TG} {tb : TS} {pos : Pos} (hp : PassesOwn (model X.prog X.w) X.A X.env X.xe) (hc : X.calm = true) (hi : PI X tg iter wi) (hg : PG X tg g) (hb : PSs X body tb)
    (hs : ∀ x, foldedSetIterable iter X.env x = pure x := by intro _; rfl) : PS X (.For tg iter body [] pos) (tFor wi g tb) := by
  intro pins s σ H D I h
  refine wpAny_For (thn (hi pins s σ H _ I h) fun v s1 h1 => thn h1 fun itv s2 h2 => ?_) hs
  obtain ⟨it, fp, tn, J, H2, e, I2, T, st2, f2, W, ⟨m0, w0⟩, turn⟩ := h2
  subst e
  have stat : ∀ {H' : Hp}, (∀ b ∈ fp, H' b = none) → ∀ b ∈ fp, FpOk X pins H' b := fun hn b hb => ⟨hn b hb, (f2 b hb).2⟩
  refine codeAny_forLoop_any (fun n s' => ∃ i σ' H', Inv X pins σ' H' s' ∧ tn i s'.heap ∧ (∀ b ∈ fp, H' b = none) ∧ W i n σ' H') ?_ m0 ⟨0, σ, H2, I2, st2, fun b hb => (f2 b hb).1, w0⟩
  rintro n s3 ⟨i, σ3, H3, I3, st3, fr3, w3⟩
  rcases turn i n σ3 H3 w3 with ⟨stop, qn⟩ | ⟨go, N, hN, step⟩
  · refine wpAny_passesOwn hp (thn (T.done X rfl rfl rfl hc i pins s3 σ3 H3 X.xe I3 (stat fr3) st3 stop) fun r s4 ⟨hr, I4⟩ => ?_)
    subst hr
    exact wpAny_execs_nil ⟨σ3, H3, I4, qn⟩
  · refine wpAny_passesOwn hp (thn (T.item X rfl rfl rfl hc i pins s3 σ3 H3 X.xe I3 (stat fr3) st3 go) fun r s4 ⟨u, hr, h4⟩ => ?_)
    subst hr
    refine wpAny_passesOwn hp (thn h4 fun _ s5 ⟨x, H5, I5, r5, y5, st5, fr5⟩ => ?_)
    have I5' := I5.pinned (stat fr5) (T.obj _ _ st5)
    refine wpAny_passesOwn hp (thn (hg _ s5 σ3 H5 x u _ I5' r5 (step x H5 y5)) fun _ s6 ⟨σ6, H6, I6, q6⟩ => ?_)
    refine wpAny_passesOwn hp (thn (hb _ s6 σ6 H6 _ I6 q6) fun f s7 q7 => ?_)
    have again : ∀ {σ7 : St} {H7 : Hp}, Inv X (pins ++ pinsAt fp s5.heap) σ7 H7 s7 → N σ7 H7 → ∃ m, m < n ∧ ∃ i σ' H', Inv X pins σ' H' s7 ∧ tn i s7.heap ∧ (∀ b ∈ fp, H' b = none) ∧ W i m σ' H' := fun {σ7 H7} I7 n7 => by
      obtain ⟨m', hm, w7⟩ := hN σ7 H7 n7
      refine ⟨m', hm, i + 1, σ7, H7, I7.unpinned, T.keep _ _ _ st5 fun b hb o e => (I7.pin (b, o) (List.mem_append_right _ (List.mem_append_right _ (mem_pinsAt hb e)))).1, fun b hb => ?_, w7⟩
      obtain ⟨o, e, d⟩ := T.obj _ _ st5 b hb
      exact (I7.pin (b, o) (List.mem_append_right _ (List.mem_append_right _ (mem_pinsAt hb e)))).2.1
    cases f with
    | next => obtain ⟨σ7, H7, I7, n7⟩ := q7; exact again I7 n7
    | cont => obtain ⟨σ7, H7, I7, n7⟩ := q7; exact again I7 n7
    | brk => obtain ⟨σ7, H7, I7, q7⟩ := q7; exact ⟨σ7, H7, I7.unpinned, q7⟩
    | ret v => obtain ⟨x7, σ7, H7, I7, r7, q7⟩ := q7; exact ⟨x7, σ7, H7, I7.unpinned, r7, q7⟩
end
theorem for_list {K : PySem.W.Frag} {a : Addr} {xs : List V} {g : TG} {tb : TS} {D : Ends} {σ : St} {H : Hp} (Pv : Nat → St → Hp → Prop) (h0 : Pv 0 σ H) (hl : ∀ i σ H, i ≤ xs.length → Pv i σ H → SqL K H a xs)
    (hs : ∀ i x σ H, xs[i]? = some x → Pv i σ H → g x σ H fun σ2 H2 => tb { D with nx := Pv (i + 1), ct := Pv (i + 1), bk := D.nx } σ2 H2) (hd : ∀ σ H, Pv xs.length σ H → D.nx σ H) :
    ∃ W : Nat → Nat → St → Hp → Prop, (∃ m, W 0 m σ H) ∧ ∀ i m σ H, W i m σ H →
      ((Itl K a).stop i H ∧ D.nx σ H) ∨ ((Itl K a).go i H ∧ ∃ N : St → Hp → Prop, (∀ σ' H', N σ' H' → ∃ m', m' < m ∧ W (i + 1) m' σ' H') ∧ ∀ x H', (Itl K a).yld i H x H' → g x σ H' fun σ2 H2 => tb { D with nx := N, ct := N, bk := D.nx } σ2 H2) := by
  refine ⟨fun i m σ H => m = xs.length - i ∧ i ≤ xs.length ∧ Pv i σ H, ⟨xs.length, by simp, Nat.zero_le _, h0⟩, ?_⟩
  rintro i m σ H ⟨rfl, hi, p⟩
  have q := hl i σ H hi p
  by_cases hlt : i < xs.length
  · refine .inr ⟨⟨xs, xs[i], q, by simp [hlt]⟩, Pv (i + 1), fun σ' H' p' => ⟨xs.length - (i + 1), by omega, rfl, hlt, p'⟩, fun x H' y => ?_⟩
    obtain ⟨e, y⟩ := y
    subst e
    exact hs i x σ _ (y xs q) p
  · have e : i = xs.length := by omega
    subst e
    exact .inl ⟨⟨xs, q, Nat.le_refl _⟩, hd σ H p⟩
theorem for_tup {K : PySem.W.Frag} {a : Addr} {xs : List V} {g : TG} {tb : TS} {D : Ends} {σ : St} {H : Hp} (Pv : Nat → St → Hp → Prop) (h0 : Pv 0 σ H) (hl : ∀ i σ H, i ≤ xs.length → Pv i σ H → SqT K H a xs)
    (hs : ∀ i x σ H, xs[i]? = some x → Pv i σ H → g x σ H fun σ2 H2 => tb { D with nx := Pv (i + 1), ct := Pv (i + 1), bk := D.nx } σ2 H2) (hd : ∀ σ H, Pv xs.length σ H → D.nx σ H) :
    ∃ W : Nat → Nat → St → Hp → Prop, (∃ m, W 0 m σ H) ∧ ∀ i m σ H, W i m σ H →
      ((Itt K a).stop i H ∧ D.nx σ H) ∨ ((Itt K a).go i H ∧ ∃ N : St → Hp → Prop, (∀ σ' H', N σ' H' → ∃ m', m' < m ∧ W (i + 1) m' σ' H') ∧ ∀ x H', (Itt K a).yld i H x H' → g x σ H' fun σ2 H2 => tb { D with nx := N, ct := N, bk := D.nx } σ2 H2) := by
  refine ⟨fun i m σ H => m = xs.length - i ∧ i ≤ xs.length ∧ Pv i σ H, ⟨xs.length, by simp, Nat.zero_le _, h0⟩, ?_⟩
  rintro i m σ H ⟨rfl, hi, p⟩
  have q := hl i σ H hi p
  by_cases hlt : i < xs.length
  · refine .inr ⟨⟨xs, xs[i], q, by simp [hlt]⟩, Pv (i + 1), fun σ' H' p' => ⟨xs.length - (i + 1), by omega, rfl, hlt, p'⟩, fun x H' y => ?_⟩
    obtain ⟨e, y⟩ := y
    subst e
    exact hs i x σ _ (y xs q) p
  · have e : i = xs.length := by omega
    subst e
    exact .inl ⟨⟨xs, q, Nat.le_refl _⟩, hd σ H p⟩
theorem for_range {lo : Int} {n : Nat} {g : TG} {tb : TS} {D : Ends} {σ : St} {H : Hp} (Pv : Nat → St → Hp → Prop) (h0 : Pv 0 σ H)
    (hs : ∀ i σ H, i < n → Pv i σ H → g (.int (lo + i)) σ H fun σ2 H2 => tb { D with nx := Pv (i + 1), ct := Pv (i + 1), bk := D.nx } σ2 H2) (hd : ∀ σ H, Pv n σ H → D.nx σ H) :
    ∃ W : Nat → Nat → St → Hp → Prop, (∃ m, W 0 m σ H) ∧ ∀ i m σ H, W i m σ H →
      ((Itr lo n).stop i H ∧ D.nx σ H) ∨ ((Itr lo n).go i H ∧ ∃ N : St → Hp → Prop, (∀ σ' H', N σ' H' → ∃ m', m' < m ∧ W (i + 1) m' σ' H') ∧ ∀ x H', (Itr lo n).yld i H x H' → g x σ H' fun σ2 H2 => tb { D with nx := N, ct := N, bk := D.nx } σ2 H2) := by
  refine ⟨fun i m σ H => m = n - i ∧ i ≤ n ∧ Pv i σ H, ⟨n, by simp, Nat.zero_le _, h0⟩, ?_⟩
  rintro i m σ H ⟨rfl, hi, p⟩
  by_cases hlt : i < n
  · refine .inr ⟨hlt, Pv (i + 1), fun σ' H' p' => ⟨n - (i + 1), by omega, rfl, hlt, p'⟩, fun x H' y => ?_⟩
    obtain ⟨e, y⟩ := y
    subst e y
    exact hs i σ _ hlt p
  · have e : i = n := by omega
    subst e
    exact .inl ⟨Nat.le_refl _, hd σ H p⟩
end L2
namespace L2
open PySem PySem.Spec PyProof.Rows
noncomputable abbrev R2 := V → V → Hp → VK → Prop
noncomputable def OpR (X : Cx) (f : Value → Value → Sem Value) (r : R2) : Prop :=
  ∀ (pins : List (Addr × Obj)) (s : Shared) (σ : St) (H : Hp) (x y : V) (v u : Value) (Q : VK), Inv X pins σ H s → RelV x v → RelV y u → r x y H Q →
    wpAny (model X.prog X.w) X.A (f v u) (EP X pins σ Q) X.xe s
noncomputable def UnR (X : Cx) (f : Value → Sem Value) (r : V → Hp → VK → Prop) : Prop :=
  ∀ (pins : List (Addr × Obj)) (s : Shared) (σ : St) (H : Hp) (x : V) (v : Value) (Q : VK), Inv X pins σ H s → RelV x v → r x H Q →
    wpAny (model X.prog X.w) X.A (f v) (EP X pins σ Q) X.xe s
noncomputable def CallR (X : Cx) (f : Value) (r : List V → Hp → VK → Prop) : Prop :=
  ∀ (pins : List (Addr × Obj)) (s : Shared) (σ : St) (H : Hp) (xs : List V) (us : List Value) (Q : VK), Inv X pins σ H s → Vals xs us → r xs H Q →
    wpAny (model X.prog X.w) X.A (call f us) (EP X pins σ Q) X.xe s
noncomputable def tOp (r : R2) (ta tb : TE) : TE := fun σ H Q => ta σ H fun x H1 => tb σ H1 fun y H2 => r x y H2 Q
noncomputable def tUn (r : V → Hp → VK → Prop) (ta : TE) : TE := fun σ H Q => ta σ H fun x H1 => r x H1 Q
inductive rI (C : Int → Int → Prop) (g : Int → Int → V) (x y : V) (H : Hp) (Q : VK) : Prop
  | mk (i j : Int) (ex : x = .int i) (ey : y = .int j) (c : C i j) (q : Q (g i j) H) : rI C g x y H Q
inductive rI0 (g : Int → Int → V) (x y : V) (H : Hp) (Q : VK) : Prop
  | mk (i j : Int) (ex : x = .int i) (ey : y = .int j) (q : Q (g i j) H) : rI0 g x y H Q
inductive rU (g : Int → V) (x : V) (H : Hp) (Q : VK) : Prop
  | mk (i : Int) (ex : x = .int i) (q : Q (g i) H) : rU g x H Q
section
variable {X : Cx} {a b c : Expr} {ta tb tc : TE} {pos : Pos}
theorem binT (ha : PE X a ta) (hb : PE X b tb) {pins : List (Addr × Obj)} {s : Shared} {σ : St} {H : Hp} {R : V → V → Hp → Prop} (I : Inv X pins σ H s)
    (h : ta σ H fun x H1 => tb σ H1 fun y H2 => R x y H2) {Q : Value → Shared → Prop} {f : Value → Value → Sem Value}
    (hf : ∀ v u s2 x y H2, Inv X pins σ H2 s2 → RelV x v → RelV y u → R x y H2 → wpAny (model X.prog X.w) X.A (f v u) Q X.xe s2) :
    wpAny (model X.prog X.w) X.A (eval a X.env) (fun v s₁ => wpAny (model X.prog X.w) X.A (eval b X.env) (fun u s₂ => wpAny (model X.prog X.w) X.A (f v u) Q X.xe s₂) X.xe s₁) X.xe s := by
  refine thn (ha pins s σ H _ I h) fun v s1 ⟨x, H1, I1, r1, q1⟩ => ?_
  refine thn (hb pins s1 σ H1 _ I1 q1) fun u s2 ⟨y, H2, I2, r2, q2⟩ => ?_
  exact hf v u s2 x y H2 I2 r1 r2 q2
theorem pe_op {op : Operator} {r : R2} (ho : OpR X (binaryOp op) r) (ha : PE X a ta) (hb : PE X b tb) : PE X (.BinOp a op b pos) (tOp r ta tb) := by
  intro pins s σ H Q I h
  exact wpAny_BinOp (binT ha hb I h fun v u s2 x y H2 I2 rx ry q => ho pins s2 σ H2 x y v u Q I2 rx ry q)
theorem pe_un {op : UnaryOp} {r : V → Hp → VK → Prop} (ho : UnR X (unaryOp op) r) (ha : PE X a ta) : PE X (.UnaryOp op a pos) (tUn r ta) := by
  intro pins s σ H Q I h
  exact UnaryOp_ (thn (ha pins s σ H _ I h) fun v s1 ⟨x, H1, I1, r1, q1⟩ => ho pins s1 σ H1 x v Q I1 r1 q1)
theorem opI {f : Value → Value → Sem Value} {C : Int → Int → Prop} {g : Int → Int → Int}
    (rule : ∀ (i j : Int) (t u : Tok) (s : Shared) (Q : Value → Shared → Prop) (E : Value → Shared → Prop), C i j → Q (.int (g i j) s.toks) { s with toks := s.toks + 1 } → wpAny (model X.prog X.w) X.A (f (.int i t) (.int j u)) Q E s) :
    OpR X f (rI C fun i j => .int (g i j)) := by
  intro pins s σ H x y v u Q I rx ry h
  obtain ⟨i, j, rfl, rfl, hc, q⟩ := h
  obtain ⟨t, rfl⟩ := rx
  obtain ⟨t', rfl⟩ := ry
  exact rule i j t t' s _ _ hc ⟨.int (g i j), H, I.tok _, ⟨_, rfl⟩, q⟩
theorem opI0 {f : Value → Value → Sem Value} {g : Int → Int → Int}
    (rule : ∀ (i j : Int) (t u : Tok) (s : Shared) (Q : Value → Shared → Prop) (E : Value → Shared → Prop), Q (.int (g i j) s.toks) { s with toks := s.toks + 1 } → wpAny (model X.prog X.w) X.A (f (.int i t) (.int j u)) Q E s) :
    OpR X f (rI0 fun i j => .int (g i j)) := by
  intro pins s σ H x y v u Q I rx ry h
  obtain ⟨i, j, rfl, rfl, q⟩ := h
  obtain ⟨t, rfl⟩ := rx
  obtain ⟨t', rfl⟩ := ry
  exact rule i j t t' s _ _ ⟨.int (g i j), H, I.tok _, ⟨_, rfl⟩, q⟩
theorem opB0 {f : Value → Value → Sem Value} {g : Int → Int → Bool}
    (rule : ∀ (i j : Int) (t u : Tok) (s : Shared) (Q : Value → Shared → Prop) (E : Value → Shared → Prop), Q (.bool (g i j)) s → wpAny (model X.prog X.w) X.A (f (.int i t) (.int j u)) Q E s) :
    OpR X f (rI0 fun i j => .bl (g i j)) := by
  intro pins s σ H x y v u Q I rx ry h
  obtain ⟨i, j, rfl, rfl, q⟩ := h
  obtain ⟨t, rfl⟩ := rx
  obtain ⟨t', rfl⟩ := ry
  exact rule i j t t' s _ _ ⟨.bl (g i j), H, I, rfl, q⟩
noncomputable def CDiv (i j : Int) : Prop := 0 < j ∧ j < 1073741824
noncomputable def CPow (i j : Int) : Prop := 0 ≤ j ∧ j ≤ 1000000 ∧ i.natAbs < 2 ^ 64
noncomputable def CMul (i j : Int) : Prop := (-(2 ^ 64) < i ∧ i < 2 ^ 64) ∨ (-(2 ^ 64) < j ∧ j < 2 ^ 64)
theorem CMul.ok {i j : Int} (h : CMul i j) : IntMulOk i j := by
  rcases h with ⟨h1, h2⟩ | ⟨h1, h2⟩
  · exact .of_left (intBits_le_64 h1 h2)
  · exact .of_right (intBits_le_64 h1 h2)
theorem op_add : OpR X (binaryOp .Add) (rI0 fun i j => .int (i + j)) := opI0 fun _ _ _ _ _ _ _ q => add_int q
theorem op_sub : OpR X (binaryOp .Sub) (rI0 fun i j => .int (i - j)) := opI0 fun _ _ _ _ _ _ _ q => sub_int q
theorem op_mul : OpR X (binaryOp .Mult) (rI CMul fun i j => .int (i * j)) := opI fun _ _ _ _ _ _ _ hc q => mul_int q hc.ok
theorem op_fdiv : OpR X (binaryOp .FloorDiv) (rI CDiv fun i j => .int (i / j)) := opI fun i j _ _ _ _ _ hc q => by
  have h1 : (0 : Int) < j := hc.1
  have h2 : j < 1073741824 := hc.2
  exact floordiv_int (by omega) (by rw [Int.fdiv_eq_ediv_of_nonneg i (by omega)]; exact q) (.inl (PyProof.noPylong_small (by omega)))
theorem op_mod : OpR X (binaryOp .Mod) (rI (fun _ j => 0 < j) fun i j => .int (i % j)) := opI fun i j _ _ _ _ _ hc q => by
  have h1 : (0 : Int) < j := hc
  exact mod_int' (by omega) (by rw [Int.fmod_eq_emod_of_nonneg i (by omega)]; exact q)
theorem op_pow : OpR X (binaryOp .Pow) (rI CPow fun i j => .int (i ^ j.toNat)) := opI fun _ _ _ _ _ _ _ hc q => pow_int_small hc.1 hc.2.1 hc.2.2 q
theorem unI {f : Value → Sem Value} {g : Int → Int}
    (rule : ∀ (i : Int) (t : Tok) (s : Shared) (Q : Value → Shared → Prop) (E : Value → Shared → Prop), Q (.int (g i) s.toks) { s with toks := s.toks + 1 } → wpAny (model X.prog X.w) X.A (f (.int i t)) Q E s) :
    UnR X f (rU fun i => .int (g i)) := by
  intro pins s σ H x v Q I rx h
  obtain ⟨i, rfl, q⟩ := h
  obtain ⟨t, rfl⟩ := rx
  exact rule i t s _ _ ⟨.int (g i), H, I.tok _, ⟨_, rfl⟩, q⟩
theorem un_neg : UnR X (unaryOp .USub) (rU fun i => .int (-i)) := unI fun _ _ _ _ _ q => neg_int q
end
noncomputable def scal : V → V → Bool
  | .non, .non => true | .non, .int _ => true | .int _, .non => true | .non, .bl _ => true | .bl _, .non => true | .non, .str _ => true | .str _, .non => true
  | .int _, .int _ => true | .bl _, .bl _ => true | .str _, .str _ => true | .byt _, .byt _ => true
  | .int _, .str _ => true | .str _, .int _ => true | .bl _, .str _ => true | .str _, .bl _ => true
  | _, _ => false
inductive rEq (x y : V) (H : Hp) (Q : VK) : Prop
  | mk (s : scal x y = true) (q : Q (.bl (decide (x = y))) H) : rEq x y H Q
inductive rNe (x y : V) (H : Hp) (Q : VK) : Prop
  | mk (s : scal x y = true) (q : Q (.bl (!decide (x = y))) H) : rNe x y H Q
theorem dec_int {i j : Int} : decide (V.int i = V.int j) = (i == j) := by
  rw [Bool.eq_iff_iff]
  simp
theorem dec_bl {i j : Bool} : decide (V.bl i = V.bl j) = (i == j) := by
  rw [Bool.eq_iff_iff]
  simp
theorem dec_str {i j : Str} : decide (V.str i = V.str j) = (i == j) := by
  rw [Bool.eq_iff_iff]
  simp
theorem dec_byt {i j : Array UInt8} : decide (V.byt i = V.byt j) = (i.toList == j.toList) := by
  rw [Bool.eq_iff_iff]
  cases i
  cases j
  simp
section
variable {X : Cx} {a b c : Expr} {ta tb tc : TE} {pos : Pos}
theorem fin_bl {pins : List (Addr × Obj)} {σ : St} {H : Hp} {s : Shared} {Q : VK} {k k' : Bool} (I : Inv X pins σ H s) (q : Q (.bl k) H) (e : k = k') : EP X pins σ Q (.bool k') s := by
  subst e
  exact ⟨.bl k, H, I, rfl, q⟩
theorem op_eq : OpR X (compareOp .Eq) rEq := by
  intro pins s σ H x y v u Q I rx ry h
  obtain ⟨hs, q⟩ := h
  cases x with
  | non =>
    cases rx
    cases y with
    | non => cases ry; exact PySem.EqNone.eq_none_none (fin_bl I q (by simp))
    | bl j => cases ry; exact PySem.EqNone.eq_none_bool (fin_bl I q (by simp))
    | int j => obtain ⟨t', rfl⟩ := ry; exact PySem.EqNone.eq_none_int (fin_bl I q (by simp))
    | str j => obtain ⟨t', rfl⟩ := ry; exact PySem.EqNone.eq_none_str (fin_bl I q (by simp))
    | _ => exact absurd (show false = true from hs) Bool.false_ne_true
  | bl i =>
    cases rx
    cases y with
    | non => cases ry; exact PySem.EqNone.eq_bool_none (fin_bl I q (by simp))
    | bl j => cases ry; exact eq_bool (fin_bl I q dec_bl)
    | str j => obtain ⟨t', rfl⟩ := ry; exact PySem.EqMixed.eq_bool_str (fin_bl I q (by simp))
    | _ => exact absurd (show false = true from hs) Bool.false_ne_true
  | int i =>
    obtain ⟨t, rfl⟩ := rx
    cases y with
    | non => cases ry; exact PySem.EqNone.eq_int_none (fin_bl I q (by simp))
    | int j => obtain ⟨t', rfl⟩ := ry; exact eq_int (fin_bl I q dec_int)
    | str j => obtain ⟨t', rfl⟩ := ry; exact PySem.EqMixed.eq_int_str (fin_bl I q (by simp))
    | _ => exact absurd (show false = true from hs) Bool.false_ne_true
  | str i =>
    obtain ⟨t, rfl⟩ := rx
    cases y with
    | non => cases ry; exact PySem.EqNone.eq_str_none (fin_bl I q (by simp))
    | bl j => cases ry; exact PySem.EqMixed.eq_str_bool (fin_bl I q (by simp))
    | int j => obtain ⟨t', rfl⟩ := ry; exact PySem.EqMixed.eq_str_int (fin_bl I q (by simp))
    | str j => obtain ⟨t', rfl⟩ := ry; exact eq_str (fin_bl I q dec_str)
    | _ => exact absurd (show false = true from hs) Bool.false_ne_true
  | byt i =>
    obtain ⟨t, rfl⟩ := rx
    cases y with
    | byt j => obtain ⟨t', rfl⟩ := ry; exact PySem.W.eq_bytes (fin_bl I q dec_byt)
    | _ => exact absurd (show false = true from hs) Bool.false_ne_true
  | _ => cases y <;> exact absurd (show false = true from hs) Bool.false_ne_true
theorem op_ne : OpR X (compareOp .NotEq) rNe := by
  intro pins s σ H x y v u Q I rx ry h
  obtain ⟨hs, q⟩ := h
  cases x with
  | non =>
    cases rx
    cases y with
    | non => cases ry; exact PySem.EqNone.ne_none_none (fin_bl I q (by simp))
    | bl j => cases ry; exact PySem.EqNone.ne_none_bool (fin_bl I q (by simp))
    | int j => obtain ⟨t', rfl⟩ := ry; exact PySem.EqNone.ne_none_int (fin_bl I q (by simp))
    | str j => obtain ⟨t', rfl⟩ := ry; exact PySem.EqNone.ne_none_str (fin_bl I q (by simp))
    | _ => exact absurd (show false = true from hs) Bool.false_ne_true
  | bl i =>
    cases rx
    cases y with
    | non => cases ry; exact PySem.EqNone.ne_bool_none (fin_bl I q (by simp))
    | bl j => cases ry; exact ne_bool (fin_bl I q (congrArg not dec_bl))
    | str j => obtain ⟨t', rfl⟩ := ry; exact PySem.EqMixed.ne_bool_str (fin_bl I q (by simp))
    | _ => exact absurd (show false = true from hs) Bool.false_ne_true
  | int i =>
    obtain ⟨t, rfl⟩ := rx
    cases y with
    | non => cases ry; exact PySem.EqNone.ne_int_none (fin_bl I q (by simp))
    | int j => obtain ⟨t', rfl⟩ := ry; exact ne_int (fin_bl I q (congrArg not dec_int))
    | str j => obtain ⟨t', rfl⟩ := ry; exact PySem.EqMixed.ne_int_str (fin_bl I q (by simp))
    | _ => exact absurd (show false = true from hs) Bool.false_ne_true
  | str i =>
    obtain ⟨t, rfl⟩ := rx
    cases y with
    | non => cases ry; exact PySem.EqNone.ne_str_none (fin_bl I q (by simp))
    | bl j => cases ry; exact PySem.EqMixed.ne_str_bool (fin_bl I q (by simp))
    | int j => obtain ⟨t', rfl⟩ := ry; exact PySem.EqMixed.ne_str_int (fin_bl I q (by simp))
    | str j => obtain ⟨t', rfl⟩ := ry; exact ne_str (fin_bl I q (congrArg not dec_str))
    | _ => exact absurd (show false = true from hs) Bool.false_ne_true
  | byt i =>
    obtain ⟨t, rfl⟩ := rx
    cases y with
    | byt j => obtain ⟨t', rfl⟩ := ry; exact PySem.W.ne_bytes (fin_bl I q (congrArg not dec_byt))
    | _ => exact absurd (show false = true from hs) Bool.false_ne_true
  | _ => cases y <;> exact absurd (show false = true from hs) Bool.false_ne_true
theorem op_lt : OpR X (compareOp .Lt) (rI0 fun i j => .bl (decide (i < j))) := opB0 fun _ _ _ _ _ _ _ q => lt_int q
theorem op_le : OpR X (compareOp .LtE) (rI0 fun i j => .bl (decide (i ≤ j))) := opB0 fun _ _ _ _ _ _ _ q => le_int q
theorem op_gt : OpR X (compareOp .Gt) (rI0 fun i j => .bl (decide (j < i))) := opB0 fun _ _ _ _ _ _ _ q => gt_int q
theorem op_isN : OpR X (compareOp .Is) (fun x y H Q => y = .non ∧ Q (.bl (decide (x = .non))) H) := by
  intro pins s σ H x y v u Q I rx ry h
  obtain ⟨rfl, q⟩ := h
  cases ry
  refine is_none_gen (fin_bl I q ?_)
  cases x <;> first
    | (cases rx; rfl)
    | (obtain ⟨t, rfl⟩ := rx; rfl)
theorem nomark (b : Expr) {op : CmpOp} (h : op ≠ .In := by decide) (h2 : op ≠ .NotIn := by decide) : behindInMarks op b = false := by
  have e1 : (op == CmpOp.In) = false := by cases op <;> first | rfl | exact absurd rfl h
  have e2 : (op == CmpOp.NotIn) = false := by cases op <;> first | rfl | exact absurd rfl h2
  cases b <;> simp [behindInMarks, e1, e2]
theorem pe_cmpR {op : CmpOp} {r : R2} (ho : OpR X (compareOp op) r) (ha : PE X a ta) (hb : PE X b tb) (hm : behindInMarks op b = false) : PE X (.Compare a [op] [b] pos) (tOp r ta tb) := by
  intro pins s σ H Q I h
  exact wpAny_Compare1 (binT ha hb I h fun v u s2 x y H2 I2 rx ry q => ho pins s2 σ H2 x y v u Q I2 rx ry q) hm
noncomputable def tTest (t : TE) : TT := fun σ H Q => t σ H (isBl Q)
theorem pt_cmpR {op : CmpOp} {r : R2} (ho : OpR X (compareOp op) r) (ha : PE X a ta) (hb : PE X b tb) (hm : behindInMarks op b = false) : PT X (.Compare a [op] [b] pos) (tTest (tOp r ta tb)) := by
  intro pins s σ H Q I h
  refine wpAny_isTrue_Compare1 (thn (ha pins s σ H _ I h) fun v s1 ⟨x, H1, I1, r1, q1⟩ => thn (hb pins s1 σ H1 _ I1 q1) fun u s2 ⟨y, H2, I2, r2, q2⟩ =>
    thn (ho pins s2 σ H2 x y v u _ I2 r1 r2 q2) fun c s3 ⟨z, H3, I3, r3, k, e, q3⟩ => ?_) hm
  subst e
  cases r3
  exact wpAny_truthy_bool ⟨H3, I3, q3⟩
noncomputable def tChain (r r' : R2) (ta tb tc : TE) : TE := fun σ H Q => ta σ H fun x H1 => tb σ H1 fun y H2 => r x y H2 fun z H3 => ∃ k, z = .bl k ∧
  (if k = true then tc σ H3 fun w' H4 => r' y w' H4 Q else Q (.bl false) H3)
theorem pe_chain {op op' : CmpOp} {r r' : R2} (ho : OpR X (compareOp op) r) (ho' : OpR X (compareOp op') r') (ha : PE X a ta) (hb : PE X b tb) (hc : PE X c tc)
    (hm : lastMarks [op, op'] [b, c] = false := by with_unfolding_all rfl) : PE X (.Compare a [op, op'] [b, c] pos) (tChain r r' ta tb tc) := by
  intro pins s σ H Q I h
  refine Compare_chain (thn (ha pins s σ H _ I h) fun v s1 ⟨x, H1, I1, r1, q1⟩ => chain_link (thn (hb pins s1 σ H1 _ I1 q1) fun u s2 ⟨y, H2, I2, r2, q2⟩ =>
    thn (ho pins s2 σ H2 x y v u _ I2 r1 r2 q2) fun d s3 ⟨z, H3, I3, r3, k, e, q3⟩ => ?_)) hm
  subst e
  cases r3
  refine wpAny_truthy_bool ?_
  cases k with
  | false => exact ite_ff ⟨.bl false, H3, I3, rfl, q3⟩
  | true => exact ite_tt (chain_last (thn (hc pins s3 σ H3 _ I3 q3) fun w' s4 ⟨z', H4, I4, r4, q4⟩ => ho' pins s4 σ H4 y z' u w' Q I4 r2 r4 q4))
theorem pt_chain {op op' : CmpOp} {r r' : R2} (ho : OpR X (compareOp op) r) (ho' : OpR X (compareOp op') r') (ha : PE X a ta) (hb : PE X b tb) (hc : PE X c tc)
    (hm : lastMarks [op, op'] [b, c] = false := by with_unfolding_all rfl) : PT X (.Compare a [op, op'] [b, c] pos) (tTest (tChain r r' ta tb tc)) := by
  intro pins s σ H Q I h
  refine isTrue_chain (thn (ha pins s σ H _ I h) fun v s1 ⟨x, H1, I1, r1, q1⟩ => test_link (thn (hb pins s1 σ H1 _ I1 q1) fun u s2 ⟨y, H2, I2, r2, q2⟩ =>
    thn (ho pins s2 σ H2 x y v u _ I2 r1 r2 q2) fun d s3 ⟨z, H3, I3, r3, k, e, q3⟩ => ?_)) hm
  subst e
  cases r3
  refine wpAny_truthy_bool ?_
  cases k with
  | false =>
    obtain ⟨k', e', q'⟩ := q3
    cases e'
    exact ite_ff ⟨H3, I3, q'⟩
  | true =>
    refine ite_tt (test_last (thn (hc pins s3 σ H3 _ I3 q3) fun w' s4 ⟨z', H4, I4, r4, q4⟩ => thn (ho' pins s4 σ H4 y z' u w' _ I4 r2 r4 q4) fun d' s5 ⟨z2, H5, I5, r5, k2, e2, q5⟩ => ?_))
    subst e2
    cases r5
    exact wpAny_truthy_bool ⟨H5, I5, q5⟩
theorem line63 : (sizeLine : Nat) < 2 ^ 63 := by rw [sizeLine_eq]; decide
theorem vals1 {x : V} {us : List Value} (r : Vals [x] us) : ∃ u, us = [u] ∧ RelV x u := by
  cases r with
  | cons r1 r2 => cases r2; exact ⟨_, rfl, r1⟩
theorem vals2 {x y : V} {us : List Value} (r : Vals [x, y] us) : ∃ u w', us = [u, w'] ∧ RelV x u ∧ RelV y w' := by
  cases r with
  | cons r1 r2 =>
    cases r2 with
    | cons r3 r4 => cases r4; exact ⟨_, _, rfl, r1, r3⟩
theorem call_min2 (hc : X.calm = true) : CallR X (.builtin "min") (fun xs H Q => ∃ i j, xs = [.int i, .int j] ∧ Q (.int (if j < i then j else i)) H) := by
  intro pins s σ H xs us Q I r h
  obtain ⟨i, j, rfl, q⟩ := h
  obtain ⟨u, w', rfl, ⟨t, rfl⟩, ⟨t', rfl⟩⟩ := vals2 r
  refine min_two_ints (I.ok.hd hc) fun h' tk k => ⟨_, H, I.kept k, ?_, q⟩
  by_cases hj : j < i
  · rw [if_pos hj, if_pos hj]; exact ⟨_, rfl⟩
  · rw [if_neg hj, if_neg hj]; exact ⟨_, rfl⟩
end
end L2
namespace L2
open PySem PySem.Spec PyProof.Rows
structure ObjM (h : Heap) (x dx C : Addr) (mA : Str → Option Value) : Prop where
  obj : h.get? x = some (PySem.W.instObj C dx)
  ns : h.Ns1 dx mA
  ne : dx ≠ x
theorem lookIn_ns {h : Heap} {dx : Addr} {mA : Str → Option Value} (n : h.Ns1 dx mA) : ∃ od, h.get? dx = some od ∧ ∀ name, PySem.W.lookIn name od = some (mA name) := by
  obtain ⟨o, es, ep, ho, hd, hk, _, hm⟩ := n
  refine ⟨o, ho, fun name => ?_⟩
  have e := hm name
  unfold nsFind findBy at e
  rw [← Array.find?_toList] at e
  unfold PySem.W.lookIn
  rw [hd]
  dsimp only
  split
  · rename_i y q
    rw [q] at e
    exact congrArg some e
  · rename_i q
    rw [q] at e
    have a : es.toList.any (·.refKey) = false := by
      rw [List.any_eq_false]
      intro y hy
      obtain ⟨z, t, hkey⟩ := hk y (Array.mem_toList_iff.mp hy)
      simp [DictEntry.refKey, hkey]
    have a' : ¬ es.toList.any (·.refKey) = true := by rw [a]; exact Bool.false_ne_true
    rw [if_neg a']
    exact congrArg some e
theorem ObjM.look {h : Heap} {x dx C : Addr} {mA : Str → Option Value} (I : ObjM h x dx C mA) : ∃ od, PySem.W.InstAt h x (PySem.W.instObj C dx) C (some od) ∧ ∀ name, PySem.W.lookIn name od = some (mA name) :=
  let ⟨od, ho, hl⟩ := lookIn_ns I.ns
  ⟨od, ⟨I.obj, rfl, rfl, ho⟩, hl⟩
section
variable {prog : Program} {w : World} {A : Around} {E : Value → Shared → Prop} {s : Shared} {K : PySem.W.Frag} {x dx C f : Addr} {mA : Str → Option Value} {name : Str} {v : Value}
end
section
variable {P : Program} {w : World} {H H' : Hp} {h h' : Heap} {a C dx : Addr} {fs fs' : List (Str × V)}
theorem ins_get (hok : HOk P w H h) (e : H a = some (.ins C dx fs)) : ∃ mA, ObjM h a dx C mA ∧ (∀ f, RelO (fs.lookup f) (mA f)) ∧ PySem.Within mA (fs.map (·.1)) ∧ fs.length ≤ 1000 ∧ H dx = some (.own a) := by
  obtain ⟨d, z, ne, ob, mA, n, r, q⟩ := (show ObjOk P w H h a (.ins C dx fs) from hok a _ e)
  exact ⟨mA, ⟨ob, n, ne⟩, r, q, z, d⟩
end
structure Cls (K : PySem.W.Frag) (C : Addr) : Prop where
  pg : PySem.W.plainGet K C Str.empty = true
  hd : PySem.W.hasDictIn K C = true
  po : PySem.W.plainOver K C = true
  sa : PySem.W.findIn K (.ref C) "__setattr__" = some (some (.builtin "object.__setattr__"))
theorem Cls.get {K : PySem.W.Frag} {C : Addr} (c : Cls K C) (f : Str) : PySem.W.plainGet K C f = true := c.pg
section
variable {X : Cx} {pins : List (Addr × Obj)} {σ : St} {H : Hp} {s : Shared} {a C dx : Addr} {fs : List (Str × V)} {f : Str} {v : V} {A : Around} {E : Value → Shared → Prop}
end
section
variable {X : Cx} {o e value : Expr} {f : Str} {pos pos' tpos : Pos} {ta tv : TE}
end
section
variable {X : Cx} {pins : List (Addr × Obj)} {σ : St} {H : Hp} {s : Shared} {A : Around} {E : Value → Shared → Prop} {Q : Value → Shared → Prop} {c : Value} {b : Bool}
inductive TyOf (K : PySem.W.Frag) (H : Hp) : V → Value → Prop where
  | non : TyOf K H .non (.type "NoneType")
  | bl (x : Bool) : TyOf K H (.bl x) (.type "bool")
  | int (i : Int) : TyOf K H (.int i) (.type "int")
  | str (x : Str) : TyOf K H (.str x) (.type "str")
  | flt (x : UInt64) : TyOf K H (.flt x) (.type "float")
  | lst {a : Addr} {xs : List V} (e : H a = some (.lst xs)) : TyOf K H (.ref a) (.type "list")
  | frz {a : Addr} {o : Obj} {xs : List V} (e : H a = some (.frz o (.lst xs))) : TyOf K H (.ref a) (.type "list")
  | tup {a : Addr} {xs : List V} (e : H a = some (.tup xs)) : TyOf K H (.ref a) (.type "tuple")
  | dK {a : Addr} {kvs : List (Key × V)} (e : H a = some (.dK kvs)) : TyOf K H (.ref a) (.type "dict")
  | dT {a : Addr} {kvs : List (List Key × V)} (e : H a = some (.dT kvs)) : TyOf K H (.ref a) (.type "dict")
  | ins {a C dx : Addr} {fs : List (Str × V)} (e : H a = some (.ins C dx fs)) (cl : Cls K C) (ha : PySem.W.findIn K (.ref C) "__class__" = some (some (.builtin "object.__class__")))
      (hn : PySem.W.specialIn K (.builtin "object.__class__") "__get__" = some (some (.builtin "getset_descriptor.__get__"))) (htk : PySem.W.takesIn K (.builtin "object.__class__") = some true)
      (hm : PySem.W.mroIn K C (.type "object") = some true) : TyOf K H (.ref a) (.ref C)
theorem isinst_ok {x : V} {u t : Value} (I : Inv X pins σ H s) (rx : RelV x u) (ty : TyOf X.K H x t) (e : PySem.W.kitOne X.K t c = some b) (h : ∀ tk, Q (.bool b) { s with toks := tk }) :
    wpAny (model X.prog X.w) A (call (.builtin "isinstance") [u, c]) Q E s := by
  cases ty with
  | non => cases (show u = Value.none from rx); exact PySem.W.kia_one PySem.W.kitx_none I.kIn True.intro e (fun z => nomatch z) h
  | bl y => cases (show u = Value.bool y from rx); exact PySem.W.kia_one PySem.W.kitx_bool I.kIn True.intro e (fun z => nomatch z) h
  | int i => obtain ⟨t, q⟩ := (show ∃ t, u = Value.int i t from rx); cases q; exact PySem.W.kia_one PySem.W.kitx_int I.kIn True.intro e (fun z => nomatch z) h
  | str y => obtain ⟨t, q⟩ := (show ∃ t, u = Value.str y t from rx); cases q; exact PySem.W.kia_one PySem.W.kitx_str I.kIn True.intro e (fun z => nomatch z) h
  | flt y => obtain ⟨t, q⟩ := (show ∃ t, u = Value.float y t from rx); cases q; exact PySem.W.kia_one PySem.W.kitx_float I.kIn True.intro e (fun z => nomatch z) h
  | @lst a xs ea =>
    cases (show u = Value.ref a from rx)
    obtain ⟨_, _, n, _, h1⟩ := (show ObjOk X.prog X.w H s.heap a (.lst xs) from I.hok a _ ea)
    exact PySem.W.kia_one PySem.W.kitx_list I.kIn ⟨_, h1, rfl⟩ e (fun z => nomatch z) h
  | @frz a ob xs ea =>
    cases (show u = Value.ref a from rx)
    obtain ⟨_, _, _, n, _, h1⟩ := (show ObjOk X.prog X.w H s.heap a (.frz ob (.lst xs)) from I.hok a _ ea)
    exact PySem.W.kia_one PySem.W.kitx_list I.kIn ⟨_, h1, rfl⟩ e (fun z => nomatch z) h
  | @tup a xs ea =>
    cases (show u = Value.ref a from rx)
    obtain ⟨_, _, _, p⟩ := (show ObjOk X.prog X.w H s.heap a (.tup xs) from I.hok a _ ea)
    obtain ⟨o, h1, h2, _⟩ := p
    exact PySem.W.kia_one PySem.W.kitx_tuple I.kIn ⟨o, h1, h2⟩ e (fun z => nomatch z) h
  | @dK a kvs ea =>
    cases (show u = Value.ref a from rx)
    obtain ⟨_, _, vs, _, p⟩ := (show ObjOk X.prog X.w H s.heap a (.dK kvs) from I.hok a _ ea)
    obtain ⟨o, es, ep, h1, h2, _⟩ := p
    exact PySem.W.kia_one PySem.W.kitx_dict I.kIn ⟨o, h1, h2.1⟩ e (fun z => nomatch z) h
  | @dT a kvs ea =>
    cases (show u = Value.ref a from rx)
    obtain ⟨_, _, xs, _, o, es, ep, h1, h2, _⟩ := (show ObjOk X.prog X.w H s.heap a (.dT kvs) from I.hok a _ ea)
    exact PySem.W.kia_one PySem.W.kitx_dict I.kIn ⟨o, h1, h2.1⟩ e (fun z => nomatch z) h
  | @ins a C dx fs ea cl ha hn htk hm =>
    cases (show u = Value.ref a from rx)
    obtain ⟨mA, O, _⟩ := ins_get I.hok ea
    obtain ⟨od, J, _⟩ := O.look
    exact PySem.W.kia_one (PySem.W.kitx_own (cl.get _) cl.hd ha hn htk hm) I.kIn J e (fun z => nomatch z) h
end
end L2
namespace L2
open PySem PySem.Spec PyProof.Rows
structure Room (k : Nat) (A : Around) : Prop where
  hd : A.handled = none
  dp : A.depth + 3 * k + 5 < recursionLimit
  un : A.units + 16 * k + 200 < cLine
theorem Room.mono {j k : Nat} {A : Around} (r : Room k A) (h : j ≤ k) : Room j A := ⟨r.hd, by have := r.dp; omega, by have := r.un; omega⟩
theorem Room.deeper {k : Nat} {A : Around} (r : Room (k + 1) A) (env : Env) : Room k (A.deeper env) :=
  ⟨r.hd, by have := r.dp; show A.depth + 1 + 3 * k + 5 < _; omega, by have := r.un; show A.units + 3 + 16 * k + 200 < _; omega⟩
theorem Room.depth {k : Nat} {A : Around} (r : Room k A) : A.depth < recursionLimit := by have := r.dp; omega
theorem Room.units {k : Nat} {A : Around} (r : Room k A) : A.units + 64 < cLine := by have := r.un; omega
noncomputable def tNil : TA := fun _ H Q => Q [] H
noncomputable def tCons (ta : TE) (tr : TA) : TA := fun σ H Q => ta σ H fun x H1 => tr σ H1 fun xs H2 => Q (x :: xs) H2
section
variable {X : Cx} {e : Expr} {es : List Expr} {te : TE} {t : TA} {pos : Pos}
theorem pa_nil : PA X [] tNil := fun _ _ _ _ H Q I h => Calls.spliced_nil ⟨[], H, I, .nil, h⟩
theorem pa_cons (ha : PE X e te) (hr : PA X es t) (hs : starEach (e :: es) X.env = (false, eval e X.env) :: starEach es X.env := by rfl) : PA X (e :: es) (tCons te t) := by
  intro pos pins s σ H Q I h
  rw [hs]
  show wpAny _ _ (spliced ((false, eval e X.env) :: backTo pos (starEach es X.env))) _ _ s
  refine Calls.spliced_cons (thn (ha pins s σ H _ I h) fun u s1 ⟨x, H1, I1, r1, q1⟩ => ?_)
  exact thn (hr pos pins s1 σ H1 _ I1 q1) fun us s2 ⟨xs, H2, I2, r2, q2⟩ => ⟨x :: xs, H2, I2, .cons r1 r2, q2⟩
inductive isNew (g : List V → HO) (Q : VK) (xs : List V) (H1 : Hp) : Prop
  | mk (z : xs.length ≤ sizeLine) (q : ∀ p, H1 p = none → Q (.ref p) (upd H1 p (g xs))) : isNew g Q xs H1
noncomputable def tTup (t : TA) : TE := fun σ H Q => t σ H (isNew .tup Q)
noncomputable def tLst (t : TA) : TE := fun σ H Q => t σ H (isNew .lst Q)
theorem pe_tup {x1} (h : PA X es t) : PE X (.Tuple es x1 pos) (tTup t) := by
  intro pins s σ H Q I hq
  refine wpAny_Tuple_spliced (thn (h pos pins s σ H _ I hq) fun us s1 ⟨xs, H1, I1, r, z, q⟩ => ⟨by rw [← r.length]; exact z, ?_⟩)
  have hf : H1 s1.heap.objs.size = none := I1.hok.fresh (Nat.le_refl _)
  refine ⟨.ref s1.heap.objs.size, upd H1 s1.heap.objs.size (.tup xs), I1.laid (t' := s1.toks) (fun b u e => Heap.get?_push_of_some _ e) (Nat.le_refl _) ?_, rfl, q _ hf⟩
  exact ⟨z, us, r, ⟨_, Heap.get?_push_size _ rfl, rfl, _, rfl⟩⟩
theorem pe_lst (h : PA X es t) : PE X (.List es pos) (tLst t) := by
  intro pins s σ H Q I hq
  refine wpAny_List_spliced (thn (h pos pins s σ H _ I hq) fun us s1 ⟨xs, H1, I1, r, z, q⟩ => ⟨by rw [← r.length]; exact z, ?_⟩)
  have hf : H1 s1.heap.objs.size = none := I1.hok.fresh (Nat.le_refl _)
  refine ⟨.ref s1.heap.objs.size, upd H1 s1.heap.objs.size (.lst xs), I1.laid (t' := s1.toks) (fun b u e => Heap.get?_push_of_some _ e) (Nat.le_refl _) ?_, rfl, q _ hf⟩
  exact ⟨z, us, 0, r, Heap.get?_push_size _ rfl⟩
end
noncomputable abbrev Sp := List V → Hp → VK → XK → Prop
noncomputable abbrev CXT := List Env → Hp → Shared → XK → Value → Shared → Prop
structure Env0 (P : Program) (w : World) (K : PySem.W.Frag) (mg : Str → Option Value) (base : Heap) (A : Around) (outer : List Env) (s : Shared) (H : Hp) : Prop where
  frames : A.frames = some outer
  mod : Mod K mg base
  bs : ∀ b o, base.get? b = some o → s.heap.get? b = some o ∧ H b = none
  bsz : base.objs.size ≤ s.heap.objs.size
  funs : s.heap.FunFrames base outer
  frf : ∀ b ∈ frs outer, H b = none
  hok : HOk P w H s.heap
  bare : AllBare s.gens
noncomputable def CE (outer : List Env) (P : Program) (w : World) (H : Hp) (s : Shared) (Q : VK) (u : Value) (s' : Shared) : Prop :=
  ∃ v H', s'.os = s.os ∧ AllBare s'.gens ∧ Un (frs outer) [] H H' s.heap s'.heap ∧ HOk P w H' s'.heap ∧ RelV v u ∧ Q v H'
noncomputable def CR (CX : CXT) (outer : List Env) (P : Program) (w : World) (H : Hp) (s : Shared) (Q : VK) (E : XK) (r : Result) (s' : Shared) : Prop :=
  match r with
  | .ok (.ret u) => CE outer P w H s Q u s'
  | .ok _ => False
  | .error e => CX outer H s E e s'
structure FnOk (P : Program) (w : World) (K : PySem.W.Frag) (mg : Str → Option Value) (base : Heap) (CX : CXT) (k : Nat) (f : Addr) (fd : FuncData) (ps : List Str) (sp : Sp) : Prop where
  len : ∀ vs H Q E, sp vs H Q E → vs.length = ps.length
  run : ∀ (A : Around) (outer : List Env) (s : Shared) (H : Hp) (args : Args) (us : List Value) (vs : List V) (Q : VK) (E : XK), Room k A → Env0 P w K mg base A outer s H → BindsTo s fd args (ps.zip us) → Vals vs us → sp vs H Q E →
    codeAny (model P w) A (.call (.ref f) args) (CR CX outer P w H s Q E) s
section
variable {X : Cx} {pins : List (Addr × Obj)} {σ : St} {H : Hp} {s s' : Shared}
theorem Inv.env0 (I : Inv X pins σ H s) : Env0 X.prog X.w X.K X.mg X.base X.A X.stack s H :=
  ⟨I.ok.frames, I.ok.mod, I.bs, Nat.le_trans I.ok.bsz I.sz, I.stack, I.stkFree, I.hok, I.bare⟩
theorem Inv.after {Q : VK} {u : Value} (I : Inv X pins σ H s) (h : CE X.stack X.prog X.w H s Q u s') : EP X pins σ Q u s' := by
  obtain ⟨v, H', os, bare, un, hok, r, q⟩ := h
  obtain ⟨hh, g, d, t, os'⟩ := s'
  obtain rfl : os' = s.os := os
  exact ⟨v, H', I.call (h' := hh) (g' := g) (d' := d) (t' := t) (ch := []) un hok bare (fun b z => absurd z (by simp)), r, q⟩
end
noncomputable def tCall (sp : Sp) (dvs : List V) (E : XK) (t : TA) : TE := fun σ H Q => t σ H fun vs H1 => sp (vs ++ dvs) H1 Q E
noncomputable def Binds (K : PySem.W.Frag) (fd : FuncData) (ps : List Str) (ds : List Value) : Prop :=
  ∀ (s : Shared) (us : List Value), K.In s.heap → (us ++ ds).length = ps.length → BindsTo s fd ⟨us, []⟩ (ps.zip (us ++ ds))
theorem Binds.all {K : PySem.W.Frag} {fd : FuncData} {ps : List Str} (h : ∀ us : List Value, us.length = ps.length → bindArgs fd ⟨us, []⟩ = pure (ps.zip us)) : Binds K fd ps [] := fun s us _ hl => by
  rw [List.append_nil] at hl ⊢
  exact .of_eq (h us hl)
noncomputable def Passes (CX : CXT) (X : Cx) (E : XK) : Prop := ∀ (pins : List (Addr × Obj)) (σ : St) (H : Hp) (s : Shared) (e : Value) (s' : Shared), Inv X pins σ H s → CX X.stack H s E e s' → X.xe e s'
section
variable {X : Cx} {CX : CXT} {k : Nat} {f C : Addr} {fd : FuncData} {ps : List Str} {sp : Sp} {dvs : List V} {ds : List Value} {E : XK} {x m : Str} {p pos apos : Pos} {e o : Expr} {es : List Expr} {ta : TE} {t : TA}
theorem run_fn {pins : List (Addr × Obj)} {σ : St} {H : Hp} {s : Shared} {Q : VK} {us : List Value} {vs : List V} (F : FnOk X.prog X.w X.K X.mg X.base CX k f fd ps sp) (hr : Room k X.A) (hb : Binds X.K fd ps ds) (hd : Vals dvs ds) (hx : Passes CX X E)
    (I : Inv X pins σ H s) (r : Vals vs us) (h : sp (vs ++ dvs) H Q E) : wpAny (model X.prog X.w) X.A (call (.ref f) us) (EP X pins σ Q) X.xe s := by
  have r2 : Vals (vs ++ dvs) (us ++ ds) := r.append hd
  have hl : (us ++ ds).length = ps.length := by rw [← r2.length]; exact F.len _ _ _ _ h
  refine wpAny_call (codeAny_mono (F.run X.A X.stack s H ⟨us, []⟩ (us ++ ds) (vs ++ dvs) Q E hr I.env0 (hb s us I.kIn hl) r2 h) fun r s' hq => ?_)
  cases r with
  | error e => exact hx pins σ H s e s' I hq
  | ok fl =>
    cases fl with
    | ret u => exact I.after hq
    | next => exact False.elim hq
    | brk => exact False.elim hq
    | cont => exact False.elim hq
theorem pe_call (F : FnOk X.prog X.w X.K X.mg X.base CX k f fd ps sp) (hr : Room k X.A) (hg : Gl X x) (hm : X.mg x = some (.ref f)) (hk : PySem.W.keepIn X.K (.ref f) = true) (hb : Binds X.K fd ps ds) (hd : Vals dvs ds) (hx : Passes CX X E)
    (ha : PA X (e :: es) t) (hdb : (x == ("__debug__" : Str)) = false := by decide) (he : starEach (e :: es) X.env = (false, eval e X.env) :: starEach es X.env := by rfl) (hpl : (backTo pos (starEach es X.env)).any (·.1) = false := by rfl) :
    PE X (.Call (.Name x p) (e :: es) [] pos) (tCall sp dvs E t) := by
  intro pins s σ H Q I h
  refine wpAny_Call_Name_kw (ld_glob I hg hm ?_ hdb)
  refine PySem.W.callWith_K (h₀ := X.base) I.ok.mod.kin hk (thn (ha pos pins s σ H _ I h) fun us s1 ⟨vs, H1, I1, r, q⟩ => ⟨I1.kIn, ?_⟩) he hpl
  exact run_fn F hr hb hd hx I1 r q
end
noncomputable def PK (X : Cx) (kws : List Keyword) (t : TA) : Prop :=
  ∀ (pos : Pos) (pins : List (Addr × Obj)) (s : Shared) (σ : St) (H : Hp) (Q : List V → Hp → Prop), Inv X pins σ H s → t σ H Q → wpAny (model X.prog X.w) X.A (evalAll ((backToKw pos (keywordEach kws X.env)).map (·.2))) (AP X pins σ Q) X.xe s
section
variable {X : Cx} {CX : CXT} {k : Nat} {f C : Addr} {fd : FuncData} {ps ks : List Str} {sp : Sp} {E : XK} {x m : Str} {p pos apos kpos : Pos} {e o : Expr} {es : List Expr} {kws : List Keyword} {te ta : TE} {t tk : TA} {nm : Option Str}
theorem pk_nil : PK X [] tNil := fun _ _ _ _ H Q I h => wpAny_evalAll_nil ⟨[], H, I, .nil, h⟩
theorem pk_cons (ha : PE X e te) (hr : PK X kws t) : PK X (⟨nm, e, kpos⟩ :: kws) (tCons te t) := by
  intro pos pins s σ H Q I h
  show wpAny _ _ (evalAll ((do let v ← eval e X.env; standAt pos; pure v) :: (backToKw pos (keywordEach kws X.env)).map (·.2))) _ _ s
  refine wpAny_evalAll_cons (wpAny_bind (thn (ha pins s σ H _ I h) fun u s1 ⟨x, H1, I1, r1, q1⟩ => wpAny_bind (wpAny_standAt (wpAny_pure ?_))))
  exact thn (hr pos pins s1 σ H1 _ I1 q1) fun us s2 ⟨xs, H2, I2, r2, q2⟩ => ⟨x :: xs, H2, I2, .cons r1 r2, q2⟩
variable {g : List Value → List Value → List Value} {gV : List V → List V → List V}
end
structure FnScope (N P : List Str) (sc : Scope) : Prop where
  kind : sc.kind = .function
  co : sc.isCoroutine = false
  gen : sc.isGenerator = false
  nd : N.Nodup
  pre : N.take P.length = P
  par : ∀ x ∈ P, sc.names.lookup x = some .local ∨ sc.names.lookup x = some .cell
  nofree : ∀ y ∈ sc.names, y.2 ≠ .free
theorem bindL_out {kindOf : Str → Option NameKind} {x : Str} : ∀ {binds : List (Str × Value)} {m : Str → Option Value}, (∀ v, (x, v) ∉ binds) → bindL kindOf binds m x = m x
  | [], _, _ => rfl
  | (n, v) :: r, m, h => by
    unfold bindL
    rw [bindL_out fun w hw => h w (List.mem_cons_of_mem _ hw)]
    split
    · have : x ≠ n := by rintro rfl; exact h v List.mem_cons_self
      simp [this]
    · rfl
theorem bindC_out {kindOf : Str → Option NameKind} {x : Str} : ∀ {binds : List (Str × Value)} {m : Str → Option Value}, (∀ v, (x, v) ∉ binds) → bindC kindOf binds m x = m x
  | [], _, _ => rfl
  | (n, v) :: r, m, h => by
    unfold bindC
    rw [bindC_out fun w hw => h w (List.mem_cons_of_mem _ hw)]
    split
    · rfl
    · have : x ≠ n := by rintro rfl; exact h v List.mem_cons_self
      simp [this]
theorem bindL_get {kindOf : Str → Option NameKind} {x : Str} {v : Value} : ∀ {P : List Str} {vs : List Value} {i : Nat} {m : Str → Option Value}, P.Nodup → P[i]? = some x → vs[i]? = some v → kindOf x = some .local →
    bindL kindOf (P.zip vs) m x = some v
  | [], _, _, _, _, h, _, _ => by simp at h
  | _ :: _, [], _, _, _, _, h, _ => by simp at h
  | p :: P, w :: vs, 0, m, nd, h1, h2, hk => by
    simp at h1 h2; subst h1; subst h2
    show bindL kindOf ((p, w) :: P.zip vs) m p = _
    unfold bindL
    rw [bindL_out fun v hv => (List.nodup_cons.mp nd).1 (List.of_mem_zip hv).1, if_pos hk]
    simp
  | p :: P, w :: vs, i + 1, m, nd, h1, h2, hk => by
    show bindL kindOf ((p, w) :: P.zip vs) m x = _
    unfold bindL
    exact bindL_get (i := i) (List.nodup_cons.mp nd).2 (by simpa using h1) (by simpa using h2) hk
theorem bindC_get {kindOf : Str → Option NameKind} {x : Str} {v : Value} : ∀ {P : List Str} {vs : List Value} {i : Nat} {m : Str → Option Value}, P.Nodup → P[i]? = some x → vs[i]? = some v → kindOf x ≠ some .local →
    bindC kindOf (P.zip vs) m x = some v
  | [], _, _, _, _, h, _, _ => by simp at h
  | _ :: _, [], _, _, _, _, h, _ => by simp at h
  | p :: P, w :: vs, 0, m, nd, h1, h2, hk => by
    simp at h1 h2; subst h1; subst h2
    show bindC kindOf ((p, w) :: P.zip vs) m p = _
    unfold bindC
    rw [bindC_out fun v hv => (List.nodup_cons.mp nd).1 (List.of_mem_zip hv).1, if_neg hk]
    simp
  | p :: P, w :: vs, i + 1, m, nd, h1, h2, hk => by
    show bindC kindOf ((p, w) :: P.zip vs) m x = _
    unfold bindC
    exact bindC_get (i := i) (List.nodup_cons.mp nd).2 (by simpa using h1) (by simpa using h2) hk
noncomputable def start (N : List Str) (vs : List V) : St := vs.map some ++ List.replicate (N.length - vs.length) none
noncomputable def cxOf (CX : CXT) (P : Program) (w : World) (K : PySem.W.Frag) (mg : Str → Option Value) (base : Heap) (N : List Str) (qual : Str) (scope : Scope) (f : Addr) (cd : Value) (A : Around) (outer : List Env) (s : Shared) (H : Hp) (E : XK) : Cx where
  prog := P
  w := w
  K := K
  mg := mg
  base := base
  A := A.deeper (envOfC qual scope s.heap.objs.size f cd)
  N := N
  s₀ := s
  H₀ := H
  env := envOfC qual scope s.heap.objs.size f cd
  outer := outer
  stack := envOfC qual scope s.heap.objs.size f cd :: outer
  ex := []
  calm := true
  fn := fun _ => true
  pn := []
  xe := fun e s' => wpAny (model P w) (A.deeper (envOfC qual scope s.heap.objs.size f cd)) (leaving (envOfC qual scope s.heap.objs.size f cd) e) (fun _ s'' => CX outer H s E e s'') (fun e' s'' => CX outer H s E e' s'') s'
theorem cell_has {sc : Scope} {n : Nat} {x : Str} (h : sc.names.lookup x = some .cell) : ∃ c, (cellsFrom n sc.names []).lookup x = some c := by
  have q := PySem.W.cellsFrom_some sc.names n [] (.inl h)
  exact Option.isSome_iff_exists.mp q
theorem inv_start {CX : CXT} {P : Program} {w : World} {K : PySem.W.Frag} {mg : Str → Option Value} {base : Heap} {N ps : List Str} {qual : Str} {scope : Scope} {f : Addr} {cd : Value} {A : Around} {outer : List Env} {s s1 : Shared} {H : Hp} {E : XK} {us : List Value} {vs : List V}
    (S : FnScope N ps scope) (hd : A.handled = none) (e0 : Env0 P w K mg base A outer s H) (hl : vs.length = ps.length) (r : Vals vs us)
    (x : InCallC s s.heap.objs.size (bindL (envOfC qual scope s.heap.objs.size f cd).kindOf (ps.zip us) fun _ => none) (cellsFrom (s.heap.objs.size + 1) scope.names []) (bindC (envOfC qual scope s.heap.objs.size f cd).kindOf (ps.zip us) fun _ => none) s1) :
    Inv (cxOf CX P w K mg base N qual scope f cd A outer s H E) [] (start N vs) H s1 := by
  have hpl : ps.length ≤ N.length := by have := congrArg List.length S.pre; rw [List.length_take] at this; omega
  obtain ⟨h1, tk, rfl, hk⟩ := x.done
  have noA : ∀ b : Addr, b ∉ (cxOf CX P w K mg base N qual scope f cd A outer s H E).ex := fun b z => absurd (show b ∈ ([] : List Addr) from z) (by simp)
  refine ⟨⟨e0.mod, S.kind, rfl, rfl, Nat.le_refl _, fun y z c h1 h2 => ?_, fun y hy => ?_, fun y c _ h => ?_, fun _ => hd, Around.frames_deeper e0.frames, .inr ⟨rfl, rfl⟩, fun b z => absurd z (noA b), e0.bs, e0.bsz, fun b _ _ => noA b, fun b z => absurd z (noA b), e0.funs, e0.frf⟩,
    rfl, e0.bare, Un.kept hk, ⟨_, x.toInCall.ns, fun i y v h1 h2 h3 => ?_⟩, fun y c h => ⟨_, x.cell y c h⟩, e0.hok.fresh (Nat.le_refl _), fun y c h => ?_, fun p hp => absurd (show p ∈ ([] : List (Addr × Obj)) from hp) (by simp), e0.hok.kept hk, ?_⟩
  · exact name_of_addr x.apart (PySem.mem_of_lookup h1) (PySem.mem_of_lookup h2)
  · have hy : scope.names.lookup y = some .cell ∨ scope.names.lookup y = some .free := hy
    rcases hy with hy | hy
    · exact cell_has hy
    · exact absurd rfl (S.nofree _ (PySem.mem_of_lookup hy))
  · exact Nat.le_of_lt (x.above y c (PySem.mem_of_lookup h))
  · have hi : i < vs.length := by
      unfold start at h2
      by_cases hi : i < vs.length
      · exact hi
      · rw [List.getElem?_append_right (by simpa using hi)] at h2
        rw [List.getElem?_replicate] at h2
        split at h2 <;> cases h2
    have ha : vs[i]? = some v := by
      unfold start at h2
      rw [List.getElem?_append_left (by simpa using hi), List.getElem?_map] at h2
      cases e : vs[i]? with
      | none => rw [e] at h2; cases h2
      | some a => rw [e] at h2; cases h2; rfl
    obtain ⟨u, hu, rv⟩ := r.get ha
    have hp : ps[i]? = some y := by
      rw [← S.pre, List.getElem?_take_of_lt (by omega)]; exact h1
    have ndP : ps.Nodup := by rw [← S.pre]; exact S.nd.sublist (List.take_sublist _ _)
    refine ⟨u, rv, ?_⟩
    rcases S.par y (List.mem_of_getElem? hp) with k | k
    · exact .inl ⟨k, bindL_get ndP hp hu k⟩
    · obtain ⟨c, e⟩ := cell_has (n := s.heap.objs.size + 1) k
      refine .inr ⟨.inl k, c, e, ?_⟩
      have q := x.cell y c e
      rw [bindC_get ndP hp hu (by show scope.names.lookup y ≠ _; rw [k]; decide)] at q
      exact q
  · exact e0.hok.fresh (Nat.le_of_lt (x.above y c (PySem.mem_of_lookup h)))
  · unfold start
    show _ = N.length
    rw [List.length_append, List.length_map, List.length_replicate]
    omega
theorem fn_of {CX : CXT} {P : Program} {w : World} {K : PySem.W.Frag} {mg : Str → Option Value} {base : Heap} {k : Nat} {f : Addr} {name qual : Str} {params : Arguments} {body : List Stmt} {scope : Scope} {dV kV doc pm cdv ct oc : Value} {an od : Option Addr}
    {osl : Array (Option Value)} {N ps : List Str} {sp : Sp} (lk : K.lookup f = some ⟨oc, od, .func (PySem.W.fnOf name qual params body scope dV kV doc pm an cdv ct), osl⟩) (hcd : PySem.W.codeIn K cdv qual = true) (S : FnScope N ps scope)
    (len : ∀ vs H Q E, sp vs H Q E → vs.length = ps.length)
    (hbody : ∀ (A : Around) (outer : List Env) (s : Shared) (H : Hp) (vs : List V) (Q : VK) (E : XK), Room k (A.deeper (envOfC qual scope s.heap.objs.size f cdv)) → sp vs H Q E →
      ∃ t, PSs (cxOf CX P w K mg base N qual scope f cdv A outer s H E) body t ∧ t { nx := fun _ H' => Q .non H', rt := Q } (start N vs) H) :
    FnOk P w K mg base CX (k + 1) f (PySem.W.fnOf name qual params body scope dV kV doc pm an cdv ct) ps sp := by
  refine ⟨len, fun A outer s H args us vs Q E hr e0 hb r hsp => ?_⟩
  have hl := len _ _ _ _ hsp
  have KX : K.In s.heap := e0.mod.kin.keeps fun b o e => (e0.bs b o e).1
  have lim : s.heap.NoLimit := e0.mod.nolimit.keeps fun b o e => (e0.bs b o e).1
  have hkind : ∀ y ∈ ps.zip us, scope.names.lookup y.1 = some .local ∨ (scope.names.lookup y.1 = some .cell ∧ ((cellsFrom (s.heap.objs.size + 1) scope.names []).lookup y.1).isSome = true) := fun ⟨n, v⟩ hy => by
    rcases S.par n (List.of_mem_zip hy).1 with q | q
    · exact .inl q
    · exact .inr ⟨q, PySem.W.cellsFrom_some _ _ _ (.inl q)⟩
  refine codeAny_call_function hr.depth (KX _ _ lk) rfl S.co S.gen rfl (PySem.W.codeRec_of KX hcd) (hb _ _ _ _ ?_)
  refine wpAny_newFunctionEnv_cells S.kind hkind fun env he s1 x => ?_
  subst he
  refine ⟨lim.keeps x.toInCall.keep, codeAny_func ?_⟩
  obtain ⟨t, ht, hq⟩ := hbody A outer s H vs Q E (hr.deeper _) hsp
  have I : Inv (cxOf CX P w K mg base N qual scope f cdv A outer s H E) [] (start N vs) H s1 := inv_start S hr.hd e0 hl r x
  refine wpAny_mono (ht [] s1 (start N vs) H _ I hq) (fun fl s' hs => ?_) fun e s' hs => hs
  have fin : ∀ {σ' : St} {H' : Hp} {v : V} {u : Value}, Inv (cxOf CX P w K mg base N qual scope f cdv A outer s H E) [] σ' H' s' → RelV v u → Q v H' → CE outer P w H s Q u s' :=
    fun {σ' H' v u} J rv q => ⟨v, H', J.os, J.bare, J.base, J.hok, rv, q⟩
  cases fl with
  | ret u =>
    obtain ⟨v, σ', H', J, rv, q⟩ := hs
    exact fin J rv q
  | next =>
    obtain ⟨σ', H', J, q⟩ := hs
    exact fin (v := V.non) (u := Value.none) J rfl q
  | brk =>
    obtain ⟨_, _, _, q⟩ := hs
    exact False.elim q
  | cont =>
    obtain ⟨_, _, _, q⟩ := hs
    exact False.elim q
end L2
namespace L2
open PySem PySem.Spec PyProof.Rows
section
variable {X : Cx} {x : Str} {p pos : Pos} {e : Expr} {es : List Expr} {t : TA} {id T : String} {r : List V → Hp → VK → Prop}
noncomputable def tCB (r : List V → Hp → VK → Prop) (t : TA) : TE := fun σ H Q => t σ H fun vs H1 => r vs H1 Q
theorem pe_callB (hc : CallR X (.builtin id) r) (hg : Gl X x) (hm : X.mg x = none) (hv : bootBuiltins x = some (.builtin id)) (ha : PA X (e :: es) t) (hn : x ≠ "__name__" := by decide) (hdb : (x == ("__debug__" : Str)) = false := by decide)
    (he : starEach (e :: es) X.env = (false, eval e X.env) :: starEach es X.env := by rfl) (hpl : (backTo pos (starEach es X.env)).any (·.1) = false := by rfl) : PE X (.Call (.Name x p) (e :: es) [] pos) (tCB r t) := by
  intro pins s σ H Q I h
  refine wpAny_Call_Name_kw (ld_blt I hg hm hv ?_ hn hdb)
  exact PyProof.Rows.callWith_builtin1 (thn (ha pos pins s σ H _ I h) fun us s1 ⟨vs, H1, I1, r1, q1⟩ => hc pins s1 σ H1 vs us Q I1 r1 q1) he hpl
theorem pe_callTy (hc : CallR X (.type T) r) (hg : Gl X x) (hm : X.mg x = none) (hv : bootBuiltins x = some (.type T)) (ha : PA X (e :: es) t) (hn : x ≠ "__name__" := by decide) (hdb : (x == ("__debug__" : Str)) = false := by decide)
    (he : starEach (e :: es) X.env = (false, eval e X.env) :: starEach es X.env := by rfl) (hpl : (backTo pos (starEach es X.env)).any (·.1) = false := by rfl) : PE X (.Call (.Name x p) (e :: es) [] pos) (tCB r t) := by
  intro pins s σ H Q I h
  refine wpAny_Call_Name_kw (ld_blt I hg hm hv ?_ hn hdb)
  exact PyProof.Rows.callWith_type1 (thn (ha pos pins s σ H _ I h) fun us s1 ⟨vs, H1, I1, r1, q1⟩ => hc pins s1 σ H1 vs us Q I1 r1 q1) he hpl
end
end L2
namespace HT
open PySem PyProof.Rows
section
open PySem.SeqAt
open PySem.AutoSeq1 (wpAny_loadPart')
open PySem.MeetsSeq PySem.MeetsSeq2 PySem.MeetsSeq3
end
section
variable {prog : Program} {w : World} {A : Around} {E : Value → Shared → Prop} {s : Shared}
theorem cat_tup {t b : Addr} {vs ws : List Value} {Q : Value → Shared → Prop} (ht : IsTup s.heap t vs.toArray) (hb : IsTup s.heap b ws.toArray) (hv : vs ≠ [])
    (h1 : ws = [] → Q (.ref t) s) (h2 : ws ≠ [] → Q (.ref s.heap.objs.size) { s with heap := s.heap.push { cls := .type "tuple", data := .seq (vs ++ ws).toArray } })
    (hsz : vs.length + ws.length ≤ sizeLine) : wpAny (model prog w) A (binaryOp .Add (.ref t) (.ref b)) Q E s := by
  obtain ⟨⟨cls, dd, data, sl⟩, ho, hc, n, hd⟩ := id ht
  obtain ⟨⟨cls2, dd2, data2, sl2⟩, ho2, hc2, n2, hd2⟩ := id hb
  simp only at hc hd hc2 hd2
  subst hc hd hc2 hd2
  have e : vs.toArray ++ ws.toArray = (vs ++ ws).toArray := by simp
  by_cases hw : ws = []
  · exact concat_meets ⟨_, ho, rfl⟩ ⟨_, ho2, rfl⟩ noFill_tuple_add seq_tuple_add PySem.F.slot_tuple_add PySem.F.entry_tuple_add (PySem.F.args_tuple_add_2 _ _)
      (tuple_addW1 t b vs.toArray ws.toArray n n2 dd dd2 sl sl2 (by simpa using hv) (by simp [hw])) ⟨ho, ho2, h1 hw⟩
  · refine concat_meets ⟨_, ho, rfl⟩ ⟨_, ho2, rfl⟩ noFill_tuple_add seq_tuple_add PySem.F.slot_tuple_add PySem.F.entry_tuple_add (PySem.F.args_tuple_add_2 _ _)
      (tuple_addW2 t b vs.toArray ws.toArray n n2 dd dd2 sl sl2 (by simpa using hv) (by simpa using hw) (by rw [List.size_toArray, List.size_toArray]; exact hsz)) ⟨ho, ho2, ?_⟩
    rw [e]
    exact h2 hw
noncomputable def sIx (n d : Nat) : Option Int → Nat
  | none => d
  | some v => if v < 0 then (v + (n : Int)).toNat else min v.toNat n
theorem sIx_none (n d : Nat) : sIx n d none = d := rfl
theorem sIx_nat (n d k : Nat) : sIx n d (some (k : Int)) = min k n := by
  show (if (k : Int) < 0 then ((k : Int) + (n : Int)).toNat else min (k : Int).toNat n) = min k n
  rw [if_neg (by omega), Int.toNat_natCast]
end
end HT
namespace L2
open PySem PySem.Spec PyProof.Rows
noncomputable abbrev TO := St → Hp → (Option Int → Hp → Prop) → Prop
noncomputable def PO (X : Cx) (e : Option Expr) (t : TO) : Prop :=
  ∀ (pins : List (Addr × Obj)) (s : Shared) (σ : St) (H : Hp) (Q : Option Int → Hp → Prop), Inv X pins σ H s → t σ H Q →
    wpAny (model X.prog X.w) X.A (evalPart e X.env) (fun u s' => ∃ o H', Inv X pins σ H' s' ∧ IsPart u o ∧ Q o H') X.xe s
noncomputable def tNoPart : TO := fun _ H Q => Q none H
inductive isPart (Q : Option Int → Hp → Prop) (x : V) (H1 : Hp) : Prop
  | mk (i : Int) (e : x = .int i) (q : Q (some i) H1) : isPart Q x H1
noncomputable def tPart (t : TE) : TO := fun σ H Q => t σ H (isPart Q)
theorem intsAre_of {ns : List Int} : ∀ {us : List Value}, Vals (ns.map V.int) us → IntsAre us ns := by
  induction ns with
  | nil => intro us r; rw [List.map_nil] at r; cases r; exact .nil
  | cons n ns ih =>
    intro us r
    rw [List.map_cons] at r
    cases r with
    | cons r1 r2 =>
      obtain ⟨t, e⟩ := r1
      subst e
      exact .cons n t (ih r2)
section
variable {X : Cx} {e : Expr} {te : TE} {lo hi : Option Expr} {tl th : TO} {pos p2 : Pos}
theorem po_none : PO X none tNoPart := by
  intro pins s σ H Q I h
  rw [evalPart_none]
  exact wpAny_pure ⟨none, H, I, .none, h⟩
theorem po_some (h : PE X e te) : PO X (some e) (tPart te) := by
  intro pins s σ H Q I hw
  rw [evalPart_some]
  refine thn (h pins s σ H _ I hw) fun u s1 ⟨x, H1, I1, r1, q1⟩ => ?_
  obtain ⟨i, rfl, q⟩ := q1
  obtain ⟨t, rfl⟩ := r1
  exact ⟨some i, H1, I1, .int i t, q⟩
noncomputable def SlR (X : Cx) (r : V → Option Int → Option Int → Hp → VK → Prop) : Prop :=
  ∀ (pins : List (Addr × Obj)) (s : Shared) (σ : St) (H : Hp) (x : V) (v vl vu : Value) (lo hi : Option Int) (sl : Addr) (Q : VK), Inv X pins σ H s → RelV x v → s.heap.IsSliceOf sl vl vu .none → IsPart vl lo → IsPart vu hi → r x lo hi H Q →
    ∃ T id, typeLookup (.type T) "__getitem__" = pure (some (.builtin id)) ∧ s.TypeIs v T ∧ wpAny (model X.prog X.w) X.A (getItem v (.ref sl)) (EP X pins σ Q) X.xe s
noncomputable def tSl (r : V → Option Int → Option Int → Hp → VK → Prop) (te : TE) (tl th : TO) : TE := fun σ H Q => te σ H fun x H1 => tl σ H1 fun l H2 => th σ H2 fun u H3 => r x l u H3 Q
theorem pe_slice {r : V → Option Int → Option Int → Hp → VK → Prop} (hr : SlR X r) (he : PE X e te) (hl : PO X lo tl) (hu : PO X hi th) : PE X (.Subscript e (.Slice lo hi none p2) pos) (tSl r te tl th) := by
  intro pins s σ H Q I h
  refine Subscript_ (thn (he pins s σ H _ I h) fun v s1 ⟨x, H1, I1, r1, q1⟩ => ?_)
  refine wpAny_Slice (thn (hl pins s1 σ H1 _ I1 q1) fun vl s2 ⟨l, H2, I2, pl, q2⟩ => thn (hu pins s2 σ H2 _ I2 q2) fun vu s3 ⟨u, H3, I3, pu, q3⟩ => ?_)
  rw [evalPart_none]
  refine wpAny_pure ?_
  have I4 : Inv X pins σ H3 { s3 with heap := s3.heap.push { cls := .type "slice", data := .fields #[vl, vu, .none] } } := I3.kept (t' := s3.toks) fun b ob q => Heap.get?_push_of_some _ q
  obtain ⟨T, id, hT, ht, hg⟩ := hr pins { s3 with heap := s3.heap.push { cls := .type "slice", data := .fields #[vl, vu, .none] } } σ H3 x v vl vu l u s3.heap.objs.size Q I4 r1 (Heap.IsSliceOf.new ..) pl pu q3
  show wpAny (model X.prog X.w) X.A (subscriptTail e (.Slice lo hi none p2) v (.ref s3.heap.objs.size)) (EP X pins σ Q) X.xe { s3 with heap := s3.heap.push { cls := .type "slice", data := .fields #[vl, vu, .none] } }
  exact tail_any (ops := [.ref s3.heap.objs.size, v]) ht hT hg (by with_unfolding_all rfl)
noncomputable def cutV (xs : List V) (lo hi : Option Int) : List V := (xs.drop (HT.sIx xs.length 0 lo)).take (HT.sIx xs.length xs.length hi - HT.sIx xs.length 0 lo)
theorem cutV_length (xs : List V) (lo hi : Option Int) : (cutV xs lo hi).length ≤ xs.length :=
  ((List.take_sublist _ _).trans (List.drop_sublist _ _)).length_le
inductive rCatT (K : PySem.W.Frag) (x y : V) (H : Hp) (Q : VK) : Prop
  | mk (a b : Addr) (xs ys : List V) (ex : x = .ref a) (ey : y = .ref b) (s : SqT K H a xs) (s' : SqT K H b ys) (n : xs ≠ []) (z : xs.length + ys.length ≤ sizeLine) (q0 : ys = [] → Q (.ref a) H) (q : ys ≠ [] → ∀ p, H p = none → Q (.ref p) (upd H p (.tup (xs ++ ys)))) : rCatT K x y H Q
theorem Vals.nil_iff {xs : List V} {us : List Value} (r : Vals xs us) : us = [] ↔ xs = [] := by
  cases r with
  | nil => simp
  | cons _ _ => simp
theorem op_catT : OpR X (binaryOp .Add) (rCatT X.K) := by
  intro pins s σ H x y v u Q I rx ry h
  obtain ⟨a, b, xs, ys, rfl, rfl, ha, hb, hx, hz, q1, q2⟩ := h
  cases rx
  cases ry
  obtain ⟨its, r1, p1, _⟩ := I.tuple ha
  obtain ⟨its2, r2, p2, _⟩ := I.tuple hb
  refine HT.cat_tup p1 p2 (fun z => hx (r1.nil_iff.mp z)) (fun z => ⟨.ref a, H, I, rfl, q1 (r2.nil_iff.mp z)⟩) (fun z => ?_) (by rw [← r1.length, ← r2.length]; exact hz)
  refine ⟨.ref s.heap.objs.size, _, I.laid (t' := s.toks) (o := .tup (xs ++ ys)) (fun b ob q => Heap.get?_push_of_some _ q) (Nat.le_refl _) ?_, rfl, q2 (fun w => z (r2.nil_iff.mpr w)) _ (I.hok.fresh (Nat.le_refl _))⟩
  exact ⟨by rw [List.length_append]; exact hz, _, r1.append r2, IsTup.new _ _⟩
end
end L2
namespace L2
open PySem PySem.Spec PyProof.Rows
noncomputable def ixN (n : Nat) (i : Int) : Option Nat := if 0 ≤ i then (if i < n then some i.toNat else none) else if -(n : Int) ≤ i then some (i + n).toNat else none
noncomputable def atI {α : Type} (xs : List α) (i : Int) : Option α := (ixN xs.length i).bind fun j => xs[j]?
theorem ixN_seq {n : Nat} {i : Int} {j : Nat} (h : ixN n i = some j) : seqIndex? i n = some j ∧ j < n ∧ -(n : Int) ≤ i ∧ i < n := by
  unfold ixN at h
  by_cases h0 : 0 ≤ i
  · rw [if_pos h0] at h
    by_cases h1 : i < n
    · rw [if_pos h1] at h
      have e : i.toNat = j := Option.some.inj h
      exact ⟨by rw [seqIndex_of h0 h1, e], by omega, by omega, h1⟩
    · rw [if_neg h1] at h; cases h
  · rw [if_neg h0] at h
    by_cases h1 : -(n : Int) ≤ i
    · rw [if_pos h1] at h
      have e : (i + n).toNat = j := Option.some.inj h
      exact ⟨by rw [seqIndex_neg (by omega) h1, e], by omega, h1, by omega⟩
    · rw [if_neg h1] at h; cases h
theorem atI_get {α : Type} {xs : List α} {i : Int} {v : α} (h : atI xs i = some v) : ∃ j, seqIndex? i xs.length = some j ∧ xs[j]? = some v ∧ j < xs.length ∧ -(xs.length : Int) ≤ i ∧ i < xs.length := by
  unfold atI at h
  cases e : ixN xs.length i with
  | none => rw [e] at h; cases h
  | some j =>
    rw [e] at h
    obtain ⟨h1, h2, h3, h4⟩ := ixN_seq e
    exact ⟨j, h1, h, h2, h3, h4⟩
theorem atI_nat {α : Type} {xs : List α} {j : Nat} {v : α} (h : xs[j]? = some v) : atI xs (j : Int) = some v := by
  have hj : j < xs.length := (List.getElem?_eq_some_iff.mp h).1
  have e : ixN xs.length (j : Int) = some j := by
    unfold ixN
    rw [if_pos (by omega), if_pos (by omega)]; simp
  unfold atI; rw [e]; exact h
noncomputable def PlainIx (b : Expr) : Prop := ∀ o i, subscripted b false o i = operate [o, i] (getItem o i)
noncomputable def IxR (X : Cx) (r : R2) : Prop :=
  ∀ (value slice : Expr) (pins : List (Addr × Obj)) (s : Shared) (σ : St) (H : Hp) (x y : V) (v u : Value) (Q : VK), Inv X pins σ H s → RelV x v → RelV y u → r x y H Q →
    subscripted slice false v u = operate [v, u] (getItem v u) → wpAny (model X.prog X.w) X.A (subscriptTail value slice v u) (EP X pins σ Q) X.xe s
noncomputable def MtR (X : Cx) (id : String) (r : V → List V → Hp → VK → Prop) : Prop :=
  ∀ (pins : List (Addr × Obj)) (s : Shared) (σ : St) (H : Hp) (x : V) (xs : List V) (v : Value) (us : List Value) (Q : VK), Inv X pins σ H s → RelV x v → Vals xs us → r x xs H Q →
    wpAny (model X.prog X.w) X.A (call (.builtin id) (v :: us)) (EP X pins σ Q) X.xe s
section
variable {X : Cx} {a b : Expr} {ta tb : TE} {pos : Pos}
theorem pe_ix {r : R2} (hr : IxR X r) (ha : PE X a ta) (hb : PE X b tb) (hs : PlainIx b) : PE X (.Subscript a b pos) (tOp r ta tb) := by
  intro pins s σ H Q I h
  exact Subscript_ (binT ha hb I h fun v u s2 x y H2 I2 rx ry q => hr a b pins s2 σ H2 x y v u Q I2 rx ry q (hs _ _))
inductive rIxL (K : PySem.W.Frag) (x y : V) (H : Hp) (Q : VK) : Prop
  | mk (p : Addr) (xs : List V) (i : Int) (v : V) (ex : x = .ref p) (ey : y = .int i) (s : SqL K H p xs) (a : atI xs i = some v) (q : Q v H) : rIxL K x y H Q
inductive rIxT (K : PySem.W.Frag) (x y : V) (H : Hp) (Q : VK) : Prop
  | mk (p : Addr) (xs : List V) (i : Int) (v : V) (ex : x = .ref p) (ey : y = .int i) (s : SqT K H p xs) (a : atI xs i = some v) (q : Q v H) : rIxT K x y H Q
theorem ix_list : IxR X (rIxL X.K) := by
  intro value slice pins s σ H x y v u Q I rx ry h hs
  obtain ⟨p, xs, i, z, rfl, rfl, hq, he, q⟩ := h
  cases rx
  obtain ⟨t, rfl⟩ := ry
  obtain ⟨its, r, pl, hz⟩ := I.list hq
  obtain ⟨j, h1, h2, h3, h4, h5⟩ := atI_get he
  obtain ⟨w, ew, rw'⟩ := r.get h2
  have hl := r.length
  have hn := line63
  have fin : EP X pins σ Q w s := ⟨z, H, I, rw', q⟩
  by_cases h0 : 0 ≤ i
  · have hj : i.toNat = j := by
      rw [seqIndex_of h0 h5] at h1
      exact Option.some.inj h1
    exact item_listR pl.isList h0 (by omega) (by rw [hj]; simpa using ew) fin hs
  · have hj : (i + (its.toArray.size : Int)).toNat = j := by
      rw [seqIndex_neg (by omega) h4] at h1
      rw [List.size_toArray, ← hl]
      exact Option.some.inj h1
    exact subscriptTail_builtinR (x := w) pl.isList.typeIs slot_list_getitem.lookup
      (wpAny_getItem_list_neg (Q := fun r s' => r = w ∧ EP X pins σ Q r s') pl.isList (by omega) (by rw [List.size_toArray] <;> omega) (by omega) (by rw [hj]; simpa using ew) ⟨rfl, fin⟩) hs
theorem ix_tup : IxR X (rIxT X.K) := by
  intro value slice pins s σ H x y v u Q I rx ry h hs
  obtain ⟨p, xs, i, z, rfl, rfl, hq, he, q⟩ := h
  cases rx
  obtain ⟨t, rfl⟩ := ry
  obtain ⟨its, r, pl, hz⟩ := I.tuple hq
  obtain ⟨j, h1, h2, h3, h4, h5⟩ := atI_get he
  obtain ⟨w, ew, rw'⟩ := r.get h2
  have hl := r.length
  have hn := line63
  have fin : EP X pins σ Q w s := ⟨z, H, I, rw', q⟩
  exact subscriptTail_builtinR (x := w) pl.typeIs slot_tuple_getitem.lookup
    (getItem_tuple (j := j) (Q := fun r s' => r = w ∧ EP X pins σ Q r s') pl (by omega) (by omega) (by rw [List.size_toArray, ← hl]; exact h1) (by simpa using ew) ⟨rfl, fin⟩) hs
theorem clip1 (i : Int) (n d : Nat) : max 0 (min (if i < 0 then i + (n : Int) else i) (n : Int)) = ((HT.sIx n d (some i) : Nat) : Int) := by
  show _ = (((if i < 0 then (i + (n : Int)).toNat else min i.toNat n) : Nat) : Int)
  by_cases h : i < 0
  · rw [if_pos h, if_pos h, Int.min_eq_left (by omega), Int.ofNat_toNat, Int.max_comm]
  · rw [if_neg h, if_neg h]
    obtain ⟨k, rfl⟩ := Int.eq_ofNat_of_zero_le (Int.not_lt.mp h)
    rw [Int.toNat_natCast]
    omega
theorem slice_bounds (lo hi : Option Int) (n : Nat) : (sliceBounds lo hi none n).1 = ((HT.sIx n 0 lo : Nat) : Int) ∧ (sliceBounds lo hi none n).2.1 = ((HT.sIx n n hi : Nat) : Int) ∧ (sliceBounds lo hi none n).2.2 = 1 := by
  refine ⟨?_, ?_, rfl⟩
  · cases lo with
    | none => rfl
    | some i => exact clip1 i n 0
  · cases hi with
    | none => rfl
    | some i => exact clip1 i n n
theorem slicePick_cut (its : List Value) (lo hi : Option Int) : slicePick its.toArray lo hi none = ((its.drop (HT.sIx its.length 0 lo)).take (HT.sIx its.length its.length hi - HT.sIx its.length 0 lo)).toArray := by
  obtain ⟨h1, h2, h3⟩ := slice_bounds lo hi its.toArray.size
  unfold slicePick
  rw [h1, h2, h3]
  simp only [sliceRange_one, pick_run, List.size_toArray] <;> rfl
inductive rSlL (K : PySem.W.Frag) (x : V) (lo hi : Option Int) (H : Hp) (Q : VK) : Prop
  | mk (a : Addr) (xs : List V) (ex : x = .ref a) (s : SqL K H a xs) (q : ∀ p, H p = none → Q (.ref p) (upd H p (.lst (cutV xs lo hi)))) : rSlL K x lo hi H Q
theorem sl_list : SlR X (rSlL X.K) := by
  intro pins s σ H x v vl vu lo hi sl Q I rx hs pl pu h
  obtain ⟨a, xs, rfl, hx, q⟩ := h
  cases rx
  obtain ⟨its, r, ht, hz⟩ := I.list hx
  have hlen := r.length
  refine ⟨"list", _, slot_list_getitem.lookup, ht.isList.typeIs, ?_⟩
  refine wpAny_getItem_list_slice ht.isList hs pl pu .none (by simp) ?_ (by rw [List.size_toArray] <;> omega)
  rw [slicePick_cut, ← hlen]
  refine ⟨.ref s.heap.objs.size, _, I.laid (t' := s.toks) (o := .lst (cutV xs lo hi)) (fun b ob q => Heap.get?_push_of_some _ q) (Nat.le_refl _) ?_, rfl, q _ (I.hok.fresh (Nat.le_refl _))⟩
  exact ⟨Nat.le_trans (cutV_length xs lo hi) hz, _, 0, (r.drop (HT.sIx xs.length 0 lo)).take (HT.sIx xs.length xs.length hi - HT.sIx xs.length 0 lo), Heap.get?_push_size _ rfl⟩
noncomputable def flatV : V → Bool
  | .non => true
  | .bl _ => true
  | .int _ => true
  | .str _ => true
  | _ => false
noncomputable def eqV : V → V → Bool
  | .non, .non => true
  | .bl a, .bl b => a == b
  | .bl a, .int b => (if a then 1 else 0) == b
  | .int a, .bl b => a == (if b then 1 else 0)
  | .int a, .int b => a == b
  | .str a, .str b => a == b
  | _, _ => false
theorem eqAt_V {A : Around} {s : Shared} {y x : V} {u v : Value} (ry : RelV y u) (rx : RelV x v) (fy : flatV y = true) (fx : flatV x = true) : SeqAt.EqAt A s u v (eqV y x) := by
  cases y with
  | non =>
    cases ry
    cases x with
    | non => cases rx; exact SeqAt.EqAt.same _
    | bl b => cases rx; exact SeqAt.EqAt.none_bool b
    | int b => obtain ⟨t, rfl⟩ := rx; exact SeqAt.EqAt.none_int b t
    | str b => obtain ⟨t, rfl⟩ := rx; exact SeqAt.EqAt.none_str b t
    | _ => exact absurd (show false = true from fx) Bool.false_ne_true
  | bl a =>
    cases ry
    cases x with
    | non => cases rx; exact SeqAt.EqAt.bool_none a
    | bl b => cases rx; exact SeqAt.EqAt.bool_bool a b
    | int b => obtain ⟨t, rfl⟩ := rx; exact SeqAt.EqAt.bool_int a b t
    | str b => obtain ⟨t, rfl⟩ := rx; exact SeqAt.EqAt.bool_str a b t
    | _ => exact absurd (show false = true from fx) Bool.false_ne_true
  | int a =>
    obtain ⟨t', rfl⟩ := ry
    cases x with
    | non => cases rx; exact SeqAt.EqAt.int_none a t'
    | bl b => cases rx; exact SeqAt.EqAt.int_bool a t' b
    | int b => obtain ⟨t, rfl⟩ := rx; exact SeqAt.EqAt.int_int a t' b t
    | str b => obtain ⟨t, rfl⟩ := rx; exact SeqAt.EqAt.int_str a t' b t
    | _ => exact absurd (show false = true from fx) Bool.false_ne_true
  | str a =>
    obtain ⟨t', rfl⟩ := ry
    cases x with
    | non => cases rx; exact SeqAt.EqAt.str_none a t'
    | bl b => cases rx; exact SeqAt.EqAt.str_bool a t' b
    | int b => obtain ⟨t, rfl⟩ := rx; exact SeqAt.EqAt.str_int a t' b t
    | str b => obtain ⟨t, rfl⟩ := rx; exact SeqAt.EqAt.str_str a t' b t
    | _ => exact absurd (show false = true from fx) Bool.false_ne_true
  | _ => exact absurd (show false = true from fy) Bool.false_ne_true
noncomputable def eqU (x : V) (u : Value) : Bool := match u with
  | .none => eqV .non x
  | .bool b => eqV (.bl b) x
  | .int i _ => eqV (.int i) x
  | .str z _ => eqV (.str z) x
  | _ => false
theorem eqU_of {x y : V} {u : Value} (r : RelV y u) (f : flatV y = true) : eqU x u = eqV y x := by
  cases y with
  | non => cases r; rfl
  | bl b => cases r; rfl
  | int i => obtain ⟨t, rfl⟩ := r; rfl
  | str z => obtain ⟨t, rfl⟩ := r; rfl
  | _ => exact absurd (show false = true from f) Bool.false_ne_true
theorem any_eqU {x : V} : ∀ {xs : List V} {us : List Value}, Vals xs us → xs.all flatV = true → us.any (eqU x) = xs.any fun y => eqV y x
  | _, _, .nil, _ => rfl
  | y :: xs, u :: us, .cons r t, f => by
    rw [List.all_cons, Bool.and_eq_true] at f
    rw [List.any_cons, List.any_cons, eqU_of r f.1, any_eqU t f.2]
theorem mem_eqAt {A : Around} {s : Shared} {x : V} {v : Value} (rx : RelV x v) (fx : flatV x = true) : ∀ {xs : List V} {us : List Value}, Vals xs us → xs.all flatV = true → ∀ u ∈ us, SeqAt.EqAt A s u v (eqU x u)
  | _, _, .nil, _ => fun u hu => by cases hu
  | y :: xs, u :: us, .cons r t, f => fun u' hu => by
    rw [List.all_cons, Bool.and_eq_true] at f
    rcases List.mem_cons.mp hu with rfl | hu
    · rw [eqU_of r f.1]; exact eqAt_V r rx f.1 fx
    · exact mem_eqAt rx fx t f.2 u' hu
noncomputable def inV (x : V) (xs : List V) : Bool := xs.any fun y => eqV y x
inductive rIn (K : PySem.W.Frag) (neg : Bool) (x y : V) (H : Hp) (Q : VK) : Prop
  | mk (p : Addr) (xs : List V) (ey : y = .ref p) (s : SqL K H p xs ∨ SqT K H p xs) (f : flatV x = true) (fs : xs.all flatV = true) (q : Q (.bl (if neg then !inV x xs else inV x xs)) H) : rIn K neg x y H Q
theorem op_in_seq : OpR X (compareOp .In) (rIn X.K false) := by
  intro pins s σ H x y v u Q I rx ry h
  obtain ⟨p, xs, rfl, hq, fx, fs, q⟩ := h
  cases ry
  rcases hq with hq | hq
  · obtain ⟨its, r, pl, hz⟩ := I.list hq
    refine SeqAt.in_listAt (eqU x) pl.isList (fun w hw => mem_eqAt rx fx r fs w (by simpa using hw)) ⟨.bl _, H, I, rfl, ?_⟩
    rw [show its.toArray.any (eqU x) = its.any (eqU x) by simp, any_eqU r fs]
    exact q
  · obtain ⟨its, r, pl, hz⟩ := I.tuple hq
    refine SeqAt.in_tupleAt (eqU x) pl (fun w hw => mem_eqAt rx fx r fs w (by simpa using hw)) ⟨.bl _, H, I, rfl, ?_⟩
    rw [show its.toArray.any (eqU x) = its.any (eqU x) by simp, any_eqU r fs]
    exact q
theorem op_notIn_seq : OpR X (compareOp .NotIn) (rIn X.K true) := by
  intro pins s σ H x y v u Q I rx ry h
  obtain ⟨p, xs, rfl, hq, fx, fs, q⟩ := h
  cases ry
  rcases hq with hq | hq
  · obtain ⟨its, r, pl, hz⟩ := I.list hq
    refine SeqAt.notIn_listAt (eqU x) pl.isList (fun w hw => mem_eqAt rx fx r fs w (by simpa using hw)) ⟨.bl _, H, I, rfl, ?_⟩
    rw [show its.toArray.any (eqU x) = its.any (eqU x) by simp, any_eqU r fs]
    exact q
  · obtain ⟨its, r, pl, hz⟩ := I.tuple hq
    refine SeqAt.notIn_tupleAt (eqU x) pl (fun w hw => mem_eqAt rx fx r fs w (by simpa using hw)) ⟨.bl _, H, I, rfl, ?_⟩
    rw [show its.toArray.any (eqU x) = its.any (eqU x) by simp, any_eqU r fs]
    exact q
theorem call_len_seq : CallR X (.builtin "len") (fun xs H Q => ∃ p ys, xs = [.ref p] ∧ (SqL X.K H p ys ∨ SqT X.K H p ys) ∧ Q (.int ys.length) H) := by
  intro pins s σ H xs us Q I r h
  obtain ⟨p, ys, rfl, hq, q⟩ := h
  obtain ⟨u, rfl, rx⟩ := vals1 r
  cases rx
  have hn := line63
  rcases hq with hq | hq
  · obtain ⟨its, r', pl, hz⟩ := I.list hq
    have hlen := r'.length
    exact Calls.call_len_list pl.isList (by simp only [List.size_toArray] <;> omega) ⟨.int ys.length, H, I.tok _, ⟨s.toks + 1, by rw [List.size_toArray, hlen]⟩, q⟩
  · obtain ⟨its, r', pl, hz⟩ := I.tuple hq
    have hlen := r'.length
    exact len_tuple pl (by simp only [List.size_toArray] <;> omega) ⟨.int ys.length, H, I.tok _, ⟨s.toks + 1, by rw [List.size_toArray, hlen]⟩, q⟩
theorem call_list_of : CallR X (.type "list") (fun xs H Q => ∃ p ys, xs = [.ref p] ∧ (SqL X.K H p ys ∨ SqT X.K H p ys) ∧ ∀ l, H l = none → Q (.ref l) (upd H l (.lst ys))) := by
  intro pins s σ H xs us Q I r h
  obtain ⟨p, ys, rfl, hq, q⟩ := h
  obtain ⟨u, rfl, rx⟩ := vals1 r
  cases rx
  have fin : ∀ (its : List Value), Vals ys its → ys.length ≤ sizeLine → ∀ (h' : Heap) (c' : Nat), (∀ b o', s.heap.get? b = some o' → h'.get? b = some o') →
      h'.get? s.heap.objs.size = some { cls := .type "list", dict := none, data := .seq its.toArray c', slots := #[] } → EP X pins σ Q (.ref s.heap.objs.size) { s with heap := h' } := fun its r' hz h' c' kp e =>
    ⟨.ref s.heap.objs.size, _, I.laid (t' := s.toks) kp (Nat.le_refl _) (show ObjOk X.prog X.w _ h' _ (.lst ys) from ⟨hz, its, c', r', e⟩), rfl, q _ (I.hok.fresh (Nat.le_refl _))⟩
  rcases hq with hq | hq
  · obtain ⟨its, r', pl, hz⟩ := I.list hq
    have hlen := r'.length
    obtain ⟨o, ho, hc, n, hd⟩ := pl.isList
    exact call_list_seq p (.inl rfl) ho hc hd (fun h' c' kp e => fin its r' hz h' c' kp e) (by simp only [List.size_toArray] <;> omega)
  · obtain ⟨its, r', pl, hz⟩ := I.tuple hq
    have hlen := r'.length
    obtain ⟨o, ho, hc, n, hd⟩ := pl
    exact call_list_seq p (.inr rfl) ho hc hd (fun h' c' kp e => fin its r' hz h' c' kp e) (by simp only [List.size_toArray] <;> omega)
theorem call_tuple_of : CallR X (.type "tuple") (fun xs H Q => ∃ p ys, xs = [.ref p] ∧ ((SqL X.K H p ys ∧ ∀ l, H l = none → Q (.ref l) (upd H l (.tup ys))) ∨ (SqT X.K H p ys ∧ Q (.ref p) H))) := by
  intro pins s σ H xs us Q I r h
  obtain ⟨p, ys, rfl, h⟩ := h
  obtain ⟨u, rfl, rx⟩ := vals1 r
  cases rx
  rcases h with ⟨hq, q⟩ | ⟨hq, q⟩
  · obtain ⟨its, r', pl, hz⟩ := I.list hq
    have hlen := r'.length
    refine call_tuple_list pl.isList (fun h' kp => ?_) (by simp only [List.size_toArray] <;> omega)
    have I1 : Inv X pins σ H { s with heap := h' } := I.kept (t' := s.toks) kp
    have I2 : Inv X pins σ (upd H h'.objs.size (.tup ys)) { s with heap := h'.push { cls := .type "tuple", data := .seq its.toArray } } :=
      I1.laid (t' := s.toks) (fun b o e => Heap.get?_push_of_some _ e) (Nat.le_refl _) (show ObjOk X.prog X.w _ _ _ (.tup ys) from ⟨hz, its, r', IsTup.new _ _⟩)
    exact ⟨.ref h'.objs.size, _, I2, rfl, q _ (I1.hok.fresh (Nat.le_refl _))⟩
  · obtain ⟨its, r', pl, hz⟩ := I.tuple hq
    exact call_tuple_same pl ⟨.ref p, H, I, rfl, q⟩
noncomputable def tyV (K : PySem.W.Frag) (T : String) (x : V) (H : Hp) : Prop := match x with
  | .str _ => T = "str"
  | .int _ => T = "int"
  | .ref p => (T = "list" ∧ ∃ xs, SqL K H p xs) ∨ (T = "tuple" ∧ ∃ o, K.lookup p = some o ∧ o.cls = .type "tuple" ∧ o.dict = none) ∨
      (T = "dict" ∧ ((∃ kvs, H p = some (.dK kvs)) ∨ ∃ kvs, H p = some (.dT kvs))) ∨ (T = "set" ∧ ∃ S n, H p = some (.set S n))
  | _ => False
theorem tyV_is {pins : List (Addr × Obj)} {σ : St} {H : Hp} {s : Shared} {T : String} {x : V} {v : Value} (I : Inv X pins σ H s) (r : RelV x v) (ty : tyV X.K T x H) :
    s.TypeIs v T ∧ ∀ a, v = .ref a → ∃ ob, s.heap.get? a = some ob ∧ ob.dict = none := by
  cases x with
  | str z =>
    obtain ⟨t, rfl⟩ := r
    cases (show T = "str" from ty)
    exact ⟨typeIs_str s z t, fun _ e => nomatch e⟩
  | int i =>
    obtain ⟨t, rfl⟩ := r
    cases (show T = "int" from ty)
    exact ⟨typeIs_int s i t, fun _ e => nomatch e⟩
  | ref p =>
    cases r
    rcases ty with ⟨rfl, xs, hq⟩ | ⟨rfl, o, hk, hc, hd⟩ | ⟨rfl, hk⟩ | ⟨rfl, S, n, hk⟩
    · obtain ⟨its, _, pl, _⟩ := I.list hq
      refine ⟨pl.isList.typeIs, fun a e => ?_⟩
      cases e
      obtain ⟨o, n, e, c, hd, _⟩ := pl
      exact ⟨o, e, hd⟩
    · refine ⟨⟨o, I.kIn p o hk, hc⟩, fun a e => ?_⟩
      cases e
      exact ⟨o, I.kIn _ o hk, hd⟩
    · have z : ∃ o, s.heap.get? p = some o ∧ o.ExactDict := by
        rcases hk with ⟨kvs, hk⟩ | ⟨kvs, hk⟩
        · obtain ⟨_, _, _, _, o, _, _, e, ex, _⟩ := I.hok p _ hk
          exact ⟨o, e, ex⟩
        · obtain ⟨_, _, _, _, o, _, _, e, ex, _⟩ := I.hok p _ hk
          exact ⟨o, e, ex⟩
      obtain ⟨o, e, ex⟩ := z
      refine ⟨⟨o, e, ex.1⟩, fun a e2 => ?_⟩
      cases e2
      exact ⟨o, e, ex.2.1⟩
    · obtain ⟨o, _, _, _, e, ex, _⟩ := I.hok p _ hk
      refine ⟨⟨o, e, ex.1⟩, fun a e2 => ?_⟩
      cases e2
      exact ⟨o, e, ex.2.1⟩
  | _ => exact False.elim ty
noncomputable def tBM0 (K : PySem.W.Frag) (T : String) (r : V → List V → Hp → VK → Prop) (to : TE) : TE := fun σ H Q => to σ H fun x H1 => tyV K T x H1 ∧ r x [] H1 Q
noncomputable def tBM (K : PySem.W.Frag) (T : String) (r : V → List V → Hp → VK → Prop) (to : TE) (t : TA) : TE := fun σ H Q => to σ H fun x H1 => tyV K T x H1 ∧ t σ H1 fun xs H2 => r x xs H2 Q
variable {o e : Expr} {es : List Expr} {to : TE} {t : TA} {name : Str} {apos cpos : Pos} {T id : String} {r : V → List V → Hp → VK → Prop}
theorem pe_bm0 (pa : PlainAttrs T) (slot : Slot T name id) (hty : typeOf (.builtin id) = pure (.type "method_descriptor")) (hm : MtR X id r) (ho : PE X o to)
    (hbase : attributeBase o name X.env (eval o X.env) = eval o X.env := by rfl) (hline : (apos.endLine == cpos.line) = true := by rfl) : PE X (.Call (.Attribute o name apos) [] [] cpos) (tBM0 X.K T r to) := by
  intro pins s σ H Q I h
  refine wpAny_Call_method0_late hbase hline (thn (ho pins s σ H _ I h) fun v s1 ⟨x, H1, I1, r1, ty, q1⟩ => ?_)
  obtain ⟨h1, h2⟩ := tyV_is I1 r1 ty
  exact ⟨T, id, pa, slot, hty, h1, h2, Calls.callWith_builtin rfl (PySem.evalArgs_none (hm pins s1 σ H1 x [] v [] Q I1 r1 .nil q1))⟩
theorem pe_bm (pa : PlainAttrs T) (slot : Slot T name id) (hty : typeOf (.builtin id) = pure (.type "method_descriptor")) (hm : MtR X id r) (ho : PE X o to) (ha : PA X (e :: es) t)
    (hbase : attributeBase o name X.env (eval o X.env) = eval o X.env := by rfl)
    (hfew : ((backTo cpos (starEach (e :: es) X.env)).all (fun x => !x.1) && (backToKw cpos (keywordEach [] X.env)).all (fun x => x.1.isSome)
      && decide ((e :: es).length + ([] : List Keyword).length + (if ([] : List Keyword).isEmpty then 0 else 1) < 30)) = true := by rfl)
    (hline : (apos.endLine == cpos.line) = true := by rfl) (hs : starEach (e :: es) X.env = (false, eval e X.env) :: starEach es X.env := by rfl) (hplain : (backTo cpos (starEach es X.env)).any (·.1) = false := by rfl) :
    PE X (.Call (.Attribute o name apos) (e :: es) [] cpos) (tBM X.K T r to t) := by
  intro pins s σ H Q I h
  refine wpAny_Call_method_late hbase hfew hline rfl (thn (ho pins s σ H _ I h) fun v s1 ⟨x, H1, I1, r1, ty, q1⟩ => ?_)
  obtain ⟨h1, h2⟩ := tyV_is I1 r1 ty
  refine ⟨T, id, pa, slot, hty, h1, h2, ?_⟩
  have hA := ha cpos pins s1 σ H1 _ I1 q1
  rw [hs] at hA ⊢
  refine Calls.callWith_builtin (by show (false || (backTo cpos (starEach es X.env)).any (·.1)) = false; rw [hplain] <;> rfl) (Calls.evalArgs_plain ?_)
  exact thn hA fun us s2 ⟨vs, H2, I2, r2, q2⟩ => hm pins s2 σ H2 x vs v us Q I2 r1 r2 q2
end
end L2
namespace L2
open PySem PySem.Spec PyProof.Rows
noncomputable def MtM (X : Cx) (id : String) (r : V → List V → Hp → VK → Prop) : Prop :=
  ∀ (pins : List (Addr × Obj)) (s : Shared) (σ : St) (H : Hp) (x : V) (xs : List V) (v : Value) (us : List Value) (Q : VK), Inv X pins σ H s → RelV x v → Vals xs us → r x xs H Q →
    wpAny (model X.prog X.w) X.A (call (.builtin id) (v :: us)) (EP X pins σ Q) X.xe s
theorem Vals.one {x : V} {us : List Value} (h : Vals [x] us) : ∃ u, us = [u] ∧ RelV x u := by
  cases h with
  | cons r t => cases t; exact ⟨_, rfl, r⟩
theorem Vals.two {x y : V} {us : List Value} (h : Vals [x, y] us) : ∃ u v, us = [u, v] ∧ RelV x u ∧ RelV y v := by
  cases h with
  | cons r t =>
    obtain ⟨v, rfl, q⟩ := Vals.one t
    exact ⟨_, v, rfl, r, q⟩
theorem Vals.zero : ∀ {us : List Value}, Vals [] us → us = []
  | _, .nil => rfl
theorem Vals.eraseIdx : ∀ {xs : List V} {us : List Value} (i : Nat), Vals xs us → Vals (xs.eraseIdx i) (us.eraseIdx i)
  | _, _, _, .nil => .nil
  | _, _, 0, .cons _ t => t
  | _, _, i + 1, .cons r t => .cons r (Vals.eraseIdx i t)
theorem Vals.reverse {xs : List V} {us : List Value} (h : Vals xs us) : Vals xs.reverse us.reverse := by
  induction h with
  | nil => exact .nil
  | cons r t ih => rw [List.reverse_cons, List.reverse_cons]; exact Vals.append ih (.cons r .nil)
theorem len_erase {α : Type} : ∀ (l : List α) (i : Nat), (l.eraseIdx i).length ≤ l.length
  | [], _ => Nat.le_refl _
  | _ :: _, 0 => Nat.le_succ _
  | _ :: r, i + 1 => Nat.succ_le_succ (len_erase r i)
section
variable {X : Cx} {pins : List (Addr × Obj)} {σ : St} {H : Hp} {s : Shared} {l b : Addr} {xs ys zs : List V}
theorem Inv.lset {its its' : List Value} {n : Nat} {f : Array Value → Array Value} {t' : Nat} (I : Inv X pins σ H s) (hH : H l = some (.lst xs))
    (e : s.heap.get? l = some { cls := .type "list", data := .seq its.toArray n }) (hf : f its.toArray = its'.toArray) (hv : Vals ys its') (hz : ys.length ≤ sizeLine) :
    Inv X pins σ (upd H l (.lst ys)) { s with heap := s.heap.update l (Obj.mapSeq f), toks := t' } := by
  have q := PySem.IsL.update e f
  rw [hf] at q
  refine I.write (x := l) (e := l) (by rw [hH]; exact trivial) (.inl rfl) (fun b' u hb hu => (Heap.get?_update_other s.heap (Obj.mapSeq f) (Ne.symm hb)).trans hu) ⟨_, q⟩ ?_
  exact ⟨hz, its', _, hv, q⟩
theorem Inv.lnew {its : List Value} {t' : Nat} (I : Inv X pins σ H s) (hv : Vals ys its) (hz : ys.length ≤ sizeLine) :
    Inv X pins σ (upd H s.heap.objs.size (.lst ys)) { s with heap := s.heap.push { cls := .type "list", data := .seq its.toArray }, toks := t' } :=
  I.laid (fun _ _ q => Heap.get?_push_of_some _ q) (Nat.le_refl _) ⟨hz, its, 0, hv, Heap.get?_push_size _ rfl⟩
theorem Inv.fresh (I : Inv X pins σ H s) : H s.heap.objs.size = none := I.hok.fresh (Nat.le_refl _)
theorem Inv.lstM (I : Inv X pins σ H s) (hH : H l = some (.lst xs)) : xs.length ≤ sizeLine ∧ ∃ (its : List Value) (n : Nat), Vals xs its ∧ xs.length = its.length ∧ s.heap.get? l = some { cls := .type "list", data := .seq its.toArray n } := by
  obtain ⟨z, its, n, r, e⟩ := I.hok l _ hH
  exact ⟨z, its, n, r, r.length, e⟩
end
section
variable {X : Cx}
inductive rAppend (x : V) (vs : List V) (H : Hp) (Q : VK) : Prop
  | mk (l : Addr) (xs : List V) (y : V) (ex : x = .ref l) (ev : vs = [y]) (h : H l = some (.lst xs)) (z : xs.length < sizeLine) (q : Q .non (upd H l (.lst (xs ++ [y])))) : rAppend x vs H Q
theorem mt_append : MtM X "list.append" rAppend := by
  intro pins s σ H x vs v us Q I rx rv h
  obtain ⟨l, xs, y, rfl, rfl, hH, hz, q⟩ := h
  cases rx
  obtain ⟨u, rfl, ru⟩ := rv.one
  obtain ⟨z, its, n, r, hl, e⟩ := I.lstM hH
  refine call_meets F.slot_list_append ⟨_, e, rfl⟩ F.entry_list_append (F.args_list_append_2 _ _) (PySem.list_append l its.toArray n u (by rw [List.size_toArray]; omega)) ⟨e, ?_⟩
  refine ⟨.non, _, I.lset (its' := its ++ [u]) hH e (by simp) (r.append (.cons ru .nil)) ?_, rfl, q⟩
  rw [List.length_append, List.length_singleton]
  omega
inductive rPopAt (x : V) (vs : List V) (H : Hp) (Q : VK) : Prop
  | mk (l : Addr) (xs : List V) (i : Int) (k : Nat) (y : V) (ex : x = .ref l) (ev : vs = [.int i]) (h : H l = some (.lst xs)) (z : -(2 ^ 63) ≤ i) (z' : i < 2 ^ 63) (s : seqIndex? i xs.length = some k) (g : xs[k]? = some y) (q : Q y (upd H l (.lst (xs.eraseIdx k)))) : rPopAt x vs H Q
theorem mt_popAt : MtM X "list.pop" rPopAt := by
  intro pins s σ H x vs v us Q I rx rv h
  obtain ⟨l, xs, i, k, y, rfl, rfl, hH, h1, h2, hk, hy, q⟩ := h
  cases rx
  obtain ⟨u, rfl, ru⟩ := rv.one
  obtain ⟨t, rfl⟩ := ru
  obtain ⟨z, its, n, r, hl, e⟩ := I.lstM hH
  obtain ⟨w, hw, rw'⟩ := r.get hy
  refine call_meets F.slot_list_pop ⟨_, e, rfl⟩ F.entry_list_pop (F.args_list_pop_2 _ _)
    (MeetsSeq.list_pop_at l its.toArray n i t k w (fitsIndex_both h1 h2) (by rw [List.size_toArray, ← hl]; exact hk) (by rw [← Array.getElem?_toList]; exact hw) (by rw [List.size_toArray]; omega)) ⟨e, ?_⟩
  refine ⟨y, _, I.lset (its' := its.eraseIdx k) hH e ?_ (r.eraseIdx k) ?_, rw', q⟩
  · show its.toArray.eraseIdxIfInBounds k = (its.eraseIdx k).toArray
    rw [List.eraseIdxIfInBounds_toArray]
  · have := len_erase xs k
    omega
noncomputable def rReverse : V → List V → Hp → VK → Prop := fun x vs H Q => ∃ l xs, x = .ref l ∧ vs = [] ∧ H l = some (.lst xs) ∧ Q .non (upd H l (.lst xs.reverse))
theorem mt_reverse : MtM X "list.reverse" rReverse := by
  intro pins s σ H x vs v us Q I rx rv h
  obtain ⟨l, xs, rfl, rfl, hH, q⟩ := h
  cases rx
  have hus := rv.zero
  subst hus
  obtain ⟨z, its, n, r, hl, e⟩ := I.lstM hH
  refine call_meets F.slot_list_reverse ⟨_, e, rfl⟩ F.entry_list_reverse (F.args_list_reverse_1 _) (AutoSeq1.list_reverse_list_0 l its.toArray n (by rw [List.size_toArray]; omega)) ⟨e, ?_⟩
  refine ⟨.non, _, I.lset (its' := its.reverse) hH e (by simp) r.reverse ?_, rfl, q⟩
  rw [List.length_reverse]
  omega
end
section
variable {prog : Program} {w : World} {A : Around} {E : Value → Shared → Prop} {s : Shared}
set_option maxRecDepth 100000 in
end
section
variable {X : Cx}
end
end L2
namespace Att
open PySem PySem.W PySem.Calls PyProof.Rows
theorem ints_of_wellAll {P : Params} {h : Heap} : ∀ (ns : List Int) (vs : List Value), WellAll P h vs (ns.map WData.int) → IntsAre vs ns := by
  intro ns
  induction ns with
  | nil =>
    intro vs w
    rw [List.map_nil] at w
    cases w
    exact .nil
  | cons n ns ih =>
    intro vs w
    rw [List.map_cons] at w
    cases w with
    | cons a b =>
      cases a
      exact .cons _ _ (ih _ b)
theorem script_of {l : OpenLaw} {n : Nat} (hn : l.most = some n) {P : Params} {h : Heap} {args : List WData} {vals : List Value}
    (hpre : l.row.toRowW.claim.pre args = true) (hwl : WellAll P h vals args) :
    ∃ a vs ns, vals = [Value.ref a] ∧ args = [WData.list (ns.map WData.int)] ∧ h.get? a = some { cls := .type "list", data := .seq vs.toArray } ∧ IntsAre vs ns ∧ ns.length ≤ n := by
  have hsh : WShape.hasAll [] args [.list .int] = true := (pre_splitW hpre).1
  have hc : l.pre.holds [] { args := args } = true := (pre_splitW hpre).2
  obtain ⟨d, r, rfl, h1, h2⟩ := hasAllW_cons hsh
  obtain rfl := hasAllW_nil h2
  obtain ⟨xs, rfl, h3⟩ := hasW_list h1
  obtain ⟨ns, rfl⟩ := items_int h3
  have hlen : ns.length ≤ n := by
    unfold OpenLaw.pre at hc
    have h4 : (WTm.not (.lt (.lit (.int (n : Int))) (.len (.arg 0)))).holds [] { args := [.list (ns.map .int)] } = true := by
      have h4 := (holds_andW hc).1
      rw [hn] at h4
      exact h4
    have h5 := condW_of h4 (w_not (w_lt w_lit (w_len_list (w_arg rfl))))
    rw [List.length_map] at h5
    refine Nat.le_of_not_lt fun q => ?_
    have q' : (n : Int) < ((ns.length : Nat) : Int) := by omega
    first
      | (rw [decide_eq_true q'] at h5; exact absurd h5 (by decide))
      | (simp at h5; omega)
  cases hwl with
  | cons w1 w2 =>
    cases w2
    cases w1 with
    | list ho hall => exact ⟨_, _, ns, rfl, rfl, ho, ints_of_wellAll ns _ hall, hlen⟩
theorem post_true (l : OpenLaw) (args : List WData) : l.row.toRowW.claim.post args (.bool true) args = true :=
  postW_of (r := l.row.toRowW) (X := (true == true))
    (show WShape.has [] (.bool true) .bool = true by first | rfl | decide | simp [WShape.has, WShape.arms, WShape.armsAll])
    (show (WTm.eq .res (.lit (.bool true))).value [] { args := args, res := some (.bool true), after := args } = some (.bool (true == true)) from w_eq_bool (w_res rfl) w_lit) rfl
theorem attach_call {l : OpenLaw} {n : Nat} {q : Program} {loose : List Str} {XP : (Str → Option Value) → Heap → Prop} {YP : World → Heap → Prop} {d : DefRec}
    (hn : l.most = some n) (hdf : d.params.defaults = [])
    (call : ∀ (w : World) (s₀ s₁ : Shared) (mg mb : Str → Option Value) (fa : Addr) (o : Obj) (pm cd doc : Value) (a : Addr) (vs : List Value) (ns : List Int),
      Ground q loose [] XP w s₀ mg mb s₁.heap → YP w s₁.heap →
      s₁.heap.get? fa = some o → o.data = .func (docDef d.name d.params d.body d.scope pm cd doc) → s₁.heap.CodeRec cd d.name → mg d.name = some (.ref fa) →
      s₁.heap.get? a = some { cls := .type "list", data := .seq vs.toArray } → IntsAre vs ns → ns.length ≤ n → s₁.gens = #[] →
      codeAny (model l.prog w) callerA (.call (.ref fa) ⟨[.ref a], []⟩) (fun r s' => r = .ok (.ret (.bool true)) ∧ OldK s₁.heap s'.heap ∧ s'.os = s₁.os ∧ AllBare s'.gens) s₁) :
    WalkO q loose XP YP l.row.toRowW d [] (fun f vs => PySem.call f vs) := by
  intro w s₀ s₁ mg mb G Y fa o pm cd doc dV kV ho hd hcd hD hmg hg args vals as hpre hlay hrd hwl hlo
  obtain rfl : dV = .none := Dflts.none hD hdf
  obtain rfl : kV = .none := Dflts.noKw hD
  obtain ⟨a, vs, ns, rfl, rfl, hobj, hints, hlen⟩ := script_of hn hpre hwl
  refine enter_call (codeAny_mono (call w s₀ s₁ mg mb fa o pm cd doc a vs ns G Y ho (fd_plain hd) hcd hmg hobj hints hlen hg) fun r s' hq => ?_)
  obtain ⟨rfl, h2, h3, h4⟩ := hq
  exact ⟨.inl ⟨.bool true, .bool true, [], rfl, fun _ => rfl, .bool true, post_true l _, fun _ => ⟨List.Pairwise.nil, fun _ hm => (nomatch hm)⟩⟩, h2, h3, h4⟩
section
variable {prog : Program} {w : World} {A : Around} {E : Value → Shared → Prop} {s : Shared} {K : Frag}
end
end Att
namespace L2
open PySem PySem.Spec PyProof.Rows
theorem vals_ints : ∀ {vs : List Value} {ns : List Int}, IntsAre vs ns → Vals (ns.map V.int) vs
  | _, _, .nil => .nil
  | _, _, .cons n t h => .cons ⟨t, rfl⟩ (vals_ints h)
noncomputable def Only (H : Hp) : Prop := ∀ b, H b = none ∨ ∃ o xs, H b = some (.frz o (.lst xs))
theorem law_call {P : Program} {w : World} {K : PySem.W.Frag} {mg mb : Str → Option Value} {CX : CXT} {k : Nat} {fa a : Addr} {fd : FuncData} {x : Str} {sp : Sp} {s₁ : Shared} {vs : List Value} {ns : List Int}
    (KX : K.In s₁.heap) (hns : s₁.heap.Ns mainGlobals mg) (hb : s₁.heap.Ns builtinsNs mb) (hbb : ∀ x : Str, x ≠ "__name__" → mb x = bootBuiltins x) (hlim : s₁.heap.NoLimit) (hg : s₁.gens = #[])
    (ha : s₁.heap.get? a = some { cls := .type "list", data := .seq vs.toArray }) (hi : IntsAre vs ns) (hl : ns.length ≤ sizeLine) (hr : Room k callerA)
    (F : ∀ base : Heap, K.In base → base.Ns mainGlobals mg → FnOk P w K mg base CX k fa fd [x] sp) (hbind : ∀ (s : Shared) (u : Value), BindsTo s fd ⟨[u], []⟩ [(x, u)])
    (hsp : ∀ H : Hp, Only H → SqL K H a (ns.map V.int) → sp [.ref a] H (fun v _ => v = .bl true) fun _ _ _ => False)
    (hCX : ∀ H e s', CX [] H s₁ (fun _ _ _ => False) e s' → False) :
    codeAny (model P w) callerA (.call (.ref fa) ⟨[.ref a], []⟩) (fun r s' => r = .ok (.ret (.bool true)) ∧ OldK s₁.heap s'.heap ∧ s'.os = s₁.os ∧ AllBare s'.gens) s₁ := by
  have rv := vals_ints hi
  have lenV := hi.length
  have core : ∀ H : Hp, Only H → SqL K H a (ns.map V.int) → HOk P w H s₁.heap → (∀ b, H b ≠ none → b = a) → (H a ≠ none → K.lookup a = none) →
      codeAny (model P w) callerA (.call (.ref fa) ⟨[.ref a], []⟩) (fun r s' => r = .ok (.ret (.bool true)) ∧ OldK s₁.heap s'.heap ∧ s'.os = s₁.os ∧ AllBare s'.gens) s₁ := by
    intro H hO hS hok hA hK
    have base_of : ∀ {b : Addr} {o : Obj}, s₁.heap.get? b = some o → H b = none → (hidT s₁.heap H).get? b = some o := fun e n => hidT_get e n
    have noA : ∀ {b : Addr} {o : Obj} {es : Array DictEntry} {ep : Nat}, s₁.heap.get? b = some o → o.data = .dict es ep → H b = none := fun {b o es ep} e d => by
      cases q : H b with
      | none => rfl
      | some u =>
        have e' : b = a := hA b (by rw [q]; simp)
        subst e'
        rw [ha] at e; cases e
        have d' : Data.seq vs.toArray _ = Data.dict es ep := d
        cases d'
    have nsK : ∀ {b : Addr} {m : Str → Option Value}, s₁.heap.Ns b m → (hidT s₁.heap H).Ns b m := fun {b m} ⟨o, es, ep, e, d, r⟩ => ⟨o, es, ep, base_of e (noA e d), d, r⟩
    have hKb : K.In (hidT s₁.heap H) := fun b o e => base_of (KX b o e) (by
      cases q : H b with
      | none => rfl
      | some u =>
        have e' : b = a := hA b (by rw [q]; simp)
        subst e'
        rw [hK (by rw [q]; simp)] at e; cases e)
    have hM : Mod K mg (hidT s₁.heap H) := ⟨hKb, nsK hns, ⟨mb, nsK hb, hbb⟩, let ⟨mc, h1, h2⟩ := hlim; ⟨mc, nsK h1, h2⟩⟩
    have e0 : Env0 P w K mg (hidT s₁.heap H) callerA [] s₁ H := ⟨rfl, hM, fun b o e => of_hidT e, Nat.le_of_eq (hidT_size _ _), trivial, fun b hb => absurd (show b ∈ ([] : List Addr) from hb) (by simp), hok, .of_eq hg⟩
    refine codeAny_mono ((F _ hKb (nsK hns)).run callerA [] s₁ H ⟨[.ref a], []⟩ [.ref a] [.ref a] _ _ hr e0 (hbind s₁ (.ref a)) (.cons rfl .nil) (hsp H hO hS)) fun r s' h => ?_
    cases r with
    | error e => exact (hCX H e s' h).elim
    | ok fl =>
      cases fl with
      | next => exact False.elim h
      | brk => exact False.elim h
      | cont => exact False.elim h
      | ret u =>
        obtain ⟨v, H', os, bare, un, hok', r', q⟩ := h
        have q' : v = .bl true := q
        subst q'
        obtain rfl : u = Value.bool true := r'
        refine ⟨rfl, OldK.of_keep fun b o e => ?_, os, bare⟩
        cases q : H b with
        | none => exact un.keep b o e q (by intro z; exact absurd (show b ∈ ([] : List Addr) from z) (by simp)) (by simp)
        | some u =>
          rcases hO b with z | ⟨ob, xs, z⟩
          · rw [q] at z; cases z
          · have z2 := un.frzs b ob _ z
            obtain ⟨e1, _⟩ := hok b _ z
            obtain ⟨e2, _⟩ := hok' b _ z2
            rw [e] at e1; cases e1
            exact e2
  cases hk : K.lookup a with
  | some o =>
    have e := KX a o hk
    rw [ha] at e
    cases e
    refine core (fun _ => none) (fun _ => .inl rfl) (.inr ⟨_, vs.toArray, _, hk, rfl, rfl, rfl, by rw [List.size_toArray, lenV]; exact hl, by simpa using rv⟩) (fun b u z => by have z' : (none : Option HO) = some u := z; cases z') (fun b z => absurd rfl z) fun z => absurd rfl z
  | none =>
    refine core (fun b => if b = a then some (.frz { cls := .type "list", data := .seq vs.toArray } (.lst (ns.map V.int))) else none) (fun b => ?_) (.inl (.inr ⟨{ cls := .type "list", data := .seq vs.toArray }, if_pos rfl⟩)) (fun b u z => ?_) (fun b z => ?_) fun _ => hk
    · by_cases hb : b = a
      · exact .inr ⟨_, _, if_pos hb⟩
      · exact .inl (if_neg hb)
    · by_cases hb : b = a
      · have z' := (if_pos hb).symm.trans z
        cases z'
        subst hb
        exact ⟨ha, by rw [List.length_map]; exact hl, vs, _, rv, ha⟩
      · have z' := (if_neg hb).symm.trans z
        cases z'
    · by_cases hb : b = a
      · exact hb
      · exact absurd (if_neg hb) z
end L2
namespace L2
open PySem PySem.Spec PyProof.Rows
theorem walk_of {l : PySem.W.OpenLaw} {n k : Nat} {q : Program} {loose : List Str} {XP : (Str → Option Value) → Heap → Prop} {YP : World → Heap → Prop} {d : DefRec} {K : Params → PySem.W.Frag} {CX : World → CXT} {sp : World → Sp} {x : Str}
    (hn : l.most = some n) (hn2 : n ≤ sizeLine) (hdf : d.params.defaults = []) (hr : Room k callerA)
    (hY : ∀ (w : World) (h : Heap), YP w h → (K w.params).In h)
    (F : ∀ (w : World) (mg : Str → Option Value) (fa : Addr) (h : Heap), (K w.params).In h → h.Ns mainGlobals mg → mg d.name = some (.ref fa) →
      ∃ fd : FuncData, (∀ (s : Shared) (u : Value), BindsTo s fd ⟨[u], []⟩ [(x, u)]) ∧
        ∀ base : Heap, (K w.params).In base → base.Ns mainGlobals mg → FnOk l.prog w (K w.params) mg base (CX w) k fa fd [x] (sp w))
    (hsp : ∀ (w : World) (H : Hp) (a : Addr) (ns : List Int), ns.length ≤ n → Only H → SqL (K w.params) H a (ns.map V.int) → sp w [.ref a] H (fun v _ => v = .bl true) fun _ _ _ => False)
    (hCX : ∀ (w : World) (H : Hp) (s : Shared) (e : Value) (s' : Shared), CX w [] H s (fun _ _ _ => False) e s' → False) :
    PySem.W.WalkO q loose XP YP l.row.toRowW d [] (fun f vs => PySem.call f vs) := by
  refine Att.attach_call hn hdf fun w s₀ s₁ mg mb fa o pm cd doc a vs ns G Y ho hd hcd hmg hobj hints hlen hg => ?_
  have KX := hY w _ Y
  obtain ⟨fd, hb, hF⟩ := F w mg fa _ KX G.T.g hmg
  exact law_call KX G.T.g G.T.b G.T.builtins G.T.nolimit hg hobj hints (Nat.le_trans hlen hn2) hr hF hb (fun H hO hS => hsp w H a ns hlen hO hS) fun H e s' => hCX w H s₁ e s'
end L2
namespace L2
open PySem PySem.Spec PyProof.Rows
noncomputable def defArgs (s : Stmt) : Arguments := match s with
  | .FunctionDef _ a _ _ _ _ _ _ _ _ => a
  | _ => { posonlyargs := [], args := [], vararg := none, kwonlyargs := [], kw_defaults := [], kwarg := none, defaults := [] }
noncomputable def defBody (s : Stmt) : List Stmt := match s with
  | .FunctionDef _ _ b _ _ _ _ _ _ _ => b
  | _ => []
noncomputable def defScope (s : Stmt) : Scope := match s with
  | .FunctionDef _ _ _ _ _ _ sc _ _ _ => sc
  | _ => { kind := .function, names := [], isGenerator := false, isCoroutine := false }
noncomputable abbrev E0 : XK := fun _ _ _ => False
structure Fun (K : PySem.W.Frag) (x qual : Str) (st : Stmt) (f : Addr) (fd : FuncData) : Prop where
  ex : ∃ (oc : Value) (od : Option Addr) (kV doc pm : Value) (an : Option Addr) (cdv ct : Value) (osl : Array (Option Value)),
    fd = PySem.W.fnOf x qual (defArgs st) (defBody st) (defScope st) .none kV doc pm an cdv ct ∧ K.lookup f = some ⟨oc, od, .func fd, osl⟩ ∧ PySem.W.codeIn K cdv qual = true
  kp : PySem.W.keepIn K (.ref f) = true
section
variable {P : Program} {w : World} {K : PySem.W.Frag} {mg : Str → Option Value} {base : Heap}
theorem Fun.binds {x qual : Str} {st : Stmt} {f : Addr} {fd : FuncData} {ps : List Str} (F : Fun K x qual st f fd)
    (h : ∀ (kV doc pm : Value) (an : Option Addr) (cdv ct : Value) (us : List Value), us.length = ps.length → bindArgs (PySem.W.fnOf x qual (defArgs st) (defBody st) (defScope st) .none kV doc pm an cdv ct) ⟨us, []⟩ = pure (ps.zip us)) : Binds K fd ps [] := by
  obtain ⟨oc, od, kV, doc, pm, an, cdv, ct, osl, rfl, lk, hcd⟩ := F.ex
  exact .all (h kV doc pm an cdv ct)
theorem fun_mk {x qual : Str} {st : Stmt} {f : Addr} {oc : Value} {od an : Option Addr} {osl : Array (Option Value)} {kV doc pm cdv ct : Value} (l : K.lookup f = some ⟨oc, od, .func (PySem.W.fnOf x qual (defArgs st) (defBody st) (defScope st) .none kV doc pm an cdv ct), osl⟩)
    (c : PySem.W.codeIn K cdv qual = true) (k : PySem.W.keepIn K (.ref f) = true) : Fun K x qual st f (PySem.W.fnOf x qual (defArgs st) (defBody st) (defScope st) .none kV doc pm an cdv ct) := ⟨⟨oc, od, kV, doc, pm, an, cdv, ct, osl, rfl, l, c⟩, k⟩
end
section
variable {X : Cx}
theorem pv (i : Nat) {x : Str} {pos : Pos} (hN : X.N[i]? = some x := by rfl) (hv : Vis X.env.scope x := by first | exact Or.inl rfl | exact Or.inr (Or.inl rfl) | exact Or.inr (Or.inr rfl)) (hd : (x == ("__debug__" : Str)) = false := by decide)
    (hcd : (x == ("__classdict__" : Str)) = false := by decide) : PE X (.Name x pos) (tVar i) := pe_var hN hv hd hcd
end
theorem iteF {A B : Prop} (h : B) : if false = true then A else B := by
  rw [if_neg Bool.false_ne_true]
  exact h
theorem iteT {A B : Prop} (h : A) : if true = true then A else B := by
  rw [if_pos rfl]
  exact h
theorem ite2 {c A B : Prop} [Decidable c] (h1 : c → A) (h2 : ¬ c → B) : if c then A else B := by
  by_cases h : c
  · rw [if_pos h]
    exact h1 h
  · rw [if_neg h]
    exact h2 h
theorem iteNS {c A B : Prop} [Decidable c] (hc : c) (h : B) : if (!decide c) = true then A else B := by
  rw [decide_eq_true hc]
  exact iteF h
noncomputable def Same (H H' : Hp) : Prop := ∀ b o, H b = some o → H' b = some o
theorem Same.refl (H : Hp) : Same H H := fun _ _ h => h
theorem Same.trans {H H1 H2 : Hp} (a : Same H H1) (b : Same H1 H2) : Same H H2 := fun c o h => b c o (a c o h)
theorem Same.free {H H' : Hp} (e : Same H H') {l : Addr} (h : H' l = Option.none) : H l = Option.none := by
  cases q : H l with
  | none => rfl
  | some o =>
    rw [e l o q] at h
    cases h
theorem Same.seq {K : PySem.W.Frag} {H H' : Hp} {a : Addr} {xs : List V} (e : Same H H') (h : SqL K H a xs) : SqL K H' a xs := by
  rcases h with (h | ⟨o, h⟩) | h
  · exact .inl (.inl (e _ _ h))
  · exact .inl (.inr ⟨o, e _ _ h⟩)
  · exact .inr h
end L2
set_option Elab.async false
set_option linter.all false
set_option maxRecDepth 100000
set_option maxHeartbeats 2000000
namespace L2
open PySem PySem.Spec PyProof.Rows
theorem ObjOk.isThere {P : Program} {w : World} {H : Hp} {h : Heap} {a : Addr} {o : HO} (x : ObjOk P w H h a o) : ∃ ob, h.get? a = some ob := by
  cases o with
  | lst xs => obtain ⟨_, _, _, _, e⟩ := x; exact ⟨_, e⟩
  | tup xs => obtain ⟨_, _, _, ob, e, _⟩ := x; exact ⟨ob, e⟩
  | dK kvs => obtain ⟨_, _, _, _, ob, _, _, e, _⟩ := x; exact ⟨ob, e⟩
  | dT kvs => obtain ⟨_, _, _, _, ob, _, _, e, _⟩ := x; exact ⟨ob, e⟩
  | set S n => obtain ⟨ob, _, _, _, e, _⟩ := x; exact ⟨ob, e⟩
  | ins C dx fs => obtain ⟨_, _, _, e, _⟩ := x; exact ⟨_, e⟩
  | own y => exact x
  | xd fs => obtain ⟨_, ⟨ob, _, _, e, _⟩, _⟩ := x; exact ⟨ob, e⟩
  | rng lo hi => obtain ⟨_, _, _, e⟩ := x; exact ⟨_, e⟩
  | frz ob u => obtain ⟨e, _⟩ := x; exact ⟨_, e⟩
  | tbl ps => exact ⟨_, (show h.get? a = some _ from x)⟩
  | met f y => exact ⟨_, (show h.get? a = some _ from x)⟩
  | ext φ => obtain ⟨_, e, _⟩ := x; exact e
section
variable {X : Cx} {pins : List (Addr × Obj)} {σ : List (Option V)} {H H' : Hp} {s : Shared} {h' : Heap}
theorem Inv.step2 {g' : Array GenState} {t' : Nat} {d' : Drawn} {ch : List Addr} (I : Inv X pins σ H s)
    (hch : ∀ b ∈ ch, (b ∈ X.ex ∨ X.s₀.heap.get? b = none) ∧ b ≠ X.env.locals ∧ (∀ x c, X.env.cells.lookup x = some c → c ≠ b) ∧ ∀ p ∈ X.pn ++ pins, p.1 ≠ b)
    (keep : ∀ b o, b ≠ X.env.locals → b ∉ X.fs → b ∉ ch → s.heap.get? b = some o → H b = none → h'.get? b = some o)
    (slot : ∀ b o, b ≠ X.env.locals → b ∈ X.fs → b ∉ ch → s.heap.get? b = some o → H b = none → ∃ sl, h'.get? b = some { o with slots := sl }) (free : ∀ b o, b ∉ ch → s.heap.get? b = some o → H b = none → H' b = none)
    (there : ∀ b o, b ∉ ch → s.heap.get? b = some o → ∃ o', h'.get? b = some o')
    (tups : ∀ b xs, H b = some (.tup xs) → H' b = some (.tup xs)) (frzs : ∀ b o u, H b = some (.frz o u) → H' b = some (.frz o u)) (tbls : ∀ b ps, H b = some (.tbl ps) → ∃ more, H' b = some (.tbl (ps ++ more)))
    (ns : ∀ m, s.heap.Ns X.env.locals m → h'.Ns X.env.locals m) (hok : HOk X.prog X.w H' h') (hg : AllBare g') :
    Inv X pins σ H' { s with heap := h', gens := g', drawn := d', toks := t' } := by
  have neL : ∀ b o, X.s₀.heap.get? b = some o → b ≠ X.env.locals := fun b o e => Nat.ne_of_lt (Nat.lt_of_lt_of_le (Heap.lt_size e) I.ok.above)
  have neC : ∀ b o, X.s₀.heap.get? b = some o → b ∉ X.ex → b ∉ ch := fun b o e hx hb => by
    rcases (hch b hb).1 with z | z
    · exact hx z
    · rw [z] at e; cases e
  have cellK : ∀ x c, X.env.cells.lookup x = some c → ∀ v, s.heap.IsCell c v → h'.IsCell c v := fun x c e v ⟨o, ho, hd⟩ => by
    have nch : c ∉ ch := fun z => (hch c z).2.2.1 x c e rfl
    by_cases hc : c ∈ X.fs
    · obtain ⟨sl, q⟩ := slot c o (I.cne x c e) hc nch ho (I.freeC x c e)
      exact ⟨_, q, hd⟩
    · exact ⟨o, keep c o (I.cne x c e) hc nch ho (I.freeC x c e), hd⟩
  refine ⟨I.ok, I.os, hg, ⟨fun b o e n hb hx => ?_, fun b o e n hb hx => ?_, fun b o e n hx => ?_, fun b o e hx => ?_, fun b xs e => tups b xs (I.base.tups b xs e), fun b o xs e => frzs b o xs (I.base.frzs b o xs e), fun b ps e => ?_⟩, ?_, fun x c e => ?_, ?_, fun x c e => ?_, fun p hp => ?_, hok, I.len⟩
  · exact keep b o (neL b o e) hb (neC b o e hx) (I.base.keep b o e n hb hx) (I.base.free b o e n hx)
  · obtain ⟨sl, e1⟩ := I.base.slot b o e n hb hx
    obtain ⟨sl', e2⟩ := slot b _ (neL b o e) hb (neC b o e hx) e1 (I.base.free b o e n hx)
    exact ⟨sl', e2⟩
  · obtain ⟨o', e1⟩ := I.base.there b o e hx
    exact free b o' (neC b o e hx) e1 (I.base.free b o e n hx)
  · obtain ⟨o', e1⟩ := I.base.there b o e hx
    exact there b o' (neC b o e hx) e1
  · obtain ⟨m1, e1⟩ := I.base.tbls b ps e
    obtain ⟨m2, e2⟩ := tbls b _ e1
    exact ⟨m1 ++ m2, by rw [e2, Array.append_assoc]⟩
  · obtain ⟨m, hn, hl⟩ := I.loc
    refine ⟨m, ns m hn, fun i x v e1 e2 e3 => ?_⟩
    obtain ⟨u, r, l⟩ := hl i x v e1 e2 e3
    refine ⟨u, r, ?_⟩
    rcases l with l | ⟨k, c, e, z⟩
    · exact .inl l
    · exact .inr ⟨k, c, e, cellK x c e _ z⟩
  · obtain ⟨v, z⟩ := I.cell x c e
    exact ⟨v, cellK x c e v z⟩
  · obtain ⟨m, ⟨o, _, _, ho, _⟩, _⟩ := I.loc
    exact free _ o (fun z => (hch _ z).2.1 rfl) ho I.free
  · obtain ⟨v, o, ho, hd⟩ := I.cell x c e
    exact free c o (fun z => (hch c z).2.2.1 x c e rfl) ho (I.freeC x c e)
  · obtain ⟨e, n, ne, nf, d⟩ := I.pin p hp
    have nch : p.1 ∉ ch := fun z => (hch p.1 z).2.2.2 p hp rfl
    exact ⟨keep p.1 p.2 ne nf nch e n, free p.1 p.2 nch e n, ne, nf, d⟩
end
noncomputable def ExcAt (h₀ h : Heap) (H : Hp) (ea : Addr) (C : Value) : Prop :=
  ∃ oe vs T oT ts a0, h.get? ea = some oe ∧ oe.cls = C ∧ vs[0]? = some a0 ∧ oe.data = .fields vs ∧ vs[1]? = some (.ref T) ∧ T ≠ ea ∧ h.get? T = some oT ∧ oT.data = .fields ts ∧ ts[3]? = some .none ∧
    H ea = none ∧ H T = none ∧ h₀.get? ea = none ∧ h₀.get? T = none
noncomputable def CX1 (P : Program) (w : World) : CXT := fun outer H s E e s' =>
  ∃ ea C H', e = .ref ea ∧ s'.os = s.os ∧ AllBare s'.gens ∧ Un (frs outer) [] H H' s.heap s'.heap ∧ HOk P w H' s'.heap ∧ ExcAt s.heap s'.heap H' ea C ∧ E C none H'
section
variable {P : Program} {w : World} {K : PySem.W.Frag} {mg : Str → Option Value} {base : Heap} {N : List Str} {qual : Str} {scope : Scope} {f : Addr} {cd : Value} {A : Around} {outer : List Env} {s s1 : Shared} {H H1 : Hp} {E : XK}
  {pins : List (Addr × Obj)} {σ : St} {hid : List Addr} {h' : Heap} {ea : Addr} {C a0 : Value}
theorem left_cx2 (I : Inv (cxOf (CX1 P w) P w K mg base N qual scope f cd A outer s H E) pins σ H1 s1) (hf : ∀ b ∈ frs (cxOf (CX1 P w) P w K mg base N qual scope f cd A outer s H E).stack, b ∈ hid)
    (hh : ∀ b ∈ hid, b ∈ frs (cxOf (CX1 P w) P w K mg base N qual scope f cd A outer s H E).stack ∨ (s.heap.get? b = none ∧ H1 b = none))
    (st : (PySem.W.hideAll s1.heap hid).StaysIn h') (sm : ∀ b ∈ frs (cxOf (CX1 P w) P w K mg base N qual scope f cd A outer s H E).stack, ∀ o, s1.heap.get? b = some o → (∀ vs, o.data ≠ .fields vs) → ∃ sl, h'.get? b = some { o with slots := sl })
    (tr : h'.TracedW (PySem.W.hideAll s1.heap hid) ea C a0) (hea : ea ∈ hid ∨ s1.heap.get? ea = none) (e : E C none H1) : CX1 P w outer H s E (.ref ea) { s1 with heap := h' } := by
  have old : ∀ b o, s.heap.get? b = some o → ∃ o', s1.heap.get? b = some o' := fun b o q => I.base.there b o q (fun z => nomatch z)
  have frS := fun b hb => (I.stack.mem (b := b) hb).2
  have keepB : ∀ b o, b ∉ hid → s1.heap.get? b = some o → h'.get? b = some o := fun b o hb q => st b o (PySem.W.hideAll_get hid q hb)
  have trk : ∀ b o, H1 b = some o → b ∉ hid := fun b o q hb => by
    rcases hh b hb with z | ⟨_, z⟩
    · rw [I.stkFree b z] at q; cases q
    · rw [z] at q; cases q
  have fr2 : ∀ b o, s.heap.get? b = some o → b ∈ hid → b ∈ frs outer := fun b o q hb => by
    rcases hh b hb with z | ⟨z, _⟩
    · rcases List.mem_cons.mp (I.stkSub b z) with y | y
      · exact absurd (Nat.lt_of_lt_of_le (Heap.lt_size q) I.ok.above) (by rw [y]; exact Nat.lt_irrefl _)
      · exact y
    · rw [z] at q; cases q
  have inStk : ∀ b, b ∈ frs outer → b ∈ frs (cxOf (CX1 P w) P w K mg base N qual scope f cd A outer s H E).stack := fun b hb => List.mem_cons_of_mem _ hb
  obtain ⟨oe, vs, T, oT, ts, he, ⟨hc, h0⟩, hd, h1, hnT, hne, hT, hdT, h3⟩ := tr
  have gone : ∀ b o', (PySem.W.hideAll s1.heap hid).get? b = none → s1.heap.get? b = some o' → b ∈ hid := fun b o' z q => by
    by_cases hb : b ∈ hid
    · exact hb
    · rw [PySem.W.hideAll_get hid q hb] at z; cases z
  have fields : ∀ b o ws, h'.get? b = some o → o.data = .fields ws → b ∈ frs (cxOf (CX1 P w) P w K mg base N qual scope f cd A outer s H E).stack → False := fun b o ws q d hb => by
    obtain ⟨ob, g1, g2⟩ := frS b hb
    obtain ⟨sl, g3⟩ := sm b hb ob g1 g2
    rw [q] at g3; cases g3; exact g2 ws d
  have hT0 : s.heap.get? T = none := by
    cases q : s.heap.get? T with
    | none => rfl
    | some o =>
      obtain ⟨o', q'⟩ := old T o q
      exact (fields T oT ts hT hdT (inStk _ (fr2 T o q (gone T o' hnT q')))).elim
  have hT1 : H1 T = none := by
    cases q : H1 T with
    | none => rfl
    | some o =>
      obtain ⟨o', q'⟩ := (I.hok T o q).isThere
      exact absurd (gone T o' hnT q') (trk T o q)
  have he0 : s.heap.get? ea = none := by
    cases q : s.heap.get? ea with
    | none => rfl
    | some o =>
      rcases hea with z | z
      · exact (fields ea oe vs he hd (inStk _ (fr2 ea o q z))).elim
      · obtain ⟨o', q'⟩ := old ea o q
        rw [z] at q'; cases q'
  have he1 : H1 ea = none := by
    cases q : H1 ea with
    | none => rfl
    | some o =>
      rcases hea with z | z
      · exact absurd z (trk ea o q)
      · obtain ⟨o', q'⟩ := (I.hok ea o q).isThere
        rw [z] at q'; cases q'
  refine ⟨ea, C, H1, rfl, I.os, I.bare, ⟨fun b o q n hb _ => ?_, fun b o q n hb _ => ?_, fun b o q n _ => ?_, fun b o q _ => ?_, I.base.tups, I.base.frzs, I.base.tbls⟩, fun b o q => ?_,
    ⟨oe, vs, T, oT, ts, a0, he, hc, h0, hd, h1, hne, hT, hdT, h3, he1, hT1, he0, hT0⟩, e⟩
  · exact keepB b o (fun z => hb (fr2 b o q z)) (I.base.keep b o q n hb (fun z => nomatch z))
  · obtain ⟨sl, q1⟩ := I.base.slot b o q n hb (fun z => nomatch z)
    obtain ⟨ob, g1, g2⟩ := frS b (inStk b hb)
    rw [q1] at g1; cases g1
    obtain ⟨sl', q2⟩ := sm b (inStk b hb) _ q1 g2
    exact ⟨sl', q2⟩
  · exact I.base.free b o q n (fun z => nomatch z)
  · obtain ⟨o', q1⟩ := old b o q
    by_cases hb : b ∈ hid
    · obtain ⟨ob, g1, g2⟩ := frS b (inStk b (fr2 b o q hb))
      obtain ⟨sl, q2⟩ := sm b (inStk b (fr2 b o q hb)) ob g1 g2
      exact ⟨_, q2⟩
    · exact ⟨o', keepB b o' hb q1⟩
  · refine (I.hok b o q).stay (fun c u hc q' => keepB c u ?_ q') (fun _ z => z) fun _ _ z => z
    rcases hc with z | z
    · rw [z]; exact trk b o q
    · exact trk c _ z
theorem left_cx (I : Inv (cxOf (CX1 P w) P w K mg base N qual scope f cd A outer s H E) pins σ H1 s1) (hf : ∀ b ∈ frs (cxOf (CX1 P w) P w K mg base N qual scope f cd A outer s H E).stack, b ∈ hid)
    (hh : ∀ b ∈ hid, b ∈ frs (cxOf (CX1 P w) P w K mg base N qual scope f cd A outer s H E).stack ∨ (s.heap.get? b = none ∧ H1 b = none))
    (st : (PySem.W.hideAll s1.heap hid).StaysIn h') (sm : s1.heap.UpToSlots h') (tr : h'.TracedW (PySem.W.hideAll s1.heap hid) ea C a0) (hea : ea ∈ hid ∨ s1.heap.get? ea = none) (e : E C none H1) :
    CX1 P w outer H s E (.ref ea) { s1 with heap := h' } :=
  left_cx2 I hf hh st (fun b _ o ho hn => sm b o ho hn) tr hea e
theorem passes1 : Passes (CX1 P w) (cxOf (CX1 P w) P w K mg base N qual scope f cd A outer s H E) E := by
  intro pins σ H1 s1 e s' I hx
  obtain ⟨ea, C, H', rfl, os, bare, un, hok, ⟨oe, vs, T, oT, ts, a0, he, hc, h0, hd, h1, hne, hT, hdT, h3, n1, n2, g1, g2⟩, hE⟩ := hx
  have I' : Inv (cxOf (CX1 P w) P w K mg base N qual scope f cd A outer s H E) pins σ H' s' := I.call' (ch := []) os un hok bare (fun _ z => nomatch z)
  have nOld : ∀ b, s1.heap.get? b = none → s.heap.get? b = none := fun b z => by
    cases q : s.heap.get? b with
    | none => rfl
    | some o =>
      obtain ⟨o', q'⟩ := I.base.there b o q (fun z => nomatch z)
      rw [z] at q'; cases q'
  have hfr : ∀ b ∈ frs (cxOf (CX1 P w) P w K mg base N qual scope f cd A outer s H E).stack, b ∈ ea :: T :: frs (cxOf (CX1 P w) P w K mg base N qual scope f cd A outer s H E).stack := fun b hb => .tail _ (.tail _ hb)
  refine wpAny_leaves_onW (base := PySem.W.hideAll s'.heap (ea :: T :: frs (cxOf (CX1 P w) P w K mg base N qual scope f cd A outer s H E).stack)) (cls := C) (a0 := a0) I'.ok.frames rfl
    ⟨fun b o q => PySem.W.of_hideAll _ q, PySem.W.hideAll_none _ (.head _), PySem.W.funFrames_hide I'.stack (fun env he' b hb => hfr b (List.mem_filterMap.mpr ⟨env, he', hb⟩)),
      ⟨oe, vs, T, oT, ts, he, ⟨hc, h0⟩, hd, h1, PySem.W.hideAll_none _ (.tail _ (.head _)), hne, hT, hdT, h3⟩⟩ fun h' fl sm => ?_
  refine left_cx I' hfr (fun b hb => ?_) fl.1 sm fl.2.2.2 (.inl (.head _)) hE
  rcases List.mem_cons.mp hb with rfl | hb
  · exact .inr ⟨nOld _ g1, n1⟩
  · rcases List.mem_cons.mp hb with rfl | hb
    · exact .inr ⟨nOld _ g2, n2⟩
    · exact .inl hb
end
abbrev bmV : List Value := [.type "ValueError", .type "Exception", .type "BaseException", .type "object"]
theorem exc_obj {K : PySem.W.Frag} {h : Heap} {C : Addr} {bmB : List Value} {newId : String} (X : K.In h) (q : PySem.W.excIn K C bmB newId = true) :
    ∃ bm N nm qn bs hdct sn sub ab col dd k0 k1 k2 k3 k5 mN, h.get? C = some (excClassObj nm qn C N bs bm hdct sn sub ab col dd k0 k1 k2 k3 k5 newId) ∧ h.Ns N mN ∧ mN "__init__" = none ∧ OwnTail h bmB bm := by
  unfold PySem.W.excIn at q
  split at q
  next dd cd sl ho =>
    split at q
    next C' bm k0 k1 k2 k3 n k5 hm hs =>
      simp only [Bool.and_eq_true, beq_iff_eq, Bool.not_eq_true'] at q
      obtain ⟨⟨⟨⟨⟨e1, e2⟩, hdel⟩, ht⟩, hok⟩, hni⟩ := q
      subst e1; subst e2
      obtain ⟨nm, bs, mro, ns, qn, hd, sn, sub, ab, col, del⟩ := cd
      dsimp only at hm hdel hok hni
      subst hm hdel
      obtain rfl : sl = #[k0, k1, k2, k3, some (.builtin n), k5] := by
        cases sl with
        | mk l => exact congrArg Array.mk hs
      have hns : h.Ns ns (h.nsMap ns) := .of_isNs (PySem.W.isNs_of_in X hok)
      exact ⟨bm, ns, nm, qn, bs, hd, sn, sub, ab, col, dd, k0, k1, k2, k3, k5, _, X _ _ ho, hns, PySem.W.nsMap_none_of_in X hok hni, PySem.W.tail_of_in X ht⟩
    next => cases q
  next => cases q
section
variable {P : Program} {w : World} {K : PySem.W.Frag} {mg : Str → Option Value} {base : Heap} {N : List Str} {qual : Str} {scope : Scope} {f : Addr} {cd : Value} {A : Around} {outer : List Env} {s : Shared} {H : Hp} {E : XK}
theorem ps_raise {x : Str} {np cpos pos : Pos} {e₀ : Expr} {rest : List Expr} {t : TA} {C : Addr} (hq : PySem.W.excIn K C bmV "ValueError.__new__" = true) (hm : mg x = some (.ref C))
    (ha : PA (cxOf (CX1 P w) P w K mg base N qual scope f cd A outer s H E) (e₀ :: rest) t)
    (hg : Gl (cxOf (CX1 P w) P w K mg base N qual scope f cd A outer s H E) x := by rfl) (hdb : (x == ("__debug__" : Str)) = false := by decide)
    (he : starEach (e₀ :: rest) (cxOf (CX1 P w) P w K mg base N qual scope f cd A outer s H E).env = (false, eval e₀ (cxOf (CX1 P w) P w K mg base N qual scope f cd A outer s H E).env) :: starEach rest (cxOf (CX1 P w) P w K mg base N qual scope f cd A outer s H E).env := by rfl)
    (hpl : (backTo cpos (starEach rest (cxOf (CX1 P w) P w K mg base N qual scope f cd A outer s H E).env)).any (·.1) = false := by rfl) :
    PS (cxOf (CX1 P w) P w K mg base N qual scope f cd A outer s H E) (.Raise (some (.Call (.Name x np) (e₀ :: rest) [] cpos)) none pos) (fun _ σ H0 => t σ H0 fun vs H1 => vs.length ≤ sizeLine ∧ E (.ref C) none H1) := by
  intro pins s1 σ H0 D I h
  obtain ⟨tl, N', nm, q, bs, hdct, sn, sub, ab, col, dd, k0, k1, k2, k3, k5, mN, hC, hN, hni, T⟩ := exc_obj I.ok.mod.kin hq
  refine wpAny_Raise_call_subT (C := C) (nm := nm) (q := q) (N := N') (bs := bs) (bm := tl) (hdct := hdct) (sn := sn) (sub := sub) (ab := ab) (col := col) (dd := dd) (k0 := k0) (k1 := k1) (k2 := k2) (k3 := k3) (k5 := k5)
    PySem.F.excBase_ValueError (mN := mN) (T.hasType PySem.F.excBase_ValueError.hasBase) (I.ok.hd rfl) (by rw [he]; show (false || (backTo cpos (starEach rest _)).any (·.1)) = false; rw [hpl]; rfl) hni (ld_glob I hg hm ⟨rfl, ?_⟩ hdb)
  have hs := ha cpos pins s1 σ H0 _ I h
  rw [he] at hs ⊢
  refine Calls.evalArgs_plain (wpAny_mono hs (fun us s2 h2 => ?_) fun _ _ y => y)
  obtain ⟨vs, H2, I2, r, z, hE⟩ := h2
  refine ⟨rfl, by rw [← r.length]; exact z, I2.bk _ _ hC, hN.keeps I2.bk, T.keeps I2.bk, fun h' e hm' => ?_⟩
  have hin : ∀ env ∈ (cxOf (CX1 P w) P w K mg base N qual scope f cd A outer s H E).stack, ∀ b, env.frame = some b → b ∈ frs (cxOf (CX1 P w) P w K mg base N qual scope f cd A outer s H E).stack := fun env he b hb => List.mem_filterMap.mpr ⟨env, he, hb⟩
  exact wpAny_leaves_madeW (base := PySem.W.hideAll s2.heap (frs (cxOf (CX1 P w) P w K mg base N qual scope f cd A outer s H E).stack)) (h := s2.heap) I2.ok.frames rfl (fun b o q => PySem.W.of_hideAll _ q) (PySem.W.funFrames_hide I2.stack hin) hm'
    fun h'' t' fl _ _ sm => (left_cx (s1 := s2) (h' := h'') I2 (fun b hb => hb) (fun b hb => .inl hb) fl.1 ((Heap.UpToSlots.of_keeps hm'.keeps).trans sm) fl.2.2.2 (.inr hm'.new) hE : CX1 P w outer H s E (.ref e) { s2 with heap := h'' })
end
end L2
set_option Elab.async false
set_option linter.all false
set_option maxRecDepth 100000
set_option maxHeartbeats 2000000
namespace L2
open PySem PySem.Spec PyProof.Rows
noncomputable def Fly (X : Cx) (pins : List (Addr × Obj)) (H : Hp) (ea : Addr) (C : Value) (h : Heap) : Prop :=
  ∃ oe vs T oT ts a0, h.get? ea = some oe ∧ oe.cls = C ∧ vs[0]? = some a0 ∧ oe.data = .fields vs ∧ vs[1]? = some (.ref T) ∧ T ≠ ea ∧ h.get? T = some oT ∧ oT.data = .fields ts ∧ ts[3]? = some .none ∧
    H ea = none ∧ H T = none ∧ ∀ b, b = ea ∨ b = T → X.s₀.heap.get? b = none ∧ b ≠ X.env.locals ∧ (∀ x c, X.env.cells.lookup x = some c → c ≠ b) ∧ ∀ p ∈ X.pn ++ pins, p.1 ≠ b
noncomputable abbrev XS := St → Value → Hp → Prop
noncomputable def XP (X : Cx) (pins : List (Addr × Obj)) (E : XS) (e : Value) (s' : Shared) : Prop := ∃ σ ea C H', e = .ref ea ∧ Inv X pins σ H' s' ∧ Fly X pins H' ea C s'.heap ∧ E σ C H'
noncomputable abbrev TEx := St → Hp → VK → XK → Prop
noncomputable abbrev TSx := Ends → XS → St → Hp → Prop
noncomputable def PEx (X : Cx) (e : Expr) (t : TEx) : Prop :=
  ∀ (pins : List (Addr × Obj)) (s : Shared) (σ : St) (H : Hp) (Q : VK) (E : XS), Inv X pins σ H s → t σ H Q (fun C _ H' => E σ C H') → wpAny (model X.prog X.w) X.A (eval e X.env) (EP X pins σ Q) (XP X pins E) s
noncomputable def PSx (X : Cx) (st : Stmt) (t : TSx) : Prop :=
  ∀ (pins : List (Addr × Obj)) (s : Shared) (σ : St) (H : Hp) (D : Ends) (E : XS), Inv X pins σ H s → t D E σ H → wpAny (model X.prog X.w) X.A (exec st X.env) (SP X pins D) (XP X pins E) s
noncomputable def PSxs (X : Cx) (st : List Stmt) (t : TSx) : Prop :=
  ∀ (pins : List (Addr × Obj)) (s : Shared) (σ : St) (H : Hp) (D : Ends) (E : XS), Inv X pins σ H s → t D E σ H → wpAny (model X.prog X.w) X.A (execs st X.env) (SP X pins D) (XP X pins E) s
structure Own (X : Cx) : Prop where
  ex : X.ex = []
  stk : X.stack = X.env :: X.outer
  fr : X.env.frame = some X.env.locals
  calm : X.calm = true
section
variable {X : Cx} {pins : List (Addr × Obj)} {σ : St} {H : Hp} {s s' : Shared} {E : XK} {e : Value}
theorem Inv.unlike (O : Own X) (I : Inv X pins σ H s) {b : Addr} (z : s.heap.get? b = none) :
    X.s₀.heap.get? b = none ∧ b ≠ X.env.locals ∧ (∀ x c, X.env.cells.lookup x = some c → c ≠ b) ∧ ∀ p ∈ X.pn ++ pins, p.1 ≠ b := by
  refine ⟨?_, ?_, fun x c e y => ?_, fun p hp y => ?_⟩
  · cases q : X.s₀.heap.get? b with
    | none => rfl
    | some o =>
      obtain ⟨o', q'⟩ := I.base.there b o q (by rw [O.ex]; exact fun z => nomatch z)
      rw [z] at q'; cases q'
  · obtain ⟨m, ⟨o, _, _, ho, _⟩, _⟩ := I.loc
    rintro rfl
    rw [z] at ho; cases ho
  · obtain ⟨v, o, ho, _⟩ := I.cell x c e
    rw [y, z] at ho; cases ho
  · have := (I.pin p hp).1
    rw [y, z] at this; cases this
theorem fly_of (O : Own X) (I : Inv X pins σ H s) (hx : CX1 X.prog X.w X.stack H s E e s') : ∃ ea C H', e = .ref ea ∧ Inv X pins σ H' s' ∧ Fly X pins H' ea C s'.heap ∧ E C none H' := by
  obtain ⟨ea, C, H', rfl, os, bare, un, hok, ⟨oe, vs, T, oT, ts, a0, he, hc, h0, hd, h1, hne, hT, hdT, h3, n1, n2, g1, g2⟩, hE⟩ := hx
  refine ⟨ea, C, H', rfl, I.call' (ch := []) os un hok bare (fun _ z => nomatch z), ⟨oe, vs, T, oT, ts, a0, he, hc, h0, hd, h1, hne, hT, hdT, h3, n1, n2, fun b hb => ?_⟩, hE⟩
  rcases hb with rfl | rfl
  · exact I.unlike O g1
  · exact I.unlike O g2
theorem fly_on (O : Own X) (I : Inv X pins σ H s) {oe : Obj} {vs ts : Array Value} {T ea : Addr} {oT : Obj} {a0 C : Value} {h' : Heap}
    (n1 : H ea = none) (n2 : H T = none) (hb : ∀ b, b = ea ∨ b = T → X.s₀.heap.get? b = none ∧ b ≠ X.env.locals ∧ (∀ x c, X.env.cells.lookup x = some c → c ≠ b) ∧ ∀ p ∈ X.pn ++ pins, p.1 ≠ b)
    (st : (PySem.W.hideAll s.heap (ea :: T :: frs X.stack)).StaysIn h') (sm : s.heap.UpToSlots h') (tr : h'.TracedW (PySem.W.hideAll s.heap (ea :: T :: frs X.stack)) ea C a0) :
    Inv X pins σ H { s with heap := h' } ∧ Fly X pins H ea C h' := by
  have frS := fun b hb => (I.stack.mem (b := b) hb).2
  have keepB : ∀ b o, b ∉ ea :: T :: frs X.stack → s.heap.get? b = some o → h'.get? b = some o := fun b o hb q => st b o (PySem.W.hideAll_get _ q hb)
  have trk : ∀ b o, H b = some o → b ∉ ea :: T :: frs X.stack := fun b o q hb => by
    rcases List.mem_cons.mp hb with rfl | hb
    · rw [n1] at q; cases q
    · rcases List.mem_cons.mp hb with rfl | hb
      · rw [n2] at q; cases q
      · rw [I.stkFree b hb] at q; cases q
  have nh : ∀ b, b ≠ X.env.locals → b ∉ X.fs → b ∉ [ea, T] → b ∉ ea :: T :: frs X.stack := fun b h1 h2 h3 hb => by
    rcases List.mem_cons.mp hb with rfl | hb
    · exact h3 (.head _)
    · rcases List.mem_cons.mp hb with rfl | hb
      · exact h3 (.tail _ (.head _))
      · rcases List.mem_cons.mp (I.stkSub b hb) with y | y
        · exact h1 y
        · exact h2 y
  have fsS : ∀ b, b ∈ X.fs → b ∈ frs X.stack := fun b hb => by
    rw [O.stk]; unfold frs; rw [List.filterMap_cons, O.fr]; exact .tail _ hb
  refine ⟨I.step2 (g' := s.gens) (d' := s.drawn) (t' := s.toks) (ch := [ea, T]) (fun b hc => ?_) (fun b o h1 h2 h3 q _ => keepB b o (nh b h1 h2 h3) q) (fun b o _ h2 _ q _ => ?_) (fun _ _ _ _ n => n) (fun b o h3 q => ?_)
    (fun _ _ z => z) (fun _ _ _ z => z) (fun b ps z => ⟨#[], by rw [z]; simp⟩) (fun m hm => sm.ns hm) (fun b o q => ?_) I.bare, ?_⟩
  · have hc' : b = ea ∨ b = T := by simpa using hc
    obtain ⟨y1, y2, y3, y4⟩ := hb b hc'
    exact ⟨.inr y1, y2, y3, y4⟩
  · obtain ⟨ob, g1, g2⟩ := frS b (fsS b h2)
    rw [q] at g1; cases g1
    exact sm b o q g2
  · by_cases hh : b ∈ ea :: T :: frs X.stack
    · rcases List.mem_cons.mp hh with rfl | hh
      · exact absurd (.head _) h3
      · rcases List.mem_cons.mp hh with rfl | hh
        · exact absurd (.tail _ (.head _)) h3
        · obtain ⟨ob, g1, g2⟩ := frS b hh
          obtain ⟨sl, q2⟩ := sm b ob g1 g2
          exact ⟨_, q2⟩
    · exact ⟨o, keepB b o hh q⟩
  · refine (I.hok b o q).stay (fun c u hc q' => keepB c u ?_ q') (fun _ z => z) fun _ _ z => z
    rcases hc with z | z
    · rw [z]; exact trk b o q
    · exact trk c _ z
  · obtain ⟨oe, vs, T', oT, ts, he, ⟨hc, h0⟩, hd, h1, hnT, hne, hT, hdT, h3⟩ := tr
    have gone : ∀ o', s.heap.get? T' = some o' → T' = T := fun o' q => by
      by_cases hh : T' ∈ ea :: T :: frs X.stack
      · rcases List.mem_cons.mp hh with y | hh
        · exact absurd y hne
        · rcases List.mem_cons.mp hh with y | hh
          · exact y
          · obtain ⟨ob, g1, g2⟩ := frS T' hh
            obtain ⟨sl, g3⟩ := sm T' ob g1 g2
            rw [hT] at g3; cases g3
            exact absurd hdT (g2 ts)
      · rw [PySem.W.hideAll_get _ q hh] at hnT; cases hnT
    have hT1 : H T' = none := by
      cases q : H T' with
      | none => rfl
      | some o =>
        obtain ⟨o', q'⟩ := (I.hok T' o q).isThere
        rw [gone o' q', n2] at q; cases q
    refine ⟨oe, vs, T', oT, ts, a0, he, hc, h0, hd, h1, hne, hT, hdT, h3, n1, hT1, fun b hb' => ?_⟩
    rcases hb' with rfl | rfl
    · exact hb b (.inl rfl)
    · cases q : s.heap.get? b with
      | none => exact I.unlike O q
      | some o' => exact hb b (.inr (gone o' q))
theorem look_fly {Q : Unit → Shared → Prop} {E' : Value → Shared → Prop} {ea : Addr} {C : Value} (O : Own X) (I : Inv X pins σ H s) (f : Fly X pins H ea C s.heap)
    (h : ∀ h', Inv X pins σ H { s with heap := h' } → Fly X pins H ea C h' → Q () { s with heap := h' }) :
    wpAny (model X.prog X.w) X.A (noteFrame (.ref ea) X.env) (fun _ s₂ => wpAny (model X.prog X.w) X.A (setFlight (.ref ea) none) Q E' s₂) E' s := by
  obtain ⟨oe, vs, T, oT, ts, a0, he, hc, h0, hd, h1, hne, hT, hdT, h3, n1, n2, hb⟩ := f
  have hin : ∀ env ∈ X.stack, ∀ b, env.frame = some b → b ∈ ea :: T :: frs X.stack := fun env he' b hb' => .tail _ (.tail _ (List.mem_filterMap.mpr ⟨env, he', hb'⟩))
  have hfl : Heap.FlyingW (PySem.W.hideAll s.heap (ea :: T :: frs X.stack)) (X.env :: X.outer) ea C a0 s.heap := by
    rw [← O.stk]
    exact ⟨fun b o q => PySem.W.of_hideAll _ q, PySem.W.hideAll_none _ (.head _), PySem.W.funFrames_hide I.stack hin,
      ⟨oe, vs, T, oT, ts, he, ⟨hc, h0⟩, hd, h1, PySem.W.hideAll_none _ (.tail _ (.head _)), hne, hT, hdT, h3⟩⟩
  refine wpAny_looks_onW (by rw [← O.stk]; exact I.ok.frames) O.fr hfl fun h₄ hheld sm₄ => ?_
  refine wpAny_landsW hheld fun h₅ fl₅ sm₅ => ?_
  obtain ⟨I₅, f₅⟩ := fly_on (oe := oe) (vs := vs) (ts := ts) (oT := oT) O I n1 n2 hb fl₅.1 (sm₄.trans sm₅) fl₅.2.2.2
  exact h h₅ I₅ f₅
theorem land_fly {Q : Unit → Shared → Prop} {A' : Around} {E' : Value → Shared → Prop} {ea : Addr} {C : Value} (O : Own X) (I : Inv X pins σ H s) (f : Fly X pins H ea C s.heap)
    (h : ∀ h', Inv X pins σ H { s with heap := h' } → Fly X pins H ea C h' → Q () { s with heap := h' }) :
    wpAny (model X.prog X.w) A' (setFlight (.ref ea) none) Q E' s := by
  obtain ⟨oe, vs, T, oT, ts, a0, he, hc, h0, hd, h1, hne, hT, hdT, h3, n1, n2, hb⟩ := f
  have hin : ∀ env ∈ X.stack, ∀ b, env.frame = some b → b ∈ ea :: T :: frs X.stack := fun env he' b hb' => .tail _ (.tail _ (List.mem_filterMap.mpr ⟨env, he', hb'⟩))
  have hfl : Heap.FlyingW (PySem.W.hideAll s.heap (ea :: T :: frs X.stack)) X.stack ea C a0 s.heap :=
    ⟨fun b o q => PySem.W.of_hideAll _ q, PySem.W.hideAll_none _ (.head _), PySem.W.funFrames_hide I.stack hin,
      ⟨oe, vs, T, oT, ts, he, ⟨hc, h0⟩, hd, h1, PySem.W.hideAll_none _ (.tail _ (.head _)), hne, hT, hdT, h3⟩⟩
  refine lands_againW hfl fun h₅ fl₅ sm₅ => ?_
  obtain ⟨I₅, f₅⟩ := fly_on (oe := oe) (vs := vs) (ts := ts) (oT := oT) O I n1 n2 hb fl₅.1 sm₅ fl₅.2.2.2
  exact h h₅ I₅ f₅
end
noncomputable abbrev Cx.mark (X : Cx) (ea : Addr) : Cx := { X with A := X.A.mark (some (.ref ea)), calm := false }
section
variable {X : Cx} {pins : List (Addr × Obj)} {σ : St} {H : Hp} {s : Shared} {ea : Addr}
theorem Inv.mark (I : Inv X pins σ H s) (ea : Addr) : Inv (X.mark ea) pins σ H s :=
  ⟨⟨I.ok.mod, I.ok.kind, I.ok.glob, I.ok.blt, I.ok.above, I.ok.inj, I.ok.has, I.ok.cab, (fun z => nomatch z), I.ok.frames, I.ok.stk, I.ok.exf, I.ok.bs, I.ok.bsz, I.ok.noex, I.ok.exfs, I.ok.funs, I.ok.frf⟩,
    I.os, I.bare, I.base, I.loc, I.cell, I.free, I.freeC, I.pin, I.hok, I.len⟩
theorem Inv.unmark (ok : X.Ok) (I : Inv (X.mark ea) pins σ H s) : Inv X pins σ H s := ⟨ok, I.os, I.bare, I.base, I.loc, I.cell, I.free, I.freeC, I.pin, I.hok, I.len⟩
theorem SP.unmark {D : Ends} {f : Flow} (ok : X.Ok) (h : SP (X.mark ea) pins D f s) : SP X pins D f s := by
  cases f with
  | next => obtain ⟨σ', H', I', q⟩ := h; exact ⟨σ', H', I'.unmark ok, q⟩
  | brk => obtain ⟨σ', H', I', q⟩ := h; exact ⟨σ', H', I'.unmark ok, q⟩
  | cont => obtain ⟨σ', H', I', q⟩ := h; exact ⟨σ', H', I'.unmark ok, q⟩
  | ret u => obtain ⟨v, σ', H', I', r, q⟩ := h; exact ⟨v, σ', H', I'.unmark ok, r, q⟩
end
noncomputable abbrev TH := Value → TS
noncomputable def PH (X : Cx) (hs : List ExceptHandler) (t : TH) : Prop :=
  ∀ (pins : List (Addr × Obj)) (s : Shared) (σ : St) (H : Hp) (D : Ends) (ea : Addr) (C : Value), Inv X pins σ H s → Fly X pins H ea C s.heap → t C D σ H → wpAny (model X.prog X.w) X.A (handleBy (.ref ea) X.env hs) (SP X pins D) X.xe s
noncomputable def hNil : TH := fun _ _ _ _ => False
section
variable {X : Cx}
theorem ph_nil : PH X [] hNil := fun _ _ _ _ _ _ _ _ _ h => h.elim
theorem psxs_one {st : Stmt} {t : TSx} (h1 : PSx X st t) : PSxs X [st] t := by
  intro pins s σ H D E I h
  refine wpAny_execs_cons (wpAny_mono (h1 pins s σ H D E I h) (fun f s1 q => ?_) fun _ _ z => z)
  cases f with
  | next => exact wpAny_execs_nil q
  | ret v => exact q
  | brk => exact q
  | cont => exact q
noncomputable def xSet (i : Nat) (te : TEx) : TSx := fun D E σ H => te σ H (fun v H1 => D.nx (σ.set i (some v)) H1) fun C _ H1 => E σ C H1
theorem psx_set {i : Nat} {x : Str} {e : Expr} {te : TEx} {pos pos' : Pos} (hN : X.N.Nodup) (hi : X.N[i]? = some x) (hx : Loc X.env.scope x) (he : PEx X e te) (hs : swapsWith e (some (.Name x pos')) pos.line X.env = pure false := by rfl)
    (hf : X.fn x = true ∨ X.env.scope.names.lookup x = some .local := by first | exact .inl rfl | exact .inr rfl | assumption) : PSx X (.Assign [.Name x pos'] e pos) (xSet i te) := by
  intro pins s σ H D E I h
  refine wpAny_Assign_Name (wpAny_mono (he pins s σ H _ E I h) (fun v s1 q => ?_) fun _ _ z => z) hs
  obtain ⟨y, H1, I1, r1, q1⟩ := q
  exact store_ok I1 hN hi hx r1 (fun s2 I2 => ⟨_, H1, I2, q1⟩) hf
noncomputable def tTry (tb : TSx) (th : TH) : TS := fun D σ H => tb D (fun σ' C H' => th C D σ' H') σ H
theorem ps_try {body : List Stmt} {h₀ : ExceptHandler} {hs : List ExceptHandler} {tb : TSx} {th : TH} {pos : Pos} (O : Own X) (hb : PSxs X body tb) (hh : PH X (h₀ :: hs) th) : PS X (.Try body (h₀ :: hs) [] [] pos) (tTry tb th) := by
  intro pins s σ H D I h
  refine wpAny_Try_except (wpAny_mono (hb pins s σ H D _ I h) (fun f s1 q => ?_) fun e s1 q => ?_)
  · cases f with
    | next => exact wpAny_execs_nil q
    | ret v => exact q
    | brk => exact q
    | cont => exact q
  · obtain ⟨σ', ea, C, H', rfl, I', f, q⟩ := q
    exact look_fly O I' f fun h' I'' f'' => hh pins _ σ' H' D ea C I'' f'' q
theorem pex_call {k : Nat} {f : Addr} {fd : FuncData} {ps : List Str} {sp : Sp} {dvs : List V} {ds : List Value} {x : Str} {p pos : Pos} {e : Expr} {es : List Expr} {t : TA} (O : Own X) (F : FnOk X.prog X.w X.K X.mg X.base (CX1 X.prog X.w) k f fd ps sp) (hr : Room k X.A) (hg : Gl X x) (hm : X.mg x = some (.ref f)) (hk : PySem.W.keepIn X.K (.ref f) = true) (hb : Binds X.K fd ps ds) (hd : Vals dvs ds)
    (ha : PA X.nox (e :: es) t) (hdb : (x == ("__debug__" : Str)) = false := by decide) (he : starEach (e :: es) X.env = (false, eval e X.env) :: starEach es X.env := by rfl) (hpl : (backTo pos (starEach es X.env)).any (·.1) = false := by rfl) :
    PEx X (.Call (.Name x p) (e :: es) [] pos) (fun σ H Q E => t σ H fun vs H1 => sp (vs ++ dvs) H1 Q E) := by
  intro pins s σ H Q E I h
  refine wpAny_Call_Name_kw (ld_glob I hg hm ?_ hdb)
  refine PySem.W.callWith_K (h₀ := X.base) I.ok.mod.kin hk (wpAny_mono (ha pos pins s σ H _ (I.wish _) h) (fun us s1 q => ?_) fun _ _ z => z.elim) he hpl
  obtain ⟨vs, H1, I1, r, q⟩ := q
  have I1 := I1.unwish
  have r2 : Vals (vs ++ dvs) (us ++ ds) := r.append hd
  have hl : (us ++ ds).length = ps.length := by rw [← r2.length]; exact F.len _ _ _ _ q
  refine ⟨I1.kIn, wpAny_call (codeAny_mono (F.run X.A X.stack s1 H1 ⟨us, []⟩ (us ++ ds) (vs ++ dvs) Q _ hr I1.env0 (hb s1 us I1.kIn hl) r2 q) fun r s' hq => ?_)⟩
  cases r with
  | error e =>
    have hq' : CX1 X.prog X.w X.stack H1 s1 (fun C _ H' => E σ C H') e s' := hq
    obtain ⟨ea, C, H', e1, I', f', q'⟩ := fly_of O I1 hq'
    exact ⟨σ, ea, C, H', e1, I', f', q'⟩
  | ok fl =>
    cases fl with
    | ret u => exact I1.after hq
    | next => exact False.elim hq
    | brk => exact False.elim hq
    | cont => exact False.elim hq
end
section
variable {P : Program} {w : World} {K : PySem.W.Frag} {mg : Str → Option Value} {base : Heap}
theorem Fun.okX {x qual : Str} {st : Stmt} {f : Addr} {fd : FuncData} {N ps : List Str} {k : Nat} {sp : Sp} (F : Fun K x qual st f fd) (S : FnScope N ps (defScope st)) (len : ∀ vs H Q E, sp vs H Q E → vs.length = ps.length)
    (hbody : ∀ (cdv : Value) (A : Around) (outer : List Env) (s : Shared) (H : Hp) (vs : List V) (Q : VK) (E : XK), Room k (A.deeper (envOfC qual (defScope st) s.heap.objs.size f cdv)) → sp vs H Q E →
      ∃ t, PSs (cxOf (CX1 P w) P w K mg base N qual (defScope st) f cdv A outer s H E) (defBody st) t ∧ t { nx := fun _ H' => Q .non H', rt := Q } (start N vs) H) : FnOk P w K mg base (CX1 P w) (k + 1) f fd ps sp := by
  obtain ⟨oc, od, kV, doc, pm, an, cdv, ct, osl, rfl, lk, hcd⟩ := F.ex
  exact fn_of lk hcd S len fun A outer s H vs Q E hr hsp => hbody cdv A outer s H vs Q E hr hsp
theorem own_cx {N : List Str} {qual : Str} {scope : Scope} {f : Addr} {cd : Value} {A : Around} {outer : List Env} {s : Shared} {H : Hp} {E : XK} : Own (cxOf (CX1 P w) P w K mg base N qual scope f cd A outer s H E) := ⟨rfl, rfl, rfl, rfl⟩
theorem own_pass {N : List Str} {qual : Str} {scope : Scope} {f : Addr} {cd : Value} {A : Around} {outer : List Env} {s : Shared} {H : Hp} {E : XK} :
    PassesOwn (model P w) (cxOf (CX1 P w) P w K mg base N qual scope f cd A outer s H E).A (cxOf (CX1 P w) P w K mg base N qual scope f cd A outer s H E).env (cxOf (CX1 P w) P w K mg base N qual scope f cd A outer s H E).xe := PassesOwn.leaving
end
end L2
set_option Elab.async false
set_option linter.all false
set_option maxRecDepth 100000
set_option maxHeartbeats 2000000
namespace L2
open PySem PySem.Spec PyProof.Rows
noncomputable def clIn (env : Env) : List (Str × NameKind) → List (Str × Addr) → List (Str × Addr)
  | [], cs => cs
  | (n, k) :: r, cs => if k == .free then (match env.cells.lookup n with | some a => clIn env r ((n, a) :: cs) | none => clIn env r cs) else clIn env r cs
noncomputable abbrev clOf (scope : Scope) (env : Env) : List (Str × Addr) := clIn env scope.names []
theorem clIn_mem {env : Env} : ∀ {ns : List (Str × NameKind)} {cs : List (Str × Addr)}, (∀ n a, (n, a) ∈ cs → env.cells.lookup n = some a) → ∀ n a, (n, a) ∈ clIn env ns cs → env.cells.lookup n = some a
  | [], _, h => h
  | (m, k) :: r, cs, h => by
    unfold clIn
    split
    · split
      · rename_i a e
        exact clIn_mem fun n b hb => by
          rcases List.mem_cons.mp hb with z | z
          · cases z; exact e
          · exact h n b z
      · exact clIn_mem h
    · exact clIn_mem h
theorem clIn_sub {env : Env} : ∀ {ns : List (Str × NameKind)} {cs : List (Str × Addr)} {p : Str × Addr}, p ∈ cs → p ∈ clIn env ns cs
  | [], _, _, h => h
  | (m, k) :: r, cs, p, h => by
    unfold clIn
    split
    · split
      · exact clIn_sub (.tail _ h)
      · exact clIn_sub h
    · exact clIn_sub h
theorem clIn_has {env : Env} {n : Str} {a : Addr} (e : env.cells.lookup n = some a) : ∀ {ns : List (Str × NameKind)} {cs : List (Str × Addr)}, (n, NameKind.free) ∈ ns → (n, a) ∈ clIn env ns cs
  | (m, k) :: r, cs, h => by
    unfold clIn
    rcases List.mem_cons.mp h with z | z
    · cases z
      rw [if_pos (by rfl), e]
      exact clIn_sub (.head _)
    · split
      · split
        · exact clIn_has e z
        · exact clIn_has e z
      · exact clIn_has e z
theorem look_of_mem {α : Type} {n : Str} : ∀ {l : List (Str × α)} {a : α}, (n, a) ∈ l → ∃ b, l.lookup n = some b
  | (m, c) :: r, a, h => by
    cases e : (n == m) with
    | true => exact ⟨c, by rw [List.lookup_cons, e]⟩
    | false =>
      rcases List.mem_cons.mp h with z | z
      · cases z
        rw [beq_self_eq_true] at e; cases e
      · obtain ⟨b, hb⟩ := look_of_mem z
        exact ⟨b, by rw [List.lookup_cons, e]; exact hb⟩
theorem cl_look {scope : Scope} {env : Env} {n : Str} {c : Addr} (h : (clOf scope env).lookup n = some c) : env.cells.lookup n = some c :=
  clIn_mem (cs := []) (by intro _ _ z; cases z) n c (PySem.mem_of_lookup h)
theorem closure_eq {scope : Scope} {env : Env} (h : ∀ y ∈ scope.names, y.2 = .free → ∃ c, env.cells.lookup y.1 = some c) : closureFor scope env = pure (clOf scope env) := by
  have all : ∀ (ns : List (Str × NameKind)) (cs : List (Str × Addr)), (∀ y ∈ ns, y.2 = .free → ∃ c, env.cells.lookup y.1 = some c) →
      (forIn ns cs fun (x : Str × NameKind) (r : List (Str × Addr)) => (match x with | (name, kind) => if (kind == NameKind.free) = true then (do let c ← cellOf env name; pure (ForInStep.yield ((name, c) :: r))) else pure (ForInStep.yield r) : Sem (ForInStep (List (Str × Addr))))) = pure (clIn env ns cs) := by
    intro ns
    induction ns with
    | nil => intro cs _; rfl
    | cons y r ih =>
      intro cs h
      obtain ⟨n, k⟩ := y
      rw [List.forIn_cons]
      have hr : ∀ y ∈ r, y.2 = .free → ∃ c, env.cells.lookup y.1 = some c := fun y hy => h y (.tail _ hy)
      by_cases hk : (k == NameKind.free) = true
      · obtain ⟨c, hc⟩ := h (n, k) (.head _) (beq_iff_eq.mp hk)
        have hc' : env.cells.lookup n = some c := hc
        have e1 : cellOf env n = pure c := by unfold cellOf; rw [hc']
        simp only [hk, if_true, e1, pure_bind]
        rw [ih _ hr]
        conv => rhs; unfold clIn
        rw [if_pos hk, hc']
      · simp only [hk, if_false, pure_bind, Bool.false_eq_true]
        rw [ih _ hr]
        conv => rhs; unfold clIn
        rw [if_neg hk]
  have := all scope.names [] h
  unfold closureFor
  first
    | exact this
    | (simp only [bind_pure]; exact this)
    | simpa using this
noncomputable def Cx.comp (X : Cx) (scope : Scope) (C : Addr) (N' : List Str) (s : Shared) (H : Hp) (fp : List Addr) : Cx where
  prog := X.prog
  w := X.w
  K := X.K
  mg := X.mg
  base := X.base
  A := X.A
  N := N'
  s₀ := s
  H₀ := H
  env := compEnvC scope (clOf scope X.env) C X.env
  outer := X.stack
  stack := X.stack
  ex := fp
  fn := fun _ => false
  calm := X.calm
  pn := []
  xe := fun _ _ => False
noncomputable def seen (lv : Nat) (caps : List Nat) (σ : St) : St := List.replicate lv none ++ caps.map fun j => (σ[j]?).join
noncomputable def compW (J : It) (g : TG) (te : TE) (σ0 : St) (Q : VK) (H1 : Hp) : Prop := ∀ D, H1 D = none → ∃ W : Nat → Nat → List V → Hp → Prop, (∃ m, W 0 m [] (upd H1 D (.lst []))) ∧
  ∀ i m ys H, W i m ys H → H D = some (.lst ys) ∧ ys.length < sizeLine ∧ ((J.stop i H ∧ Q (.ref D) H) ∨ (J.go i H ∧ ∀ x H', J.yld i H x H' → g x σ0 H' fun σ2 H2 => te σ2 H2 fun v H3 => H3 D = some (.lst ys) ∧
    ∃ m', m' < m ∧ W (i + 1) m' (ys ++ [v]) (upd H3 D (.lst (ys ++ [v])))))
noncomputable def tComp (wi : TI) (g : TG) (te : TE) (lv : Nat) (caps : List Nat) : TE := fun σ H Q => wi σ H fun J H1 => compW J g te (seen lv caps σ) Q H1
structure CompOk (X : Cx) (scope : Scope) (lv : Nat) (caps : List Nat) (N' : List Str) : Prop where
  kind : scope.kind = .function
  cell : ∀ y ∈ scope.names, y.2 ≠ .cell
  free : ∀ y ∈ scope.names, y.2 = .free → X.env.kindOf y.1 = some .cell ∨ X.env.kindOf y.1 = some .free
  loc : ∀ y ∈ scope.names, y.2 = .local → scope.names.lookup y.1 = some .local
  len : N'.length = lv + caps.length
  cap : ∀ (p : Nat) (j : Nat), caps[p]? = some j → ∃ x, N'[lv + p]? = some x ∧ X.N[j]? = some x ∧ scope.names.lookup x = some .free
section
variable {X : Cx} {pins : List (Addr × Obj)} {σ : St} {H : Hp} {s : Shared}
theorem relabel_kind {scope : Scope} {env : Env} {x : Str} {k : NameKind} (h : (relabel scope env).names.lookup x = some k) (hc : ∀ y ∈ scope.names, y.2 ≠ .cell) (hk : k = .cell ∨ k = .free) : (x, NameKind.free) ∈ scope.names := by
  have hm := PySem.mem_of_lookup h
  obtain ⟨⟨n, k'⟩, h1, h2⟩ := List.mem_map.mp hm
  dsimp only at h2
  split at h2
  · rename_i hif
    cases h2
    have : k' = .free := by
      simp only [Bool.and_eq_true, beq_iff_eq] at hif
      exact hif.1.1
    subst this
    exact h1
  · cases h2
    rcases hk with rfl | rfl
    · exact absurd rfl (hc _ h1)
    · exact h1
theorem lookup_relabel_free {env : Env} : ∀ {names : List (Str × NameKind)} {x : Str}, names.lookup x = some .free →
    (names.map fun (n, k) => if (k == NameKind.free && env.scope.kind == .function && env.kindOf n == some .cell) then (n, NameKind.cell) else (n, k)).lookup x = some .free ∨
    (names.map fun (n, k) => if (k == NameKind.free && env.scope.kind == .function && env.kindOf n == some .cell) then (n, NameKind.cell) else (n, k)).lookup x = some .cell
  | [], _, h => by simp at h
  | (n, k) :: r, x, h => by
    have ih := @lookup_relabel_free env r x
    rw [List.map_cons]
    dsimp only
    cases e : (x == n) with
    | true =>
      rw [List.lookup_cons, e] at h
      have hk : k = .free := Option.some.inj h
      subst hk
      split
      · exact .inr (by rw [List.lookup_cons, e])
      · exact .inl (by rw [List.lookup_cons, e])
    | false =>
      rw [List.lookup_cons, e] at h
      split
      · rw [List.lookup_cons, e]; exact ih h
      · rw [List.lookup_cons, e]; exact ih h
theorem inv_comp {scope : Scope} {lv : Nat} {caps : List Nat} {N' : List Str} {fp : List Addr} {h₁ : Heap} (ok : CompOk X scope lv caps N') (I : Inv X pins σ H s) (hf : ∀ b ∈ fp, FpOk X pins H b)
    (hns : h₁.Ns s.heap.objs.size fun _ => none) (hk : ∀ b o, s.heap.get? b = some o → h₁.get? b = some o) (hfp : ∀ b ∈ fp, b < s.heap.objs.size) (t' : Nat) :
    Inv (X.comp scope s.heap.objs.size N' s H fp) [] (seen lv caps σ) H { s with heap := h₁, toks := t' } := by
  have ne : ∀ {b : Addr} {o : Obj}, s.heap.get? b = some o → b ≠ s.heap.objs.size := fun e => Nat.ne_of_lt (Heap.lt_size e)
  refine ⟨⟨I.ok.mod, ok.kind, I.ok.glob, I.ok.blt, Nat.le_refl _, fun x y c h1 h2 => I.ok.inj x y c (cl_look h1) (cl_look h2), fun x hx => ?_, (fun x c h => nomatch h), I.ok.hd, I.ok.frames, .inl rfl, fun b hb => ⟨Nat.ne_of_lt (hfp b hb), fun x c e => (hf b hb).2.2.2.2.1 x c (cl_look e)⟩,
    I.bs, Nat.le_trans I.ok.bsz I.sz, fun b o e hb => ?_, fun b hb hfs => ?_, I.stack, I.stkFree⟩, rfl, I.bare, Un.kept hk, ⟨_, hns, fun i x v h1 h2 h3 => ?_⟩, fun x c e => ?_, I.fresh, fun x c e => I.freeC x c (cl_look e), fun p hp => absurd (show p ∈ ([] : List (Addr × Obj)) from hp) (by simp), I.hok.kept hk, ?_⟩
  · have hm : (x, NameKind.free) ∈ scope.names := by
      rcases hx with hx | hx
      · exact relabel_kind hx ok.cell (.inl rfl)
      · exact relabel_kind hx ok.cell (.inr rfl)
    obtain ⟨c, hc⟩ := I.ok.has x (ok.free _ hm rfl)
    exact look_of_mem (clIn_has hc hm)
  · rcases (hf b hb).2.2.2.1 with z | z
    · exact I.ok.noex b o e z
    · exact absurd (Nat.lt_of_lt_of_le (Heap.lt_size (I.ok.bs b o e).1) z) (Nat.lt_irrefl _)
  · rcases List.mem_cons.mp (I.stkSub b hfs) with z | z
    · exact (hf b hb).2.1 z
    · exact (hf b hb).2.2.1 z
  · unfold seen at h2
    rcases Nat.lt_or_ge i lv with hi | hi
    · rw [List.getElem?_append_left (by simpa using hi), List.getElem?_replicate_of_lt hi] at h2
      cases h2
    · rw [List.getElem?_append_right (by simpa using hi), List.length_replicate, List.getElem?_map] at h2
      cases hj : caps[i - lv]? with
      | none => rw [hj] at h2; cases h2
      | some j =>
        rw [hj] at h2
        have h2' : (σ[j]?).join = some v := Option.some.inj h2
        obtain ⟨x', e1, e2, e3⟩ := ok.cap (i - lv) j hj
        rw [show lv + (i - lv) = i by omega] at e1
        have h1' : N'[i]? = some x := h1
        rw [h1'] at e1; cases e1
        have hσ : σ[j]? = some (some v) := by
          cases q : σ[j]? with
          | none => rw [q] at h2'; cases h2'
          | some o => rw [q] at h2'; cases o with
            | none => cases h2'
            | some v' => have : some v' = some v := h2'; cases this; rfl
        have hk' := ok.free (x, .free) (PySem.mem_of_lookup e3) rfl
        obtain ⟨m, _, hl⟩ := I.loc
        have hv : Vis X.env.scope x := by rcases hk' with z | z; exact .inr (.inl z); exact .inr (.inr z)
        obtain ⟨u, r, l⟩ := hl j x v e2 hσ hv
        refine ⟨u, r, .inr ⟨?_, ?_⟩⟩
        · exact (lookup_relabel_free (env := X.env) e3).symm
        · rcases l with ⟨k, _⟩ | ⟨k, c, e, o, ho, hd⟩
          · rcases hk' with z | z
            · rw [k] at z; cases z
            · rw [k] at z; cases z
          · obtain ⟨c', hc'⟩ := look_of_mem (clIn_has (cs := []) e (PySem.mem_of_lookup e3))
            have := cl_look (scope := scope) (env := X.env) hc'
            rw [e] at this; cases this
            exact ⟨c, hc', o, hk c o ho, hd⟩
  · obtain ⟨v, o, ho, hd⟩ := I.cell x c (cl_look e)
    exact ⟨v, o, hk c o ho, hd⟩
  · show (seen lv caps σ).length = N'.length
    unfold seen
    rw [List.length_append, List.length_replicate, List.length_map, ok.len]
noncomputable def Stays (σ σ2 : St) : Prop := ∀ (j : Nat) v, σ[j]? = some (some v) → σ2[j]? = some (some v)
noncomputable def GKeep (g : TG) (lv : Nat) (caps : List Nat) : Prop := ∀ (σ : St) (y : V) (H' : Hp) (Q : St → Hp → Prop), g y (seen lv caps σ) H' Q → g y (seen lv caps σ) H' fun σ2 H2 => Q σ2 H2 ∧ Stays (seen lv caps σ) σ2
theorem stays_set {lv : Nat} {caps : List Nat} {σ σ2 : St} {i : Nat} {y : V} (hi : i < lv) (h : Stays (seen lv caps σ) σ2) : Stays (seen lv caps σ) (σ2.set i (some y)) := by
  intro j v e
  by_cases hj : i = j
  · subst hj
    unfold seen at e
    rw [List.getElem?_append_left (by simpa using hi), List.getElem?_replicate_of_lt hi] at e
    cases e
  · rw [List.getElem?_set_ne hj]
    exact h j v e
theorem keep_name {i lv : Nat} {caps : List Nat} (hi : i < lv) : GKeep (gName i) lv caps := fun _ _ _ _ q => ⟨q, stays_set hi fun _ _ e => e⟩
theorem compLoop_any {prog : Program} {w : World} {A : Around} {s : Shared} {elt tg iter : Expr} {scope : Scope} {pos : Pos} {it acc : Value} {env : Env} {R : Result → Shared → Prop} (J : Nat → Shared → Prop)
    (turn : ∀ n s, J n s → wpAny (model prog w) A (pyNext it) (fun r s1 => match r with
      | none => R (.ok .next) s1
      | some v => wpAny (model prog w) A (letOwnedTupleGo tg it v) (fun _ s2 => wpAny (model prog w) A (assign tg env v) (fun _ s3 => wpAny (model prog w) A (eval elt env) (fun x s4 =>
          wpAny (model prog w) A (call (.builtin "list.append") [acc, x]) (fun _ s5 => ∃ m, m < n ∧ J m s5) (notedBy (model prog w) A env fun e s' => R (.error e) s') s4) (notedBy (model prog w) A env fun e s' => R (.error e) s') s3)
          (notedBy (model prog w) A env fun e s' => R (.error e) s') s2) (notedBy (model prog w) A env fun e s' => R (.error e) s') s1) (notedBy (model prog w) A env fun e s' => R (.error e) s') s)
    (n : Nat) (h : J n s) : codeAny (model prog w) A (.compLoop (.ListComp elt [⟨tg, iter, [], 0⟩] scope pos) 0 it acc env) R s := by
  refine codeAny_loop rfl J (fun n s hJ => ?_) n h
  show wpAny _ A ((compTurn (.ListComp elt [⟨tg, iter, [], 0⟩] scope pos) 0 it acc env).onRaise (fun x => do noteFrame x env; theTreesLotGoes x)) _ _ s
  refine wpAny_noted ?_; rw [compTurn_list]
  refine wpAny_bind (wpAny_standAt (wpAny_bind (wpAny_mono (turn n s hJ) (fun r s1 h1 => ?_) fun _ _ z => z)))
  match r, h1 with
  | none, h1 => exact wpAny_pure h1
  | some v, h1 =>
    refine wpAny_bind (wpAny_mono h1 (fun _ s2 h2 => ?_) fun _ _ z => z)
    refine wpAny_bind (wpAny_mono h2 (fun _ s3 h3 => wpAny_bind (wpAny_mono (wpAny_tests_nil (Q := fun ok q => ok = true ∧ q = s3) ⟨rfl, rfl⟩) (fun ok q hq => ?_) fun _ _ z => z)) fun _ _ z => z)
    obtain ⟨e1, e2⟩ := hq
    subst e1 e2
    exact wpAny_bind (wpAny_bind (wpAny_mono h3 (fun x s4 h4 => wpAny_bind (wpAny_mono h4 (fun _ s5 h5 => wpAny_pure (wpAny_pure ⟨rfl, h5⟩)) fun _ _ z => z)) fun _ _ z => z))
end
end L2
set_option Elab.async false
set_option linter.all false
set_option maxRecDepth 100000
set_option maxHeartbeats 2000000
namespace L2
open PySem PySem.Spec PyProof.Rows
section
variable {X : Cx}
inductive rIsi (K : PySem.W.Frag) (xs : List V) (H : Hp) (Q : VK) : Prop
  | mk (x : V) (t : Value) (c : String) (b : Bool) (e : xs = [x, .ty c]) (ty : TyOf K H x t) (k : PySem.W.kitOne K t (.type c) = some b) (q : Q (.bl b) H) : rIsi K xs H Q
theorem call_isi : CallR X (.builtin "isinstance") (rIsi X.K) := by
  intro pins s σ H xs us Q I r h
  obtain ⟨x, t, c, b, rfl, ty, e, q⟩ := h
  obtain ⟨u, v, rfl, rx, rc⟩ := vals2 r
  cases rc
  exact isinst_ok I rx ty e fun tk => ⟨.bl b, H, I.tok _, rfl, q⟩
theorem call_sorted : CallR X (.builtin "sorted") (fun xs H Q => ∃ p, ∃ ns : List Int, xs = [.ref p] ∧ SqL X.K H p (ns.map V.int) ∧ ns.length < 64 ∧
    ∀ l (ns' : List Int), H l = none → ns'.Perm ns → ns'.Pairwise (· ≤ ·) → Q (.ref l) (upd H l (.lst (ns'.map V.int)))) := by
  intro pins s σ H xs us Q I r h
  obtain ⟨p, ns, rfl, hq, h64, q⟩ := h
  obtain ⟨u, rfl, rx⟩ := vals1 r
  cases rx
  obtain ⟨its, rv, pl, hz⟩ := I.list hq
  have hI := intsAre_of rv
  have hlen : its.length = ns.length := by rw [← rv.length, List.length_map]
  refine sorted_ints pl.isList hI (by omega) fun out ns' a1 a2 a3 => ?_
  obtain ⟨e, he⟩ := sortedAll_at s.heap its out
  have hl : s.heap.objs.size ≤ s.heap.objs.size + 1 := Nat.le_succ _
  refine ⟨.ref (s.heap.objs.size + 1), _, I.laid (t' := s.toks) (o := .lst (ns'.map V.int)) (fun b o z => sortedAll_old z) hl ?_, rfl, q _ ns' (I.hok.fresh hl) a2 a3⟩
  have e2 : out = out.toList.toArray := by simp
  refine ⟨?_, out.toList, e, vals_ints a1, by rw [← e2]; exact he⟩
  rw [List.length_map, a2.length_eq, ← hlen]
  have := line63
  have h2 : (64 : Nat) ≤ sizeLine := by decide
  omega
theorem call_minL (hc : X.calm = true) : CallR X (.builtin "min") (fun xs H Q => ∃ p, ∃ ns : List Int, xs = [.ref p] ∧ SqL X.K H p (ns.map V.int) ∧ ns ≠ [] ∧ ∀ m, m ∈ ns → (∀ a ∈ ns, m ≤ a) → Q (.int m) H) := by
  intro pins s σ H xs us Q I r h
  obtain ⟨p, ns, rfl, hq, hne, q⟩ := h
  obtain ⟨u, rfl, rx⟩ := vals1 r
  cases rx
  obtain ⟨its, rv, pl, hz⟩ := I.list hq
  have hI := intsAre_of rv
  obtain ⟨xs, e⟩ := hI.allInts.items
  have hns : ns = xs.toList.map (·.1) := by rw [← hI.numsOf, ← nums_intItems, ← e]
  have hsz : 0 < xs.size := by
    have h3 : 0 < ns.length := List.length_pos_iff.mpr hne
    rw [hns, List.length_map, Array.length_toList] at h3; exact h3
  have hl := pl.isList
  rw [e] at hl
  refine min_intList (I.ok.hd hc) hl hsz fun v h' tk hv hk => ?_
  obtain ⟨t, rfl⟩ := intItems_at hv
  obtain ⟨h1, h2⟩ := argBest_lt (numAt xs) (xs.size - 1)
  refine ⟨.int _, H, I.kept hk, ⟨t, rfl⟩, q _ ?_ fun a ha => ?_⟩
  · rw [hns, numAt_eq]; exact PySem.getD_mem (by rw [List.length_map, Array.length_toList]; omega)
  · rw [hns] at ha
    obtain ⟨j, hj, rfl⟩ := mem_getD ha
    rw [List.length_map, Array.length_toList] at hj
    rw [← numAt_eq]; exact h2 j (by omega)
theorem call_maxL (hc : X.calm = true) : CallR X (.builtin "max") (fun xs H Q => ∃ p, ∃ ns : List Int, xs = [.ref p] ∧ SqL X.K H p (ns.map V.int) ∧ ns ≠ [] ∧ ∀ m, m ∈ ns → (∀ a ∈ ns, a ≤ m) → Q (.int m) H) := by
  intro pins s σ H xs us Q I r h
  obtain ⟨p, ns, rfl, hq, hne, q⟩ := h
  obtain ⟨u, rfl, rx⟩ := vals1 r
  cases rx
  obtain ⟨its, rv, pl, hz⟩ := I.list hq
  have hI := intsAre_of rv
  obtain ⟨xs, e⟩ := hI.allInts.items
  have hns : ns = xs.toList.map (·.1) := by rw [← hI.numsOf, ← nums_intItems, ← e]
  have hsz : 0 < xs.size := by
    have h3 : 0 < ns.length := List.length_pos_iff.mpr hne
    rw [hns, List.length_map, Array.length_toList] at h3; exact h3
  have hl := pl.isList
  rw [e] at hl
  refine max_intList (I.ok.hd hc) hl hsz fun v h' tk hv hk => ?_
  obtain ⟨t, rfl⟩ := intItems_at hv
  obtain ⟨h1, h2⟩ := argBest_gt (numAt xs) (xs.size - 1)
  refine ⟨.int _, H, I.kept hk, ⟨t, rfl⟩, q _ ?_ fun a ha => ?_⟩
  · rw [hns, numAt_eq]; exact PySem.getD_mem (by rw [List.length_map, Array.length_toList]; omega)
  · rw [hns] at ha
    obtain ⟨j, hj, rfl⟩ := mem_getD ha
    rw [List.length_map, Array.length_toList] at hj
    rw [← numAt_eq]; exact h2 j (by omega)
theorem call_all (hc : X.calm = true) : CallR X (.builtin "all") (fun xs H Q => ∃ p, ∃ bs : List Bool, xs = [.ref p] ∧ SqL X.K H p (bs.map V.bl) ∧ Q (.bl (bs.all id)) H) := by
  intro pins s σ H xs us Q I r h
  obtain ⟨p, bs, rfl, hq, q⟩ := h
  obtain ⟨u, rfl, rx⟩ := vals1 r
  cases rx
  obtain ⟨its, rv, pl, hz⟩ := I.list hq
  have hl := pl.isList
  have hlt : p < s.heap.objs.size := by obtain ⟨_, e, _⟩ := id hl; exact Heap.lt_size e
  have htr : TruthOf X.prog X.w X.A.in1 (fun i v => its.toArray[i]? = some v) (fun i => (bs[i]?).getD true) := by
    intro i v s' Q' E' hv hQ
    have hv' : its[i]? = some v := by simpa using hv
    cases hb : bs[i]? with
    | none =>
      have : its[i]? = none := rv.none_of (by rw [List.getElem?_map, hb]; rfl)
      rw [this] at hv'; cases hv'
    | some b =>
      obtain ⟨u, hu, ru⟩ := rv.get (x := .bl b) (i := i) (by rw [List.getElem?_map, hb]; rfl)
      rw [hv'] at hu; cases hu
      cases ru
      dsimp only at hQ
      rw [hb] at hQ
      exact wpAny_truthy_bool hQ
  refine call_all_walk (wpAny_pyIter_list hl ⟨_, _, _, _, _, _, _, rfl, Walks.list (A := X.A.in1) (I.ok.hd hc) _ p (Nat.ne_of_lt hlt) its.toArray, ⟨⟨_, Heap.get?_push_size _ rfl, rfl, rfl⟩, hl.push _⟩, htr, fun h' tk hk => ?_⟩)
  have keep : ∀ b o, s.heap.get? b = some o → h'.get? b = some o := fun b o e => hk b o (by simp; exact Nat.ne_of_lt (Heap.lt_size e)) (Heap.get?_push_of_some _ e)
  refine ⟨.bl (bs.all id), H, I.kept keep, ?_, q⟩
  have hlen : its.toArray.size = bs.length := by rw [List.size_toArray, ← rv.length, List.length_map]
  have ha : ((List.range its.toArray.size).all fun i => (bs[i]?).getD true) = bs.all id := by
    rw [hlen]
    apply Bool.eq_iff_iff.mpr
    simp only [List.all_eq_true, List.mem_range]
    constructor
    · intro h b hb
      obtain ⟨i, hi, e⟩ := List.mem_iff_getElem.mp hb
      have := h i hi
      rw [List.getElem?_eq_getElem hi, e] at this
      exact this
    · intro h i hi
      rw [List.getElem?_eq_getElem hi]
      exact h _ (List.getElem_mem hi)
  show Value.bool _ = Value.bool _
  rw [ha]
mutual
inductive RdD (K : PySem.W.Frag) (H : Hp) : V → PyData → Prop where
  | non : RdD K H .non .none
  | bl (b : Bool) : RdD K H (.bl b) (.bool b)
  | int (i : Int) : RdD K H (.int i) (.int i)
  | str (x : Str) : RdD K H (.str x) (.str x)
  | lst {a : Addr} {xs : List V} {ds : List PyData} : SqL K H a xs → RdDs K H xs ds → RdD K H (.ref a) (.list ds)
  | tup {a : Addr} {xs : List V} {ds : List PyData} : SqT K H a xs → RdDs K H xs ds → RdD K H (.ref a) (.tuple ds)
inductive RdDs (K : PySem.W.Frag) (H : Hp) : List V → List PyData → Prop where
  | nil : RdDs K H [] []
  | cons {x : V} {d : PyData} {xs : List V} {ds : List PyData} : RdD K H x d → RdDs K H xs ds → RdDs K H (x :: xs) (d :: ds)
end
theorem RdDs.ints {K : PySem.W.Frag} {H : Hp} : ∀ ns : List Int, RdDs K H (ns.map V.int) (ns.map PyData.int)
  | [] => .nil
  | _ :: r => .cons (.int _) (RdDs.ints r)
mutual
theorem reads_of {pins : List (Addr × Obj)} {σ : St} {H : Hp} {s : Shared} (I : Inv X pins σ H s) : ∀ {x : V} {d : PyData} {u : Value}, RdD X.K H x d → RelV x u → ∃ as, Reads s.heap u d as
  | _, _, _, .non, r => by cases r; exact ⟨_, .none⟩
  | _, _, _, .bl b, r => by cases r; exact ⟨_, .bool b⟩
  | _, _, _, .int i, r => by obtain ⟨t, rfl⟩ := r; exact ⟨_, .int i t⟩
  | _, _, _, .str x, r => by obtain ⟨t, rfl⟩ := r; exact ⟨_, .str x t⟩
  | _, _, _, .lst hq hs, r => by
    cases r
    obtain ⟨its, rv, pl, _⟩ := I.list hq
    obtain ⟨o, ho, hc, n, hd⟩ := pl.isList
    obtain ⟨as, h⟩ := reads_all I hs rv
    exact ⟨_, .list ho hc hd (by simpa using h)⟩
  | _, _, _, .tup hq hs, r => by
    cases r
    obtain ⟨its, rv, ⟨o, ho, hc, n, hd⟩, _⟩ := I.tuple hq
    obtain ⟨as, h⟩ := reads_all I hs rv
    exact ⟨_, .tuple ho hc hd (by simpa using h)⟩
theorem reads_all {pins : List (Addr × Obj)} {σ : St} {H : Hp} {s : Shared} (I : Inv X pins σ H s) : ∀ {xs : List V} {ds : List PyData} {us : List Value}, RdDs X.K H xs ds → Vals xs us → ∃ as, ReadsAll s.heap us ds as
  | _, _, _, .nil, .nil => ⟨_, .nil⟩
  | _, _, _, .cons h t, .cons r q => by
    obtain ⟨as, h1⟩ := reads_of I h r
    obtain ⟨bs, h2⟩ := reads_all I t q
    exact ⟨_, .cons h1 h2⟩
end
inductive rEqD (K : PySem.W.Frag) (x y : V) (H : Hp) (Q : VK) : Prop
  | mk (d e : PyData) (rx : RdD K H x d) (ry : RdD K H y e) (sd : SeqAt.shaped d = true) (se : SeqAt.shaped e = true) (q : Q (.bl (PyData.eqv d e)) H) : rEqD K x y H Q
inductive rNeD (K : PySem.W.Frag) (x y : V) (H : Hp) (Q : VK) : Prop
  | mk (d e : PyData) (rx : RdD K H x d) (ry : RdD K H y e) (sd : SeqAt.shaped d = true) (se : SeqAt.shaped e = true) (q : Q (.bl (!PyData.eqv d e)) H) : rNeD K x y H Q
theorem op_eqD (hu : X.A.units + 64 < cLine) : OpR X (compareOp .Eq) (rEqD X.K) := by
  intro pins s σ H x y v u Q I rx ry h
  obtain ⟨d, e, hd, he, s1, s2, q⟩ := h
  obtain ⟨as, r1⟩ := reads_of I hd rx
  obtain ⟨bs, r2⟩ := reads_of I he ry
  exact eq_dataH r1 r2 s1 s2 hu ⟨.bl _, H, I, rfl, q⟩
theorem op_neD (hu : X.A.units + 64 < cLine) : OpR X (compareOp .NotEq) (rNeD X.K) := by
  intro pins s σ H x y v u Q I rx ry h
  obtain ⟨d, e, hd, he, s1, s2, q⟩ := h
  obtain ⟨as, r1⟩ := reads_of I hd rx
  obtain ⟨bs, r2⟩ := reads_of I he ry
  exact ne_dataH r1 r2 s1 s2 hu ⟨.bl _, H, I, rfl, q⟩
end
end L2
set_option Elab.async false
set_option linter.all false
set_option maxRecDepth 100000
set_option maxHeartbeats 2000000
namespace L2
open PySem PySem.Spec PyProof.Rows
inductive Sp1 (f : V → Hp → VK → XK → Prop) (vs : List V) (H : Hp) (Q : VK) (E : XK) : Prop
  | mk (a : V) (e : vs = [a]) (h : f a H Q E) : Sp1 f vs H Q E
inductive Sp2 (f : V → V → Hp → VK → XK → Prop) (vs : List V) (H : Hp) (Q : VK) (E : XK) : Prop
  | mk (a b : V) (e : vs = [a, b]) (h : f a b H Q E) : Sp2 f vs H Q E
inductive Sp3 (f : V → V → V → Hp → VK → XK → Prop) (vs : List V) (H : Hp) (Q : VK) (E : XK) : Prop
  | mk (a b c : V) (e : vs = [a, b, c]) (h : f a b c H Q E) : Sp3 f vs H Q E
inductive Sp4 (f : V → V → V → V → Hp → VK → XK → Prop) (vs : List V) (H : Hp) (Q : VK) (E : XK) : Prop
  | mk (a b c d : V) (e : vs = [a, b, c, d]) (h : f a b c d H Q E) : Sp4 f vs H Q E
structure Def (K : PySem.W.Frag) (mg : Str → Option Value) (x : Str) (st : Stmt) : Prop where
  ex : ∃ f fd, Fun K x x st f fd ∧ mg x = some (.ref f)
theorem def_mk {K : PySem.W.Frag} {h : Heap} {mg : Str → Option Value} {x : Str} {st : Stmt} {f : Addr} {oc : Value} {od an : Option Addr} {osl : Array (Option Value)} {kV doc pm cdv ct : Value} (X : K.In h) (G : h.Ns mainGlobals mg)
    (a : PySem.W.nsIn K mainGlobals x = some (some (.ref f))) (l : K.lookup f = some ⟨oc, od, .func (PySem.W.fnOf x x (defArgs st) (defBody st) (defScope st) .none kV doc pm an cdv ct), osl⟩) (c : PySem.W.codeIn K cdv x = true) (k : PySem.W.keepIn K (.ref f) = true) : Def K mg x st :=
  ⟨f, _, fun_mk l c k, PySem.W.mg_of X G a⟩
structure FnS (P : Program) (w : World) (K : PySem.W.Frag) (mg : Str → Option Value) (base : Heap) (x : Str) (ps : List Str) (k : Nat) (sp : Sp) : Prop where
  ex : ∃ f fd, FnOk P w K mg base (CX1 P w) k f fd ps sp ∧ mg x = some (.ref f) ∧ PySem.W.keepIn K (.ref f) = true ∧ Binds K fd ps []
noncomputable def BindsAll (x : Str) (st : Stmt) (ps : List Str) : Prop := ∀ (kV doc pm : Value) (an : Option Addr) (cdv ct : Value) (us : List Value), us.length = ps.length → bindArgs (PySem.W.fnOf x x (defArgs st) (defBody st) (defScope st) .none kV doc pm an cdv ct) ⟨us, []⟩ = pure (ps.zip us)
section
variable {P : Program} {w : World} {K : PySem.W.Frag} {mg : Str → Option Value} {base : Heap}
theorem Def.ok {x : Str} {st : Stmt} {N ps : List Str} {k : Nat} {sp : Sp} (D : Def K mg x st) (S : FnScope N ps (defScope st)) (B : BindsAll x st ps) (len : ∀ vs H Q E, sp vs H Q E → vs.length = ps.length)
    (hbody : ∀ (f : Addr) (cdv : Value) (A : Around) (outer : List Env) (s : Shared) (H : Hp) (vs : List V) (Q : VK) (E : XK), Room k (A.deeper (envOfC x (defScope st) s.heap.objs.size f cdv)) → sp vs H Q E →
      ∃ t, PSs (cxOf (CX1 P w) P w K mg base N x (defScope st) f cdv A outer s H E) (defBody st) t ∧ t { nx := fun _ H' => Q .non H', rt := Q } (start N vs) H) : FnS P w K mg base x ps (k + 1) sp := by
  obtain ⟨f, fd, F, hm⟩ := D.ex
  exact ⟨f, fd, F.okX S len (hbody f), hm, F.kp, F.binds B⟩
theorem sp1_len {f : V → Hp → VK → XK → Prop} {a : Str} : ∀ vs H Q E, Sp1 f vs H Q E → vs.length = [a].length := fun _ _ _ _ ⟨_, e, _⟩ => by rw [e]; rfl
theorem sp2_len {f : V → V → Hp → VK → XK → Prop} {a b : Str} : ∀ vs H Q E, Sp2 f vs H Q E → vs.length = [a, b].length := fun _ _ _ _ ⟨_, _, e, _⟩ => by rw [e]; rfl
theorem sp3_len {f : V → V → V → Hp → VK → XK → Prop} {a b c : Str} : ∀ vs H Q E, Sp3 f vs H Q E → vs.length = [a, b, c].length := fun _ _ _ _ ⟨_, _, _, e, _⟩ => by rw [e]; rfl
theorem sp4_len {f : V → V → V → V → Hp → VK → XK → Prop} {a b c d : Str} : ∀ vs H Q E, Sp4 f vs H Q E → vs.length = [a, b, c, d].length := fun _ _ _ _ ⟨_, _, _, _, e, _⟩ => by rw [e]; rfl
end
section
variable {X : Cx}
inductive tCut (G : St → Hp → Prop) (t u : TS) (D : Ends) (σ : St) (H : Hp) : Prop
  | mk (h1 : ∀ σ' H', G σ' H' → u D σ' H') (h2 : t { D with nx := G } σ H) : tCut G t u D σ H
theorem pss_cut {st : Stmt} {rest : List Stmt} {t u : TS} (G : St → Hp → Prop) (h1 : PS X st t) (h2 : PSs X rest u) : PSs X (st :: rest) (tCut G t u) := by
  intro pins s σ H D I ⟨hA, hB⟩
  refine wpAny_execs_cons (thn (h1 pins s σ H { D with nx := G } I hB) fun f s1 q => ?_)
  cases f with
  | next =>
    obtain ⟨σ', H', I', q⟩ := q
    exact h2 pins s1 σ' H' D I' (hA σ' H' q)
  | ret v => exact q
  | brk => exact q
  | cont => exact q
theorem pe_fn {x : Str} {ps : List Str} {k k' : Nat} {sp : Sp} {E : XK} {p pos : Pos} {e : Expr} {es : List Expr} {t : TA} (F : FnS X.prog X.w X.K X.mg X.base x ps k' sp) (hr : Room k X.A) (hx : Passes (CX1 X.prog X.w) X E) (ha : PA X (e :: es) t) (hkk : k' ≤ k := by decide) (hg : Gl X x := by rfl)
    (hdb : (x == ("__debug__" : Str)) = false := by decide) (he : starEach (e :: es) X.env = (false, eval e X.env) :: starEach es X.env := by rfl) (hpl : (backTo pos (starEach es X.env)).any (·.1) = false := by rfl) :
    PE X (.Call (.Name x p) (e :: es) [] pos) (tCall sp [] E t) := by
  obtain ⟨f, fd, F, hm, hk, hb⟩ := F.ex
  exact pe_call F (hr.mono hkk) hg hm hk hb .nil hx ha hdb he hpl
theorem pex_fn {x : Str} {ps : List Str} {k k' : Nat} {sp : Sp} {p pos : Pos} {e : Expr} {es : List Expr} {t : TA} (O : Own X) (F : FnS X.prog X.w X.K X.mg X.base x ps k' sp) (hr : Room k X.A) (ha : PA X.nox (e :: es) t) (hkk : k' ≤ k := by decide) (hg : Gl X x := by rfl)
    (hdb : (x == ("__debug__" : Str)) = false := by decide) (he : starEach (e :: es) X.env = (false, eval e X.env) :: starEach es X.env := by rfl) (hpl : (backTo pos (starEach es X.env)).any (·.1) = false := by rfl) :
    PEx X (.Call (.Name x p) (e :: es) [] pos) (fun σ H Q E => t σ H fun vs H1 => sp (vs ++ []) H1 Q E) := by
  obtain ⟨f, fd, F, hm, hk, hb⟩ := F.ex
  exact pex_call O F (hr.mono hkk) hg hm hk hb .nil ha hdb he hpl
end
end L2
set_option Elab.async false
set_option linter.all false
set_option maxRecDepth 100000
set_option maxHeartbeats 2000000
namespace L2
open PySem PySem.Spec PyProof.Rows
section
variable {X : Cx}
theorem pe_globI {x : Str} {i : Int} {pos : Pos} (h : ∃ t, X.mg x = some (.int i t)) (hg : Gl X x := by rfl) (hd : (x == ("__debug__" : Str)) = false := by decide) : PE X (.Name x pos) (tC (.int i)) := by
  obtain ⟨t, h⟩ := h
  exact pe_glob hg h ⟨t, rfl⟩ hd
theorem pe_ty {x : Str} {c : String} {pos : Pos} (hg : Gl X x) (hm : X.mg x = none) (hv : bootBuiltins x = some (.type c)) (hn : x ≠ "__name__" := by decide) (hd : (x == ("__debug__" : Str)) = false := by decide) : PE X (.Name x pos) (tC (.ty c)) :=
  pe_bltn (v := .ty c) hg hm hv rfl hn hd
inductive rCatS (K : PySem.W.Frag) (x y : V) (H : Hp) (Q : VK) : Prop
  | mk (l b : Addr) (xs zs : List V) (ex : x = .ref l) (ey : y = .ref b) (s : SqL K H l xs) (s' : SqL K H b zs) (z : xs.length + zs.length ≤ sizeLine) (q : ∀ p, H p = none → Q (.ref p) (upd H p (.lst (xs ++ zs)))) : rCatS K x y H Q
theorem op_catS : OpR X (binaryOp .Add) (rCatS X.K) := by
  intro pins s σ H x y v u Q I rx ry h
  obtain ⟨l, b, xs, zs, rfl, rfl, hH, hB, hz, q⟩ := h
  cases rx
  cases ry
  obtain ⟨its, r, pl, z⟩ := I.list hH
  obtain ⟨its2, r2, pl2, z2⟩ := I.list hB
  have l1 := r.length
  have l2 := r2.length
  have fin : EP X pins σ Q (.ref s.heap.objs.size) { s with heap := s.heap.push { cls := .type "list", data := .seq (its ++ its2).toArray } } :=
    ⟨.ref _, _, I.lnew (t' := s.toks) (r.append r2) (by rw [List.length_append]; omega), rfl, q _ I.fresh⟩
  obtain ⟨⟨c1, dd, d1, sl⟩, ho, hc, n, hd⟩ := pl.isList
  obtain ⟨⟨c2, dd2, d2, sl2⟩, ho2, hc2, n2, hd2⟩ := pl2.isList
  cases hc; cases hc2; cases hd; cases hd2
  refine concat_meets ⟨_, ho, rfl⟩ ⟨_, ho2, rfl⟩ noFill_list_add seq_list_add PySem.F.slot_list_add PySem.F.entry_list_add (PySem.F.args_list_add_2 _ _)
    (list_addW l b its.toArray its2.toArray n n2 dd dd2 sl sl2 (by rw [List.size_toArray, List.size_toArray]; omega)) ⟨ho, ho2, ?_⟩
  have ea : its.toArray ++ its2.toArray = (its ++ its2).toArray := by simp
  rw [ea]
  exact fin
noncomputable def rInsert : V → List V → Hp → VK → Prop := fun x vs H Q => ∃ l xs i y, x = .ref l ∧ vs = [.int i, y] ∧ H l = some (.lst xs) ∧ 0 ≤ i ∧ i < 2 ^ 62 ∧ xs.length < sizeLine ∧ Q .non (upd H l (.lst (xs.take i.toNat ++ y :: xs.drop i.toNat)))
theorem Vals.ins {xs : List V} {us : List Value} {y : V} {u : Value} (h : Vals xs us) (r : RelV y u) (k : Nat) : Vals (xs.take k ++ y :: xs.drop k) (us.take k ++ u :: us.drop k) :=
  (h.take k).append (.cons r (h.drop k))
theorem mt_insert : MtM X "list.insert" rInsert := by
  intro pins s σ H x vs v us Q I rx rv h
  obtain ⟨l, xs, i, y, rfl, rfl, hH, h0, h1, hz, q⟩ := h
  cases rx
  obtain ⟨u, w, rfl, ru, rw'⟩ := rv.two
  obtain ⟨t, rfl⟩ := ru
  obtain ⟨z, its, n, r, hl, e⟩ := I.lstM hH
  refine call_meets F.slot_list_insert ⟨_, e, rfl⟩ F.entry_list_insert (F.args_list_insert_3 _ _ _)
    (AutoSeq1.list_insert_list_int_val_1 l its.toArray n i t w (by rw [fitsIndex_both (by omega) (by omega)]; simp) (by rw [List.size_toArray]; omega)) ⟨e, ?_⟩
  refine ⟨.non, _, I.lset (its' := its.take i.toNat ++ w :: its.drop i.toNat) hH e ?_ (r.ins rw' i.toNat) ?_, rfl, q⟩
  · dsimp only
    rw [if_neg (by omega)]
    apply Array.ext'
    simp only [List.size_toArray, Array.toList_append, Array.toList_push, Array.toList_extract, List.extract_eq_drop_take, List.drop_zero, Nat.sub_zero, List.append_assoc, List.singleton_append]
    have hm : min i.toNat its.length = i.toNat ∨ its.length ≤ i.toNat := by omega
    rcases hm with hm | hm
    · rw [hm]
      congr 2
      exact List.take_of_length_le (by rw [List.length_drop]; exact Nat.le_refl _)
    · rw [Nat.min_eq_right hm]
      simp [List.take_of_length_le hm, List.drop_of_length_le hm]
  · simp only [List.length_append, List.length_take, List.length_cons, List.length_drop]
    omega
theorem compcap1 {N' N : List Str} {scope : Scope} {lv a : Nat} {x : Str} (h1 : N'[lv]? = some x) (h2 : N[a]? = some x) (h3 : scope.names.lookup x = some .free) :
    ∀ (p j : Nat), ([a] : List Nat)[p]? = some j → ∃ x, N'[lv + p]? = some x ∧ N[j]? = some x ∧ scope.names.lookup x = some .free := fun p j h => by
  cases p with
  | zero => have e : a = j := by simpa using h
            subst e; exact ⟨x, h1, h2, h3⟩
  | succ p => simp at h
theorem compcap2 {N' N : List Str} {scope : Scope} {lv a b : Nat} {x y : Str} (h1 : N'[lv]? = some x) (h2 : N[a]? = some x) (h3 : scope.names.lookup x = some .free) (h4 : N'[lv + 1]? = some y) (h5 : N[b]? = some y) (h6 : scope.names.lookup y = some .free) :
    ∀ (p j : Nat), ([a, b] : List Nat)[p]? = some j → ∃ x, N'[lv + p]? = some x ∧ N[j]? = some x ∧ scope.names.lookup x = some .free := fun p j h => by
  match p with
  | 0 => have e : a = j := by simpa using h
         subst e; exact ⟨x, h1, h2, h3⟩
  | 1 => have e : b = j := by simpa using h
         subst e; exact ⟨y, h4, h5, h6⟩
  | p + 2 => simp at h
end
noncomputable def leastFrom (val : Nat → Int) : Nat → Nat → Option Int → Option Int
  | _, 0, c => c
  | i, k + 1, c => leastFrom val (i + 1) k (some (match c with | none => val i | some m => if val i < m then val i else m))
section
variable {prog : Program} {w : World} {A : Around} {R : Result → Shared → Prop} {I : Addr} {fp wr : List Addr} {n : Nat} {Pi : Nat → Value → Prop} {St : Nat → Heap → Prop} {S : Addr} {dv : Value}
noncomputable def BestAt (h : Heap) (S : Addr) (c : Option Int) : Prop := ∃ e, match c with
  | none => h.get? S = some { cls := .type "list", dict := none, data := .seq #[] e, slots := #[] }
  | some m => ∃ t, h.get? S = some { cls := .type "list", dict := none, data := .seq #[.int m t, .int m t] e, slots := #[] }
noncomputable def BestRet (R : Result → Shared → Prop) (dv : Value) (c : Option Int) (s : Shared) : Prop := match c with
  | none => R (.ok (.ret dv)) s
  | some m => ∀ t, R (.ok (.ret (.int m t))) s
theorem min_loop_d (W : Walks prog w A.in1 I fp wr n Pi St) (val : Nat → Int) (hval : ∀ i v, Pi i v → ∃ t, v = .int (val i) t) (hSf : S ∉ fp) : ∀ (k i : Nat) (s : Shared) (c : Option Int), n - i = k → i ≤ n → St i s.heap → BestAt s.heap S c →
    (∀ h' tk, (∀ b o, b ∉ wr → b ≠ S → s.heap.get? b = some o → h'.get? b = some o) → BestRet R dv (leastFrom val i k c) { s with heap := h', toks := tk }) →
    codeAny (model prog w) A (.builtin "min.loop" ⟨[.ref I, .none, .ref S], [(Str.ofString "default", dv)]⟩) R s := by
  have hSw : S ∉ wr := fun h => hSf (W.sub _ h)
  have hname : (toString "min" ++ toString ".loop" : String) = "min.loop" := by decide
  intro k
  induction k with
  | zero =>
    intro i s c hk hi st hb hR
    have e : i = n := by omega
    subst e
    obtain ⟨ep, hb⟩ := hb
    refine codeAny_builtin F.entry_min_loop ?_
    rw [Around.under_plainId F.plain_min_loop _]
    show wpAny _ A.in1 (seqItems? (.ref S) >>= _) _ _ s
    cases c with
    | none =>
      refine wpAny_bind (wpAny_seqItems hb rfl ?_)
      show wpAny _ A.in1 (tryCatch (pyNext (.ref I)) _ >>= _) _ _ s
      refine wpAny_bind (wpAny_tryCatch (W.done s _ _ st fun h' tk hk' => ?_))
      exact wpAny_bind (wpAny_rule (wpAny_pure (hR h' tk fun b o hw _ q => hk' b o hw q)))
    | some m =>
      obtain ⟨t, hb⟩ := hb
      refine wpAny_bind (wpAny_seqItems hb rfl ?_)
      show wpAny _ A.in1 (tryCatch (pyNext (.ref I)) _ >>= _) _ _ s
      refine wpAny_bind (wpAny_tryCatch (W.done s _ _ st fun h' tk hk' => ?_))
      have hb' := hk' S _ hSw hb
      show wpAny _ A.in1 (updateSeq S (fun _ => #[]) >>= _) _ _ _
      refine wpAny_bind (wpAny_updateSeq hb' rfl (wpAny_bind (wpAny_letGo ?_)))
      exact wpAny_pure (hR _ tk (fun b o hw hS q => (Heap.get?_update_other _ _ (Ne.symm hS)).trans (hk' b o hw q)) t)
  | succ k ih =>
    intro i s c hk hi st hb hR
    obtain ⟨ep, hb⟩ := hb
    have hlt : i < n := by omega
    refine codeAny_builtin F.entry_min_loop ?_
    rw [Around.under_plainId F.plain_min_loop _]
    show wpAny _ A.in1 (seqItems? (.ref S) >>= _) _ _ s
    cases c with
    | none =>
      refine wpAny_bind (wpAny_seqItems hb rfl ?_)
      show wpAny _ A.in1 (tryCatch (pyNext (.ref I)) _ >>= _) _ _ s
      refine wpAny_bind (wpAny_tryCatch (W.item i s _ _ hlt st fun v h' tk hP st' hk' => ?_))
      obtain ⟨t, rfl⟩ := hval i v hP
      have hb' := hk' S _ hSw hb
      show wpAny _ A.in1 (updateSeq S (fun _ => #[.int (val i) t, .int (val i) t]) >>= _) _ _ _
      refine wpAny_bind (wpAny_updateSeq hb' rfl ?_)
      rw [hname]
      refine wpAny_pure ⟨plainId_quiet F.plain_min_loop _, ih (i + 1) _ (some (val i)) (by omega) (by omega) (W.frame _ _ _ st' fun b hbf o q => ?_) ⟨_, t, Heap.get?_update_self _ hb' rfl⟩ fun h'' tk'' hk'' => ?_⟩
      · exact (Heap.get?_update_other _ _ (fun z : S = b => hSf (by rw [z]; exact hbf))).trans q
      · exact hR h'' tk'' fun b o hw hS q => hk'' b o hw hS ((Heap.get?_update_other _ _ (Ne.symm hS)).trans (hk' b o hw q))
    | some m =>
      obtain ⟨t0, hb⟩ := hb
      refine wpAny_bind (wpAny_seqItems hb rfl ?_)
      show wpAny _ A.in1 (tryCatch (pyNext (.ref I)) _ >>= _) _ _ s
      refine wpAny_bind (wpAny_tryCatch (W.item i s _ _ hlt st fun v h' tk hP st' hk' => ?_))
      obtain ⟨t, rfl⟩ := hval i v hP
      have hb' := hk' S _ hSw hb
      have cmp : CmpOf prog w A.in1 .Lt (fun j v => v = (if j = 0 then Value.int (val i) t else Value.int m t0)) (fun a b => decide ((if a = 0 then val i else m) < (if b = 0 then val i else m))) :=
        CmpOf.ints_lt (fun j => if j = 0 then val i else m) fun j v e => by
          by_cases hj : j = 0
          · rw [if_pos hj] at e ⊢; exact ⟨t, e⟩
          · rw [if_neg hj] at e ⊢; exact ⟨t0, e⟩
      show wpAny _ A.in1 (tryCatch (holding [.int (val i) t, .int (val i) t] (richCompare .Lt (.int (val i) t) (.int m t0) >>= _)) _ >>= _) _ _ _
      refine wpAny_bind (wpAny_tryCatch (wpAny_holding (wpAny_bind (cmp 0 1 _ _ _ _ _ rfl rfl (wpAny_bind (wpAny_holding (wpAny_truthy_bool (wpAny_bind (wpAny_letGo (wpAny_pure ?_))))))))))
      show wpAny _ _ (if decide (val i < m) = true then _ else _) _ _ _
      have last : ∀ h1 : Heap, (∀ b o, b ≠ S → h'.get? b = some o → h1.get? b = some o) → BestAt h1 S (some (if val i < m then val i else m)) →
          codeAny (model prog w) A (.builtin "min.loop" ⟨[.ref I, .none, .ref S], [(Str.ofString "default", dv)]⟩) R { s with heap := h1, toks := tk } := fun h1 k1 hb1 =>
        ih (i + 1) _ _ (by omega) (by omega) (W.frame _ _ _ st' fun b hbf o q => k1 b o (fun z => hSf (by rw [← z]; exact hbf)) q) hb1 fun h'' tk'' hk'' =>
          hR h'' tk'' fun b o hw hS q => hk'' b o hw hS (k1 b o hS (hk' b o hw q))
      by_cases hlt2 : val i < m
      · rw [decide_eq_true hlt2, if_pos rfl]
        refine wpAny_bind ?_
        refine wpAny_updateSeq hb' rfl (wpAny_bind (wpAny_letGo ?_))
        rw [hname]
        exact wpAny_pure ⟨plainId_quiet F.plain_min_loop _, last _ (fun b o hS q => (Heap.get?_update_other _ _ (Ne.symm hS)).trans q) ⟨_, t, by rw [if_pos hlt2]; exact Heap.get?_update_self _ hb' rfl⟩⟩
      · rw [decide_eq_false hlt2, if_neg Bool.false_ne_true]
        refine wpAny_bind (wpAny_letGo ?_)
        rw [hname]
        exact wpAny_pure ⟨plainId_quiet F.plain_min_loop _, last _ (fun b o _ q => q) ⟨ep, t0, by rw [if_neg hlt2]; exact hb'⟩⟩
end
theorem leastFrom_ok (val : Nat → Int) : ∀ (k i : Nat) (c : Option Int) (m : Int), leastFrom val i k c = some m → (c = some m ∨ ∃ j, i ≤ j ∧ j < i + k ∧ m = val j) ∧ (∀ x, c = some x → m ≤ x) ∧ ∀ j, i ≤ j → j < i + k → m ≤ val j := by
  intro k
  induction k with
  | zero => intro i c m h; exact ⟨.inl h, fun x hx => by rw [show leastFrom val i 0 c = c from rfl] at h; rw [h] at hx; cases hx; exact Int.le_refl _, fun j h1 h2 => by omega⟩
  | succ k ih =>
    intro i c m h
    obtain ⟨h1, h2, h3⟩ := ih (i + 1) _ m h
    have hx := h2 _ rfl
    cases c with
    | none =>
      refine ⟨?_, fun x hx' => (nomatch hx'), fun j hj1 hj2 => ?_⟩
      · rcases h1 with h1 | ⟨j, a, b, e⟩
        · exact .inr ⟨i, Nat.le_refl _, by omega, (Option.some.inj h1).symm⟩
        · exact .inr ⟨j, by omega, by omega, e⟩
      · by_cases e : j = i
        · subst e; exact hx
        · exact h3 j (by omega) (by omega)
    | some y =>
      dsimp only at h1 hx
      refine ⟨?_, fun x hx' => ?_, fun j hj1 hj2 => ?_⟩
      · rcases h1 with h1 | ⟨j, a, b, e⟩
        · have h1 := Option.some.inj h1
          by_cases hv : val i < y
          · rw [if_pos hv] at h1; exact .inr ⟨i, Nat.le_refl _, by omega, h1.symm⟩
          · rw [if_neg hv] at h1; exact .inl (by rw [h1])
        · exact .inr ⟨j, by omega, by omega, e⟩
      · cases hx'
        split at hx <;> omega
      · by_cases e : j = i
        · subst e; split at hx <;> omega
        · exact h3 j (by omega) (by omega)
theorem leastFrom_some (val : Nat → Int) : ∀ (k i : Nat) (x : Int), ∃ m, leastFrom val i k (some x) = some m
  | 0, _, x => ⟨x, rfl⟩
  | k + 1, i, x => leastFrom_some val k (i + 1) _
theorem args_min_d (a v : Value) : argsOk "min" ⟨[a], [(Str.ofString "default", v)]⟩ := by unfold argsOk; kernel_rfl
section
variable {X : Cx}
noncomputable def tMinD (K : PySem.W.Frag) (te td : TE) : TE := fun σ H Q => te σ H fun x H1 => td σ H1 fun y H2 => ∃ p ns dv, x = .ref p ∧ y = .int dv ∧ SqL K H2 p (ns.map V.int) ∧ ∀ m : Int, (ns = [] → m = dv) → (ns ≠ [] → m ∈ ns ∧ ∀ a ∈ ns, m ≤ a) → Q (.int m) H2
theorem call_minD {pins : List (Addr × Obj)} {σ : St} {H : Hp} {s : Shared} {Q : VK} {p : Addr} {ns : List Int} {dv : Int} {t : Tok} (hc : X.calm = true) (I : Inv X pins σ H s) (hq : SqL X.K H p (ns.map V.int))
    (q : ∀ m : Int, (ns = [] → m = dv) → (ns ≠ [] → m ∈ ns ∧ ∀ a ∈ ns, m ≤ a) → Q (.int m) H) : wpAny (model X.prog X.w) X.A (call (.builtin "min") [.ref p] [(Str.ofString "default", .int dv t)]) (EP X pins σ Q) X.xe s := by
  have hname : (toString "min" ++ toString ".loop" : String) = "min.loop" := by decide
  obtain ⟨its, rv, pl, hz⟩ := I.list hq
  have hl := pl.isList
  have hlt : p < s.heap.objs.size := by obtain ⟨_, e, _⟩ := id hl; exact Heap.lt_size e
  have hlen : its.toArray.size = ns.length := by rw [List.size_toArray, ← rv.length, List.length_map]
  have hval : ∀ (i : Nat) v, its.toArray[i]? = some v → ∃ t, v = Value.int ((ns[i]?).getD 0) t := fun i v hv => by
    have hv' : its[i]? = some v := by simpa using hv
    cases hb : ns[i]? with
    | none =>
      have : its[i]? = none := rv.none_of (by rw [List.getElem?_map, hb]; rfl)
      rw [this] at hv'; cases hv'
    | some b =>
      obtain ⟨u, hu, ru⟩ := rv.get (x := .int b) (i := i) (by rw [List.getElem?_map, hb]; rfl)
      rw [hv'] at hu; cases hu
      exact ru
  refine kmk_tree PySem.F.kind_min PySem.F.plain_min PySem.F.entry_min (args_min_d _ _) ?_
  show wpAny _ X.A.in1 (Builtin.Builtins.bindParams "min" ["key", "default"] 0 ⟨[], [(Str.ofString "default", .int dv t)]⟩ >>= _) _ _ s
  refine wpAny_bind (wpAny_of_eq (show Builtin.Builtins.bindParams "min" ["key", "default"] 0 ⟨[], [(Str.ofString "default", .int dv t)]⟩ = pure [none, some (.int dv t)] from rfl) ?_)
  refine wpAny_bind (wpAny_pure ?_)
  refine wpAny_bind (wpAny_pyIter_list hl ?_)
  refine wpAny_bind (wpAny_newObj_type ?_)
  rw [hname]
  have W := Walks.list (prog := X.prog) (w := X.w) (A := X.A.in1) (I.ok.hd hc) s.heap.objs.size p (Nat.ne_of_lt hlt) its.toArray
  have hS : (s.heap.push { cls := .type "list_iterator", data := .fields #[.ref p, .int 0 0] }).objs.size = s.heap.objs.size + 1 := by rw [Heap.size_push]
  refine wpAny_pure ⟨plainId_quiet PySem.F.plain_min_loop _, min_loop_d W (fun i => (ns[i]?).getD 0) hval ?_ its.toArray.size 0 _ none (by omega) (Nat.zero_le _) ?_ ⟨0, Heap.get?_push_size _ rfl⟩ fun h' tk hk => ?_⟩
  · rw [hS]
    simp only [List.mem_cons, List.not_mem_nil, or_false, not_or]
    exact ⟨Nat.succ_ne_self _, Nat.ne_of_gt (Nat.lt_succ_of_lt hlt)⟩
  · refine ⟨⟨_, Heap.get?_push_of_some _ (Heap.get?_push_size _ rfl), rfl, rfl⟩, (hl.push _).push _⟩
  · have keep : ∀ b o, s.heap.get? b = some o → h'.get? b = some o := fun b o e => by
      have hb := Heap.lt_size e
      refine hk b o ?_ ?_ (Heap.get?_push_of_some _ (Heap.get?_push_of_some _ e))
      · intro z
        simp only [List.mem_cons, List.not_mem_nil, or_false] at z
        exact Nat.ne_of_lt hb z
      · rw [hS]; exact Nat.ne_of_lt (Nat.lt_succ_of_lt hb)
    have fin : ∀ m : Int, (ns = [] → m = dv) → (ns ≠ [] → m ∈ ns ∧ ∀ a ∈ ns, m ≤ a) → ∀ t', EP X pins σ Q (.int m t') { s with heap := h', toks := tk } := fun m h1 h2 t' => ⟨.int m, H, I.kept keep, ⟨t', rfl⟩, q m h1 h2⟩
    cases hr : leastFrom (fun i => (ns[i]?).getD 0) 0 its.toArray.size none with
    | none =>
      have hn : ns = [] := by
        cases hcs : ns with
        | nil => rfl
        | cons x r =>
          rw [hlen, hcs] at hr
          obtain ⟨m, e⟩ := leastFrom_some (fun i => ((x :: r)[i]?).getD 0) r.length 1 (((x :: r)[0]?).getD 0)
          rw [show leastFrom (fun i => ((x :: r)[i]?).getD 0) 0 (x :: r).length none = leastFrom (fun i => ((x :: r)[i]?).getD 0) 1 r.length (some (((x :: r)[0]?).getD 0)) from rfl, e] at hr
          cases hr
      exact fin dv (fun _ => rfl) (fun h => absurd hn h) t
    | some m =>
      obtain ⟨h1, _, h3⟩ := leastFrom_ok _ _ _ _ _ hr
      rw [hlen] at h1 h3
      have hm : m ∈ ns := by
        rcases h1 with h1 | ⟨j, _, hj, e⟩
        · cases h1
        · have hj' : j < ns.length := by omega
          rw [e, List.getElem?_eq_getElem hj']
          exact List.getElem_mem hj'
      exact fun t' => fin m (fun e => by rw [e] at hm; cases hm) (fun _ => ⟨hm, fun a ha => by
        obtain ⟨j, hj, e⟩ := List.mem_iff_getElem.mp ha
        have := h3 j (Nat.zero_le _) (by omega)
        rw [List.getElem?_eq_getElem hj, e] at this
        exact this⟩) t'
theorem pe_minD {e d : Expr} {te td : TE} {p pos kpos : Pos} (hg : Gl X "min") (hm : X.mg "min" = none) (he : PE X e te) (hd : PE X d td) (hc : X.calm = true := by rfl) (hs : starEach [e] X.env = [(false, eval e X.env)] := by rfl) :
    PE X (.Call (.Name "min" p) [e] [⟨some "default", d, kpos⟩] pos) (tMinD X.K te td) := by
  intro pins s σ H Q I h
  refine wpAny_Call_Name_kw (ld_blt I hg hm PyProof.Rows.Boot.«min» ?_)
  refine callWith_kw (he := by rw [hs]; rfl) (hplain := by rw [hs]; rfl) ?_
  refine thn ((pa_cons he pa_nil (hs := hs)) pos pins s σ H (fun vs H1 => match vs with | [x] => td σ H1 fun y H2 => ∃ p ns dv, x = .ref p ∧ y = .int dv ∧ SqL X.K H2 p (ns.map V.int) ∧ ∀ m : Int, (ns = [] → m = dv) → (ns ≠ [] → m ∈ ns ∧ ∀ a ∈ ns, m ≤ a) → Q (.int m) H2 | _ => False) I h) fun us s1 h1 => ?_
  obtain ⟨vs, H1, I1, r, q⟩ := h1
  match vs, q with
  | [x], q =>
    obtain ⟨u, rfl, rx⟩ := vals1 r
    refine thn ((pk_cons hd pk_nil) pos pins s1 σ H1 (fun zs H2 => match zs with | [y] => ∃ p ns dv, x = .ref p ∧ y = .int dv ∧ SqL X.K H2 p (ns.map V.int) ∧ ∀ m : Int, (ns = [] → m = dv) → (ns ≠ [] → m ∈ ns ∧ ∀ a ∈ ns, m ≤ a) → Q (.int m) H2 | _ => False) I1 q) fun ws s2 h2 => ?_
    obtain ⟨zs, H2, I2, r2, q2⟩ := h2
    match zs, q2 with
    | [y], ⟨p, ns, dv, e1, e2, hq, q3⟩ =>
      subst e1; subst e2
      obtain ⟨v, rfl, t, rfl⟩ := vals1 r2
      cases rx
      exact call_minD hc I2 hq q3
end
end L2
set_option Elab.async false
set_option linter.all false
set_option maxRecDepth 100000
set_option maxHeartbeats 2000000
namespace L2
open PySem PySem.Spec PyProof.Rows
noncomputable def plainE : Expr → Bool
  | .Starred .. => false
  | _ => true
theorem star_plain {e : Expr} {es : List Expr} {env : Env} (h : plainE e = true) : starEach (e :: es) env = (false, eval e env) :: starEach es env := by
  cases e <;> first | rfl | cases h
theorem any_plain {env : Env} {pos : Pos} : ∀ {es : List Expr}, es.all plainE = true → (backTo pos (starEach es env)).any (·.1) = false
  | [], _ => rfl
  | e :: es, h => by
    rw [List.all_cons, Bool.and_eq_true] at h
    rw [star_plain h.1]
    show (false || (backTo pos (starEach es env)).any (·.1)) = false
    rw [any_plain h.2]; rfl
section
variable {X : Cx} {e : Expr} {es : List Expr} {te : TE} {t : TA} {x : Str} {p pos : Pos} {id T : String} {r : List V → Hp → VK → Prop}
theorem ac (ha : PE X e te) (hr : PA X es t) (hs : plainE e = true := by rfl) : PA X (e :: es) (tCons te t) := pa_cons ha hr (star_plain hs)
theorem cBi (hc : CallR X (.builtin id) r) (hg : Gl X x) (hm : X.mg x = none) (hv : bootBuiltins x = some (.builtin id)) (ha : PA X (e :: es) t) (hs : plainE e = true := by rfl) (hp : es.all plainE = true := by rfl) (hn : x ≠ "__name__" := by decide) (hdb : (x == ("__debug__" : Str)) = false := by decide) :
    PE X (.Call (.Name x p) (e :: es) [] pos) (tCB r t) := pe_callB hc hg hm hv ha hn hdb (star_plain hs) (any_plain hp)
theorem cTy (hc : CallR X (.type T) r) (hg : Gl X x) (hm : X.mg x = none) (hv : bootBuiltins x = some (.type T)) (ha : PA X (e :: es) t) (hs : plainE e = true := by rfl) (hp : es.all plainE = true := by rfl) (hn : x ≠ "__name__" := by decide) (hdb : (x == ("__debug__" : Str)) = false := by decide) :
    PE X (.Call (.Name x p) (e :: es) [] pos) (tCB r t) := pe_callTy hc hg hm hv ha hn hdb (star_plain hs) (any_plain hp)
theorem cFn {ps : List Str} {k k' : Nat} {sp : Sp} {E : XK} (F : FnS X.prog X.w X.K X.mg X.base x ps k' sp) (hr : Room k X.A) (hx : Passes (CX1 X.prog X.w) X E) (ha : PA X (e :: es) t) (hkk : k' ≤ k := by decide) (hg : Gl X x := by rfl)
    (hs : plainE e = true := by rfl) (hp : es.all plainE = true := by rfl) (hdb : (x == ("__debug__" : Str)) = false := by decide) : PE X (.Call (.Name x p) (e :: es) [] pos) (tCall sp [] E t) :=
  pe_fn F hr hx ha hkk hg hdb (star_plain hs) (any_plain hp)
theorem xFn {ps : List Str} {k k' : Nat} {sp : Sp} (O : Own X) (F : FnS X.prog X.w X.K X.mg X.base x ps k' sp) (hr : Room k X.A) (ha : PA X.nox (e :: es) t) (hkk : k' ≤ k := by decide) (hg : Gl X x := by rfl)
    (hs : plainE e = true := by rfl) (hp : es.all plainE = true := by rfl) (hdb : (x == ("__debug__" : Str)) = false := by decide) :
    PEx X (.Call (.Name x p) (e :: es) [] pos) (fun σ H Q E => t σ H fun vs H1 => sp (vs ++ []) H1 Q E) := pex_fn O F hr ha hkk hg hdb (star_plain hs) (any_plain hp)
theorem op_eqDK (K : PySem.W.Frag) (hu : X.A.units + 64 < cLine) (h : X.K = K := by rfl) : OpR X (compareOp .Eq) (rEqD K) := h ▸ op_eqD hu
theorem op_neDK (K : PySem.W.Frag) (hu : X.A.units + 64 < cLine) (h : X.K = K := by rfl) : OpR X (compareOp .NotEq) (rNeD K) := h ▸ op_neD hu
end
noncomputable def Body (P : Program) (w : World) (K : PySem.W.Frag) (mg : Str → Option Value) (base : Heap) (N : List Str) (x : Str) (st : Stmt) (k : Nat) (sp : Sp) : Prop :=
  ∀ (f : Addr) (cdv : Value) (A : Around) (outer : List Env) (s : Shared) (H : Hp) (vs : List V) (Q : VK) (E : XK), Room k (A.deeper (envOfC x (defScope st) s.heap.objs.size f cdv)) → sp vs H Q E →
    ∃ t, PSs (cxOf (CX1 P w) P w K mg base N x (defScope st) f cdv A outer s H E) (defBody st) t ∧ t { nx := fun _ H' => Q .non H', rt := Q } (start N vs) H
theorem cx1_none {P : Program} {w : World} (H : Hp) (s : Shared) (e : Value) (s' : Shared) : CX1 P w [] H s (fun _ _ _ => False) e s' → False := fun ⟨_, _, _, _, _, _, _, _, _, h⟩ => h.elim
end L2
set_option Elab.async false
set_option linter.all false
set_option maxRecDepth 100000
set_option maxHeartbeats 2000000
namespace L2
open PySem PySem.Spec PyProof.Rows
section
variable {X : Cx} {pins : List (Addr × Obj)} {σ : List (Option V)} {H : Hp} {s : Shared} {h' : Heap}
theorem Inv.turnedL {t' : Nat} {fp : List Addr} (I : Inv X pins σ H s) (k : ∀ b o, b ∉ fp → s.heap.get? b = some o → h'.get? b = some o) (hf : ∀ b ∈ fp, FpOk X pins H b) : Inv X pins σ H { s with heap := h', toks := t' } := by
  have away : ∀ b u, H b = some u → b ∉ fp := fun b u e z => by rw [(hf b z).1] at e; cases e
  have hL : X.env.locals ∉ fp := fun z => (hf _ z).2.1 rfl
  refine I.step (g' := s.gens) (d' := s.drawn) (ch := fp) (fun b hb => ?_) (fun b o _ _ hc e _ => k b o hc e) (fun b o _ _ hc e _ => ⟨o.slots, k b o hc e⟩) (fun _ _ _ _ n => n)
    (fun b o hc e => ⟨o, k b o hc e⟩) (fun _ _ e => e) (fun _ _ _ e => e) (fun b ps e => ⟨#[], by rw [e]; simp⟩) (fun m hm => ?_) (fun b u e => ?_) I.bare
  · obtain ⟨_, h0, _, h1, h2, h3⟩ := hf b hb
    exact ⟨h1, h0, h2, h3⟩
  · obtain ⟨o, es, ep, ho, r⟩ := hm
    exact ⟨o, es, ep, k _ o hL ho, r⟩
  · refine (I.hok b u e).stay (fun c v hc q => k c v ?_ q) (fun _ q => q) fun _ _ q => q
    rcases hc with z | z
    · rw [z]; exact away b u e
    · exact away c _ z
end
inductive Knd | L | T
noncomputable def Knd.seq (k : Knd) (h : Heap) (a : Addr) (xs : Array Value) : Prop := match k with
  | .L => h.IsList a xs
  | .T => h.IsTuple a xs
noncomputable def Knd.it (k : Knd) (h : Heap) (j a : Addr) (n : Nat) : Prop := match k with
  | .L => h.IsListIter j a n
  | .T => h.IsTupleIter j a n
noncomputable def Knd.nm : Knd → String
  | .L => "list_iterator"
  | .T => "tuple_iterator"
noncomputable def Knd.sq (k : Knd) (K : PySem.W.Frag) (H : Hp) (a : Addr) (xs : List V) : Prop := match k with
  | .L => SqL K H a xs
  | .T => SqT K H a xs
theorem Knd.seq_at {k : Knd} {h h' : Heap} {a : Addr} {xs : Array Value} (x : k.seq h a xs) (e : ∀ o, h.get? a = some o → h'.get? a = some o) : k.seq h' a xs := by
  cases k <;> exact let ⟨o, ho, r⟩ := x; ⟨o, e _ ho, r⟩
theorem Knd.it_at {k : Knd} {h h' : Heap} {j a : Addr} {n : Nat} (x : k.it h j a n) (e : ∀ o, h.get? j = some o → h'.get? j = some o) : k.it h' j a n := by
  cases k <;> exact let ⟨o, ho, r⟩ := x; ⟨o, e _ ho, r⟩
theorem Knd.it_obj {k : Knd} {h : Heap} {j a : Addr} {n : Nat} (x : k.it h j a n) : ∃ o, h.get? j = some o ∧ o.cls = .type k.nm ∧ o.data = .fields #[.ref a, .int n 0] := by
  cases k <;> exact x
section
variable {prog : Program} {w : World} {A : Around} {E : Value → Shared → Prop} {s : Shared}
theorem nextOf_tup {j u : Addr} {n : Nat} {its : Array Value} {v : Value} {Q : Value → Shared → Prop} (hit : s.heap.IsTupleIter j u n) (ht : s.heap.IsTuple u its) (hx : its[n]? = some v)
    (hQ : ∀ h', h'.IsTupleIter j u (n + 1) → Heap.SameBut j s.heap h' → Q v { s with heap := h' }) : wpAny (model prog w) A (Builtin.SmallTypes.nextOf (.ref j)) Q E s := by
  obtain ⟨o, ho, hc, hd⟩ := id hit
  obtain ⟨ou, hou, _, nu, hdu⟩ := ht
  unfold Builtin.SmallTypes.nextOf; refine wpAny_bind (wpAny_callSpecial?_slot (name := Str.ofString "__next__") hit.typeIs F.slot_tuple_iterator_next (wpAny_call_entry F.slot_tuple_iterator_next hit.typeIs F.entry_tuple_iterator_next ?_ (F.args_tuple_iterator_next_1 _)))
  show wpAny _ _ (field (.ref j) 0 >>= _) _ _ s; refine wpAny_bind (wpAny_field ho hd (x := .ref u) rfl ?_)
  show wpAny _ _ (if (Value.ref u == Value.none) = true then _ else _) _ _ s; rw [if_neg (show ¬ ((Value.ref u == Value.none) = true) from Bool.false_ne_true)]
  show wpAny _ _ (field (.ref j) 1 >>= _) _ _ s; refine wpAny_bind (wpAny_field ho hd (x := .int n 0) rfl ?_)
  show wpAny _ _ (seqItems? (.ref u) >>= _) _ _ s; refine wpAny_bind (wpAny_seqItems hou hdu ?_); simp only [Int.toNat_natCast, hx]
  refine wpAny_bind (wpAny_setField ho hd (by simp) (wpAny_pure ⟨v, rfl, wpAny_pure (hQ _ ?_ (Heap.SameBut.update ..))⟩)); refine ⟨_, Heap.get?_update_self _ ho (Obj.isFreed_of_fields (Obj.data_mapFields hd _)), (Obj.cls_mapFields ..).trans hc, ?_⟩
  rw [Obj.data_mapFields hd]; simp [rawInt]
theorem nextOf_tup_end {j u : Addr} {n : Nat} {its : Array Value} {Q : Value → Shared → Prop} (hh : A.handled = none) (hit : s.heap.IsTupleIter j u n) (ht : s.heap.IsTuple u its) (hx : its[n]? = none)
    (hE : ∀ h' e, Heap.ExtBut j s.heap h' → (∃ o, h'.get? e = some o ∧ o.cls = .type "StopIteration") → E (.ref e) { s with heap := h' }) : wpAny (model prog w) A (Builtin.SmallTypes.nextOf (.ref j)) Q E s := by
  obtain ⟨o, ho, hc, hd⟩ := id hit
  obtain ⟨ou, hou, _, nu, hdu⟩ := ht
  unfold Builtin.SmallTypes.nextOf; refine wpAny_bind (wpAny_callSpecial?_slot (name := Str.ofString "__next__") hit.typeIs F.slot_tuple_iterator_next (wpAny_call_entry F.slot_tuple_iterator_next hit.typeIs F.entry_tuple_iterator_next ?_ (F.args_tuple_iterator_next_1 _)))
  show wpAny _ _ (field (.ref j) 0 >>= _) _ _ s; refine wpAny_bind (wpAny_field ho hd (x := .ref u) rfl ?_)
  show wpAny _ _ (if (Value.ref u == Value.none) = true then _ else _) _ _ s; rw [if_neg (show ¬ ((Value.ref u == Value.none) = true) from Bool.false_ne_true)]
  show wpAny _ _ (field (.ref j) 1 >>= _) _ _ s; refine wpAny_bind (wpAny_field ho hd (x := .int n 0) rfl ?_)
  show wpAny _ _ (seqItems? (.ref u) >>= _) _ _ s; refine wpAny_bind (wpAny_seqItems hou hdu ?_); simp only [Int.toNat_natCast, hx]
  refine wpAny_bind (wpAny_rule (wpAny_bind (wpAny_setField ho hd (by simp) ?_))); show wpAny _ _ (newExc (.type "StopIteration") [] >>= _) _ _ _
  refine wpAny_bind ?_; simp only [newExc, newTuple]; refine wpAny_bind (wpAny_newObj_type ?_ (by size_fits)); refine wpAny_bind (m := firstArgMember _ _) (wpAny_of_eq (a := Value.none) (by first | rfl | (simp only [firstArgMember]; rfl)) ?_)
  refine wpAny_newObj_type ?_ (by size_fits); simp only [raiseNew]; refine wpAny_bind (wpAny_handled ?_)
  first | rw [show A.in1.handled = none from hh]; refine wpAny_bind (wpAny_pure (wpAny_throw ?_)) | rw [hh]; refine wpAny_bind (wpAny_pure (wpAny_throw ?_))
  exact hE _ _ (((Heap.SameBut.update ..).extBut.push _).push _) ⟨_, Heap.get?_push_size _ rfl, rfl⟩
theorem Knd.next {k : Knd} {j u : Addr} {n : Nat} {its : Array Value} {v : Value} {Q : Value → Shared → Prop} (hit : k.it s.heap j u n) (ht : k.seq s.heap u its) (hx : its[n]? = some v)
    (hQ : ∀ h', k.it h' j u (n + 1) → Heap.SameBut j s.heap h' → Q v { s with heap := h' }) : wpAny (model prog w) A (Builtin.SmallTypes.nextOf (.ref j)) Q E s := by
  cases k with
  | L => exact wpAny_nextOf_list_item hit ht hx hQ
  | T => exact nextOf_tup hit ht hx hQ
theorem Knd.done {k : Knd} {j u : Addr} {n : Nat} {its : Array Value} {Q : Value → Shared → Prop} (hh : A.handled = none) (hit : k.it s.heap j u n) (ht : k.seq s.heap u its) (hx : its[n]? = none)
    (hE : ∀ h' e, Heap.ExtBut j s.heap h' → (∃ o, h'.get? e = some o ∧ o.cls = .type "StopIteration") → E (.ref e) { s with heap := h' }) : wpAny (model prog w) A (Builtin.SmallTypes.nextOf (.ref j)) Q E s := by
  cases k with
  | L => exact wpAny_nextOf_list_end hh hit ht hx hE
  | T => exact nextOf_tup_end hh hit ht hx hE
structure ZAt (h : Heap) (k1 k2 : Knd) (n a1 a2 : Addr) (i : Nat) (f0 : Value) : Prop where
  z : IsZip h (n + 4) (n + 2) (n + 3) f0
  ti : IsPair h (n + 2) (.ref n) (.ref (n + 1))
  to : ∃ a b, IsPair h (n + 3) a b
  i1 : k1.it h n a1 i
  i2 : k2.it h (n + 1) a2 i
noncomputable def zfp (n : Addr) : List Addr := [n + 4, n + 2, n + 3, n, n + 1]
theorem zip_item {k1 k2 : Knd} {n a1 a2 : Addr} {i : Nat} {xs ys : Array Value} {x y : Value} {Q : Option Value → Shared → Prop} (Z : ZAt s.heap k1 k2 n a1 a2 i .none) (d1 : a1 ∉ zfp n) (d2 : a2 ∉ zfp n) (h1 : k1.seq s.heap a1 xs) (h2 : k2.seq s.heap a2 ys) (hx : xs[i]? = some x) (hy : ys[i]? = some y)
    (hQ : ∀ h', ZAt h' k1 k2 n a1 a2 (i + 1) (rawInt s.heap.objs.size) → IsPair h' s.heap.objs.size x y → (∀ c o, c ∉ zfp n → s.heap.get? c = some o → h'.get? c = some o) → Q (some (.ref s.heap.objs.size)) { s with heap := h' }) :
    wpAny (model prog w) A (pyNext (.ref (n + 4))) Q E s := by
  obtain ⟨hz, hTI, ⟨a, b, hTO⟩, g1, g2⟩ := Z
  have nz : n ≠ n + 4 := Nat.ne_of_lt (Nat.lt_add_of_pos_right (by decide))
  have n1z : n + 1 ≠ n + 4 := by intro e; have := Nat.add_left_cancel e; exact absurd this (by decide)
  have n2z : n + 2 ≠ n + 4 := by intro e; have := Nat.add_left_cancel e; exact absurd this (by decide)
  have n3z : n + 3 ≠ n + 4 := by intro e; have := Nat.add_left_cancel e; exact absurd this (by decide)
  have n3n : n + 3 ≠ n := Nat.ne_of_gt (Nat.lt_add_of_pos_right (by decide))
  have n31 : n + 3 ≠ n + 1 := by intro e; have := Nat.add_left_cancel e; exact absurd this (by decide)
  have n32 : n + 3 ≠ n + 2 := by intro e; have := Nat.add_left_cancel e; exact absurd this (by decide)
  have n2n : n + 2 ≠ n := Nat.ne_of_gt (Nat.lt_add_of_pos_right (by decide))
  have n21 : n + 2 ≠ n + 1 := by intro e; have := Nat.add_left_cancel e; exact absurd this (by decide)
  have n1n : n + 1 ≠ n := Nat.ne_of_gt (Nat.lt_add_of_pos_right (by decide))
  have m1 : ∀ c, c ∈ zfp n → a1 ≠ c := fun c hc e => d1 (by rw [e]; exact hc)
  have m2 : ∀ c, c ∈ zfp n → a2 ≠ c := fun c hc e => d2 (by rw [e]; exact hc)
  have p4 : n + 4 ∈ zfp n := .head _
  have p3 : n + 3 ∈ zfp n := .tail _ (.tail _ (.head _))
  have p0 : n ∈ zfp n := .tail _ (.tail _ (.tail _ (.head _)))
  have p1 : n + 1 ∈ zfp n := .tail _ (.tail _ (.tail _ (.tail _ (.head _))))
  have ty : s.TypeIs (.ref (n + 4)) "zip" := ⟨_, hz, rfl⟩
  unfold pyNext
  refine wpAny_bind (wpAny_attempt (wpAny_callSpecial?_slot (name := Str.ofString "__next__") ty F.slot_zip_next (wpAny_call_entry F.slot_zip_next ty F.entry_zip_next ?_ (F.args_zip_next_1 _))))
  show wpAny _ _ (field (.ref (n + 4)) 2 >>= _) _ _ _; refine wpAny_bind (wpAny_field hz rfl (x := .bool false) rfl ?_)
  show wpAny _ _ (field (.ref (n + 4)) 3 >>= _) _ _ _; refine wpAny_bind (wpAny_field hz rfl (x := .ref (n + 2)) rfl ?_)
  refine wpAny_bind (wpAny_seqItems hTI rfl ?_); show wpAny _ _ (Builtin.SmallTypes.ownedTupleIsFree (.ref (n + 4)) >>= _) _ _ _
  refine wpAny_bind ?_; unfold Builtin.SmallTypes.ownedTupleIsFree; refine wpAny_bind (wpAny_field hz rfl (x := .none) rfl (wpAny_pure ?_)); simp only [if_true]
  refine wpAny_bind (wpAny_rule ?_); refine wpAny_bind (wpAny_field hz rfl (x := .ref (n + 3)) rfl ?_)
  refine wpAny_bind (wpAny_setField_rec hz (by simp) fun q1 hz1 s1 => ?_)
  replace hz1 : IsZip q1 (n + 4) (n + 2) (n + 3) .ellipsis := hz1
  refine wpAny_bind ?_; simp only [List.zipIdx_cons, List.zipIdx_nil, List.forIn_cons, List.forIn_nil]
  refine wpAny_bind (wpAny_bind (wpAny_onRaise ?_)); show wpAny _ _ (Builtin.SmallTypes.nextOf (.ref n) >>= _) _ _ _
  refine wpAny_bind (Knd.next (Knd.it_at (k := k1) g1 fun o e => s1.extBut _ _ nz e) (Knd.seq_at (k := k1) h1 fun o e => s1.extBut _ _ (m1 _ p4) e) hx fun q2 f2 s2 => wpAny_pure ?_)
  have hT2 : IsPair q2 (n + 3) a b := s2.extBut _ _ n3n (s1.extBut _ _ n3z hTO)
  refine wpAny_bind (wpAny_seqItems hT2 rfl ?_); refine wpAny_bind (wpAny_updateSeq_pair hT2 fun q3 hT3 s3 => ?_)
  replace hT3 : IsPair q3 (n + 3) x b := hT3
  refine wpAny_bind (wpAny_letGo (wpAny_pure ?_))
  refine wpAny_bind (wpAny_bind (wpAny_onRaise ?_)); show wpAny _ _ (Builtin.SmallTypes.nextOf (.ref (n + 1)) >>= _) _ _ _
  refine wpAny_bind (Knd.next (Knd.it_at (k := k2) g2 fun o e => s3.extBut _ _ n31.symm (s2.extBut _ _ n1n (s1.extBut _ _ n1z e))) (Knd.seq_at (k := k2) h2 fun o e => s3.extBut _ _ (m2 _ p3) (s2.extBut _ _ (m2 _ p0) (s1.extBut _ _ (m2 _ p4) e))) hy fun q4 f4 s4 => wpAny_pure ?_)
  have hT4 : IsPair q4 (n + 3) x b := s4.extBut _ _ n31 hT3
  refine wpAny_bind (wpAny_seqItems hT4 rfl ?_); refine wpAny_bind (wpAny_updateSeq_pair hT4 fun q5 hT5 s5 => ?_)
  replace hT5 : IsPair q5 (n + 3) x y := hT5
  refine wpAny_bind (wpAny_letGo (wpAny_pure (wpAny_pure ?_))); refine wpAny_bind (wpAny_seqItems hT5 rfl ?_); refine wpAny_bind (wpAny_newTuple ?_)
  have hsz : q5.objs.size = s.heap.objs.size := by rw [s5.1, s4.1, s3.1, s2.1, s1.1]
  have hz5 : IsZip q5 (n + 4) (n + 2) (n + 3) .ellipsis := s5.extBut _ _ n3z.symm (s4.extBut _ _ n1z.symm (s3.extBut _ _ n3z.symm (s2.extBut _ _ nz.symm hz1)))
  have keep5 : ∀ c o, c ∉ zfp n → s.heap.get? c = some o → q5.get? c = some o := fun c o hc e =>
    s5.extBut _ _ (fun z => hc (by rw [z]; exact p3)) (s4.extBut _ _ (fun z => hc (by rw [z]; exact p1)) (s3.extBut _ _ (fun z => hc (by rw [z]; exact p3)) (s2.extBut _ _ (fun z => hc (by rw [z]; exact p0)) (s1.extBut _ _ (fun z => hc (by rw [z]; exact p4)) e))))
  have ti5 : IsPair q5 (n + 2) (.ref n) (.ref (n + 1)) := s5.extBut _ _ n32.symm (s4.extBut _ _ n21 (s3.extBut _ _ n32.symm (s2.extBut _ _ n2n (s1.extBut _ _ n2z hTI))))
  have g15 : k1.it q5 n a1 (i + 1) := Knd.it_at (k := k1) f2 fun o e => s5.extBut _ _ n3n.symm (s4.extBut _ _ n1n.symm (s3.extBut _ _ n3n.symm e))
  have g25 : k2.it q5 (n + 1) a2 (i + 1) := Knd.it_at (k := k2) f4 fun o e => s5.extBut _ _ n31.symm e
  have zlt : n + 4 < q5.objs.size := Heap.lt_size hz5
  show wpAny _ _ (Builtin.SmallTypes.ownedTupleHandOut (.ref (n + 4)) (.ref q5.objs.size) >>= _) _ _ _
  refine wpAny_bind ?_; unfold Builtin.SmallTypes.ownedTupleHandOut
  have hz6 : IsZip (q5.push { cls := .type "tuple", data := .seq #[x, y] }) (n + 4) (n + 2) (n + 3) .ellipsis := Heap.get?_push_of_some _ hz5
  refine wpAny_bind (wpAny_setField_rec hz6 (by simp) fun q7 hz7 s7 => ?_)
  replace hz7 : IsZip q7 (n + 4) (n + 2) (n + 3) (rawInt q5.objs.size) := hz7
  refine wpAny_setField_rec hz7 (by simp) fun q8 hz8 s8 => ?_
  replace hz8 : IsZip q8 (n + 4) (n + 2) (n + 3) (rawInt q5.objs.size) := hz8
  have up : ∀ c o, c ≠ n + 4 → q5.get? c = some o → q8.get? c = some o := fun c o hc e => s8.extBut _ _ hc (s7.extBut _ _ hc (Heap.get?_push_of_some _ e))
  have hT8 : IsPair q8 q5.objs.size x y := s8.extBut _ _ (Nat.ne_of_gt zlt) (s7.extBut _ _ (Nat.ne_of_gt zlt) (Heap.get?_push_size _ rfl))
  rw [hsz] at hz8 hT8
  refine wpAny_pure ⟨_, rfl, wpAny_pure ?_⟩
  show Q (some (.ref q5.objs.size)) _; rw [hsz]
  exact hQ q8 ⟨hz8, up _ _ n2z ti5, ⟨_, _, up _ _ n3z hT5⟩, Knd.it_at (k := k1) g15 fun o e => up _ o nz e, Knd.it_at (k := k2) g25 fun o e => up _ o n1z e⟩ hT8 fun c o hc e => up c o (fun z => hc (by rw [z]; exact p4)) (keep5 c o hc e)
theorem zip_end {k1 k2 : Knd} {n a1 a2 : Addr} {i : Nat} {xs ys : Array Value} {Q : Option Value → Shared → Prop} (hh : A.handled = none) (Z : ZAt s.heap k1 k2 n a1 a2 i .none) (d1 : a1 ∉ zfp n) (d2 : a2 ∉ zfp n) (h1 : k1.seq s.heap a1 xs) (h2 : k2.seq s.heap a2 ys) (hend : xs[i]? = none ∨ ys[i]? = none)
    (hQ : ∀ h', (∀ c o, c ∉ zfp n → s.heap.get? c = some o → h'.get? c = some o) → Q none { s with heap := h' }) : wpAny (model prog w) A (pyNext (.ref (n + 4))) Q E s := by
  obtain ⟨hz, hTI, ⟨a, b, hTO⟩, g1, g2⟩ := Z
  have nz : n ≠ n + 4 := Nat.ne_of_lt (Nat.lt_add_of_pos_right (by decide))
  have n1z : n + 1 ≠ n + 4 := by intro e; have := Nat.add_left_cancel e; exact absurd this (by decide)
  have n3z : n + 3 ≠ n + 4 := by intro e; have := Nat.add_left_cancel e; exact absurd this (by decide)
  have n3n : n + 3 ≠ n := Nat.ne_of_gt (Nat.lt_add_of_pos_right (by decide))
  have n31 : n + 3 ≠ n + 1 := by intro e; have := Nat.add_left_cancel e; exact absurd this (by decide)
  have n1n : n + 1 ≠ n := Nat.ne_of_gt (Nat.lt_add_of_pos_right (by decide))
  have m1 : ∀ c, c ∈ zfp n → a1 ≠ c := fun c hc e => d1 (by rw [e]; exact hc)
  have m2 : ∀ c, c ∈ zfp n → a2 ≠ c := fun c hc e => d2 (by rw [e]; exact hc)
  have p4 : n + 4 ∈ zfp n := .head _
  have p3 : n + 3 ∈ zfp n := .tail _ (.tail _ (.head _))
  have p0 : n ∈ zfp n := .tail _ (.tail _ (.tail _ (.head _)))
  have p1 : n + 1 ∈ zfp n := .tail _ (.tail _ (.tail _ (.tail _ (.head _))))
  have ty : s.TypeIs (.ref (n + 4)) "zip" := ⟨_, hz, rfl⟩
  unfold pyNext
  refine wpAny_bind (wpAny_attempt (wpAny_callSpecial?_slot (name := Str.ofString "__next__") ty F.slot_zip_next (wpAny_call_entry F.slot_zip_next ty F.entry_zip_next ?_ (F.args_zip_next_1 _))))
  have fin : ∀ h' e, (∀ c o, c ∉ zfp n → s.heap.get? c = some o → h'.get? c = some o) → (∃ o, h'.get? e = some o ∧ o.cls = .type "StopIteration") →
      wpAny (model prog w) A (isInstance (.ref e) (.type "StopIteration") >>= fun b => if b = true then pure none else throw (.ref e)) Q E { s with heap := h' } := fun h' e hk ⟨o, ho, hc⟩ =>
    wpAny_bind (wpAny_isInstance (T := "StopIteration") (b := true) ⟨o, ho, hc⟩ isSubtype_stop (wpAny_pure (hQ _ hk)))
  show wpAny _ _ (field (.ref (n + 4)) 2 >>= _) _ _ _; refine wpAny_bind (wpAny_field hz rfl (x := .bool false) rfl ?_)
  show wpAny _ _ (field (.ref (n + 4)) 3 >>= _) _ _ _; refine wpAny_bind (wpAny_field hz rfl (x := .ref (n + 2)) rfl ?_)
  refine wpAny_bind (wpAny_seqItems hTI rfl ?_); show wpAny _ _ (Builtin.SmallTypes.ownedTupleIsFree (.ref (n + 4)) >>= _) _ _ _
  refine wpAny_bind ?_; unfold Builtin.SmallTypes.ownedTupleIsFree; refine wpAny_bind (wpAny_field hz rfl (x := .none) rfl (wpAny_pure ?_)); simp only [if_true]
  refine wpAny_bind (wpAny_rule ?_); refine wpAny_bind (wpAny_field hz rfl (x := .ref (n + 3)) rfl ?_)
  refine wpAny_bind (wpAny_setField_rec hz (by simp) fun q1 hz1 s1 => ?_)
  replace hz1 : IsZip q1 (n + 4) (n + 2) (n + 3) .ellipsis := hz1
  refine wpAny_bind ?_; simp only [List.zipIdx_cons, List.zipIdx_nil, List.forIn_cons, List.forIn_nil]
  refine wpAny_bind (wpAny_bind (wpAny_onRaise ?_)); show wpAny _ _ (Builtin.SmallTypes.nextOf (.ref n) >>= _) _ _ _
  have G1 := Knd.it_at (k := k1) g1 fun o e => s1.extBut _ _ nz e
  have S1 := Knd.seq_at (k := k1) h1 fun o e => s1.extBut _ _ (m1 _ p4) e
  cases hx : xs[i]? with
  | none =>
    refine wpAny_bind (Knd.done hh G1 S1 hx fun q2 e s2 he => ?_)
    obtain ⟨oe, hoe, hce⟩ := he
    have hz2 : IsZip q2 (n + 4) (n + 2) (n + 3) .ellipsis := s2 _ _ nz.symm hz1
    have hez : e ≠ n + 4 := fun z => by subst z; rw [hz2] at hoe; cases hoe; simp at hce
    refine wpAny_setField_rec hz2 (by simp) fun q3 _ s3 => fin q3 e (fun c o hc z => s3.extBut _ _ (fun z => hc (by rw [z]; exact p4)) (s2 _ _ (fun z => hc (by rw [z]; exact p0)) (s1.extBut _ _ (fun z => hc (by rw [z]; exact p4)) z))) ⟨oe, s3.extBut _ _ hez hoe, hce⟩
  | some x =>
    have hy : ys[i]? = none := by rcases hend with h | h; rw [hx] at h; cases h; exact h
    refine wpAny_bind (Knd.next G1 S1 hx fun q2 f2 s2 => wpAny_pure ?_)
    have hT2 : IsPair q2 (n + 3) a b := s2.extBut _ _ n3n (s1.extBut _ _ n3z hTO)
    refine wpAny_bind (wpAny_seqItems hT2 rfl ?_); refine wpAny_bind (wpAny_updateSeq_pair hT2 fun q3 hT3 s3 => ?_)
    refine wpAny_bind (wpAny_letGo (wpAny_pure ?_))
    refine wpAny_bind (wpAny_bind (wpAny_onRaise ?_)); show wpAny _ _ (Builtin.SmallTypes.nextOf (.ref (n + 1)) >>= _) _ _ _
    refine wpAny_bind (Knd.done hh (Knd.it_at (k := k2) g2 fun o e => s3.extBut _ _ n31.symm (s2.extBut _ _ n1n (s1.extBut _ _ n1z e))) (Knd.seq_at (k := k2) h2 fun o e => s3.extBut _ _ (m2 _ p3) (s2.extBut _ _ (m2 _ p0) (s1.extBut _ _ (m2 _ p4) e))) hy fun q4 e s4 he => ?_)
    obtain ⟨oe, hoe, hce⟩ := he
    have hz4 : IsZip q4 (n + 4) (n + 2) (n + 3) .ellipsis := s4 _ _ n1z.symm (s3.extBut _ _ n3z.symm (s2.extBut _ _ nz.symm hz1))
    have hez : e ≠ n + 4 := fun z => by subst z; rw [hz4] at hoe; cases hoe; simp at hce
    refine wpAny_setField_rec hz4 (by simp) fun q5 _ s5 => fin q5 e (fun c o hc z => s5.extBut _ _ (fun z => hc (by rw [z]; exact p4)) (s4 _ _ (fun z => hc (by rw [z]; exact p1)) (s3.extBut _ _ (fun z => hc (by rw [z]; exact p3)) (s2.extBut _ _ (fun z => hc (by rw [z]; exact p0)) (s1.extBut _ _ (fun z => hc (by rw [z]; exact p4)) z))))) ⟨oe, s5.extBut _ _ hez hoe, hce⟩
end
noncomputable abbrev zh1 (h : Heap) (k1 : Knd) (a1 : Addr) : Heap := h.push { cls := .type k1.nm, data := .fields #[.ref a1, .int 0 0] }
noncomputable abbrev zh2 (h : Heap) (k1 k2 : Knd) (a1 a2 : Addr) : Heap := (zh1 h k1 a1).push { cls := .type k2.nm, data := .fields #[.ref a2, .int 0 0] }
noncomputable abbrev zh3 (h : Heap) (k1 k2 : Knd) (a1 a2 : Addr) : Heap := (zh2 h k1 k2 a1 a2).push { cls := .type "tuple", data := .seq #[.ref h.objs.size, .ref (zh1 h k1 a1).objs.size] }
noncomputable abbrev zh4 (h : Heap) (k1 k2 : Knd) (a1 a2 : Addr) : Heap := (zh3 h k1 k2 a1 a2).push { cls := .type "tuple", data := .seq #[.none, .none] }
noncomputable abbrev zh5 (h : Heap) (k1 k2 : Knd) (a1 a2 : Addr) : Heap := (zh4 h k1 k2 a1 a2).push { cls := .type "zip", data := .fields #[.none, .bool false, .bool false, .ref (zh2 h k1 k2 a1 a2).objs.size, .ref (zh3 h k1 k2 a1 a2).objs.size] }
theorem zip_made (k1 k2 : Knd) (a1 a2 : Addr) (xs ys : Array Value) :
    Meets (Builtin.«zip.__new__» ⟨[.type "zip", .ref a1, .ref a2], []⟩) (fun _ R s => k1.seq s.heap a1 xs ∧ k2.seq s.heap a2 ys ∧
      R (.ok (.ret (.ref (zh4 s.heap k1 k2 a1 a2).objs.size))) { s with heap := zh5 s.heap k1 k2 a1 a2 }) :=
  .of_wp fun prog w A R s h => by
    obtain ⟨hp, g, d, tk, os⟩ := s; obtain ⟨e1, e2, h⟩ := h; have sub := sub_zip
    cases k1 <;> cases k2
    · have L1 : Heap.IsList (Shared.heap ⟨hp, g, d, tk, os⟩) a1 xs := e1
      have L2 : Heap.IsList (Shared.heap ⟨hp.push { cls := .type "list_iterator", data := .fields #[.ref a1, .int 0 0] }, g, d, tk, os⟩) a2 ys := Heap.IsList.push e2 _
      wp_walk using wpAny_pyIter_list L1, wpAny_pyIter_list L2
      exact ⟨_, rfl, h⟩
    · have L1 : Heap.IsList (Shared.heap ⟨hp, g, d, tk, os⟩) a1 xs := e1
      have L2 : Heap.IsTuple (Shared.heap ⟨hp.push { cls := .type "list_iterator", data := .fields #[.ref a1, .int 0 0] }, g, d, tk, os⟩) a2 ys := Heap.IsTuple.push e2 _
      wp_walk using wpAny_pyIter_list L1, wpAny_pyIter_tuple L2
      exact ⟨_, rfl, h⟩
    · have L1 : Heap.IsTuple (Shared.heap ⟨hp, g, d, tk, os⟩) a1 xs := e1
      have L2 : Heap.IsList (Shared.heap ⟨hp.push { cls := .type "tuple_iterator", data := .fields #[.ref a1, .int 0 0] }, g, d, tk, os⟩) a2 ys := Heap.IsList.push e2 _
      wp_walk using wpAny_pyIter_tuple L1, wpAny_pyIter_list L2
      exact ⟨_, rfl, h⟩
    · have L1 : Heap.IsTuple (Shared.heap ⟨hp, g, d, tk, os⟩) a1 xs := e1
      have L2 : Heap.IsTuple (Shared.heap ⟨hp.push { cls := .type "tuple_iterator", data := .fields #[.ref a1, .int 0 0] }, g, d, tk, os⟩) a2 ys := Heap.IsTuple.push e2 _
      wp_walk using wpAny_pyIter_tuple L1, wpAny_pyIter_tuple L2
      exact ⟨_, rfl, h⟩
theorem call_zip {prog : Program} {w : World} {A : Around} {E : Value → Shared → Prop} {s : Shared} {k1 k2 : Knd} {a1 a2 : Addr} {xs ys : Array Value} {Q : Value → Shared → Prop} (h1 : k1.seq s.heap a1 xs) (h2 : k2.seq s.heap a2 ys)
    (h : ∀ h', ZAt h' k1 k2 s.heap.objs.size a1 a2 0 .none → (∀ c o, s.heap.get? c = some o → h'.get? c = some o) → Q (.ref (s.heap.objs.size + 4)) { s with heap := h' }) :
    wpAny (model prog w) A (call (.type "zip") [.ref a1, .ref a2]) Q E s := by
  refine callType_new F.called_zip (by decide) (F.typeCall_zip_2 _ _) (F.newCall_zip_2 _ _) (fun obj => F.args_object_init_3 obj _ _) F.entry_zip_new (zip_made k1 k2 a1 a2 xs ys) ⟨h1, h2, ?_⟩
  have z1 : (zh1 s.heap k1 a1).objs.size = s.heap.objs.size + 1 := Heap.size_push ..
  have z2 : (zh2 s.heap k1 k2 a1 a2).objs.size = s.heap.objs.size + 2 := by rw [Heap.size_push, z1]
  have z3 : (zh3 s.heap k1 k2 a1 a2).objs.size = s.heap.objs.size + 3 := by rw [Heap.size_push, z2]
  have z4 : (zh4 s.heap k1 k2 a1 a2).objs.size = s.heap.objs.size + 4 := by rw [Heap.size_push, z3]
  have g5 : (zh5 s.heap k1 k2 a1 a2).get? (zh4 s.heap k1 k2 a1 a2).objs.size = some _ := Heap.get?_push_size _ rfl
  have g4 : (zh5 s.heap k1 k2 a1 a2).get? (zh3 s.heap k1 k2 a1 a2).objs.size = some _ := Heap.get?_push_of_some _ (Heap.get?_push_size _ rfl)
  have g3 : (zh5 s.heap k1 k2 a1 a2).get? (zh2 s.heap k1 k2 a1 a2).objs.size = some _ := Heap.get?_push_of_some _ (Heap.get?_push_of_some _ (Heap.get?_push_size _ rfl))
  have g2 : (zh5 s.heap k1 k2 a1 a2).get? (zh1 s.heap k1 a1).objs.size = some _ := Heap.get?_push_of_some _ (Heap.get?_push_of_some _ (Heap.get?_push_of_some _ (Heap.get?_push_size _ rfl)))
  have g1 : (zh5 s.heap k1 k2 a1 a2).get? s.heap.objs.size = some _ := Heap.get?_push_of_some _ (Heap.get?_push_of_some _ (Heap.get?_push_of_some _ (Heap.get?_push_of_some _ (Heap.get?_push_size _ rfl))))
  show _ ∧ _
  rw [z2, z3, z4] at g5
  rw [z1, z2] at g3
  rw [z3] at g4; rw [z1] at g2; rw [z4]
  refine ⟨⟨_, g5, rfl⟩, h _ ⟨g5, g3, ⟨_, _, g4⟩, ?_, ?_⟩ fun c o x => Heap.get?_push_of_some _ (Heap.get?_push_of_some _ (Heap.get?_push_of_some _ (Heap.get?_push_of_some _ (Heap.get?_push_of_some _ x))))⟩
  · cases k1 <;> exact ⟨_, g1, rfl, rfl⟩
  · cases k2 <;> exact ⟨_, g2, rfl, rfl⟩
end L2
set_option Elab.async false
set_option linter.all false
set_option maxRecDepth 100000
set_option maxHeartbeats 2000000
namespace L2
open PySem PySem.Spec PyProof.Rows
section
variable {X : Cx} {pins : List (Addr × Obj)} {σ : St} {H : Hp} {s : Shared}
theorem fp_ne {k : Knd} {a b : Addr} {xs : List V} (I : Inv X pins σ H s) (f : FpOk X pins H b) (h : k.sq X.K H a xs) : a ≠ b := by
  rintro rfl
  have kb : ∀ o, X.K.lookup a = some o → False := fun o e => by
    have e' := I.ok.mod.kin a o e
    rcases f.2.2.2.1 with h | h
    · exact I.ok.noex a o e' h
    · exact absurd (Nat.lt_of_lt_of_le (Heap.lt_size e') (Nat.le_trans I.ok.bsz h)) (Nat.lt_irrefl _)
  cases k
  · rcases h with (h | ⟨o, h⟩) | ⟨o, its, n, hk, r⟩
    · have h' := f.1; rw [h] at h'; cases h'
    · have h' := f.1; rw [h] at h'; cases h'
    · exact kb o hk
  · rcases h with (h | ⟨o, h⟩) | ⟨o, its, n, hk, r⟩
    · have h' := f.1; rw [h] at h'; cases h'
    · have h' := f.1; rw [h] at h'; cases h'
    · exact kb o hk
theorem Inv.knd {k : Knd} {a : Addr} {xs : List V} (I : Inv X pins σ H s) (h : k.sq X.K H a xs) : ∃ its : List Value, Vals xs its ∧ k.seq s.heap a its.toArray := by
  cases k
  · obtain ⟨its, r, p, _⟩ := I.list h
    exact ⟨its, r, p.isList⟩
  · obtain ⟨its, r, p, _⟩ := I.tuple h
    exact ⟨its, r, p⟩
theorem Inv.knd_inj {k : Knd} {a : Addr} {xs ys : List V} (I : Inv X pins σ H s) (h : k.sq X.K H a xs) (h' : k.sq X.K H a ys) : xs = ys := by
  cases k
  · exact I.list_inj h h'
  · exact I.tuple_inj h h'
end
noncomputable def Itz (K : PySem.W.Frag) (k1 k2 : Knd) (a1 a2 : Addr) : It :=
  ⟨fun i H => ∃ xs ys x y, k1.sq K H a1 xs ∧ k2.sq K H a2 ys ∧ xs[i]? = some x ∧ ys[i]? = some y,
   fun i H x H' => ∃ p u v, x = .ref p ∧ H p = none ∧ H' = upd H p (.tup [u, v]) ∧ (∀ xs, k1.sq K H a1 xs → xs[i]? = some u) ∧ ∀ ys, k2.sq K H a2 ys → ys[i]? = some v,
   fun i H => ∃ xs ys, k1.sq K H a1 xs ∧ k2.sq K H a2 ys ∧ (xs.length ≤ i ∨ ys.length ≤ i)⟩
theorem turn_zip {P : Program} {w : World} {K : PySem.W.Frag} {els : List Expr} {x1 : Nat} {tpos : Pos} (k1 k2 : Knd) (n a1 a2 : Addr) :
    Turn P w K (.Tuple els x1 tpos) (Itz K k1 k2 a1 a2) (zfp n) (n + 4) (fun i h => ZAt h k1 k2 n a1 a2 i .none) where
  mem := .head _
  obj := fun i h Z b hb => by
    obtain ⟨hz, hTI, ⟨a, b', hTO⟩, g1, g2⟩ := Z
    obtain ⟨o1, e1, _, d1⟩ := Knd.it_obj (k := k1) g1
    obtain ⟨o2, e2, _, d2⟩ := Knd.it_obj (k := k2) g2
    unfold zfp at hb
    simp only [List.mem_cons, List.not_mem_nil, or_false] at hb
    rcases hb with rfl | rfl | rfl | rfl | rfl
    · exact ⟨_, hz, fun v z => by cases z⟩
    · exact ⟨_, hTI, fun v z => by cases z⟩
    · exact ⟨_, hTO, fun v z => by cases z⟩
    · exact ⟨_, e1, fun v z => by rw [d1] at z; cases z⟩
    · exact ⟨_, e2, fun v z => by rw [d2] at z; cases z⟩
  keep := fun i h h' Z k => by
    obtain ⟨hz, hTI, ⟨a, b', hTO⟩, g1, g2⟩ := Z
    have p0 : n ∈ zfp n := .tail _ (.tail _ (.tail _ (.head _)))
    have p1 : n + 1 ∈ zfp n := .tail _ (.tail _ (.tail _ (.tail _ (.head _))))
    exact ⟨k _ (.head _) _ hz, k _ (.tail _ (.head _)) _ hTI, ⟨a, b', k _ (.tail _ (.tail _ (.head _))) _ hTO⟩, Knd.it_at (k := k1) g1 fun o e => k _ p0 o e, Knd.it_at (k := k2) g2 fun o e => k _ p1 o e⟩
  item := by
    intro X hP hw hK hc i pins s σ H E I hf Z hg
    subst hP hw hK
    obtain ⟨xs, ys, x, y, q1, q2, hx, hy⟩ := hg
    obtain ⟨its, r1, e1⟩ := I.knd q1
    obtain ⟨jts, r2, e2⟩ := I.knd q2
    obtain ⟨u, hu, ru⟩ := r1.get hx
    obtain ⟨v, hv, rv⟩ := r2.get hy
    have fl : ∀ b ∈ zfp n, b < s.heap.objs.size := fun b hb => by
      obtain ⟨hz, hTI, ⟨a, b', hTO⟩, g1, g2⟩ := id Z
      obtain ⟨o1, e1, _⟩ := Knd.it_obj (k := k1) g1
      obtain ⟨o2, e2, _⟩ := Knd.it_obj (k := k2) g2
      unfold zfp at hb
      simp only [List.mem_cons, List.not_mem_nil, or_false] at hb
      rcases hb with rfl | rfl | rfl | rfl | rfl
      · exact Heap.lt_size hz
      · exact Heap.lt_size hTI
      · exact Heap.lt_size hTO
      · exact Heap.lt_size e1
      · exact Heap.lt_size e2
    refine zip_item Z (fun hb => fp_ne I (hf _ hb) q1 rfl) (fun hb => fp_ne I (hf _ hb) q2 rfl) e1 e2 (x := u) (y := v) (by simpa using hu) (by simpa using hv) fun h' Z' hT hk => ?_
    refine ⟨.ref s.heap.objs.size, rfl, wpAny_letOwnedTupleGo_zip (s := { s with heap := h' }) Z'.z fun h'' z'' sb => ?_⟩
    have I1 : Inv X pins σ (upd H s.heap.objs.size (.tup [x, y])) { s with heap := s.heap.push { cls := .type "tuple", data := .seq #[u, v] }, toks := s.toks } :=
      I.laid (fun b o e => Heap.get?_push_of_some _ e) (Nat.le_refl _) ⟨by show 2 ≤ sizeLine; decide, [u, v], .cons ru (.cons rv .nil), ⟨_, Heap.get?_push_size _ rfl, rfl, _, rfl⟩⟩
    have none' : ∀ b ∈ zfp n, upd H s.heap.objs.size (.tup [x, y]) b = none := fun b hb => by
      rw [upd_ne (Nat.ne_of_lt (fl b hb))]; exact (hf b hb).1
    have I2 : Inv X pins σ (upd H s.heap.objs.size (.tup [x, y])) { s with heap := h'' } := Inv.turnedL (s := { s with heap := s.heap.push { cls := .type "tuple", data := .seq #[u, v] }, toks := s.toks }) (fp := zfp n) (t' := s.toks) I1 (fun b o hb e => by
      have hb4 : b ≠ n + 4 := fun z => hb (by rw [z]; exact .head _)
      refine sb.extBut _ _ hb4 ?_
      rcases Heap.get?_push_cases e with ⟨z, z2⟩ | e
      · rw [z, z2]; exact hT
      · exact hk b o hb e) fun b hb => ⟨none' b hb, (hf b hb).2⟩
    obtain ⟨_, zt, ⟨a, b', zo⟩, g1, g2⟩ := Z'
    have ne : ∀ k : Nat, k < 4 → n + k ≠ n + 4 := fun k hk e => absurd (Nat.add_left_cancel e) (Nat.ne_of_lt hk)
    exact ⟨.ref s.heap.objs.size, _, I2, rfl, ⟨_, x, y, rfl, I.fresh, rfl, fun zs hz => by rw [I.knd_inj hz q1]; exact hx, fun zs hz => by rw [I.knd_inj hz q2]; exact hy⟩,
      ⟨z'', sb.extBut _ _ (ne 2 (by decide)) zt, ⟨a, b', sb.extBut _ _ (ne 3 (by decide)) zo⟩, Knd.it_at (k := k1) g1 fun o e => sb.extBut _ _ (ne 0 (by decide)) e, Knd.it_at (k := k2) g2 fun o e => sb.extBut _ _ (ne 1 (by decide)) e⟩, none'⟩
  done := by
    intro X hP hw hK hc i pins s σ H E I hf Z hg
    subst hP hw hK
    obtain ⟨xs, ys, q1, q2, hx⟩ := hg
    obtain ⟨its, r1, e1⟩ := I.knd q1
    obtain ⟨jts, r2, e2⟩ := I.knd q2
    have l1 := r1.length
    have l2 := r2.length
    refine zip_end (I.ok.hd hc) Z (fun hb => fp_ne I (hf _ hb) q1 rfl) (fun hb => fp_ne I (hf _ hb) q2 rfl) e1 e2 (hx.imp (fun h => by simp; omega) (fun h => by simp; omega)) fun h' hk => ⟨rfl, I.turnedL (t' := s.toks) hk hf⟩
  self := fun _ _ _ _ _ Z h => wpAny_pyIter_zip Z.z h
section
variable {X : Cx} {els : List Expr} {x1 : Nat} {tpos : Pos}
noncomputable def iZip (k1 k2 : Knd) (K : PySem.W.Frag) (ta : TA) : TI := fun σ H R => ta σ H fun vs H1 => ∃ a1 a2, vs = [.ref a1, .ref a2] ∧ (∃ xs, k1.sq K H1 a1 xs) ∧ (∃ ys, k2.sq K H1 a2 ys) ∧ R (Itz K k1 k2 a1 a2) H1
theorem pi_zip (k1 k2 : Knd) {a b : Expr} {ta : TA} {p pos : Pos} (hg : Gl X "zip") (hm : X.mg "zip" = none) (ha : PA X [a, b] ta) (hs : plainE a = true := by rfl) (hs2 : plainE b = true := by rfl) :
    PI X (.Tuple els x1 tpos) (.Call (.Name "zip" p) [a, b] [] pos) (iZip k1 k2 X.K ta) := by
  intro pins s σ H R I h
  refine wpAny_Call_Name_kw (ld_blt I hg hm PyProof.Rows.Boot.«zip» ?_)
  refine PyProof.Rows.callWith_type1 (thn (ha pos pins s σ H _ I h) fun us s1 h1 => ?_) (star_plain hs) (any_plain (by rw [List.all_cons, hs2]; rfl))
  obtain ⟨vs, H1, I1, r, a1, a2, rfl, ⟨xs, q1⟩, ⟨ys, q2⟩, q⟩ := h1
  obtain ⟨u, v, rfl, ru, rv⟩ := vals2 r
  cases ru; cases rv
  obtain ⟨its, r1, e1⟩ := I1.knd q1
  obtain ⟨jts, r2, e2⟩ := I1.knd q2
  refine call_zip e1 e2 fun h' Z hk => wpAny_pyIter_zip Z.z ?_
  refine ⟨s1.heap.objs.size + 4, zfp s1.heap.objs.size, _, _, H1, rfl, I1.kept (t' := s1.toks) hk, turn_zip k1 k2 _ a1 a2, Z, fun b hb => ?_, q⟩
  have hle : s1.heap.objs.size ≤ b := by
    unfold zfp at hb
    simp only [List.mem_cons, List.not_mem_nil, or_false] at hb
    rcases hb with rfl | rfl | rfl | rfl | rfl
    · exact Nat.le_add_right _ _
    · exact Nat.le_add_right _ _
    · exact Nat.le_add_right _ _
    · exact Nat.le_refl _
    · exact Nat.le_add_right _ _
  exact I1.fpOk hle (I1.hok.fresh hle)
end
end L2
set_option Elab.async false
set_option linter.all false
set_option maxRecDepth 100000
set_option maxHeartbeats 2000000
namespace L2
open PySem PySem.Spec PyProof.Rows
theorem Same.new {H : Hp} {p : Addr} {o : HO} (h : H p = none) : Same H (L2.upd H p o) := fun b u e => by
  rw [upd_ne (ne_of_none e h)]; exact e
theorem Same.upd {H H1 : Hp} {p : Addr} {o : HO} (s : Same H H1) (h : H p = none) : Same H (L2.upd H1 p o) := fun b u e => by
  rw [upd_ne (ne_of_none e h)]; exact s b u e
theorem Same.knd {k : Knd} {K : PySem.W.Frag} {H H' : Hp} {a : Addr} {xs : List V} (S : Same H H') (h : k.sq K H a xs) : k.sq K H' a xs := by
  cases k <;> rcases h with (h | ⟨o, h⟩) | h <;> first | exact .inl (.inl (S _ _ h)) | exact .inl (.inr ⟨o, S _ _ h⟩) | exact .inr h
section
variable {X : Cx}
theorem CompOk.caps {scope sc : Scope} {lv : Nat} {caps : List Nat} {N' : List Str} (kind : scope.kind = .function) (h : ∀ y ∈ scope.names, y.2 ≠ .cell) (hf : ∀ y ∈ scope.names, y.2 = .free → sc.names.lookup y.1 = some .cell ∨ sc.names.lookup y.1 = some .free)
    (loc : ∀ y ∈ scope.names, y.2 = .local → scope.names.lookup y.1 = some .local) (e : X.env.scope = sc) (len : N'.length = lv + caps.length)
    (cap : ∀ (p : Nat) (j : Nat), caps[p]? = some j → ∃ x, N'[lv + p]? = some x ∧ X.N[j]? = some x ∧ scope.names.lookup x = some .free) : CompOk X scope lv caps N' :=
  ⟨kind, h, fun y hy hz => by have := hf y hy hz; rw [← e] at this; exact this, loc, len, cap⟩
end
section
variable {K : PySem.W.Frag} {g : TG} {te : TE} {σ0 : St} {H1 : Hp} {Q : VK}
theorem comp_each {J : It} (n : Nat) (hl : n < sizeLine) (f : Nat → V) (go : ∀ i H', i < n → Same H1 H' → J.go i H') (stop : ∀ H', Same H1 H' → J.stop n H')
    (step : ∀ i x (H' H'' : Hp) (Q' : VK), i < n → Same H1 H' → J.yld i H' x H'' → (∀ H2, Same H' H2 → Q' (f i) H2) → g x σ0 H'' fun σ2 H2 => te σ2 H2 Q')
    (fin : ∀ D H', H1 D = none → Same H1 H' → H' D = some (.lst ((List.range n).map f)) → Q (.ref D) H') : compW J g te σ0 Q H1 := by
  intro D hD
  refine ⟨fun i m ys H' => i ≤ n ∧ m = n - i ∧ ys = (List.range i).map f ∧ Same H1 H' ∧ H' D = some (.lst ys), ⟨_, Nat.zero_le _, rfl, rfl, Same.new hD, upd_same⟩, ?_⟩
  rintro i m ys H' ⟨hi, rfl, rfl, S, e⟩
  refine ⟨e, by rw [List.length_map, List.length_range]; omega, ?_⟩
  by_cases hlt : i < n
  · refine .inr ⟨go i H' hlt S, fun x H'' hy => step i x H' H'' _ hlt S hy fun H2 S2 => ⟨S2 _ _ e, n - (i + 1), by omega, hlt, rfl, ?_, (S.trans S2).upd hD, upd_same⟩⟩
    rw [List.range_succ, List.map_append]; rfl
  · have ei : i = n := by omega
    subst ei
    exact .inl ⟨stop H' S, fin D H' hD S e⟩
theorem comp_seq {k : Knd} {J : It} {a : Addr} {xs : List V} (hJ : J = match k with | .L => Itl K a | .T => Itt K a) (hq : k.sq K H1 a xs) (hl : xs.length < sizeLine) (f : V → V)
    (step : ∀ x ∈ xs, ∀ (H' : Hp) (Q' : VK), Same H1 H' → (∀ H2, Same H' H2 → Q' (f x) H2) → g x σ0 H' fun σ2 H2 => te σ2 H2 Q')
    (fin : ∀ D H', H1 D = none → Same H1 H' → H' D = some (.lst (xs.map f)) → Q (.ref D) H') : compW J g te σ0 Q H1 := by
  have hm : (List.range xs.length).map (fun i => f (xs.getD i .non)) = xs.map f := by
    apply List.ext_getElem?
    intro i
    simp only [List.getElem?_map, List.getElem?_range, List.getD_eq_getElem?_getD]
    by_cases h : i < xs.length
    · rw [List.getElem?_eq_getElem h, List.getElem?_range h]; simp [h]
    · rw [List.getElem?_eq_none (show (List.range xs.length).length ≤ i by rw [List.length_range]; omega), List.getElem?_eq_none (show xs.length ≤ i by omega)]; rfl
  have at' : ∀ {i : Nat} (h : i < xs.length), xs[i]? = some (xs.getD i .non) := fun {i} h => by rw [List.getD_eq_getElem?_getD, List.getElem?_eq_getElem h]; rfl
  subst hJ
  cases k
  · refine comp_each xs.length hl (fun i => f (xs.getD i .non)) (fun i H' h S => ⟨xs, _, S.knd (k := .L) hq, at' h⟩) (fun H' S => ⟨xs, S.knd (k := .L) hq, Nat.le_refl _⟩) (fun i x H' H'' Q' h S hy q => ?_) (fun D H' hD S e => fin D H' hD S (by rw [← hm]; exact e))
    obtain ⟨rfl, hx⟩ := hy
    have hx := hx xs (S.knd (k := .L) hq)
    have e : xs.getD i .non = x := by rw [List.getD_eq_getElem?_getD, hx]; rfl
    rw [e] at q
    exact step x (List.mem_of_getElem? hx) _ Q' S q
  · refine comp_each xs.length hl (fun i => f (xs.getD i .non)) (fun i H' h S => ⟨xs, _, S.knd (k := .T) hq, at' h⟩) (fun H' S => ⟨xs, S.knd (k := .T) hq, Nat.le_refl _⟩) (fun i x H' H'' Q' h S hy q => ?_) (fun D H' hD S e => fin D H' hD S (by rw [← hm]; exact e))
    obtain ⟨rfl, hx⟩ := hy
    have hx := hx xs (S.knd (k := .T) hq)
    have e : xs.getD i .non = x := by rw [List.getD_eq_getElem?_getD, hx]; rfl
    rw [e] at q
    exact step x (List.mem_of_getElem? hx) _ Q' S q
theorem comp_L {a : Addr} {xs : List V} (hq : SqL K H1 a xs) (hl : xs.length < sizeLine) (f : V → V)
    (step : ∀ x ∈ xs, ∀ (H' : Hp) (Q' : VK), Same H1 H' → (∀ H2, Same H' H2 → Q' (f x) H2) → g x σ0 H' fun σ2 H2 => te σ2 H2 Q')
    (fin : ∀ D H', H1 D = none → Same H1 H' → H' D = some (.lst (xs.map f)) → Q (.ref D) H') : compW (Itl K a) g te σ0 Q H1 := comp_seq (k := .L) rfl hq hl f step fin
theorem comp_T {a : Addr} {xs : List V} (hq : SqT K H1 a xs) (hl : xs.length < sizeLine) (f : V → V)
    (step : ∀ x ∈ xs, ∀ (H' : Hp) (Q' : VK), Same H1 H' → (∀ H2, Same H' H2 → Q' (f x) H2) → g x σ0 H' fun σ2 H2 => te σ2 H2 Q')
    (fin : ∀ D H', H1 D = none → Same H1 H' → H' D = some (.lst (xs.map f)) → Q (.ref D) H') : compW (Itt K a) g te σ0 Q H1 := comp_seq (k := .T) rfl hq hl f step fin
end
end L2
set_option Elab.async false
set_option linter.all false
set_option maxRecDepth 100000
set_option maxHeartbeats 2000000
namespace L2
open PySem PySem.Spec PyProof.Rows
theorem for_zip {K : PySem.W.Frag} {k1 k2 : Knd} {a1 a2 : Addr} {xs ys : List V} {g : TG} {tb : TS} {D : Ends} {σ : St} {H : Hp} (Pv : Nat → St → Hp → Prop) (h0 : Pv 0 σ H) (hl : ∀ i σ H, Pv i σ H → k1.sq K H a1 xs ∧ k2.sq K H a2 ys)
    (hs : ∀ i x y p σ H, xs[i]? = some x → ys[i]? = some y → Pv i σ H → H p = none → g (.ref p) σ (upd H p (.tup [x, y])) fun σ2 H2 => tb { D with nx := Pv (i + 1), ct := Pv (i + 1), bk := D.nx } σ2 H2)
    (hd : ∀ σ H, Pv (min xs.length ys.length) σ H → D.nx σ H) :
    ∃ W : Nat → Nat → St → Hp → Prop, (∃ m, W 0 m σ H) ∧ ∀ i m σ H, W i m σ H →
      ((Itz K k1 k2 a1 a2).stop i H ∧ D.nx σ H) ∨ ((Itz K k1 k2 a1 a2).go i H ∧ ∃ N : St → Hp → Prop, (∀ σ' H', N σ' H' → ∃ m', m' < m ∧ W (i + 1) m' σ' H') ∧ ∀ x H', (Itz K k1 k2 a1 a2).yld i H x H' → g x σ H' fun σ2 H2 => tb { D with nx := N, ct := N, bk := D.nx } σ2 H2) := by
  refine ⟨fun i m σ H => m = min xs.length ys.length - i ∧ i ≤ min xs.length ys.length ∧ Pv i σ H, ⟨_, rfl, Nat.zero_le _, h0⟩, ?_⟩
  rintro i m σ H ⟨rfl, hi, p⟩
  obtain ⟨q1, q2⟩ := hl i σ H p
  by_cases hlt : i < min xs.length ys.length
  · have l1 : i < xs.length := Nat.lt_of_lt_of_le hlt (Nat.min_le_left ..)
    have l2 : i < ys.length := Nat.lt_of_lt_of_le hlt (Nat.min_le_right ..)
    refine .inr ⟨⟨xs, ys, _, _, q1, q2, List.getElem?_eq_getElem l1, List.getElem?_eq_getElem l2⟩, Pv (i + 1), fun σ' H' n => ⟨_, by omega, rfl, hlt, n⟩, fun x H' hy => ?_⟩
    obtain ⟨a, u, v, rfl, ha, rfl, hu, hv⟩ := hy
    exact hs i u v a σ H (hu xs q1) (hv ys q2) p ha
  · have e : i = min xs.length ys.length := by omega
    subst e
    refine .inl ⟨⟨xs, ys, q1, q2, ?_⟩, hd σ H p⟩
    rcases Nat.le_total xs.length ys.length with h | h
    · exact .inl (by rw [Nat.min_eq_left h]; exact Nat.le_refl _)
    · exact .inr (by rw [Nat.min_eq_right h]; exact Nat.le_refl _)
section
variable {X : Cx}
end
end L2
set_option Elab.async false
set_option linter.all false
set_option maxRecDepth 100000
set_option maxHeartbeats 2000000
namespace L2
open PySem PySem.Spec PyProof.Rows
noncomputable def Ite (K : PySem.W.Frag) (a : Addr) : It :=
  ⟨fun i H => ∃ xs x, SqL K H a xs ∧ xs[i]? = some x,
   fun i H x H' => ∃ p u, x = .ref p ∧ H p = none ∧ H' = upd H p (.tup [.int (i : Int), u]) ∧ ∀ xs, SqL K H a xs → xs[i]? = some u,
   fun i H => ∃ xs, SqL K H a xs ∧ xs.length ≤ i⟩
structure EAt (h : Heap) (n a : Addr) (i : Nat) : Prop where
  en : ∃ old, IsEnum h (n + 1) n (i : Int) old
  it : h.IsListIter n a i
noncomputable def efp (n : Addr) : List Addr := [n + 1, n]
theorem turn_enum {P : Program} {w : World} {K : PySem.W.Frag} {els : List Expr} {x1 : Nat} {tpos : Pos} (n a : Addr) :
    Turn P w K (.Tuple els x1 tpos) (Ite K a) (efp n) (n + 1) (fun i h => EAt h n a i) where
  mem := .head _
  obj := fun i h Z b hb => by
    obtain ⟨⟨old, he⟩, oi, hi, _, di⟩ := Z
    unfold efp at hb
    simp only [List.mem_cons, List.not_mem_nil, or_false] at hb
    rcases hb with rfl | rfl
    · exact ⟨_, he, fun v z => by cases z⟩
    · exact ⟨_, hi, fun v z => by rw [di] at z; cases z⟩
  keep := fun i h h' Z k => by
    obtain ⟨⟨old, he⟩, oi, hi, r⟩ := Z
    exact ⟨⟨old, k _ (.head _) _ he⟩, oi, k _ (.tail _ (.head _)) _ hi, r⟩
  item := by
    intro X hP hw hK hc i pins s σ H E I hf Z hg
    subst hP hw hK
    obtain ⟨xs, x, q1, hx⟩ := hg
    obtain ⟨its, r1, e1⟩ := I.knd (k := .L) q1
    obtain ⟨u, hu, ru⟩ := r1.get hx
    have fl : ∀ b ∈ efp n, b < s.heap.objs.size := fun b hb => by
      obtain ⟨⟨old, he⟩, oi, hi, _⟩ := id Z
      unfold efp at hb
      simp only [List.mem_cons, List.not_mem_nil, or_false] at hb
      rcases hb with rfl | rfl
      · exact Heap.lt_size he
      · exact Heap.lt_size hi
    obtain ⟨⟨old, he⟩, hit⟩ := id Z
    refine wpAny_pyNext_enum_item he hit e1 (x := u) (by simpa using hu) (Nat.succ_ne_self n) fun h' ho hit' hT hz hk => ?_
    refine ⟨.ref s.heap.objs.size, rfl, wpAny_letOwnedTupleGo_enum (s := { s with heap := h', toks := s.toks + 1 }) ho fun h'' he'' sb => ?_⟩
    have sb : Heap.SameBut (n + 1) h' h'' := sb
    have n1 : n + 1 ∈ efp n := .head _
    have n0 : n ∈ efp n := .tail _ (.head _)
    have I1 : Inv X pins σ (upd H s.heap.objs.size (.tup [.int (i : Int), x])) { s with heap := s.heap.push { cls := .type "tuple", data := .seq #[.int i s.toks, u] }, toks := s.toks } :=
      I.laid (fun b o e => Heap.get?_push_of_some _ e) (Nat.le_refl _) ⟨by show 2 ≤ sizeLine; decide, [.int i s.toks, u], .cons ⟨_, rfl⟩ (.cons ru .nil), ⟨_, Heap.get?_push_size _ rfl, rfl, _, rfl⟩⟩
    have none' : ∀ b ∈ efp n, upd H s.heap.objs.size (.tup [.int (i : Int), x]) b = none := fun b hb => by
      rw [upd_ne (Nat.ne_of_lt (fl b hb))]; exact (hf b hb).1
    have I2 : Inv X pins σ (upd H s.heap.objs.size (.tup [.int (i : Int), x])) { s with heap := h'', toks := s.toks + 1 } := Inv.turnedL (s := { s with heap := s.heap.push { cls := .type "tuple", data := .seq #[.int i s.toks, u] }, toks := s.toks }) (fp := efp n) (t' := s.toks + 1) I1 (fun b o hb e => by
      have hb4 : b ≠ n + 1 := fun z => hb (by rw [z]; exact n1)
      have hb0 : b ≠ n := fun z => hb (by rw [z]; exact n0)
      refine sb.extBut _ _ hb4 ?_
      rcases Heap.get?_push_cases e with ⟨z, z2⟩ | e
      · rw [z, z2]; exact hT
      · exact hk b o hb4 hb0 e) fun b hb => ⟨none' b hb, (hf b hb).2⟩
    exact ⟨.ref s.heap.objs.size, _, I2, rfl, ⟨_, x, rfl, I.fresh, rfl, fun zs hz => by rw [I.knd_inj (k := .L) hz q1]; exact hx⟩, ⟨⟨_, he''⟩, hit'.extBut sb.extBut (Ne.symm (Nat.succ_ne_self n))⟩, none'⟩
  done := by
    intro X hP hw hK hc i pins s σ H E I hf Z hg
    subst hP hw hK
    obtain ⟨xs, q1, hx⟩ := hg
    obtain ⟨its, r1, e1⟩ := I.knd (k := .L) q1
    have l1 := r1.length
    obtain ⟨⟨old, he⟩, hit⟩ := id Z
    refine wpAny_pyNext_enum_end (I.ok.hd hc) he hit e1 (by simp; omega) fun h' hk => ⟨rfl, I.turnedL (fp := efp n) (t' := s.toks) (fun b o hb e => hk b o (fun z => hb (by rw [z]; exact .tail _ (.head _))) e) hf⟩
  self := fun _ _ _ _ _ Z h => by
    obtain ⟨⟨old, he⟩, _⟩ := Z
    exact wpAny_pyIter_enum he h
section
variable {X : Cx} {els : List Expr} {x1 : Nat} {tpos : Pos}
noncomputable def iEnum (K : PySem.W.Frag) (ta : TA) : TI := fun σ H R => ta σ H fun vs H1 => ∃ a, vs = [.ref a] ∧ (∃ xs, SqL K H1 a xs) ∧ R (Ite K a) H1
theorem pi_enum {a : Expr} {ta : TA} {p pos : Pos} (hg : Gl X "enumerate") (hm : X.mg "enumerate" = none) (ha : PA X [a] ta) (hs : plainE a = true := by rfl) :
    PI X (.Tuple els x1 tpos) (.Call (.Name "enumerate" p) [a] [] pos) (iEnum X.K ta) := by
  intro pins s σ H R I h
  refine wpAny_Call_Name_kw (ld_blt I hg hm PyProof.Rows.Boot.«enumerate» ?_)
  refine PyProof.Rows.callWith_type1 (thn (ha pos pins s σ H _ I h) fun us s1 h1 => ?_) (star_plain hs) (any_plain rfl)
  obtain ⟨vs, H1, I1, r, a1, rfl, ⟨xs, q1⟩, q⟩ := h1
  obtain ⟨u, rfl, ru⟩ := vals1 r
  cases ru
  obtain ⟨its, r1, e1⟩ := I1.knd (k := .L) q1
  refine call_enumerate_list e1 fun h' he hit hz hk => wpAny_pyIter_enum he ?_
  refine ⟨s1.heap.objs.size + 1, efp s1.heap.objs.size, _, _, H1, rfl, I1.kept (t' := s1.toks) hk, turn_enum _ a1, ⟨⟨_, he⟩, hit⟩, fun b hb => ?_, q⟩
  have hle : s1.heap.objs.size ≤ b := by
    unfold efp at hb
    simp only [List.mem_cons, List.not_mem_nil, or_false] at hb
    rcases hb with rfl | rfl
    · exact Nat.le_add_right _ _
    · exact Nat.le_refl _
  exact I1.fpOk hle (I1.hok.fresh hle)
end
theorem for_enum {K : PySem.W.Frag} {a : Addr} {xs : List V} {g : TG} {tb : TS} {D : Ends} {σ : St} {H : Hp} (Pv : Nat → St → Hp → Prop) (h0 : Pv 0 σ H) (hl : ∀ i σ H, Pv i σ H → SqL K H a xs)
    (hs : ∀ i x p σ H, xs[i]? = some x → Pv i σ H → H p = none → g (.ref p) σ (upd H p (.tup [.int (i : Int), x])) fun σ2 H2 => tb { D with nx := Pv (i + 1), ct := Pv (i + 1), bk := D.nx } σ2 H2)
    (hd : ∀ σ H, Pv xs.length σ H → D.nx σ H) :
    ∃ W : Nat → Nat → St → Hp → Prop, (∃ m, W 0 m σ H) ∧ ∀ i m σ H, W i m σ H →
      ((Ite K a).stop i H ∧ D.nx σ H) ∨ ((Ite K a).go i H ∧ ∃ N : St → Hp → Prop, (∀ σ' H', N σ' H' → ∃ m', m' < m ∧ W (i + 1) m' σ' H') ∧ ∀ x H', (Ite K a).yld i H x H' → g x σ H' fun σ2 H2 => tb { D with nx := N, ct := N, bk := D.nx } σ2 H2) := by
  refine ⟨fun i m σ H => m = xs.length - i ∧ i ≤ xs.length ∧ Pv i σ H, ⟨_, rfl, Nat.zero_le _, h0⟩, ?_⟩
  rintro i m σ H ⟨rfl, hi, p⟩
  have q1 := hl i σ H p
  by_cases hlt : i < xs.length
  · refine .inr ⟨⟨xs, _, q1, List.getElem?_eq_getElem hlt⟩, Pv (i + 1), fun σ' H' n => ⟨_, by omega, rfl, hlt, n⟩, fun x H' hy => ?_⟩
    obtain ⟨a, u, rfl, ha, rfl, hu⟩ := hy
    exact hs i u a σ H (hu xs q1) p ha
  · have e : i = xs.length := by omega
    subst e
    exact .inl ⟨⟨xs, q1, Nat.le_refl _⟩, hd σ H p⟩
end L2
set_option Elab.async false
set_option linter.all false
set_option maxRecDepth 100000
set_option maxHeartbeats 2000000
namespace L2
open PySem PySem.Spec PyProof.Rows
section
variable {M : Model} {A : Around} {E : Value → Shared → Prop} {s : Shared}
end
section
variable {P : Program} {w : World} {K : PySem.W.Frag} {mg : Str → Option Value} {base : Heap} {N : List Str} {qual : Str} {scope : Scope} {f : Addr} {cd : Value} {A : Around} {outer : List Env} {s s1 : Shared} {H H1 : Hp} {E : XK}
  {pins : List (Addr × Obj)} {σ : St} {hid : List Addr} {h' : Heap} {ea : Addr} {C a0 : Value}
end
section
variable {P : Program} {w : World} {K : PySem.W.Frag} {mg : Str → Option Value} {base : Heap} {N : List Str} {qual : Str} {scope : Scope} {f : Addr} {cd : Value} {A : Around} {outer : List Env} {s : Shared} {H : Hp} {E : XK}
end
section
variable {X : Cx} {pins : List (Addr × Obj)} {σ : St} {H : Hp} {s : Shared}
theorem comp_loopE {elt iter : Expr} {tg : Expr} {pos : Pos} {scope : Scope} {g : TG} {te : TE} {lv : Nat} {caps : List Nat} {N' : List Str} {fp : List Addr} {it D C : Addr} {tn : Nat → Heap → Prop} {J : It} {H3 : Hp} {s3 s4 : Shared} {Q : VK} {W : Nat → Nat → List V → Hp → Prop} {m0 : Nat}
    (hc : X.calm = true) (T : Turn X.prog X.w X.K tg J fp it tn) (hC : s3.heap.objs.size ≤ C) (I3 : Inv X pins σ H3 s3) (f3 : ∀ b ∈ fp, FpOk X pins H3 b) (hCf : ∀ b ∈ fp, b ≠ C) (I4 : Inv (X.comp scope C N' s3 H3 fp) [] (seen lv caps σ) H3 s4) (st4 : tn 0 s4.heap) (w0 : W 0 m0 [] H3)
    (turn : ∀ i m ys H, W i m ys H → H D = some (.lst ys) ∧ ys.length < sizeLine ∧ ((J.stop i H ∧ Q (.ref D) H) ∨ (J.go i H ∧ ∀ x H', J.yld i H x H' → g x (seen lv caps σ) H' fun σ2 H2 => te σ2 H2 fun v H3 => H3 D = some (.lst ys) ∧
      ∃ m', m' < m ∧ W (i + 1) m' (ys ++ [v]) (upd H3 D (.lst (ys ++ [v]))))))
    (hgk : GKeep g lv caps) (hg : PG (X.comp scope C N' s3 H3 fp) tg g) {xe : Value → Shared → Prop}
    (herr : ∀ e s', xe e s' → notedBy (model X.prog X.w) X.A (compEnvC scope (clOf scope X.env) C X.env) (fun e s' => compPost (model X.prog X.w) X.A X.xe none (EP X pins σ Q) (.ref D) C (.error e) s') e s')
    (he : PE ((X.comp scope C N' s3 H3 fp).wish xe) elt te) :
    codeAny (model X.prog X.w) X.A (.compLoop (.ListComp elt [⟨tg, iter, [], 0⟩] scope pos) 0 (.ref it) (.ref D) (compEnvC scope (clOf scope X.env) C X.env))
      (compPost (model X.prog X.w) X.A X.xe none (EP X pins σ Q) (.ref D) C) s4 := by
  have stat : ∀ {H' : Hp}, (∀ b ∈ fp, H' b = none) → ∀ b ∈ fp, FpOk (X.comp scope C N' s3 H3 fp) [] H' b := fun {H'} hn b hb =>
    ⟨hn b hb, hCf b hb, fun z => I4.ok.exfs b hb z, .inl hb, fun y c e => (I4.ok.exf b hb).2 y c e, fun p hp => absurd (show p ∈ ([] : List (Addr × Obj)) from hp) (by simp)⟩
  refine compLoop_any (fun n s' => ∃ i ys H', Inv (X.comp scope C N' s3 H3 fp) [] (seen lv caps σ) H' s' ∧ tn i s'.heap ∧ (∀ b ∈ fp, H' b = none) ∧ W i n ys H') ?_ m0 ⟨0, [], _, I4, st4, fun b hb => (f3 b hb).1, w0⟩
  rintro n s5 ⟨i, ys, H5, I5, st5, fr5, w5⟩
  obtain ⟨hD, hlen, hcase⟩ := turn i n ys H5 w5
  rcases hcase with ⟨stop, q⟩ | ⟨go, step⟩
  · refine thn (T.done (X.comp scope C N' s3 H3 fp) rfl rfl rfl hc i [] s5 _ H5 _ I5 (stat fr5) st5 stop) fun r s6 hr => ?_
    obtain ⟨hr, I6⟩ := hr
    subst hr
    obtain ⟨m, hn, _⟩ := I6.loc
    refine ⟨m, hn, fun h' hs' => ?_⟩
    have ub := I6.base
    have neC : ∀ b o, s3.heap.get? b = some o → b ≠ C := fun b o q => Nat.ne_of_lt (Nat.lt_of_lt_of_le (Heap.lt_size q) hC)
    refine ⟨.ref D, H5, I3.call' (ch := fp) (s' := { s6 with heap := h' }) I6.os ⟨fun b o q n hb hx => (hs'.2 b (neC b o q)).trans (ub.keep b o q n hb hx), fun b o q n hb hx => ?_, ub.free, fun b o q hx => ?_, ub.tups, ub.frzs, ub.tbls⟩ ?_ I6.bare (fun b hb => ?_), rfl, q⟩
    · obtain ⟨sl, e⟩ := ub.slot b o q n hb hx
      exact ⟨sl, (hs'.2 b (neC b o q)).trans e⟩
    · obtain ⟨o', e⟩ := ub.there b o q hx
      exact ⟨o', (hs'.2 b (neC b o q)).trans e⟩
    · intro b o q
      refine (I6.hok b o q).stay (fun c u hc' q' => (hs'.2 c ?_).trans q') (fun _ z => z) fun _ _ z => z
      intro ec
      have fC : H5 C = none := I6.free
      rcases hc' with z | z
      · rw [← z, ec, fC] at q; cases q
      · rw [ec, fC] at z; cases z
    · obtain ⟨_, y1, _, y3, y4, y5⟩ := f3 b hb
      exact ⟨y3, y1, y4, y5⟩
  · refine thn (T.item (X.comp scope C N' s3 H3 fp) rfl rfl rfl hc i [] s5 _ H5 _ I5 (stat fr5) st5 go) fun r s6 hr => ?_
    obtain ⟨u, hr, h6⟩ := hr
    subst hr
    refine thn h6 fun _ s7 h7 => ?_
    obtain ⟨y, H7, I7, r7, y7, st7, fr7⟩ := h7
    have I7' := I7.pinned (stat fr7) (T.obj _ _ st7)
    refine wpAny_mono (hg _ s7 _ H7 y u _ I7' r7 (hgk σ y H7 _ (step y H7 y7))) (fun _ s8 h8 => ?_) (fun _ _ z => z.elim)
    obtain ⟨σ8, H8, I8, q8, ks⟩ := h8
    refine wpAny_mono (he _ s8 σ8 H8 _ (I8.wish _) q8) (fun v s9 h9 => ?_) (fun e s9 z => herr e s9 z)
    obtain ⟨z9, H9, I9, r9, hD9, m', hm', w9⟩ := h9
    have I9 := I9.unwish
    refine wpAny_mono (mt_append (X := X.comp scope C N' s3 H3 fp) _ s9 σ8 H9 (.ref D) [z9] (.ref D) [v] (fun _ H' => H' = upd H9 D (.lst (ys ++ [z9]))) I9 rfl (.cons r9 .nil) ⟨D, ys, z9, rfl, rfl, hD9, hlen, rfl⟩) (fun _ s10 h10 => ?_) (fun _ _ z => z.elim)
    obtain ⟨_, H10, I10, _, rfl⟩ := h10
    refine ⟨m', hm', i + 1, ys ++ [z9], _, I10.unpinned.weak ?_ ?_, T.keep _ _ _ st7 fun b hb o e => (I10.pin (b, o) (List.mem_append_right _ (List.mem_append_right _ (mem_pinsAt hb e)))).1, fun b hb => ?_, w9⟩
    · rw [I10.len]; exact I4.len
    · exact ks
    · obtain ⟨o, e, d⟩ := T.obj _ _ st7 b hb
      exact (I10.pin (b, o) (List.mem_append_right _ (List.mem_append_right _ (mem_pinsAt hb e)))).2.1
theorem pe_compE {elt iter : Expr} {tg : Expr} {pos : Pos} {scope : Scope} {wi : TI} {g : TG} {te : TE} {lv : Nat} {caps : List Nat} {N' : List Str} {xe : Addr → Shared → Hp → List Addr → Value → Shared → Prop} (herr : ∀ (pins : List (Addr × Obj)) (σ : St) (H3 : Hp) (s3 : Shared) (C : Addr) (fp : List Addr) (Q : Value → Shared → Prop) (acc e : Value) (s' : Shared), Inv X pins σ H3 s3 → (∀ b ∈ fp, FpOk X pins H3 b) → s3.heap.objs.size ≤ C → xe C s3 H3 fp e s' →
      notedBy (model X.prog X.w) X.A (compEnvC scope (clOf scope X.env) C X.env) (fun e s' => compPost (model X.prog X.w) X.A X.xe none Q acc C (.error e) s') e s')
    (hc : X.calm = true) (ok : CompOk X scope lv caps N') (hgk : GKeep g lv caps) (hi : PI X tg iter wi)
    (hg : ∀ C s H fp, PG (X.comp scope C N' s H fp) tg g) (he : ∀ C s H fp, PE ((X.comp scope C N' s H fp).wish (xe C s H fp)) elt te) (hs : ∀ y, foldedSetIterable iter X.env y = pure y := by intro _; rfl) :
    PE X (.ListComp elt [⟨tg, iter, [], 0⟩] scope pos) (tComp wi g te lv caps) := by
  intro pins s σ H Q I h
  rw [eval_ListComp]
  refine wpAny_comprehension_free (use := none) rfl hs (closure_eq fun y hy hk => I.ok.has y.1 (ok.free y hy hk)) ok.kind ok.loc (thn (hi pins s σ H _ I h) fun v s1 h1 => thn h1 fun itv s2 h2 => ?_)
  obtain ⟨it, fp, tn, J, H2, e, I2, T, st2, f2, hW⟩ := h2
  subst e
  have fpl : ∀ b ∈ fp, b < s2.heap.objs.size := fun b hb => by obtain ⟨o, e, _⟩ := T.obj 0 _ st2 b hb; exact Heap.lt_size e
  refine wpAny_newObj_type ?_
  have I3 : Inv X pins σ (upd H2 s2.heap.objs.size (.lst [])) { s2 with heap := s2.heap.push { cls := .type "list", data := .seq ([] : List Value).toArray }, toks := s2.toks } := I2.lnew (its := []) .nil (Nat.zero_le _)
  obtain ⟨W, ⟨m0, w0⟩, turn⟩ := hW s2.heap.objs.size I2.fresh
  refine wpAny_newFunctionEnv ok.cell (by intro y hy; simp at hy) (fun h₁ hns₁ hsb₁ => ?_) ok.kind
  have hk3 : ∀ b o, (s2.heap.push { cls := .type "list", data := .seq ([] : List Value).toArray }).get? b = some o → h₁.get? b = some o := fun b o q =>
    (hsb₁.2 b (Nat.ne_of_lt (Heap.lt_size q))).trans (Heap.get?_push_of_some _ q)
  have f3 : ∀ b ∈ fp, FpOk X pins (upd H2 s2.heap.objs.size (.lst [])) b := fun b hb => by
    obtain ⟨n, r⟩ := f2 b hb
    exact ⟨by rw [upd_ne (Nat.ne_of_lt (fpl b hb))]; exact n, r⟩
  have fpl3 : ∀ b ∈ fp, b < (s2.heap.push { cls := .type "list", data := .seq ([] : List Value).toArray }).objs.size := fun b hb => by rw [Heap.size_push]; exact Nat.lt_succ_of_lt (fpl b hb)
  have I4 := inv_comp ok I3 f3 hns₁ hk3 fpl3 (s2.toks + 0)
  have st4 : tn 0 h₁ := T.keep _ _ _ st2 fun b hb o q => hk3 b o (Heap.get?_push_of_some _ q)
  have loop := comp_loopE (elt := elt) (iter := iter) (pos := pos) (s4 := { s2 with heap := h₁, toks := s2.toks + 0 }) hc T (Nat.le_refl _) I3 f3 (fun b hb => Nat.ne_of_lt (fpl3 b hb)) I4 st4 w0 turn hgk (hg _ _ _ _) (fun e s' z => herr _ _ _ _ _ _ _ _ e s' I3 f3 (Nat.le_refl _) z) (he _ _ _ _)
  exact codeAny_compStart_list loop (T.self _ 0 _ _ _ st4 loop)
theorem pe_comp {elt iter : Expr} {tg : Expr} {pos : Pos} {scope : Scope} {wi : TI} {g : TG} {te : TE} {lv : Nat} {caps : List Nat} {N' : List Str} (hc : X.calm = true) (ok : CompOk X scope lv caps N') (hgk : GKeep g lv caps) (hi : PI X tg iter wi)
    (hg : ∀ C s H fp, PG (X.comp scope C N' s H fp) tg g) (he : ∀ C s H fp, PE (X.comp scope C N' s H fp) elt te) (hs : ∀ y, foldedSetIterable iter X.env y = pure y := by intro _; rfl) :
    PE X (.ListComp elt [⟨tg, iter, [], 0⟩] scope pos) (tComp wi g te lv caps) :=
  pe_compE (xe := fun _ _ _ _ _ _ => False) (fun _ _ _ _ _ _ _ _ _ _ _ _ _ z => z.elim) hc ok hgk hi hg he hs
end
section
variable {K : PySem.W.Frag} {g : TG} {te : TE} {σ0 : St} {H1 : Hp} {Q : VK}
end
end L2
set_option Elab.async false
set_option linter.all false
set_option maxRecDepth 100000
set_option maxHeartbeats 2000000
namespace L2
open PySem PySem.Spec PyProof.Rows
section
variable {X : Cx}
theorem count_eqU {x : V} : ∀ {xs : List V} {us : List Value}, Vals xs us → xs.all flatV = true → us.countP (eqU x) = xs.countP fun y => eqV y x
  | _, _, .nil, _ => rfl
  | y :: xs, u :: us, .cons r t, f => by
    rw [List.all_cons, Bool.and_eq_true] at f
    rw [List.countP_cons, List.countP_cons, eqU_of r f.1, count_eqU t f.2]
noncomputable def rCount : V → List V → Hp → VK → Prop := fun x vs H Q => ∃ l xs y, x = .ref l ∧ vs = [y] ∧ H l = some (.lst xs) ∧ flatV y = true ∧ xs.all flatV = true ∧ Q (.int (xs.countP fun z => eqV z y : Nat)) H
theorem mt_count : MtM X "list.count" rCount := by
  intro pins s σ H x vs v us Q I rx rv h
  obtain ⟨l, xs, y, rfl, rfl, hH, fy, fs, q⟩ := h
  cases rx
  obtain ⟨u, rfl, ru⟩ := rv.one
  obtain ⟨z, its, n, r, hl, e⟩ := I.lstM hH
  refine call_meets F.slot_list_count ⟨_, e, rfl⟩ F.entry_list_count (F.args_list_count_2 _ _) (SeqAt.list_countAt l its.toArray n none #[] u (eqU y)) ⟨e, fun w hw => mem_eqAt ru fy r fs w (by simpa using hw), ?_⟩
  refine ⟨.int _, H, I.tok _, ⟨_, rfl⟩, ?_⟩
  rw [show its.toArray.toList.countP (eqU y) = its.countP (eqU y) by simp, count_eqU r fs]
  exact q
noncomputable def rIndex : V → List V → Hp → VK → Prop := fun x vs H Q => ∃ l xs y, ∃ j : Nat, x = .ref l ∧ vs = [y] ∧ H l = some (.lst xs) ∧ flatV y = true ∧ xs.all flatV = true ∧ (∃ z, xs[j]? = some z ∧ eqV z y = true) ∧ (∀ (m : Nat) z, m < j → xs[m]? = some z → eqV z y = false) ∧ Q (.int j) H
theorem mt_index : MtM X "list.index" rIndex := by
  intro pins s σ H x vs v us Q I rx rv h
  obtain ⟨l, xs, y, j, rfl, rfl, hH, fy, fs, ⟨zj, hj, ej⟩, no, q⟩ := h
  cases rx
  obtain ⟨u, rfl, ru⟩ := rv.one
  obtain ⟨z, its, n, r, hl, e⟩ := I.lstM hH
  have fl : ∀ (m : Nat) zz, xs[m]? = some zz → flatV zz = true := fun m zz hm => List.all_eq_true.mp fs zz (List.mem_of_getElem? hm)
  obtain ⟨uj, huj, rj⟩ := r.get hj
  have hlt : j < its.toArray.size := by rw [List.size_toArray]; exact (List.getElem?_eq_some_iff.mp huj).1
  have hj' := (List.getElem?_eq_some_iff.mp hj).1
  have h63 : (j : Int) < 2 ^ 63 - 1 := by
    have h2 : (sizeLine : Int) < 2 ^ 63 - 1 := by decide
    omega
  refine call_meets F.slot_list_index ⟨_, e, rfl⟩ F.entry_list_index (F.args_list_index_2 _ _) (SeqAt.list_indexAt l its.toArray n none #[] u (eqU y) j hlt h63 ?_ ?_) ⟨e, fun w hw => mem_eqAt ru fy r fs w (by simpa using hw), ?_⟩
  · have e1 : its.toArray[j] = uj := by simpa using (List.getElem?_eq_some_iff.mp huj).2
    rw [e1, eqU_of rj (fl j zj hj)]; exact ej
  · intro m hm hmj
    have hm' : m < xs.length := by rw [hl]; simpa using hm
    obtain ⟨um, hum, rm⟩ := r.get (List.getElem?_eq_getElem hm')
    have e1 : its.toArray[m] = um := by simpa using (List.getElem?_eq_some_iff.mp hum).2
    rw [e1, eqU_of rm (fl m _ (List.getElem?_eq_getElem hm'))]; exact no m _ hmj (List.getElem?_eq_getElem hm')
  · exact ⟨.int j, H, I.tok _, ⟨_, rfl⟩, q⟩
noncomputable def rIsiT (K : PySem.W.Frag) : List V → Hp → VK → Prop := fun xs H Q => ∃ x t p, ∃ cs : List String, ∃ b, xs = [x, .ref p] ∧ TyOf K H x t ∧ H p = some (.tup (cs.map V.ty)) ∧ PySem.W.kitAny K t (cs.map Value.type) = some b ∧ Q (.bl b) H
theorem vals_ty : ∀ {cs : List String} {us : List Value}, Vals (cs.map V.ty) us → us = cs.map Value.type
  | [], _, .nil => rfl
  | c :: r, _, .cons rx t => by
    have : _ = Value.type c := rx
    rw [this, vals_ty t]; rfl
theorem isi_tup {pins : List (Addr × Obj)} {σ : St} {H : Hp} {s : Shared} {A : Around} {E : Value → Shared → Prop} {Q : Value → Shared → Prop} {x : V} {u t : Value} {p : Addr} {cs : List String} {b : Bool} (I : Inv X pins σ H s) (rx : RelV x u) (ty : TyOf X.K H x t) (hp : H p = some (.tup (cs.map V.ty)))
    (e : PySem.W.kitAny X.K t (cs.map Value.type) = some b) (h : ∀ tk, Q (.bool b) { s with toks := tk }) : wpAny (model X.prog X.w) A (call (.builtin "isinstance") [u, .ref p]) Q E s := by
  obtain ⟨_, its, rv, o, ho, hc, n, hd⟩ := (show ObjOk X.prog X.w H s.heap p (.tup (cs.map V.ty)) from I.hok p _ hp)
  obtain ⟨oc, od, odt, osl⟩ := o
  have hc : oc = .type "tuple" := hc
  have hd : odt = .seq its.toArray n := hd
  subst hc hd
  rw [vals_ty rv] at ho
  cases ty with
  | non => cases (show u = Value.none from rx); exact PySem.W.kia_tup PySem.W.kitx_none I.kIn True.intro ho e (fun z => nomatch z) h
  | bl y => cases (show u = Value.bool y from rx); exact PySem.W.kia_tup PySem.W.kitx_bool I.kIn True.intro ho e (fun z => nomatch z) h
  | int i => obtain ⟨t, q⟩ := (show ∃ t, u = Value.int i t from rx); cases q; exact PySem.W.kia_tup PySem.W.kitx_int I.kIn True.intro ho e (fun z => nomatch z) h
  | str y => obtain ⟨t, q⟩ := (show ∃ t, u = Value.str y t from rx); cases q; exact PySem.W.kia_tup PySem.W.kitx_str I.kIn True.intro ho e (fun z => nomatch z) h
  | flt y => obtain ⟨t, q⟩ := (show ∃ t, u = Value.float y t from rx); cases q; exact PySem.W.kia_tup PySem.W.kitx_float I.kIn True.intro ho e (fun z => nomatch z) h
  | @lst a xs ea =>
    cases (show u = Value.ref a from rx)
    obtain ⟨_, _, n, _, h1⟩ := (show ObjOk X.prog X.w H s.heap a (.lst xs) from I.hok a _ ea)
    exact PySem.W.kia_tup PySem.W.kitx_list I.kIn ⟨_, h1, rfl⟩ ho e (fun z => nomatch z) h
  | @frz a ob xs ea =>
    cases (show u = Value.ref a from rx)
    obtain ⟨_, _, _, n, _, h1⟩ := (show ObjOk X.prog X.w H s.heap a (.frz ob (.lst xs)) from I.hok a _ ea)
    exact PySem.W.kia_tup PySem.W.kitx_list I.kIn ⟨_, h1, rfl⟩ ho e (fun z => nomatch z) h
  | @tup a xs ea =>
    cases (show u = Value.ref a from rx)
    obtain ⟨_, _, _, p⟩ := (show ObjOk X.prog X.w H s.heap a (.tup xs) from I.hok a _ ea)
    obtain ⟨o, h1, h2, _⟩ := p
    exact PySem.W.kia_tup PySem.W.kitx_tuple I.kIn ⟨o, h1, h2⟩ ho e (fun z => nomatch z) h
  | @dK a kvs ea =>
    cases (show u = Value.ref a from rx)
    obtain ⟨_, _, vs, _, p⟩ := (show ObjOk X.prog X.w H s.heap a (.dK kvs) from I.hok a _ ea)
    obtain ⟨o, es, ep, h1, h2, _⟩ := p
    exact PySem.W.kia_tup PySem.W.kitx_dict I.kIn ⟨o, h1, h2.1⟩ ho e (fun z => nomatch z) h
  | @dT a kvs ea =>
    cases (show u = Value.ref a from rx)
    obtain ⟨_, _, xs, _, o, es, ep, h1, h2, _⟩ := (show ObjOk X.prog X.w H s.heap a (.dT kvs) from I.hok a _ ea)
    exact PySem.W.kia_tup PySem.W.kitx_dict I.kIn ⟨o, h1, h2.1⟩ ho e (fun z => nomatch z) h
  | @ins a C dx fs ea cl ha hn htk hm =>
    cases (show u = Value.ref a from rx)
    obtain ⟨mA, O, _⟩ := ins_get I.hok ea
    obtain ⟨od, J, _⟩ := O.look
    exact PySem.W.kia_tup (PySem.W.kitx_own (cl.get _) cl.hd ha hn htk hm) I.kIn J ho e (fun z => nomatch z) h
theorem call_isiT : CallR X (.builtin "isinstance") (rIsiT X.K) := by
  intro pins s σ H xs us Q I r h
  obtain ⟨x, t, p, cs, b, rfl, ty, hp, e, q⟩ := h
  obtain ⟨u, v, rfl, rx, rc⟩ := vals2 r
  cases rc
  exact isi_tup I rx ty hp e fun tk => ⟨.bl b, H, I.tok _, rfl, q⟩
end
end L2
set_option Elab.async false
set_option linter.all false
set_option maxRecDepth 100000
set_option maxHeartbeats 2000000
namespace L2
open PySem PySem.Spec PyProof.Rows
structure RoomM (k : Nat) (A : Around) : Prop where
  dp : A.depth + 3 * k + 5 < recursionLimit
  un : A.units + 16 * k + 200 < cLine
theorem RoomM.mono {j k : Nat} {A : Around} (r : RoomM k A) (h : j ≤ k) : RoomM j A := ⟨by have := r.dp; omega, by have := r.un; omega⟩
theorem RoomM.deeper {k : Nat} {A : Around} (r : RoomM (k + 1) A) (env : Env) : RoomM k (A.deeper env) := ⟨by have := r.dp; show A.depth + 1 + 3 * k + 5 < _; omega, by have := r.un; show A.units + 3 + 16 * k + 200 < _; omega⟩
theorem RoomM.depth {k : Nat} {A : Around} (r : RoomM k A) : A.depth < recursionLimit := by have := r.dp; omega
theorem Room.marked {k : Nat} {A : Around} (r : Room k A) (e : Option Value) : RoomM k (A.mark e) := ⟨r.dp, r.un⟩
noncomputable abbrev Cx.rough (X : Cx) : Cx := { X with calm := false }
structure FnOkM (P : Program) (w : World) (K : PySem.W.Frag) (mg : Str → Option Value) (base : Heap) (k : Nat) (f : Addr) (fd : FuncData) (ps : List Str) (sp : Sp) : Prop where
  len : ∀ vs H Q E, sp vs H Q E → vs.length = ps.length
  run : ∀ (A : Around) (outer : List Env) (s : Shared) (H : Hp) (args : Args) (us : List Value) (vs : List V) (Q : VK), RoomM k A → Env0 P w K mg base A outer s H → BindsTo s fd args (ps.zip us) → Vals vs us → sp vs H Q E0 →
    codeAny (model P w) A (.call (.ref f) args) (CR (CX1 P w) outer P w H s Q E0) s
theorem inv_startM {CX : CXT} {P : Program} {w : World} {K : PySem.W.Frag} {mg : Str → Option Value} {base : Heap} {N ps : List Str} {qual : Str} {scope : Scope} {f : Addr} {cd : Value} {A : Around} {outer : List Env} {s s1 : Shared} {H : Hp} {E : XK} {us : List Value} {vs : List V}
    (S : FnScope N ps scope) (e0 : Env0 P w K mg base A outer s H) (hl : vs.length = ps.length) (r : Vals vs us)
    (x : InCallC s s.heap.objs.size (bindL (envOfC qual scope s.heap.objs.size f cd).kindOf (ps.zip us) fun _ => none) (cellsFrom (s.heap.objs.size + 1) scope.names []) (bindC (envOfC qual scope s.heap.objs.size f cd).kindOf (ps.zip us) fun _ => none) s1) :
    Inv (cxOf CX P w K mg base N qual scope f cd A outer s H E).rough [] (start N vs) H s1 := by
  have I : Inv (cxOf CX P w K mg base N qual scope f cd { A with handled := none } outer s H E) [] (start N vs) H s1 := inv_start (A := { A with handled := none }) S rfl ⟨e0.frames, e0.mod, e0.bs, e0.bsz, e0.funs, e0.frf, e0.hok, e0.bare⟩ hl r x
  exact ⟨⟨I.ok.mod, I.ok.kind, I.ok.glob, I.ok.blt, I.ok.above, I.ok.inj, I.ok.has, I.ok.cab, (fun z => nomatch z), Around.frames_deeper e0.frames, I.ok.stk, I.ok.exf, I.ok.bs, I.ok.bsz, I.ok.noex, I.ok.exfs, I.ok.funs, I.ok.frf⟩, I.os, I.bare, I.base, I.loc, I.cell, I.free, I.freeC, I.pin, I.hok, I.len⟩
theorem fn_ofM {P : Program} {w : World} {K : PySem.W.Frag} {mg : Str → Option Value} {base : Heap} {k : Nat} {f : Addr} {name qual : Str} {params : Arguments} {body : List Stmt} {scope : Scope} {dV kV doc pm cdv ct oc : Value} {an od : Option Addr}
    {osl : Array (Option Value)} {N ps : List Str} {sp : Sp} (lk : K.lookup f = some ⟨oc, od, .func (PySem.W.fnOf name qual params body scope dV kV doc pm an cdv ct), osl⟩) (hcd : PySem.W.codeIn K cdv qual = true) (S : FnScope N ps scope)
    (len : ∀ vs H Q E, sp vs H Q E → vs.length = ps.length)
    (hbody : ∀ (A : Around) (outer : List Env) (s : Shared) (H : Hp) (vs : List V) (Q : VK), RoomM k (A.deeper (envOfC qual scope s.heap.objs.size f cdv)) → sp vs H Q E0 →
      ∃ t, PSs (cxOf (CX1 P w) P w K mg base N qual scope f cdv A outer s H E0).rough body t ∧ t { nx := fun _ H' => Q .non H', rt := Q } (start N vs) H) :
    FnOkM P w K mg base (k + 1) f (PySem.W.fnOf name qual params body scope dV kV doc pm an cdv ct) ps sp := by
  refine ⟨len, fun A outer s H args us vs Q hr e0 hb r hsp => ?_⟩
  have hl := len _ _ _ _ hsp
  have KX : K.In s.heap := e0.mod.kin.keeps fun b o e => (e0.bs b o e).1
  have lim : s.heap.NoLimit := e0.mod.nolimit.keeps fun b o e => (e0.bs b o e).1
  have hkind : ∀ y ∈ ps.zip us, scope.names.lookup y.1 = some .local ∨ (scope.names.lookup y.1 = some .cell ∧ ((cellsFrom (s.heap.objs.size + 1) scope.names []).lookup y.1).isSome = true) := fun ⟨n, v⟩ hy => by
    rcases S.par n (List.of_mem_zip hy).1 with q | q
    · exact .inl q
    · exact .inr ⟨q, PySem.W.cellsFrom_some _ _ _ (.inl q)⟩
  refine codeAny_call_function hr.depth (KX _ _ lk) rfl S.co S.gen rfl (PySem.W.codeRec_of KX hcd) (hb _ _ _ _ ?_)
  refine wpAny_newFunctionEnv_cells S.kind hkind fun env he s1 x => ?_
  subst he
  refine ⟨lim.keeps x.toInCall.keep, codeAny_func ?_⟩
  obtain ⟨t, ht, hq⟩ := hbody A outer s H vs Q (hr.deeper _) hsp
  have I : Inv (cxOf (CX1 P w) P w K mg base N qual scope f cdv A outer s H E0).rough [] (start N vs) H s1 := inv_startM S e0 hl r x
  refine wpAny_mono (ht [] s1 (start N vs) H _ I hq) (fun fl s' hs => ?_) fun e s' hs => hs
  have fin : ∀ {σ' : St} {H' : Hp} {v : V} {u : Value}, Inv (cxOf (CX1 P w) P w K mg base N qual scope f cdv A outer s H E0).rough [] σ' H' s' → RelV v u → Q v H' → CE outer P w H s Q u s' :=
    fun {σ' H' v u} J rv q => ⟨v, H', J.os, J.bare, J.base, J.hok, rv, q⟩
  cases fl with
  | ret u =>
    obtain ⟨v, σ', H', J, rv, q⟩ := hs
    exact fin J rv q
  | next =>
    obtain ⟨σ', H', J, q⟩ := hs
    exact fin (v := V.non) (u := Value.none) J rfl q
  | brk =>
    obtain ⟨_, _, _, q⟩ := hs
    exact False.elim q
  | cont =>
    obtain ⟨_, _, _, q⟩ := hs
    exact False.elim q
structure FnM (P : Program) (w : World) (K : PySem.W.Frag) (mg : Str → Option Value) (base : Heap) (x : Str) (ps : List Str) (k : Nat) (sp : Sp) : Prop where
  ex : ∃ f fd, FnOkM P w K mg base k f fd ps sp ∧ mg x = some (.ref f) ∧ PySem.W.keepIn K (.ref f) = true ∧ Binds K fd ps []
section
variable {P : Program} {w : World} {K : PySem.W.Frag} {mg : Str → Option Value} {base : Heap}
theorem Def.okM {x : Str} {st : Stmt} {N ps : List Str} {k : Nat} {sp : Sp} (D : Def K mg x st) (S : FnScope N ps (defScope st)) (B : BindsAll x st ps) (len : ∀ vs H Q E, sp vs H Q E → vs.length = ps.length)
    (hbody : ∀ (f : Addr) (cdv : Value) (A : Around) (outer : List Env) (s : Shared) (H : Hp) (vs : List V) (Q : VK), RoomM k (A.deeper (envOfC x (defScope st) s.heap.objs.size f cdv)) → sp vs H Q E0 →
      ∃ t, PSs (cxOf (CX1 P w) P w K mg base N x (defScope st) f cdv A outer s H E0).rough (defBody st) t ∧ t { nx := fun _ H' => Q .non H', rt := Q } (start N vs) H) : FnM P w K mg base x ps (k + 1) sp := by
  obtain ⟨f, fd, F, hm⟩ := D.ex
  have kp := F.kp
  have bd := F.binds B
  obtain ⟨oc, od, kV, doc, pm, an, cdv, ct, osl, rfl, lk, hcd⟩ := F.ex
  exact ⟨f, _, fn_ofM lk hcd S len fun A outer s H vs Q hr hsp => hbody f cdv A outer s H vs Q hr hsp, hm, kp, bd⟩
end
section
variable {X : Cx}
theorem cFnM {x : Str} {p pos : Pos} {e : Expr} {es : List Expr} {t : TA} {ps : List Str} {k k' : Nat} {sp : Sp} (F : FnM X.prog X.w X.K X.mg X.base x ps k' sp) (hr : RoomM k X.A) (ha : PA X (e :: es) t) (hkk : k' ≤ k := by decide) (hg : Gl X x := by rfl)
    (hs : plainE e = true := by rfl) (hp : es.all plainE = true := by rfl) (hdb : (x == ("__debug__" : Str)) = false := by decide) : PE X (.Call (.Name x p) (e :: es) [] pos) (tCall sp [] E0 t) := by
  obtain ⟨f, fd, F, hm, hk, hb⟩ := F.ex
  intro pins s σ H Q I h
  refine wpAny_Call_Name_kw (ld_glob I hg hm ?_ hdb)
  refine PySem.W.callWith_K (h₀ := X.base) I.ok.mod.kin hk (thn (ha pos pins s σ H _ I h) fun us s1 ⟨vs, H1, I1, r, q⟩ => ⟨I1.kIn, ?_⟩) (star_plain hs) (any_plain hp)
  have r2 : Vals (vs ++ []) (us ++ []) := r.append .nil
  have hl : (us ++ []).length = ps.length := by rw [← r2.length]; exact F.len _ _ _ _ q
  refine wpAny_call (codeAny_mono (F.run X.A X.stack s1 H1 ⟨us, []⟩ (us ++ []) (vs ++ []) Q (hr.mono hkk) I1.env0 (hb s1 us I1.kIn hl) r2 q) fun r s' hq => ?_)
  cases r with
  | error e =>
    obtain ⟨_, _, _, _, _, _, _, _, _, z⟩ := (show CX1 X.prog X.w X.stack H1 s1 E0 e s' from hq)
    exact z.elim
  | ok fl =>
    cases fl with
    | ret u => exact I1.after hq
    | next => exact False.elim hq
    | brk => exact False.elim hq
    | cont => exact False.elim hq
end
noncomputable def exPhi (ea C : Addr) : Heap → Prop := fun h => ∃ o vs, h.get? ea = some o ∧ o.cls = .ref C ∧ o.data = .fields vs
theorem exPhi_keep {ea C : Addr} : ∀ h1 h2 : Heap, exPhi ea C h1 → (∀ o, h1.get? ea = some o → h2.get? ea = some o) → exPhi ea C h2 := fun _ _ ⟨o, vs, e, c, d⟩ k => ⟨o, vs, k o e, c, d⟩
section
variable {X : Cx} {pins : List (Addr × Obj)} {σ : St} {H : Hp} {s : Shared} {ea C : Addr}
theorem Inv.track (I : Inv X pins σ H s) (n : H ea = none) (p : exPhi ea C s.heap) (h0 : X.s₀.heap.get? ea = none) (h1 : ea ≠ X.env.locals) (h2 : ∀ x c, X.env.cells.lookup x = some c → c ≠ ea) (h3 : ∀ p ∈ X.pn ++ pins, p.1 ≠ ea) :
    Inv X pins σ (upd H ea (.ext (exPhi ea C))) s := by
  have keep : ∀ {b : Addr} {o : HO}, H b = some o → upd H ea (.ext (exPhi ea C)) b = some o := fun {b o} e => by rw [upd_ne (by rintro rfl; rw [n] at e; cases e)]; exact e
  have none' : ∀ {b : Addr}, b ≠ ea → H b = none → upd H ea (.ext (exPhi ea C)) b = none := fun {b} hb e => by rw [upd_ne hb]; exact e
  refine ⟨I.ok, I.os, I.bare, ⟨I.base.keep, I.base.slot, fun b o q z hx => ?_, I.base.there, fun b xs e => keep (I.base.tups b xs e), fun b o u e => keep (I.base.frzs b o u e), fun b ps e => ?_⟩, I.loc, I.cell, none' (Ne.symm h1) I.free, fun x c e => none' (h2 x c e) (I.freeC x c e), fun p hp => ?_, fun b o e => ?_, I.len⟩
  · exact none' (by rintro rfl; rw [h0] at q; cases q) (I.base.free b o q z hx)
  · obtain ⟨m, q⟩ := I.base.tbls b ps e
    exact ⟨m, keep q⟩
  · obtain ⟨e, z, r⟩ := I.pin p hp
    exact ⟨e, none' (h3 p hp) z, r⟩
  · by_cases hb : b = ea
    · subst hb
      rw [upd_same] at e; cases e
      obtain ⟨o, vs, q, _⟩ := id p
      exact ⟨p, ⟨o, q⟩, exPhi_keep⟩
    · rw [upd_ne hb] at e
      exact (I.hok b o e).stay (fun c v _ q => q) (fun c q => keep q) fun c xs q => keep q
theorem forget_ok {M : Model} {A : Around} {E : Value → Shared → Prop} {i : Nat} {x : Str} {pos : Pos} {Q : Unit → Shared → Prop} (I : Inv X pins σ H s) (hN : X.N.Nodup) (hi : X.N[i]? = some x) (hx : X.env.scope.names.lookup x = some .local)
    (h : ∀ s', Inv X pins (σ.set i none) H s' → Q () s') : wpAny M A (do bindName X.env x .none; unbindBehindTheSuite X.env x pos) Q E s := by
  obtain ⟨m, hn, hl⟩ := id I.loc
  have hcls : (X.env.scope.kind == .class || (X.env.scope.kind == .module && X.env.locals != X.env.globals)) = false := by rw [I.ok.kind]; rfl
  have hiσ : i < σ.length := by rw [I.len]; exact (List.getElem?_eq_some_iff.mp hi).1
  have cne := I.cne
  obtain ⟨oL, _, _, hoL, _⟩ := id hn
  refine wpAny_nameGoes_keeps hx hn hcls fun h' v hn' hs => ?_
  have hs : Heap.SameBut X.env.locals s.heap h' := hs
  refine h _ ⟨I.ok, I.os, I.bare, ⟨fun b o e n hb hx => ?_, fun b o e n hb hx => ?_, I.base.free, fun b o e hx => ?_, I.base.tups, I.base.frzs, I.base.tbls⟩, ⟨_, hn', fun j y v' e1 e2 e3 => ?_⟩, fun y c e => ?_, I.free, I.freeC, fun p hp => ?_, fun b ob e => ?_, by simpa using I.len⟩
  · exact (hs.2 b (Nat.ne_of_lt (Nat.lt_of_lt_of_le (Heap.lt_size e) I.ok.above))).trans (I.base.keep b o e n hb hx)
  · obtain ⟨sl, e1⟩ := I.base.slot b o e n hb hx
    exact ⟨sl, (hs.2 b (Nat.ne_of_lt (Nat.lt_of_lt_of_le (Heap.lt_size e) I.ok.above))).trans e1⟩
  · obtain ⟨o', e1⟩ := I.base.there b o e hx
    exact ⟨o', (hs.2 b (Nat.ne_of_lt (Nat.lt_of_lt_of_le (Heap.lt_size e) I.ok.above))).trans e1⟩
  · by_cases hj : j = i
    · subst hj
      rw [List.getElem?_set_self hiσ] at e2
      cases e2
    · rw [List.getElem?_set_ne (Ne.symm hj)] at e2
      obtain ⟨u', r', q⟩ := hl j y v' e1 e2 e3
      refine ⟨u', r', ?_⟩
      rcases q with ⟨k, e⟩ | ⟨k, c, e, z⟩
      · refine .inl ⟨k, ?_⟩
        have : y ≠ x := fun e => hj (nodup_ix hN e1 (e ▸ hi))
        simp [this, e]
      · exact .inr ⟨k, c, e, z.sameBut hs (cne y c e)⟩
  · obtain ⟨w', z⟩ := I.cell y c e
    exact ⟨w', z.sameBut hs (cne y c e)⟩
  · obtain ⟨e, n, ne, nf, d⟩ := I.pin p hp
    exact ⟨(hs.2 p.1 ne).trans e, n, ne, nf, d⟩
  · refine (I.hok b ob e).stay (fun c w' hc q => (hs.2 c ?_).trans q) (fun _ q => q) fun _ _ q => q
    rintro rfl
    rcases hc with rfl | hc
    · rw [I.free] at e; cases e
    · rw [I.free] at hc; cases hc
end
noncomputable def Ends.less (D : Ends) (i : Nat) : Ends := { nx := fun σ H => D.nx (σ.set i none) H, rt := D.rt, bk := fun σ H => D.bk (σ.set i none) H, ct := fun σ H => D.ct (σ.set i none) H }
noncomputable def hAs (K : PySem.W.Frag) (C1 : Addr) (i : Nat) (ts : TS) (tr : TH) : TH := fun C D σ H => (PySem.W.exmOne K C (.ref C1) = some true ∧ ∃ c, C = .ref c ∧ ∀ ea, H ea = none → ts (D.less i) (σ.set i (some (.ref ea))) (upd H ea (.ext (exPhi ea c)))) ∨ (PySem.W.exmOne K C (.ref C1) = some false ∧ tr C D σ H)
section
variable {X : Cx}
theorem ph_as {x n : Str} {i : Nat} {np pos : Pos} {b₀ : Stmt} {suite : List Stmt} {rest : List ExceptHandler} {C1 : Addr} {ts : TS} {tr : TH} (O : Own X) (hm : X.mg x = some (.ref C1)) (hN : X.N.Nodup) (hi : X.N[i]? = some n) (hl : X.env.scope.names.lookup n = some .local)
    (hb : ∀ ea, PSs (X.mark ea).nox (b₀ :: suite) ts) (hr : PH X rest tr) (hg : Gl X x := by rfl) (hdb : (x == ("__debug__" : Str)) = false := by decide) :
    PH X (.ExceptHandler (some (.Name x np)) (some n) (b₀ :: suite) pos :: rest) (hAs X.K C1 i ts tr) := by
  intro pins s σ H D ea C I f h
  have hcls : ∃ oe, s.heap.get? ea = some oe ∧ oe.cls = C := by
    obtain ⟨oe, vs, T, oT, ts, a0, he, hc, _⟩ := f
    exact ⟨oe, he, hc⟩
  obtain ⟨oe, he, hc⟩ := hcls
  subst hc
  refine wpAny_handleBy_cons (codeAny_handlers_test (ld_glob (X := X.mark ea) (I.mark ea) hg hm ?_ hdb)) (by intro q; cases q)
  have LT : PySem.W.Looks (model X.prog X.w) s.heap (typeOf (.ref ea)) oe.cls := (PySem.W.Looks.ld he).andThen .now
  rcases h with ⟨hx, c, hc, h⟩ | ⟨hx, h⟩
  · refine (PySem.W.exm_one I.kIn LT hx).here ?_
    refine codeAny_handlers_suite_as (land_fly O I f fun h' I' f' => ?_)
    obtain ⟨oe', vs, T, oT, ts', a0, he', hc', h0, hd, h1, hne, hT, hdT, h3, n1, n2, hb'⟩ := f'
    obtain ⟨y1, y2, y3, y4⟩ := hb' ea (.inl rfl)
    have It := I'.track (C := c) n1 ⟨oe', vs, he', by rw [hc', hc], hd⟩ y1 y2 y3 y4
    refine store_ok (X := X) It hN hi (.inl hl) (v := .ref ea) rfl (fun s2 I2 => ?_) (.inr hl)
    refine wpAny_mono (hb ea pins s2 _ _ (D.less i) ((I2.mark ea).wish _) (h ea n1)) (fun fl s3 q => ?_) (fun _ _ z => z.elim)
    have q := SP.unmark I.ok (SP.unwish q)
    cases fl with
    | next => obtain ⟨σ', H', J, q⟩ := q; exact forget_ok J hN hi hl fun s4 J' => ⟨_, H', J', q⟩
    | brk => obtain ⟨σ', H', J, q⟩ := q; exact forget_ok J hN hi hl fun s4 J' => ⟨_, H', J', q⟩
    | cont => obtain ⟨σ', H', J, q⟩ := q; exact forget_ok J hN hi hl fun s4 J' => ⟨_, H', J', q⟩
    | ret u => obtain ⟨v, σ', H', J, r, q⟩ := q; exact forget_ok J hN hi hl fun s4 J' => ⟨v, _, H', J', r, q⟩
  · exact (PySem.W.exm_one I.kIn LT hx).here (hr pins s σ H D ea _ I f h)
end
end L2
set_option Elab.async false
set_option linter.all false
set_option maxRecDepth 100000
set_option maxHeartbeats 2000000
namespace L2
open PySem PySem.Spec PyProof.Rows Builtin Builtin.ObjectAttr Builtin.Getset_descriptor
section
variable {prog : Program} {w : World} {A : Around} {E : Value → Shared → Prop} {s : Shared} {K : PySem.W.Frag} {ea C : Addr} {oe : Obj} {R : Result → Shared → Prop}
theorem exc_get {tp : Value} (X : K.In s.heap) (he : s.heap.get? ea = some oe) (hc : oe.cls = .ref C) (hm : PySem.W.mroIn K C (.type "object") = some true) (h : R (.ok (.ret (.ref C))) s) :
    codeAny (model prog w) A (.call (.builtin "getset_descriptor.__get__") ⟨[.builtin "object.__class__", .ref ea, tp], []⟩) R s := by
  obtain ⟨hh, g, dr, t, os⟩ := s
  have L0 : PySem.W.Looks (model prog w) hh (typeOf (.ref ea)) (.ref C) := hc ▸ (PySem.W.Looks.ld he).andThen .now
  have L1 := PySem.W.looks_mroIn (M := model prog w) X hm
  refine codeAny_call_builtin PySem.W.KF.slot_gs.plain PySem.W.KF.entry_gs (PySem.W.KF.slot_gs.check _ _ _ _ _ _ _ _ PySem.W.KF.type_class (PySem.W.KF.args_gs _ _ _) ?_)
  unfold Builtin.«getset_descriptor.__get__» descrGet; rw [PySem.W.dga_obj]; refine wpAny_bind (wpAny_pure ?_); unfold descrGetter descrCheckInstance descrNameAndClass isInstance
  simp only [PySem.W.KF.owner_class]; repeat lk
  refine ⟨Code.quiet_builtin _ (by decide +kernel), codeAny_builtin PySem.W.KF.entry_class ?_⟩; unfold Builtin.«object.__class__» shownTypeOf; repeat lk
  exact h
structure ExcC (K : PySem.W.Frag) (C : Addr) : Prop where
  ga : PySem.W.findIn K (.ref C) "__getattribute__" = some (some (.builtin "BaseException.__getattribute__"))
  gt : PySem.W.findIn K (.ref C) "__getattr__" = some none
  cl : PySem.W.findIn K (.ref C) "__class__" = some (some (.builtin "object.__class__"))
  sp : PySem.W.specialIn K (.builtin "object.__class__") "__get__" = some (some (.builtin "getset_descriptor.__get__"))
  tk : PySem.W.takesIn K (.builtin "object.__class__") = some true
  mo : PySem.W.mroIn K C (.type "object") = some true
  mb : PySem.W.mroIn K C (.type "BaseException") = some true
theorem exc_entry {tk : Tok} {Q : Fin → Shared → Prop} (G : ExcC K C) (X : K.In s.heap) (he : s.heap.get? ea = some oe) (hc : oe.cls = .ref C) (h : Q (.done (.ret (.ref C))) s) :
    wpAny (model prog w) A (Builtin.«object.__getattribute__» ⟨[.ref ea, .str "__class__" tk], []⟩) Q E s := by
  obtain ⟨hh, g, dr, t, os⟩ := s
  have L0 : PySem.W.Looks (model prog w) hh (typeOf (.ref ea)) (.ref C) := hc ▸ (PySem.W.Looks.ld he).andThen .now
  have L1 := PySem.W.looks_findIn (M := model prog w) X G.cl
  have L2 : PySem.W.Looks (model prog w) hh (getOf (some (.builtin "object.__class__"))) (some (.builtin "getset_descriptor.__get__")) := PySem.W.looks_specialIn X G.sp
  have L3 := PySem.W.looks_takesIn (M := model prog w) X G.tk
  have L4 : PySem.W.Looks (model prog w) hh (find (.ref ea) (.ref C) "__class__") (.bind (.builtin "getset_descriptor.__get__") (.builtin "object.__class__")) :=
    L1.andThen (L2.andThen ((show PySem.W.Looks (model prog w) hh (dataDescriptor? (some (.builtin "object.__class__")) (some (.builtin "getset_descriptor.__get__"))) (some (.builtin "getset_descriptor.__get__", .builtin "object.__class__")) from L3.andThen .now).andThen (PySem.W.Looks.tag .now)))
  refine wpAny_bind (wpAny_pure (wpAny_bind (wpAny_pure (wpAny_bind (L0.at (wpAny_bind (L4.at ?_)))))))
  show wpAny _ _ (bindTo _ _ _ _) _ _ _
  unfold bindTo
  show wpAny _ _ (holding [.builtin "object.__class__"] (call (.builtin "getset_descriptor.__get__") [.builtin "object.__class__", .ref ea, .ref C]) >>= ret) _ _ _
  refine wpAny_bind (wpAny_holding (wpAny_call (exc_get (s := ⟨hh, g, dr, t, os⟩) X he hc G.mo ?_)))
  exact wpAny_pure h
theorem bind_ga {x : Value} : bindSpecial (.builtin "BaseException.__getattribute__") x = pure (Value.builtin "BaseException.__getattribute__", [x]) := by
  have e : typeOf (.builtin "BaseException.__getattribute__") = pure (.type "wrapper_descriptor") := by kernel_rfl
  unfold bindSpecial; rw [e]; rfl
theorem plain_ga : plainId "BaseException.__getattribute__" = true := by decide +kernel
theorem handed_on' {M : Model} {C : Addr} {Q : Value → Shared → Prop} (h : Q (.ref C) s) : wpAny M A (handedOut (.ref C)) Q E s := PySem.W.handed_on rfl h
theorem exc_class {Q : Option Value → Shared → Prop} (G : ExcC K C) (X : K.In s.heap) (he : s.heap.get? ea = some oe) (hc : oe.cls = .ref C) (h : Q (some (.ref C)) { s with toks := s.toks + 1 }) : wpAny (model prog w) A (getAttr? (.ref ea) "__class__") Q E s := by
  obtain ⟨hh, g, d, t, os⟩ := s
  have L0 : PySem.W.Looks (model prog w) hh (typeOf (.ref ea)) (.ref C) := hc ▸ (PySem.W.Looks.ld he).andThen .now
  have L1 := PySem.W.looks_findIn (M := model prog w) X G.ga
  have L2 := PySem.W.looks_findIn (M := model prog w) X G.gt
  unfold getAttr? getAttrBy? getAttrBy
  refine wpAny_bind (wpAny_mkText (wpAny_bind (wpAny_attempt (wpAny_holding (wpAny_bind (L0.at (wpAny_bind (L1.at ?_)))))))); show wpAny _ _ (getAttrByItsOwn _ _ _ _ _ _) _ _ _
  unfold getAttrByItsOwn
  refine wpAny_bind ?_
  show wpAny _ _ (typeLookup (.ref C) "__getattr__") _ _ _
  refine L2.at ?_
  refine wpAny_bind (wpAny_attempt (wpAny_holding ?_))
  show wpAny _ _ (boundAndCalled (.builtin "BaseException.__getattribute__") (.ref ea) _) _ _ _
  unfold boundAndCalled
  refine wpAny_bind (wpAny_of_eq (a := (Value.builtin "BaseException.__getattribute__", [Value.ref ea])) bind_ga ?_)
  refine wpAny_call (codeAny_call_builtin plain_ga F.entry_bexc_ga ?_)
  have hk : builtinKind "BaseException.__getattribute__" = some .slot := by decide +kernel
  have hs : splitId "BaseException.__getattribute__" = some ("BaseException", "__getattribute__") := by decide +kernel
  have L5 : PySem.W.Looks (model prog w) hh (isInstance (.ref ea) (.type "BaseException")) true := L0.andThen (PySem.W.looks_mroIn X G.mb)
  have ha := F.args_bexc_ga (.ref ea) (.str "__class__" t)
  simp only [checkBuiltinCall, hk, hs]
  refine wpAny_bind (L5.at ?_)
  rw [if_neg (by decide)]
  refine wpAny_of_eq (a := ()) ha ?_
  refine exc_entry (s := ⟨hh, g, d, t + 1, os⟩) G X he hc ?_
  exact handed_on' (wpAny_pure h)
theorem kitx_exc (G : ExcC K C) : PySem.W.KitX K (.ref ea) (.ref C) (fun h => ∃ o vs, h.get? ea = some o ∧ o.cls = .ref C ∧ o.data = .fields vs) where
  ty := fun M h _ ⟨o, vs, he, hc, _⟩ => hc ▸ (PySem.W.Looks.ld he).andThen .now
  it := fun M h X _ => by
    have z := G.mo
    unfold PySem.W.mroIn at z
    obtain ⟨cd, hcd, _⟩ := Option.bind_eq_some_iff.mp z
    unfold PySem.W.clsIn at hcd
    split at hcd
    · rename_i c' d' cd' sl' ho
      intro A' Q' E' s' k q; unfold isType loadHead; exact wpAny_bind (wpAny_loadPart (k _ _ (X _ _ ho)) (wpAny_pure q))
    · cases hcd
  ne := fun h tp dd its n sl X htp => by
    have z := G.mo
    unfold PySem.W.mroIn at z
    obtain ⟨cd, hcd, _⟩ := Option.bind_eq_some_iff.mp z
    refine Bool.eq_false_iff.mpr fun q => ?_
    have e : C = tp := Value.ref.inj (beq_iff_eq.mp q); subst e; unfold PySem.W.clsIn at hcd
    split at hcd
    · rename_i c' d' cd' sl' ho
      have z := (X _ _ ho).symm.trans htp
      cases z
    · cases hcd
  ca := fun X ⟨o, vs, he, hc, _⟩ k => exc_class G X he hc k
end
section
variable {X : Cx}
noncomputable def rIsiE (K : PySem.W.Frag) : List V → Hp → VK → Prop := fun xs H Q => ∃ ea C cv c b, xs = [.ref ea, cv] ∧ ((∃ T, cv = .ty T ∧ c = .type T) ∨ (∃ a, cv = .ref a ∧ c = .ref a)) ∧ H ea = some (.ext (exPhi ea C)) ∧ ExcC K C ∧ PySem.W.kitOne K (.ref C) c = some b ∧ Q (.bl b) H
theorem call_isiE : CallR X (.builtin "isinstance") (rIsiE X.K) := by
  intro pins s σ H xs us Q I r h
  obtain ⟨ea, C, cv, c, b, rfl, hcv, he, G, e, q⟩ := h
  obtain ⟨u, v, rfl, rx, rc⟩ := vals2 r
  cases rx
  have hv : v = c := by
    rcases hcv with ⟨T, rfl, rfl⟩ | ⟨a, rfl, rfl⟩
    · exact rc
    · exact rc
  subst hv
  obtain ⟨ph, _⟩ := (show ObjOk X.prog X.w H s.heap ea (.ext (exPhi ea C)) from I.hok ea _ he)
  exact PySem.W.kia_one (kitx_exc G) I.kIn ph e (fun z => nomatch z) fun tk => ⟨.bl b, H, I.tok _, rfl, q⟩
end
end L2
set_option Elab.async false
set_option linter.all false
set_option maxRecDepth 100000
set_option maxHeartbeats 2000000
namespace L2
open PySem PySem.Spec PyProof.Rows
section
variable {X : Cx}
end
end L2
set_option Elab.async false
set_option linter.all false
set_option maxRecDepth 100000
set_option maxHeartbeats 2000000
namespace L2
open PySem PySem.Spec PyProof.Rows
theorem len_cons {us : List Value} {n : Nat} (h : us.length = n + 1) : ∃ u t, us = u :: t ∧ t.length = n := by
  cases us with
  | nil => cases h
  | cons u t => exact ⟨u, t, rfl, Nat.succ.inj h⟩
theorem len_nil {us : List Value} (h : us.length = 0) : us = [] := List.eq_nil_of_length_eq_zero h
theorem binds1 {x : Str} {st : Stmt} {a : Str} (h : ∀ (kV doc pm : Value) (an : Option Addr) (cdv ct u0 : Value), bindArgs (PySem.W.fnOf x x (defArgs st) (defBody st) (defScope st) .none kV doc pm an cdv ct) ⟨[u0], []⟩ = pure [(a, u0)]) : BindsAll x st [a] :=
  fun kV doc pm an cdv ct us h0 => by
    obtain ⟨u0, t1, rfl, h1⟩ := len_cons h0
    obtain rfl := len_nil h1
    exact h kV doc pm an cdv ct u0
theorem binds2 {x : Str} {st : Stmt} {a b : Str} (h : ∀ (kV doc pm : Value) (an : Option Addr) (cdv ct u0 u1 : Value), bindArgs (PySem.W.fnOf x x (defArgs st) (defBody st) (defScope st) .none kV doc pm an cdv ct) ⟨[u0, u1], []⟩ = pure [(a, u0), (b, u1)]) : BindsAll x st [a, b] :=
  fun kV doc pm an cdv ct us h0 => by
    obtain ⟨u0, t1, rfl, h1⟩ := len_cons h0
    obtain ⟨u1, t2, rfl, h2⟩ := len_cons h1
    obtain rfl := len_nil h2
    exact h kV doc pm an cdv ct u0 u1
theorem binds3 {x : Str} {st : Stmt} {a b c : Str} (h : ∀ (kV doc pm : Value) (an : Option Addr) (cdv ct u0 u1 u2 : Value), bindArgs (PySem.W.fnOf x x (defArgs st) (defBody st) (defScope st) .none kV doc pm an cdv ct) ⟨[u0, u1, u2], []⟩ = pure [(a, u0), (b, u1), (c, u2)]) : BindsAll x st [a, b, c] :=
  fun kV doc pm an cdv ct us h0 => by
    obtain ⟨u0, t1, rfl, h1⟩ := len_cons h0
    obtain ⟨u1, t2, rfl, h2⟩ := len_cons h1
    obtain ⟨u2, t3, rfl, h3⟩ := len_cons h2
    obtain rfl := len_nil h3
    exact h kV doc pm an cdv ct u0 u1 u2
theorem binds4 {x : Str} {st : Stmt} {a b c d : Str} (h : ∀ (kV doc pm : Value) (an : Option Addr) (cdv ct u0 u1 u2 u3 : Value), bindArgs (PySem.W.fnOf x x (defArgs st) (defBody st) (defScope st) .none kV doc pm an cdv ct) ⟨[u0, u1, u2, u3], []⟩ = pure [(a, u0), (b, u1), (c, u2), (d, u3)]) : BindsAll x st [a, b, c, d] :=
  fun kV doc pm an cdv ct us h0 => by
    obtain ⟨u0, t1, rfl, h1⟩ := len_cons h0
    obtain ⟨u1, t2, rfl, h2⟩ := len_cons h1
    obtain ⟨u2, t3, rfl, h3⟩ := len_cons h2
    obtain ⟨u3, t4, rfl, h4⟩ := len_cons h3
    obtain rfl := len_nil h4
    exact h kV doc pm an cdv ct u0 u1 u2 u3
section
variable {X : Cx}
end
end L2
set_option Elab.async false
set_option linter.all false
set_option maxRecDepth 100000
set_option maxHeartbeats 2000000
set_option exponentiation.threshold 10000
namespace L2
open PySem PySem.Spec PyProof.Rows
noncomputable def onces (ns : List Int) : List Int := firstMet (fun i => ns.getD i 0) ns.length
section
variable {X : Cx}
theorem call_setL (hc : X.calm = true) : CallR X (.type "set") (fun xs H Q => ∃ p, ∃ ns : List Int, xs = [.ref p] ∧ SqL X.K H p (ns.map V.int) ∧ ns.length < 64 ∧ ∀ a, H a = none → Q (.ref a) (upd H a (.set (fun k => (onces ns).any (· == k)) (onces ns).length))) := by
  intro pins s σ H xs us Q I r h
  obtain ⟨p, ns, rfl, hq, h64, q⟩ := h
  obtain ⟨u, rfl, rx⟩ := vals1 r
  cases rx
  obtain ⟨its, rv, pl, hz⟩ := I.list hq
  have hI := intsAre_of rv
  have hlen : its.length = ns.length := by rw [← rv.length, List.length_map]
  refine call_set_list (I.ok.hd hc) pl.isList hI (by rw [List.size_toArray, hlen]; exact Nat.lt_of_lt_of_le (show ns.length + 1 < 65 by omega) (by decide)) fun h' tk hS hk => ?_
  have e0 : its.toArray.size = ns.length := by rw [List.size_toArray, hlen]
  rw [e0] at hS
  exact ⟨.ref s.heap.objs.size, _, I.laid (o := .set (fun k => (onces ns).any (· == k)) (onces ns).length) (t' := tk) (fun b o e => hk b o (Heap.lt_size e) e) (Nat.le_refl _) hS, rfl, q _ I.fresh⟩
theorem call_len_setV : CallR X (.builtin "len") (fun xs H Q => ∃ p S n, xs = [.ref p] ∧ H p = some (.set S n) ∧ Q (.int n) H) := by
  intro pins s σ H xs us Q I r h
  obtain ⟨p, S, n, rfl, hp, q⟩ := h
  obtain ⟨u, rfl, rx⟩ := vals1 r
  cases rx
  obtain ⟨o, es, ep, t, ho, hex, hd, _, _, hs, hf, rfl⟩ := (show ObjOk X.prog X.w H s.heap p (.set S n) from I.hok p _ hp)
  have hb : (es.size : Int) < 2 ^ 63 := by
    have : es.size < 4096 := hs
    omega
  exact call_len_set ho hex hd hf hb ⟨.int es.size, H, I.tok _, ⟨_, rfl⟩, q⟩
end
end L2
set_option Elab.async false
set_option linter.all false
set_option maxRecDepth 100000
set_option maxHeartbeats 2000000
namespace L2
open PySem PySem.Spec PyProof.Rows
section
variable {X : Cx} {pins : List (Addr × Obj)} {σ : St} {H : Hp} {s : Shared}
theorem compLoop_if {prog : Program} {w : World} {A : Around} {s : Shared} {elt tg iter c : Expr} {scope : Scope} {pos : Pos} {it acc : Value} {env : Env} {R : Result → Shared → Prop} (J : Nat → Shared → Prop)
    (turn : ∀ n s, J n s → wpAny (model prog w) A (pyNext it) (fun r s1 => match r with
      | none => R (.ok .next) s1
      | some v => wpAny (model prog w) A (letOwnedTupleGo tg it v) (fun _ s2 => wpAny (model prog w) A (assign tg env v) (fun _ s3 => wpAny (model prog w) A (isTrue c env (eval c env)) (fun ok s3' => if ok = true then wpAny (model prog w) A (eval elt env) (fun x s4 =>
          wpAny (model prog w) A (call (.builtin "list.append") [acc, x]) (fun _ s5 => ∃ m, m < n ∧ J m s5) (notedBy (model prog w) A env fun e s' => R (.error e) s') s4) (notedBy (model prog w) A env fun e s' => R (.error e) s') s3' else ∃ m, m < n ∧ J m s3')
          (notedBy (model prog w) A env fun e s' => R (.error e) s') s3)
          (notedBy (model prog w) A env fun e s' => R (.error e) s') s2) (notedBy (model prog w) A env fun e s' => R (.error e) s') s1) (notedBy (model prog w) A env fun e s' => R (.error e) s') s)
    (n : Nat) (h : J n s) : codeAny (model prog w) A (.compLoop (.ListComp elt [⟨tg, iter, [c], 0⟩] scope pos) 0 it acc env) R s := by
  refine codeAny_loop rfl J (fun n s hJ => ?_) n h
  show wpAny _ A ((compTurn (.ListComp elt [⟨tg, iter, [c], 0⟩] scope pos) 0 it acc env).onRaise (fun x => do noteFrame x env; theTreesLotGoes x)) _ _ s
  refine wpAny_noted ?_; rw [compTurn_list]
  refine wpAny_bind (wpAny_standAt (wpAny_bind (wpAny_mono (turn n s hJ) (fun r s1 h1 => ?_) fun _ _ z => z)))
  match r, h1 with
  | none, h1 => exact wpAny_pure h1
  | some v, h1 =>
    refine wpAny_bind (wpAny_mono h1 (fun _ s2 h2 => ?_) fun _ _ z => z)
    refine wpAny_bind (wpAny_mono h2 (fun _ s3 h3 => wpAny_bind (wpAny_mono (wpAny_tests_one h3) (fun ok s3' h3' => ?_) fun _ _ z => z)) fun _ _ z => z)
    cases ok with
    | true =>
      have h3' : wpAny (model prog w) A (eval elt env) _ _ s3' := h3'
      exact wpAny_bind (wpAny_bind (wpAny_mono h3' (fun x s4 h4 => wpAny_bind (wpAny_mono h4 (fun _ s5 h5 => wpAny_pure (wpAny_pure ⟨rfl, h5⟩)) fun _ _ z => z)) fun _ _ z => z))
    | false =>
      have h3' : ∃ m, m < n ∧ J m s3' := h3'
      exact wpAny_bind (wpAny_pure (wpAny_pure ⟨rfl, h3'⟩))
theorem comp_loopF {elt iter c : Expr} {tg : Expr} {pos : Pos} {scope : Scope} {g : TG} {tc : TT} {te : TE} {lv : Nat} {caps : List Nat} {N' : List Str} {fp : List Addr} {it D C : Addr} {tn : Nat → Heap → Prop} {J : It} {H3 : Hp} {s3 s4 : Shared} {Q : VK} {W : Nat → Nat → List V → Hp → Prop} {m0 : Nat}
    (hc : X.calm = true) (T : Turn X.prog X.w X.K tg J fp it tn) (hC : s3.heap.objs.size ≤ C) (I3 : Inv X pins σ H3 s3) (f3 : ∀ b ∈ fp, FpOk X pins H3 b) (hCf : ∀ b ∈ fp, b ≠ C) (I4 : Inv (X.comp scope C N' s3 H3 fp) [] (seen lv caps σ) H3 s4) (st4 : tn 0 s4.heap) (w0 : W 0 m0 [] H3)
    (turn : ∀ i m ys H, W i m ys H → H D = some (.lst ys) ∧ ys.length < sizeLine ∧ ((J.stop i H ∧ Q (.ref D) H) ∨ (J.go i H ∧ ∀ x H', J.yld i H x H' → g x (seen lv caps σ) H' fun σ2 H2 => tc σ2 H2 fun b H2' => if b = true then te σ2 H2' fun v H3 => H3 D = some (.lst ys) ∧
      ∃ m', m' < m ∧ W (i + 1) m' (ys ++ [v]) (upd H3 D (.lst (ys ++ [v]))) else ∃ m', m' < m ∧ W (i + 1) m' ys H2')))
    (hgk : GKeep g lv caps) (hg : PG (X.comp scope C N' s3 H3 fp) tg g) {xe : Value → Shared → Prop} {R : Result → Shared → Prop}
    (hstop : ∀ H5 s6, Inv (X.comp scope C N' s3 H3 fp) [] (seen lv caps σ) H5 s6 → Q (.ref D) H5 → R (.ok .next) s6)
    (herr : ∀ e s', xe e s' → notedBy (model X.prog X.w) X.A (compEnvC scope (clOf scope X.env) C X.env) (fun e s' => R (.error e) s') e s')
    (hct : PT ((X.comp scope C N' s3 H3 fp).wish xe) c tc) (he : PE ((X.comp scope C N' s3 H3 fp).wish xe) elt te) :
    codeAny (model X.prog X.w) X.A (.compLoop (.ListComp elt [⟨tg, iter, [c], 0⟩] scope pos) 0 (.ref it) (.ref D) (compEnvC scope (clOf scope X.env) C X.env)) R s4 := by
  have stat : ∀ {H' : Hp}, (∀ b ∈ fp, H' b = none) → ∀ b ∈ fp, FpOk (X.comp scope C N' s3 H3 fp) [] H' b := fun {H'} hn b hb =>
    ⟨hn b hb, hCf b hb, fun z => I4.ok.exfs b hb z, .inl hb, fun y c e => (I4.ok.exf b hb).2 y c e, fun p hp => absurd (show p ∈ ([] : List (Addr × Obj)) from hp) (by simp)⟩
  refine compLoop_if (fun n s' => ∃ i ys H', Inv (X.comp scope C N' s3 H3 fp) [] (seen lv caps σ) H' s' ∧ tn i s'.heap ∧ (∀ b ∈ fp, H' b = none) ∧ W i n ys H') ?_ m0 ⟨0, [], _, I4, st4, fun b hb => (f3 b hb).1, w0⟩
  rintro n s5 ⟨i, ys, H5, I5, st5, fr5, w5⟩
  obtain ⟨hD, hlen, hcase⟩ := turn i n ys H5 w5
  rcases hcase with ⟨stop, q⟩ | ⟨go, step⟩
  · refine thn (T.done (X.comp scope C N' s3 H3 fp) rfl rfl rfl hc i [] s5 _ H5 _ I5 (stat fr5) st5 stop) fun r s6 hr => ?_
    obtain ⟨hr, I6⟩ := hr
    subst hr
    exact hstop _ _ I6 q
  · refine thn (T.item (X.comp scope C N' s3 H3 fp) rfl rfl rfl hc i [] s5 _ H5 _ I5 (stat fr5) st5 go) fun r s6 hr => ?_
    obtain ⟨u, hr, h6⟩ := hr
    subst hr
    refine thn h6 fun _ s7 h7 => ?_
    obtain ⟨y, H7, I7, r7, y7, st7, fr7⟩ := h7
    have I7' := I7.pinned (stat fr7) (T.obj _ _ st7)
    refine wpAny_mono (hg _ s7 _ H7 y u _ I7' r7 (hgk σ y H7 _ (step y H7 y7))) (fun _ s8 h8 => ?_) (fun _ _ z => z.elim)
    obtain ⟨σ8, H8, I8, q8, ks⟩ := h8
    refine wpAny_mono (hct _ s8 σ8 H8 _ (I8.wish _) q8) (fun b s8' hb => ?_) (fun e s9 z => herr e s9 z)
    obtain ⟨H8', I8', q8'⟩ := hb
    cases b with
    | true =>
      have q8' : te σ8 H8' _ := q8'
      show wpAny _ _ _ _ _ s8'
      refine wpAny_mono (he _ s8' σ8 H8' _ I8' q8') (fun v s9 h9 => ?_) (fun e s9 z => herr e s9 z)
      obtain ⟨z9, H9, I9, r9, hD9, m', hm', w9⟩ := h9
      have I9 := I9.unwish
      refine wpAny_mono (mt_append (X := X.comp scope C N' s3 H3 fp) _ s9 σ8 H9 (.ref D) [z9] (.ref D) [v] (fun _ H' => H' = upd H9 D (.lst (ys ++ [z9]))) I9 rfl (.cons r9 .nil) ⟨D, ys, z9, rfl, rfl, hD9, hlen, rfl⟩) (fun _ s10 h10 => ?_) (fun _ _ z => z.elim)
      obtain ⟨_, H10, I10, _, rfl⟩ := h10
      refine ⟨m', hm', i + 1, ys ++ [z9], _, I10.unpinned.weak ?_ ?_, T.keep _ _ _ st7 fun b hb o e => (I10.pin (b, o) (List.mem_append_right _ (List.mem_append_right _ (mem_pinsAt hb e)))).1, fun b hb => ?_, w9⟩
      · rw [I10.len]; exact I4.len
      · exact ks
      · obtain ⟨o, e, d⟩ := T.obj _ _ st7 b hb
        exact (I10.pin (b, o) (List.mem_append_right _ (List.mem_append_right _ (mem_pinsAt hb e)))).2.1
    | false =>
      have q8' : ∃ m', m' < n ∧ W (i + 1) m' ys H8' := q8'
      obtain ⟨m', hm', w9⟩ := q8'
      have I10 := I8'.unwish
      show ∃ m, m < n ∧ _
      refine ⟨m', hm', i + 1, ys, _, I10.unpinned.weak ?_ ?_, T.keep _ _ _ st7 fun b hb o e => (I10.pin (b, o) (List.mem_append_right _ (mem_pinsAt hb e))).1, fun b hb => ?_, w9⟩
      · rw [I10.len]; exact I4.len
      · exact ks
      · obtain ⟨o, e, d⟩ := T.obj _ _ st7 b hb
        exact (I10.pin (b, o) (List.mem_append_right _ (mem_pinsAt hb e))).2.1
theorem comp_back {scope : Scope} {lv : Nat} {caps : List Nat} {N' : List Str} {fp : List Addr} {C : Addr} {H3 H5 : Hp} {s3 s6 : Shared} {h' : Heap} (hC : s3.heap.objs.size ≤ C) (I3 : Inv X pins σ H3 s3) (f3 : ∀ b ∈ fp, FpOk X pins H3 b)
    (I6 : Inv (X.comp scope C N' s3 H3 fp) [] (seen lv caps σ) H5 s6) (hs' : Heap.SameBut C s6.heap h') : Inv X pins σ H5 { s6 with heap := h' } := by
  have ub := I6.base
  have neC : ∀ b o, s3.heap.get? b = some o → b ≠ C := fun b o q => Nat.ne_of_lt (Nat.lt_of_lt_of_le (Heap.lt_size q) hC)
  refine I3.call' (ch := fp) (s' := { s6 with heap := h' }) I6.os ⟨fun b o q n hb hx => (hs'.2 b (neC b o q)).trans (ub.keep b o q n hb hx), fun b o q n hb hx => ?_, ub.free, fun b o q hx => ?_, ub.tups, ub.frzs, ub.tbls⟩ ?_ I6.bare (fun b hb => ?_)
  · obtain ⟨sl, e⟩ := ub.slot b o q n hb hx
    exact ⟨sl, (hs'.2 b (neC b o q)).trans e⟩
  · obtain ⟨o', e⟩ := ub.there b o q hx
    exact ⟨o', (hs'.2 b (neC b o q)).trans e⟩
  · intro b o q
    refine (I6.hok b o q).stay (fun c u hc' q' => (hs'.2 c ?_).trans q') (fun _ z => z) fun _ _ z => z
    intro ec
    have fC : H5 C = none := I6.free
    rcases hc' with z | z
    · rw [← z, ec, fC] at q; cases q
    · rw [ec, fC] at z; cases z
  · obtain ⟨_, y1, _, y3, y4, y5⟩ := f3 b hb
    exact ⟨y3, y1, y4, y5⟩
theorem comp_use {scope : Scope} {lv : Nat} {caps : List Nat} {N' : List Str} {fp : List Addr} {C : Addr} {H3 H5 : Hp} {s3 s6 : Shared} {i : Nat} {y : Str} {py : Pos} {v : V} {u : Value} {D : Ends} (hC : s3.heap.objs.size ≤ C) (I3 : Inv X pins σ H3 s3) (f3 : ∀ b ∈ fp, FpOk X pins H3 b)
    (hN : X.N.Nodup) (hi : X.N[i]? = some y) (hx : Loc X.env.scope y) (hf : X.fn y = true ∨ X.env.scope.names.lookup y = some .local)
    (I6 : Inv (X.comp scope C N' s3 H3 fp) [] (seen lv caps σ) H5 s6) (r : RelV v u) (q : D.nx (σ.set i (some v)) H5) :
    compPost (model X.prog X.w) X.A X.xe (some (assign (.Name y py) X.env)) (fun _ s' => SP X pins D .next s') u C (.ok .next) s6 := by
  have I := comp_back hC I3 f3 I6 (Heap.SameBut.refl C s6.heap)
  obtain ⟨m, hn, _⟩ := I6.loc
  have hn : s6.heap.Ns C m := hn
  have cL : C ≠ X.env.locals := fun z => Nat.lt_irrefl _ (Nat.lt_of_lt_of_le (z ▸ I3.lt) hC)
  have cc : ∀ x c, X.env.cells.lookup x = some c → c ≠ C := fun x c e z => by
    obtain ⟨v, o, e', _⟩ := I3.cell x c e
    exact Nat.lt_irrefl _ (Nat.lt_of_lt_of_le (z ▸ Heap.lt_size e') hC)
  show wpAny _ _ (assign (.Name y py) X.env u) _ _ _
  refine wpAny_assign_Name (store_ok2 I hN hi hx r (fun s7 I7 ⟨a, sb, ha⟩ => ?_) hf)
  have aC : C ≠ a := fun z => by
    rcases ha with e | e
    · exact cL (z.trans e)
    · exact cc _ _ e z.symm
  refine ⟨m, hn.sameBut sb aC, fun h' hs' => ?_⟩
  refine ⟨_, H5, I7.turned (it := C) (t' := s7.toks) (fun b o hb e => (hs'.2 b hb).trans e) I6.free cL (.inr (Nat.le_trans I3.sz hC)) cc (fun p hp z => ?_), q⟩
  have := (I3.pin p hp).1
  exact Nat.lt_irrefl _ (Nat.lt_of_lt_of_le (z ▸ Heap.lt_size this) hC)
noncomputable def compWF (J : It) (g : TG) (tc : TT) (te : TE) (σ0 : St) (Q : VK) (H1 : Hp) : Prop := ∀ D, H1 D = none → ∃ W : Nat → Nat → List V → Hp → Prop, (∃ m, W 0 m [] (upd H1 D (.lst []))) ∧
  ∀ i m ys H, W i m ys H → H D = some (.lst ys) ∧ ys.length < sizeLine ∧ ((J.stop i H ∧ Q (.ref D) H) ∨ (J.go i H ∧ ∀ x H', J.yld i H x H' → g x σ0 H' fun σ2 H2 => tc σ2 H2 fun b H2' => if b = true then te σ2 H2' fun v H3 => H3 D = some (.lst ys) ∧
    ∃ m', m' < m ∧ W (i + 1) m' (ys ++ [v]) (upd H3 D (.lst (ys ++ [v]))) else ∃ m', m' < m ∧ W (i + 1) m' ys H2'))
noncomputable def tCompF (wi : TI) (g : TG) (tc : TT) (te : TE) (lv : Nat) (caps : List Nat) : TE := fun σ H Q => wi σ H fun J H1 => compWF J g tc te (seen lv caps σ) Q H1
theorem pe_compF {elt iter c : Expr} {tg : Expr} {pos : Pos} {scope : Scope} {wi : TI} {g : TG} {tc : TT} {te : TE} {lv : Nat} {caps : List Nat} {N' : List Str} {xe : Addr → Shared → Hp → List Addr → Value → Shared → Prop} (herr : ∀ (pins : List (Addr × Obj)) (σ : St) (H3 : Hp) (s3 : Shared) (C : Addr) (fp : List Addr) (Q : Value → Shared → Prop) (acc e : Value) (s' : Shared), Inv X pins σ H3 s3 → (∀ b ∈ fp, FpOk X pins H3 b) → s3.heap.objs.size ≤ C → xe C s3 H3 fp e s' →
      notedBy (model X.prog X.w) X.A (compEnvC scope (clOf scope X.env) C X.env) (fun e s' => compPost (model X.prog X.w) X.A X.xe none Q acc C (.error e) s') e s')
    (hc : X.calm = true) (ok : CompOk X scope lv caps N') (hgk : GKeep g lv caps) (hi : PI X tg iter wi)
    (hg : ∀ C s H fp, PG (X.comp scope C N' s H fp) tg g) (hct : ∀ C s H fp, PT ((X.comp scope C N' s H fp).wish (xe C s H fp)) c tc) (he : ∀ C s H fp, PE ((X.comp scope C N' s H fp).wish (xe C s H fp)) elt te) (hs : ∀ y, foldedSetIterable iter X.env y = pure y := by intro _; rfl) :
    PE X (.ListComp elt [⟨tg, iter, [c], 0⟩] scope pos) (tCompF wi g tc te lv caps) := by
  intro pins s σ H Q I h
  rw [eval_ListComp]
  refine wpAny_comprehension_free (use := none) rfl hs (closure_eq fun y hy hk => I.ok.has y.1 (ok.free y hy hk)) ok.kind ok.loc (thn (hi pins s σ H _ I h) fun v s1 h1 => thn h1 fun itv s2 h2 => ?_)
  obtain ⟨it, fp, tn, J, H2, e, I2, T, st2, f2, hW⟩ := h2
  subst e
  have fpl : ∀ b ∈ fp, b < s2.heap.objs.size := fun b hb => by obtain ⟨o, e, _⟩ := T.obj 0 _ st2 b hb; exact Heap.lt_size e
  refine wpAny_newObj_type ?_
  have I3 : Inv X pins σ (upd H2 s2.heap.objs.size (.lst [])) { s2 with heap := s2.heap.push { cls := .type "list", data := .seq ([] : List Value).toArray }, toks := s2.toks } := I2.lnew (its := []) .nil (Nat.zero_le _)
  obtain ⟨W, ⟨m0, w0⟩, turn⟩ := hW s2.heap.objs.size I2.fresh
  refine wpAny_newFunctionEnv ok.cell (by intro y hy; simp at hy) (fun h₁ hns₁ hsb₁ => ?_) ok.kind
  have hk3 : ∀ b o, (s2.heap.push { cls := .type "list", data := .seq ([] : List Value).toArray }).get? b = some o → h₁.get? b = some o := fun b o q =>
    (hsb₁.2 b (Nat.ne_of_lt (Heap.lt_size q))).trans (Heap.get?_push_of_some _ q)
  have f3 : ∀ b ∈ fp, FpOk X pins (upd H2 s2.heap.objs.size (.lst [])) b := fun b hb => by
    obtain ⟨n, r⟩ := f2 b hb
    exact ⟨by rw [upd_ne (Nat.ne_of_lt (fpl b hb))]; exact n, r⟩
  have fpl3 : ∀ b ∈ fp, b < (s2.heap.push { cls := .type "list", data := .seq ([] : List Value).toArray }).objs.size := fun b hb => by rw [Heap.size_push]; exact Nat.lt_succ_of_lt (fpl b hb)
  have I4 := inv_comp ok I3 f3 hns₁ hk3 fpl3 (s2.toks + 0)
  have st4 : tn 0 h₁ := T.keep _ _ _ st2 fun b hb o q => hk3 b o (Heap.get?_push_of_some _ q)
  have loop := comp_loopF (elt := elt) (iter := iter) (c := c) (pos := pos) (s4 := { s2 with heap := h₁, toks := s2.toks + 0 }) hc T (Nat.le_refl _) I3 f3 (fun b hb => Nat.ne_of_lt (fpl3 b hb)) I4 st4 w0 turn hgk (hg _ _ _ _) (R := compPost (model X.prog X.w) X.A X.xe none (EP X pins σ Q) (.ref s2.heap.objs.size) _) (fun H5 s6 I6 q => by
    obtain ⟨m, hn, _⟩ := I6.loc
    exact ⟨m, hn, fun h' hs' => ⟨.ref s2.heap.objs.size, H5, comp_back (Nat.le_refl _) I3 f3 I6 hs', rfl, q⟩⟩) (fun e s' z => herr _ _ _ _ _ _ _ _ e s' I3 f3 (Nat.le_refl _) z) (hct _ _ _ _) (he _ _ _ _)
  exact codeAny_compStart_list loop (T.self _ 0 _ _ _ st4 loop)
theorem ps_setF {elt iter c : Expr} {tg : Expr} {pos spos py : Pos} {i : Nat} {y : Str} {scope : Scope} {wi : TI} {g : TG} {tc : TT} {te : TE} {lv : Nat} {caps : List Nat} {N' : List Str} {xe : Addr → Shared → Hp → List Addr → Value → Shared → Prop} (herr : ∀ (pins : List (Addr × Obj)) (σ : St) (H3 : Hp) (s3 : Shared) (C : Addr) (fp : List Addr) (Q : Value → Shared → Prop) (acc e : Value) (s' : Shared), Inv X pins σ H3 s3 → (∀ b ∈ fp, FpOk X pins H3 b) → s3.heap.objs.size ≤ C → xe C s3 H3 fp e s' →
      notedBy (model X.prog X.w) X.A (compEnvC scope (clOf scope X.env) C X.env) (fun e s' => compPost (model X.prog X.w) X.A X.xe (some (assign (.Name y py) X.env)) Q acc C (.error e) s') e s')
    (hN : X.N.Nodup) (hi' : X.N[i]? = some y) (hx : Loc X.env.scope y) (hc : X.calm = true) (ok : CompOk X scope lv caps N') (hgk : GKeep g lv caps) (hi : PI X tg iter wi)
    (hg : ∀ C s H fp, PG (X.comp scope C N' s H fp) tg g) (hct : ∀ C s H fp, PT ((X.comp scope C N' s H fp).wish (xe C s H fp)) c tc) (he : ∀ C s H fp, PE ((X.comp scope C N' s H fp).wish (xe C s H fp)) elt te) (hs : ∀ y, foldedSetIterable iter X.env y = pure y := by intro _; rfl)
    (hsw : swapsWith (.ListComp elt [⟨tg, iter, [c], 0⟩] scope pos) (some (.Name y py)) spos.line X.env = pure true := by rfl) (hf : X.fn y = true ∨ X.env.scope.names.lookup y = some .local := by first | exact .inl rfl | exact .inr rfl | assumption) :
    PS X (.Assign [.Name y py] (.ListComp elt [⟨tg, iter, [c], 0⟩] scope pos) spos) (tAsg (tCompF wi g tc te lv caps) (gName i)) := by
  intro pins s σ H E I h
  rw [exec_Assign_Name_used _ _ _ _ hsw]
  refine wpAny_bind (wpAny_standAt (wpAny_bind ?_))
  show wpAny _ _ (do let _ ← comprehension (.ListComp elt [⟨tg, iter, [c], 0⟩] scope pos) scope X.env _ (newList []) false (eval iter X.env) (some (assign (.Name y py) X.env))) _ _ s
  refine wpAny_bind (thn (wpAny_comprehension_free (use := some (assign (.Name y py) X.env)) (Q := fun _ s' => SP X pins E .next s') rfl hs (closure_eq fun y hy hk => I.ok.has y.1 (ok.free y hy hk)) ok.kind ok.loc (thn (hi pins s σ H _ I h) fun v s1 h1 => thn h1 fun itv s2 h2 => ?_)) fun _ s' hq => wpAny_pure (wpAny_pure hq))
  obtain ⟨it, fp, tn, J, H2, e, I2, T, st2, f2, hW⟩ := h2
  subst e
  have fpl : ∀ b ∈ fp, b < s2.heap.objs.size := fun b hb => by obtain ⟨o, e, _⟩ := T.obj 0 _ st2 b hb; exact Heap.lt_size e
  refine wpAny_newObj_type ?_
  have I3 : Inv X pins σ (upd H2 s2.heap.objs.size (.lst [])) { s2 with heap := s2.heap.push { cls := .type "list", data := .seq ([] : List Value).toArray }, toks := s2.toks } := I2.lnew (its := []) .nil (Nat.zero_le _)
  obtain ⟨W, ⟨m0, w0⟩, turn⟩ := hW s2.heap.objs.size I2.fresh
  refine wpAny_newFunctionEnv ok.cell (by intro y hy; simp at hy) (fun h₁ hns₁ hsb₁ => ?_) ok.kind
  have hk3 : ∀ b o, (s2.heap.push { cls := .type "list", data := .seq ([] : List Value).toArray }).get? b = some o → h₁.get? b = some o := fun b o q =>
    (hsb₁.2 b (Nat.ne_of_lt (Heap.lt_size q))).trans (Heap.get?_push_of_some _ q)
  have f3 : ∀ b ∈ fp, FpOk X pins (upd H2 s2.heap.objs.size (.lst [])) b := fun b hb => by
    obtain ⟨n, r⟩ := f2 b hb
    exact ⟨by rw [upd_ne (Nat.ne_of_lt (fpl b hb))]; exact n, r⟩
  have fpl3 : ∀ b ∈ fp, b < (s2.heap.push { cls := .type "list", data := .seq ([] : List Value).toArray }).objs.size := fun b hb => by rw [Heap.size_push]; exact Nat.lt_succ_of_lt (fpl b hb)
  have I4 := inv_comp ok I3 f3 hns₁ hk3 fpl3 (s2.toks + 0)
  have st4 : tn 0 h₁ := T.keep _ _ _ st2 fun b hb o q => hk3 b o (Heap.get?_push_of_some _ q)
  have loop := comp_loopF (Q := fun v H' => E.nx (σ.set i (some v)) H') (D := s2.heap.objs.size) (elt := elt) (iter := iter) (c := c) (pos := pos) (s4 := { s2 with heap := h₁, toks := s2.toks + 0 }) hc T (Nat.le_refl _) I3 f3 (fun b hb => Nat.ne_of_lt (fpl3 b hb)) I4 st4 w0 turn hgk (hg _ _ _ _) (R := compPost (model X.prog X.w) X.A X.xe (some (assign (.Name y py) X.env)) (fun _ s' => SP X pins E .next s') (.ref s2.heap.objs.size) _) (fun H5 s6 I6 q => comp_use (v := .ref s2.heap.objs.size) (Nat.le_refl _) I3 f3 hN hi' hx hf I6 rfl q) (fun e s' z => herr _ _ _ _ _ _ _ _ e s' I3 f3 (Nat.le_refl _) z) (hct _ _ _ _) (he _ _ _ _)
  exact codeAny_compStart_list loop (T.self _ 0 _ _ _ st4 loop)
end
section
variable {K : PySem.W.Frag} {g : TG} {tc : TT} {te : TE} {σ0 : St} {H1 : Hp} {Q : VK}
theorem comp_LF {a : Addr} {xs : List V} (hq : SqL K H1 a xs) (hl : xs.length < sizeLine) (p : V → Bool) (f : V → V)
    (step : ∀ x ∈ xs, ∀ (H' : Hp) (Q' : VK) (R : Hp → Prop), Same H1 H' → (p x = true → ∀ H2, Same H' H2 → Q' (f x) H2) → (p x = false → ∀ H2, Same H' H2 → R H2) → g x σ0 H' fun σ2 H2 => tc σ2 H2 fun b H3 => if b = true then te σ2 H3 Q' else R H3)
    (fin : ∀ D H', H1 D = none → Same H1 H' → H' D = some (.lst ((xs.filter p).map f)) → Q (.ref D) H') : compWF (Itl K a) g tc te σ0 Q H1 := by
  intro D hD
  refine ⟨fun i m ys H' => i ≤ xs.length ∧ m = xs.length - i ∧ ys = ((xs.take i).filter p).map f ∧ Same H1 H' ∧ H' D = some (.lst ys), ⟨_, Nat.zero_le _, rfl, rfl, Same.new hD, upd_same⟩, ?_⟩
  rintro i m ys H' ⟨hi, rfl, rfl, S, e⟩
  refine ⟨e, by have := List.length_filter_le p (xs.take i); rw [List.length_take] at this; rw [List.length_map]; omega, ?_⟩
  by_cases hlt : i < xs.length
  · have hx := List.getElem?_eq_getElem hlt
    refine .inr ⟨⟨xs, _, S.knd (k := .L) hq, hx⟩, fun x H'' hy => ?_⟩
    obtain ⟨rfl, hy⟩ := hy
    have hx := hy xs (S.knd (k := .L) hq)
    have et : xs.take (i + 1) = xs.take i ++ [x] := by rw [List.take_add_one, hx]; rfl
    refine step x (List.mem_of_getElem? hx) _ _ _ S (fun px H2 S2 => ⟨S2 _ _ e, xs.length - (i + 1), by omega, hlt, rfl, ?_, (S.trans S2).upd hD, upd_same⟩) (fun px H2 S2 => ⟨xs.length - (i + 1), by omega, hlt, rfl, ?_, S.trans S2, S2 _ _ e⟩)
    · rw [et, List.filter_append, List.map_append, List.filter_cons_of_pos px]; rfl
    · rw [et, List.filter_append, List.filter_cons_of_neg (by rw [px]; exact Bool.false_ne_true), List.filter_nil, List.append_nil]
  · have ei : i = xs.length := by omega
    subst ei
    rw [List.take_length] at e
    exact .inl ⟨⟨xs, S.knd (k := .L) hq, Nat.le_refl _⟩, fin D H' hD S e⟩
theorem comp_eachF {J : It} (n : Nat) (hl : n < sizeLine) (p : Nat → Bool) (f : Nat → V) (go : ∀ i H', i < n → Same H1 H' → J.go i H') (stop : ∀ H', Same H1 H' → J.stop n H')
    (step : ∀ i x H' H'' (Q' : VK) (R : Hp → Prop), i < n → Same H1 H' → J.yld i H' x H'' → (p i = true → ∀ H2, Same H' H2 → Q' (f i) H2) → (p i = false → ∀ H2, Same H' H2 → R H2) → g x σ0 H'' fun σ2 H2 => tc σ2 H2 fun b H3 => if b = true then te σ2 H3 Q' else R H3)
    (fin : ∀ D H', H1 D = none → Same H1 H' → H' D = some (.lst (((List.range n).filter p).map f)) → Q (.ref D) H') : compWF J g tc te σ0 Q H1 := by
  intro D hD
  refine ⟨fun i m ys H' => i ≤ n ∧ m = n - i ∧ ys = ((List.range i).filter p).map f ∧ Same H1 H' ∧ H' D = some (.lst ys), ⟨_, Nat.zero_le _, rfl, rfl, Same.new hD, upd_same⟩, ?_⟩
  rintro i m ys H' ⟨hi, rfl, rfl, S, e⟩
  refine ⟨e, by have := List.length_filter_le p (List.range i); rw [List.length_range] at this; rw [List.length_map]; omega, ?_⟩
  by_cases hlt : i < n
  · refine .inr ⟨go i H' hlt S, fun x H'' hy => ?_⟩
    refine step i x H' H'' _ _ hlt S hy (fun px H2 S2 => ⟨S2 _ _ e, n - (i + 1), by omega, hlt, rfl, ?_, (S.trans S2).upd hD, upd_same⟩) (fun px H2 S2 => ⟨n - (i + 1), by omega, hlt, rfl, ?_, S.trans S2, S2 _ _ e⟩)
    · rw [List.range_succ, List.filter_append, List.map_append, List.filter_cons_of_pos px]; rfl
    · rw [List.range_succ, List.filter_append, List.filter_cons_of_neg (by rw [px]; exact Bool.false_ne_true), List.filter_nil, List.append_nil]
  · have ei : i = n := by omega
    subst ei
    exact .inl ⟨stop H' S, fin D H' hD S e⟩
theorem comp_RF {lo : Int} (n : Nat) (hl : n < sizeLine) (p : Int → Bool) (f : Int → V)
    (step : ∀ i : Nat, i < n → ∀ (H' : Hp) (Q' : VK) (R : Hp → Prop), Same H1 H' → (p (lo + i) = true → ∀ H2, Same H' H2 → Q' (f (lo + i)) H2) → (p (lo + i) = false → ∀ H2, Same H' H2 → R H2) → g (.int (lo + i)) σ0 H' fun σ2 H2 => tc σ2 H2 fun b H3 => if b = true then te σ2 H3 Q' else R H3)
    (fin : ∀ D H', H1 D = none → Same H1 H' → H' D = some (.lst (((List.range n).filter fun i : Nat => p (lo + i)).map fun i : Nat => f (lo + i))) → Q (.ref D) H') : compWF (Itr lo n) g tc te σ0 Q H1 :=
  comp_eachF n hl (fun i : Nat => p (lo + i)) (fun i : Nat => f (lo + i)) (fun i _ h _ => h) (fun _ _ => Nat.le_refl _)
    (fun i x H' H'' Q' R hi S hy a b => by obtain ⟨rfl, rfl⟩ := hy; exact step i hi _ Q' R S a b) fin
end
section
variable {X : Cx}
end
end L2
set_option Elab.async false
set_option linter.all false
set_option maxRecDepth 100000
set_option maxHeartbeats 2000000
namespace L2
open PySem PySem.Spec PyProof.Rows
theorem SqL.any {K : PySem.W.Frag} {H : Hp} {a : Addr} {xs : List V} (h : SqL [] H a xs) : SqL K H a xs := by
  rcases h with h | ⟨o, its, n, e, _⟩
  · exact .inl h
  · cases e
theorem SqT.any {K : PySem.W.Frag} {H : Hp} {a : Addr} {xs : List V} (h : SqT [] H a xs) : SqT K H a xs := by
  rcases h with h | ⟨o, its, n, e, _⟩
  · exact .inl h
  · cases e
theorem Sq.any {K : PySem.W.Frag} {H : Hp} {a : Addr} {xs : List V} (h : SqL [] H a xs ∨ SqT [] H a xs) : SqL K H a xs ∨ SqT K H a xs := h.elim (fun h => .inl h.any) fun h => .inr h.any
section
variable {X : Cx}
theorem ix0L : IxR X (rIxL []) := fun value slice pins s σ H x y v u Q I rx ry h => by
  obtain ⟨p, xs, i, w, e1, e2, hq, r, r'⟩ := h
  exact ix_list value slice pins s σ H x y v u Q I rx ry ⟨p, xs, i, w, e1, e2, hq.any, r, r'⟩
theorem ix0T : IxR X (rIxT []) := fun value slice pins s σ H x y v u Q I rx ry h => by
  obtain ⟨p, xs, i, w, e1, e2, hq, r, r'⟩ := h
  exact ix_tup value slice pins s σ H x y v u Q I rx ry ⟨p, xs, i, w, e1, e2, hq.any, r, r'⟩
theorem sl0L : SlR X (rSlL []) := fun pins s σ H x v vl vu lo hi sl Q I rx hs pl pu h => by
  obtain ⟨a, xs, e, hq, r⟩ := h
  exact sl_list pins s σ H x v vl vu lo hi sl Q I rx hs pl pu ⟨a, xs, e, hq.any, r⟩
theorem op0catT : OpR X (binaryOp .Add) (rCatT []) := fun pins s σ H x y v u Q I rx ry h => by
  obtain ⟨a, b, xs, ys, e1, e2, h1, h2, n, z, r0, r⟩ := h
  exact op_catT pins s σ H x y v u Q I rx ry ⟨a, b, xs, ys, e1, e2, h1.any, h2.any, n, z, r0, r⟩
theorem op0catS : OpR X (binaryOp .Add) (rCatS []) := fun pins s σ H x y v u Q I rx ry h => by
  obtain ⟨a, b, xs, ys, e1, e2, h1, h2, z, r⟩ := h
  exact op_catS pins s σ H x y v u Q I rx ry ⟨a, b, xs, ys, e1, e2, h1.any, h2.any, z, r⟩
theorem op0in : OpR X (compareOp .In) (rIn [] false) := fun pins s σ H x y v u Q I rx ry h => by
  obtain ⟨p, xs, e, hq, f, fs, r⟩ := h
  exact op_in_seq pins s σ H x y v u Q I rx ry ⟨p, xs, e, Sq.any hq, f, fs, r⟩
theorem op0notIn : OpR X (compareOp .NotIn) (rIn [] true) := fun pins s σ H x y v u Q I rx ry h => by
  obtain ⟨p, xs, e, hq, f, fs, r⟩ := h
  exact op_notIn_seq pins s σ H x y v u Q I rx ry ⟨p, xs, e, Sq.any hq, f, fs, r⟩
inductive rLen0 (xs : List V) (H : Hp) (Q : VK) : Prop
  | mk (p : Addr) (ys : List V) (e : xs = [.ref p]) (s : SqL [] H p ys ∨ SqT [] H p ys) (q : Q (.int ys.length) H) : rLen0 xs H Q
theorem call0len : CallR X (.builtin "len") rLen0 := fun pins s σ H xs us Q I r h => by
  obtain ⟨p, ys, e, hq, q⟩ := h
  exact call_len_seq pins s σ H xs us Q I r ⟨p, ys, e, Sq.any hq, q⟩
noncomputable def XN : XK := fun _ _ _ => False
theorem passes0 {P : Program} {w : World} : Passes (CX1 P w) X XN := fun pins σ H s e s' I h => by
  obtain ⟨ea, Cc, H', rfl, os, bare, un, hok, _, hE⟩ := h
  exact hE.elim
end
end L2
set_option Elab.async false
set_option linter.all false
set_option maxRecDepth 100000
set_option maxHeartbeats 2000000
namespace L2
open PySem PySem.Spec PyProof.Rows
section
variable {X : Cx} {pins : List (Addr × Obj)} {σ : St} {H : Hp} {s : Shared}
inductive rList0 (xs : List V) (H : Hp) (Q : VK) : Prop
  | mk (p : Addr) (ys : List V) (e : xs = [.ref p]) (s : SqL [] H p ys ∨ SqT [] H p ys) (q : ∀ l, H l = none → Q (.ref l) (upd H l (.lst ys))) : rList0 xs H Q
theorem call0list : CallR X (.type "list") rList0 := fun pins s σ H xs us Q I r h => by
  obtain ⟨p, ys, e, hq, q⟩ := h
  exact call_list_of pins s σ H xs us Q I r ⟨p, ys, e, Sq.any hq, q⟩
end
end L2
set_option Elab.async false
set_option linter.all false
set_option maxRecDepth 100000
set_option maxHeartbeats 2000000
namespace L2
open PySem PySem.Spec PyProof.Rows
section
variable {prog : Program} {w : World} {A : Around} {E : Value → Shared → Prop} {s : Shared}
open AutoSeq1 (wpAny_loadPart') in
end
section
variable {X : Cx} {els : List Expr} {x1 : Nat} {tpos : Pos}
end
end L2
set_option linter.all false
set_option maxRecDepth 100000
namespace L2
open PySem PySem.Spec PyProof.Rows
section
variable {X : Cx}
end
end L2
set_option linter.all false
set_option maxRecDepth 100000
namespace L2
open PySem PySem.Spec PyProof.Rows
section
variable {prog : Program} {w : World} {A : Around} {E : Value → Shared → Prop} {s : Shared} {l : Addr} {xs : Array (Int × Tok)}
theorem iter_intTup {Q : Value → Shared → Prop} (hl : IsTup s.heap l (intItems xs))
    (h : ∀ s₂ : Shared, s₂ = { s with heap := s.heap.push { cls := .type "tuple_iterator", data := .fields #[.ref l, .int 0 0] } } →
      (IsTupIter s₂.heap s.heap.objs.size l 0 ∧ IsTup s₂.heap l (intItems xs)) → (∀ b ∈ [s.heap.objs.size, l], b < s₂.heap.objs.size) → l ≠ s.heap.objs.size → Q (.ref s.heap.objs.size) s₂) :
    wpAny (model prog w) A (pyIter (.ref l)) Q E s := by
  have hlt : l < s.heap.objs.size := by obtain ⟨_, e, _⟩ := hl; exact Heap.lt_size e
  refine iter_tuple hl (h _ rfl ⟨⟨_, Heap.get?_push_size _ rfl, rfl, rfl⟩, hl.push _⟩ (fun b hb => ?_) (Nat.ne_of_lt hlt))
  show b < (s.heap.push _).objs.size
  rw [Heap.size_push]
  rcases List.mem_cons.mp hb with rfl | hb
  · exact Nat.lt_succ_self _
  · rcases List.mem_cons.mp hb with rfl | hb
    · exact Nat.lt_succ_of_lt hlt
    · cases hb
theorem old_keptT {o' : Obj} {h' : Heap} (hk : ∀ b o, b ∉ [s.heap.objs.size] → (s.heap.push o').get? b = some o → h'.get? b = some o) :
    ∀ b o, s.heap.get? b = some o → h'.get? b = some o := fun b o e => by
  refine hk b o (fun hm => ?_) (Heap.get?_push_of_some _ e)
  rcases List.mem_cons.mp hm with e1 | hm
  · exact absurd (e1 ▸ Heap.lt_size e) (Nat.lt_irrefl _)
  · cases hm
theorem max_intTup {Q : Value → Shared → Prop} (hh : A.handled = none) (hl : IsTup s.heap l (intItems xs)) (hne : 0 < xs.size)
    (h : ∀ v h' tk, (intItems xs)[argBest (fun i j => decide (numAt xs i > numAt xs j)) (xs.size - 1)]? = some v → (∀ b o, s.heap.get? b = some o → h'.get? b = some o) → Q v { s with heap := h', toks := tk }) :
    wpAny (model prog w) A (call (.builtin "max") [.ref l]) Q E s := by
  refine call_max_walk (iter_intTup hl fun s₂ e st hfp hlI => ?_)
  subst e
  refine ⟨_, _, _, _, _, _, _, rfl, Walks.tuple (A := A.in1) hh _ l hlI (intItems xs), st, hfp, by simpa [intItems] using hne, CmpOf.ints_gt (numAt xs) (fun _ _ => intItems_at), fun v h' tk hP hk => ?_⟩
  exact h v h' tk (by simpa [intItems] using hP) (old_keptT hk)
theorem min_intTup {Q : Value → Shared → Prop} (hh : A.handled = none) (hl : IsTup s.heap l (intItems xs)) (hne : 0 < xs.size)
    (h : ∀ v h' tk, (intItems xs)[argBest (fun i j => decide (numAt xs i < numAt xs j)) (xs.size - 1)]? = some v → (∀ b o, s.heap.get? b = some o → h'.get? b = some o) → Q v { s with heap := h', toks := tk }) :
    wpAny (model prog w) A (call (.builtin "min") [.ref l]) Q E s := by
  refine call_min_walk (iter_intTup hl fun s₂ e st hfp hlI => ?_)
  subst e
  refine ⟨_, _, _, _, _, _, _, rfl, Walks.tuple (A := A.in1) hh _ l hlI (intItems xs), st, hfp, by simpa [intItems] using hne, CmpOf.ints_lt (numAt xs) (fun _ _ => intItems_at), fun v h' tk hP hk => ?_⟩
  exact h v h' tk (by simpa [intItems] using hP) (old_keptT hk)
end
theorem compcap3 {N' N : List Str} {scope : Scope} {lv a b c : Nat} {x y z : Str} (h1 : N'[lv]? = some x) (h2 : N[a]? = some x) (h3 : scope.names.lookup x = some .free) (h4 : N'[lv + 1]? = some y) (h5 : N[b]? = some y) (h6 : scope.names.lookup y = some .free) (h7 : N'[lv + 2]? = some z) (h8 : N[c]? = some z) (h9 : scope.names.lookup z = some .free) :
    ∀ (p j : Nat), ([a, b, c] : List Nat)[p]? = some j → ∃ x, N'[lv + p]? = some x ∧ N[j]? = some x ∧ scope.names.lookup x = some .free := fun p j h => by
  match p with
  | 0 => have e : a = j := by simpa using h
         subst e; exact ⟨x, h1, h2, h3⟩
  | 1 => have e : b = j := by simpa using h
         subst e; exact ⟨y, h4, h5, h6⟩
  | 2 => have e : c = j := by simpa using h
         subst e; exact ⟨z, h7, h8, h9⟩
  | p + 3 => simp at h
theorem SqT.up {K : PySem.W.Frag} {H H' : Hp} {a : Addr} {xs : List V} (h : SqT K H a xs) (e : Same H H') : SqT K H' a xs := by
  rcases h with (h | ⟨o, h⟩) | h
  · exact .inl (.inl (e _ _ h))
  · exact .inl (.inr ⟨o, e _ _ h⟩)
  · exact .inr h
section
variable {X : Cx}
inductive rBestT (le : Int → Int → Prop) (xs : List V) (H : Hp) (Q : VK) : Prop
  | mk (p : Addr) (ns : List Int) (e : xs = [.ref p]) (s : SqT [] H p (ns.map V.int)) (n : ns ≠ []) (q : ∀ m, m ∈ ns → (∀ a ∈ ns, le m a) → Q (.int m) H) : rBestT le xs H Q
theorem call_minT (hc : X.calm = true) : CallR X (.builtin "min") (rBestT fun m a => m ≤ a) := by
  intro pins s σ H xs us Q I r h
  obtain ⟨p, ns, rfl, hq, hne, q⟩ := h
  obtain ⟨u, rfl, rx⟩ := vals1 r
  cases rx
  obtain ⟨its, rv, pl, hz⟩ := I.tuple hq.any
  have hI := intsAre_of rv
  obtain ⟨xs, e⟩ := hI.allInts.items
  have hns : ns = xs.toList.map (·.1) := by rw [← hI.numsOf, ← nums_intItems, ← e]
  have hsz : 0 < xs.size := by
    have h3 : 0 < ns.length := List.length_pos_iff.mpr hne
    rw [hns, List.length_map, Array.length_toList] at h3; exact h3
  rw [e] at pl
  refine min_intTup (I.ok.hd hc) pl hsz fun v h' tk hv hk => ?_
  obtain ⟨t, rfl⟩ := intItems_at hv
  obtain ⟨h1, h2⟩ := argBest_lt (numAt xs) (xs.size - 1)
  refine ⟨.int _, H, I.kept hk, ⟨t, rfl⟩, q _ ?_ fun a ha => ?_⟩
  · rw [hns, numAt_eq]; exact PySem.getD_mem (by rw [List.length_map, Array.length_toList]; omega)
  · rw [hns] at ha
    obtain ⟨j, hj, rfl⟩ := mem_getD ha
    rw [List.length_map, Array.length_toList] at hj
    rw [← numAt_eq]; exact h2 j (by omega)
theorem call_maxT (hc : X.calm = true) : CallR X (.builtin "max") (rBestT fun m a => a ≤ m) := by
  intro pins s σ H xs us Q I r h
  obtain ⟨p, ns, rfl, hq, hne, q⟩ := h
  obtain ⟨u, rfl, rx⟩ := vals1 r
  cases rx
  obtain ⟨its, rv, pl, hz⟩ := I.tuple hq.any
  have hI := intsAre_of rv
  obtain ⟨xs, e⟩ := hI.allInts.items
  have hns : ns = xs.toList.map (·.1) := by rw [← hI.numsOf, ← nums_intItems, ← e]
  have hsz : 0 < xs.size := by
    have h3 : 0 < ns.length := List.length_pos_iff.mpr hne
    rw [hns, List.length_map, Array.length_toList] at h3; exact h3
  rw [e] at pl
  refine max_intTup (I.ok.hd hc) pl hsz fun v h' tk hv hk => ?_
  obtain ⟨t, rfl⟩ := intItems_at hv
  obtain ⟨h1, h2⟩ := argBest_gt (numAt xs) (xs.size - 1)
  refine ⟨.int _, H, I.kept hk, ⟨t, rfl⟩, q _ ?_ fun a ha => ?_⟩
  · rw [hns, numAt_eq]; exact PySem.getD_mem (by rw [List.length_map, Array.length_toList]; omega)
  · rw [hns] at ha
    obtain ⟨j, hj, rfl⟩ := mem_getD ha
    rw [List.length_map, Array.length_toList] at hj
    rw [← numAt_eq]; exact h2 j (by omega)
theorem SqT.plain {H : Hp} {a : Addr} {xs : List V} (h : H a = some (.tup xs)) : SqT [] H a xs := SqT.of h
theorem cat_tup0 {prog : Program} {w : World} {A : Around} {E : Value → Shared → Prop} {s : Shared} {t b : Addr} {ws : List Value} {Q : Value → Shared → Prop} (ht : IsTup s.heap t ([] : List Value).toArray) (hb : IsTup s.heap b ws.toArray) (h1 : Q (.ref b) s) :
    wpAny (model prog w) A (binaryOp .Add (.ref t) (.ref b)) Q E s := by
  obtain ⟨⟨cls, dd, data, sl⟩, ho, hc, n, hd⟩ := id ht
  obtain ⟨⟨cls2, dd2, data2, sl2⟩, ho2, hc2, n2, hd2⟩ := id hb
  simp only at hc hd hc2 hd2
  subst hc hd hc2 hd2
  exact concat_meets ⟨_, ho, rfl⟩ ⟨_, ho2, rfl⟩ noFill_tuple_add seq_tuple_add PySem.F.slot_tuple_add PySem.F.entry_tuple_add (PySem.F.args_tuple_add_2 _ _)
      (tuple_addW0 t b ([] : List Value).toArray ws.toArray n n2 dd dd2 sl sl2 rfl) ⟨ho, ho2, h1⟩
inductive rCatTA (x y : V) (H : Hp) (Q : VK) : Prop
  | mk (a b : Addr) (xs ys : List V) (ex : x = .ref a) (ey : y = .ref b) (s : SqT [] H a xs) (s' : SqT [] H b ys) (z : xs.length + ys.length ≤ sizeLine)
      (q : ∀ p H', Same H H' → SqT [] H' p (xs ++ ys) → Q (.ref p) H') : rCatTA x y H Q
theorem op0catTA : OpR X (binaryOp .Add) rCatTA := fun pins s σ H x y v u Q I rx ry h => by
  obtain ⟨a, b, xs, ys, rfl, rfl, h1, h2, z, q⟩ := h
  by_cases hx : xs = []
  · subst hx
    cases rx
    cases ry
    obtain ⟨its, r1, p1, _⟩ := I.tuple h1.any
    obtain ⟨its2, r2, p2, _⟩ := I.tuple h2.any
    cases r1
    exact cat_tup0 p1 p2 ⟨.ref b, H, I, rfl, q b H (Same.refl H) h2⟩
  · refine op_catT pins s σ H _ _ v u Q I rx ry ⟨a, b, xs, ys, rfl, rfl, h1.any, h2.any, hx, z, fun hy => ?_, fun _ p hp => ?_⟩
    · subst hy
      exact q a H (Same.refl H) (by rw [List.append_nil]; exact h1)
    · exact q p _ (Same.new hp) (SqT.plain upd_same)
end
end L2
set_option Elab.async false
set_option linter.all false
set_option maxRecDepth 100000
set_option maxHeartbeats 2000000
namespace L2
open PySem PySem.Spec PyProof.Rows
theorem cells_app : ∀ (ns : List (Str × NameKind)) (n : Nat) (acc : List (Str × Addr)), cellsFrom n ns acc = cellsFrom n ns [] ++ acc
  | [], _, _ => rfl
  | (x, k) :: r, n, acc => by
    unfold cellsFrom
    split
    · rw [cells_app r _ ((x, n) :: acc), cells_app r _ [(x, n)], List.append_assoc]; rfl
    · exact cells_app r n acc
theorem cells_name : ∀ {ns : List (Str × NameKind)} {n : Nat} {acc : List (Str × Addr)} {x : Str} {c : Addr}, (x, c) ∈ cellsFrom n ns acc → (x, c) ∈ acc ∨ (x, NameKind.cell) ∈ ns
  | [], _, _, _, _, h => .inl h
  | (y, k) :: r, n, acc, x, c, h => by
    unfold cellsFrom at h
    split at h
    · rename_i hk
      rcases cells_name h with z | z
      · rcases List.mem_cons.mp z with z | z
        · cases z; rw [beq_iff_eq.mp hk]; exact .inr (.head _)
        · exact .inl z
      · exact .inr (.tail _ z)
    · rcases cells_name h with z | z
      · exact .inl z
      · exact .inr (.tail _ z)
theorem cells_has : ∀ {ns : List (Str × NameKind)} {n : Nat} {acc : List (Str × Addr)} {x : Str}, (x, NameKind.cell) ∈ ns → ∃ c, (x, c) ∈ cellsFrom n ns acc
  | (y, k) :: r, n, acc, x, h => by
    unfold cellsFrom
    rcases List.mem_cons.mp h with z | z
    · cases z
      rw [if_pos (show (NameKind.cell == NameKind.cell) = true from rfl), cells_app]
      exact ⟨n, List.mem_append_right _ (.head _)⟩
    · split
      · exact cells_has z
      · exact cells_has z
noncomputable def newC (scope : Scope) (C : Addr) : List (Str × Addr) := cellsFrom (C + 1) scope.names []
theorem newEnvC {M : Model} {A : Around} {E : Value → Shared → Prop} {s : Shared} {scope : Scope} {globals : Addr} {cl : List (Str × Addr)} {qual : Str} {env : Env} {Q : Env → Shared → Prop}
    (h : Q (newEnv scope s.heap.objs.size globals (newC scope s.heap.objs.size ++ cl) qual none .none (some env) builtinsNs) { s with heap := pushCells (s.heap.push { cls := .type "dict", data := .dict #[] }) scope.names }) :
    wpAny M A (newFunctionEnv scope globals cl [] qual none .none (some env)) Q E s := by
  simp only [newFunctionEnv, Option.isSome_some, if_true]
  refine wpAny_bind (wpAny_alloc ?_)
  refine wpAny_bind (wpAny_layCells _ (fun name kind cells => by cases hkc : kind == NameKind.cell <;> simp [hkc]) _ _ _ _ ?_)
  rw [show ({ s with heap := s.heap.push { cls := .type "dict", data := .dict #[] } } : Shared).heap.objs.size = s.heap.objs.size + 1 from Heap.size_push .., cells_app]
  exact wpAny_bind (wpAny_pure (wpAny_pure h))
noncomputable def Cx.compC (X : Cx) (scope : Scope) (C : Addr) (N' : List Str) (s : Shared) (H : Hp) (fp : List Addr) : Cx where
  prog := X.prog
  w := X.w
  K := X.K
  mg := X.mg
  base := X.base
  A := X.A
  N := N'
  s₀ := s
  H₀ := H
  env := compEnvC scope (newC scope C ++ clOf scope X.env) C X.env
  outer := X.stack
  stack := X.stack
  ex := fp
  fn := fun x => ((newC scope C).lookup x).isSome
  calm := X.calm
  pn := []
  xe := fun _ _ => False
structure CompOkC (X : Cx) (scope : Scope) (lv : Nat) (caps : List Nat) (N' : List Str) : Prop where
  kind : scope.kind = .function
  own : ∀ y ∈ scope.names, y.2 = .cell → scope.names.lookup y.1 = some .cell
  free : ∀ y ∈ scope.names, y.2 = .free → X.env.kindOf y.1 = some .cell ∨ X.env.kindOf y.1 = some .free
  loc : ∀ y ∈ scope.names, y.2 = .local → scope.names.lookup y.1 = some .local
  len : N'.length = lv + caps.length
  cap : ∀ (p : Nat) (j : Nat), caps[p]? = some j → ∃ x, N'[lv + p]? = some x ∧ X.N[j]? = some x ∧ scope.names.lookup x = some .free
noncomputable def okNames (scope sc : Scope) : Bool := scope.names.all fun y => match y.2 with
  | .cell => false
  | .free => sc.names.lookup y.1 == some .cell || sc.names.lookup y.1 == some .free
  | .local => scope.names.lookup y.1 == some .local
  | _ => true
noncomputable def okNamesC (scope sc : Scope) : Bool := scope.names.all fun y => match y.2 with
  | .cell => scope.names.lookup y.1 == some .cell
  | .free => sc.names.lookup y.1 == some .cell || sc.names.lookup y.1 == some .free
  | .local => scope.names.lookup y.1 == some .local
  | _ => true
theorem CompOk.rf {X : Cx} {scope : Scope} {lv : Nat} {caps : List Nat} {N' : List Str} (kind : scope.kind = .function) (h : okNames scope X.env.scope = true) (len : N'.length = lv + caps.length)
    (cap : ∀ (p : Nat) (j : Nat), caps[p]? = some j → ∃ x, N'[lv + p]? = some x ∧ X.N[j]? = some x ∧ scope.names.lookup x = some .free) : CompOk X scope lv caps N' := by
  have h := List.all_eq_true.mp h
  refine ⟨kind, fun y hy e => ?_, fun y hy e => ?_, fun y hy e => ?_, len, cap⟩
  · have := h y hy; simp only [e] at this; cases this
  · have := h y hy; simp only [e, Bool.or_eq_true, beq_iff_eq] at this; exact this
  · have := h y hy; simp only [e, beq_iff_eq] at this; exact this
theorem CompOkC.rf {X : Cx} {scope : Scope} {lv : Nat} {caps : List Nat} {N' : List Str} (kind : scope.kind = .function) (h : okNamesC scope X.env.scope = true) (len : N'.length = lv + caps.length)
    (cap : ∀ (p : Nat) (j : Nat), caps[p]? = some j → ∃ x, N'[lv + p]? = some x ∧ X.N[j]? = some x ∧ scope.names.lookup x = some .free) : CompOkC X scope lv caps N' := by
  have h := List.all_eq_true.mp h
  refine ⟨kind, fun y hy e => ?_, fun y hy e => ?_, fun y hy e => ?_, len, cap⟩
  · have := h y hy; simp only [e, beq_iff_eq] at this; exact this
  · have := h y hy; simp only [e, Bool.or_eq_true, beq_iff_eq] at this; exact this
  · have := h y hy; simp only [e, beq_iff_eq] at this; exact this
section
variable {X : Cx} {pins : List (Addr × Obj)} {σ : St} {H : Hp} {s : Shared}
theorem relabel_kindC {scope : Scope} {env : Env} {x : Str} {k : NameKind} (h : (relabel scope env).names.lookup x = some k) (hk : k = .cell ∨ k = .free) : (x, NameKind.free) ∈ scope.names ∨ (x, NameKind.cell) ∈ scope.names := by
  have hm := PySem.mem_of_lookup h
  obtain ⟨⟨n, k'⟩, h1, h2⟩ := List.mem_map.mp hm
  dsimp only at h2
  split at h2
  · rename_i hif
    cases h2
    have : k' = .free := by
      simp only [Bool.and_eq_true, beq_iff_eq] at hif
      exact hif.1.1
    subst this
    exact .inl h1
  · cases h2
    rcases hk with rfl | rfl
    · exact .inr h1
    · exact .inl h1
structure NewOk (scope : Scope) (C : Addr) (h₁ : Heap) : Prop where
  empty : ∀ n c, (n, c) ∈ newC scope C → h₁.IsCell c none ∧ C + 1 ≤ c
  apart : (newC scope C).Pairwise fun x y => x.2 ≠ y.2
theorem look_new {scope : Scope} {C : Addr} {cl : List (Str × Addr)} {x : Str} {c : Addr} (h : (newC scope C ++ cl).lookup x = some c) : (newC scope C).lookup x = some c ∨ ((newC scope C).lookup x = none ∧ cl.lookup x = some c) := by
  rw [List.lookup_append] at h
  cases e : (newC scope C).lookup x with
  | none => rw [e] at h; exact .inr ⟨rfl, h⟩
  | some c' => rw [e] at h; exact .inl h
theorem inv_compC {scope : Scope} {lv : Nat} {caps : List Nat} {N' : List Str} {fp : List Addr} {h₁ : Heap} (ok : CompOkC X scope lv caps N') (I : Inv X pins σ H s) (hf : ∀ b ∈ fp, FpOk X pins H b)
    (hns : h₁.Ns s.heap.objs.size fun _ => none) (hk : ∀ b o, s.heap.get? b = some o → h₁.get? b = some o) (hfp : ∀ b ∈ fp, b < s.heap.objs.size) (nc : NewOk scope s.heap.objs.size h₁) (t' : Nat) :
    Inv (X.compC scope s.heap.objs.size N' s H fp) [] (seen lv caps σ) H { s with heap := h₁, toks := t' } := by
  have old : ∀ {x : Str} {c : Addr}, (clOf scope X.env).lookup x = some c → c < s.heap.objs.size := fun {x c} e => by
    obtain ⟨v, hv⟩ := I.cell x c (cl_look e)
    exact hv.lt
  have young : ∀ {x : Str} {c : Addr}, (newC scope s.heap.objs.size).lookup x = some c → s.heap.objs.size + 1 ≤ c := fun {x c} e => (nc.empty x c (PySem.mem_of_lookup e)).2
  have notNew : ∀ {x : Str}, scope.names.lookup x = some .free → (newC scope s.heap.objs.size).lookup x = none := fun {x} e => by
    cases z : (newC scope s.heap.objs.size).lookup x with
    | none => rfl
    | some c =>
      rcases cells_name (PySem.mem_of_lookup z) with y | y
      · cases y
      · have := ok.own _ y rfl
        rw [e] at this; cases this
  refine ⟨⟨I.ok.mod, ok.kind, I.ok.glob, I.ok.blt, Nat.le_refl _, fun x y c h1 h2 => ?_, fun x hx => ?_, fun x c h e => ?_, I.ok.hd, I.ok.frames, .inl rfl, fun b hb => ⟨Nat.ne_of_lt (hfp b hb), fun x c e => ?_⟩,
    I.bs, Nat.le_trans I.ok.bsz I.sz, fun b o e hb => ?_, fun b hb hfs => ?_, I.stack, I.stkFree⟩, rfl, I.bare, Un.kept hk, ⟨_, hns, fun i x v h1 h2 h3 => ?_⟩, fun x c e => ?_, I.fresh, fun x c e => ?_, fun p hp => absurd (show p ∈ ([] : List (Addr × Obj)) from hp) (by simp), I.hok.kept hk, ?_⟩
  · rcases look_new h1 with a | ⟨_, a⟩ <;> rcases look_new h2 with b | ⟨_, b⟩
    · exact name_of_addr nc.apart (PySem.mem_of_lookup a) (PySem.mem_of_lookup b)
    · exact absurd (Nat.lt_of_lt_of_le (Nat.lt_of_lt_of_le (old b) (Nat.le_succ _)) (young a)) (Nat.lt_irrefl _)
    · exact absurd (Nat.lt_of_lt_of_le (Nat.lt_of_lt_of_le (old a) (Nat.le_succ _)) (young b)) (Nat.lt_irrefl _)
    · exact I.ok.inj x y c (cl_look a) (cl_look b)
  · have hm : (x, NameKind.free) ∈ scope.names ∨ (x, NameKind.cell) ∈ scope.names := by
      rcases hx with hx | hx
      · exact relabel_kindC hx (.inl rfl)
      · exact relabel_kindC hx (.inr rfl)
    show ∃ c, (newC scope s.heap.objs.size ++ clOf scope X.env).lookup x = some c
    rcases hm with hm | hm
    · obtain ⟨c, hc⟩ := I.ok.has x (ok.free _ hm rfl)
      exact look_of_mem (List.mem_append_right _ (clIn_has hc hm))
    · obtain ⟨c, hc⟩ := cells_has (n := s.heap.objs.size + 1) (acc := []) hm
      exact look_of_mem (List.mem_append_left _ hc)
  · have h : ((newC scope s.heap.objs.size).lookup x).isSome = true := h
    show s.heap.objs.size ≤ c
    rcases look_new e with a | ⟨a, _⟩
    · exact Nat.le_of_succ_le (young a)
    · rw [a] at h; cases h
  · rcases look_new e with a | ⟨_, a⟩
    · exact fun z => absurd (Nat.lt_of_lt_of_le (Nat.lt_of_lt_of_le (hfp b hb) (Nat.le_succ _)) (z ▸ young a)) (Nat.lt_irrefl _)
    · exact (hf b hb).2.2.2.2.1 x c (cl_look a)
  · rcases (hf b hb).2.2.2.1 with z | z
    · exact I.ok.noex b o e z
    · exact absurd (Nat.lt_of_lt_of_le (Heap.lt_size (I.ok.bs b o e).1) z) (Nat.lt_irrefl _)
  · rcases List.mem_cons.mp (I.stkSub b hfs) with z | z
    · exact (hf b hb).2.1 z
    · exact (hf b hb).2.2.1 z
  · unfold seen at h2
    rcases Nat.lt_or_ge i lv with hi | hi
    · rw [List.getElem?_append_left (by simpa using hi), List.getElem?_replicate_of_lt hi] at h2
      cases h2
    · rw [List.getElem?_append_right (by simpa using hi), List.length_replicate, List.getElem?_map] at h2
      cases hj : caps[i - lv]? with
      | none => rw [hj] at h2; cases h2
      | some j =>
        rw [hj] at h2
        have h2' : (σ[j]?).join = some v := Option.some.inj h2
        obtain ⟨x', e1, e2, e3⟩ := ok.cap (i - lv) j hj
        rw [show lv + (i - lv) = i by omega] at e1
        have h1' : N'[i]? = some x := h1
        rw [h1'] at e1; cases e1
        have hσ : σ[j]? = some (some v) := by
          cases q : σ[j]? with
          | none => rw [q] at h2'; cases h2'
          | some o => rw [q] at h2'; cases o with
            | none => cases h2'
            | some v' => have : some v' = some v := h2'; cases this; rfl
        have hk' := ok.free (x, .free) (PySem.mem_of_lookup e3) rfl
        obtain ⟨m, _, hl⟩ := I.loc
        have hv : Vis X.env.scope x := by rcases hk' with z | z; exact .inr (.inl z); exact .inr (.inr z)
        obtain ⟨u, r, l⟩ := hl j x v e2 hσ hv
        refine ⟨u, r, .inr ⟨?_, ?_⟩⟩
        · exact (lookup_relabel_free (env := X.env) e3).symm
        · rcases l with ⟨k, _⟩ | ⟨k, c, e, o, ho, hd⟩
          · rcases hk' with z | z
            · rw [k] at z; cases z
            · rw [k] at z; cases z
          · obtain ⟨c', hc'⟩ := look_of_mem (clIn_has (cs := []) e (PySem.mem_of_lookup e3))
            have := cl_look (scope := scope) (env := X.env) hc'
            rw [e] at this; cases this
            exact ⟨c, by show (newC scope s.heap.objs.size ++ clOf scope X.env).lookup x = some c; rw [List.lookup_append, notNew e3]; exact hc', o, hk c o ho, hd⟩
  · rcases look_new e with a | ⟨_, a⟩
    · exact ⟨none, (nc.empty x c (PySem.mem_of_lookup a)).1⟩
    · obtain ⟨v, o, ho, hd⟩ := I.cell x c (cl_look a)
      exact ⟨v, o, hk c o ho, hd⟩
  · rcases look_new e with a | ⟨_, a⟩
    · exact I.hok.fresh (Nat.le_of_succ_le (young a))
    · exact I.freeC x c (cl_look a)
  · show (seen lv caps σ).length = N'.length
    unfold seen
    rw [List.length_append, List.length_replicate, List.length_map, ok.len]
theorem comp_loopC {elt iter c : Expr} {tg : Expr} {pos : Pos} {scope : Scope} {g : TG} {tc : TT} {te : TE} {lv : Nat} {caps : List Nat} {N' : List Str} {fp : List Addr} {it D C : Addr} {tn : Nat → Heap → Prop} {J : It} {H3 : Hp} {s3 s4 : Shared} {Q : VK} {W : Nat → Nat → List V → Hp → Prop} {m0 : Nat}
    (hc : X.calm = true) (T : Turn X.prog X.w X.K tg J fp it tn) (hC : s3.heap.objs.size ≤ C) (I3 : Inv X pins σ H3 s3) (f3 : ∀ b ∈ fp, FpOk X pins H3 b) (hCf : ∀ b ∈ fp, b ≠ C) (I4 : Inv (X.compC scope C N' s3 H3 fp) [] (seen lv caps σ) H3 s4) (st4 : tn 0 s4.heap) (w0 : W 0 m0 [] H3)
    (turn : ∀ i m ys H, W i m ys H → H D = some (.lst ys) ∧ ys.length < sizeLine ∧ ((J.stop i H ∧ Q (.ref D) H) ∨ (J.go i H ∧ ∀ x H', J.yld i H x H' → g x (seen lv caps σ) H' fun σ2 H2 => tc σ2 H2 fun b H2' => if b = true then te σ2 H2' fun v H3 => H3 D = some (.lst ys) ∧
      ∃ m', m' < m ∧ W (i + 1) m' (ys ++ [v]) (upd H3 D (.lst (ys ++ [v]))) else ∃ m', m' < m ∧ W (i + 1) m' ys H2')))
    (hgk : GKeep g lv caps) (hg : PG (X.compC scope C N' s3 H3 fp) tg g) {xe : Value → Shared → Prop} {R : Result → Shared → Prop}
    (hstop : ∀ H5 s6, Inv (X.compC scope C N' s3 H3 fp) [] (seen lv caps σ) H5 s6 → Q (.ref D) H5 → R (.ok .next) s6)
    (herr : ∀ e s', xe e s' → notedBy (model X.prog X.w) X.A (compEnvC scope (newC scope C ++ clOf scope X.env) C X.env) (fun e s' => R (.error e) s') e s')
    (hct : PT ((X.compC scope C N' s3 H3 fp).wish xe) c tc) (he : PE ((X.compC scope C N' s3 H3 fp).wish xe) elt te) :
    codeAny (model X.prog X.w) X.A (.compLoop (.ListComp elt [⟨tg, iter, [c], 0⟩] scope pos) 0 (.ref it) (.ref D) (compEnvC scope (newC scope C ++ clOf scope X.env) C X.env)) R s4 := by
  have stat : ∀ {H' : Hp}, (∀ b ∈ fp, H' b = none) → ∀ b ∈ fp, FpOk (X.compC scope C N' s3 H3 fp) [] H' b := fun {H'} hn b hb =>
    ⟨hn b hb, hCf b hb, fun z => I4.ok.exfs b hb z, .inl hb, fun y c e => (I4.ok.exf b hb).2 y c e, fun p hp => absurd (show p ∈ ([] : List (Addr × Obj)) from hp) (by simp)⟩
  refine compLoop_if (fun n s' => ∃ i ys H', Inv (X.compC scope C N' s3 H3 fp) [] (seen lv caps σ) H' s' ∧ tn i s'.heap ∧ (∀ b ∈ fp, H' b = none) ∧ W i n ys H') ?_ m0 ⟨0, [], _, I4, st4, fun b hb => (f3 b hb).1, w0⟩
  rintro n s5 ⟨i, ys, H5, I5, st5, fr5, w5⟩
  obtain ⟨hD, hlen, hcase⟩ := turn i n ys H5 w5
  rcases hcase with ⟨stop, q⟩ | ⟨go, step⟩
  · refine thn (T.done (X.compC scope C N' s3 H3 fp) rfl rfl rfl hc i [] s5 _ H5 _ I5 (stat fr5) st5 stop) fun r s6 hr => ?_
    obtain ⟨hr, I6⟩ := hr
    subst hr
    exact hstop _ _ I6 q
  · refine thn (T.item (X.compC scope C N' s3 H3 fp) rfl rfl rfl hc i [] s5 _ H5 _ I5 (stat fr5) st5 go) fun r s6 hr => ?_
    obtain ⟨u, hr, h6⟩ := hr
    subst hr
    refine thn h6 fun _ s7 h7 => ?_
    obtain ⟨y, H7, I7, r7, y7, st7, fr7⟩ := h7
    have I7' := I7.pinned (stat fr7) (T.obj _ _ st7)
    refine wpAny_mono (hg _ s7 _ H7 y u _ I7' r7 (hgk σ y H7 _ (step y H7 y7))) (fun _ s8 h8 => ?_) (fun _ _ z => z.elim)
    obtain ⟨σ8, H8, I8, q8, ks⟩ := h8
    refine wpAny_mono (hct _ s8 σ8 H8 _ (I8.wish _) q8) (fun b s8' hb => ?_) (fun e s9 z => herr e s9 z)
    obtain ⟨H8', I8', q8'⟩ := hb
    cases b with
    | true =>
      have q8' : te σ8 H8' _ := q8'
      show wpAny _ _ _ _ _ s8'
      refine wpAny_mono (he _ s8' σ8 H8' _ I8' q8') (fun v s9 h9 => ?_) (fun e s9 z => herr e s9 z)
      obtain ⟨z9, H9, I9, r9, hD9, m', hm', w9⟩ := h9
      have I9 := I9.unwish
      refine wpAny_mono (mt_append (X := X.compC scope C N' s3 H3 fp) _ s9 σ8 H9 (.ref D) [z9] (.ref D) [v] (fun _ H' => H' = upd H9 D (.lst (ys ++ [z9]))) I9 rfl (.cons r9 .nil) ⟨D, ys, z9, rfl, rfl, hD9, hlen, rfl⟩) (fun _ s10 h10 => ?_) (fun _ _ z => z.elim)
      obtain ⟨_, H10, I10, _, rfl⟩ := h10
      refine ⟨m', hm', i + 1, ys ++ [z9], _, I10.unpinned.weak ?_ ?_, T.keep _ _ _ st7 fun b hb o e => (I10.pin (b, o) (List.mem_append_right _ (List.mem_append_right _ (mem_pinsAt hb e)))).1, fun b hb => ?_, w9⟩
      · rw [I10.len]; exact I4.len
      · exact ks
      · obtain ⟨o, e, d⟩ := T.obj _ _ st7 b hb
        exact (I10.pin (b, o) (List.mem_append_right _ (List.mem_append_right _ (mem_pinsAt hb e)))).2.1
    | false =>
      have q8' : ∃ m', m' < n ∧ W (i + 1) m' ys H8' := q8'
      obtain ⟨m', hm', w9⟩ := q8'
      have I10 := I8'.unwish
      show ∃ m, m < n ∧ _
      refine ⟨m', hm', i + 1, ys, _, I10.unpinned.weak ?_ ?_, T.keep _ _ _ st7 fun b hb o e => (I10.pin (b, o) (List.mem_append_right _ (mem_pinsAt hb e))).1, fun b hb => ?_, w9⟩
      · rw [I10.len]; exact I4.len
      · exact ks
      · obtain ⟨o, e, d⟩ := T.obj _ _ st7 b hb
        exact (I10.pin (b, o) (List.mem_append_right _ (mem_pinsAt hb e))).2.1
theorem comp_backC {scope : Scope} {lv : Nat} {caps : List Nat} {N' : List Str} {fp : List Addr} {C : Addr} {H3 H5 : Hp} {s3 s6 : Shared} {h' : Heap} (hC : s3.heap.objs.size ≤ C) (I3 : Inv X pins σ H3 s3) (f3 : ∀ b ∈ fp, FpOk X pins H3 b)
    (I6 : Inv (X.compC scope C N' s3 H3 fp) [] (seen lv caps σ) H5 s6) (hs' : Heap.SameBut C s6.heap h') : Inv X pins σ H5 { s6 with heap := h' } := by
  have ub := I6.base
  have neC : ∀ b o, s3.heap.get? b = some o → b ≠ C := fun b o q => Nat.ne_of_lt (Nat.lt_of_lt_of_le (Heap.lt_size q) hC)
  refine I3.call' (ch := fp) (s' := { s6 with heap := h' }) I6.os ⟨fun b o q n hb hx => (hs'.2 b (neC b o q)).trans (ub.keep b o q n hb hx), fun b o q n hb hx => ?_, ub.free, fun b o q hx => ?_, ub.tups, ub.frzs, ub.tbls⟩ ?_ I6.bare (fun b hb => ?_)
  · obtain ⟨sl, e⟩ := ub.slot b o q n hb hx
    exact ⟨sl, (hs'.2 b (neC b o q)).trans e⟩
  · obtain ⟨o', e⟩ := ub.there b o q hx
    exact ⟨o', (hs'.2 b (neC b o q)).trans e⟩
  · intro b o q
    refine (I6.hok b o q).stay (fun c u hc' q' => (hs'.2 c ?_).trans q') (fun _ z => z) fun _ _ z => z
    intro ec
    have fC : H5 C = none := I6.free
    rcases hc' with z | z
    · rw [← z, ec, fC] at q; cases q
    · rw [ec, fC] at z; cases z
  · obtain ⟨_, y1, _, y3, y4, y5⟩ := f3 b hb
    exact ⟨y3, y1, y4, y5⟩
theorem comp_useC {scope : Scope} {lv : Nat} {caps : List Nat} {N' : List Str} {fp : List Addr} {C : Addr} {H3 H5 : Hp} {s3 s6 : Shared} {i : Nat} {y : Str} {py : Pos} {v : V} {u : Value} {D : Ends} (hC : s3.heap.objs.size ≤ C) (I3 : Inv X pins σ H3 s3) (f3 : ∀ b ∈ fp, FpOk X pins H3 b)
    (hN : X.N.Nodup) (hi : X.N[i]? = some y) (hx : Loc X.env.scope y) (hf : X.fn y = true ∨ X.env.scope.names.lookup y = some .local)
    (I6 : Inv (X.compC scope C N' s3 H3 fp) [] (seen lv caps σ) H5 s6) (r : RelV v u) (q : D.nx (σ.set i (some v)) H5) :
    compPost (model X.prog X.w) X.A X.xe (some (assign (.Name y py) X.env)) (fun _ s' => SP X pins D .next s') u C (.ok .next) s6 := by
  have I := comp_backC hC I3 f3 I6 (Heap.SameBut.refl C s6.heap)
  obtain ⟨m, hn, _⟩ := I6.loc
  have hn : s6.heap.Ns C m := hn
  have cL : C ≠ X.env.locals := fun z => Nat.lt_irrefl _ (Nat.lt_of_lt_of_le (z ▸ I3.lt) hC)
  have cc : ∀ x c, X.env.cells.lookup x = some c → c ≠ C := fun x c e z => by
    obtain ⟨v, o, e', _⟩ := I3.cell x c e
    exact Nat.lt_irrefl _ (Nat.lt_of_lt_of_le (z ▸ Heap.lt_size e') hC)
  show wpAny _ _ (assign (.Name y py) X.env u) _ _ _
  refine wpAny_assign_Name (store_ok2 I hN hi hx r (fun s7 I7 ⟨a, sb, ha⟩ => ?_) hf)
  have aC : C ≠ a := fun z => by
    rcases ha with e | e
    · exact cL (z.trans e)
    · exact cc _ _ e z.symm
  refine ⟨m, hn.sameBut sb aC, fun h' hs' => ?_⟩
  refine ⟨_, H5, I7.turned (it := C) (t' := s7.toks) (fun b o hb e => (hs'.2 b hb).trans e) I6.free cL (.inr (Nat.le_trans I3.sz hC)) cc (fun p hp z => ?_), q⟩
  have := (I3.pin p hp).1
  exact Nat.lt_irrefl _ (Nat.lt_of_lt_of_le (z ▸ Heap.lt_size this) hC)
theorem ps_setFC {elt iter c : Expr} {tg : Expr} {pos spos py : Pos} {i : Nat} {y : Str} {scope : Scope} {wi : TI} {g : TG} {tc : TT} {te : TE} {lv : Nat} {caps : List Nat} {N' : List Str}
    (hN : X.N.Nodup) (hi' : X.N[i]? = some y) (hx : Loc X.env.scope y) (hc : X.calm = true) (ok : CompOkC X scope lv caps N') (hgk : GKeep g lv caps) (hi : PI X tg iter wi)
    (hg : ∀ C s H fp, PG (X.compC scope C N' s H fp) tg g) (hct : ∀ C s H fp, PT (X.compC scope C N' s H fp) c tc) (he : ∀ C s H fp, PE (X.compC scope C N' s H fp) elt te) (hs : ∀ y, foldedSetIterable iter X.env y = pure y := by intro _; rfl)
    (hsw : swapsWith (.ListComp elt [⟨tg, iter, [c], 0⟩] scope pos) (some (.Name y py)) spos.line X.env = pure true := by rfl) (hf : X.fn y = true ∨ X.env.scope.names.lookup y = some .local := by first | exact .inl rfl | exact .inr rfl | assumption) :
    PS X (.Assign [.Name y py] (.ListComp elt [⟨tg, iter, [c], 0⟩] scope pos) spos) (tAsg (tCompF wi g tc te lv caps) (gName i)) := by
  intro pins s σ H E I h
  rw [exec_Assign_Name_used _ _ _ _ hsw]
  refine wpAny_bind (wpAny_standAt (wpAny_bind ?_))
  show wpAny _ _ (do let _ ← comprehension (.ListComp elt [⟨tg, iter, [c], 0⟩] scope pos) scope X.env _ (newList []) false (eval iter X.env) (some (assign (.Name y py) X.env))) _ _ s
  refine wpAny_bind (thn (wpAny_comprehension_free (use := some (assign (.Name y py) X.env)) (Q := fun _ s' => SP X pins E .next s') rfl hs (closure_eq fun y hy hk => I.ok.has y.1 (ok.free y hy hk)) ok.kind ok.loc (thn (hi pins s σ H _ I h) fun v s1 h1 => thn h1 fun itv s2 h2 => ?_)) fun _ s' hq => wpAny_pure (wpAny_pure hq))
  obtain ⟨it, fp, tn, J, H2, e, I2, T, st2, f2, hW⟩ := h2
  subst e
  have fpl : ∀ b ∈ fp, b < s2.heap.objs.size := fun b hb => by obtain ⟨o, e, _⟩ := T.obj 0 _ st2 b hb; exact Heap.lt_size e
  refine wpAny_newObj_type ?_
  have I3 : Inv X pins σ (upd H2 s2.heap.objs.size (.lst [])) { s2 with heap := s2.heap.push { cls := .type "list", data := .seq ([] : List Value).toArray }, toks := s2.toks } := I2.lnew (its := []) .nil (Nat.zero_le _)
  obtain ⟨W, ⟨m0, w0⟩, turn⟩ := hW s2.heap.objs.size I2.fresh
  generalize hH3 : s2.heap.push { cls := .type "list", data := .seq ([] : List Value).toArray } = h3 at I3
  refine newEnvC ?_
  have hh : ({ s2 with heap := s2.heap.push { cls := .type "list", data := .seq ([] : List Value).toArray } } : Shared).heap = h3 := hH3
  have f3 : ∀ b ∈ fp, FpOk X pins (upd H2 s2.heap.objs.size (.lst [])) b := fun b hb => by
    obtain ⟨n, r⟩ := f2 b hb
    exact ⟨by rw [upd_ne (Nat.ne_of_lt (fpl b hb))]; exact n, r⟩
  have fpl3 : ∀ b ∈ fp, b < h3.objs.size := fun b hb => by rw [← hH3, Heap.size_push]; exact Nat.lt_succ_of_lt (fpl b hb)
  have hk3 : ∀ b o, h3.get? b = some o → (pushCells (h3.push { cls := .type "dict", data := .dict #[] }) scope.names).get? b = some o := fun b o q =>
    pushCells_keeps _ _ _ _ (Heap.get?_push_of_some _ q)
  have hns : (pushCells (h3.push { cls := .type "dict", data := .dict #[] }) scope.names).Ns h3.objs.size fun _ => none := (Heap.Ns.new h3 (.type "dict")).keeps (pushCells_keeps _ _)
  have okc := cellsFrom_ok scope.names (h3.push { cls := .type "dict", data := .dict #[] }) (h3.objs.size + 1) [] ⟨fun _ _ hm => (nomatch hm), List.Pairwise.nil⟩ (by rw [Heap.size_push]; exact Nat.le_refl _)
  rw [Heap.size_push] at okc
  have I4 := inv_compC ok I3 f3 hns hk3 fpl3 ⟨okc.empty, okc.apart⟩ s2.toks
  have st4 : tn 0 (pushCells (h3.push { cls := .type "dict", data := .dict #[] }) scope.names) := T.keep _ _ _ st2 fun b hb o q => hk3 b o (hH3 ▸ Heap.get?_push_of_some _ q)
  have loop := comp_loopC (Q := fun v H' => E.nx (σ.set i (some v)) H') (D := s2.heap.objs.size) (elt := elt) (iter := iter) (c := c) (pos := pos) (xe := fun _ _ => False) (s4 := { s2 with heap := pushCells (h3.push { cls := .type "dict", data := .dict #[] }) scope.names, toks := s2.toks }) hc T (Nat.le_refl _) I3 f3 (fun b hb => Nat.ne_of_lt (fpl3 b hb)) I4 st4 w0 turn hgk (hg _ _ _ _) (R := compPost (model X.prog X.w) X.A X.xe (some (assign (.Name y py) X.env)) (fun _ s' => SP X pins E .next s') (.ref s2.heap.objs.size) _) (fun H5 s6 I6 q => comp_useC (v := .ref s2.heap.objs.size) (Nat.le_refl _) I3 f3 hN hi' hx hf I6 rfl q) (fun e s' z => z.elim) (hct _ _ _ _) (he _ _ _ _)
  subst hH3
  exact codeAny_compStart_list loop (T.self _ 0 _ _ _ st4 loop)
end
inductive rCatTP (x y : V) (H : Hp) (Q : VK) : Prop
  | mk (a b : Addr) (xs ys : List V) (ex : x = .ref a) (ey : y = .ref b) (s : H a = some (.tup xs)) (s' : H b = some (.tup ys)) (z : xs.length + ys.length ≤ sizeLine)
      (q : ∀ p H', Same H H' → H' p = some (.tup (xs ++ ys)) → Q (.ref p) H') : rCatTP x y H Q
theorem op0catTP {X : Cx} : OpR X (binaryOp .Add) rCatTP := fun pins s σ H x y v u Q I rx ry h => by
  obtain ⟨a, b, xs, ys, rfl, rfl, h1, h2, z, q⟩ := h
  by_cases hx : xs = []
  · subst hx
    cases rx
    cases ry
    obtain ⟨its, r1, p1, _⟩ := I.tuple (SqT.of h1)
    obtain ⟨its2, r2, p2, _⟩ := I.tuple (SqT.of h2)
    cases r1
    exact cat_tup0 p1 p2 ⟨.ref b, H, I, rfl, q b H (Same.refl H) h2⟩
  · refine op_catT pins s σ H _ _ v u Q I rx ry ⟨a, b, xs, ys, rfl, rfl, SqT.of h1, SqT.of h2, hx, z, fun hy => ?_, fun _ p hp => ?_⟩
    · subst hy
      exact q a H (Same.refl H) (by rw [List.append_nil]; exact h1)
    · exact q p _ (Same.new hp) upd_same
end L2
namespace RF
theorem gcd_step (a b : Int) : Int.gcd a b = Int.gcd b (a % b) := by
  have e : a = a % b + (a / b) * b := by rw [Int.mul_comm]; exact (Int.emod_add_mul_ediv a b).symm
  rw [Int.gcd_comm a b]
  conv => lhs; rw [e]
  rw [Int.gcd_add_mul_right_right]
noncomputable abbrev Cop (a b : Int) : Prop := Int.gcd a b = 1
theorem Cop.symm {a b : Int} (h : Cop a b) : Cop b a := by unfold Cop; rw [Int.gcd_comm]; exact h
theorem cop_one (a : Int) : Cop 1 a := Int.gcd_one_left a
theorem cop_mul {a b c : Int} : Cop (a * b) c ↔ Cop a c ∧ Cop b c := by
  unfold Cop
  constructor
  · intro h
    constructor
    · have : a.gcd c ∣ (a * b).gcd c := Int.gcd_dvd_gcd_mul_right_left a c b
      rw [h] at this
      exact Nat.dvd_one.mp this
    · have : b.gcd c ∣ (a * b).gcd c := Int.gcd_dvd_gcd_mul_left_left b c a
      rw [h] at this
      exact Nat.dvd_one.mp this
  · intro ⟨h1, h2⟩
    have h1' : Nat.Coprime a.natAbs c.natAbs := h1
    have h2' : Nat.Coprime b.natAbs c.natAbs := h2
    have := Nat.Coprime.mul_left h1' h2'
    show Nat.gcd (a * b).natAbs c.natAbs = 1
    rw [Int.natAbs_mul]; exact this
noncomputable def prod : List Int → Int
  | [] => 1
  | d :: r => d * prod r
theorem prod_append (a b : List Int) : prod (a ++ b) = prod a * prod b := by
  induction a with
  | nil => simp [prod]
  | cons x r ih => simp only [List.cons_append, prod, ih, Int.mul_assoc]
theorem cop_prod {c : Int} : ∀ {l : List Int}, Cop (prod l) c ↔ ∀ d ∈ l, Cop d c
  | [] => by simp only [prod, List.not_mem_nil, false_imp_iff, implies_true, iff_true]; exact cop_one c
  | x :: r => by rw [prod, cop_mul, cop_prod (l := r)]; simp
structure GoodBase (kept spare : List Int) : Prop where
  k1 : 1 ≤ kept.length
  k6 : kept.length ≤ 6
  s4 : spare.length ≤ 4
  rng : ∀ d ∈ kept ++ spare, 2 ≤ d ∧ d ≤ 1000000
  cop : (kept ++ spare).Pairwise Cop
  lt : ∀ k ∈ kept, ∀ s ∈ spare, k < s
noncomputable def hasCommon : Int → List Int → Bool
  | _, [] => false
  | p, d :: r => if Int.gcd p d = 1 then hasCommon (p * d) r else true
theorem hasCommon_iff : ∀ (l : List Int) (p : Int), hasCommon p l = false ↔ (∀ d ∈ l, Cop p d) ∧ l.Pairwise Cop
  | [], p => by simp [hasCommon]
  | d :: r, p => by
    unfold hasCommon
    by_cases h : Int.gcd p d = 1
    · rw [if_pos h, hasCommon_iff r (p * d), List.pairwise_cons]
      constructor
      · intro ⟨h1, h2⟩
        refine ⟨fun e he => ?_, fun e he => (cop_mul.mp (h1 e he)).2, h2⟩
        rcases List.mem_cons.mp he with rfl | he
        · exact h
        · exact (cop_mul.mp (h1 e he)).1
      · intro ⟨h1, h2, h3⟩
        exact ⟨fun e he => cop_mul.mpr ⟨h1 e (List.mem_cons_of_mem _ he), h2 e he⟩, h3⟩
    · rw [if_neg h]
      simp only [Bool.true_eq_false, false_iff]
      intro ⟨h1, _⟩
      exact h (h1 d List.mem_cons_self)
theorem hasCommon_one (l : List Int) : hasCommon 1 l = false ↔ l.Pairwise Cop := by
  rw [hasCommon_iff]
  constructor
  · exact fun h => h.2
  · exact fun h => ⟨fun d _ => cop_one d, h⟩
theorem not_cop_self {d : Int} (h : 2 ≤ d) : ¬ Cop d d := by
  unfold Cop
  rw [Int.gcd_self]
  omega
theorem rise_of {l : List Int} (h2 : ∀ d ∈ l, 2 ≤ d) (hc : l.Pairwise Cop) (hs : l.Pairwise (· ≤ ·)) : l.Pairwise (· < ·) := by
  have := hc.and hs
  refine this.imp_of_mem ?_
  intro a b ha hb ⟨h1, h2'⟩
  have : a ≠ b := by
    rintro rfl
    exact not_cop_self (h2 a ha) h1
  omega
theorem good_cut {l : List Int} {n at' : Nat} {rev : Bool} (h2 : ∀ d ∈ l, 2 ≤ d ∧ d ≤ 1000000) (hc : l.Pairwise Cop) (hs : l.Pairwise (· < ·)) (hn : 1 ≤ n) (hn6 : n ≤ 6) (hl : n ≤ l.length) (hl4 : l.length ≤ n + 4) :
    GoodBase ((l.take n).drop at' ++ (l.take n).take at') (if rev then (l.drop n).reverse else l.drop n) := by
  have p1 : ((l.take n).drop at' ++ (l.take n).take at').Perm (l.take n) := by
    have := List.perm_append_comm (l₁ := (l.take n).drop at') (l₂ := (l.take n).take at')
    rw [List.take_append_drop] at this
    exact this
  have p2 : (if rev then (l.drop n).reverse else l.drop n).Perm (l.drop n) := by
    cases rev
    · exact List.Perm.refl _
    · exact List.reverse_perm _
  have p : ((l.take n).drop at' ++ (l.take n).take at' ++ (if rev then (l.drop n).reverse else l.drop n)).Perm l := by
    have := p1.append p2
    rw [List.take_append_drop] at this
    exact this
  have l1 := p1.length_eq
  have l2 := p2.length_eq
  rw [List.length_take] at l1
  rw [List.length_drop] at l2
  refine ⟨by omega, by omega, by omega, fun d hd => h2 d (p.mem_iff.mp hd), ?_, fun k hk s hs' => ?_⟩
  · exact (p.pairwise_iff (fun h => Cop.symm h)).mpr hc
  · have hk' := p1.mem_iff.mp hk
    have hs'' := p2.mem_iff.mp hs'
    have hp : (l.take n ++ l.drop n).Pairwise (· < ·) := by rw [List.take_append_drop]; exact hs
    exact (List.pairwise_append.mp hp).2.2 k hk' s hs''
noncomputable def rawSome (n : Int) : List Int := [[2, 4, 8, 64].getD (n % 4).toNat 0, [3, 9, 27].getD (n / 4 % 3).toNat 0, [5, 25, 625].getD (n / 12 % 3).toNat 0] ++ [7, 11, 13, 17, 19, 23, 29, 101, 997, 9973, 999983]
theorem raw_ok (n : Int) : (∀ d ∈ rawSome n, 2 ≤ d ∧ d ≤ 1000000) ∧ (rawSome n).Pairwise Cop ∧ (rawSome n).length = 14 := by
  have all : ∀ i j k : Nat, i < 4 → j < 3 → k < 3 → (∀ d ∈ [[2, 4, 8, 64].getD i (0 : Int), [3, 9, 27].getD j 0, [5, 25, 625].getD k 0] ++ [7, 11, 13, 17, 19, 23, 29, 101, 997, 9973, 999983], 2 ≤ d ∧ d ≤ 1000000) ∧
      ([[2, 4, 8, 64].getD i (0 : Int), [3, 9, 27].getD j 0, [5, 25, 625].getD k 0] ++ [7, 11, 13, 17, 19, 23, 29, 101, 997, 9973, 999983]).Pairwise Cop := by
    intro i j k hi hj hk
    have : ∀ i ∈ List.range 4, ∀ j ∈ List.range 3, ∀ k ∈ List.range 3, (∀ d ∈ [[2, 4, 8, 64].getD i (0 : Int), [3, 9, 27].getD j 0, [5, 25, 625].getD k 0] ++ [7, 11, 13, 17, 19, 23, 29, 101, 997, 9973, 999983], 2 ≤ d ∧ d ≤ 1000000) ∧
      ([[2, 4, 8, 64].getD i (0 : Int), [3, 9, 27].getD j 0, [5, 25, 625].getD k 0] ++ [7, 11, 13, 17, 19, 23, 29, 101, 997, 9973, 999983]).Pairwise Cop := by decide +kernel
    exact this i (List.mem_range.mpr hi) j (List.mem_range.mpr hj) k (List.mem_range.mpr hk)
  have h1 : (n % 4).toNat < 4 := by omega
  have h2 : (n / 4 % 3).toNat < 3 := by omega
  have h3 : (n / 12 % 3).toNat < 3 := by omega
  obtain ⟨a, b⟩ := all _ _ _ h1 h2 h3
  exact ⟨a, b, rfl⟩
theorem sorted_ok {n : Int} {l : List Int} (hp : l.Perm (rawSome n)) (hs : l.Pairwise (· ≤ ·)) : (∀ d ∈ l, 2 ≤ d ∧ d ≤ 1000000) ∧ l.Pairwise Cop ∧ l.Pairwise (· < ·) ∧ l.length = 14 := by
  obtain ⟨a, b, c⟩ := raw_ok n
  have a' : ∀ d ∈ l, 2 ≤ d ∧ d ≤ 1000000 := fun d hd => a d (hp.mem_iff.mp hd)
  have b' : l.Pairwise Cop := (hp.pairwise_iff (fun h => Cop.symm h)).mpr b
  exact ⟨a', b', rise_of (fun d hd => (a' d hd).1) b' hs, by rw [hp.length_eq, c]⟩
end RF
namespace RF
theorem emod_eq_iff_dvd {x y d : Int} : x % d = y % d ↔ d ∣ x - y := Int.emod_eq_emod_iff_emod_sub_eq_zero.trans ⟨Int.dvd_of_emod_eq_zero, Int.emod_eq_zero_of_dvd⟩
theorem dvd_mul_of_cop {a b x : Int} (h : Cop a b) (ha : a ∣ x) (hb : b ∣ x) : a * b ∣ x := by
  obtain ⟨k, rfl⟩ := ha
  have : b ∣ k := by
    have h' : Int.gcd b a = 1 := h.symm
    exact Int.natAbs_dvd_natAbs.mp (Nat.Coprime.dvd_of_dvd_mul_left (show Nat.Coprime b.natAbs a.natAbs from h') (by rw [← Int.natAbs_mul]; exact Int.natAbs_dvd_natAbs.mpr hb))
  exact Int.mul_dvd_mul_left a this
theorem prod_dvd {x : Int} : ∀ {l : List Int}, l.Pairwise Cop → (∀ d ∈ l, d ∣ x) → prod l ∣ x
  | [], _, _ => Int.one_dvd x
  | d :: r, hc, h => by
    rw [List.pairwise_cons] at hc
    have h1 : d ∣ x := h d List.mem_cons_self
    have h2 : prod r ∣ x := prod_dvd hc.2 fun e he => h e (List.mem_cons_of_mem _ he)
    exact dvd_mul_of_cop (Cop.symm (cop_prod.mpr fun e he => (hc.1 e he).symm)) h1 h2
theorem same_of_rests {l : List Int} {x y lo : Int} (hc : l.Pairwise Cop) (h : ∀ d ∈ l, x % d = y % d) (hx : lo ≤ x) (hx' : x < lo + prod l) (hy : lo ≤ y) (hy' : y < lo + prod l) : x = y := by
  have hd : prod l ∣ x - y := prod_dvd hc fun d hd => emod_eq_iff_dvd.mp (h d hd)
  obtain ⟨k, hk⟩ := hd
  have hP : 0 < prod l := by omega
  have : k = 0 := by
    rcases Int.lt_trichotomy k 0 with h1 | h1 | h1
    · have : prod l * k ≤ prod l * (-1) := Int.mul_le_mul_of_nonneg_left (by omega) (by omega)
      omega
    · exact h1
    · have : prod l * 1 ≤ prod l * k := Int.mul_le_mul_of_nonneg_left (by omega) (by omega)
      omega
  subst this
  omega
theorem prod_pos : ∀ {l : List Int}, (∀ d ∈ l, 2 ≤ d) → 0 < prod l
  | [], _ => by decide
  | d :: r, h => by
    have h1 := h d List.mem_cons_self
    have h2 := prod_pos fun e he => h e (List.mem_cons_of_mem _ he)
    exact Int.mul_pos (by omega) h2
theorem dvd_prod {d : Int} : ∀ {l : List Int}, d ∈ l → d ∣ prod l
  | x :: r, h => by
    rcases List.mem_cons.mp h with rfl | h
    · exact Int.dvd_mul_right _ _
    · exact Int.dvd_trans (dvd_prod h) (Int.dvd_mul_left _ _)
structure IsInv (n d v : Int) : Prop where
  lo : 1 ≤ v
  hi : v < d
  one : (n * v) % d = 1
theorem left_ne {n d : Int} (hd : 2 ≤ d) (h : Cop n d) : n % d ≠ 0 := fun e => by
  have : d ∣ n := Int.dvd_of_emod_eq_zero e
  obtain ⟨k, rfl⟩ := this
  unfold Cop at h
  have := Int.gcd_mul_left d k 1
  rw [Int.mul_one, Int.gcd_one_right, Nat.mul_one] at this
  rw [this] at h
  omega
theorem inv_one {n d : Int} (hd : 2 ≤ d) (h : n % d = 1) : IsInv n d 1 := ⟨by omega, by omega, by rw [Int.mul_one]; exact h⟩
theorem inv_up {n d v : Int} (hd : 2 ≤ d) (hl : 2 ≤ n % d) (h : IsInv d (n % d) v) : IsInv n d ((d * (n % d - v) + 1) / (n % d)) := by
  obtain ⟨h1, h2, h3⟩ := h
  have hlt : n % d < d := Int.emod_lt_of_pos n (by omega)
  generalize hL : n % d = L at *
  have hdv : L ∣ d * (L - v) + 1 := by
    have e : d * (L - v) + 1 = L * d - (d * v - 1) := by rw [Int.mul_sub, Int.mul_comm d L]; omega
    rw [e]
    refine Int.dvd_sub (Int.dvd_mul_right L d) ?_
    exact emod_eq_iff_dvd.mp (by rw [h3, Int.emod_eq_of_lt (by omega) (by omega)])
  obtain ⟨k, hk⟩ := hdv
  rw [hk, Int.mul_ediv_cancel_left _ (by omega)]
  have hpos : 0 < L * k := by
    rw [← hk]
    have : 0 < d * (L - v) := Int.mul_pos (by omega) (by omega)
    omega
  have hk1 : 1 ≤ k := by
    rcases Int.lt_or_le k 1 with h | h
    · have : L * k ≤ L * 0 := Int.mul_le_mul_of_nonneg_left (by omega) (by omega)
      rw [Int.mul_zero] at this
      omega
    · exact h
  refine ⟨hk1, ?_, ?_⟩
  · rcases Int.lt_or_le k d with h | h
    · exact h
    · have a : L * d ≤ L * k := Int.mul_le_mul_of_nonneg_left h (by omega)
      have b : d * (L - v) ≤ d * (L - 1) := Int.mul_le_mul_of_nonneg_left (by omega) (by omega)
      have c : d * (L - 1) = L * d - d := by rw [Int.mul_sub, Int.mul_comm d L, Int.mul_one]
      omega
  · have e : n * k % d = (L * k) % d := by rw [← hL, Int.mul_emod n k, Int.mul_emod (n % d) k, Int.emod_emod_of_dvd n (Int.dvd_refl d)]
    rw [e, ← hk, Int.add_comm, Int.add_mul_emod_self_left, Int.emod_eq_of_lt (by omega) (by omega)]
theorem cop_left {n d : Int} (h : Cop n d) : Cop d (n % d) := by unfold Cop; rw [← gcd_step]; exact h
theorem size_down {d L : Int} {j : Nat} (h0 : 2 ≤ L) (hlt : L < d) (h : d * L < 2 ^ (j + 1)) : L * (d % L) < 2 ^ j := by
  have hr0 : 0 ≤ d % L := Int.emod_nonneg d (by omega)
  have hr1 : d % L < L := Int.emod_lt_of_pos d (by omega)
  have hr2 : 2 * (d % L) < d := by
    have e := Int.emod_add_mul_ediv d L
    have hq : 1 ≤ d / L := by
      rcases Int.lt_or_le (d / L) 1 with h | h
      · have : L * (d / L) ≤ L * 0 := Int.mul_le_mul_of_nonneg_left (by omega) (by omega)
        rw [Int.mul_zero] at this
        omega
      · exact h
    have : L * 1 ≤ L * (d / L) := Int.mul_le_mul_of_nonneg_left hq (by omega)
    omega
  have a : L * (2 * (d % L)) < L * d := Int.mul_lt_mul_of_pos_left hr2 (by omega)
  have b : L * (2 * (d % L)) = 2 * (L * (d % L)) := by rw [Int.mul_left_comm]
  have c : L * d = d * L := Int.mul_comm L d
  have e2 : (2 : Int) ^ (j + 1) = 2 * 2 ^ j := by rw [Int.pow_succ, Int.mul_comm]
  omega
structure Upto (kept fig : List Int) (i : Nat) (number step : Int) : Prop where
  st : step = prod (kept.take i)
  lo : 0 ≤ number
  hi : number < step
  rs : ∀ j, j < i → ∀ d r, kept[j]? = some d → fig[j]? = some r → number % d = r
theorem upto_zero (kept fig : List Int) : Upto kept fig 0 0 1 := ⟨rfl, by omega, by omega, fun j h => absurd h (Nat.not_lt_zero j)⟩
theorem take_succ_prod {l : List Int} {i : Nat} {d : Int} (h : l[i]? = some d) : prod (l.take (i + 1)) = prod (l.take i) * d := by
  rw [List.take_add_one, h, prod_append]
  show prod (l.take i) * (d * 1) = _
  rw [Int.mul_one]
theorem upto_step {kept fig : List Int} {i : Nat} {number step d r v : Int} (h2 : ∀ x ∈ kept, 2 ≤ x) (u : Upto kept fig i number step) (hd : kept[i]? = some d) (hr : fig[i]? = some r) (hr0 : 0 ≤ r) (hr1 : r < d) (hv : IsInv step d v) :
    Upto kept fig (i + 1) (number + ((r - number) * v % d) * step) (step * d) := by
  obtain ⟨hst, hlo, hhi, hrs⟩ := u
  have hd2 : 2 ≤ d := h2 d (List.mem_of_getElem? hd)
  have s0 : 0 ≤ (r - number) * v % d := Int.emod_nonneg _ (by omega)
  have s1 : (r - number) * v % d < d := Int.emod_lt_of_pos _ (by omega)
  have hstep : 0 < step := by omega
  refine ⟨by rw [take_succ_prod hd, hst], ?_, ?_, fun j hj d' r' hd' hr' => ?_⟩
  · have := Int.mul_nonneg s0 (Int.le_of_lt hstep)
    omega
  · generalize (r - number) * v % d = k at *
    have a : k * step ≤ (d - 1) * step := Int.mul_le_mul_of_nonneg_right (by omega) (by omega)
    have b : (d - 1) * step = step * d - step := by rw [Int.sub_mul, Int.mul_comm d step, Int.one_mul]
    omega
  · rcases Nat.lt_or_ge j i with h | h
    · have hdv : d' ∣ step := by
        rw [hst]
        exact dvd_prod (List.mem_of_getElem? (by rw [List.getElem?_take_of_lt h]; exact hd'))
      obtain ⟨q, rfl⟩ := hdv
      rw [show number + ((r - number) * v % d) * (d' * q) = number + d' * ((r - number) * v % d * q) by rw [Int.mul_left_comm]; , Int.add_mul_emod_self_left]
      exact hrs j h d' r' hd' hr'
    · have e : j = i := by omega
      subst e
      rw [hd] at hd'; cases hd'
      rw [hr] at hr'; cases hr'
      have e1 : ((r - number) * v % d * step) % d = (r - number) % d := by
        have h3 := hv.one
        rw [Int.mul_comm step v] at h3
        rw [Int.mul_emod, Int.emod_emod_of_dvd _ (Int.dvd_refl d), ← Int.mul_emod, Int.mul_assoc, Int.mul_emod, h3, Int.mul_one, Int.emod_emod_of_dvd _ (Int.dvd_refl d)]
      rw [Int.add_emod, e1, ← Int.add_emod, show number + (r - number) = r by omega, Int.emod_eq_of_lt hr0 hr1]
theorem step_cop {kept : List Int} {i : Nat} {d : Int} (hc : kept.Pairwise Cop) (hd : kept[i]? = some d) : Cop (prod (kept.take i)) d := by
  refine cop_prod.mpr fun e he => ?_
  have hlt := (List.getElem?_eq_some_iff.mp hd).1
  have := List.pairwise_append.mp (show (kept.take i ++ kept.drop i).Pairwise Cop by rw [List.take_append_drop]; exact hc)
  refine this.2.2 e he d ?_
  have e0 : kept.drop i = d :: kept.drop (i + 1) := by
    rw [List.drop_eq_getElem_cons hlt, (List.getElem?_eq_some_iff.mp hd).2]
  rw [e0]; exact List.mem_cons_self
noncomputable def lowest (kept : List Int) : Int := -((prod kept - 1) / 2)
noncomputable def highest (kept : List Int) : Int := prod kept / 2
theorem low_high (kept : List Int) : highest kept = lowest kept + prod kept - 1 := by
  unfold highest lowest; omega
noncomputable def rests (all : List Int) (x : Int) : List Int := all.map fun d => x % d
end RF
set_option linter.all false
namespace RF
theorem prod_erase : ∀ {l : List Int} {j : Nat} {d : Int}, l[j]? = some d → prod l = d * prod (l.eraseIdx j)
  | x :: r, 0, d, h => by
    simp only [List.getElem?_cons_zero, Option.some.injEq] at h
    subst h; rfl
  | x :: r, j + 1, d, h => by
    have ih := prod_erase (l := r) (j := j) (d := d) (by simpa using h)
    show x * prod r = d * (x * prod (r.eraseIdx j))
    rw [ih, Int.mul_left_comm]
theorem le_prod {d : Int} : ∀ {l : List Int}, (∀ e ∈ l, 2 ≤ e) → d ∈ l → d ≤ prod l
  | x :: r, h2, h => by
    have hx := h2 x List.mem_cons_self
    have hr := prod_pos fun e he => h2 e (List.mem_cons_of_mem _ he)
    show d ≤ x * prod r
    rcases List.mem_cons.mp h with rfl | h
    · have := Int.mul_le_mul_of_nonneg_left (show 1 ≤ prod r by omega) (show 0 ≤ d by omega)
      omega
    · have ih := le_prod (fun e he => h2 e (List.mem_cons_of_mem _ he)) h
      have := Int.mul_le_mul_of_nonneg_right (show 1 ≤ x by omega) (show 0 ≤ prod r by omega)
      omega
theorem span_left {kept spare : List Int} (g : GoodBase kept spare) (hs : spare ≠ []) {j : Nat} (hj : j < (kept ++ spare).length) : prod kept ≤ prod ((kept ++ spare).eraseIdx j) := by
  have h2 : ∀ d ∈ kept ++ spare, 2 ≤ d := fun d hd => (g.rng d hd).1
  have hk2 : ∀ d ∈ kept, 2 ≤ d := fun d hd => h2 d (List.mem_append_left _ hd)
  have hs2 : ∀ d ∈ spare, 2 ≤ d := fun d hd => h2 d (List.mem_append_right _ hd)
  rcases Nat.lt_or_ge j kept.length with h | h
  · rw [List.eraseIdx_append_of_lt_length h, prod_append]
    have hd : kept[j]? = some kept[j] := List.getElem?_eq_getElem h
    rw [prod_erase hd, Int.mul_comm]
    obtain ⟨s, r, rfl⟩ := List.exists_cons_of_ne_nil hs
    have hlt := g.lt kept[j] (List.getElem_mem h) s List.mem_cons_self
    have hle : s ≤ prod (s :: r) := le_prod hs2 List.mem_cons_self
    have hp : 0 < prod (kept.eraseIdx j) := prod_pos fun e he => hk2 e (List.mem_of_mem_eraseIdx he)
    exact Int.mul_le_mul_of_nonneg_left (by omega) (by omega)
  · rw [List.eraseIdx_append_of_length_le h, prod_append]
    have hp : 0 < prod (spare.eraseIdx (j - kept.length)) := prod_pos fun e he => hs2 e (List.mem_of_mem_eraseIdx he)
    have hk := prod_pos hk2
    have := Int.mul_le_mul_of_nonneg_left (show 1 ≤ prod (spare.eraseIdx (j - kept.length)) by omega) (show 0 ≤ prod kept by omega)
    omega
theorem one_place {kept spare : List Int} (g : GoodBase kept spare) (hs : spare ≠ []) {j : Nat} (hj : j < (kept ++ spare).length) {v n : Int} (hv : lowest kept ≤ v ∧ v ≤ highest kept) (hn : lowest kept ≤ n ∧ n ≤ highest kept)
    (h : ∀ i d, i ≠ j → (kept ++ spare)[i]? = some d → v % d = n % d) : v = n := by
  have lh := low_high kept
  have hp := span_left g hs hj
  refine same_of_rests (l := (kept ++ spare).eraseIdx j) (lo := lowest kept) (g.cop.sublist (List.eraseIdx_sublist _ _)) (fun d hd => ?_) hv.1 (by omega) hn.1 (by omega)
  obtain ⟨i, hi, e⟩ := List.mem_eraseIdx_iff_getElem?.mp hd
  exact h i d hi e
end RF
set_option Elab.async false
set_option linter.all false
set_option maxRecDepth 100000
set_option maxHeartbeats 4000000
namespace RF
open PySem L2
theorem map_erase : ∀ (ns : List Int) (i : Nat), (ns.map V.int).eraseIdx i = (ns.eraseIdx i).map V.int
  | [], _ => rfl
  | _ :: _, 0 => rfl
  | x :: r, i + 1 => by
    show V.int x :: (r.map V.int).eraseIdx i = V.int x :: (r.eraseIdx i).map V.int
    rw [map_erase r i]
theorem atI_ints {ns : List Int} {i : Int} (h0 : 0 ≤ i) (h1 : i < ns.length) : atI (ns.map V.int) i = some (.int (ns.getD i.toNat 0)) := by
  have e : i = (i.toNat : Int) := by omega
  have hl : i.toNat < ns.length := by omega
  generalize i.toNat = k at e hl
  subst e
  refine atI_nat ?_
  rw [List.getElem?_map, List.getD_eq_getElem?_getD, List.getElem?_eq_getElem hl]
  rfl
theorem cut_to {ns : List Int} {k : Int} (h : 0 ≤ k) : cutV (ns.map V.int) none (some k) = (ns.take k.toNat).map V.int := by
  have e : k = (k.toNat : Int) := by omega
  unfold cutV
  rw [HT.sIx_none, e, HT.sIx_nat, List.drop_zero, Nat.sub_zero, Int.toNat_natCast, List.map_take]
  rcases Nat.le_total k.toNat (ns.map V.int).length with hl | hl
  · rw [Nat.min_eq_left hl]
  · rw [Nat.min_eq_right hl, List.take_length, List.take_of_length_le hl]
theorem cut_from {ns : List Int} {k : Int} (h : 0 ≤ k) : cutV (ns.map V.int) (some k) none = (ns.drop k.toNat).map V.int := by
  have e : k = (k.toNat : Int) := by omega
  unfold cutV
  rw [HT.sIx_none, e, HT.sIx_nat, Int.toNat_natCast, List.map_drop]
  rcases Nat.le_total k.toNat (ns.map V.int).length with hl | hl
  · rw [Nat.min_eq_left hl]
    exact List.take_of_length_le (by rw [List.length_drop]; exact Nat.le_refl _)
  · rw [Nat.min_eq_right hl, List.drop_length, List.drop_of_length_le hl]
    simp
theorem sq_idx {n : Nat} {i : Int} (h0 : 0 ≤ i) (h1 : i < n) : seqIndex? i n = some i.toNat := (ixN_seq (by unfold ixN; rw [if_pos h0, if_pos h1])).1
structure BaseAt (H : Hp) (t : Addr) (kept spare : List Int) : Prop where
  ex : ∃ t1 t2, H t = some (.tup [.ref t1, .ref t2]) ∧ H t1 = some (.tup (kept.map V.int)) ∧ H t2 = some (.tup (spare.map V.int))
inductive isp_mixed (a b : V) (H : Hp) (Q : VK) (E : XK) : Prop
  | mk (n k : Int) (h0 : a = .int n) (h1 : b = .int k) (h2 : 0 ≤ k) (h3 : k ≤ 1000) (q : ∀ m : Int, 0 ≤ m → m < 998244353 → Q (.int m) H) : isp_mixed a b H Q E
noncomputable def sp_mixed : Sp := Sp2 (isp_mixed)
theorem kit_ii (K : PySem.W.Frag) : PySem.W.kitOne K (.type "int") (.type "int") = some true := by kernel_rfl
theorem kit_ib (K : PySem.W.Frag) : PySem.W.kitOne K (.type "int") (.type "bool") = some false := by kernel_rfl
theorem kit_tt (K : PySem.W.Frag) : PySem.W.kitOne K (.type "tuple") (.type "tuple") = some true := by kernel_rfl
theorem vint_eq {a b : Int} (h : decide (V.int a = V.int b) = true) : a = b := by have := of_decide_eq_true h; injection this
theorem vint_ne {a b : Int} (h : ¬ decide (V.int a = V.int b) = true) : a ≠ b := fun e => h (by rw [e]; exact decide_eq_true rfl)
theorem getD_mem {l : List Int} {i : Nat} (h : i < l.length) : l.getD i 0 ∈ l := by
  rw [List.getD_eq_getElem?_getD, List.getElem?_eq_getElem h]
  exact List.getElem_mem h
section
variable {K : PySem.W.Frag}
end
noncomputable def Bas (H : Hp) (a : V) (kept spare : List Int) : Prop := (∃ t, a = V.ref t ∧ BaseAt H t kept spare) ∧ GoodBase kept spare
theorem BaseAt.up {H H' : Hp} {t : Addr} {kept spare : List Int} (B : BaseAt H t kept spare) (S : Same H H') : BaseAt H' t kept spare := by
  obtain ⟨t1, t2, a, b, c⟩ := B.ex
  exact ⟨t1, t2, S _ _ a, S _ _ b, S _ _ c⟩
theorem Bas.up {H H' : Hp} {a : V} {kept spare : List Int} (B : Bas H a kept spare) (S : Same H H') : Bas H' a kept spare := by
  obtain ⟨⟨t, e, b⟩, g⟩ := B
  exact ⟨⟨t, e, b.up S⟩, g⟩
theorem GoodBase.ne {kept spare : List Int} (g : GoodBase kept spare) : kept.map V.int ≠ [] := fun z => by
  have := congrArg List.length z
  have := g.k1
  simp only [List.length_map, List.length_nil] at *
  omega
theorem GoodBase.room {kept spare : List Int} (g : GoodBase kept spare) : (kept.map V.int).length + (spare.map V.int).length ≤ sizeLine := by
  have h1 := g.k6
  have h2 := g.s4
  rw [List.length_map, List.length_map]
  exact Nat.le_trans (show _ ≤ 10 by omega) (by decide)
theorem GoodBase.many {kept spare : List Int} (g : GoodBase kept spare) : ((kept ++ spare).map V.int).length < sizeLine := by
  have h1 := g.k6
  have h2 := g.s4
  rw [List.length_map, List.length_append]
  exact Nat.lt_of_le_of_lt (show _ ≤ 10 by omega) (by decide)
theorem GoodBase.span {kept spare : List Int} (g : GoodBase kept spare) : 0 < prod kept := prod_pos fun d hd => (g.rng d (List.mem_append_left _ hd)).1
theorem ints_at {ns : List Int} {i : Nat} {x : V} (h : (ns.map V.int)[i]? = some x) : ∃ d, ns[i]? = some d ∧ x = .int d := by
  rw [List.getElem?_map] at h
  cases hi : ns[i]? with
  | none => rw [hi] at h; cases h
  | some d => rw [hi] at h; cases h; exact ⟨d, rfl, rfl⟩
noncomputable def Fits (kept : List Int) (n : Int) : Prop := lowest kept ≤ n ∧ n ≤ highest kept
noncomputable instance (kept : List Int) (n : Int) : Decidable (Fits kept n) := inferInstanceAs (Decidable (_ ∧ _))
noncomputable def restV (n : Int) : V → V
  | .int d => .int (n % d)
  | _ => .non
theorem rests_map (n : Int) (ds : List Int) : (ds.map V.int).map (restV n) = (rests ds n).map V.int := by
  unfold rests
  rw [List.map_map, List.map_map]; rfl
inductive isp_divs (a : V) (H : Hp) (Q : VK) (E : XK) : Prop
  | mk (kept : List Int) (spare : List Int) (h0 : Bas H a kept spare) (q : ∀ p H', Same H H' → H' p = some (.tup ((kept ++ spare).map V.int)) → Q (.ref p) H') : isp_divs a H Q E
noncomputable def sp_divs : Sp := Sp1 (isp_divs)
inductive isp_span (a : V) (H : Hp) (Q : VK) (E : XK) : Prop
  | mk (kept : List Int) (spare : List Int) (h0 : Bas H a kept spare) (q : Q (.int (prod kept)) H) : isp_span a H Q E
noncomputable def sp_span : Sp := Sp1 (isp_span)
inductive isp_low (a : V) (H : Hp) (Q : VK) (E : XK) : Prop
  | mk (kept : List Int) (spare : List Int) (h0 : Bas H a kept spare) (q : Q (.int (lowest kept)) H) : isp_low a H Q E
noncomputable def sp_low : Sp := Sp1 (isp_low)
inductive isp_high (a : V) (H : Hp) (Q : VK) (E : XK) : Prop
  | mk (kept : List Int) (spare : List Int) (h0 : Bas H a kept spare) (q : Q (.int (highest kept)) H) : isp_high a H Q E
noncomputable def sp_high : Sp := Sp1 (isp_high)
inductive isp_fits (a b : V) (H : Hp) (Q : VK) (E : XK) : Prop
  | mk (kept : List Int) (spare : List Int) (n : Int) (h0 : Bas H a kept spare) (h1 : b = .int n) (q : Q (.bl (decide (Fits kept n))) H) : isp_fits a b H Q E
noncomputable def sp_fits : Sp := Sp2 (isp_fits)
inductive isp_rests (a b : V) (H : Hp) (Q : VK) (E : XK) : Prop
  | mk (kept : List Int) (spare : List Int) (n : Int) (h0 : Bas H a kept spare) (h1 : b = .int n) (q : ∀ l H', Same H H' → H l = none → H' l = some (.lst ((rests (kept ++ spare) n).map V.int)) → Q (.ref l) H') : isp_rests a b H Q E
noncomputable def sp_rests : Sp := Sp2 (isp_rests)
inductive isp_cell_at (K : PySem.W.Frag) (a b : V) (H : Hp) (Q : VK) (E : XK) : Prop
  | mk (l : Addr) (ns : List Int) (i : Int) (h0 : a = .ref l) (h1 : b = .int i) (h2 : SqL K H l (ns.map V.int)) (h3 : 0 ≤ i) (q : ∀ m : Int, Q (.int m) H) : isp_cell_at K a b H Q E
noncomputable def sp_cell_at (K : PySem.W.Frag) : Sp := Sp2 (isp_cell_at K)
inductive isp_fitting (a b : V) (H : Hp) (Q : VK) (E : XK) : Prop
  | mk (kept : List Int) (spare : List Int) (c : Int) (h0 : Bas H a kept spare) (h1 : b = .int c) (q : ∀ m : Int, lowest kept ≤ m → m ≤ highest kept → Q (.int m) H) : isp_fitting a b H Q E
noncomputable def sp_fitting : Sp := Sp2 (isp_fitting)
theorem kit_ll (K : PySem.W.Frag) : PySem.W.kitOne K (.type "list") (.type "list") = some true := by kernel_rfl
inductive isp_figure (cT : Addr) (a b : V) (H : Hp) (Q : VK) (E : XK) : Prop
  | mk (kept : List Int) (spare : List Int) (n : Int) (h0 : Bas H a kept spare) (h1 : b = .int n) (q : (Fits kept n → ∀ l H', Same H H' → H l = none → H' l = some (.lst ((rests (kept ++ spare) n).map V.int)) → Q (.ref l) H') ∧ (¬ Fits kept n → ∀ H', Same H H' → E (.ref cT) none H')) : isp_figure cT a b H Q E
noncomputable def sp_figure (cT : Addr) : Sp := Sp2 (isp_figure cT)
inductive isp_law (K : PySem.W.Frag) (a : V) (H : Hp) (Q : VK) (E : XK) : Prop
  | mk (l : Addr) (ns : List Int) (h0 : a = .ref l) (h1 : SqL K H l (ns.map V.int)) (h2 : ns.length ≤ 63) (q : ∀ H', Q (.bl true) H') : isp_law K a H Q E
noncomputable def sp_law (K : PySem.W.Frag) : Sp := Sp1 (isp_law K)
theorem GoodBase.rests_len {kept spare : List Int} (g : GoodBase kept spare) (n : Int) : (rests (kept ++ spare) n).length ≤ 100 := by
  have h1 := g.k6
  have h2 := g.s4
  unfold rests
  rw [List.length_map, List.length_append]
  omega
theorem md0 (a : Int) {n : Int} (h : 0 < n) : 0 ≤ a % n := Int.emod_nonneg _ (Int.ne_of_gt h)
theorem md1 (a : Int) {n : Int} (h : 0 < n) : a % n < n := Int.emod_lt_of_pos _ h
theorem atI_mod {ns : List Int} (a : Int) {m : Int} (hm : (ns.length : Int) = m) (h : 0 < m) : atI (ns.map V.int) (a % m) = some (.int (ns.getD (a % m).toNat 0)) := atI_ints (md0 a h) (by rw [hm]; exact md1 a h)
theorem pos1 {M : Int} (h : 1 ≤ M) : 0 < M := h
theorem nn1 {M : Int} (h : 1 ≤ M) : 0 ≤ M := Int.le_of_lt (pos1 h)
theorem many6 (a : Int) : 1 ≤ 1 + a % 6 ∧ 1 + a % 6 ≤ 6 := by omega
theorem le14 {M : Int} (h : M ≤ 6) (a : Int) : M + a % 5 ≤ ((14 : Nat) : Int) := by omega
theorem pos_len {M x : Int} (m1 : 1 ≤ M) {a : Int} (h : M + a % 5 < x) : 0 < x := by omega
theorem toNat_lt {x : Int} {n : Nat} (h0 : 0 ≤ x) (h1 : x < n) : x.toNat < n := by omega
theorem big_ix {x : Int} {n : Nat} (h0 : 0 ≤ x) (h1 : x < n) (hn : n ≤ 14) : -(2 ^ 63) ≤ x ∧ x < 2 ^ 63 := by omega
theorem sub1 {n : Nat} (h : 0 < (n : Int)) : n - 1 < n := by omega
theorem le_sub1 {x : Int} {n : Nat} (h : x < n) (h' : 0 < (n : Int)) : x ≤ ((n - 1 : Nat) : Int) := by omega
theorem cut_n {M a : Int} {len : Nat} (m1 : 1 ≤ M) (m2 : M ≤ 6) (h : (len : Int) = M + a % 5) : (1 ≤ M.toNat ∧ M.toNat ≤ 6) ∧ M.toNat ≤ len ∧ len ≤ M.toNat + 4 := by
  have r0 := Int.emod_nonneg a (show (5 : Int) ≠ 0 by decide)
  have r5 := Int.emod_lt_of_pos a (show (0 : Int) < 5 by decide)
  generalize a % 5 = r at h r0 r5
  obtain ⟨M, rfl⟩ := Int.eq_ofNat_of_zero_le (Int.le_trans (by decide) m1)
  obtain ⟨r, rfl⟩ := Int.eq_ofNat_of_zero_le r0
  have h : len = M + r := Int.ofNat.inj h
  subst h
  exact ⟨⟨Int.ofNat_le.mp m1, Int.ofNat_le.mp m2⟩, Nat.le_add_right .., Nat.add_le_add_left (Nat.le_of_lt_succ (Int.ofNat_lt.mp r5)) _⟩
theorem take_len (ns : List Int) (m k a : Nat) (h : ns.length ≤ 14) : (((ns.take m).drop a).map V.int).length + (((ns.take k).take a).map V.int).length ≤ sizeLine := by
  rw [List.length_map, List.length_map]
  exact Nat.le_trans (Nat.add_le_add (Nat.le_trans ((List.drop_sublist _ _).trans (List.take_sublist _ _)).length_le h) (Nat.le_trans ((List.take_sublist _ _).trans (List.take_sublist _ _)).length_le h)) (show (28 : Nat) ≤ sizeLine by decide)
theorem near_k {M n : Int} (m1 : 1 ≤ M) (m2 : M ≤ 6) : 0 ≤ n / 252 % (if 11 - M < 5 then 11 - M else 5) ∧ n / 252 % (if 11 - M < 5 then 11 - M else 5) ≤ 4 ∧ M + n / 252 % (if 11 - M < 5 then 11 - M else 5) ≤ 10 := by
  by_cases h : 11 - M < 5
  · rw [if_pos h]
    have b0 : 0 ≤ n / 252 % (11 - M) := Int.emod_nonneg _ (by omega)
    have b1 : n / 252 % (11 - M) < 11 - M := Int.emod_lt_of_pos _ (by omega)
    omega
  · rw [if_neg h]
    omega
theorem near_p {M : Int} (m1 : 1 ≤ M) (m2 : M ≤ 6) : (if 11 - M < 5 then 11 - M else (5 : Int)) > 0 := by split <;> omega
theorem near_n {M at' kk : Int} (m1 : 1 ≤ M) (m2 : M ≤ 6) (k0 : 0 ≤ kk) (k4 : kk ≤ 4) (k10 : M + kk ≤ 10) (a0 : 0 ≤ at') (a1 : at' < M) : ((1 ≤ M.toNat ∧ M.toNat ≤ 6) ∧ kk.toNat ≤ 4 ∧ M.toNat + kk.toNat ≤ 10 ∧ at'.toNat ≤ M.toNat) ∧ (M + kk).toNat = M.toNat + kk.toNat ∧ 0 ≤ M + kk := by
  obtain ⟨M, rfl⟩ := Int.eq_ofNat_of_zero_le (Int.le_trans (by decide) m1)
  obtain ⟨kk, rfl⟩ := Int.eq_ofNat_of_zero_le k0
  obtain ⟨at', rfl⟩ := Int.eq_ofNat_of_zero_le a0
  exact ⟨⟨⟨Int.ofNat_le.mp m1, Int.ofNat_le.mp m2⟩, Int.ofNat_le.mp k4, Int.ofNat_le.mp k10, Nat.le_of_lt (Int.ofNat_lt.mp a1)⟩, rfl, Int.natCast_nonneg (M + kk)⟩
theorem pos2 {d : Int} (h : 2 ≤ d) : 0 < d := by omega
theorem d64 {d : Int} (h2 : 2 ≤ d) (h6 : d ≤ 1000000) : -(2 ^ 64) < d ∧ d < 2 ^ 64 := by omega
theorem v64 {v d : Int} (h0 : 0 ≤ v) (h1 : v < d) (h6 : d ≤ 1000000) : -(2 ^ 64) < v ∧ v < 2 ^ 64 := by omega
theorem sz40 {d s : Int} (h2 : 2 ≤ d) (h6 : d ≤ 1000000) (m1 : s < d) : d * s < 2 ^ 40 := by
  have a := Int.mul_le_mul_of_nonneg_left (show s ≤ 1000000 by omega) (show 0 ≤ d by omega)
  have b : (2 : Int) ^ 40 = 1099511627776 := by decide
  omega
theorem two_of {x : Int} (h0 : 0 ≤ x) (h1 : x ≠ 0) (h2 : x ≠ 1) : 2 ≤ x := by omega
theorem lt30 {x d : Int} (h2 : 2 ≤ x) (h : x < d) (h6 : d ≤ 1000000) : (x ≤ 1000000) ∧ (0 < x ∧ x < 1073741824) := by omega
theorem GoodBase.lpos {kept spare : List Int} (g : GoodBase kept spare) : (0 : Int) < kept.length := by have := g.k1; omega
theorem GoodBase.r20 {kept spare : List Int} (g : GoodBase kept spare) (n : Int) : (rests (kept ++ spare) n).length ≤ 20 := by
  have h1 := g.k6
  have h2 := g.s4
  unfold rests
  rw [List.length_map, List.length_append]; omega
end RF
set_option linter.all false
namespace RF
structure IsKept (kept fig : List Int) (v : Int) : Prop where
  fits : Fits kept v
  rs : ∀ (j : Nat) (d r : Int), kept[j]? = some d → fig[j]? = some r → v % d = r
structure Valid (ds fig : List Int) : Prop where
  len : fig.length = ds.length
  rng : ∀ (j : Nat) (d r : Int), ds[j]? = some d → fig[j]? = some r → 0 ≤ r ∧ r < d
theorem GoodBase.copK {kept spare : List Int} (g : GoodBase kept spare) : kept.Pairwise Cop := (List.pairwise_append.mp g.cop).1
theorem kept_unique {kept spare fig : List Int} (g : GoodBase kept spare) (hl : kept.length ≤ fig.length) {v u : Int} (a : IsKept kept fig v) (b : IsKept kept fig u) : v = u := by
  have lh := low_high kept
  refine same_of_rests g.copK (lo := lowest kept) (fun d hd => ?_) a.fits.1 (by have := a.fits.2; omega) b.fits.1 (by have := b.fits.2; omega)
  obtain ⟨j, hj, e⟩ := List.mem_iff_getElem.mp hd
  have h1 : kept[j]? = some d := by rw [List.getElem?_eq_getElem hj, e]
  have h2 : fig[j]? = some fig[j] := List.getElem?_eq_getElem (by omega)
  rw [a.rs j d _ h1 h2, b.rs j d _ h1 h2]
theorem emod_sub_span {kept : List Int} {d x : Int} (hd : d ∈ kept) : (x - prod kept) % d = x % d := by
  obtain ⟨k, e⟩ := dvd_prod hd
  rw [e, Int.sub_mul_emod_self_left]
theorem kept_low {kept fig : List Int} {number step : Int} (u : Upto kept fig kept.length number step) (h : ¬ highest kept < number) : IsKept kept fig number := by
  refine ⟨⟨?_, by omega⟩, fun j d r hd hr => u.rs j (List.getElem?_eq_some_iff.mp hd).1 d r hd hr⟩
  have := u.lo
  have h2 : 0 < prod kept := by
    have := u.st
    rw [List.take_length] at this
    have := u.hi
    omega
  unfold lowest
  omega
theorem kept_high {kept fig : List Int} {number step : Int} (u : Upto kept fig kept.length number step) (h : highest kept < number) : IsKept kept fig (number - prod kept) := by
  have hs := u.st
  rw [List.take_length] at hs
  have hi := u.hi
  have lh := low_high kept
  refine ⟨⟨by omega, ?_⟩, fun j d r hd hr => by rw [emod_sub_span (List.mem_of_getElem? hd)]; exact u.rs j (List.getElem?_eq_some_iff.mp hd).1 d r hd hr⟩
  have h0 := u.lo
  have : 0 ≤ highest kept := by unfold highest; omega
  omega
theorem rests_get {ds : List Int} {n : Int} {j : Nat} {d : Int} (h : ds[j]? = some d) : (rests ds n)[j]? = some (n % d) := by
  unfold rests; rw [List.getElem?_map, h]; rfl
theorem rests_length (ds : List Int) (n : Int) : (rests ds n).length = ds.length := List.length_map ..
theorem rests_valid {ds : List Int} (h2 : ∀ d ∈ ds, 2 ≤ d) (n : Int) : Valid ds (rests ds n) := by
  refine ⟨rests_length _ _, fun j d r hd hr => ?_⟩
  rw [rests_get hd] at hr
  cases hr
  have := h2 d (List.mem_of_getElem? hd)
  exact ⟨Int.emod_nonneg _ (by omega), Int.emod_lt_of_pos _ (by omega)⟩
theorem kept_of_rests {kept spare : List Int} {n v : Int} (hf : Fits kept v) (e : ∀ d ∈ kept, v % d = n % d) : IsKept kept (rests (kept ++ spare) n) v := by
  refine ⟨hf, fun j d r hd hr => ?_⟩
  have hj := (List.getElem?_eq_some_iff.mp hd).1
  rw [rests_get (show (kept ++ spare)[j]? = some d by rw [List.getElem?_append_left hj]; exact hd)] at hr
  cases hr
  exact e d (List.mem_of_getElem? hd)
theorem kept_of_fits {kept spare : List Int} {n : Int} (hf : Fits kept n) : IsKept kept (rests (kept ++ spare) n) n := kept_of_rests hf fun _ _ => rfl
theorem bad_long {ds fig : List Int} {x : Int} (h : fig.length = ds.length) : ¬ Valid ds (fig ++ [x]) := fun v => by
  have := v.len
  rw [List.length_append] at this
  simp only [List.length_singleton] at this
  omega
theorem bad_short {ds fig : List Int} (h : fig.length = ds.length) (h1 : 1 ≤ ds.length) : ¬ Valid ds (fig.take (fig.length - 1)) := fun v => by
  have := v.len
  rw [List.length_take] at this
  omega
theorem bad_at {ds fig : List Int} {j : Nat} {d x : Int} (hl : fig.length = ds.length) (hd : ds[j]? = some d) (hx : x < 0 ∨ d ≤ x) : ¬ Valid ds (fig.set j x) := fun v => by
  have hj := (List.getElem?_eq_some_iff.mp hd).1
  have := v.rng j d x hd (by rw [List.getElem?_set_self (by omega)])
  omega
theorem Valid.kept_len {kept spare ns : List Int} (v : Valid (kept ++ spare) ns) : kept.length ≤ ns.length := by
  have := v.len
  rw [List.length_append] at this
  omega
theorem Valid.kept_rng {kept spare ns : List Int} (v : Valid (kept ++ spare) ns) : ∀ (j : Nat) (d r : Int), kept[j]? = some d → ns[j]? = some r → 0 ≤ r ∧ r < d := fun j d r hd hr =>
  v.rng j d r (by rw [List.getElem?_append_left (List.getElem?_eq_some_iff.mp hd).1]; exact hd) hr
open PySem L2
theorem shaped_ints (a : List Int) : SeqAt.shaped (.list (a.map .int)) = true := by
  simp [SeqAt.shaped, PyData.canLay0, PyData.canLayAll0, PyData.depth, PyData.depthAll, PySem.W.ke_canLayAll0, PySem.W.ke_depthAll]
theorem eqv_ints : ∀ a b : List Int, PyData.eqv (.list (a.map .int)) (.list (b.map .int)) = decide (a = b) := by
  have all : ∀ a b : List Int, PyData.eqvAll (a.map .int) (b.map .int) = decide (a = b) := by
    intro a
    induction a with
    | nil => intro b; cases b <;> simp [PyData.eqvAll]
    | cons x r ih =>
      intro b
      cases b with
      | nil => simp [PyData.eqvAll]
      | cons y q =>
        simp only [List.map_cons, PyData.eqvAll, PyData.eqv, ih q]
        by_cases h : x = y <;> by_cases h2 : r = q <;> simp [h, h2]
  intro a b
  simp only [PyData.eqv, all]
theorem rdL {K : PySem.W.Frag} {H : Hp} {l : Addr} {xs : List Int} (h : H l = some (.lst (xs.map V.int))) : RdD K H (.ref l) (.list (xs.map .int)) := .lst (SqL.of h) (.ints xs)
inductive isp_inv (j : Nat) (a b : V) (H : Hp) (Q : VK) (E : XK) : Prop
  | mk (n d : Int) (h0 : a = .int n) (h1 : b = .int d) (h2 : 2 ≤ d) (h3 : d ≤ 1000000) (h4 : Cop n d) (h5 : d * (n % d) < 2 ^ j) (q : ∀ v, IsInv n d v → Q (.int v) H) : isp_inv j a b H Q E
noncomputable def sp_inv (j : Nat) : Sp := Sp2 (isp_inv j)
inductive isp_by_kept (a b : V) (H : Hp) (Q : VK) (E : XK) : Prop
  | mk (kept spare : List Int) (l : Addr) (ns : List Int) (h0 : Bas H a kept spare) (h1 : b = .ref l) (h2 : H l = some (.lst (ns.map V.int))) (h3 : kept.length ≤ ns.length) (h4 : (∀ (j : Nat) (d r : Int), kept[j]? = some d → ns[j]? = some r → 0 ≤ r ∧ r < d)) (q : ∀ v H', IsKept kept ns v → Same H H' → Q (.int v) H') : isp_by_kept a b H Q E
noncomputable def sp_by_kept : Sp := Sp2 (isp_by_kept)
inductive isp_refuse (cB : Addr) (a b : V) (H : Hp) (Q : VK) (E : XK) : Prop
  | mk (kept spare : List Int) (l : Addr) (ns : List Int) (h0 : Bas H a kept spare) (h1 : b = .ref l) (h2 : H l = some (.lst (ns.map V.int))) (q : (Valid (kept ++ spare) ns → ∀ H', Same H H' → Q .non H') ∧ (¬ Valid (kept ++ spare) ns → ∀ H', Same H H' → E (.ref cB) none H')) : isp_refuse cB a b H Q E
noncomputable def sp_refuse (cB : Addr) : Sp := Sp2 (isp_refuse cB)
inductive isp_is_right (cB : Addr) (a b : V) (H : Hp) (Q : VK) (E : XK) : Prop
  | mk (kept spare : List Int) (l : Addr) (ns : List Int) (h0 : Bas H a kept spare) (h1 : b = .ref l) (h2 : H l = some (.lst (ns.map V.int))) (q : (Valid (kept ++ spare) ns → ∀ v H', IsKept kept ns v → Same H H' → Q (.bl (decide (rests (kept ++ spare) v = ns))) H') ∧ (¬ Valid (kept ++ spare) ns → ∀ H', Same H H' → E (.ref cB) none H')) : isp_is_right cB a b H Q E
noncomputable def sp_is_right (cB : Addr) : Sp := Sp2 (isp_is_right cB)
inductive isp_number_of (cB cW : Addr) (a b : V) (H : Hp) (Q : VK) (E : XK) : Prop
  | mk (kept spare : List Int) (l : Addr) (ns : List Int) (h0 : Bas H a kept spare) (h1 : b = .ref l) (h2 : H l = some (.lst (ns.map V.int))) (q : (Valid (kept ++ spare) ns → ∀ v H', IsKept kept ns v → rests (kept ++ spare) v = ns → Same H H' → Q (.int v) H') ∧ (Valid (kept ++ spare) ns → ∀ v H', IsKept kept ns v → rests (kept ++ spare) v ≠ ns → Same H H' → E (.ref cW) none H') ∧ (¬ Valid (kept ++ spare) ns → ∀ H', Same H H' → E (.ref cB) none H')) : isp_number_of cB cW a b H Q E
noncomputable def sp_number_of (cB cW : Addr) : Sp := Sp2 (isp_number_of cB cW)
theorem cut_last {ns : List Int} (h : 1 ≤ ns.length) : cutV (ns.map V.int) none (some (-1)) = (ns.take (ns.length - 1)).map V.int := by
  unfold cutV
  rw [HT.sIx_none, List.length_map]
  have e : HT.sIx ns.length ns.length (some (-1)) = ns.length - 1 := by
    show (if (-1 : Int) < 0 then (-1 + (ns.length : Int)).toNat else min (-1 : Int).toNat ns.length) = _
    rw [if_pos (by decide)]; omega
  rw [e, List.drop_zero, Nat.sub_zero, List.map_take]
end RF
set_option linter.all false
namespace RF
open PySem L2
inductive isp_prodT (a : V) (H : Hp) (Q : VK) (E : XK) : Prop
  | mk (t : Addr) (ds : List Int) (h0 : a = .ref t) (h1 : H t = some (.tup (ds.map V.int))) (h2 : (∀ d ∈ ds, 2 ≤ d ∧ d ≤ 1000000)) (q : Q (.int (prod ds)) H) : isp_prodT a H Q E
noncomputable def sp_prodT : Sp := Sp1 (isp_prodT)
inductive isp_by_rests (a b : V) (H : Hp) (Q : VK) (E : XK) : Prop
  | mk (t l : Addr) (ds ns : List Int) (h0 : a = .ref t) (h1 : b = .ref l) (h2 : H t = some (.tup (ds.map V.int))) (h3 : H l = some (.lst (ns.map V.int))) (h4 : (∀ d ∈ ds, 2 ≤ d ∧ d ≤ 1000000)) (h5 : ds.Pairwise Cop) (h6 : ds.length ≤ ns.length) (h7 : (∀ (j : Nat) (d r : Int), ds[j]? = some d → ns[j]? = some r → 0 ≤ r ∧ r < d)) (q : ∀ v H', IsKept ds ns v → Same H H' → Q (.int v) H') : isp_by_rests a b H Q E
noncomputable def sp_by_rests : Sp := Sp2 (isp_by_rests)
theorem kept_take {kept ns : List Int} {v : Int} (h : IsKept kept (ns.take kept.length) v) : IsKept kept ns v :=
  ⟨h.fits, fun j d r hd hr => h.rs j d r hd (by rw [List.getElem?_take_of_lt (List.getElem?_eq_some_iff.mp hd).1]; exact hr)⟩
theorem take_rng {kept ns : List Int} (h : ∀ (j : Nat) (d r : Int), kept[j]? = some d → ns[j]? = some r → 0 ≤ r ∧ r < d) : ∀ (j : Nat) (d r : Int), kept[j]? = some d → (ns.take kept.length)[j]? = some r → 0 ≤ r ∧ r < d := fun j d r hd hr =>
  h j d r hd (by rw [List.getElem?_take_of_lt (List.getElem?_eq_some_iff.mp hd).1] at hr; exact hr)
theorem right_number {cB cW : Addr} {H : Hp} {a : V} {l : Addr} {kept spare : List Int} {n : Int} {Q : VK} {E : XK} (B : Bas H a kept spare) (el : H l = some (.lst ((rests (kept ++ spare) n).map V.int))) (hf : Fits kept n)
    (q : ∀ H', Same H H' → Q (.int n) H') : sp_number_of cB cW [a, .ref l] H Q E := by
  have h2 : ∀ d ∈ kept ++ spare, 2 ≤ d := fun d hd => (B.2.rng d hd).1
  have hv : Valid (kept ++ spare) (rests (kept ++ spare) n) := rests_valid h2 n
  have un : ∀ v, IsKept kept (rests (kept ++ spare) n) v → v = n := fun v hk => kept_unique B.2 hv.kept_len hk (kept_of_fits hf)
  exact ⟨a, .ref l, rfl, kept, spare, l, _, B, rfl, el, fun _ v H' hk _ S => by rw [un v hk]; exact q H' S, fun _ v H' hk he S => absurd (by rw [un v hk]) he, fun z => absurd hv z⟩
end RF
set_option linter.all false
namespace RF
open PySem L2
noncomputable def RightF (kept spare ns : List Int) (n : Int) : Prop := ns = rests (kept ++ spare) n ∧ Fits kept n
noncomputable def WrongF (kept spare ns : List Int) : Prop := Valid (kept ++ spare) ns ∧ ∀ v, IsKept kept ns v → rests (kept ++ spare) v ≠ ns
theorem right_number' {cB cW : Addr} {H : Hp} {a : V} {l : Addr} {kept spare ns : List Int} {n : Int} {Q : VK} {E : XK} (B : Bas H a kept spare) (el : H l = some (.lst (ns.map V.int))) (h : RightF kept spare ns n)
    (q : ∀ H', Same H H' → Q (.int n) H') : sp_number_of cB cW [a, .ref l] H Q E := by
  obtain ⟨rfl, hf⟩ := h
  exact right_number B el hf q
theorem wrong_number {cB cW : Addr} {H : Hp} {a : V} {l : Addr} {kept spare ns : List Int} {Q : VK} {E : XK} (B : Bas H a kept spare) (el : H l = some (.lst (ns.map V.int))) (h : WrongF kept spare ns)
    (e : ∀ H', Same H H' → E (.ref cW) none H') : sp_number_of cB cW [a, .ref l] H Q E :=
  ⟨a, .ref l, rfl, kept, spare, l, ns, B, rfl, el, fun _ v _ hk he _ => absurd he (h.2 v hk), fun _ _ H' _ _ S => e H' S, fun z => absurd h.1 z⟩
theorem bad_number {cB cW : Addr} {H : Hp} {a : V} {l : Addr} {kept spare ns : List Int} {Q : VK} {E : XK} (B : Bas H a kept spare) (el : H l = some (.lst (ns.map V.int))) (h : ¬ Valid (kept ++ spare) ns)
    (e : ∀ H', Same H H' → E (.ref cB) none H') : sp_number_of cB cW [a, .ref l] H Q E :=
  ⟨a, .ref l, rfl, kept, spare, l, ns, B, rfl, el, fun z => absurd z h, fun z => absurd z h, fun _ H' S => e H' S⟩
end RF
set_option linter.all false
namespace RF
open PySem L2
noncomputable def FigW (kept spare : List Int) (n : Int) (ns : List Int) (word : Str) : Prop := (word = "" ∧ ns = rests (kept ++ spare) n) ∨ (word = "figure" ∧ ¬ Valid (kept ++ spare) ns) ∨ (word = "wrong" ∧ WrongF kept spare ns)
inductive isp_spoiltW (a b c : V) (H : Hp) (Q : VK) (E : XK) : Prop
  | mk (kept spare : List Int) (l : Addr) (n nb : Int) (h0 : Bas H a kept spare) (h1 : b = .ref l) (h2 : c = .int nb) (h3 : H l = some (.lst ((rests (kept ++ spare) n).map V.int))) (h4 : Fits kept n) (h5 : 0 ≤ nb) (q : ∀ t l' ns word H', Same H H' → H' t = some (.tup [.ref l', .str word]) → H' l' = some (.lst (ns.map V.int)) → ns.length ≤ 20 → FigW kept spare n ns word → Q (.ref t) H') : isp_spoiltW a b c H Q E
noncomputable def sp_spoiltW : Sp := Sp3 (isp_spoiltW)
inductive isp_maybe (a b c d : V) (H : Hp) (Q : VK) (E : XK) : Prop
  | mk (kept spare : List Int) (l : Addr) (n nb o : Int) (h0 : Bas H a kept spare) (h1 : b = .ref l) (h2 : c = .int nb) (h3 : d = .int o) (h4 : H l = some (.lst ((rests (kept ++ spare) n).map V.int))) (h5 : Fits kept n) (h6 : 0 ≤ nb) (h7 : 1 ≤ o) (h8 : o ≤ 1000) (q : ∀ t l' ns word H', Same H H' → H' t = some (.tup [.ref l', .str word]) → H' l' = some (.lst (ns.map V.int)) → ns.length ≤ 20 → FigW kept spare n ns word → Q (.ref t) H') : isp_maybe a b c d H Q E
noncomputable def sp_maybe : Sp := Sp4 (isp_maybe)
theorem kit_ilt (K : PySem.W.Frag) : PySem.W.kitAny K (.type "int") (["list", "tuple"].map Value.type) = some false := by kernel_rfl
theorem kit_llt (K : PySem.W.Frag) : PySem.W.kitAny K (.type "list") (["list", "tuple"].map Value.type) = some true := by kernel_rfl
theorem kit_lt (K : PySem.W.Frag) : PySem.W.kitOne K (.type "list") (.type "tuple") = some false := by kernel_rfl
theorem cut_mid {ns : List Int} {a b : Int} (ha : 0 ≤ a) (hb : 0 ≤ b) : cutV (ns.map V.int) (some a) (some b) = ((ns.take b.toNat).drop a.toNat).map V.int := by
  have ea : a = (a.toNat : Int) := by omega
  have eb : b = (b.toNat : Int) := by omega
  unfold cutV
  rw [ea, eb, HT.sIx_nat, HT.sIx_nat, Int.toNat_natCast, Int.toNat_natCast, List.map_drop, List.map_take, List.drop_take]
  generalize a.toNat = i
  generalize b.toNat = j
  rw [List.length_map]
  rcases Nat.le_total i ns.length with hi | hi
  · rw [Nat.min_eq_left hi]
    rcases Nat.le_total j ns.length with hj | hj
    · rw [Nat.min_eq_left hj]
    · rw [Nat.min_eq_right hj, List.take_of_length_le (by rw [List.length_drop, List.length_map]; omega), List.take_of_length_le (by rw [List.length_drop, List.length_map]; omega)]
  · rw [Nat.min_eq_right hi]
    simp [List.drop_of_length_le, hi]
theorem set_cut {ns : List Int} {j : Nat} {x : Int} (h : j < ns.length) : ns.take j ++ [x] ++ ns.drop (j + 1) = ns.set j x := by
  rw [List.set_eq_take_append_cons_drop, if_pos h, List.append_assoc]; rfl
theorem other_rest {r d q : Int} (h0 : 0 ≤ r) (h1 : r < d) (hq : 0 ≤ q) (hq1 : q < d - 1) : (r + 1 + q) % d ≠ r := fun e => by
  rcases Int.lt_or_le (r + 1 + q) d with h | h
  · rw [Int.emod_eq_of_lt (by omega) h] at e; omega
  · have : (r + 1 + q) % d = r + 1 + q - d := by
      have := Int.sub_emod_right (r + 1 + q) d
      rw [← this, Int.emod_eq_of_lt (by omega) (by omega)]
    omega
theorem wrong_of_set {kept spare : List Int} (g : GoodBase kept spare) (hs : spare ≠ []) {n x d : Int} {j : Nat} (hf : Fits kept n) (hd : (kept ++ spare)[j]? = some d) (h0 : 0 ≤ x) (h1 : x < d) (hne : x ≠ n % d) : WrongF kept spare ((rests (kept ++ spare) n).set j x) := by
  have hj := (List.getElem?_eq_some_iff.mp hd).1
  have hl := rests_length (kept ++ spare) n
  have at' : ∀ i e, i ≠ j → (kept ++ spare)[i]? = some e → ((rests (kept ++ spare) n).set j x)[i]? = some (n % e) := fun i e hi he => by
    rw [List.getElem?_set_ne (Ne.symm hi)]; exact rests_get he
  have atj : ((rests (kept ++ spare) n).set j x)[j]? = some x := List.getElem?_set_self (by omega)
  refine ⟨⟨by rw [List.length_set, hl], fun i e r he hr => ?_⟩, fun v hk e => ?_⟩
  · by_cases hi : i = j
    · subst hi
      rw [hd] at he; cases he
      rw [atj] at hr; cases hr
      exact ⟨h0, h1⟩
    · rw [at' i e hi he] at hr; cases hr
      have := (g.rng e (List.mem_of_getElem? he)).1
      exact ⟨Int.emod_nonneg _ (by omega), Int.emod_lt_of_pos _ (by omega)⟩
  · have hv : v = n := one_place g hs hj hk.fits hf fun i e' hi he => by
      have h := rests_get (n := v) he
      rw [e, at' i e' hi he] at h
      exact (Option.some.inj h).symm
    have h := rests_get (n := v) hd
    rw [e, atj, hv] at h
    exact hne (Option.some.inj h)
theorem nearList_ok : (∀ d ∈ ([999863, 999883, 999907, 999917, 999931, 999953, 999959, 999961, 999979, 999983] : List Int), 2 ≤ d ∧ d ≤ 1000000) ∧ ([999863, 999883, 999907, 999917, 999931, 999953, 999959, 999961, 999979, 999983] : List Int).Pairwise Cop ∧
    ([999863, 999883, 999907, 999917, 999931, 999953, 999959, 999961, 999979, 999983] : List Int).Pairwise (· < ·) := ⟨by decide, by decide +kernel, by decide⟩
theorem near_base {many at' k : Nat} (h1 : 1 ≤ many) (h6 : many ≤ 6) (hk : k ≤ 4) (hm : many + k ≤ 10) (ha : at' ≤ many) :
    GoodBase ((([999863, 999883, 999907, 999917, 999931, 999953, 999959, 999961, 999979, 999983] : List Int).take many).drop at' ++ ([999863, 999883, 999907, 999917, 999931, 999953, 999959, 999961, 999979, 999983] : List Int).take at')
      ((([999863, 999883, 999907, 999917, 999931, 999953, 999959, 999961, 999979, 999983] : List Int).take (many + k)).drop many) := by
  obtain ⟨a, b, c⟩ := nearList_ok
  generalize hL : ([999863, 999883, 999907, 999917, 999931, 999953, 999959, 999961, 999979, 999983] : List Int) = L at *
  have hl : L.length = 10 := by rw [← hL]; rfl
  have sub : (L.take (many + k)).Sublist L := List.take_sublist _ _
  have g := good_cut (l := L.take (many + k)) (n := many) (at' := at') (rev := false) (fun d hd => a d (sub.subset hd)) (b.sublist sub) (c.sublist sub) h1 h6 (by rw [List.length_take]; omega) (by rw [List.length_take]; omega)
  have e1 : (L.take (many + k)).take many = L.take many := by rw [List.take_take, Nat.min_eq_left (by omega)]
  have e2 : (L.take many).take at' = L.take at' := by rw [List.take_take, Nat.min_eq_left ha]
  rw [e1, e2] at g
  exact g
end RF
set_option linter.all false
namespace RF
open PySem L2
noncomputable def theWords : List Str := ["great", "figure", "wrong", "divisor", "place", "base", "unlike"]
structure IsC (K : PySem.W.Frag) (cR c0 c1 c2 c3 c4 c5 c6 : Addr) (c : Addr) (j : Nat) : Prop where
  g : ExcC K c
  r : PySem.W.exmOne K (.ref c) (.ref cR) = some true
  v : PySem.W.kitOne K (.ref c) (.type "ValueError") = some true
  k0 : PySem.W.kitOne K (.ref c) (.ref c0) = some (decide (j = 0))
  k1 : PySem.W.kitOne K (.ref c) (.ref c1) = some (decide (j = 1))
  k2 : PySem.W.kitOne K (.ref c) (.ref c2) = some (decide (j = 2))
  k3 : PySem.W.kitOne K (.ref c) (.ref c3) = some (decide (j = 3))
  k4 : PySem.W.kitOne K (.ref c) (.ref c4) = some (decide (j = 4))
  k5 : PySem.W.kitOne K (.ref c) (.ref c5) = some (decide (j = 5))
  k6 : PySem.W.kitOne K (.ref c) (.ref c6) = some (decide (j = 6))
noncomputable def sp_class (K : PySem.W.Frag) (cR c0 c1 c2 c3 c4 c5 c6 : Addr) : Sp := Sp1 fun a H Q _ => ∃ ea c j, ∃ w : Str, a = .ref ea ∧ H ea = some (.ext (exPhi ea c)) ∧ IsC K cR c0 c1 c2 c3 c4 c5 c6 c j ∧ theWords[j]? = some w ∧ ∀ H', Same H H' → Q (.str w) H'
noncomputable def WordC (K : PySem.W.Frag) (cR c0 c1 c2 c3 c4 c5 c6 : Addr) (w : Str) (c : Addr) : Prop := ∃ j, IsC K cR c0 c1 c2 c3 c4 c5 c6 c j ∧ theWords[j]? = some w
noncomputable def FigIn (H : Hp) (b : V) (kept spare : List Int) (n : Int) (w : Str) : Prop := ∃ (l : Addr) (ns : List Int), b = .ref l ∧ H l = some (.lst (ns.map V.int)) ∧ ns.length ≤ 20 ∧ Fits kept n ∧ FigW kept spare n ns w
theorem FigIn.up {H H' : Hp} {b : V} {kept spare : List Int} {n : Int} {w : Str} (h : FigIn H b kept spare n w) (S : Same H H') : FigIn H' b kept spare n w := by
  obtain ⟨l, ns, e, el, r⟩ := h
  exact ⟨l, ns, e, S _ _ el, r⟩
theorem word3 {kept spare : List Int} {n : Int} {ns : List Int} {w : Str} (h : FigW kept spare n ns w) : w = "" ∨ w = "figure" ∨ w = "wrong" := by
  rcases h with ⟨h, _⟩ | ⟨h, _⟩ | ⟨h, _⟩
  · exact .inl h
  · exact .inr (.inl h)
  · exact .inr (.inr h)
noncomputable def toldL (j : Nat) : List V := [.bl (decide (j = 0)), .bl (decide (j = 1)), .bl (decide (j = 2)), .bl (decide (j = 3)), .bl (decide (j = 4)), .bl (decide (j = 5)), .bl (decide (j = 6))]
theorem toldL_at {j m : Nat} {z : V} (h : (toldL j)[m]? = some z) : z = .bl (decide (j = m)) := by
  unfold toldL at h
  match m, h with
  | 0, h => exact (Option.some.inj h).symm
  | 1, h => exact (Option.some.inj h).symm
  | 2, h => exact (Option.some.inj h).symm
  | 3, h => exact (Option.some.inj h).symm
  | 4, h => exact (Option.some.inj h).symm
  | 5, h => exact (Option.some.inj h).symm
  | 6, h => exact (Option.some.inj h).symm
  | m + 7, h => simp at h
theorem toldL_count {j : Nat} (h : j < 7) : (toldL j).countP (fun z => eqV z (.bl true)) = 1 :=
  (by decide +kernel : ∀ j : Fin 7, (toldL j).countP (fun z => eqV z (.bl true)) = 1) ⟨j, h⟩
theorem toldL_hit {j : Nat} (h : j < 7) : ∃ z, (toldL j)[j]? = some z ∧ eqV z (.bl true) = true := by
  have hl : j < (toldL j).length := h
  refine ⟨(toldL j)[j], List.getElem?_eq_getElem hl, ?_⟩
  rw [toldL_at (List.getElem?_eq_getElem hl), decide_eq_true rfl]; rfl
theorem toldL_no {j m : Nat} {z : V} (h : m < j) (hz : (toldL j)[m]? = some z) : eqV z (.bl true) = false := by
  rw [toldL_at hz, decide_eq_false (show ¬ j = m by omega)]; rfl
theorem words_at {j : Nat} {w : Str} (h : theWords[j]? = some w) : atI (theWords.map V.str) (j : Int) = some (.str w) := atI_nat (by rw [List.getElem?_map, h]; rfl)
end RF
set_option linter.all false
namespace RF
open PySem L2
theorem num_due {cB cW : Addr} {H : Hp} {a : V} {l1 : Addr} {kept spare ns1 : List Int} {n1 : Int} {w1 : Str} {Q : VK} {E : XK} (B : Bas H a kept spare) (e1 : H l1 = some (.lst (ns1.map V.int))) (f1 : Fits kept n1) (F1 : FigW kept spare n1 ns1 w1)
    (right : ("figure" : Str) ∉ [w1] → ("wrong" : Str) ∉ [w1] → ∀ H', Same H H' → Q (.int n1) H')
    (bad : ("figure" : Str) ∈ [w1] → ∀ H', Same H H' → E (.ref cB) none H') (wr : ("figure" : Str) ∉ [w1] → ("wrong" : Str) ∈ [w1] → ∀ H', Same H H' → E (.ref cW) none H') : sp_number_of cB cW [a, .ref l1] H Q E := by
  have d1 : ("figure" : Str) ≠ "" := by decide
  have d2 : ("wrong" : Str) ≠ "" := by decide
  have d3 : ("figure" : Str) ≠ "wrong" := by decide
  rcases F1 with ⟨h1, g1⟩ | ⟨h1, g1⟩ | ⟨h1, g1⟩ <;> subst h1
  · exact right_number' B e1 ⟨g1, f1⟩ (right (by simp [d1]) (by simp [d2]))
  · exact bad_number B e1 g1 (bad (by simp))
  · exact wrong_number B e1 g1 (wr (by simp [d3]) (by simp))
end RF
set_option linter.all false
namespace RF
open PySem L2
end RF
set_option linter.all false
namespace RF
open PySem L2 PyProof.Rows
theorem firstMet_len (val : Nat → Int) : ∀ i, (firstMet val i).length = i ↔ ((List.range i).map val).Nodup
  | 0 => by rw [firstMet_zero]; simp
  | i + 1 => by
    have ih := firstMet_len val i
    have le := firstMet_length_le val i
    have an := firstMet_any val i (val i)
    rw [firstMet_succ, List.range_succ, List.map_append]
    unfold step_dedup
    cases h : (firstMet val i).any (· == val i) with
    | true =>
      rw [if_pos rfl]
      rw [h] at an
      obtain ⟨y, hy, e⟩ := List.any_eq_true.mp an.symm
      have e : y = val i := by simpa using e
      subst e
      constructor
      · intro z; omega
      · intro z
        have := (List.nodup_append.mp z).2.2 _ hy _ (List.mem_singleton.mpr rfl)
        exact absurd rfl this
    | false =>
      rw [if_neg (by simp), List.length_append, List.length_singleton]
      rw [h] at an
      have hn : val i ∉ (List.range i).map val := fun hm => by
        have := List.any_eq_false.mp an.symm _ hm
        simp at this
      constructor
      · intro z
        refine List.nodup_append.mpr ⟨ih.mp (by omega), by simp, fun a ha b hb => ?_⟩
        rw [List.mem_singleton.mp hb]
        rintro rfl
        exact hn ha
      · intro z
        have := ih.mpr (List.nodup_append.mp z).1
        omega
theorem range_getD (ns : List Int) : (List.range ns.length).map (fun i => ns.getD i 0) = ns := by
  apply List.ext_getElem?
  intro i
  rw [List.getElem?_map]
  by_cases h : i < ns.length
  · rw [List.getElem?_range h, List.getElem?_eq_getElem h]
    simp [h]
  · rw [List.getElem?_eq_none (by rw [List.length_range]; omega), List.getElem?_eq_none (by omega)]; rfl
theorem onces_len (ns : List Int) : (onces ns).length = ns.length ↔ ns.Nodup := by
  unfold onces
  rw [firstMet_len, range_getD]
noncomputable def PlacesOk (ps : List Int) (count : Int) : Prop := (∀ p ∈ ps, 0 ≤ p ∧ p < count) ∧ ps.Nodup
inductive isp_places (cP : Addr) (a b : V) (H : Hp) (Q : VK) (E : XK) : Prop
  | mk (l : Addr) (ps : List Int) (count : Int) (h0 : a = .ref l) (h1 : b = .int count) (h2 : H l = some (.lst (ps.map V.int))) (h3 : ps.length < 64) (q : (PlacesOk ps count → ∀ H', Same H H' → Q .non H') ∧ (¬ PlacesOk ps count → ∀ H', Same H H' → E (.ref cP) none H')) : isp_places cP a b H Q E
noncomputable def sp_places (cP : Addr) : Sp := Sp2 (isp_places cP)
end RF
set_option linter.all false
namespace RF
open PySem L2
theorem sub_len : ∀ {a b : List Int}, a.Nodup → (∀ x ∈ a, x ∈ b) → a.length ≤ b.length
  | [], _, _, _ => Nat.zero_le _
  | x :: r, b, hn, hs => by
    have hx := hs x List.mem_cons_self
    have hn' := List.nodup_cons.mp hn
    have ih := sub_len (a := r) (b := b.erase x) hn'.2 fun y hy => (List.mem_erase_of_ne (fun e : y = x => hn'.1 (e ▸ hy))).mpr (hs y (List.mem_cons_of_mem _ hy))
    rw [List.length_erase_of_mem hx] at ih
    have : 0 < b.length := List.length_pos_of_mem hx
    rw [List.length_cons]; omega
noncomputable def leftOf (many : Nat) (ps : List Int) : List Int := ((List.range many).filter fun i : Nat => !decide ((0 : Int) + i ∈ ps)).map fun i : Nat => (0 : Int) + i
theorem left_mem {many : Nat} {ps : List Int} {x : Int} (h : x ∈ leftOf many ps) : (0 ≤ x ∧ x < many) ∧ x ∉ ps := by
  unfold leftOf at h
  obtain ⟨i, hi, rfl⟩ := List.mem_map.mp h
  obtain ⟨hr, hp⟩ := List.mem_filter.mp hi
  have := List.mem_range.mp hr
  refine ⟨by omega, ?_⟩
  intro z
  rw [decide_eq_true z] at hp
  exact Bool.false_ne_true hp
theorem left_pos {many : Nat} {ps : List Int} (h : ps.length < many) : 0 < (leftOf many ps).length := by
  refine Nat.pos_of_ne_zero fun z => ?_
  have e : leftOf many ps = [] := List.length_eq_zero_iff.mp z
  have all : ∀ x ∈ (List.range many).map (fun i : Nat => (i : Int)), x ∈ ps := fun x hx => by
    obtain ⟨i, hi, rfl⟩ := List.mem_map.mp hx
    refine Classical.byContradiction fun hn => ?_
    have : (0 : Int) + i ∈ leftOf many ps := List.mem_map.mpr ⟨i, List.mem_filter.mpr ⟨hi, by rw [Int.zero_add, decide_eq_false hn]; rfl⟩, rfl⟩
    rw [e] at this; cases this
  have nd : ((List.range many).map (fun i : Nat => (i : Int))).Nodup := by
    rw [List.nodup_iff_pairwise_ne, List.pairwise_map]
    exact List.Pairwise.imp (fun {a b : Nat} (hab : a ≠ b) (z : (a : Int) = (b : Int)) => hab (by omega)) (List.nodup_iff_pairwise_ne.mp List.nodup_range)
  have := sub_len nd all
  rw [List.length_map, List.length_range] at this
  omega
theorem ins_perm (ps : List Int) (j : Nat) (x : Int) : (ps.take j ++ x :: ps.drop j).Perm (x :: ps) := by
  have := List.perm_middle (a := x) (l₁ := ps.take j) (l₂ := ps.drop j)
  rwa [List.take_append_drop] at this
theorem ins_map (ps : List Int) (j : Nat) (x : Int) : (ps.map V.int).take j ++ V.int x :: (ps.map V.int).drop j = (ps.take j ++ x :: ps.drop j).map V.int := by
  rw [List.map_append, List.map_cons, List.map_take, List.map_drop]
theorem ins_ok {ps : List Int} {c x : Int} (j : Nat) (h : PlacesOk ps c) (hx : 0 ≤ x ∧ x < c) (hn : x ∉ ps) : PlacesOk (ps.take j ++ x :: ps.drop j) c := by
  have p := ins_perm ps j x
  refine ⟨fun y hy => ?_, p.nodup_iff.mpr (List.nodup_cons.mpr ⟨hn, h.2⟩)⟩
  rcases List.mem_cons.mp (p.mem_iff.mp hy) with rfl | z
  · exact hx
  · exact h.1 y z
theorem ins_bad {ps : List Int} {c x : Int} (j : Nat) (h : x ∈ ps ∨ ¬ (0 ≤ x ∧ x < c)) : ¬ PlacesOk (ps.take j ++ x :: ps.drop j) c := fun ok => by
  have p := ins_perm ps j x
  rcases h with h | h
  · exact (List.nodup_cons.mp (p.nodup_iff.mp ok.2)).1 h
  · exact h (ok.1 x (p.mem_iff.mpr List.mem_cons_self))
theorem two_bad {ps : List Int} {c x : Int} : ¬ PlacesOk (ps ++ [x, x]) c := fun ok => by
  have := (List.nodup_append.mp ok.2).2.1
  simp at this
theorem flat_ints (ns : List Int) : (ns.map V.int).all flatV = true := by rw [List.all_eq_true]; intro y hy; obtain ⟨z, _, rfl⟩ := List.mem_map.mp hy; rfl
theorem in_ints (z : Int) : ∀ ns : List Int, inV (.int z) (ns.map V.int) = decide (z ∈ ns)
  | [] => rfl
  | y :: r => by
    have ih := in_ints z r
    unfold inV at ih ⊢
    rw [List.map_cons, List.any_cons, ih]
    show ((y == z) || decide (z ∈ r)) = decide (z ∈ y :: r)
    rw [Bool.eq_iff_iff, Bool.or_eq_true, decide_eq_true_iff, decide_eq_true_iff, List.mem_cons, beq_iff_eq, eq_comm]
theorem atI_any {ns : List Int} {i : Int} (h0 : 0 ≤ i) (h1 : i < ns.length) : ∃ z, atI (ns.map V.int) i = some (.int z) := ⟨_, atI_ints h0 h1⟩
theorem lplus (n : Nat) : (0 : Int) < (n : Int) + 1 := by omega
theorem hi_lt {i k len : Nat} {x : Int} (hi : i < x.toNat) (h : x < (k : Int) + 1) (hl : len = i) : len < k := by omega
end RF
set_option linter.all false
namespace RF
open PySem L2
inductive isp_common (a b : V) (H : Hp) (Q : VK) (E : XK) : Prop
  | mk (x y : Int) (h0 : a = .int x) (h1 : b = .int y) (h2 : 0 ≤ x) (h3 : 0 ≤ y) (q : Q (.int (Int.gcd x y)) H) : isp_common a b H Q E
noncomputable def sp_common : Sp := Sp2 isp_common
inductive isp_hcp (a : V) (H : Hp) (Q : VK) (E : XK) : Prop
  | mk (l : Addr) (ds : List Int) (h0 : a = .ref l) (h1 : H l = some (.lst (ds.map V.int))) (h2 : ∀ d ∈ ds, 2 ≤ d ∧ d ≤ 1000000) (q : Q (.bl (hasCommon 1 ds)) H) : isp_hcp a H Q E
noncomputable def sp_hcp (_ : PySem.W.Frag) : Sp := Sp1 isp_hcp
theorem hasCommon_drop {p : Int} {ds : List Int} {i : Nat} {d : Int} (h : ds[i]? = some d) : hasCommon p (ds.drop i) = if Int.gcd p d = 1 then hasCommon (p * d) (ds.drop (i + 1)) else true := by
  obtain ⟨hi, e⟩ := List.getElem?_eq_some_iff.mp h
  rw [List.drop_eq_getElem_cons hi, e]
  rfl
inductive isp_base_of (cA : Addr) (a b : V) (H : Hp) (Q : VK) (E : XK) : Prop
  | mk (lk ls : Addr) (kept spare : List Int) (h0 : a = .ref lk) (h1 : b = .ref ls) (h2 : H lk = some (.lst (kept.map V.int))) (h3 : H ls = some (.lst (spare.map V.int))) (h4 : kept.length ≤ 100) (h5 : spare.length ≤ 100)
      (q : GoodBase kept spare → ∀ t H', Same H H' → H t = none → BaseAt H' t kept spare → Q (.ref t) H') (e : ¬ GoodBase kept spare → ∀ H', Same H H' → E (.ref cA) none H') : isp_base_of cA a b H Q E
noncomputable def sp_base_of (cA : Addr) : Sp := Sp2 (isp_base_of cA)
inductive SD (H : Hp) : Nat → V → V → Prop
  | int (n : Nat) (x : Int) : SD H (n + 1) (.int x) (.int x)
  | lst {n : Nat} {l1 l2 : Addr} {xs ys : List V} (e1 : H l1 = some (.lst xs)) (e2 : H l2 = some (.lst ys)) (hl : xs.length = ys.length) (h100 : xs.length ≤ 100) (h : ∀ (i : Nat) (x y : V), xs[i]? = some x → ys[i]? = some y → SD H n x y) : SD H (n + 1) (.ref l1) (.ref l2)
  | tup {n : Nat} {l1 l2 : Addr} {xs ys : List V} (e1 : H l1 = some (.tup xs)) (e2 : H l2 = some (.tup ys)) (hl : xs.length = ys.length) (h100 : xs.length ≤ 100) (h : ∀ (i : Nat) (x y : V), xs[i]? = some x → ys[i]? = some y → SD H n x y) : SD H (n + 1) (.ref l1) (.ref l2)
theorem SD.up {H H' : Hp} {n : Nat} {a b : V} (h : SD H n a b) (S : Same H H') : SD H' n a b := by
  induction h with
  | int n x => exact .int n x
  | lst e1 e2 hl h100 _ ih => exact .lst (S _ _ e1) (S _ _ e2) hl h100 ih
  | tup e1 e2 hl h100 _ ih => exact .tup (S _ _ e1) (S _ _ e2) hl h100 ih
inductive isp_sameN (n : Nat) (a b : V) (H : Hp) (Q : VK) (E : XK) : Prop
  | mk (h : SD H n a b) (q : ∀ H', Same H H' → Q (.bl true) H') : isp_sameN n a b H Q E
noncomputable def sp_sameN (n : Nat) : Sp := Sp2 (isp_sameN n)
theorem sd_ints {n : Nat} {H : Hp} {ns : List Int} (i : Nat) (x y : V) (hx : (ns.map V.int)[i]? = some x) (hy : (ns.map V.int)[i]? = some y) : SD H (n + 1) x y := by
  obtain ⟨d, _, rfl⟩ := ints_at hx
  rw [hx] at hy
  cases hy
  exact .int n d
theorem sd_list {n : Nat} {H : Hp} {l1 l2 : Addr} {ns : List Int} (e1 : H l1 = some (.lst (ns.map V.int))) (e2 : H l2 = some (.lst (ns.map V.int))) (h : ns.length ≤ 100) : SD H (n + 2) (.ref l1) (.ref l2) :=
  .lst e1 e2 rfl (by rw [List.length_map]; exact h) sd_ints
theorem sd_tup {n : Nat} {H : Hp} {l1 l2 : Addr} {ns : List Int} (e1 : H l1 = some (.tup (ns.map V.int))) (e2 : H l2 = some (.tup (ns.map V.int))) (h : ns.length ≤ 100) : SD H (n + 2) (.ref l1) (.ref l2) :=
  .tup e1 e2 rfl (by rw [List.length_map]; exact h) sd_ints
theorem sd_pair {n : Nat} {H : Hp} {t t' : Addr} {a b a' b' : V} (e : H t = some (.tup [a, b])) (e' : H t' = some (.tup [a', b'])) (h1 : SD H n a a') (h2 : SD H n b b') : SD H (n + 1) (.ref t) (.ref t') := by
  refine .tup e e' rfl (by show 2 ≤ 100; decide) fun i x y hx hy => ?_
  rcases i with _ | _ | i
  · cases hx; cases hy; exact h1
  · cases hx; cases hy; exact h2
  · cases hx
theorem sd_base {n : Nat} {H : Hp} {t t' : Addr} {kept spare : List Int} (g : GoodBase kept spare) (h : BaseAt H t kept spare) (h' : BaseAt H t' kept spare) : SD H (n + 3) (.ref t) (.ref t') := by
  obtain ⟨t1, t2, e0, e1, e2⟩ := h.ex
  obtain ⟨u1, u2, f0, f1, f2⟩ := h'.ex
  have := g.k6
  have := g.s4
  exact sd_pair e0 f0 (sd_tup e1 f1 (by omega)) (sd_tup e2 f2 (by omega))
inductive isp_isbase (a b : V) (H : Hp) (Q : VK) (E : XK) : Prop
  | mk (tk ts : Addr) (kept spare : List Int) (h0 : a = .ref tk) (h1 : b = .ref ts) (h2 : SqT [] H tk (kept.map V.int)) (h3 : SqT [] H ts (spare.map V.int)) (h4 : kept.length ≤ 30) (h5 : spare.length ≤ 30)
      (q : ∀ b H', (b = true ↔ GoodBase kept spare) → Same H H' → Q (.bl b) H') : isp_isbase a b H Q E
noncomputable def sp_isbase : Sp := Sp2 isp_isbase
noncomputable def keepOf (all : List Int) (lo : Int) (n : Nat) (ps : List Int) : List Int := ((List.range n).filter fun i : Nat => !decide ((lo + i : Int) ∈ ps)).map fun i : Nat => all.getD (lo + i).toNat 0
theorem Fits.wide {kept kk : List Int} {n : Int} (h : Fits kept n) (hp : 0 < prod kept) (hk : ∀ d ∈ kk, 2 ≤ d) : Fits (kept ++ kk) n := by
  have h1 : 1 ≤ prod kk := prod_pos hk
  have h2 : prod kept ≤ prod (kept ++ kk) := by
    rw [prod_append]
    have := Int.mul_le_mul_of_nonneg_left h1 (Int.le_of_lt hp)
    omega
  obtain ⟨a, b⟩ := h
  unfold Fits
  unfold RF.lowest RF.highest at *
  omega
noncomputable def gcdV (d : Int) : V → V
  | .int o => .bl (decide ((1 : Int) < ((Int.gcd d o : Nat) : Int)))
  | _ => .non
theorem flat_gcd (d : Int) (ns : List Int) : ((ns.map V.int).map (gcdV d)).all flatV = true := by
  rw [List.all_eq_true]
  intro y hy
  obtain ⟨z, hz, rfl⟩ := List.mem_map.mp hy
  obtain ⟨o, _, rfl⟩ := List.mem_map.mp hz
  rfl
theorem in_gcd (d : Int) (ns : List Int) : inV (.bl true) ((ns.map V.int).map (gcdV d)) = decide (∃ o ∈ ns, 1 < Int.gcd d o) := by
  rw [Bool.eq_iff_iff, decide_eq_true_iff]
  unfold inV
  rw [List.any_eq_true]
  constructor
  · rintro ⟨y, hy, e⟩
    obtain ⟨z, hz, rfl⟩ := List.mem_map.mp hy
    obtain ⟨o, ho, rfl⟩ := List.mem_map.mp hz
    have e : (decide ((1 : Int) < ((Int.gcd d o : Nat) : Int)) == true) = true := e
    have e' := of_decide_eq_true (beq_iff_eq.mp e)
    exact ⟨o, ho, by omega⟩
  · rintro ⟨o, ho, h⟩
    refine ⟨_, List.mem_map.mpr ⟨_, List.mem_map.mpr ⟨o, ho, rfl⟩, rfl⟩, ?_⟩
    show (decide ((1 : Int) < ((Int.gcd d o : Nat) : Int)) == true) = true
    rw [decide_eq_true (by omega)]; rfl
theorem cop_snoc {all : List Int} {i : Nat} {d : Int} (hd : all[i]? = some d) (h2 : 2 ≤ d) (c : (all.take i).Pairwise Cop) (h : ¬ ∃ o ∈ all.take i, 1 < Int.gcd d o) : (all.take (i + 1)).Pairwise Cop := by
  rw [List.take_add_one, hd]
  refine List.pairwise_append.mpr ⟨c, List.pairwise_singleton .., fun a ha b hb => ?_⟩
  rw [List.mem_singleton.mp hb]
  have h1 : ¬ 1 < Int.gcd d a := fun z => h ⟨a, ha, z⟩
  have h3 : Int.gcd d a ≠ 0 := fun z => by have := (Int.gcd_eq_zero_iff.mp z).1; omega
  show Int.gcd a d = 1
  rw [Int.gcd_comm]
  omega
theorem cop_not {all : List Int} {i : Nat} {d : Int} (hd : all[i]? = some d) (h : ∃ o ∈ all.take i, 1 < Int.gcd d o) : ¬ all.Pairwise Cop := fun c => by
  obtain ⟨o, ho, hg⟩ := h
  have e : all = all.take i ++ all.drop i := (List.take_append_drop i all).symm
  rw [e] at c
  have hm : d ∈ all.drop i := by
    obtain ⟨hi, e⟩ := List.getElem?_eq_some_iff.mp hd
    rw [List.drop_eq_getElem_cons hi, e]; exact List.mem_cons_self ..
  have := (List.pairwise_append.mp c).2.2 o ho d hm
  have this : Int.gcd o d = 1 := this
  rw [Int.gcd_comm] at this
  omega
theorem rng_snoc {all : List Int} {i : Nat} {d : Int} (hd : all[i]? = some d) (h2 : 2 ≤ d ∧ d ≤ 1000000) (r : ∀ x ∈ all.take i, 2 ≤ x ∧ x ≤ 1000000) : ∀ x ∈ all.take (i + 1), 2 ≤ x ∧ x ≤ 1000000 := fun x hx => by
  rw [List.take_add_one, hd] at hx
  rcases List.mem_append.mp hx with z | z
  · exact r x z
  · rw [List.mem_singleton.mp z]; exact h2
end RF
set_option linter.all false
namespace RF
open PySem L2
theorem raw31 (n : Int) : ∀ d ∈ rawSome n, Int.gcd 31 d = 1 := by
  have all : ∀ i ∈ List.range 4, ∀ j ∈ List.range 3, ∀ k ∈ List.range 3, ∀ d ∈ [[2, 4, 8, 64].getD i (0 : Int), [3, 9, 27].getD j 0, [5, 25, 625].getD k 0] ++ [7, 11, 13, 17, 19, 23, 29, 101, 997, 9973, 999983], Int.gcd 31 d = 1 := by decide +kernel
  exact all _ (List.mem_range.mpr (by omega)) _ (List.mem_range.mpr (by omega)) _ (List.mem_range.mpr (by omega))
noncomputable def C31 (kept spare : List Int) : Prop := ∀ d ∈ kept ++ spare, Int.gcd 31 d = 1
theorem cut31 {ns : List Int} {m a : Nat} {rev : Bool} (h : ∀ d ∈ ns, Int.gcd 31 d = 1) : C31 ((ns.take m).drop a ++ (ns.take m).take a) (if rev then (ns.drop m).reverse else ns.drop m) := fun d hd => by
  refine h d ?_
  rcases List.mem_append.mp hd with z | z
  · rcases List.mem_append.mp z with z | z
    · exact List.mem_of_mem_take (List.mem_of_mem_drop z)
    · exact List.mem_of_mem_take (List.mem_of_mem_take z)
  · cases rev
    · exact List.mem_of_mem_drop z
    · exact List.mem_of_mem_drop (List.mem_reverse.mp z)
theorem near31 {ns : List Int} {m a j : Nat} (h : ∀ d ∈ ns, Int.gcd 31 d = 1) : C31 ((ns.take m).drop a ++ ns.take a) ((ns.take j).drop m) := fun d hd => by
  refine h d ?_
  rcases List.mem_append.mp hd with z | z
  · rcases List.mem_append.mp z with z | z
    · exact List.mem_of_mem_take (List.mem_of_mem_drop z)
    · exact List.mem_of_mem_take z
  · exact List.mem_of_mem_take (List.mem_of_mem_drop z)
inductive isp_base31 (a : V) (H : Hp) (Q : VK) (E : XK) : Prop
  | mk (n : Int) (h0 : a = .int n) (q : ∀ kept spare t H', GoodBase kept spare → C31 kept spare → Same H H' → H t = none → BaseAt H' t kept spare → Q (.ref t) H') : isp_base31 a H Q E
noncomputable def sp_base31 : Sp := Sp1 isp_base31
theorem ne_str {a b : Str} (h : a ≠ b) : (!decide (V.str a = V.str b)) = true := by rw [decide_eq_false fun e => h (V.str.inj e)]; rfl
theorem iteTe {c : Bool} {A B : Prop} (h : c = true) (a : A) : if c = true then A else B := by rw [if_pos h]; exact a
inductive Mov (k s : List Int) (n : Int) (word fault : Str) : Str → Prop
  | word (h : word ≠ "") : Mov k s n word fault word
  | fault (h : word = "") (h1 : fault ≠ "") : Mov k s n word fault fault
  | base (h : word = "") (h1 : fault = "") (h2 : ¬ GoodBase k s) : Mov k s n word fault "base"
  | great (h : word = "") (h1 : fault = "") (h2 : GoodBase k s) (h3 : ¬ Fits k n) : Mov k s n word fault "great"
  | ok (h : word = "") (h1 : fault = "") (h2 : GoodBase k s) (h3 : Fits k n) : Mov k s n word fault ""
theorem Mov.uniq {k s : List Int} {n : Int} {word fault a b : Str} (x : Mov k s n word fault a) (y : Mov k s n word fault b) : a = b := by
  cases x with
  | word h => cases y with
    | word _ => rfl
    | fault z _ => exact absurd z h
    | base z _ _ => exact absurd z h
    | great z _ _ _ => exact absurd z h
    | ok z _ _ _ => exact absurd z h
  | fault h h1 => cases y with
    | word z => exact absurd h z
    | fault _ _ => rfl
    | base _ z _ => exact absurd z h1
    | great _ z _ _ => exact absurd z h1
    | ok _ z _ _ => exact absurd z h1
  | base h h1 h2 => cases y with
    | word z => exact absurd h z
    | fault _ z => exact absurd h1 z
    | base _ _ _ => rfl
    | great _ _ z _ => exact absurd z h2
    | ok _ _ z _ => exact absurd z h2
  | great h h1 h2 h3 => cases y with
    | word z => exact absurd h z
    | fault _ z => exact absurd h1 z
    | base _ _ z => exact absurd h2 z
    | great _ _ _ _ => rfl
    | ok _ _ _ z => exact absurd z h3
  | ok h h1 h2 h3 => cases y with
    | word z => exact absurd h z
    | fault _ z => exact absurd h1 z
    | base _ _ z => exact absurd h2 z
    | great _ _ _ z => exact absurd h3 z
    | ok _ _ _ _ => rfl
inductive MV (G H : Hp) (k s : List Int) (n : Int) : Str → V → Prop
  | no {w : Str} (h : w ≠ "") : MV G H k s n w .non
  | yes (u tw lf : Addr) (g : GoodBase k s) (eu : H u = some (.tup [.ref tw, .ref lf])) (hb : BaseAt H tw k s) (el : H lf = some (.lst ((rests (k ++ s) n).map V.int))) (fr : G lf = none) : MV G H k s n "" (.ref u)
theorem MV.up {G H H' : Hp} {k s : List Int} {n : Int} {w : Str} {v : V} (h : MV G H k s n w v) (S : Same H H') : MV G H' k s n w v := by
  cases h with
  | no h => exact .no h
  | yes u tw lf g eu hb el fr => exact .yes u tw lf g (S _ _ eu) (hb.up S) (S _ _ el) fr
theorem num_word {cB cW : Addr} {H : Hp} {a : V} {l1 : Addr} {kept spare ns1 : List Int} {n1 : Int} {w1 : Str} {Q : VK} {E : XK} (B : Bas H a kept spare) (e1 : H l1 = some (.lst (ns1.map V.int))) (f1 : Fits kept n1) (F1 : FigW kept spare n1 ns1 w1)
    (right : w1 = "" → ∀ H', Same H H' → Q (.int n1) H') (bad : w1 = "figure" → ∀ H', Same H H' → E (.ref cB) none H') (wr : w1 = "wrong" → ∀ H', Same H H' → E (.ref cW) none H') : sp_number_of cB cW [a, .ref l1] H Q E := by
  refine num_due B e1 f1 F1 (fun hf hw H1 S1 => right ?_ H1 S1) (fun hb H1 S1 => bad (List.mem_singleton.mp hb).symm H1 S1) (fun _ hw H1 S1 => wr (List.mem_singleton.mp hw).symm H1 S1)
  rcases word3 F1 with h | h | h
  · exact h
  · exact absurd (by rw [h]; simp) hf
  · exact absurd (by rw [h]; simp) hw
theorem keep_len {all ps : List Int} {lo : Int} {n : Nat} : (keepOf all lo n ps).length ≤ n := by
  unfold keepOf
  rw [List.length_map]
  exact Nat.le_trans (List.length_filter_le _ _) (by rw [List.length_range]; exact Nat.le_refl _)
inductive isp_put2 (wc : Str → Addr → Prop) (a b c d : V) (H : Hp) (Q : VK) (E : XK) : Prop
  | mk (kept spare kk ss : List Int) (n : Int) (w : Str) (lk ls : Addr) (h0 : Bas H a kept spare) (h1 : FigIn H b kept spare n w) (h4 : c = .ref lk) (h5 : H lk = some (.lst (kk.map V.int))) (h6 : d = .ref ls) (h7 : H ls = some (.lst (ss.map V.int))) (h8 : kk.length ≤ 20) (h9 : ss.length ≤ 20)
      (q : ∀ v H', Same H H' → Mov (kept ++ kk) (spare ++ ss) n w "" "" → MV H H' (kept ++ kk) (spare ++ ss) n "" v → Q v H')
      (e : ∀ x c, Mov (kept ++ kk) (spare ++ ss) n w "" x → x ≠ "" → wc x c → ∀ H', Same H H' → E (.ref c) none H') : isp_put2 wc a b c d H Q E
noncomputable def sp_put2 (wc : Str → Addr → Prop) : Sp := Sp4 (isp_put2 wc)
inductive isp_lput (a b c d : V) (H : Hp) (Q : VK) (E : XK) : Prop
  | mk (kept spare kk ss : List Int) (n : Int) (w : Str) (lk ls : Addr) (h0 : Bas H a kept spare) (h1 : FigIn H b kept spare n w) (h4 : c = .ref lk) (h5 : H lk = some (.lst (kk.map V.int))) (h6 : d = .ref ls) (h7 : H ls = some (.lst (ss.map V.int))) (h8 : kk.length ≤ 20) (h9 : ss.length ≤ 20)
      (q : ∀ t x v H', Same H H' → H' t = some (.tup [.str x, v]) → Mov (kept ++ kk) (spare ++ ss) n w "" x → MV H H' (kept ++ kk) (spare ++ ss) n x v → Q (.ref t) H') : isp_lput a b c d H Q E
noncomputable def sp_lput : Sp := Sp4 isp_lput
inductive isp_taken2 (wc : Str → Addr → Prop) (a b c : V) (H : Hp) (Q : VK) (E : XK) : Prop
  | mk (kept spare k' s' : List Int) (n : Int) (w fa : Str) (lp : Addr) (ps : List Int) (h0 : Bas H a kept spare) (h1 : FigIn H b kept spare n w) (h4 : c = .ref lp) (h5 : H lp = some (.lst (ps.map V.int))) (h7 : ps.length < 64) (h8 : keepOf (kept ++ spare) 0 kept.length ps = k') (h9 : keepOf (kept ++ spare) kept.length spare.length ps = s')
      (hfa : (fa = "" ∧ PlacesOk ps ((kept ++ spare).length : Nat)) ∨ (fa = "place" ∧ ¬ PlacesOk ps ((kept ++ spare).length : Nat)))
      (q : ∀ v H', Same H H' → Mov k' s' n w fa "" → MV H H' k' s' n "" v → Q v H')
      (e : ∀ x c, Mov k' s' n w fa x → x ≠ "" → wc x c → ∀ H', Same H H' → E (.ref c) none H') : isp_taken2 wc a b c H Q E
noncomputable def sp_taken2 (wc : Str → Addr → Prop) : Sp := Sp3 (isp_taken2 wc)
inductive isp_lout (a b c : V) (H : Hp) (Q : VK) (E : XK) : Prop
  | mk (kept spare k' s' : List Int) (n : Int) (w fa : Str) (lp : Addr) (ps : List Int) (h0 : Bas H a kept spare) (h1 : FigIn H b kept spare n w) (h4 : c = .ref lp) (h5 : H lp = some (.lst (ps.map V.int))) (h7 : ps.length < 64) (h8 : keepOf (kept ++ spare) 0 kept.length ps = k') (h9 : keepOf (kept ++ spare) kept.length spare.length ps = s')
      (hfa : (fa = "" ∧ PlacesOk ps ((kept ++ spare).length : Nat)) ∨ (fa = "place" ∧ ¬ PlacesOk ps ((kept ++ spare).length : Nat)))
      (q : ∀ t x v H', Same H H' → H' t = some (.tup [.str x, v]) → Mov k' s' n w fa x → MV H H' k' s' n x v → Q (.ref t) H') : isp_lout a b c H Q E
noncomputable def sp_lout : Sp := Sp3 isp_lout
inductive isp_more2 (a b : V) (H : Hp) (Q : VK) (E : XK) : Prop
  | mk (kept spare : List Int) (nb : Int) (h0 : Bas H a kept spare) (h1 : b = .int nb) (h2 : 0 ≤ nb) (h3 : C31 kept spare)
      (q : ∀ (t lk ls : Addr) (kk ss : List Int) (H' : Hp), Same H H' → H' t = some (.tup [.ref lk, .ref ls]) → H' lk = some (.lst (kk.map V.int)) → H' ls = some (.lst (ss.map V.int)) → kk.length ≤ 3 → ss.length ≤ 2 → Q (.ref t) H') : isp_more2 a b H Q E
noncomputable def sp_more2 : Sp := Sp2 isp_more2
inductive isp_lplaces2 (a b : V) (H : Hp) (Q : VK) (E : XK) : Prop
  | mk (kept spare : List Int) (nb : Int) (h0 : Bas H a kept spare) (h1 : b = .int nb) (h2 : 0 ≤ nb) (h3 : nb < 998244353)
      (q : ∀ t lp (ps : List Int) fa H', Same H H' → H' t = some (.tup [.ref lp, .str fa]) → H' lp = some (.lst (ps.map V.int)) → ps.length ≤ 20 → ((fa = "" ∧ PlacesOk ps ((kept.length + spare.length : Nat) : Int)) ∨ (fa = "place" ∧ ¬ PlacesOk ps ((kept.length + spare.length : Nat) : Int))) → Q (.ref t) H') : isp_lplaces2 a b H Q E
noncomputable def sp_lplaces2 : Sp := Sp2 isp_lplaces2
inductive isp_moved (a b c d : V) (H : Hp) (Q : VK) (E : XK) : Prop
  | mk (k s : List Int) (n : Int) (w fa : Str) (tb : Addr) (h0 : a = .ref tb) (h1 : BaseAt H tb k s) (h2 : b = .int n) (h3 : c = .str w) (h4 : d = .str fa) (hk : k.length ≤ 30) (hs : s.length ≤ 30)
      (q : ∀ t x v H', Same H H' → H' t = some (.tup [.str x, v]) → Mov k s n w fa x → MV H H' k s n x v → Q (.ref t) H') : isp_moved a b c d H Q E
noncomputable def sp_moved : Sp := Sp4 isp_moved
inductive isp_like (a b : V) (H : Hp) (Q : VK) (E : XK) : Prop
  | mk (t1 t2 : Addr) (x : Str) (v1 v2 : V) (k s : List Int) (n : Int) (G1 G2 : Hp) (h0 : a = .ref t1) (h1 : b = .ref t2) (e1 : H t1 = some (.tup [.str x, v1])) (e2 : H t2 = some (.tup [.str x, v2])) (m1 : MV G1 H k s n x v1) (m2 : MV G2 H k s n x v2) (q : ∀ H', Same H H' → Q (.bl true) H') : isp_like a b H Q E
noncomputable def sp_like : Sp := Sp2 isp_like
noncomputable def someN : List Int := [2, 3, 5, 7, 11, 13, 17, 19, 23, 29, 31, 37, 101, 997, 9973, 999983, 999979, 1000000]
noncomputable def moreN : List Int := [6, 4, 49, 1, 0, -3, 1000001, 1000003, 10 ^ (30 : Int).toNat, -(10 ^ (30 : Int).toNat)]
noncomputable def eq1V (d : Int) : V → V
  | .int o => .bl (decide (V.int ((Int.gcd d o : Nat) : Int) = V.int 1))
  | _ => .non
theorem flat_eq1 (d : Int) (ns : List Int) : ((ns.map V.int).map (eq1V d)).all flatV = true := by
  rw [List.all_eq_true]
  intro y hy
  obtain ⟨z, hz, rfl⟩ := List.mem_map.mp hy
  obtain ⟨o, _, rfl⟩ := List.mem_map.mp hz
  rfl
noncomputable def takes (ns : List Int) (d : Int) : Bool := !inV (.bl false) ((ns.map V.int).map (eq1V d))
noncomputable def takesV (ns : List Int) : V → Bool
  | .int d => takes ns d
  | _ => false
theorem takes31 {ns : List Int} (h : ∀ o ∈ ns, Int.gcd 31 o = 1) : takes ns 31 = true := by
  unfold takes
  rw [Bool.not_eq_true', Bool.eq_false_iff]
  intro z
  unfold inV at z
  obtain ⟨y, hy, e⟩ := List.any_eq_true.mp z
  obtain ⟨v, hv, rfl⟩ := List.mem_map.mp hy
  obtain ⟨o, ho, rfl⟩ := List.mem_map.mp hv
  have e : (decide (V.int ((Int.gcd 31 o : Nat) : Int) = V.int 1) == false) = true := e
  rw [decide_eq_true (by rw [h o ho]; rfl)] at e
  cases e
theorem take_filter (ns l : List Int) : (l.map V.int).filter (takesV ns) = (l.filter (takes ns)).map V.int := by
  rw [List.filter_map]; rfl
theorem some_pos {d : Int} (h : d ∈ someN) : 0 ≤ d := (by decide : ∀ d ∈ someN, 0 ≤ d) d h
theorem some_len {ns : List Int} (h : ∀ o ∈ ns, Int.gcd 31 o = 1) : 1 ≤ (someN.filter (takes ns)).length ∧ (someN.filter (takes ns)).length ≤ 28 := by
  refine ⟨List.length_pos_of_mem (a := 31) (List.mem_filter.mpr ⟨by decide, takes31 h⟩), Nat.le_trans (List.length_filter_le _ _) (by decide)⟩
theorem last_ix {L mo : Int} (h : 1 ≤ L) (m0 : 0 ≤ mo) : 0 < (if L < 6 then L else 6) ∧ 0 ≤ L - 1 - mo % (if L < 6 then L else 6) ∧ L - 1 - mo % (if L < 6 then L else 6) < L := by
  by_cases c : L < 6
  · rw [if_pos c]
    have a := Int.emod_nonneg mo (show L ≠ 0 by omega)
    have b := Int.emod_lt_of_pos mo (show 0 < L by omega)
    omega
  · rw [if_neg c]
    omega
end RF
set_option Elab.async false
set_option linter.all false
set_option maxRecDepth 100000
set_option maxHeartbeats 4000000
namespace K11
open PySem L2 RF
seal L2.PE L2.PA L2.PS L2.PSs L2.PT L2.PG L2.PI L2.PK L2.PO L2.PEx L2.PSx L2.PSxs L2.PH L2.PW L2.PGs L2.OpR L2.CallR L2.SlR L2.IxR
noncomputable def top (i : Nat) : Stmt := PySem.Challenge.pw_restfigures_k11_divisors_put_in_and_take.main.body.getD i (.Pass ⟨0, 0, 0, 0⟩)
structure Txt (K : PySem.W.Frag) (mg : Str → Option Value) (cR cT cB cW cD cP cA cU : Addr) : Prop where
  len : mg "len" = none
  isinstance : mg "isinstance" = none
  sorted : mg "sorted" = none
  list : mg "list" = none
  tuple : mg "tuple" = none
  int : mg "int" = none
  bool : mg "bool" = none
  zip : mg "zip" = none
  all : mg "all" = none
  min : mg "min" = none
  max : mg "max" = none
  abs : mg "abs" = none
  range : mg "range" = none
  enumerate : mg "enumerate" = none
  set : mg "set" = none
  ValueError : mg "ValueError" = none
  RestError : mg "RestError" = some (.ref cR)
  TooGreat : mg "TooGreat" = some (.ref cT)
  x_TooGreat : PySem.W.excIn K cT bmV "ValueError.__new__" = true
  BadFigure : mg "BadFigure" = some (.ref cB)
  x_BadFigure : PySem.W.excIn K cB bmV "ValueError.__new__" = true
  Wrong : mg "Wrong" = some (.ref cW)
  x_Wrong : PySem.W.excIn K cW bmV "ValueError.__new__" = true
  BadDivisor : mg "BadDivisor" = some (.ref cD)
  BadPlace : mg "BadPlace" = some (.ref cP)
  x_BadPlace : PySem.W.excIn K cP bmV "ValueError.__new__" = true
  BadBase : mg "BadBase" = some (.ref cA)
  x_BadBase : PySem.W.excIn K cA bmV "ValueError.__new__" = true
  Unlike : mg "Unlike" = some (.ref cU)
  MOST_KEPT : ∃ tk, mg "MOST_KEPT" = some (.int 6 tk)
  MOST_SPARE : ∃ tk, mg "MOST_SPARE" = some (.int 4 tk)
  LEAST_DIVISOR : ∃ tk, mg "LEAST_DIVISOR" = some (.int 2 tk)
  GREATEST_DIVISOR : ∃ tk, mg "GREATEST_DIVISOR" = some (.int 1000000 tk)
section
variable {P : Program} {w : World} {K : PySem.W.Frag} {mg : Str → Option Value} {base : Heap} {cR cT cB cW cD cP cA cU : Addr}
noncomputable abbrev s__law_mixed : Stmt := top 38
theorem sc__law_mixed : FnScope ["_law_number", "_law_k", "_law_once"] ["_law_number", "_law_k"] (defScope s__law_mixed) := ⟨rfl, rfl, rfl, by decide +kernel, rfl, by decide +kernel, by decide +kernel⟩
theorem b__law_mixed : BindsAll "_law_mixed" s__law_mixed ["_law_number", "_law_k"] := binds2 fun _ _ _ _ _ _ _ _ => rfl
theorem ok_mixed (D : Def K mg "_law_mixed" s__law_mixed) : FnS P w K mg base "_law_mixed" ["_law_number", "_law_k"] 1 sp_mixed := by
  refine D.ok sc__law_mixed b__law_mixed sp2_len fun f cdv A outer s H vs Q E hr h => ?_
  obtain ⟨_, _, rfl, n, j, rfl, rfl, h0, h1, k⟩ := h
  refine ⟨_, (pss_cons (ps_set (i := 2) sc__law_mixed.nd rfl (Or.inl rfl) (pe_op op_mod (pe_op op_mul (pe_op op_add (pe_op op_add (pe_op op_mod (pv 0) pe_int) (pe_op op_mul pe_int (pv 1))) pe_int) pe_int) pe_int))
      (pss_one (ps_ret (pe_op op_mod (pe_op op_mul (pv 2) (pe_op op_add (pe_op op_add (pe_op op_mod (pv 2) pe_int) (pv 1)) pe_int)) pe_int)))), ?_⟩
  try (set_option simprocs false in dsimp only [cxOf])
  refine ⟨_, rfl, _, _, rfl, rfl, (by show (0 : Int) < 1000000007; decide), _, rfl, _, _, rfl, rfl, .inl ⟨by decide, by decide⟩, _, _, rfl, rfl, _, _, rfl, rfl, _, _, rfl, rfl, .inr ⟨by decide, by decide⟩, _, _, rfl, rfl, (by show (0 : Int) < 2147483647; decide), ?_⟩
  refine ⟨_, rfl, _, rfl, _, _, rfl, rfl, (by show (0 : Int) < 1009; decide), _, rfl, _, _, rfl, rfl, _, _, rfl, rfl, _, _, rfl, rfl, .inl ⟨by show -(2 ^ 64) < (n % 1000000007 + 7 * j + 1) * 48271 % 2147483647; omega, by show (n % 1000000007 + 7 * j + 1) * 48271 % 2147483647 < 2 ^ 64; omega⟩, _, _, rfl, rfl, (by show (0 : Int) < 998244353; decide), ?_⟩
  exact k _ (Int.emod_nonneg _ (by decide)) (Int.emod_lt_of_pos _ (by decide))
noncomputable abbrev s__law_base_by : Stmt := top 39
theorem sc__law_base_by : FnScope ["_law_number", "_law_some", "_law_many", "_law_more_here", "_law_at", "_law_first", "_law_last"] ["_law_number"] (defScope s__law_base_by) := ⟨rfl, rfl, rfl, by decide +kernel, rfl, by decide +kernel, by decide +kernel⟩
theorem b__law_base_by : BindsAll "_law_base_by" s__law_base_by ["_law_number"] := binds1 fun _ _ _ _ _ _ _ => rfl
theorem ok_base_by (D : Def K mg "_law_base_by" s__law_base_by) (T : Txt K mg cR cT cB cW cD cP cA cU) (F__law_mixed : FnS P w K mg base "_law_mixed" ["_law_number", "_law_k"] 1 sp_mixed) : FnS P w K mg base "_law_base_by" ["_law_number"] 2 sp_base31 := by
  refine D.ok sc__law_base_by b__law_base_by sp1_len fun f cdv A outer s H vs Q E hr h => ?_
  obtain ⟨_, rfl, n, rfl, k⟩ := h
  refine ⟨_, (pss_cons (ps_set (i := 1) sc__law_base_by.nd rfl (Or.inl rfl) (pe_lst (ac (pe_ix ix0L (pe_lst (ac pe_int (ac pe_int (ac pe_int (ac pe_int pa_nil))))) (pe_op op_mod (pv 0) pe_int) (fun _ _ => rfl)) (ac (pe_ix ix0L (pe_lst (ac pe_int (ac pe_int (ac pe_int pa_nil)))) (pe_op op_mod (pe_op op_fdiv (pv 0) pe_int) pe_int) (fun _ _ => rfl)) (ac (pe_ix ix0L (pe_lst (ac pe_int (ac pe_int (ac pe_int pa_nil)))) (pe_op op_mod (pe_op op_fdiv (pv 0) pe_int) pe_int) (fun _ _ => rfl)) pa_nil)))))
      (pss_cons (ps_set (i := 1) sc__law_base_by.nd rfl (Or.inl rfl) (cBi call_sorted (by rfl) T.sorted PyProof.Rows.Boot.«sorted» (ac (pe_op op0catS (pv 1) (pe_lst (ac pe_int (ac pe_int (ac pe_int (ac pe_int (ac pe_int (ac pe_int (ac pe_int (ac pe_int (ac pe_int (ac pe_int (ac pe_int pa_nil))))))))))))) pa_nil)))
      (pss_cons (ps_set (i := 2) sc__law_base_by.nd rfl (Or.inl rfl) (pe_op op_add pe_int (pe_op op_mod (pe_op op_fdiv (pv 0) pe_int) pe_int)))
      (pss_cons (ps_set (i := 3) sc__law_base_by.nd rfl (Or.inl rfl) (cFn F__law_mixed hr passes0 (ac (pv 0) (ac pe_int pa_nil))))
      (pss_cons (ps_while own_pass (pt_cmpR op_gt (cBi call0len (by rfl) T.len PyProof.Rows.Boot.«len» (ac (pv 1) pa_nil)) (pe_op op_add (pv 2) (pe_op op_mod (pe_op op_fdiv (pv 0) pe_int) pe_int)) (nomark _))
        (pss_cons (ps_expr (pe_bm PySem.F.plainAttrs_list PySem.F.slot_list_pop PySem.F.type_list_pop mt_popAt (pv 1) (ac (pe_op op_mod (pv 3) (cBi call0len (by rfl) T.len PyProof.Rows.Boot.«len» (ac (pv 1) pa_nil))) pa_nil)))
        (pss_one (ps_set (i := 3) sc__law_base_by.nd rfl (Or.inl rfl) (cFn F__law_mixed hr passes0 (ac (pv 3) (ac pe_int pa_nil)))))))
      (pss_cons (ps_set (i := 4) sc__law_base_by.nd rfl (Or.inl rfl) (pe_op op_mod (pe_op op_fdiv (pv 3) pe_int) (pv 2)))
      (pss_cons (ps_set (i := 5) sc__law_base_by.nd rfl (Or.inl rfl) (pe_slice sl0L (pv 1) po_none (po_some (pv 2))))
      (pss_cons (ps_set (i := 6) sc__law_base_by.nd rfl (Or.inl rfl) (pe_slice sl0L (pv 1) (po_some (pv 2)) po_none))
      (pss_cons (ps_if (pt_cmpR op_eq (pe_op op_mod (pv 3) pe_int) pe_int (nomark _))
        (pss_one (ps_expr (pe_bm0 PySem.F.plainAttrs_list PySem.F.slot_list_reverse PySem.F.type_list_reverse mt_reverse (pv 6))))
        pss_nil)
      (pss_one (ps_ret (pe_tup (ac (cTy call_tuple_of (by rfl) T.tuple PyProof.Rows.Boot.«tuple» (ac (pe_op op0catS (pe_slice sl0L (pv 5) (po_some (pv 4)) po_none) (pe_slice sl0L (pv 5) po_none (po_some (pv 4)))) pa_nil)) (ac (cTy call_tuple_of (by rfl) T.tuple PyProof.Rows.Boot.«tuple» (ac (pv 6) pa_nil)) pa_nil)))))))))))))), ?_⟩
  try (set_option simprocs false in dsimp only [cxOf])
  refine ⟨by decide, fun p1 h1 => ⟨_, rfl, _, _, rfl, rfl, (by show (0 : Int) < 4; decide), p1, _, _, _, rfl, rfl, SqL.of upd_same, atI_mod (ns := [2, 4, 8, 64]) n rfl (by decide), ?_⟩⟩
  refine ⟨by decide, fun p2 h2 => ⟨_, rfl, _, _, rfl, rfl, ⟨by decide, by decide⟩, _, _, rfl, rfl, (by show (0 : Int) < 3; decide), p2, _, _, _, rfl, rfl, SqL.of upd_same, atI_mod (ns := [3, 9, 27]) (n / 4) rfl (by decide), ?_⟩⟩
  refine ⟨by decide, fun p3 h3 => ⟨_, rfl, _, _, rfl, rfl, ⟨by decide, by decide⟩, _, _, rfl, rfl, (by show (0 : Int) < 3; decide), p3, _, _, _, rfl, rfl, SqL.of upd_same, atI_mod (ns := [5, 25, 625]) (n / 12) rfl (by decide), ?_⟩⟩
  refine ⟨(by show 3 ≤ sizeLine; decide), fun p4 h4 => ?_⟩
  refine ⟨_, rfl, by decide, fun p5 h5 => ⟨p4, p5, _, _, rfl, rfl, SqL.of (by rw [upd_ne (by rintro rfl; rw [upd_same] at h5; cases h5)]; exact upd_same), SqL.of upd_same, (by show 3 + 11 ≤ sizeLine; decide), fun p6 h6 => ?_⟩⟩
  refine ⟨p6, rawSome n, rfl, SqL.of upd_same, (by show 14 < 64; decide), fun l L h7 hp hs => ?_⟩
  obtain ⟨l2, lc, lr, l14⟩ := sorted_ok hp hs
  have hl0 : H l = none := ((((((Same.new h1).trans (Same.new h2)).trans (Same.new h3)).trans (Same.new h4)).trans (Same.new h5)).trans (Same.new h6)).free h7
  have S2 := ((((((Same.new h1).trans (Same.new h2)).trans (Same.new h3)).trans (Same.new h4)).trans (Same.new h5)).trans (Same.new h6)).trans (Same.new (o := .lst (L.map V.int)) h7)
  revert S2
  generalize hG : upd _ l _ = G
  intro S2
  have hGl : G l = some (.lst (L.map V.int)) := by rw [← hG]; exact upd_same
  clear hG h1 h2 h3 h4 h5 h6 h7
  refine ⟨_, rfl, _, _, rfl, rfl, ⟨by decide, by decide⟩, _, _, rfl, rfl, (by show (0 : Int) < 6; decide), _, _, rfl, rfl, ?_⟩
  obtain ⟨M, hM⟩ : ∃ M : Int, M = 1 + n / 36 % 6 := ⟨_, rfl⟩
  have m1 : 1 ≤ M := hM ▸ (many6 (n / 36)).1
  have m2 : M ≤ 6 := hM ▸ (many6 (n / 36)).2
  refine ⟨_, rfl, _, _, rfl, n, 1, rfl, rfl, by decide, by decide, fun mo mo0 _ => ?_⟩
  refine ⟨fun m σ H' => ∃ (ns : List Int) (mo : Int), σ = [some (.int n), some (.ref l), some (.int M), some (.int mo), none, none, none] ∧ H' l = some (.lst (ns.map V.int)) ∧ Same H H' ∧ ns.Sublist L ∧ M + n / 216 % 5 ≤ ns.length ∧ 0 ≤ mo ∧ m = ns.length,
    ⟨_, L, mo, by rw [hM]; rfl, hGl, S2, List.Sublist.refl L, by rw [l14]; exact le14 m2 _, mo0, rfl⟩, ?_⟩
  · rintro m σ H3 ⟨ns, mo, rfl, hH3, S3, sub, hlen, mo0, rfl⟩
    have hn14 : ns.length ≤ 14 := by rw [← l14]; exact sub.length_le
    refine ⟨_, rfl, l, _, rfl, .inl (SqL.of hH3), _, rfl, _, rfl, _, _, rfl, rfl, ⟨by decide, by decide⟩, _, _, rfl, rfl, (by show (0 : Int) < 5; decide), _, _, rfl, rfl, _, _, rfl, rfl, _, rfl, ?_⟩
    rw [List.length_map]
    by_cases hgt : M + n / 216 % 5 < (ns.length : Int)
    · rw [decide_eq_true hgt]
      refine iteT ⟨_, fun _ _ h => h, ?_⟩
      have hpos := pos_len m1 hgt
      have hmod0 := md0 mo hpos
      have hmod1 := md1 mo hpos
      have hlt := toNat_lt hmod0 hmod1
      have hget : (ns.map V.int)[(mo % (ns.length : Int)).toNat]? = some (.int (ns.getD (mo % (ns.length : Int)).toNat 0)) := by
        rw [List.getElem?_map, List.getElem?_eq_getElem hlt]
        simp [hlt]
      refine ⟨_, rfl, .inl ⟨rfl, _, SqL.of hH3⟩, _, rfl, _, rfl, l, _, rfl, .inl (SqL.of hH3), _, _, rfl, rfl, (by show (0 : Int) < ((ns.map V.int).length : Int); rw [List.length_map]; exact hpos), ?_⟩
      rw [List.length_map]
      refine ⟨l, _, _, _, _, rfl, rfl, hH3, (big_ix hmod0 hmod1 hn14).1, (big_ix hmod0 hmod1 hn14).2, by rw [List.length_map]; exact sq_idx hmod0 hmod1, hget, ?_⟩
      refine ⟨_, rfl, _, _, rfl, mo, 2, rfl, rfl, by decide, by decide, fun mo' mo0' _ => ?_⟩
      have he : (ns.map V.int).eraseIdx (mo % (ns.length : Int)).toNat = (ns.eraseIdx (mo % (ns.length : Int)).toNat).map V.int := map_erase _ _
      have hle : (ns.eraseIdx (mo % (ns.length : Int)).toNat).length = ns.length - 1 := List.length_eraseIdx_of_lt hlt
      exact ⟨_, by rw [hle]; exact sub1 hpos, ns.eraseIdx (mo % (ns.length : Int)).toNat, mo', rfl, by rw [upd_same, he], S3.upd hl0, (List.eraseIdx_sublist _ _).trans sub, by rw [hle]; exact le_sub1 hgt hpos, mo0', rfl⟩
    · rw [decide_eq_false hgt]
      refine iteF ?_
      have hsp : (ns.length : Int) = M + n / 216 % 5 := Int.le_antisymm (Int.not_lt.mp hgt) hlen
      have cn := cut_n m1 m2 hsp
      refine ⟨_, rfl, _, _, rfl, rfl, ⟨by decide, by decide⟩, _, rfl, _, _, rfl, rfl, pos1 m1, ?_⟩
      have a0 := md0 (mo / 2) (pos1 m1)
      refine ⟨_, rfl, _, rfl, _, rfl, l, _, rfl, SqL.of hH3, fun q1 g1 => ?_⟩
      rw [cut_to (nn1 m1)]
      have nq1 : l ≠ q1 := ne_of_none hH3 g1
      refine ⟨_, rfl, _, rfl, _, rfl, l, _, rfl, SqL.of (by rw [upd_ne nq1]; exact hH3), fun q2 g2 => ?_⟩
      rw [cut_from (nn1 m1)]
      have q1q2 : q1 ≠ q2 := by rintro rfl; rw [upd_same] at g2; cases g2
      have S4 : Same H (upd (upd H3 q1 (.lst ((ns.take M.toNat).map V.int))) q2 (.lst ((ns.drop M.toNat).map V.int))) := (S3.trans (Same.new g1)).trans (Same.new g2)
      have hq1 : H q1 = none := S3.free g1
      have hq2 : H q2 = none := (S3.trans (Same.new g1)).free g2
      have good : ∀ rev : Bool, GoodBase ((ns.take M.toNat).drop (mo / 2 % M).toNat ++ (ns.take M.toNat).take (mo / 2 % M).toNat) (if rev then (ns.drop M.toNat).reverse else ns.drop M.toNat) := fun rev =>
        good_cut (fun d hd => l2 d (sub.subset hd)) (lc.sublist sub) (lr.sublist sub) cn.1.1 cn.1.2 cn.2.1 cn.2.2
      have fin : ∀ (rev : Bool) (H5 : Hp), Same H H5 → H5 q1 = some (.lst ((ns.take M.toNat).map V.int)) → H5 q2 = some (.lst ((if rev then (ns.drop M.toNat).reverse else ns.drop M.toNat).map V.int)) →
          (tRet (tTup (tCons (tCB (fun xs H Q => ∃ p ys, xs = [V.ref p] ∧ ((SqL K H p ys ∧ ∀ l, H l = none → Q (V.ref l) (upd H l (.tup ys))) ∨ (SqT K H p ys ∧ Q (V.ref p) H))) (tCons (tOp (rCatS []) (tSl (rSlL []) (tVar 5) (tPart (tVar 4)) tNoPart) (tSl (rSlL []) (tVar 5) tNoPart (tPart (tVar 4)))) tNil)) (tCons (tCB (fun xs H Q => ∃ p ys, xs = [V.ref p] ∧ ((SqL K H p ys ∧ ∀ l, H l = none → Q (V.ref l) (upd H l (.tup ys))) ∨ (SqT K H p ys ∧ Q (V.ref p) H))) (tCons (tVar 6) tNil)) tNil))) { nx := fun _ H' => Q .non H', rt := Q } [some (.int n), some (.ref l), some (.int M), some (.int mo), some (.int (mo / 2 % M)), some (.ref q1), some (.ref q2)] H5) := by
        intro rev H5 S5 e1 e2
        refine ⟨_, rfl, _, rfl, _, rfl, q1, _, rfl, SqL.of e1, fun r1 k1 => ?_⟩
        rw [cut_from a0]
        have n1 : q1 ≠ r1 := ne_of_none e1 k1
        refine ⟨_, rfl, _, rfl, _, rfl, q1, _, rfl, SqL.of (by rw [upd_ne n1]; exact e1), fun r2 k2 => ?_⟩
        rw [cut_to a0]
        have n2 : r1 ≠ r2 := by rintro rfl; rw [upd_same] at k2; cases k2
        refine ⟨r1, r2, _, _, rfl, rfl, SqL.of (by rw [upd_ne n2]; exact upd_same), SqL.of upd_same, ?_, fun r3 k3 => ?_⟩
        · exact take_len ns M.toNat M.toNat _ hn14
        rw [← List.map_append]
        refine ⟨r3, _, rfl, .inl ⟨SqL.of upd_same, fun t1 k4 => ?_⟩⟩
        have S6' := (((Same.new k1).trans (Same.new k2)).trans (Same.new k3)).trans (Same.new (o := .tup (((ns.take M.toNat).drop (mo / 2 % M).toNat ++ (ns.take M.toNat).take (mo / 2 % M).toNat).map V.int)) k4)
        have S6 := S5.trans S6'
        refine ⟨_, rfl, q2, _, rfl, .inl ⟨SqL.of (S6' _ _ e2), fun t2 k5 => ?_⟩⟩
        refine ⟨(by show 2 ≤ sizeLine; decide), fun t k6 => ?_⟩
        have n5 : t1 ≠ t2 := by rintro rfl; rw [upd_same] at k5; cases k5
        have n6 : t2 ≠ t := by rintro rfl; rw [upd_same] at k6; cases k6
        have n7 : t1 ≠ t := by rintro rfl; rw [upd_ne n5, upd_same] at k6; cases k6
        have S7 := (S6.trans (Same.new (o := .tup ((if rev then (ns.drop M.toNat).reverse else ns.drop M.toNat).map V.int)) k5))
        exact k _ _ t _ (good rev) (cut31 fun d hd => raw31 n d (hp.mem_iff.mp (sub.subset hd))) (S7.trans (Same.new k6)) (S7.free k6) ⟨t1, t2, upd_same, by rw [upd_ne n7, upd_ne n5, upd_same], by rw [upd_ne n6, upd_same]⟩
      refine ⟨_, rfl, _, _, rfl, rfl, (by show (0 : Int) < 2; decide), rfl, _, rfl, ?_⟩
      refine ite2 (fun _ => ?_) (fun _ => ?_)
      · refine ⟨_, rfl, .inl ⟨rfl, _, SqL.of upd_same⟩, q2, _, rfl, rfl, upd_same, ?_⟩
        rw [← List.map_reverse]
        exact fin true _ (S4.upd hq2) (by rw [upd_ne q1q2, upd_ne q1q2, upd_same]) upd_same
      · exact fin false _ S4 (by rw [upd_ne q1q2, upd_same]) upd_same
noncomputable abbrev s__law_any_base : Stmt := top 40
theorem sc__law_any_base : FnScope ["_law_number", "_law_some", "_law_many", "_law_at"] ["_law_number"] (defScope s__law_any_base) := ⟨rfl, rfl, rfl, by decide +kernel, rfl, by decide +kernel, by decide +kernel⟩
theorem b__law_any_base : BindsAll "_law_any_base" s__law_any_base ["_law_number"] := binds1 fun _ _ _ _ _ _ _ => rfl
noncomputable def nearL : List Int := [999863, 999883, 999907, 999917, 999931, 999953, 999959, 999961, 999979, 999983]
noncomputable def Ga (H : Hp) (n : Int) (σ : St) (H' : Hp) : Prop := ∃ (l : Addr) (M at' : Int), σ = [some (.int n), some (.ref l), some (.int M), some (.int at')] ∧ Same H H' ∧ H' l = some (.lst (nearL.map V.int)) ∧ 1 ≤ M ∧ M ≤ 6 ∧ 0 ≤ at' ∧ at' < M
theorem ok_any_base (D : Def K mg "_law_any_base" s__law_any_base) (T : Txt K mg cR cT cB cW cD cP cA cU) (F__law_base_by : FnS P w K mg base "_law_base_by" ["_law_number"] 2 sp_base31) : FnS P w K mg base "_law_any_base" ["_law_number"] 3 sp_base31 := by
  refine D.ok sc__law_any_base b__law_any_base sp1_len fun f cdv A outer s H vs Q E hr h => ?_
  obtain ⟨_, rfl, n, rfl, k⟩ := h
  refine ⟨_, (pss_cons (ps_if (pt_cmpR op_gt (pe_op op_mod (pv 0) pe_int) pe_int (nomark _))
        (pss_one (ps_ret (cFn F__law_base_by hr passes0 (ac (pv 0) pa_nil))))
        pss_nil)
      (pss_cons (ps_set (i := 1) sc__law_any_base.nd rfl (Or.inl rfl) (pe_lst (ac pe_int (ac pe_int (ac pe_int (ac pe_int (ac pe_int (ac pe_int (ac pe_int (ac pe_int (ac pe_int (ac pe_int pa_nil))))))))))))
      (pss_cons (ps_set (i := 2) sc__law_any_base.nd rfl (Or.inl rfl) (pe_op op_add pe_int (pe_op op_mod (pe_op op_fdiv (pv 0) pe_int) pe_int)))
      (pss_cut (Ga H n) (ps_set (i := 3) sc__law_any_base.nd rfl (Or.inl rfl) (pe_op op_mod (pe_op op_fdiv (pv 0) pe_int) (pv 2)))
      (pss_one (ps_ret (pe_tup (ac (cTy call_tuple_of (by rfl) T.tuple PyProof.Rows.Boot.«tuple» (ac (pe_op op0catS (pe_slice sl0L (pv 1) (po_some (pv 3)) (po_some (pv 2))) (pe_slice sl0L (pv 1) po_none (po_some (pv 3)))) pa_nil)) (ac (cTy call_tuple_of (by rfl) T.tuple PyProof.Rows.Boot.«tuple» (ac (pe_slice sl0L (pv 1) (po_some (pv 2)) (po_some (pe_op op_add (pv 2) (pe_op op_mod (pe_op op_fdiv (pv 0) pe_int) (cBi (call_min2 rfl) (by rfl) T.min PyProof.Rows.Boot.«min» (ac pe_int (ac (pe_op op_sub pe_int (pv 2)) pa_nil))))))) pa_nil)) pa_nil))))))))), ?_⟩
  try (set_option simprocs false in dsimp only [cxOf])
  refine ⟨_, rfl, _, _, rfl, rfl, (by show (0 : Int) < 7; decide), _, _, rfl, rfl, _, rfl, ite2 (fun _ => ?_) (fun _ => ?_)⟩
  · exact ⟨_, rfl, _, rfl, n, rfl, k⟩
  refine ⟨(by show 10 ≤ sizeLine; decide), fun l f1 => ?_⟩
  refine ⟨_, rfl, _, _, rfl, rfl, ⟨by decide, by decide⟩, _, _, rfl, rfl, (by show (0 : Int) < 6; decide), _, _, rfl, rfl, ?_⟩
  refine ⟨?_, ?_⟩
  rotate_left
  · refine ⟨_, rfl, _, _, rfl, rfl, ⟨by decide, by decide⟩, _, rfl, _, _, rfl, rfl, pos1 (many6 (n / 7)).1, ?_⟩
    exact ⟨l, 1 + n / 7 % 6, _, rfl, Same.new f1, upd_same, (many6 (n / 7)).1, (many6 (n / 7)).2, md0 _ (pos1 (many6 (n / 7)).1), md1 _ (pos1 (many6 (n / 7)).1)⟩
  clear f1 l
  rintro _ H1 ⟨l, M, at', rfl, S1, e1, m1, m2, a0, a1⟩
  have l10 : nearL.length = 10 := rfl
  refine ⟨_, rfl, _, rfl, _, rfl, _, rfl, _, rfl, l, _, rfl, SqL.of e1, fun p2 f2 => ?_⟩
  rw [cut_mid a0 (nn1 m1)]
  have N2 := Same.new (o := .lst (((nearL.take M.toNat).drop at'.toNat).map V.int)) f2
  refine ⟨_, rfl, _, rfl, _, rfl, l, _, rfl, SqL.of (N2 _ _ e1), fun p3 f3 => ?_⟩
  rw [cut_to a0]
  have N3 := Same.new (o := .lst ((nearL.take at'.toNat).map V.int)) f3
  refine ⟨p2, p3, _, _, rfl, rfl, SqL.of (N3 _ _ upd_same), SqL.of upd_same, ?_, fun p4 f4 => ?_⟩
  · have := take_len nearL M.toNat at'.toNat at'.toNat (by decide)
    rwa [List.take_take, Nat.min_self] at this
  rw [← List.map_append]
  refine ⟨p4, _, rfl, .inl ⟨SqL.of upd_same, fun t1 f5 => ?_⟩⟩
  have U5 := Same.new (o := .tup (((nearL.take M.toNat).drop at'.toNat ++ nearL.take at'.toNat).map V.int)) f5
  have U2 := N2.trans (N3.trans ((Same.new (o := .lst (((nearL.take M.toNat).drop at'.toNat ++ nearL.take at'.toNat).map V.int)) f4).trans U5))
  obtain ⟨kk, hkk, kk0, kk4, kk10⟩ : ∃ kk : Int, kk = n / 252 % (if 11 - M < 5 then 11 - M else 5) ∧ 0 ≤ kk ∧ kk ≤ 4 ∧ M + kk ≤ 10 := ⟨_, rfl, near_k m1 m2⟩
  have nn := near_n m1 m2 kk0 kk4 kk10 a0 a1
  refine ⟨_, rfl, _, rfl, _, rfl, _, rfl, _, rfl, _, _, rfl, rfl, ⟨by decide, by decide⟩, _, rfl, _, _, rfl, rfl, _, _, rfl, _, _, rfl, rfl, near_p m1 m2, _, _, rfl, rfl, ?_⟩
  refine ⟨_, rfl, l, _, rfl, SqL.of (U2 _ _ e1), fun p6 f6 => ?_⟩
  have ec : cutV (nearL.map V.int) (some M) (some (M + n / 252 % (if 11 - M < 5 then 11 - M else 5))) = ((nearL.take (M.toNat + kk.toNat)).drop M.toNat).map V.int := by
    rw [← hkk, cut_mid (nn1 m1) nn.2.2, nn.2.1]
  rw [ec]
  refine ⟨p6, _, rfl, .inl ⟨SqL.of upd_same, fun t2 f7 => ⟨(by show 2 ≤ sizeLine; decide), fun t f8 => ?_⟩⟩⟩
  have V6 := Same.new (o := .lst (((nearL.take (M.toNat + kk.toNat)).drop M.toNat).map V.int)) f6
  have V7 := Same.new (o := .tup (((nearL.take (M.toNat + kk.toNat)).drop M.toNat).map V.int)) f7
  have V8 := Same.new (o := .tup [.ref t1, .ref t2]) f8
  have hfree : H t = none := (S1.trans (U2.trans (V6.trans V7))).free f8
  exact k _ _ t _ (near_base (many := M.toNat) (at' := at'.toNat) (k := kk.toNat) nn.1.1.1 nn.1.1.2 nn.1.2.1 nn.1.2.2.1 nn.1.2.2.2) (near31 (ns := nearL) (by decide +kernel)) (S1.trans (U2.trans (V6.trans (V7.trans V8)))) hfree ⟨t1, t2, upd_same, (V6.trans (V7.trans V8)) _ _ upd_same, V8 _ _ upd_same⟩
noncomputable abbrev s_divisors_of : Stmt := top 17
theorem sc_divisors_of : FnScope ["base"] ["base"] (defScope s_divisors_of) := ⟨rfl, rfl, rfl, by decide +kernel, rfl, by decide +kernel, by decide +kernel⟩
theorem b_divisors_of : BindsAll "divisors_of" s_divisors_of ["base"] := binds1 fun _ _ _ _ _ _ _ => rfl
theorem ok_divisors_of (D : Def K mg "divisors_of" s_divisors_of) : FnS P w K mg base "divisors_of" ["base"] 1 sp_divs := by
  refine D.ok sc_divisors_of b_divisors_of sp1_len fun f cdv A outer s H vs Q E hr h => ?_
  obtain ⟨_, rfl, kept, spare, ⟨⟨t, rfl, B⟩, gb⟩, k⟩ := h
  refine ⟨_, (pss_one (ps_ret (pe_op op0catT (pe_ix ix0T (pv 0) pe_int (fun _ _ => rfl)) (pe_ix ix0T (pv 0) pe_int (fun _ _ => rfl))))), ?_⟩
  try (set_option simprocs false in dsimp only [cxOf])
  obtain ⟨t1, t2, e0, e1, e2⟩ := B.ex
  refine ⟨_, rfl, t, _, _, _, rfl, rfl, SqT.of e0, rfl, _, rfl, t, _, _, _, rfl, rfl, SqT.of e0, rfl, t1, t2, _, _, rfl, rfl, SqT.of e1, SqT.of e2, gb.ne, gb.room, fun hs => ?_, fun _ p hp => ?_⟩
  · have hs : spare = [] := List.map_eq_nil_iff.mp hs
    subst hs
    exact k t1 H (Same.refl H) (by rw [List.append_nil]; exact e1)
  · exact k p _ (Same.new hp) (by rw [List.map_append]; exact upd_same)
noncomputable abbrev s_product_of : Stmt := top 19
theorem sc_product_of : FnScope ["numbers", "product", "number"] ["numbers"] (defScope s_product_of) := ⟨rfl, rfl, rfl, by decide +kernel, rfl, by decide +kernel, by decide +kernel⟩
theorem b_product_of : BindsAll "product_of" s_product_of ["numbers"] := binds1 fun _ _ _ _ _ _ _ => rfl
theorem ok_product_of (D : Def K mg "product_of" s_product_of) : FnS P w K mg base "product_of" ["numbers"] 1 sp_prodT := by
  refine D.ok sc_product_of b_product_of sp1_len fun f cdv A outer s H vs Q E hr h => ?_
  obtain ⟨_, rfl, t, ds, rfl, e1, rng, k⟩ := h
  refine ⟨_, (pss_cons (ps_set (i := 1) sc_product_of.nd rfl (Or.inl rfl) pe_int)
      (pss_cons (ps_for own_pass rfl (pi_tup (pv 0)) (pg_name (i := 2) sc_product_of.nd rfl (Or.inl rfl))
        (pss_one (ps_set (i := 1) sc_product_of.nd rfl (Or.inl rfl) (pe_op op_mul (pv 1) (pv 2)))))
      (pss_one (ps_ret (pv 1))))), ?_⟩
  try (set_option simprocs false in dsimp only [cxOf])
  refine ⟨_, rfl, t, rfl, ⟨_, SqT.of e1⟩, for_tup (K := K) (xs := ds.map V.int) (fun i σ H' => ∃ (p : Int) (y : Option V), σ = [some (.ref t), some (.int p), y] ∧ H' = H ∧ p = prod (ds.take i))
    ⟨1, none, rfl, rfl, rfl⟩ (fun i σ H' _ ⟨_, _, _, e, _⟩ => by rw [e]; exact SqT.of e1) ?_ ?_⟩
  · rintro i x σ _ hx ⟨p, y, rfl, rfl, e⟩
    obtain ⟨d, hi, rfl⟩ := ints_at hx
    have h2 := rng d (List.mem_of_getElem? hi)
    exact ⟨_, rfl, _, rfl, _, _, rfl, rfl, .inr ⟨by show -(2 ^ 64) < d; omega, by show d < 2 ^ 64; omega⟩, _, _, rfl, rfl, by rw [take_succ_prod hi, e]⟩
  · rintro σ _ ⟨p, y, rfl, rfl, e⟩
    rw [List.length_map, List.take_length] at e
    subst e
    exact ⟨_, rfl, k⟩
noncomputable abbrev s_span_of : Stmt := top 20
theorem sc_span_of : FnScope ["base"] ["base"] (defScope s_span_of) := ⟨rfl, rfl, rfl, by decide +kernel, rfl, by decide +kernel, by decide +kernel⟩
theorem b_span_of : BindsAll "span_of" s_span_of ["base"] := binds1 fun _ _ _ _ _ _ _ => rfl
theorem ok_span_of (D : Def K mg "span_of" s_span_of) (F_product_of : FnS P w K mg base "product_of" ["numbers"] 1 sp_prodT) : FnS P w K mg base "span_of" ["base"] 2 sp_span := by
  refine D.ok sc_span_of b_span_of sp1_len fun f cdv A outer s H vs Q E hr h => ?_
  obtain ⟨_, rfl, kept, spare, ⟨⟨t, rfl, B⟩, gb⟩, k⟩ := h
  refine ⟨_, (pss_one (ps_ret (cFn F_product_of hr passes0 (ac (pe_ix ix0T (pv 0) pe_int (fun _ _ => rfl)) pa_nil)))), ?_⟩
  try (set_option simprocs false in dsimp only [cxOf])
  obtain ⟨t1, t2, e0, e1, e2⟩ := B.ex
  exact ⟨_, rfl, t, _, _, _, rfl, rfl, SqT.of e0, rfl, _, rfl, t1, kept, rfl, e1, fun d hd => gb.rng d (List.mem_append_left _ hd), k⟩
noncomputable abbrev s_lowest : Stmt := top 21
theorem sc_lowest : FnScope ["base"] ["base"] (defScope s_lowest) := ⟨rfl, rfl, rfl, by decide +kernel, rfl, by decide +kernel, by decide +kernel⟩
theorem b_lowest : BindsAll "lowest" s_lowest ["base"] := binds1 fun _ _ _ _ _ _ _ => rfl
theorem ok_lowest (D : Def K mg "lowest" s_lowest) (F_span_of : FnS P w K mg base "span_of" ["base"] 2 sp_span) : FnS P w K mg base "lowest" ["base"] 3 sp_low := by
  refine D.ok sc_lowest b_lowest sp1_len fun f cdv A outer s H vs Q E hr h => ?_
  obtain ⟨_, rfl, kept, spare, B, k⟩ := h
  refine ⟨_, (pss_one (ps_ret (pe_un un_neg (pe_op op_fdiv (pe_op op_sub (cFn F_span_of hr passes0 (ac (pv 0) pa_nil)) pe_int) pe_int)))), ?_⟩
  try (set_option simprocs false in dsimp only [cxOf])
  exact ⟨_, rfl, _, rfl, kept, spare, B, _, _, rfl, rfl, _, _, rfl, rfl, ⟨by decide, by decide⟩, _, rfl, k⟩
noncomputable abbrev s_highest : Stmt := top 22
theorem sc_highest : FnScope ["base"] ["base"] (defScope s_highest) := ⟨rfl, rfl, rfl, by decide +kernel, rfl, by decide +kernel, by decide +kernel⟩
theorem b_highest : BindsAll "highest" s_highest ["base"] := binds1 fun _ _ _ _ _ _ _ => rfl
theorem ok_highest (D : Def K mg "highest" s_highest) (F_span_of : FnS P w K mg base "span_of" ["base"] 2 sp_span) : FnS P w K mg base "highest" ["base"] 3 sp_high := by
  refine D.ok sc_highest b_highest sp1_len fun f cdv A outer s H vs Q E hr h => ?_
  obtain ⟨_, rfl, kept, spare, B, k⟩ := h
  refine ⟨_, (pss_one (ps_ret (pe_op op_fdiv (cFn F_span_of hr passes0 (ac (pv 0) pa_nil)) pe_int))), ?_⟩
  try (set_option simprocs false in dsimp only [cxOf])
  exact ⟨_, rfl, _, rfl, kept, spare, B, _, _, rfl, rfl, ⟨by decide, by decide⟩, k⟩
noncomputable abbrev s_fits : Stmt := top 23
theorem sc_fits : FnScope ["base", "number"] ["base", "number"] (defScope s_fits) := ⟨rfl, rfl, rfl, by decide +kernel, rfl, by decide +kernel, by decide +kernel⟩
theorem b_fits : BindsAll "fits" s_fits ["base", "number"] := binds2 fun _ _ _ _ _ _ _ _ => rfl
theorem ok_fits (D : Def K mg "fits" s_fits) (F_lowest : FnS P w K mg base "lowest" ["base"] 3 sp_low) (F_highest : FnS P w K mg base "highest" ["base"] 3 sp_high) : FnS P w K mg base "fits" ["base", "number"] 4 sp_fits := by
  refine D.ok sc_fits b_fits sp2_len fun f cdv A outer s H vs Q E hr h => ?_
  obtain ⟨_, _, rfl, kept, spare, n, B, rfl, k⟩ := h
  refine ⟨_, (pss_one (ps_ret (pe_chain op_le op_le (cFn F_lowest hr passes0 (ac (pv 0) pa_nil)) (pv 1) (cFn F_highest hr passes0 (ac (pv 0) pa_nil))))), ?_⟩
  try (set_option simprocs false in dsimp only [cxOf])
  refine ⟨_, rfl, _, rfl, kept, spare, B, _, rfl, _, _, rfl, rfl, _, rfl, ?_⟩
  by_cases h1 : RF.lowest kept ≤ n
  · rw [decide_eq_true h1]
    refine iteT ⟨_, rfl, _, rfl, kept, spare, B, _, _, rfl, rfl, ?_⟩
    have e : decide (n ≤ RF.highest kept) = decide (Fits kept n) := decide_eq_decide.mpr ⟨fun h => ⟨h1, h⟩, fun h => h.2⟩
    show Q (.bl (decide (n ≤ RF.highest kept))) H
    rw [e]; exact k
  · rw [decide_eq_false h1]
    refine iteF ?_
    have e : false = decide (Fits kept n) := (decide_eq_false fun h => h1 h.1).symm
    show Q (.bl false) H
    rw [e]; exact k
noncomputable abbrev s__law_span : Stmt := top 41
theorem sc__law_span : FnScope ["_law_base", "_law_size", "_law_one"] ["_law_base"] (defScope s__law_span) := ⟨rfl, rfl, rfl, by decide +kernel, rfl, by decide +kernel, by decide +kernel⟩
theorem b__law_span : BindsAll "_law_span" s__law_span ["_law_base"] := binds1 fun _ _ _ _ _ _ _ => rfl
theorem ok__law_span (D : Def K mg "_law_span" s__law_span) : FnS P w K mg base "_law_span" ["_law_base"] 1 sp_span := by
  refine D.ok sc__law_span b__law_span sp1_len fun f cdv A outer s H vs Q E hr h => ?_
  obtain ⟨_, rfl, kept, spare, ⟨⟨t, rfl, B⟩, gb⟩, k⟩ := h
  refine ⟨_, (pss_cons (ps_set (i := 1) sc__law_span.nd rfl (Or.inl rfl) pe_int)
      (pss_cons (ps_for own_pass rfl (pi_tup (pe_ix ix0T (pv 0) pe_int (fun _ _ => rfl))) (pg_name (i := 2) sc__law_span.nd rfl (Or.inl rfl))
        (pss_one (ps_set (i := 1) sc__law_span.nd rfl (Or.inl rfl) (pe_op op_mul (pv 1) (pv 2)))))
      (pss_one (ps_ret (pv 1))))), ?_⟩
  try (set_option simprocs false in dsimp only [cxOf])
  obtain ⟨t1, t2, e0, e1, e2⟩ := B.ex
  refine ⟨_, rfl, t, _, _, _, rfl, rfl, SqT.of e0, rfl, t1, rfl, ⟨_, SqT.of e1⟩, for_tup (K := K) (xs := kept.map V.int) (fun i σ H' => ∃ (p : Int) (y : Option V), σ = [some (.ref t), some (.int p), y] ∧ H' = H ∧ p = prod (kept.take i))
    ⟨1, none, rfl, rfl, rfl⟩ (fun i σ H' _ ⟨_, _, _, e, _⟩ => by rw [e]; exact SqT.of e1) ?_ ?_⟩
  · rintro i x σ _ hx ⟨p, y, rfl, rfl, e⟩
    obtain ⟨d, hi, rfl⟩ := ints_at hx
    have h2 := gb.rng d (List.mem_append_left _ (List.mem_of_getElem? hi))
    exact ⟨_, rfl, _, rfl, _, _, rfl, rfl, .inr ⟨by show -(2 ^ 64) < d; omega, by show d < 2 ^ 64; omega⟩, _, _, rfl, rfl, by rw [take_succ_prod hi, e]⟩
  · rintro σ _ ⟨p, y, rfl, rfl, e⟩
    rw [List.length_map, List.take_length] at e
    subst e
    exact ⟨_, rfl, k⟩
noncomputable abbrev s_rests_of : Stmt := top 28
theorem sc_rests_of : FnScope ["base", "number"] ["base", "number"] (defScope s_rests_of) := ⟨rfl, rfl, rfl, by decide +kernel, rfl, by decide +kernel, by decide +kernel⟩
theorem b_rests_of : BindsAll "rests_of" s_rests_of ["base", "number"] := binds2 fun _ _ _ _ _ _ _ _ => rfl
theorem ok_rests_of (D : Def K mg "rests_of" s_rests_of) (F_divisors_of : FnS P w K mg base "divisors_of" ["base"] 1 sp_divs) : FnS P w K mg base "rests_of" ["base", "number"] 2 sp_rests := by
  refine D.ok sc_rests_of b_rests_of sp2_len fun f cdv A outer s H vs Q E hr h => ?_
  obtain ⟨_, _, rfl, kept, spare, n, B, rfl, k⟩ := h
  refine ⟨_, (pss_one (ps_ret (pe_comp (lv := 1) (caps := [1]) (N' := ["divisor", "number"]) rfl (CompOk.caps (sc := defScope s_rests_of) rfl (by decide +kernel) (by decide +kernel) (by decide +kernel) rfl rfl (compcap1 rfl rfl rfl)) (keep_name (by decide)) (pi_tup (cFn F_divisors_of hr passes0 (ac (pv 0) pa_nil))) (fun _ _ _ _ => pg_name (i := 0) (show (["divisor", "number"] : List Str).Nodup by decide +kernel) rfl (Or.inl rfl)) (fun _ _ _ _ => (pe_op op_mod (pv 1) (pv 0)))))), ?_⟩
  try (set_option simprocs false in dsimp only [cxOf])
  refine ⟨_, rfl, _, rfl, kept, spare, B, fun p H1 S1 e1 => ⟨p, rfl, ⟨_, SqT.of e1⟩, comp_T (K := K) (SqT.of e1) B.2.many (restV n) ?_ ?_⟩⟩
  · intro x hx H' Q' S q
    obtain ⟨d, hd, rfl⟩ := List.mem_map.mp hx
    have h2 := B.2.rng d hd
    exact ⟨_, rfl, _, rfl, _, _, rfl, rfl, (by show 0 < d; omega), q _ (Same.refl _)⟩
  · intro D H' hD S e
    exact k D H' (S1.trans S) (S1.free hD) (by rw [e, rests_map])
noncomputable abbrev s_figure_of : Stmt := top 25
theorem sc_figure_of : FnScope ["base", "number"] ["base", "number"] (defScope s_figure_of) := ⟨rfl, rfl, rfl, by decide +kernel, rfl, by decide +kernel, by decide +kernel⟩
theorem b_figure_of : BindsAll "figure_of" s_figure_of ["base", "number"] := binds2 fun _ _ _ _ _ _ _ _ => rfl
theorem ok_figure_of (D : Def K mg "figure_of" s_figure_of) (T : Txt K mg cR cT cB cW cD cP cA cU) (F_fits : FnS P w K mg base "fits" ["base", "number"] 4 sp_fits) (F_rests_of : FnS P w K mg base "rests_of" ["base", "number"] 2 sp_rests) : FnS P w K mg base "figure_of" ["base", "number"] 5 (sp_figure cT) := by
  refine D.ok sc_figure_of b_figure_of sp2_len fun f cdv A outer s H vs Q E hr h => ?_
  obtain ⟨_, _, rfl, kept, spare, n, B, rfl, yes, no⟩ := h
  refine ⟨_, (pss_cons (ps_if (pt_not (pt_val (cFn F_fits hr passes0 (ac (pv 0) (ac (pv 1) pa_nil)))))
        (pss_one (ps_raise T.x_TooGreat T.TooGreat (ac pe_str pa_nil)))
        pss_nil)
      (pss_one (ps_ret (cFn F_rests_of hr passes0 (ac (pv 0) (ac (pv 1) pa_nil)))))), ?_⟩
  try (set_option simprocs false in dsimp only [cxOf])
  refine ⟨_, rfl, _, rfl, _, _, rfl, kept, spare, n, B, rfl, _, rfl, ?_⟩
  by_cases hf : Fits kept n
  · rw [decide_eq_true hf]
    exact iteF ⟨_, rfl, _, rfl, _, _, rfl, kept, spare, n, B, rfl, yes hf⟩
  · rw [decide_eq_false hf]
    exact iteT ⟨by decide, no hf H (Same.refl H)⟩
noncomputable abbrev s__law_figure : Stmt := top 43
theorem sc__law_figure : FnScope ["_law_base", "_law_number"] ["_law_base", "_law_number"] (defScope s__law_figure) := ⟨rfl, rfl, rfl, by decide +kernel, rfl, by decide +kernel, by decide +kernel⟩
theorem b__law_figure : BindsAll "_law_figure" s__law_figure ["_law_base", "_law_number"] := binds2 fun _ _ _ _ _ _ _ _ => rfl
theorem ok_law_figure (D : Def K mg "_law_figure" s__law_figure) : FnS P w K mg base "_law_figure" ["_law_base", "_law_number"] 1 sp_rests := by
  refine D.ok sc__law_figure b__law_figure sp2_len fun f cdv A outer s H vs Q E hr h => ?_
  obtain ⟨_, _, rfl, kept, spare, n, ⟨⟨t, rfl, B⟩, gb⟩, rfl, k⟩ := h
  refine ⟨_, (pss_one (ps_ret (pe_comp (lv := 1) (caps := [1]) (N' := ["_law_one", "_law_number"]) rfl (CompOk.caps (sc := defScope s__law_figure) rfl (by decide +kernel) (by decide +kernel) (by decide +kernel) rfl rfl (compcap1 rfl rfl rfl)) (keep_name (by decide)) (pi_tup (pe_op op0catT (pe_ix ix0T (pv 0) pe_int (fun _ _ => rfl)) (pe_ix ix0T (pv 0) pe_int (fun _ _ => rfl)))) (fun _ _ _ _ => pg_name (i := 0) (show (["_law_one", "_law_number"] : List Str).Nodup by decide +kernel) rfl (Or.inl rfl)) (fun _ _ _ _ => (pe_op op_mod (pv 1) (pv 0)))))), ?_⟩
  try (set_option simprocs false in dsimp only [cxOf])
  obtain ⟨t1, t2, e0, e1, e2⟩ := B.ex
  have go : ∀ p H1, Same H H1 → H1 p = some (.tup ((kept ++ spare).map V.int)) → compW (Itt K p) (gName 0) (tOp (rI (fun _ j => 0 < j) fun i j => V.int (i % j)) (tVar 1) (tVar 0)) (seen 1 [1] [some (.ref t), some (.int n)]) Q H1 := fun p H1 S1 e1 => by
    refine comp_T (K := K) (SqT.of e1) gb.many (restV n) ?_ ?_
    · intro x hx H' Q' S q
      obtain ⟨d, hd, rfl⟩ := List.mem_map.mp hx
      have h2 := gb.rng d hd
      exact ⟨_, rfl, _, rfl, _, _, rfl, rfl, (by show 0 < d; omega), q _ (Same.refl _)⟩
    · intro D H' hD S e
      exact k D H' (S1.trans S) (S1.free hD) (by rw [e, rests_map])
  refine ⟨_, rfl, t, _, _, _, rfl, rfl, SqT.of e0, rfl, _, rfl, t, _, _, _, rfl, rfl, SqT.of e0, rfl, t1, t2, _, _, rfl, rfl, SqT.of e1, SqT.of e2, gb.ne, gb.room, fun hs => ?_, fun _ p hp => ?_⟩
  · have hs : spare = [] := List.map_eq_nil_iff.mp hs
    subst hs
    exact ⟨t1, rfl, ⟨_, SqT.of e1⟩, go t1 H (Same.refl H) (by rw [List.append_nil]; exact e1)⟩
  · exact ⟨p, rfl, ⟨_, SqT.of upd_same⟩, go p _ (Same.new hp) (by rw [List.map_append]; exact upd_same)⟩
noncomputable abbrev s__law_cell_at : Stmt := top 37
theorem sc__law_cell_at : FnScope ["_law_script", "_law_k"] ["_law_script", "_law_k"] (defScope s__law_cell_at) := ⟨rfl, rfl, rfl, by decide +kernel, rfl, by decide +kernel, by decide +kernel⟩
theorem b__law_cell_at : BindsAll "_law_cell_at" s__law_cell_at ["_law_script", "_law_k"] := binds2 fun _ _ _ _ _ _ _ _ => rfl
theorem ok_cell_at (D : Def K mg "_law_cell_at" s__law_cell_at) (T : Txt K mg cR cT cB cW cD cP cA cU) : FnS P w K mg base "_law_cell_at" ["_law_script", "_law_k"] 1 (sp_cell_at K) := by
  refine D.ok sc__law_cell_at b__law_cell_at sp2_len fun f cdv A outer s H vs Q E hr h => ?_
  obtain ⟨_, _, rfl, l, ns, i, rfl, rfl, hq, h0, k⟩ := h
  refine ⟨_, (pss_cons (ps_if (pt_cmpR op_lt (pv 1) (cBi call_len_seq (by rfl) T.len PyProof.Rows.Boot.«len» (ac (pv 0) pa_nil)) (nomark _))
        (pss_one (ps_ret (pe_ix ix_list (pv 0) (pv 1) (fun _ _ => rfl))))
        pss_nil)
      (pss_one (ps_ret pe_int))), ?_⟩
  try (set_option simprocs false in dsimp only [cxOf])
  refine ⟨_, rfl, _, rfl, l, _, rfl, .inl hq, _, _, rfl, rfl, _, rfl, ?_⟩
  rw [List.length_map]
  by_cases hl : i < (ns.length : Int)
  · rw [decide_eq_true hl]
    exact iteT ⟨_, rfl, _, rfl, l, _, _, _, rfl, rfl, hq, atI_ints h0 hl, k _⟩
  · rw [decide_eq_false hl]
    exact iteF (k 0)
noncomputable abbrev s__law_fitting : Stmt := top 42
theorem sc__law_fitting : FnScope ["_law_base", "_law_cell", "_law_size", "_law_number", "_law_low"] ["_law_base", "_law_cell"] (defScope s__law_fitting) := ⟨rfl, rfl, rfl, by decide +kernel, rfl, by decide +kernel, by decide +kernel⟩
theorem b__law_fitting : BindsAll "_law_fitting" s__law_fitting ["_law_base", "_law_cell"] := binds2 fun _ _ _ _ _ _ _ _ => rfl
theorem ok_fitting (D : Def K mg "_law_fitting" s__law_fitting) (F__law_span : FnS P w K mg base "_law_span" ["_law_base"] 1 sp_span) (F__law_mixed : FnS P w K mg base "_law_mixed" ["_law_number", "_law_k"] 1 sp_mixed) : FnS P w K mg base "_law_fitting" ["_law_base", "_law_cell"] 2 sp_fitting := by
  refine D.ok sc__law_fitting b__law_fitting sp2_len fun f cdv A outer s H vs Q E hr h => ?_
  obtain ⟨_, _, rfl, kept, spare, c, B, rfl, k⟩ := h
  refine ⟨_, (pss_cons (ps_set (i := 2) sc__law_fitting.nd rfl (Or.inl rfl) (cFn F__law_span hr passes0 (ac (pv 0) pa_nil)))
      (pss_cons (ps_set (i := 3) sc__law_fitting.nd rfl (Or.inl rfl) (cFn F__law_mixed hr passes0 (ac (pv 1) (ac pe_int pa_nil))))
      (pss_cons (ps_set (i := 4) sc__law_fitting.nd rfl (Or.inl rfl) (pe_op op_sub pe_int (pe_op op_fdiv (pe_op op_sub (pv 2) pe_int) pe_int)))
      (pss_cons (ps_if (pt_cmpR op_eq (pe_op op_mod (pv 3) pe_int) pe_int (nomark _))
        (pss_one (ps_ret (pe_op op_add (pv 4) (pe_op op_mod (pe_op op_sub (pe_op op_mod (pe_op op_fdiv (pv 3) pe_int) pe_int) pe_int) (pv 2)))))
        pss_nil)
      (pss_cons (ps_if (pt_cmpR op_eq (pe_op op_mod (pv 3) pe_int) pe_int (nomark _))
        (pss_one (ps_ret (pe_op op_add (pv 4) (pe_op op_mod (pe_op op_sub (pe_op op_add (pe_op op_fdiv (pe_op op_sub (pv 2) pe_int) pe_int) (pe_op op_mod (pe_op op_fdiv (pv 3) pe_int) pe_int)) pe_int) (pv 2)))))
        pss_nil)
      (pss_one (ps_ret (pe_op op_add (pv 4) (pe_op op_mod (pe_op op_add (pe_op op_mod (pv 1) (pe_op op_pow pe_int pe_int)) (pe_op op_mul (pe_op op_mul (pv 3) pe_int) (pv 3))) (pv 2)))))))))), ?_⟩
  try (set_option simprocs false in dsimp only [cxOf])
  have hp : 0 < prod kept := B.2.span
  have fin : ∀ x : Int, Q (.int (0 - (prod kept - 1) / 2 + x % prod kept)) H := fun x => by
    have h0 : 0 ≤ x % prod kept := Int.emod_nonneg _ (by omega)
    have h1 : x % prod kept < prod kept := Int.emod_lt_of_pos _ hp
    refine k _ ?_ ?_
    · unfold RF.lowest; omega
    · unfold RF.highest; omega
  refine ⟨_, rfl, _, rfl, kept, spare, B, _, rfl, _, _, rfl, c, 3, rfl, rfl, by decide, by decide, fun nb nb0 nb1 => ?_⟩
  refine ⟨_, rfl, _, _, rfl, rfl, _, _, rfl, rfl, ⟨by decide, by decide⟩, _, _, rfl, rfl, ?_⟩
  refine ⟨_, rfl, _, _, rfl, rfl, (by show (0 : Int) < 4; decide), rfl, _, rfl, ite2 (fun _ => ?_) (fun _ => ?_)⟩
  · exact ⟨_, rfl, _, rfl, _, _, rfl, rfl, ⟨by decide, by decide⟩, _, _, rfl, rfl, (by show (0 : Int) < 9; decide), _, _, rfl, rfl, _, rfl, _, _, rfl, rfl, hp, _, _, rfl, rfl, fin _⟩
  refine ⟨_, rfl, _, _, rfl, rfl, (by show (0 : Int) < 4; decide), rfl, _, rfl, ite2 (fun _ => ?_) (fun _ => ?_)⟩
  · exact ⟨_, rfl, _, rfl, _, _, rfl, rfl, _, _, rfl, rfl, ⟨by decide, by decide⟩, _, rfl, _, _, rfl, rfl, ⟨by decide, by decide⟩, _, _, rfl, rfl, (by show (0 : Int) < 9; decide), _, _, rfl, rfl, _, _, rfl, rfl, _, rfl, _, _, rfl, rfl, hp, _, _, rfl, rfl, fin _⟩
  · exact ⟨_, rfl, _, rfl, _, _, rfl, rfl, ⟨by decide, by decide, by decide⟩, _, _, rfl, rfl, (by show (0 : Int) < 10 ^ 50; decide), _, rfl, _, _, rfl, rfl, .inr ⟨by decide, by decide⟩, _, rfl, _, _, rfl, rfl, .inr ⟨by show -(2 ^ 64) < nb; omega, by show nb < 2 ^ 64; omega⟩, _, _, rfl, rfl, _, rfl, _, _, rfl, rfl, hp, _, _, rfl, rfl, fin _⟩
noncomputable abbrev s_inverse : Stmt := top 32
theorem sc_inverse : FnScope ["number", "divisor", "left", "times"] ["number", "divisor"] (defScope s_inverse) := ⟨rfl, rfl, rfl, by decide +kernel, rfl, by decide +kernel, by decide +kernel⟩
theorem b_inverse : BindsAll "inverse" s_inverse ["number", "divisor"] := binds2 fun _ _ _ _ _ _ _ _ => rfl
theorem ok_inverse (D : Def K mg "inverse" s_inverse) : ∀ j : Nat, FnS P w K mg base "inverse" ["number", "divisor"] (j + 1) (sp_inv j)
  | 0 => by
    refine D.ok sc_inverse b_inverse sp2_len fun f cdv A outer s H vs Q E hr h => ?_
    obtain ⟨_, _, rfl, n, d, rfl, rfl, h2, h6, hc, hs, k⟩ := h
    exfalso
    have h0 := left_ne h2 hc
    have h1 := md0 n (pos2 h2)
    have := Int.mul_le_mul_of_nonneg_left (show 1 ≤ n % d by omega) (show 0 ≤ d by omega)
    omega
  | j + 1 => by
    have F_inverse := ok_inverse D j
    refine D.ok sc_inverse b_inverse sp2_len fun f cdv A outer s H vs Q E hr h => ?_
    obtain ⟨_, _, rfl, n, d, rfl, rfl, h2, h6, hc, hs, k⟩ := h
    have h0 := left_ne h2 hc
    have h1 := md0 n (pos2 h2)
    have h3 := md1 n (pos2 h2)
    refine ⟨_, (pss_cons (ps_set (i := 2) sc_inverse.nd rfl (Or.inl rfl) (pe_op op_mod (pv 0) (pv 1)))
      (pss_cons (ps_if (pt_cmpR op_eq (pv 2) pe_int (nomark _))
        (pss_one (ps_ret pe_int))
        pss_nil)
      (pss_cons (ps_set (i := 3) sc_inverse.nd rfl (Or.inl rfl) (pe_op op_sub (pv 2) (cFn (hkk := Nat.le_refl _) F_inverse hr passes0 (ac (pv 1) (ac (pv 2) pa_nil)))))
      (pss_one (ps_ret (pe_op op_fdiv (pe_op op_add (pe_op op_mul (pv 1) (pv 3)) pe_int) (pv 2))))))), ?_⟩
    try (set_option simprocs false in dsimp only [cxOf])
    refine ⟨_, rfl, _, rfl, _, _, rfl, rfl, pos2 h2, _, rfl, rfl, _, rfl, ite2 (fun e => ?_) (fun e => ?_)⟩
    · exact k 1 (inv_one h2 (vint_eq e))
    · have hL := two_of h1 h0 (vint_ne e)
      have h30 := lt30 hL h3 h6
      refine ⟨_, rfl, _, rfl, _, rfl, _, _, rfl, d, n % d, rfl, rfl, hL, h30.1, cop_left hc, size_down hL h3 hs, fun v hv => ⟨_, _, rfl, rfl, ?_⟩⟩
      exact ⟨_, rfl, _, rfl, _, _, rfl, rfl, .inl (d64 h2 h6), _, _, rfl, rfl, _, rfl, _, _, rfl, rfl, h30.2, k _ (inv_up h2 hL hv)⟩
noncomputable abbrev s_number_by_rests : Stmt := top 31
theorem sc_number_by_rests : FnScope ["divisors", "rests", "number", "step", "rest", "divisor", "steps"] ["divisors", "rests"] (defScope s_number_by_rests) := ⟨rfl, rfl, rfl, by decide +kernel, rfl, by decide +kernel, by decide +kernel⟩
theorem b_number_by_rests : BindsAll "number_by_rests" s_number_by_rests ["divisors", "rests"] := binds2 fun _ _ _ _ _ _ _ _ => rfl
theorem ok_by_rests (D : Def K mg "number_by_rests" s_number_by_rests) (T : Txt K mg cR cT cB cW cD cP cA cU) (F_inverse : FnS P w K mg base "inverse" ["number", "divisor"] 41 (sp_inv 40)) :
    FnS P w K mg base "number_by_rests" ["divisors", "rests"] 42 sp_by_rests := by
  refine D.ok sc_number_by_rests b_number_by_rests sp2_len fun f cdv A outer s H vs Q E hr h => ?_
  obtain ⟨_, _, rfl, t1, l, kept, ns, rfl, rfl, e1, el, rng, copK, hlen, hrng, k⟩ := h
  refine ⟨_, (pss_cons (ps_set (i := 2) sc_number_by_rests.nd rfl (Or.inl rfl) pe_int)
      (pss_cons (ps_set (i := 3) sc_number_by_rests.nd rfl (Or.inl rfl) pe_int)
      (pss_cons (ps_for own_pass rfl (pi_zip .L .T rfl T.zip (ac (pv 1) (ac (pv 0) pa_nil))) (pg_tup (n := 2) rfl (pgs_cons (pg_name (i := 4) sc_number_by_rests.nd rfl (Or.inl rfl)) (pgs_cons (pg_name (i := 5) sc_number_by_rests.nd rfl (Or.inl rfl)) pgs_nil)))
        (pss_cons (ps_set (i := 6) sc_number_by_rests.nd rfl (Or.inl rfl) (pe_op op_mod (pe_op op_mul (pe_op op_sub (pv 4) (pv 2)) (cFn F_inverse hr passes0 (ac (pv 3) (ac (pv 5) pa_nil)))) (pv 5)))
        (pss_cons (ps_set (i := 2) sc_number_by_rests.nd rfl (Or.inl rfl) (pe_op op_add (pv 2) (pe_op op_mul (pv 6) (pv 3))))
        (pss_one (ps_set (i := 3) sc_number_by_rests.nd rfl (Or.inl rfl) (pe_op op_mul (pv 3) (pv 5)))))))
      (pss_cons (ps_if (pt_cmpR op_gt (pv 2) (pe_op op_fdiv (pv 3) pe_int) (nomark _))
        (pss_one (ps_ret (pe_op op_sub (pv 2) (pv 3))))
        pss_nil)
      (pss_one (ps_ret (pv 2))))))), ?_⟩
  try (set_option simprocs false in dsimp only [cxOf])
  refine ⟨_, rfl, _, rfl, l, t1, rfl, ⟨_, SqL.of el⟩, ⟨_, SqT.of e1⟩, for_zip (K := K) (k1 := .L) (k2 := .T) (xs := ns.map V.int) (ys := kept.map V.int)
    (fun i σ H' => ∃ (number step : Int) (y4 y5 y6 : Option V), σ = [some (.ref t1), some (.ref l), some (.int number), some (.int step), y4, y5, y6] ∧ Same H H' ∧ Upto kept ns i number step)
    ⟨0, 1, none, none, none, rfl, Same.refl H, upto_zero kept ns⟩ (fun i σ H' ⟨_, _, _, _, _, _, S, _⟩ => ⟨SqL.of (S _ _ el), SqT.of (S _ _ e1)⟩) ?_ ?_⟩
  · rintro i x y p σ H' hx hy ⟨number, step, y4, y5, y6, rfl, S, U⟩ hp
    obtain ⟨r, hr', rfl⟩ := ints_at hx
    obtain ⟨d, hd, rfl⟩ := ints_at hy
    have h2 := rng d (List.mem_of_getElem? hd)
    have hrd := hrng i d r hd hr'
    have hc : Cop step d := by rw [U.st]; exact step_cop copK hd
    have dp := pos2 h2.1
    have d6 := d64 h2.1 h2.2
    refine ⟨p, _, rfl, SqT.of upd_same, rfl, _, _, rfl, _, _, rfl, rfl, ?_⟩
    refine ⟨_, rfl, _, rfl, _, _, rfl, rfl, _, rfl, _, rfl, _, _, rfl, step, d, rfl, rfl, h2.1, h2.2, hc, sz40 h2.1 h2.2 (md1 step dp), fun v hv => ?_⟩
    refine ⟨_, _, rfl, rfl, .inr (v64 (nn1 hv.lo) hv.hi h2.2), _, rfl, _, _, rfl, rfl, dp, ?_⟩
    refine ⟨_, rfl, _, rfl, _, rfl, _, _, rfl, rfl, .inl (v64 (md0 _ dp) (md1 _ dp) h2.2), _, _, rfl, rfl, ?_⟩
    refine ⟨_, rfl, _, rfl, _, _, rfl, rfl, .inr d6, ?_⟩
    exact ⟨_, _, _, _, _, rfl, S.trans (Same.new hp), upto_step (fun x hx => (rng x hx).1) U hd hr' hrd.1 hrd.2 hv⟩
  · rintro σ H' ⟨number, step, y4, y5, y6, rfl, S, U⟩
    rw [List.length_map, List.length_map, Nat.min_eq_right hlen] at U
    have hs := U.st
    rw [List.take_length] at hs
    subst hs
    refine ⟨_, rfl, _, rfl, _, _, rfl, rfl, ⟨by decide, by decide⟩, _, _, rfl, rfl, _, rfl, ?_⟩
    by_cases hg : prod kept / 2 < number
    · rw [decide_eq_true hg]
      exact iteT ⟨_, rfl, _, rfl, _, _, rfl, rfl, k _ H' (kept_high U hg) S⟩
    · rw [decide_eq_false hg]
      exact iteF ⟨_, rfl, k _ H' (kept_low U hg) S⟩
noncomputable abbrev s_number_by_kept : Stmt := top 30
theorem sc_number_by_kept : FnScope ["base", "figure"] ["base", "figure"] (defScope s_number_by_kept) := ⟨rfl, rfl, rfl, by decide +kernel, rfl, by decide +kernel, by decide +kernel⟩
theorem b_number_by_kept : BindsAll "number_by_kept" s_number_by_kept ["base", "figure"] := binds2 fun _ _ _ _ _ _ _ _ => rfl
theorem ok_by_kept (D : Def K mg "number_by_kept" s_number_by_kept) (T : Txt K mg cR cT cB cW cD cP cA cU) (F_number_by_rests : FnS P w K mg base "number_by_rests" ["divisors", "rests"] 42 sp_by_rests) :
    FnS P w K mg base "number_by_kept" ["base", "figure"] 43 sp_by_kept := by
  refine D.ok sc_number_by_kept b_number_by_kept sp2_len fun f cdv A outer s H vs Q E hr h => ?_
  obtain ⟨_, _, rfl, kept, spare, l, ns, B, rfl, el, hlen, hrng, k⟩ := h
  refine ⟨_, (pss_one (ps_ret (cFn F_number_by_rests hr passes0 (ac (pe_ix ix0T (pv 0) pe_int (fun _ _ => rfl)) (ac (pe_slice sl0L (pv 1) po_none (po_some (cBi call0len (by rfl) T.len PyProof.Rows.Boot.«len» (ac (pe_ix ix0T (pv 0) pe_int (fun _ _ => rfl)) pa_nil)))) pa_nil))))), ?_⟩
  try (set_option simprocs false in dsimp only [cxOf])
  obtain ⟨⟨t, rfl, hb⟩, gb⟩ := id B
  obtain ⟨t1, t2, e0, e1, e2⟩ := hb.ex
  refine ⟨_, rfl, t, _, _, _, rfl, rfl, SqT.of e0, rfl, _, rfl, _, rfl, t, _, _, _, rfl, rfl, SqT.of e0, rfl, t1, _, rfl, .inr (SqT.of e1), _, rfl, l, _, rfl, SqL.of el, fun p hp => ?_⟩
  have ec : cutV (ns.map V.int) none (some ((kept.map V.int).length : Int)) = (ns.take kept.length).map V.int := by rw [List.length_map, cut_to (by omega), Int.toNat_natCast]
  rw [ec]
  refine ⟨_, _, rfl, t1, p, kept, ns.take kept.length, rfl, rfl, (Same.new hp) _ _ e1, upd_same, fun d hd => gb.rng d (List.mem_append_left _ hd), gb.copK, by rw [List.length_take]; omega, take_rng hrng, fun v H' hk S => ?_⟩
  exact k v H' (kept_take hk) ((Same.new hp).trans S)
noncomputable abbrev s_refuse_no_figure : Stmt := top 29
theorem sc_refuse_no_figure : FnScope ["base", "figure", "divisors", "rest", "divisor"] ["base", "figure"] (defScope s_refuse_no_figure) := ⟨rfl, rfl, rfl, by decide +kernel, rfl, by decide +kernel, by decide +kernel⟩
theorem b_refuse_no_figure : BindsAll "refuse_no_figure" s_refuse_no_figure ["base", "figure"] := binds2 fun _ _ _ _ _ _ _ _ => rfl
theorem ok_refuse (D : Def K mg "refuse_no_figure" s_refuse_no_figure) (T : Txt K mg cR cT cB cW cD cP cA cU) (F_divisors_of : FnS P w K mg base "divisors_of" ["base"] 1 sp_divs) : FnS P w K mg base "refuse_no_figure" ["base", "figure"] 2 (sp_refuse cB) := by
  refine D.ok sc_refuse_no_figure b_refuse_no_figure sp2_len fun f cdv A outer s H vs Q E hr h => ?_
  obtain ⟨_, _, rfl, kept, spare, l, ns, B, rfl, el, yes, no⟩ := h
  refine ⟨_, (pss_cons (ps_set (i := 2) sc_refuse_no_figure.nd rfl (Or.inl rfl) (cFn F_divisors_of hr passes0 (ac (pv 0) pa_nil)))
      (pss_cons (ps_if (pt_cmpR op_ne (cBi call0len (by rfl) T.len PyProof.Rows.Boot.«len» (ac (pv 1) pa_nil)) (cBi call0len (by rfl) T.len PyProof.Rows.Boot.«len» (ac (pv 2) pa_nil)) (nomark _))
        (pss_one (ps_raise T.x_BadFigure T.BadFigure (ac pe_str pa_nil)))
        pss_nil)
      (pss_one (ps_for own_pass rfl (pi_zip .L .T rfl T.zip (ac (pv 1) (ac (pv 2) pa_nil))) (pg_tup (n := 2) rfl (pgs_cons (pg_name (i := 3) sc_refuse_no_figure.nd rfl (Or.inl rfl)) (pgs_cons (pg_name (i := 4) sc_refuse_no_figure.nd rfl (Or.inl rfl)) pgs_nil)))
        (pss_one (ps_if (pt_not (pt_chain op_le op_lt pe_int (pv 3) (pv 4)))
          (pss_one (ps_raise T.x_BadFigure T.BadFigure (ac pe_str pa_nil)))
          pss_nil)))))), ?_⟩
  try (set_option simprocs false in dsimp only [cxOf])
  refine ⟨_, rfl, _, rfl, kept, spare, B, fun p H1 S1 ep => ?_⟩
  obtain ⟨⟨t, rfl, hb⟩, gb⟩ := id B
  have el1 := S1 _ _ el
  refine ⟨_, rfl, l, _, rfl, .inl (SqL.of el1), _, rfl, p, _, rfl, .inr (SqT.of ep), rfl, _, rfl, ?_⟩
  rw [List.length_map, List.length_map]
  by_cases hl : ns.length = (kept ++ spare).length
  case neg =>
    have hb : (!decide (V.int (ns.length : Int) = V.int ((kept ++ spare).length : Int))) = true := by
      simp only [V.int.injEq, Bool.not_eq_true', decide_eq_false_iff_not]
      omega
    rw [hb]
    exact iteT ⟨by decide, no (fun v => hl v.len) H1 S1⟩
  refine iteNS (by rw [hl]) ?_
  refine ⟨_, rfl, _, rfl, l, p, rfl, ⟨_, SqL.of el1⟩, ⟨_, SqT.of ep⟩, for_zip (K := K) (k1 := .L) (k2 := .T) (xs := ns.map V.int) (ys := (kept ++ spare).map V.int)
    (fun i σ H' => ∃ y3 y4, σ = [some (.ref t), some (.ref l), some (.ref p), y3, y4] ∧ Same H1 H' ∧ ∀ (j : Nat) (d r : Int), j < i → (kept ++ spare)[j]? = some d → ns[j]? = some r → 0 ≤ r ∧ r < d)
    ⟨none, none, rfl, Same.refl H1, fun j _ _ h => absurd h (Nat.not_lt_zero j)⟩ (fun i σ H' ⟨_, _, _, S, _⟩ => ⟨SqL.of (S _ _ el1), SqT.of (S _ _ ep)⟩) ?_ ?_⟩
  · rintro i x y a σ H' hx hy ⟨y3, y4, rfl, S, U⟩ ha
    obtain ⟨r, hr', rfl⟩ := ints_at hx
    obtain ⟨d, hd, rfl⟩ := ints_at hy
    have S' := S1.trans (S.trans (Same.new (o := .tup [.int r, .int d]) ha))
    refine ⟨a, _, rfl, SqT.of upd_same, rfl, _, _, rfl, _, _, rfl, rfl, ?_⟩
    refine ⟨_, rfl, _, _, rfl, rfl, _, rfl, ?_⟩
    by_cases h0 : 0 ≤ r
    case neg =>
      rw [decide_eq_false h0]
      exact iteF ⟨_, rfl, iteT ⟨by decide, no (fun v => h0 (v.rng i d r hd hr').1) _ S'⟩⟩
    rw [decide_eq_true h0]
    refine iteT ⟨_, rfl, _, _, rfl, rfl, _, rfl, ?_⟩
    by_cases h1 : r < d
    case neg =>
      rw [decide_eq_false h1]
      exact iteT ⟨by decide, no (fun v => h1 (v.rng i d r hd hr').2) _ S'⟩
    rw [decide_eq_true h1]
    refine iteF ⟨_, _, rfl, S.trans (Same.new ha), fun j d' r' hj hd' hr2 => ?_⟩
    rcases Nat.lt_or_ge j i with h | h
    · exact U j d' r' h hd' hr2
    · have e : j = i := by omega
      subst e
      rw [hd] at hd'; cases hd'
      rw [hr'] at hr2; cases hr2
      exact ⟨h0, h1⟩
  · rintro σ H' ⟨y3, y4, rfl, S, U⟩
    rw [List.length_map, List.length_map, hl, Nat.min_self] at U
    exact yes ⟨hl, fun j d r hd hr' => U j d r (List.getElem?_eq_some_iff.mp hd).1 hd hr'⟩ H' (S1.trans S)
noncomputable abbrev s_is_right : Stmt := top 27
theorem sc_is_right : FnScope ["base", "figure"] ["base", "figure"] (defScope s_is_right) := ⟨rfl, rfl, rfl, by decide +kernel, rfl, by decide +kernel, by decide +kernel⟩
theorem b_is_right : BindsAll "is_right" s_is_right ["base", "figure"] := binds2 fun _ _ _ _ _ _ _ _ => rfl
theorem ok_is_right (D : Def K mg "is_right" s_is_right) (T : Txt K mg cR cT cB cW cD cP cA cU) (F_refuse_no_figure : FnS P w K mg base "refuse_no_figure" ["base", "figure"] 2 (sp_refuse cB)) (F_number_by_kept : FnS P w K mg base "number_by_kept" ["base", "figure"] 43 sp_by_kept) (F_rests_of : FnS P w K mg base "rests_of" ["base", "number"] 2 sp_rests) :
    FnS P w K mg base "is_right" ["base", "figure"] 44 (sp_is_right cB) := by
  refine D.ok sc_is_right b_is_right sp2_len fun f cdv A outer s H vs Q E hr h => ?_
  obtain ⟨_, _, rfl, kept, spare, l, ns, B, rfl, el, yes, no⟩ := h
  refine ⟨_, (pss_cons (ps_expr (cFn F_refuse_no_figure hr passes1 (ac (pv 0) (ac (pv 1) pa_nil))))
      (pss_one (ps_ret (pe_cmpR (op_eqDK K hr.units) (cFn F_rests_of hr passes0 (ac (pv 0) (ac (cFn F_number_by_kept hr passes0 (ac (pv 0) (ac (pv 1) pa_nil))) pa_nil))) (pv 1) (nomark _))))), ?_⟩
  try (set_option simprocs false in dsimp only [cxOf])
  refine ⟨_, rfl, _, rfl, _, _, rfl, kept, spare, l, ns, B, rfl, el, fun hv H1 S1 => ?_, no⟩
  refine ⟨_, rfl, _, rfl, _, rfl, _, _, rfl, kept, spare, l, ns, B.up S1, rfl, S1 _ _ el, hv.kept_len, hv.kept_rng, fun v H2 hk S2 => ?_⟩
  refine ⟨_, _, rfl, kept, spare, v, B.up (S1.trans S2), rfl, fun lr H3 S3 hlr e3 => ?_⟩
  have SA := S1.trans (S2.trans S3)
  refine ⟨_, rfl, _, _, rdL e3, rdL (SA _ _ el), shaped_ints _, shaped_ints _, ?_⟩
  rw [eqv_ints]
  exact yes hv v H3 hk SA
noncomputable abbrev s_number_of : Stmt := top 26
theorem sc_number_of : FnScope ["base", "figure"] ["base", "figure"] (defScope s_number_of) := ⟨rfl, rfl, rfl, by decide +kernel, rfl, by decide +kernel, by decide +kernel⟩
theorem b_number_of : BindsAll "number_of" s_number_of ["base", "figure"] := binds2 fun _ _ _ _ _ _ _ _ => rfl
theorem ok_number_of (D : Def K mg "number_of" s_number_of) (T : Txt K mg cR cT cB cW cD cP cA cU) (F_is_right : FnS P w K mg base "is_right" ["base", "figure"] 44 (sp_is_right cB)) (F_number_by_kept : FnS P w K mg base "number_by_kept" ["base", "figure"] 43 sp_by_kept) :
    FnS P w K mg base "number_of" ["base", "figure"] 45 (sp_number_of cB cW) := by
  refine D.ok sc_number_of b_number_of sp2_len fun f cdv A outer s H vs Q E hr h => ?_
  obtain ⟨_, _, rfl, kept, spare, l, ns, B, rfl, el, yes, wr, no⟩ := h
  refine ⟨_, (pss_cons (ps_if (pt_not (pt_val (cFn F_is_right hr passes1 (ac (pv 0) (ac (pv 1) pa_nil)))))
        (pss_one (ps_raise T.x_Wrong T.Wrong (ac pe_str pa_nil)))
        pss_nil)
      (pss_one (ps_ret (cFn F_number_by_kept hr passes0 (ac (pv 0) (ac (pv 1) pa_nil)))))), ?_⟩
  try (set_option simprocs false in dsimp only [cxOf])
  refine ⟨_, rfl, _, rfl, _, _, rfl, kept, spare, l, ns, B, rfl, el, fun hv v H1 hk S1 => ⟨_, rfl, ?_⟩, no⟩
  by_cases he : rests (kept ++ spare) v = ns
  · rw [decide_eq_true he]
    refine iteF ⟨_, rfl, _, rfl, _, _, rfl, kept, spare, l, ns, B.up S1, rfl, S1 _ _ el, hv.kept_len, hv.kept_rng, fun u H2 hu S2 => ?_⟩
    rw [kept_unique B.2 hv.kept_len hu hk]
    exact yes hv v H2 hk he (S1.trans S2)
  · rw [decide_eq_false he]
    exact iteT ⟨by decide, wr hv v H1 hk he S1⟩
noncomputable abbrev s__law_fits : Stmt := top 48
theorem sc__law_fits : FnScope ["_law_base", "_law_number"] ["_law_base", "_law_number"] (defScope s__law_fits) := ⟨rfl, rfl, rfl, by decide +kernel, rfl, by decide +kernel, by decide +kernel⟩
theorem b__law_fits : BindsAll "_law_fits" s__law_fits ["_law_base", "_law_number"] := binds2 fun _ _ _ _ _ _ _ _ => rfl
theorem ok_law_fits (D : Def K mg "_law_fits" s__law_fits) (F__law_span : FnS P w K mg base "_law_span" ["_law_base"] 1 sp_span) : FnS P w K mg base "_law_fits" ["_law_base", "_law_number"] 2 sp_fits := by
  refine D.ok sc__law_fits b__law_fits sp2_len fun f cdv A outer s H vs Q E hr h => ?_
  obtain ⟨_, _, rfl, kept, spare, n, B, rfl, k⟩ := h
  refine ⟨_, (pss_one (ps_ret (pe_chain op_le op_le (pe_op op_sub pe_int (pe_op op_fdiv (pe_op op_sub (cFn F__law_span hr passes0 (ac (pv 0) pa_nil)) pe_int) pe_int)) (pv 1) (pe_op op_fdiv (cFn F__law_span hr passes0 (ac (pv 0) pa_nil)) pe_int)))), ?_⟩
  try (set_option simprocs false in dsimp only [cxOf])
  have el : RF.lowest kept = 0 - (prod kept - 1) / 2 := by unfold RF.lowest; omega
  refine ⟨_, rfl, _, rfl, kept, spare, B, _, _, rfl, rfl, _, _, rfl, rfl, ⟨by decide, by decide⟩, _, _, rfl, rfl, _, rfl, _, _, rfl, rfl, _, rfl, ?_⟩
  by_cases h1 : 0 - (prod kept - 1) / 2 ≤ n
  · rw [decide_eq_true h1]
    refine iteT ⟨_, rfl, _, rfl, kept, spare, B, _, _, rfl, rfl, ⟨by decide, by decide⟩, _, _, rfl, rfl, ?_⟩
    have e : decide (n ≤ prod kept / 2) = decide (Fits kept n) := decide_eq_decide.mpr ⟨fun h => ⟨by rw [el]; exact h1, h⟩, fun h => h.2⟩
    show Q (.bl (decide (n ≤ prod kept / 2))) H
    rw [e]; exact k
  · rw [decide_eq_false h1]
    refine iteF ?_
    have e : false = decide (Fits kept n) := (decide_eq_false fun h => h1 (by rw [← el]; exact h.1)).symm
    show Q (.bl false) H
    rw [e]; exact k
noncomputable abbrev s_common : Stmt := top 14
theorem sc_common : FnScope ["a", "b", "greater", "less", "left"] ["a", "b"] (defScope s_common) := ⟨rfl, rfl, rfl, by decide +kernel, rfl, by decide +kernel, by decide +kernel⟩
theorem b_common : BindsAll "common" s_common ["a", "b"] := binds2 fun _ _ _ _ _ _ _ _ => rfl
theorem ok_common (D : Def K mg "common" s_common) : FnS P w K mg base "common" ["a", "b"] 1 sp_common := by
  refine D.ok sc_common b_common sp2_len fun f cdv A outer s H vs Q E hr h => ?_
  obtain ⟨_, _, rfl, x, y, rfl, rfl, hx, hy, k⟩ := h
  refine ⟨_, (pss_cons (ps_set (i := 2) sc_common.nd rfl (Or.inl rfl) (pv 0))
      (pss_cons (ps_set (i := 3) sc_common.nd rfl (Or.inl rfl) (pv 1))
      (pss_cons (ps_while own_pass (pt_cmpR op_ne (pv 3) pe_int (nomark _))
        (pss_cons (ps_set (i := 4) sc_common.nd rfl (Or.inl rfl) (pe_op op_mod (pv 2) (pv 3)))
        (pss_cons (ps_set (i := 2) sc_common.nd rfl (Or.inl rfl) (pv 3))
        (pss_one (ps_set (i := 3) sc_common.nd rfl (Or.inl rfl) (pv 4))))))
      (pss_one (ps_ret (pv 2)))))), ?_⟩
  try (set_option simprocs false in dsimp only [cxOf])
  refine ⟨_, rfl, _, rfl, fun m σ H' => ∃ (g l : Int) (t : Option V), σ = [some (.int x), some (.int y), some (.int g), some (.int l), t] ∧ H' = H ∧ 0 ≤ g ∧ 0 ≤ l ∧ Int.gcd g l = Int.gcd x y ∧ m = l.toNat,
    ⟨_, x, y, none, rfl, rfl, hx, hy, rfl, rfl⟩, ?_⟩
  rintro m σ _ ⟨g, l, t, rfl, rfl, hg, hl, e, rfl⟩
  refine ⟨_, rfl, rfl, _, rfl, ?_⟩
  by_cases h0 : l = 0
  · subst h0
    refine iteNS rfl ⟨_, rfl, ?_⟩
    have : ((Int.gcd x y : Nat) : Int) = g := by rw [← e, Int.gcd_zero_right]; omega
    rw [this] at k
    exact k
  · have hb : (!decide (V.int l = V.int 0)) = true := by simp [h0]
    rw [hb]
    refine iteT ⟨_, fun _ _ h => h, ?_⟩
    have hlt := Int.emod_lt_of_pos g (show 0 < l by omega)
    have hnn := Int.emod_nonneg g h0
    exact ⟨_, rfl, _, rfl, _, _, rfl, rfl, (by show 0 < l; omega), _, rfl, _, rfl, (g % l).toNat, by omega, l, g % l, _, rfl, rfl, hl, hnn, by rw [← e, gcd_step g l], rfl⟩
noncomputable abbrev s_have_common_part : Stmt := top 16
theorem sc_have_common_part : FnScope ["divisors", "product", "divisor"] ["divisors"] (defScope s_have_common_part) := ⟨rfl, rfl, rfl, by decide +kernel, rfl, by decide +kernel, by decide +kernel⟩
theorem b_have_common_part : BindsAll "have_common_part" s_have_common_part ["divisors"] := binds1 fun _ _ _ _ _ _ _ => rfl
theorem ok_hcp (D : Def K mg "have_common_part" s_have_common_part) (F_common : FnS P w K mg base "common" ["a", "b"] 1 sp_common) : FnS P w K mg base "have_common_part" ["divisors"] 2 (sp_hcp K) := by
  refine D.ok sc_have_common_part b_have_common_part sp1_len fun f cdv A outer s H vs Q E hr h => ?_
  obtain ⟨_, rfl, l, ds, rfl, hl, hd, k⟩ := h
  refine ⟨_, (pss_cons (ps_set (i := 1) sc_have_common_part.nd rfl (Or.inl rfl) pe_int)
      (pss_cons (ps_for own_pass rfl (pi_list (pv 0)) (pg_name (i := 2) sc_have_common_part.nd rfl (Or.inl rfl))
        (pss_cons (ps_if (pt_cmpR op_ne (cFn F_common hr passes0 (ac (pv 1) (ac (pv 2) pa_nil))) pe_int (nomark _))
          (pss_one (ps_ret pe_bl))
          pss_nil)
        (pss_one (ps_set (i := 1) sc_have_common_part.nd rfl (Or.inl rfl) (pe_op op_mul (pv 1) (pv 2))))))
      (pss_one (ps_ret pe_bl)))), ?_⟩
  try (set_option simprocs false in dsimp only [cxOf])
  refine ⟨_, rfl, l, rfl, ⟨_, SqL.of hl⟩, for_list (K := K) (xs := ds.map V.int) (fun i σ H' => ∃ (p : Int) (t : Option V), σ = [some (.ref l), some (.int p), t] ∧ H' = H ∧ 1 ≤ p ∧ hasCommon p (ds.drop i) = hasCommon 1 ds)
    ⟨1, none, rfl, rfl, by omega, rfl⟩ (fun i σ H' _ ⟨_, _, _, e, _⟩ => by rw [e]; exact SqL.of hl) ?_ ?_⟩
  · rintro i x σ _ hx ⟨p, t, rfl, rfl, hp, e⟩
    rw [List.getElem?_map] at hx
    cases hi : ds[i]? with
    | none => rw [hi] at hx; cases hx
    | some d =>
      rw [hi] at hx
      cases hx
      have h2 := hd d (List.mem_of_getElem? hi)
      rw [hasCommon_drop hi] at e
      refine ⟨_, rfl, _, rfl, _, _, rfl, p, d, rfl, rfl, by omega, by omega, rfl, _, rfl, ?_⟩
      by_cases hg : Int.gcd p d = 1
      · rw [if_pos hg] at e
        refine iteNS (by rw [hg]; rfl) ?_
        refine ⟨_, rfl, _, rfl, _, _, rfl, rfl, .inr ⟨by show -(2 ^ 64) < d; omega, by show d < 2 ^ 64; omega⟩, _, _, rfl, rfl, ?_, e⟩
        have := Int.mul_le_mul hp (show 1 ≤ d by omega) (by omega) (by omega)
        omega
      · rw [if_neg hg] at e
        have hb : (!decide (V.int ((Int.gcd p d : Nat) : Int) = V.int 1)) = true := by
          simp only [V.int.injEq, Bool.not_eq_true', decide_eq_false_iff_not]
          omega
        rw [hb]
        refine iteT ?_
        show Q (.bl true) _
        rw [e]; exact k
  · rintro σ _ ⟨p, t, rfl, rfl, hp, e⟩
    rw [List.length_map, List.drop_length] at e
    show Q (.bl false) _
    rw [show false = hasCommon 1 ds from e]
    exact k
noncomputable abbrev s_base_of : Stmt := top 15
theorem sc_base_of : FnScope ["kept", "spare", "divisors"] ["kept", "spare"] (defScope s_base_of) := ⟨rfl, rfl, rfl, by decide +kernel, rfl, by decide +kernel, by decide +kernel⟩
theorem b_base_of : BindsAll "base_of" s_base_of ["kept", "spare"] := binds2 fun _ _ _ _ _ _ _ _ => rfl
theorem ok_base_of (D : Def K mg "base_of" s_base_of) (T : Txt K mg cR cT cB cW cD cP cA cU) (F_have_common_part : FnS P w K mg base "have_common_part" ["divisors"] 2 (sp_hcp K)) : FnS P w K mg base "base_of" ["kept", "spare"] 3 (sp_base_of cA) := by
  refine D.ok sc_base_of b_base_of sp2_len fun f cdv A outer s H vs Q E hr h => ?_
  obtain ⟨_, _, rfl, lk, ls, kept, spare, rfl, rfl, ek, es, lk100, ls100, good, bad⟩ := h
  refine ⟨_, (pss_cons (ps_if (PW.pt (pw_or (pt_not (pt_chain op_le op_le pe_int (cBi call0len (by rfl) T.len PyProof.Rows.Boot.«len» (ac (pv 0) pa_nil)) (pe_globI T.MOST_KEPT))) (pw_or1 (pt_cmpR op_gt (cBi call0len (by rfl) T.len PyProof.Rows.Boot.«len» (ac (pv 1) pa_nil)) (pe_globI T.MOST_SPARE) (nomark _)))))
        (pss_one (ps_raise T.x_BadBase T.BadBase (ac pe_str pa_nil)))
        pss_nil)
      (pss_cons (ps_set (i := 2) sc_base_of.nd rfl (Or.inl rfl) (pe_op op0catS (cTy call0list (by rfl) T.list PyProof.Rows.Boot.«list» (ac (pv 0) pa_nil)) (cTy call0list (by rfl) T.list PyProof.Rows.Boot.«list» (ac (pv 1) pa_nil))))
      (pss_cons (ps_if (PW.pt (pw_or (pt_cmpR op_lt (cBi (call_minL rfl) (by rfl) T.min PyProof.Rows.Boot.«min» (ac (pv 2) pa_nil)) (pe_globI T.LEAST_DIVISOR) (nomark _)) (pw_or1 (pt_cmpR op_gt (cBi (call_maxL rfl) (by rfl) T.max PyProof.Rows.Boot.«max» (ac (pv 2) pa_nil)) (pe_globI T.GREATEST_DIVISOR) (nomark _)))))
        (pss_one (ps_raise T.x_BadBase T.BadBase (ac pe_str pa_nil)))
        pss_nil)
      (pss_cons (ps_if (pt_val (cFn F_have_common_part hr passes0 (ac (pv 2) pa_nil)))
        (pss_one (ps_raise T.x_BadBase T.BadBase (ac pe_str pa_nil)))
        pss_nil)
      (pss_cons (ps_if (pt_cmpR op_lt (pe_minD (by rfl) T.min (pv 1) (pe_op op_add (pe_globI T.GREATEST_DIVISOR) pe_int)) (cBi (call_maxL rfl) (by rfl) T.max PyProof.Rows.Boot.«max» (ac (pv 0) pa_nil)) (nomark _))
        (pss_one (ps_raise T.x_BadBase T.BadBase (ac pe_str pa_nil)))
        pss_nil)
      (pss_one (ps_ret (pe_tup (ac (cTy call_tuple_of (by rfl) T.tuple PyProof.Rows.Boot.«tuple» (ac (pv 0) pa_nil)) (ac (cTy call_tuple_of (by rfl) T.tuple PyProof.Rows.Boot.«tuple» (ac (pv 1) pa_nil)) pa_nil)))))))))), ?_⟩
  try (set_option simprocs false in dsimp only [cxOf])
  have s100 : (300 : Nat) ≤ sizeLine := by decide
  refine ⟨_, rfl, lk, _, rfl, .inl (SqL.of ek), _, _, rfl, rfl, _, rfl, ?_⟩
  rw [List.length_map]
  by_cases c1 : (1 : Int) ≤ kept.length
  case neg =>
    rw [decide_eq_false c1]
    refine iteF ⟨_, rfl, iteT (iteT ⟨by decide, bad (fun g => ?_) H (Same.refl H)⟩)⟩
    have := g.k1; omega
  rw [decide_eq_true c1]
  refine iteT ⟨_, _, rfl, rfl, _, rfl, ?_⟩
  by_cases c2 : (kept.length : Int) ≤ 6
  case neg =>
    rw [decide_eq_false c2]
    refine iteT (iteT ⟨by decide, bad (fun g => ?_) H (Same.refl H)⟩)
    have := g.k6; omega
  rw [decide_eq_true c2]
  refine iteF ⟨_, rfl, ls, _, rfl, .inl (SqL.of es), _, _, rfl, rfl, _, rfl, ?_⟩
  rw [List.length_map]
  by_cases c3 : (4 : Int) < spare.length
  · rw [decide_eq_true c3]
    refine iteT ⟨by decide, bad (fun g => ?_) H (Same.refl H)⟩
    have := g.s4; omega
  rw [decide_eq_false c3]
  refine iteF ?_
  refine ⟨_, rfl, lk, _, rfl, .inl (SqL.of ek), fun l1 g1 => ⟨_, rfl, ls, _, rfl, .inl (SqL.of (by rw [upd_ne (ne_of_none es g1)]; exact es)), fun l2 g2 => ?_⟩⟩
  have n12 : l1 ≠ l2 := by rintro rfl; rw [upd_same] at g2; cases g2
  refine ⟨l1, l2, _, _, rfl, rfl, SqL.of (by rw [upd_ne n12]; exact upd_same), SqL.of upd_same, by rw [List.length_map, List.length_map]; omega, fun l3 g3 => ?_⟩
  rw [← List.map_append]
  have S1 := ((Same.new (o := .lst (kept.map V.int)) g1).trans (Same.new (o := .lst (spare.map V.int)) g2)).trans (Same.new (o := .lst ((kept ++ spare).map V.int)) g3)
  generalize hH2 : upd (upd (upd H l1 (.lst (kept.map V.int))) l2 (.lst (spare.map V.int))) l3 (.lst ((kept ++ spare).map V.int)) = H2 at S1 ⊢
  have e3 : H2 l3 = some (.lst ((kept ++ spare).map V.int)) := by rw [← hH2, upd_same]
  have ek2 := S1 _ _ ek
  have es2 := S1 _ _ es
  have hne : kept ++ spare ≠ [] := by
    intro z
    have := congrArg List.length z
    rw [List.length_append] at this
    simp only [List.length_nil] at this
    omega
  have hkne : kept ≠ [] := by rintro rfl; simp at c1
  refine ⟨_, rfl, l3, _, rfl, SqL.of e3, hne, fun mi hmi hmin => ⟨_, _, rfl, rfl, _, rfl, ?_⟩⟩
  by_cases c4 : mi < 2
  · rw [decide_eq_true c4]
    refine iteT (iteT ⟨by decide, bad (fun g => ?_) H2 S1⟩)
    have := g.rng mi hmi; omega
  rw [decide_eq_false c4]
  refine iteF ⟨_, rfl, l3, _, rfl, SqL.of e3, hne, fun ma hma hmax => ⟨_, _, rfl, rfl, _, rfl, ?_⟩⟩
  by_cases c5 : (1000000 : Int) < ma
  · rw [decide_eq_true c5]
    refine iteT ⟨by decide, bad (fun g => ?_) H2 S1⟩
    have := g.rng ma hma; omega
  rw [decide_eq_false c5]
  have rng : ∀ d ∈ kept ++ spare, 2 ≤ d ∧ d ≤ 1000000 := fun d hd => by
    have h1 := hmin d hd
    have h2 := hmax d hd
    omega
  refine iteF ⟨_, rfl, _, rfl, l3, _, rfl, e3, rng, _, rfl, ?_⟩
  by_cases c6 : hasCommon 1 (kept ++ spare) = true
  · rw [c6]
    refine iteT ⟨by decide, bad (fun g => ?_) H2 S1⟩
    rw [(hasCommon_one _).mpr g.cop] at c6; cases c6
  have c6' : hasCommon 1 (kept ++ spare) = false := by simpa using c6
  rw [c6']
  have cop := (hasCommon_one _).mp c6'
  refine iteF ⟨_, rfl, _, _, rfl, rfl, ls, spare, _, rfl, rfl, SqL.of es2, fun ms m1 m2 => ⟨_, rfl, lk, _, rfl, SqL.of ek2, hkne, fun mk hmk hmkx => ⟨_, _, rfl, rfl, _, rfl, ?_⟩⟩⟩
  by_cases c7 : ms < mk
  · rw [decide_eq_true c7]
    refine iteT ⟨by decide, bad (fun g => ?_) H2 S1⟩
    by_cases hs : spare = []
    · have := m1 hs
      have := (rng mk (List.mem_append_left _ hmk)).2
      omega
    · have := g.lt mk hmk ms (m2 hs).1
      omega
  rw [decide_eq_false c7]
  have lt : ∀ k ∈ kept, ∀ s ∈ spare, k < s := fun k hk s hs => by
    have h1 := hmkx k hk
    have h2 := (m2 (List.ne_nil_of_mem hs)).2 s hs
    have hks : k ≠ s := by
      rintro rfl
      have := (List.pairwise_append.mp cop).2.2 k hk k hs
      exact not_cop_self (rng k (List.mem_append_left _ hk)).1 this
    omega
  have gb : GoodBase kept spare := ⟨by omega, by omega, by omega, rng, cop, lt⟩
  refine iteF ⟨_, rfl, lk, _, rfl, .inl ⟨SqL.of ek2, fun t1 f1 => ?_⟩⟩
  have es3 : upd H2 t1 (.tup (kept.map V.int)) ls = some (.lst (spare.map V.int)) := by rw [upd_ne (ne_of_none es2 f1)]; exact es2
  refine ⟨_, rfl, ls, _, rfl, .inl ⟨SqL.of es3, fun t2 f2 => ⟨(by show 2 ≤ sizeLine; decide), fun t f3 => ?_⟩⟩⟩
  have n1 : t1 ≠ t2 := by rintro rfl; rw [upd_same] at f2; cases f2
  have n2 : t2 ≠ t := by rintro rfl; rw [upd_same] at f3; cases f3
  have n3 : t1 ≠ t := by rintro rfl; rw [upd_ne n1, upd_same] at f3; cases f3
  have S2 := (S1.trans (Same.new (o := .tup (kept.map V.int)) f1)).trans (Same.new (o := .tup (spare.map V.int)) f2)
  exact good gb t _ (S2.trans (Same.new f3)) (S2.free f3) ⟨t1, t2, upd_same, by rw [upd_ne n3, upd_ne n1, upd_same], by rw [upd_ne n2, upd_same]⟩
end
end K11
set_option Elab.async false
set_option linter.all false
set_option maxRecDepth 100000
set_option maxHeartbeats 4000000
namespace K11
open PySem L2 RF
seal L2.PE L2.PA L2.PS L2.PSs L2.PT L2.PG L2.PI L2.PK L2.PO L2.PEx L2.PSx L2.PSxs L2.PH L2.PW L2.PGs L2.OpR L2.CallR L2.SlR L2.IxR
section
variable {P : Program} {w : World} {K : PySem.W.Frag} {mg : Str → Option Value} {base : Heap} {cR cT cB cW cD cP cA cU : Addr}
noncomputable abbrev s__law_class : Stmt := top 45
theorem sc__law_class : FnScope ["_law_caught", "_law_names", "_law_told"] ["_law_caught"] (defScope s__law_class) := ⟨rfl, rfl, rfl, by decide +kernel, rfl, by decide +kernel, by decide +kernel⟩
theorem b__law_class : BindsAll "_law_class" s__law_class ["_law_caught"] := binds1 fun _ _ _ _ _ _ _ => rfl
theorem ok_class (D : Def K mg "_law_class" s__law_class) (T : Txt K mg cR cT cB cW cD cP cA cU) : FnM P w K mg base "_law_class" ["_law_caught"] 1 (sp_class K cR cT cB cW cD cP cA cU) := by
  refine D.okM sc__law_class b__law_class sp1_len fun f cdv A outer s H vs Q hr h => ?_
  obtain ⟨_, rfl, ea, c, j, w', rfl, he, G, hw, k⟩ := h
  refine ⟨_, (pss_cons (ps_set (i := 1) sc__law_class.nd rfl (Or.inl rfl) (pe_lst (ac pe_str (ac pe_str (ac pe_str (ac pe_str (ac pe_str (ac pe_str (ac pe_str pa_nil)))))))))
      (pss_cons (ps_set (i := 2) sc__law_class.nd rfl (Or.inl rfl) (pe_lst (ac (cBi call_isiE (by rfl) T.isinstance PyProof.Rows.Boot.«isinstance» (ac (pv 0) (ac (pe_glob (v := .ref _) rfl T.TooGreat rfl) pa_nil))) (ac (cBi call_isiE (by rfl) T.isinstance PyProof.Rows.Boot.«isinstance» (ac (pv 0) (ac (pe_glob (v := .ref _) rfl T.BadFigure rfl) pa_nil))) (ac (cBi call_isiE (by rfl) T.isinstance PyProof.Rows.Boot.«isinstance» (ac (pv 0) (ac (pe_glob (v := .ref _) rfl T.Wrong rfl) pa_nil))) pa_nil)))))
      (pss_cons (ps_set (i := 2) sc__law_class.nd rfl (Or.inl rfl) (pe_op op0catS (pv 2) (pe_lst (ac (cBi call_isiE (by rfl) T.isinstance PyProof.Rows.Boot.«isinstance» (ac (pv 0) (ac (pe_glob (v := .ref _) rfl T.BadDivisor rfl) pa_nil))) (ac (cBi call_isiE (by rfl) T.isinstance PyProof.Rows.Boot.«isinstance» (ac (pv 0) (ac (pe_glob (v := .ref _) rfl T.BadPlace rfl) pa_nil))) (ac (cBi call_isiE (by rfl) T.isinstance PyProof.Rows.Boot.«isinstance» (ac (pv 0) (ac (pe_glob (v := .ref _) rfl T.BadBase rfl) pa_nil))) pa_nil))))))
      (pss_cons (ps_expr (pe_bm PySem.F.plainAttrs_list PySem.F.slot_list_append PySem.F.type_list_append mt_append (pv 2) (ac (cBi call_isiE (by rfl) T.isinstance PyProof.Rows.Boot.«isinstance» (ac (pv 0) (ac (pe_glob (v := .ref _) rfl T.Unlike rfl) pa_nil))) pa_nil)))
      (pss_cons (ps_if (PW.pt (pw_or (pt_cmpR op_ne (pe_bm PySem.F.plainAttrs_list PySem.F.slot_list_count PySem.F.type_list_count mt_count (pv 2) (ac pe_bl pa_nil)) pe_int (nomark _)) (pw_or1 (pt_not (pt_val (cBi call_isiE (by rfl) T.isinstance PyProof.Rows.Boot.«isinstance» (ac (pv 0) (ac (pe_ty rfl T.ValueError PyProof.Rows.Boot.«ValueError») pa_nil))))))))
        (pss_one (ps_ret pe_str))
        pss_nil)
      (pss_one (ps_ret (pe_ix ix0L (pv 1) (pe_bm PySem.F.plainAttrs_list PySem.F.slot_list_index PySem.F.type_list_index mt_index (pv 2) (ac pe_bl pa_nil)) (fun _ _ => rfl))))))))), ?_⟩
  try (set_option simprocs false in dsimp only [cxOf])
  refine ⟨(by show 7 ≤ sizeLine; decide), fun pn fn => ?_⟩
  have N0 := Same.new (o := .lst (theWords.map V.str)) fn
  have h0 := N0 _ _ he
  refine ⟨_, rfl, ea, c, _, _, _, rfl, .inr ⟨_, rfl, rfl⟩, h0, G.g, G.k0, _, rfl, ea, c, _, _, _, rfl, .inr ⟨_, rfl, rfl⟩, h0, G.g, G.k1, _, rfl, ea, c, _, _, _, rfl, .inr ⟨_, rfl, rfl⟩, h0, G.g, G.k2, (by show 3 ≤ sizeLine; decide), fun p1 f1 => ?_⟩
  have N1 := Same.new (o := .lst [.bl (decide (j = 0)), .bl (decide (j = 1)), .bl (decide (j = 2))]) f1
  have h1 := N1 _ _ h0
  refine ⟨_, rfl, _, rfl, ea, c, _, _, _, rfl, .inr ⟨_, rfl, rfl⟩, h1, G.g, G.k3, _, rfl, ea, c, _, _, _, rfl, .inr ⟨_, rfl, rfl⟩, h1, G.g, G.k4, _, rfl, ea, c, _, _, _, rfl, .inr ⟨_, rfl, rfl⟩, h1, G.g, G.k5, (by show 3 ≤ sizeLine; decide), fun p2 f2 => ?_⟩
  have N2 := Same.new (o := .lst [.bl (decide (j = 3)), .bl (decide (j = 4)), .bl (decide (j = 5))]) f2
  refine ⟨p1, p2, _, _, rfl, rfl, SqL.of (N2 _ _ upd_same), SqL.of upd_same, (by show 3 + 3 ≤ sizeLine; decide), fun p3 f3 => ?_⟩
  have N3 := Same.new (o := .lst ([.bl (decide (j = 0)), .bl (decide (j = 1)), .bl (decide (j = 2))] ++ [.bl (decide (j = 3)), .bl (decide (j = 4)), .bl (decide (j = 5))])) f3
  have A3 := N1.trans (N2.trans N3)
  have h3 := A3 _ _ h0
  refine ⟨_, rfl, .inl ⟨rfl, _, SqL.of upd_same⟩, _, rfl, ea, c, _, _, _, rfl, .inr ⟨_, rfl, rfl⟩, h3, G.g, G.k6, p3, _, _, rfl, rfl, upd_same, (by show 6 < sizeLine; decide), ?_⟩
  have hj : j < 7 := (List.getElem?_eq_some_iff.mp hw).1
  have S3 := (N0.trans A3).upd (o := .lst (toldL j)) ((N0.trans (N1.trans N2)).free f3)
  have h4 := (A3.upd (o := .lst (toldL j)) ((N1.trans N2).free f3)) _ _ h0
  have en := (A3.upd (o := .lst (toldL j)) ((N1.trans N2).free f3)) _ _ (upd_same : upd H pn (.lst (theWords.map V.str)) pn = _)
  refine ⟨_, rfl, .inl ⟨rfl, _, SqL.of upd_same⟩, p3, toldL j, _, rfl, rfl, upd_same, rfl, rfl, rfl, _, rfl, iteNS (by rw [toldL_count hj]; rfl) ?_⟩
  refine ⟨_, rfl, ea, c, _, _, _, rfl, .inl ⟨"ValueError", rfl, rfl⟩, h4, G.g, G.v, _, rfl, iteF ?_⟩
  exact ⟨_, rfl, _, rfl, .inl ⟨rfl, _, SqL.of upd_same⟩, p3, toldL j, _, j, rfl, rfl, upd_same, rfl, rfl, toldL_hit hj, fun m z hm hz => toldL_no hm hz, pn, _, _, _, rfl, rfl, SqL.of en, words_at hw, k _ S3⟩
noncomputable abbrev s__law_spoilt : Stmt := top 46
theorem sc__law_spoilt : FnScope ["_law_base", "_law_figure_here", "_law_number", "_law_at", "_law_by", "_law_how", "_law_more_here", "_law_ahead", "_law_behind", "_law_one"] ["_law_base", "_law_figure_here", "_law_number"] (defScope s__law_spoilt) := ⟨rfl, rfl, rfl, by decide +kernel, rfl, by decide +kernel, by decide +kernel⟩
theorem b__law_spoilt : BindsAll "_law_spoilt" s__law_spoilt ["_law_base", "_law_figure_here", "_law_number"] := binds3 fun _ _ _ _ _ _ _ _ _ => rfl
noncomputable def Gs (H : Hp) (kept spare : List Int) (t l : Addr) (nb : Int) (σ : St) (H' : Hp) : Prop := ∃ at' d : Int, σ = [some (.ref t), some (.ref l), some (.int nb), some (.int at'), some (.int d), none, none, none, none, none] ∧ Same H H' ∧ 0 ≤ at' ∧ at' < (kept ++ spare).length ∧ (kept ++ spare)[at'.toNat]? = some d
theorem ok_spoiltW (D : Def K mg "_law_spoilt" s__law_spoilt) (T : Txt K mg cR cT cB cW cD cP cA cU) : FnS P w K mg base "_law_spoilt" ["_law_base", "_law_figure_here", "_law_number"] 1 sp_spoiltW := by
  refine D.ok sc__law_spoilt b__law_spoilt sp3_len fun f cdv A outer s H vs Q E hr h => ?_
  obtain ⟨_, _, _, rfl, kept, spare, l, n, nb, ⟨⟨t, rfl, hb⟩, gb⟩, rfl, rfl, el, hf, nb0, k⟩ := h
  refine ⟨_, (pss_cons (ps_set (i := 3) sc__law_spoilt.nd rfl (Or.inl rfl) (pe_op op_mod (pe_op op_fdiv (pv 2) pe_int) (cBi call0len (by rfl) T.len PyProof.Rows.Boot.«len» (ac (pv 1) pa_nil))))
      (pss_cut (Gs H kept spare t l nb) (ps_set (i := 4) sc__law_spoilt.nd rfl (Or.inl rfl) (pe_ix ix0T (pe_op op0catT (pe_ix ix0T (pv 0) pe_int (fun _ _ => rfl)) (pe_ix ix0T (pv 0) pe_int (fun _ _ => rfl))) (pv 3) (fun _ _ => rfl)))
      (pss_cons (ps_set (i := 5) sc__law_spoilt.nd rfl (Or.inl rfl) (pe_op op_mod (pv 2) pe_int))
      (pss_cons (ps_set (i := 6) sc__law_spoilt.nd rfl (Or.inl rfl) (pe_op op_fdiv (pv 2) pe_int))
      (pss_cons (ps_set (i := 7) sc__law_spoilt.nd rfl (Or.inl rfl) (pe_slice sl0L (pv 1) po_none (po_some (pv 3))))
      (pss_cons (ps_set (i := 8) sc__law_spoilt.nd rfl (Or.inl rfl) (pe_slice sl0L (pv 1) (po_some (pe_op op_add (pv 3) pe_int)) po_none))
      (pss_cons (ps_if (pt_cmpR op_eq (pv 5) pe_int (nomark _))
        (pss_one (ps_ret (pe_tup (ac (pe_slice sl0L (pv 1) po_none (po_some (pe_un un_neg pe_int))) (ac pe_str pa_nil)))))
        pss_nil)
      (pss_cons (ps_if (pt_cmpR op_eq (pv 5) pe_int (nomark _))
        (pss_one (ps_ret (pe_tup (ac (pe_op op0catS (pv 1) (pe_lst (ac pe_int pa_nil))) (ac pe_str pa_nil)))))
        pss_nil)
      (pss_cons (ps_if (pt_cmpR op_eq (pv 5) pe_int (nomark _))
        (pss_one (ps_ret (pe_tup (ac (pe_op op0catS (pe_op op0catS (pv 7) (pe_lst (ac (pe_op op_add (pv 4) (pe_op op_mul (pe_op op_mod (pv 6) pe_int) (pe_op op_pow pe_int pe_int))) pa_nil))) (pv 8)) (ac pe_str pa_nil)))))
        pss_nil)
      (pss_cons (ps_if (pt_cmpR op_eq (pv 5) pe_int (nomark _))
        (pss_one (ps_ret (pe_tup (ac (pe_op op0catS (pe_op op0catS (pv 7) (pe_lst (ac (pe_op op_sub (pe_op op_sub pe_int pe_int) (pe_op op_mod (pv 6) pe_int)) pa_nil))) (pv 8)) (ac pe_str pa_nil)))))
        pss_nil)
      (pss_cons (ps_if (PW.pt (pw_and (pt_cmpR op_lt (pv 5) pe_int (nomark _)) (pw_and1 (pt_cmpR op_gt (cBi call0len (by rfl) T.len PyProof.Rows.Boot.«len» (ac (pe_ix ix0T (pv 0) pe_int (fun _ _ => rfl)) pa_nil)) pe_int (nomark _)))))
        (pss_cons (ps_set (i := 9) sc__law_spoilt.nd rfl (Or.inl rfl) (pe_op op_mod (pe_op op_add (pe_op op_add (pe_ix ix0L (pv 1) (pv 3) (fun _ _ => rfl)) pe_int) (pe_op op_mod (pv 6) (pe_op op_sub (pv 4) pe_int))) (pv 4)))
        (pss_one (ps_ret (pe_tup (ac (pe_op op0catS (pe_op op0catS (pv 7) (pe_lst (ac (pv 9) pa_nil))) (pv 8)) (ac pe_str pa_nil))))))
        pss_nil)
      (pss_one (ps_ret (pe_tup (ac (pv 1) (ac pe_str pa_nil)))))))))))))))), ?_⟩
  try (set_option simprocs false in dsimp only [cxOf])
  obtain ⟨t1, t2, e0, e1, e2⟩ := hb.ex
  have k1 := gb.k1
  have k6 := gb.k6
  have s4 := gb.s4
  have two : ∀ {a : V} {b : V}, ([a, b] : List V).length ≤ sizeLine := fun {_ _} => by show 2 ≤ sizeLine; decide
  have s30 : (30 : Nat) ≤ sizeLine := by decide
  have hlen := rests_length (kept ++ spare) n
  generalize hfs : rests (kept ++ spare) n = fs at *
  have hl1 : 1 ≤ fs.length := by rw [hlen, List.length_append]; omega
  have hl10 : fs.length ≤ 10 := by rw [hlen, List.length_append]; omega
  refine ⟨_, rfl, _, _, rfl, rfl, ⟨by decide, by decide⟩, _, rfl, l, _, rfl, .inl (SqL.of el), _, _, rfl, rfl, (by show (0 : Int) < ((fs.map V.int).length : Int); rw [List.length_map]; omega), ?_⟩
  have a0 : 0 ≤ nb / 12 % (fs.length : Int) := Int.emod_nonneg _ (by omega)
  have a1 : nb / 12 % (fs.length : Int) < fs.length := Int.emod_lt_of_pos _ (by omega)
  have hat : nb / 12 % ((fs.map V.int).length : Int) = nb / 12 % (fs.length : Int) := by rw [List.length_map]
  have hj : (nb / 12 % (fs.length : Int)).toNat < (kept ++ spare).length := by omega
  have hd : (kept ++ spare)[(nb / 12 % (fs.length : Int)).toNat]? = some ((kept ++ spare).getD (nb / 12 % (fs.length : Int)).toNat 0) := by
    rw [List.getD_eq_getElem?_getD, List.getElem?_eq_getElem hj]; rfl
  refine ⟨?_, ?_⟩
  rotate_left
  · refine ⟨_, rfl, t, _, _, _, rfl, rfl, SqT.of e0, rfl, _, rfl, t, _, _, _, rfl, rfl, SqT.of e0, rfl, t1, t2, _, _, rfl, rfl, SqT.of e1, SqT.of e2, gb.ne, gb.room, fun hs => ?_, fun _ p hp => ?_⟩
    · have hs : spare = [] := List.map_eq_nil_iff.mp hs
      have g1 : H t1 = some (.tup ((kept ++ spare).map V.int)) := by rw [hs, List.append_nil]; exact e1
      exact ⟨_, rfl, t1, _, _, _, rfl, rfl, SqT.of g1, atI_ints (by rw [hat]; exact a0) (by rw [hat, ← hlen]; exact a1), _, _, rfl, Same.refl H, by rw [hat]; exact a0, by rw [hat]; omega, by rw [hat]; exact hd⟩
    · have g1 : upd H p (.tup (kept.map V.int ++ spare.map V.int)) p = some (.tup ((kept ++ spare).map V.int)) := by rw [List.map_append]; exact upd_same
      exact ⟨_, rfl, p, _, _, _, rfl, rfl, SqT.of g1, atI_ints (by rw [hat]; exact a0) (by rw [hat, ← hlen]; exact a1), _, _, rfl, Same.new hp, by rw [hat]; exact a0, by rw [hat]; omega, by rw [hat]; exact hd⟩
  clear a0 a1 hat hj hd
  rintro _ H1 ⟨at', d, rfl, S1, a0, a1, hd⟩
  have hd2 := gb.rng d (List.mem_of_getElem? hd)
  have ha : at'.toNat < fs.length := by omega
  have el1 := S1 _ _ el
  refine ⟨_, rfl, _, _, rfl, rfl, (by show (0 : Int) < 12; decide), ?_⟩
  refine ⟨_, rfl, _, _, rfl, rfl, ⟨by decide, by decide⟩, ?_⟩
  refine ⟨_, rfl, _, rfl, _, rfl, l, _, rfl, SqL.of el1, fun pa fa => ?_⟩
  rw [cut_to a0]
  have NA := Same.new (o := .lst ((fs.take at'.toNat).map V.int)) fa
  refine ⟨_, rfl, _, rfl, _, _, rfl, rfl, _, rfl, l, _, rfl, SqL.of (NA _ _ el1), fun pb fb => ?_⟩
  rw [cut_from (by omega), show (at' + 1).toNat = at'.toNat + 1 by omega]
  have NB := Same.new (o := .lst ((fs.drop (at'.toNat + 1)).map V.int)) fb
  have S2 := S1.trans (NA.trans NB)
  have ea := NB _ _ (upd_same : upd H1 pa (.lst ((fs.take at'.toNat).map V.int)) pa = _)
  have eb := (upd_same : upd (upd H1 pa (.lst ((fs.take at'.toNat).map V.int))) pb (.lst ((fs.drop (at'.toNat + 1)).map V.int)) pb = _)
  have el2 := (NA.trans NB) _ _ el1
  generalize upd (upd H1 pa (.lst ((fs.take at'.toNat).map V.int))) pb (.lst ((fs.drop (at'.toNat + 1)).map V.int)) = H2 at *
  have hset : ∀ x : Int, (fs.take at'.toNat).map V.int ++ [V.int x] ++ (fs.drop (at'.toNat + 1)).map V.int = (fs.set at'.toNat x).map V.int := fun x => by
    rw [← set_cut ha, List.map_append, List.map_append]; rfl
  have lset : ∀ x : Int, (fs.set at'.toNat x).length ≤ 20 := fun x => by rw [List.length_set]; omega
  have bad : ∀ x : Int, (x < 0 ∨ d ≤ x) → FigW kept spare n (fs.set at'.toNat x) "figure" := fun x hx => .inr (.inl ⟨rfl, bad_at hlen hd hx⟩)
  refine ⟨_, rfl, rfl, _, rfl, ite2 (fun _ => ?_) (fun _ => ?_)⟩
  · refine ⟨_, rfl, _, rfl, _, rfl, l, _, rfl, SqL.of el2, fun p fp => ?_⟩
    rw [cut_last hl1]
    have N := Same.new (o := .lst ((fs.take (fs.length - 1)).map V.int)) fp
    refine ⟨two, fun q fq => ?_⟩
    have M := Same.new (o := .tup [.ref p, .str "figure"]) fq
    exact k q p _ "figure" _ (S2.trans (N.trans M)) upd_same (M _ _ upd_same) (by rw [List.length_take]; omega) (.inr (.inl ⟨rfl, bad_short hlen (by omega)⟩))
  refine ⟨_, rfl, rfl, _, rfl, ite2 (fun _ => ?_) (fun _ => ?_)⟩
  · refine ⟨_, rfl, (by show 1 ≤ sizeLine; decide), fun p fp => ?_⟩
    have N := Same.new (o := .lst [.int 0]) fp
    refine ⟨l, p, _, _, rfl, rfl, SqL.of (N _ _ el2), SqL.of upd_same, (by rw [List.length_map]; show _ + 1 ≤ _; omega), fun p2 f2 => ⟨two, fun q fq => ?_⟩⟩
    have N2 := Same.new (o := .lst (fs.map V.int ++ [.int 0])) f2
    have M := Same.new (o := .tup [.ref p2, .str "figure"]) fq
    exact k q p2 (fs ++ [0]) "figure" _ (S2.trans (N.trans (N2.trans M))) upd_same (by rw [List.map_append]; exact M _ _ upd_same) (by rw [List.length_append]; show _ + 1 ≤ 20; omega) (.inr (.inl ⟨rfl, bad_long hlen⟩))
  have fin : ∀ (x : Int) (word : Str), FigW kept spare n (fs.set at'.toNat x) word → ∀ p, H2 p = none → ∀ p1, upd H2 p (.lst [.int x]) p1 = none → ∀ p2, upd (upd H2 p (.lst [.int x])) p1 (.lst ((fs.take at'.toNat).map V.int ++ [.int x])) p2 = none →
      ∀ q, upd (upd (upd H2 p (.lst [.int x])) p1 (.lst ((fs.take at'.toNat).map V.int ++ [.int x]))) p2 (.lst ((fs.take at'.toNat).map V.int ++ [.int x] ++ (fs.drop (at'.toNat + 1)).map V.int)) q = none →
      Q (.ref q) (upd (upd (upd (upd H2 p (.lst [.int x])) p1 (.lst ((fs.take at'.toNat).map V.int ++ [.int x]))) p2 (.lst ((fs.take at'.toNat).map V.int ++ [.int x] ++ (fs.drop (at'.toNat + 1)).map V.int))) q (.tup [.ref p2, .str word])) := fun x word hw p fp p1 f1 p2 f2 q fq => by
    have N1 := Same.new (o := .lst [.int x]) fp
    have N2 := Same.new (o := .lst ((fs.take at'.toNat).map V.int ++ [.int x])) f1
    have N3 := Same.new (o := .lst ((fs.take at'.toNat).map V.int ++ [.int x] ++ (fs.drop (at'.toNat + 1)).map V.int)) f2
    have N4 := Same.new (o := .tup [.ref p2, .str word]) fq
    exact k q p2 _ word _ (S2.trans (N1.trans (N2.trans (N3.trans N4)))) upd_same (by rw [← hset x]; exact N4 _ _ upd_same) (lset x) hw
  have sz1 : ((fs.take at'.toNat).map V.int).length + 1 ≤ sizeLine := by rw [List.length_map, List.length_take]; omega
  have sz2 : ∀ x : Int, ((fs.take at'.toNat).map V.int ++ [V.int x]).length + ((fs.drop (at'.toNat + 1)).map V.int).length ≤ sizeLine := fun x => by
    rw [List.length_append, List.length_map, List.length_map, List.length_take, List.length_drop]
    show _ + 1 + _ ≤ _
    omega
  refine ⟨_, rfl, rfl, _, rfl, ite2 (fun _ => ?_) (fun _ => ?_)⟩
  · refine ⟨_, rfl, _, rfl, _, rfl, _, _, rfl, rfl, (by show (0 : Int) < 2; decide), _, _, rfl, rfl, ⟨by decide, by decide, by decide⟩, _, _, rfl, rfl, .inl ⟨by show -(2 ^ 64) < nb / 48 % 2; omega, by show nb / 48 % 2 < 2 ^ 64; omega⟩, _, _, rfl, rfl, (by show 1 ≤ sizeLine; decide), fun p fp => ?_⟩
    refine ⟨pa, p, _, _, rfl, rfl, SqL.of ((Same.new fp) _ _ ea), SqL.of upd_same, sz1, fun p1 f1 => ⟨_, rfl, p1, pb, _, _, rfl, rfl, SqL.of upd_same, SqL.of (((Same.new fp).trans (Same.new f1)) _ _ eb), sz2 _, fun p2 f2 => ⟨two, fun q fq => ?_⟩⟩⟩
    refine fin _ "figure" (bad _ (.inr ?_)) p fp p1 f1 p2 f2 q fq
    have m0 : 0 ≤ nb / 48 % 2 := by omega
    have := Int.mul_nonneg m0 (show (0 : Int) ≤ 10 ^ (50 : Int).toNat by decide)
    show d ≤ d + nb / 48 % 2 * 10 ^ (50 : Int).toNat
    omega
  refine ⟨_, rfl, rfl, _, rfl, ite2 (fun _ => ?_) (fun _ => ?_)⟩
  · refine ⟨_, rfl, _, _, rfl, rfl, _, rfl, _, _, rfl, rfl, (by show (0 : Int) < 3; decide), _, _, rfl, rfl, (by show 1 ≤ sizeLine; decide), fun p fp => ?_⟩
    refine ⟨pa, p, _, _, rfl, rfl, SqL.of ((Same.new fp) _ _ ea), SqL.of upd_same, sz1, fun p1 f1 => ⟨_, rfl, p1, pb, _, _, rfl, rfl, SqL.of upd_same, SqL.of (((Same.new fp).trans (Same.new f1)) _ _ eb), sz2 _, fun p2 f2 => ⟨two, fun q fq => ?_⟩⟩⟩
    refine fin _ "figure" (bad _ (.inl ?_)) p fp p1 f1 p2 f2 q fq
    show 0 - 1 - nb / 48 % 3 < 0
    omega
  have e02 := S2 _ _ e0
  have e22 := S2 _ _ e2
  have last : Q = Q → ∀ q, H2 q = none → Q (.ref q) (upd H2 q (.tup [.ref l, .str ""])) := fun _ q fq => by
    have N := Same.new (o := .tup [.ref l, .str ""]) fq
    exact k q l fs "" _ (S2.trans N) upd_same (N _ _ el2) (by omega) (.inl ⟨rfl, hfs.symm⟩)
  refine ⟨_, rfl, _, _, rfl, rfl, _, rfl, ite2 (fun _ => ⟨_, rfl, t, _, _, _, rfl, rfl, SqT.of e02, rfl, t2, _, rfl, .inr (SqT.of e22), _, _, rfl, rfl, _, rfl, ite2 (fun hs => ?_) (fun _ => ?_)⟩) (fun _ => iteF ?_)⟩
  · have hs : spare ≠ [] := by
      rintro rfl
      have hs : (0 : Int) < (([] : List Int).map V.int).length := of_decide_eq_true hs
      exact absurd hs (by decide)
    have r0 : fs.getD at'.toNat 0 = n % d := by
      rw [← hfs, List.getD_eq_getElem?_getD, rests_get hd]; rfl
    have q0 : 0 ≤ nb / 48 % (d - 1) := Int.emod_nonneg _ (by omega)
    have q1 : nb / 48 % (d - 1) < d - 1 := Int.emod_lt_of_pos _ (by omega)
    have g0 : 0 ≤ n % d := Int.emod_nonneg _ (by omega)
    have g1 : n % d < d := Int.emod_lt_of_pos _ (by omega)
    have z0 : 0 ≤ (fs.getD at'.toNat 0 + 1 + nb / 48 % (d - 1)) % d := Int.emod_nonneg _ (by omega)
    have z1 : (fs.getD at'.toNat 0 + 1 + nb / 48 % (d - 1)) % d < d := Int.emod_lt_of_pos _ (by omega)
    refine ⟨_, rfl, _, rfl, l, _, _, _, rfl, rfl, SqL.of el2, atI_ints a0 (by omega), _, _, rfl, rfl, _, rfl, _, rfl, _, _, rfl, rfl, _, _, rfl, rfl, (by show 0 < d - 1; omega), _, _, rfl, rfl, _, rfl, _, _, rfl, rfl, (by show 0 < d; omega), ?_⟩
    refine ⟨_, rfl, _, rfl, (by show 1 ≤ sizeLine; decide), fun p fp => ?_⟩
    refine ⟨pa, p, _, _, rfl, rfl, SqL.of ((Same.new fp) _ _ ea), SqL.of upd_same, sz1, fun p1 f1 => ⟨_, rfl, p1, pb, _, _, rfl, rfl, SqL.of upd_same, SqL.of (((Same.new fp).trans (Same.new f1)) _ _ eb), sz2 _, fun p2 f2 => ⟨two, fun q fq => ?_⟩⟩⟩
    refine fin _ "wrong" (.inr (.inr ⟨rfl, ?_⟩)) p fp p1 f1 p2 f2 q fq
    have w := wrong_of_set gb hs hf hd z0 z1 (by rw [r0]; exact other_rest g0 g1 q0 q1)
    rw [hfs] at w
    exact w
  all_goals exact ⟨_, rfl, two, fun q fq => last rfl q fq⟩
noncomputable abbrev s__law_maybe : Stmt := top 47
theorem sc__law_maybe : FnScope ["_law_base", "_law_figure_here", "_law_number", "_law_often"] ["_law_base", "_law_figure_here", "_law_number", "_law_often"] (defScope s__law_maybe) := ⟨rfl, rfl, rfl, by decide +kernel, rfl, by decide +kernel, by decide +kernel⟩
theorem b__law_maybe : BindsAll "_law_maybe" s__law_maybe ["_law_base", "_law_figure_here", "_law_number", "_law_often"] := binds4 fun _ _ _ _ _ _ _ _ _ _ => rfl
theorem ok_maybe (D : Def K mg "_law_maybe" s__law_maybe) (F__law_spoilt : FnS P w K mg base "_law_spoilt" ["_law_base", "_law_figure_here", "_law_number"] 1 sp_spoiltW) : FnS P w K mg base "_law_maybe" ["_law_base", "_law_figure_here", "_law_number", "_law_often"] 2 sp_maybe := by
  refine D.ok sc__law_maybe b__law_maybe sp4_len fun f cdv A outer s H vs Q E hr h => ?_
  obtain ⟨_, _, _, _, rfl, kept, spare, l, n, nb, o, B, rfl, rfl, rfl, el, hf, nb0, o1, o2, k⟩ := h
  refine ⟨_, (pss_cons (ps_if (pt_cmpR op_gt (pe_op op_mod (pv 2) (pv 3)) pe_int (nomark _))
        (pss_one (ps_ret (pe_tup (ac (pv 1) (ac pe_str pa_nil)))))
        pss_nil)
      (pss_one (ps_ret (cFn F__law_spoilt hr passes0 (ac (pv 0) (ac (pv 1) (ac (pe_op op_fdiv (pv 2) (pv 3)) pa_nil))))))), ?_⟩
  try (set_option simprocs false in dsimp only [cxOf])
  refine ⟨_, rfl, _, rfl, _, _, rfl, rfl, (by show 0 < o; omega), _, _, rfl, rfl, _, rfl, ite2 (fun _ => ?_) (fun _ => ?_)⟩
  · refine ⟨_, rfl, (by show 2 ≤ sizeLine; decide), fun p hp => ?_⟩
    have N := Same.new (o := .tup [.ref l, .str ""]) hp
    have h10 : (rests (kept ++ spare) n).length ≤ 20 := by have := B.2.k6; have := B.2.s4; rw [rests_length, List.length_append]; omega
    exact k p l _ "" _ N upd_same (N _ _ el) h10 (.inl ⟨rfl, rfl⟩)
  · exact ⟨_, rfl, _, rfl, _, rfl, _, rfl, _, _, rfl, rfl, ⟨by show 0 < o; omega, by show o < 1073741824; omega⟩, _, _, _, rfl, kept, spare, l, n, nb / o, B, rfl, rfl, el, hf, Int.ediv_nonneg nb0 (by omega), k⟩
structure Cs (K : PySem.W.Frag) (cR cT cB cW cD cP cA cU : Addr) : Prop where
  t : IsC K cR cT cB cW cD cP cA cU cT 0
  b : IsC K cR cT cB cW cD cP cA cU cB 1
  w : IsC K cR cT cB cW cD cP cA cU cW 2
  p : IsC K cR cT cB cW cD cP cA cU cP 4
  a : IsC K cR cT cB cW cD cP cA cU cA 5
theorem Cs.fig (G : Cs K cR cT cB cW cD cP cA cU) : WordC K cR cT cB cW cD cP cA cU "figure" cB := ⟨1, G.b, rfl⟩
theorem Cs.wrong (G : Cs K cR cT cB cW cD cP cA cU) : WordC K cR cT cB cW cD cP cA cU "wrong" cW := ⟨2, G.w, rfl⟩
theorem Cs.great (G : Cs K cR cT cB cW cD cP cA cU) : WordC K cR cT cB cW cD cP cA cU "great" cT := ⟨0, G.t, rfl⟩
theorem Cs.place (G : Cs K cR cT cB cW cD cP cA cU) : WordC K cR cT cB cW cD cP cA cU "place" cP := ⟨4, G.p, rfl⟩
theorem Cs.bas (G : Cs K cR cT cB cW cD cP cA cU) : WordC K cR cT cB cW cD cP cA cU "base" cA := ⟨5, G.a, rfl⟩
noncomputable abbrev s_refuse_bad_places : Stmt := top 18
theorem sc_refuse_bad_places : FnScope ["places", "count", "place"] ["places", "count"] (defScope s_refuse_bad_places) := ⟨rfl, rfl, rfl, by decide +kernel, rfl, by decide +kernel, by decide +kernel⟩
theorem b_refuse_bad_places : BindsAll "refuse_bad_places" s_refuse_bad_places ["places", "count"] := binds2 fun _ _ _ _ _ _ _ _ => rfl
theorem ok_places (D : Def K mg "refuse_bad_places" s_refuse_bad_places) (T : Txt K mg cR cT cB cW cD cP cA cU) : FnS P w K mg base "refuse_bad_places" ["places", "count"] 1 (sp_places cP) := by
  refine D.ok sc_refuse_bad_places b_refuse_bad_places sp2_len fun f cdv A outer s H vs Q E hr h => ?_
  obtain ⟨_, _, rfl, l, ps, count, rfl, rfl, el, h64, yes, no⟩ := h
  refine ⟨_, (pss_cons (ps_for own_pass rfl (pi_list (pv 0)) (pg_name (i := 2) sc_refuse_bad_places.nd rfl (Or.inl rfl))
        (pss_one (ps_if (pt_not (pt_chain op_le op_lt pe_int (pv 2) (pv 1)))
          (pss_one (ps_raise T.x_BadPlace T.BadPlace (ac pe_str pa_nil)))
          pss_nil)))
      (pss_one (ps_if (pt_cmpR op_ne (cBi call_len_setV (by rfl) T.len PyProof.Rows.Boot.«len» (ac (cTy (call_setL rfl) (by rfl) T.set PyProof.Rows.Boot.«set» (ac (pv 0) pa_nil)) pa_nil)) (cBi call0len (by rfl) T.len PyProof.Rows.Boot.«len» (ac (pv 0) pa_nil)) (nomark _))
        (pss_one (ps_raise T.x_BadPlace T.BadPlace (ac pe_str pa_nil)))
        pss_nil))), ?_⟩
  try (set_option simprocs false in dsimp only [cxOf])
  refine ⟨_, rfl, l, rfl, ⟨_, SqL.of el⟩, for_list (K := K) (xs := ps.map V.int) (fun i σ H' => ∃ y, σ = [some (.ref l), some (.int count), y] ∧ H' = H ∧ ∀ p ∈ ps.take i, 0 ≤ p ∧ p < count) ⟨none, rfl, rfl, fun p hp => absurd hp (by simp)⟩ (fun i σ H' _ ⟨_, _, e, _⟩ => by rw [e]; exact SqL.of el) ?_ ?_⟩
  · rintro i x σ _ hx ⟨y, rfl, rfl, U⟩
    obtain ⟨p, hp, rfl⟩ := ints_at hx
    have hm := List.mem_of_getElem? hp
    refine ⟨_, rfl, _, _, rfl, rfl, _, rfl, ?_⟩
    by_cases h0 : 0 ≤ p
    case neg =>
      rw [decide_eq_false h0]
      exact iteF ⟨_, rfl, iteT ⟨by decide, no (fun ok => h0 (ok.1 p hm).1) _ (Same.refl _)⟩⟩
    rw [decide_eq_true h0]
    refine iteT ⟨_, rfl, _, _, rfl, rfl, _, rfl, ?_⟩
    by_cases h1 : p < count
    case neg =>
      rw [decide_eq_false h1]
      exact iteT ⟨by decide, no (fun ok => h1 (ok.1 p hm).2) _ (Same.refl _)⟩
    rw [decide_eq_true h1]
    refine iteF ⟨_, rfl, rfl, fun q hq => ?_⟩
    rw [List.take_add_one, hp] at hq
    rcases List.mem_append.mp hq with z | z
    · exact U q z
    · have : q = p := by simpa using z
      rw [this]; exact ⟨h0, h1⟩
  · rintro σ _ ⟨y, rfl, rfl, U⟩
    rw [List.length_map, List.take_length] at U
    refine ⟨_, rfl, l, ps, rfl, SqL.of el, h64, fun a ha => ?_⟩
    have N := Same.new (o := .set (fun k => (onces ps).any (· == k)) (onces ps).length) ha
    refine ⟨a, _, _, rfl, upd_same, _, rfl, l, _, rfl, .inl (SqL.of (N _ _ el)), rfl, _, rfl, ?_⟩
    rw [List.length_map]
    by_cases hn : ps.Nodup
    · exact iteNS (by rw [(onces_len ps).mpr hn]) (yes ⟨U, hn⟩ _ N)
    · have hb : (!decide (V.int ((onces ps).length : Int) = V.int (ps.length : Int))) = true := by
        have : (onces ps).length ≠ ps.length := fun z => hn ((onces_len ps).mp z)
        simp only [V.int.injEq, Bool.not_eq_true', decide_eq_false_iff_not]
        omega
      rw [hb]
      exact iteT ⟨by decide, no (fun ok => hn ok.2) _ N⟩
noncomputable abbrev s__law_same : Stmt := top 44
theorem sc__law_same : FnScope ["_law_found", "_law_due_here"] ["_law_found", "_law_due_here"] (defScope s__law_same) := ⟨rfl, rfl, rfl, by decide +kernel, rfl, by decide +kernel, by decide +kernel⟩
theorem b__law_same : BindsAll "_law_same" s__law_same ["_law_found", "_law_due_here"] := binds2 fun _ _ _ _ _ _ _ _ => rfl
theorem atI_get {xs : List V} {i : Nat} {x : V} (h : xs[i]? = some x) : atI xs (0 + (i : Int)) = some x := by
  have hi := (List.getElem?_eq_some_iff.mp h).1
  unfold atI ixN
  rw [Int.zero_add, if_pos (Int.natCast_nonneg i), if_pos (by omega), Int.toNat_natCast]
  exact h
theorem kit_tl (K : PySem.W.Frag) : PySem.W.kitOne K (.type "tuple") (.type "list") = some false := by kernel_rfl
theorem kit_tlt (K : PySem.W.Frag) : PySem.W.kitAny K (.type "tuple") (["list", "tuple"].map Value.type) = some true := by kernel_rfl
theorem ok_same0 (D : Def K mg "_law_same" s__law_same) : FnS P w K mg base "_law_same" ["_law_found", "_law_due_here"] 1 (sp_sameN 0) :=
  D.ok sc__law_same b__law_same sp2_len fun f cdv A outer s H vs Q E hr h => by obtain ⟨_, _, _, h, _⟩ := h; cases h
theorem ok_sameS {n m : Nat} (D : Def K mg "_law_same" s__law_same) (T : Txt K mg cR cT cB cW cD cP cA cU) (F__law_same : FnS P w K mg base "_law_same" ["_law_found", "_law_due_here"] (m + 1) (sp_sameN n)) : FnS P w K mg base "_law_same" ["_law_found", "_law_due_here"] (m + 2) (sp_sameN (n + 1)) := by
  refine D.ok sc__law_same b__law_same sp2_len fun f cdv A outer s H vs Q E hr h => ?_
  obtain ⟨_, _, rfl, hsd, k⟩ := h
  have mapT : ∀ n : Nat, (List.range n).map (fun _ => V.bl true) = ((List.range n).map fun _ => true).map V.bl := fun n => by simp
  cases hsd with
  | int _ x =>
    refine ⟨_, (pss_cons (ps_if (pt_val (cBi call_isiT (by rfl) T.isinstance PyProof.Rows.Boot.«isinstance» (ac (pv 1) (ac (pe_tup (ac (pe_ty rfl T.list PyProof.Rows.Boot.«list») (ac (pe_ty rfl T.tuple PyProof.Rows.Boot.«tuple») pa_nil))) pa_nil))))
        (pss_cons (ps_if (PW.pt (pw_or (pt_cmpR op_ne (cBi call_isi (by rfl) T.isinstance PyProof.Rows.Boot.«isinstance» (ac (pv 1) (ac (pe_ty rfl T.list PyProof.Rows.Boot.«list») pa_nil))) (cBi call_isi (by rfl) T.isinstance PyProof.Rows.Boot.«isinstance» (ac (pv 0) (ac (pe_ty rfl T.list PyProof.Rows.Boot.«list») pa_nil))) (nomark _)) (pw_or1 (pt_cmpR op_ne (cBi call_isi (by rfl) T.isinstance PyProof.Rows.Boot.«isinstance» (ac (pv 1) (ac (pe_ty rfl T.tuple PyProof.Rows.Boot.«tuple») pa_nil))) (cBi call_isi (by rfl) T.isinstance PyProof.Rows.Boot.«isinstance» (ac (pv 0) (ac (pe_ty rfl T.tuple PyProof.Rows.Boot.«tuple») pa_nil))) (nomark _)))))
          (pss_one (ps_ret pe_bl))
          pss_nil)
        (pss_one (ps_ret (pe_and (pe_cmpR op_eq (cBi call0len (by rfl) T.len PyProof.Rows.Boot.«len» (ac (pv 0) pa_nil)) (cBi call0len (by rfl) T.len PyProof.Rows.Boot.«len» (ac (pv 1) pa_nil)) (nomark _)) (pe_one (cBi (call_all rfl) (by rfl) T.all PyProof.Rows.Boot.«all» (ac (pe_comp (lv := 1) (caps := [0, 1]) (N' := ["_law_k", "_law_found", "_law_due_here"]) rfl (CompOk.caps (sc := defScope s__law_same) rfl (by decide +kernel) (by decide +kernel) (by decide +kernel) rfl rfl (compcap2 rfl rfl rfl rfl rfl rfl)) (keep_name (by decide)) (pi_range1 rfl T.range (ac (cBi call0len (by rfl) T.len PyProof.Rows.Boot.«len» (ac (pv 1) pa_nil)) pa_nil)) (fun _ _ _ _ => pg_name (i := 0) (show (["_law_k", "_law_found", "_law_due_here"] : List Str).Nodup by decide +kernel) rfl (Or.inl rfl)) (fun _ _ _ _ => (cFn (hkk := Nat.le_refl _) F__law_same hr passes0 (ac (pe_ix ix0L (pv 1) (pv 0) (fun _ _ => rfl)) (ac (pe_ix ix0L (pv 2) (pv 0) (fun _ _ => rfl)) pa_nil))))) pa_nil)))))))
        pss_nil)
      (pss_one (ps_ret (pe_and (cBi call_isi (by rfl) T.isinstance PyProof.Rows.Boot.«isinstance» (ac (pv 0) (ac (pe_ty rfl T.int PyProof.Rows.Boot.«int») pa_nil))) (pe_and (pe_not (cBi call_isi (by rfl) T.isinstance PyProof.Rows.Boot.«isinstance» (ac (pv 0) (ac (pe_ty rfl T.bool PyProof.Rows.Boot.«bool») pa_nil)))) (pe_one (pe_cmpR op_eq (pv 0) (pv 1) (nomark _)))))))), ?_⟩
    try (set_option simprocs false in dsimp only [cxOf])
    refine ⟨_, rfl, (by show 2 ≤ sizeLine; decide), fun p hp => ?_⟩
    refine ⟨_, _, p, ["list", "tuple"], _, rfl, TyOf.int x, upd_same, kit_ilt K, _, rfl, iteF ?_⟩
    refine ⟨_, rfl, _, _, _, _, rfl, TyOf.int x, kit_ii K, _, rfl, iteT ⟨_, rfl, _, _, _, _, rfl, TyOf.int x, kit_ib K, _, rfl, _, rfl, iteT ⟨_, rfl, _, rfl, rfl, ?_⟩⟩⟩
    show Q (.bl (decide (V.int x = V.int x))) _
    rw [decide_eq_true rfl]
    exact k _ (Same.new hp)
  | @lst _ l1 l2 xs ys e1 e2 hl h100 hs =>
    refine ⟨_, (pss_cons (ps_if (pt_val (cBi call_isiT (by rfl) T.isinstance PyProof.Rows.Boot.«isinstance» (ac (pv 1) (ac (pe_tup (ac (pe_ty rfl T.list PyProof.Rows.Boot.«list») (ac (pe_ty rfl T.tuple PyProof.Rows.Boot.«tuple») pa_nil))) pa_nil))))
        (pss_cons (ps_if (PW.pt (pw_or (pt_cmpR op_ne (cBi call_isi (by rfl) T.isinstance PyProof.Rows.Boot.«isinstance» (ac (pv 1) (ac (pe_ty rfl T.list PyProof.Rows.Boot.«list») pa_nil))) (cBi call_isi (by rfl) T.isinstance PyProof.Rows.Boot.«isinstance» (ac (pv 0) (ac (pe_ty rfl T.list PyProof.Rows.Boot.«list») pa_nil))) (nomark _)) (pw_or1 (pt_cmpR op_ne (cBi call_isi (by rfl) T.isinstance PyProof.Rows.Boot.«isinstance» (ac (pv 1) (ac (pe_ty rfl T.tuple PyProof.Rows.Boot.«tuple») pa_nil))) (cBi call_isi (by rfl) T.isinstance PyProof.Rows.Boot.«isinstance» (ac (pv 0) (ac (pe_ty rfl T.tuple PyProof.Rows.Boot.«tuple») pa_nil))) (nomark _)))))
          (pss_one (ps_ret pe_bl))
          pss_nil)
        (pss_one (ps_ret (pe_and (pe_cmpR op_eq (cBi call0len (by rfl) T.len PyProof.Rows.Boot.«len» (ac (pv 0) pa_nil)) (cBi call0len (by rfl) T.len PyProof.Rows.Boot.«len» (ac (pv 1) pa_nil)) (nomark _)) (pe_one (cBi (call_all rfl) (by rfl) T.all PyProof.Rows.Boot.«all» (ac (pe_comp (lv := 1) (caps := [0, 1]) (N' := ["_law_k", "_law_found", "_law_due_here"]) rfl (CompOk.caps (sc := defScope s__law_same) rfl (by decide +kernel) (by decide +kernel) (by decide +kernel) rfl rfl (compcap2 rfl rfl rfl rfl rfl rfl)) (keep_name (by decide)) (pi_range1 rfl T.range (ac (cBi call0len (by rfl) T.len PyProof.Rows.Boot.«len» (ac (pv 1) pa_nil)) pa_nil)) (fun _ _ _ _ => pg_name (i := 0) (show (["_law_k", "_law_found", "_law_due_here"] : List Str).Nodup by decide +kernel) rfl (Or.inl rfl)) (fun _ _ _ _ => (cFn (hkk := Nat.le_refl _) F__law_same hr passes0 (ac (pe_ix ix0L (pv 1) (pv 0) (fun _ _ => rfl)) (ac (pe_ix ix0L (pv 2) (pv 0) (fun _ _ => rfl)) pa_nil))))) pa_nil)))))))
        pss_nil)
      (pss_one (ps_ret (pe_and (cBi call_isi (by rfl) T.isinstance PyProof.Rows.Boot.«isinstance» (ac (pv 0) (ac (pe_ty rfl T.int PyProof.Rows.Boot.«int») pa_nil))) (pe_and (pe_not (cBi call_isi (by rfl) T.isinstance PyProof.Rows.Boot.«isinstance» (ac (pv 0) (ac (pe_ty rfl T.bool PyProof.Rows.Boot.«bool») pa_nil)))) (pe_one (pe_cmpR op_eq (pv 0) (pv 1) (nomark _)))))))), ?_⟩
    try (set_option simprocs false in dsimp only [cxOf])
    refine ⟨_, rfl, (by show 2 ≤ sizeLine; decide), fun p hp => ?_⟩
    have N := Same.new (o := .tup (["list", "tuple"].map V.ty)) hp
    have a1 := N _ _ e1
    have a2 := N _ _ e2
    refine ⟨_, _, p, ["list", "tuple"], _, rfl, TyOf.lst a2, upd_same, kit_llt K, _, rfl, iteT ?_⟩
    refine ⟨_, rfl, _, _, _, _, rfl, TyOf.lst a2, kit_ll K, _, rfl, _, _, _, _, rfl, TyOf.lst a1, kit_ll K, rfl, _, rfl, iteNS rfl ?_⟩
    refine ⟨_, rfl, _, _, _, _, rfl, TyOf.lst a2, kit_lt K, _, rfl, _, _, _, _, rfl, TyOf.lst a1, kit_lt K, rfl, _, rfl, iteNS rfl ?_⟩
    refine ⟨_, rfl, l1, _, rfl, .inl (SqL.of a1), _, rfl, l2, _, rfl, .inl (SqL.of a2), rfl, _, rfl, ?_⟩
    rw [decide_eq_true (show V.int (xs.length : Int) = V.int (ys.length : Int) by rw [hl])]
    refine iteT ⟨_, rfl, l2, _, rfl, .inl (SqL.of a2), _, rfl, ?_, ?_, ?_⟩
    · exact Int.le_trans (by decide) (Int.natCast_nonneg _)
    · exact Int.lt_of_le_of_lt (show (ys.length : Int) ≤ 100 by omega) (by decide)
    rw [Int.toNat_natCast]
    refine comp_each (J := Itr 0 ys.length) ys.length (Nat.lt_of_le_of_lt (show ys.length ≤ 100 by omega) (by decide)) (fun _ => V.bl true) (fun i _ h _ => h) (fun _ _ => Nat.le_refl _) ?_ ?_
    · rintro i x H' H'' Q' hi S ⟨rfl, rfl⟩ q
      have gx := List.getElem?_eq_getElem (l := xs) (i := i) (by omega)
      have gy := List.getElem?_eq_getElem (l := ys) (i := i) hi
      exact ⟨_, rfl, _, rfl, l1, _, _, _, rfl, rfl, SqL.of (S _ _ a1), atI_get gx, _, rfl, _, rfl, l2, _, _, _, rfl, rfl, SqL.of (S _ _ a2), atI_get gy, _, _, rfl, (hs i _ _ gx gy).up (N.trans S), fun H2 S2 => q H2 S2⟩
    · intro Dd H' hD S e
      rw [mapT] at e
      refine ⟨Dd, _, rfl, SqL.of e, ?_⟩
      rw [show ((List.range ys.length).map fun _ => true).all id = true by simp]
      exact k H' (N.trans S)
  | @tup _ l1 l2 xs ys e1 e2 hl h100 hs =>
    refine ⟨_, (pss_cons (ps_if (pt_val (cBi call_isiT (by rfl) T.isinstance PyProof.Rows.Boot.«isinstance» (ac (pv 1) (ac (pe_tup (ac (pe_ty rfl T.list PyProof.Rows.Boot.«list») (ac (pe_ty rfl T.tuple PyProof.Rows.Boot.«tuple») pa_nil))) pa_nil))))
        (pss_cons (ps_if (PW.pt (pw_or (pt_cmpR op_ne (cBi call_isi (by rfl) T.isinstance PyProof.Rows.Boot.«isinstance» (ac (pv 1) (ac (pe_ty rfl T.list PyProof.Rows.Boot.«list») pa_nil))) (cBi call_isi (by rfl) T.isinstance PyProof.Rows.Boot.«isinstance» (ac (pv 0) (ac (pe_ty rfl T.list PyProof.Rows.Boot.«list») pa_nil))) (nomark _)) (pw_or1 (pt_cmpR op_ne (cBi call_isi (by rfl) T.isinstance PyProof.Rows.Boot.«isinstance» (ac (pv 1) (ac (pe_ty rfl T.tuple PyProof.Rows.Boot.«tuple») pa_nil))) (cBi call_isi (by rfl) T.isinstance PyProof.Rows.Boot.«isinstance» (ac (pv 0) (ac (pe_ty rfl T.tuple PyProof.Rows.Boot.«tuple») pa_nil))) (nomark _)))))
          (pss_one (ps_ret pe_bl))
          pss_nil)
        (pss_one (ps_ret (pe_and (pe_cmpR op_eq (cBi call0len (by rfl) T.len PyProof.Rows.Boot.«len» (ac (pv 0) pa_nil)) (cBi call0len (by rfl) T.len PyProof.Rows.Boot.«len» (ac (pv 1) pa_nil)) (nomark _)) (pe_one (cBi (call_all rfl) (by rfl) T.all PyProof.Rows.Boot.«all» (ac (pe_comp (lv := 1) (caps := [0, 1]) (N' := ["_law_k", "_law_found", "_law_due_here"]) rfl (CompOk.caps (sc := defScope s__law_same) rfl (by decide +kernel) (by decide +kernel) (by decide +kernel) rfl rfl (compcap2 rfl rfl rfl rfl rfl rfl)) (keep_name (by decide)) (pi_range1 rfl T.range (ac (cBi call0len (by rfl) T.len PyProof.Rows.Boot.«len» (ac (pv 1) pa_nil)) pa_nil)) (fun _ _ _ _ => pg_name (i := 0) (show (["_law_k", "_law_found", "_law_due_here"] : List Str).Nodup by decide +kernel) rfl (Or.inl rfl)) (fun _ _ _ _ => (cFn (hkk := Nat.le_refl _) F__law_same hr passes0 (ac (pe_ix ix0T (pv 1) (pv 0) (fun _ _ => rfl)) (ac (pe_ix ix0T (pv 2) (pv 0) (fun _ _ => rfl)) pa_nil))))) pa_nil)))))))
        pss_nil)
      (pss_one (ps_ret (pe_and (cBi call_isi (by rfl) T.isinstance PyProof.Rows.Boot.«isinstance» (ac (pv 0) (ac (pe_ty rfl T.int PyProof.Rows.Boot.«int») pa_nil))) (pe_and (pe_not (cBi call_isi (by rfl) T.isinstance PyProof.Rows.Boot.«isinstance» (ac (pv 0) (ac (pe_ty rfl T.bool PyProof.Rows.Boot.«bool») pa_nil)))) (pe_one (pe_cmpR (op_eqDK K hr.units) (pv 0) (pv 1) (nomark _)))))))), ?_⟩
    try (set_option simprocs false in dsimp only [cxOf])
    refine ⟨_, rfl, (by show 2 ≤ sizeLine; decide), fun p hp => ?_⟩
    have N := Same.new (o := .tup (["list", "tuple"].map V.ty)) hp
    have a1 := N _ _ e1
    have a2 := N _ _ e2
    refine ⟨_, _, p, ["list", "tuple"], _, rfl, TyOf.tup a2, upd_same, kit_tlt K, _, rfl, iteT ?_⟩
    refine ⟨_, rfl, _, _, _, _, rfl, TyOf.tup a2, kit_tl K, _, rfl, _, _, _, _, rfl, TyOf.tup a1, kit_tl K, rfl, _, rfl, iteNS rfl ?_⟩
    refine ⟨_, rfl, _, _, _, _, rfl, TyOf.tup a2, kit_tt K, _, rfl, _, _, _, _, rfl, TyOf.tup a1, kit_tt K, rfl, _, rfl, iteNS rfl ?_⟩
    refine ⟨_, rfl, l1, _, rfl, .inr (SqT.of a1), _, rfl, l2, _, rfl, .inr (SqT.of a2), rfl, _, rfl, ?_⟩
    rw [decide_eq_true (show V.int (xs.length : Int) = V.int (ys.length : Int) by rw [hl])]
    refine iteT ⟨_, rfl, l2, _, rfl, .inr (SqT.of a2), _, rfl, ?_, ?_, ?_⟩
    · exact Int.le_trans (by decide) (Int.natCast_nonneg _)
    · exact Int.lt_of_le_of_lt (show (ys.length : Int) ≤ 100 by omega) (by decide)
    rw [Int.toNat_natCast]
    refine comp_each (J := Itr 0 ys.length) ys.length (Nat.lt_of_le_of_lt (show ys.length ≤ 100 by omega) (by decide)) (fun _ => V.bl true) (fun i _ h _ => h) (fun _ _ => Nat.le_refl _) ?_ ?_
    · rintro i x H' H'' Q' hi S ⟨rfl, rfl⟩ q
      have gx := List.getElem?_eq_getElem (l := xs) (i := i) (by omega)
      have gy := List.getElem?_eq_getElem (l := ys) (i := i) hi
      exact ⟨_, rfl, _, rfl, l1, _, _, _, rfl, rfl, SqT.of (S _ _ a1), atI_get gx, _, rfl, _, rfl, l2, _, _, _, rfl, rfl, SqT.of (S _ _ a2), atI_get gy, _, _, rfl, (hs i _ _ gx gy).up (N.trans S), fun H2 S2 => q H2 S2⟩
    · intro Dd H' hD S e
      rw [mapT] at e
      refine ⟨Dd, _, rfl, SqL.of e, ?_⟩
      rw [show ((List.range ys.length).map fun _ => true).all id = true by simp]
      exact k H' (N.trans S)
noncomputable abbrev s__law_common : Stmt := top 50
theorem sc__law_common : FnScope ["_law_a", "_law_b"] ["_law_a", "_law_b"] (defScope s__law_common) := ⟨rfl, rfl, rfl, by decide +kernel, rfl, by decide +kernel, by decide +kernel⟩
theorem b__law_common : BindsAll "_law_common" s__law_common ["_law_a", "_law_b"] := binds2 fun _ _ _ _ _ _ _ _ => rfl
theorem ok_lcommon (D : Def K mg "_law_common" s__law_common) : FnS P w K mg base "_law_common" ["_law_a", "_law_b"] 1 sp_common := by
  refine D.ok sc__law_common b__law_common sp2_len fun f cdv A outer s H vs Q E hr h => ?_
  obtain ⟨_, _, rfl, x, y, rfl, rfl, hx, hy, k⟩ := h
  refine ⟨_, (pss_cons (ps_while own_pass (pt_cmpR op_gt (pv 1) pe_int (nomark _))
        (pss_one (ps_par (i := 0) (j := 1) rfl sc__law_common.nd rfl rfl (by decide) rfl rfl (ac (pv 1) (ac (pe_op op_mod (pv 0) (pv 1)) pa_nil)) rfl)))
      (pss_one (ps_ret (pv 0)))), ?_⟩
  try (set_option simprocs false in dsimp only [cxOf])
  refine ⟨fun m σ H' => ∃ g l : Int, σ = [some (.int g), some (.int l)] ∧ H' = H ∧ 0 ≤ g ∧ 0 ≤ l ∧ Int.gcd g l = Int.gcd x y ∧ m = l.toNat, ⟨_, x, y, rfl, rfl, hx, hy, rfl, rfl⟩, ?_⟩
  rintro m σ _ ⟨g, l, rfl, rfl, hg, hl, e, rfl⟩
  refine ⟨_, rfl, _, _, rfl, rfl, _, rfl, ?_⟩
  by_cases h0 : (0 : Int) < l
  · rw [decide_eq_true h0]
    refine iteT ⟨_, fun _ _ h => h, ?_⟩
    have h1 := Int.emod_nonneg g (show l ≠ 0 by omega)
    have h2 := Int.emod_lt_of_pos g h0
    exact ⟨_, rfl, _, rfl, _, rfl, _, _, rfl, rfl, h0, _, _, rfl, _, by omega, l, g % l, rfl, rfl, hl, h1, by rw [← e]; exact (gcd_step g l).symm, rfl⟩
  · rw [decide_eq_false h0]
    refine iteF ⟨_, rfl, ?_⟩
    have hl0 : l = 0 := by omega
    have : ((Int.gcd x y : Nat) : Int) = g := by rw [← e, hl0, Int.gcd_zero_right]; omega
    rw [this] at k
    exact k
noncomputable abbrev s_put_in : Stmt := top 34
theorem sc_put_in : FnScope ["base", "figure", "kept", "spare", "number", "wider"] ["base", "figure", "kept", "spare"] (defScope s_put_in) := ⟨rfl, rfl, rfl, by decide +kernel, rfl, by decide +kernel, by decide +kernel⟩
theorem b_put_in : BindsAll "put_in" s_put_in ["base", "figure", "kept", "spare"] := binds4 fun _ _ _ _ _ _ _ _ _ _ => rfl
theorem ok_put (D : Def K mg "put_in" s_put_in) (T : Txt K mg cR cT cB cW cD cP cA cU) (G : Cs K cR cT cB cW cD cP cA cU) (F_number_of : FnS P w K mg base "number_of" ["base", "figure"] 45 (sp_number_of cB cW)) (F_base_of : FnS P w K mg base "base_of" ["kept", "spare"] 3 (sp_base_of cA)) (F_figure_of : FnS P w K mg base "figure_of" ["base", "number"] 5 (sp_figure cT)) :
    FnS P w K mg base "put_in" ["base", "figure", "kept", "spare"] 46 (sp_put2 (WordC K cR cT cB cW cD cP cA cU)) := by
  refine D.ok sc_put_in b_put_in sp4_len fun f cdv A outer s H vs Q E hr h => ?_
  obtain ⟨_, _, _, _, rfl, kept, spare, kk, ss, n, w', lk, ls, B, ⟨l, ns, rfl, el, _, hf, F1⟩, rfl, ek, rfl, es, k20, s20, k, kE⟩ := h
  refine ⟨_, (pss_cons (ps_set (i := 4) sc_put_in.nd rfl (Or.inl rfl) (cFn F_number_of hr passes1 (ac (pv 0) (ac (pv 1) pa_nil))))
      (pss_cons (ps_set (i := 5) sc_put_in.nd rfl (Or.inl rfl) (cFn F_base_of hr passes1 (ac (pe_op op0catS (cTy call0list (by rfl) T.list PyProof.Rows.Boot.«list» (ac (pe_ix ix0T (pv 0) pe_int (fun _ _ => rfl)) pa_nil)) (pv 2)) (ac (pe_op op0catS (cTy call0list (by rfl) T.list PyProof.Rows.Boot.«list» (ac (pe_ix ix0T (pv 0) pe_int (fun _ _ => rfl)) pa_nil)) (pv 3)) pa_nil))))
      (pss_one (ps_ret (pe_tup (ac (pv 5) (ac (cFn F_figure_of hr passes1 (ac (pv 5) (ac (pv 4) pa_nil))) pa_nil))))))), ?_⟩
  try (set_option simprocs false in dsimp only [cxOf])
  obtain ⟨⟨t, rfl, hb⟩, gb⟩ := id B
  obtain ⟨t1, t2, e0, e1, e2⟩ := hb.ex
  have s300 : (300 : Nat) ≤ sizeLine := by decide
  have k6 := gb.k6
  have s4 := gb.s4
  refine ⟨_, rfl, _, rfl, num_word B el hf F1 (fun hw H1 S1 => ?_) (fun hw H1 S1 => kE "figure" cB (hw ▸ .word (by rw [hw]; decide)) (by decide) G.fig H1 S1) (fun hw H1 S1 => kE "wrong" cW (hw ▸ .word (by rw [hw]; decide)) (by decide) G.wrong H1 S1)⟩
  refine ⟨_, rfl, t, _, _, _, rfl, rfl, SqT.of (S1 _ _ e0), rfl, t1, _, rfl, .inr (SqT.of (S1 _ _ e1)), fun p1 f1 => ?_⟩
  have N1 := Same.new (o := .lst (kept.map V.int)) f1
  refine ⟨_, rfl, p1, lk, _, _, rfl, rfl, SqL.of upd_same, SqL.of ((S1.trans N1) _ _ ek), (by rw [List.length_map, List.length_map]; omega), fun p2 f2 => ?_⟩
  rw [← List.map_append]
  have N2 := Same.new (o := .lst ((kept ++ kk).map V.int)) f2
  have A2 := S1.trans (N1.trans N2)
  refine ⟨_, rfl, t, _, _, _, rfl, rfl, SqT.of (A2 _ _ e0), rfl, t2, _, rfl, .inr (SqT.of (A2 _ _ e2)), fun p3 f3 => ?_⟩
  have N3 := Same.new (o := .lst (spare.map V.int)) f3
  refine ⟨_, rfl, p3, ls, _, _, rfl, rfl, SqL.of upd_same, SqL.of ((A2.trans N3) _ _ es), (by rw [List.length_map, List.length_map]; omega), fun p4 f4 => ?_⟩
  rw [← List.map_append]
  have N4 := Same.new (o := .lst ((spare ++ ss).map V.int)) f4
  have A4 := A2.trans (N3.trans N4)
  refine ⟨_, _, rfl, p2, p4, kept ++ kk, spare ++ ss, rfl, rfl, (N3.trans N4) _ _ upd_same, upd_same, (by rw [List.length_append]; omega), (by rw [List.length_append]; omega), fun gw tw H3 S3 htw hw3 => ?_, fun z H3 S3 => kE "base" cA (.base hw rfl z) (by decide) G.bas H3 (A4.trans S3)⟩
  have A3 := A4.trans S3
  have hfw : Fits (kept ++ kk) n := hf.wide gb.span fun d hd => (gw.rng d (List.mem_append_left _ (List.mem_append_right _ hd))).1
  refine ⟨_, rfl, _, rfl, _, rfl, _, _, rfl, kept ++ kk, spare ++ ss, n, ⟨⟨tw, rfl, hw3⟩, gw⟩, rfl, fun _ lf H4 S4 hlf elf => ⟨(by show 2 ≤ sizeLine; decide), fun tt ft => ?_⟩, fun z => absurd hfw z⟩
  have N5 := Same.new (o := .tup [.ref tw, .ref lf]) ft
  exact k _ _ (A3.trans (S4.trans N5)) (.ok hw rfl gw hfw) (.yes tt tw lf gw upd_same (hw3.up (S4.trans N5)) (N5 _ _ elf) (A3.free hlf))
noncomputable abbrev s_taken_out : Stmt := top 35
theorem sc_taken_out : FnScope ["base", "figure", "places", "number", "divisors", "first_spare", "kept", "spare", "narrower"] ["base", "figure", "places"] (defScope s_taken_out) := ⟨rfl, rfl, rfl, by decide +kernel, rfl, by decide +kernel, by decide +kernel⟩
theorem b_taken_out : BindsAll "taken_out" s_taken_out ["base", "figure", "places"] := binds3 fun _ _ _ _ _ _ _ _ _ => rfl
theorem ok_taken (D : Def K mg "taken_out" s_taken_out) (T : Txt K mg cR cT cB cW cD cP cA cU) (G : Cs K cR cT cB cW cD cP cA cU) (F_number_of : FnS P w K mg base "number_of" ["base", "figure"] 45 (sp_number_of cB cW)) (F_divisors_of : FnS P w K mg base "divisors_of" ["base"] 1 sp_divs) (F_refuse_bad_places : FnS P w K mg base "refuse_bad_places" ["places", "count"] 1 (sp_places cP)) (F_base_of : FnS P w K mg base "base_of" ["kept", "spare"] 3 (sp_base_of cA)) (F_figure_of : FnS P w K mg base "figure_of" ["base", "number"] 5 (sp_figure cT)) :
    FnS P w K mg base "taken_out" ["base", "figure", "places"] 46 (sp_taken2 (WordC K cR cT cB cW cD cP cA cU)) := by
  refine D.ok sc_taken_out b_taken_out sp3_len fun f cdv A outer s H vs Q E hr h => ?_
  obtain ⟨_, _, _, rfl, kept, spare, k', s', m, w', fa, lp, ps, B, ⟨l, ns, rfl, el, _, hf, F1⟩, rfl, elp, h64, hk', hs', hfa, k, kE⟩ := h
  refine ⟨_, (pss_cons (ps_set (i := 3) sc_taken_out.nd rfl (Or.inl rfl) (cFn F_number_of hr passes1 (ac (pv 0) (ac (pv 1) pa_nil))))
      (pss_cons (ps_set (i := 4) sc_taken_out.nd rfl (Or.inr rfl) (cFn F_divisors_of hr passes0 (ac (pv 0) pa_nil)))
      (pss_cons (ps_expr (cFn F_refuse_bad_places hr passes1 (ac (pv 2) (ac (cBi call0len (by rfl) T.len PyProof.Rows.Boot.«len» (ac (pv 4) pa_nil)) pa_nil))))
      (pss_cons (ps_set (i := 5) sc_taken_out.nd rfl (Or.inl rfl) (cBi call0len (by rfl) T.len PyProof.Rows.Boot.«len» (ac (pe_ix ix0T (pv 0) pe_int (fun _ _ => rfl)) pa_nil)))
      (pss_cons (ps_setF (i := 6) (lv := 1) (caps := [4, 2]) (N' := ["place", "divisors", "places"]) (xe := fun _ _ _ _ _ _ => False) (fun _ _ _ _ _ _ _ _ _ _ _ _ _ z => z.elim) sc_taken_out.nd rfl (Or.inl rfl) rfl (CompOk.caps (sc := defScope s_taken_out) rfl (by decide +kernel) (by decide +kernel) (by decide +kernel) rfl rfl (compcap2 rfl rfl rfl rfl rfl rfl)) (keep_name (by decide)) (pi_range1 rfl T.range (ac (pv 5) pa_nil)) (fun _ _ _ _ => pg_name (i := 0) (show (["place", "divisors", "places"] : List Str).Nodup by decide +kernel) rfl (Or.inl rfl)) (fun _ _ _ _ => (pt_cmpR op0notIn (pv 0) (pv 2) (by with_unfolding_all rfl))) (fun _ _ _ _ => (pe_ix ix0T (pv 1) (pv 0) (fun _ _ => rfl))))
      (pss_cons (ps_setF (i := 7) (lv := 1) (caps := [4, 2]) (N' := ["place", "divisors", "places"]) (xe := fun _ _ _ _ _ _ => False) (fun _ _ _ _ _ _ _ _ _ _ _ _ _ z => z.elim) sc_taken_out.nd rfl (Or.inl rfl) rfl (CompOk.caps (sc := defScope s_taken_out) rfl (by decide +kernel) (by decide +kernel) (by decide +kernel) rfl rfl (compcap2 rfl rfl rfl rfl rfl rfl)) (keep_name (by decide)) (pi_range2 rfl T.range (ac (pv 5) (ac (cBi call0len (by rfl) T.len PyProof.Rows.Boot.«len» (ac (pv 4) pa_nil)) pa_nil))) (fun _ _ _ _ => pg_name (i := 0) (show (["place", "divisors", "places"] : List Str).Nodup by decide +kernel) rfl (Or.inl rfl)) (fun _ _ _ _ => (pt_cmpR op0notIn (pv 0) (pv 2) (by with_unfolding_all rfl))) (fun _ _ _ _ => (pe_ix ix0T (pv 1) (pv 0) (fun _ _ => rfl))))
      (pss_cons (ps_set (i := 8) sc_taken_out.nd rfl (Or.inl rfl) (cFn F_base_of hr passes1 (ac (pv 6) (ac (pv 7) pa_nil))))
      (pss_one (ps_ret (pe_tup (ac (pv 8) (ac (cFn F_figure_of hr passes1 (ac (pv 8) (ac (pv 3) pa_nil))) pa_nil)))))))))))), ?_⟩
  try (set_option simprocs false in dsimp only [cxOf])
  obtain ⟨⟨t, rfl, hb⟩, gb⟩ := id B
  obtain ⟨t1, t2, e0, e1, e2⟩ := hb.ex
  have s30 : (300 : Nat) ≤ sizeLine := by decide
  have k6 := gb.k6
  have s4 := gb.s4
  have la : (kept ++ spare).length = kept.length + spare.length := List.length_append
  refine ⟨_, rfl, _, rfl, num_word B el hf F1 (fun hw H1 S1 => ?_) (fun hw H1 S1 => kE "figure" cB (hw ▸ .word (by rw [hw]; decide)) (by decide) G.fig H1 S1) (fun hw H1 S1 => kE "wrong" cW (hw ▸ .word (by rw [hw]; decide)) (by decide) G.wrong H1 S1)⟩
  refine ⟨_, rfl, _, rfl, kept, spare, B.up S1, fun p H2 S2 ep => ?_⟩
  have A2 := S1.trans S2
  refine ⟨_, rfl, _, rfl, p, _, rfl, .inr (SqT.of ep), _, _, rfl, lp, ps, _, rfl, rfl, A2 _ _ elp, h64, fun hpl H3 S3 => ?_, fun z H3 S3 => ?_⟩
  rotate_left
  · rw [List.length_map] at z
    rcases hfa with ⟨_, y⟩ | ⟨y, _⟩
    · exact absurd y z
    · exact kE "place" cP (y ▸ .fault hw (by rw [y]; decide)) (by decide) G.place H3 (A2.trans S3)
  rw [List.length_map] at hpl
  have hfa0 : fa = "" := by
    rcases hfa with ⟨y, _⟩ | ⟨_, y⟩
    · exact y
    · exact absurd hpl y
  have A3 := A2.trans S3
  have ep3 := S3 _ _ ep
  have elp3 := A3 _ _ elp
  refine ⟨_, rfl, t, _, _, _, rfl, rfl, SqT.of (A3 _ _ e0), rfl, t1, _, rfl, .inr (SqT.of (A3 _ _ e1)), ?_⟩
  rw [List.length_map]
  generalize hall : kept ++ spare = all at *
  refine ⟨_, rfl, _, rfl, (by show -(2 ^ 62) ≤ (kept.length : Int); omega), (by show (kept.length : Int) < 2 ^ 62; omega), comp_RF (lo := 0) _ (by rw [Int.toNat_natCast]; omega) (fun x => !decide (x ∈ ps)) (fun x => V.int (all.getD x.toNat 0)) ?_ ?_⟩
  · intro j hj H' Q' R S yes no
    rw [Int.toNat_natCast] at hj
    refine ⟨_, rfl, _, rfl, lp, ps.map V.int, rfl, .inl (SqL.of (S _ _ elp3)), rfl, flat_ints ps, _, rfl, ?_⟩
    show if (!inV (V.int (0 + (j : Int))) (ps.map V.int)) = true then _ else _
    rw [in_ints]
    by_cases hm : 0 + (j : Int) ∈ ps
    · rw [decide_eq_true hm]
      exact iteF (no (by rw [decide_eq_true hm]; rfl) H' (Same.refl _))
    · rw [decide_eq_false hm]
      exact iteT ⟨_, rfl, _, rfl, p, _, _, _, rfl, rfl, SqT.of (S _ _ ep3), atI_ints (by omega) (by omega), yes (by rw [decide_eq_false hm]; rfl) H' (Same.refl _)⟩
  intro lk H4 hlk S4 elk
  have elk : H4 lk = some (.lst (k'.map V.int)) := by rw [elk, Int.toNat_natCast, ← hk']; unfold keepOf; rw [List.map_map]; rfl
  have ep4 := S4 _ _ ep3
  have elp4 := S4 _ _ elp3
  refine ⟨_, rfl, _, rfl, p, _, rfl, .inr (SqT.of ep4), _, _, rfl, ⟨(by show -(2 ^ 62) ≤ (kept.length : Int); omega), (by show (kept.length : Int) < 2 ^ 62; omega), (by show -(2 ^ 62) ≤ ((all.map V.int).length : Int); omega), (by show ((all.map V.int).length : Int) < 2 ^ 62; rw [List.length_map]; omega)⟩, ?_⟩
  rw [List.length_map, show ((all.length : Int) - (kept.length : Int)).toNat = spare.length by omega]
  refine comp_RF (lo := (kept.length : Int)) _ (by omega) (fun x => !decide (x ∈ ps)) (fun x => V.int (all.getD x.toNat 0)) ?_ ?_
  · intro j hj H' Q' R S yes no
    refine ⟨_, rfl, _, rfl, lp, ps.map V.int, rfl, .inl (SqL.of (S _ _ elp4)), rfl, flat_ints ps, _, rfl, ?_⟩
    show if (!inV (V.int ((kept.length : Int) + (j : Int))) (ps.map V.int)) = true then _ else _
    rw [in_ints]
    by_cases hm : (kept.length : Int) + (j : Int) ∈ ps
    · rw [decide_eq_true hm]
      exact iteF (no (by rw [decide_eq_true hm]; rfl) H' (Same.refl _))
    · rw [decide_eq_false hm]
      exact iteT ⟨_, rfl, _, rfl, p, _, _, _, rfl, rfl, SqT.of (S _ _ ep4), atI_ints (by omega) (by omega), yes (by rw [decide_eq_false hm]; rfl) H' (Same.refl _)⟩
  intro ls H5 hls S5 els
  have els : H5 ls = some (.lst (s'.map V.int)) := by rw [els, ← hs']; unfold keepOf; rw [List.map_map]; rfl
  have lk' : k'.length ≤ kept.length := by rw [← hk']; exact keep_len
  have ls' : s'.length ≤ spare.length := by rw [← hs']; exact keep_len
  have A5 := A3.trans (S4.trans S5)
  refine ⟨_, rfl, _, rfl, _, _, rfl, lk, ls, k', s', rfl, rfl, S5 _ _ elk, els, by omega, by omega, fun gw tw H6 S6 htw hw6 => ?_, fun z H6 S6 => kE "base" cA (.base hw hfa0 z) (by decide) G.bas H6 (A5.trans S6)⟩
  have A6 := A3.trans (S4.trans (S5.trans S6))
  refine ⟨_, rfl, _, rfl, _, rfl, _, _, rfl, k', s', m, ⟨⟨tw, rfl, hw6⟩, gw⟩, rfl, fun hx lf H7 S7 hlf elf => ⟨(by show 2 ≤ sizeLine; decide), fun tt ft => ?_⟩, fun hx H7 S7 => kE "great" cT (.great hw hfa0 gw hx) (by decide) G.great H7 (A6.trans S7)⟩
  have N5 := Same.new (o := .tup [.ref tw, .ref lf]) ft
  exact k _ _ (A6.trans (S7.trans N5)) (.ok hw hfa0 gw hx) (.yes tt tw lf gw upd_same (hw6.up (S7.trans N5)) (N5 _ _ elf) (A6.free hlf))
noncomputable abbrev s__law_put : Stmt := top 52
theorem sc__law_put : FnScope ["_law_base", "_law_figure_here", "_law_kept", "_law_spare", "_law_found", "_law_told", "e"] ["_law_base", "_law_figure_here", "_law_kept", "_law_spare"] (defScope s__law_put) := ⟨rfl, rfl, rfl, by decide +kernel, rfl, by decide +kernel, by decide +kernel⟩
theorem b__law_put : BindsAll "_law_put" s__law_put ["_law_base", "_law_figure_here", "_law_kept", "_law_spare"] := binds4 fun _ _ _ _ _ _ _ _ _ _ => rfl
theorem ok_lput (D : Def K mg "_law_put" s__law_put) (T : Txt K mg cR cT cB cW cD cP cA cU) (F_put_in : FnS P w K mg base "put_in" ["base", "figure", "kept", "spare"] 46 (sp_put2 (WordC K cR cT cB cW cD cP cA cU))) (F__law_class : FnM P w K mg base "_law_class" ["_law_caught"] 1 (sp_class K cR cT cB cW cD cP cA cU)) :
    FnS P w K mg base "_law_put" ["_law_base", "_law_figure_here", "_law_kept", "_law_spare"] 47 sp_lput := by
  refine D.ok sc__law_put b__law_put sp4_len fun f cdv A outer s H vs Q E hr h => ?_
  obtain ⟨_, _, _, _, rfl, kept, spare, kk, ss, n, w', lk, ls, B, FI, rfl, ek, rfl, es, k20, s20, k⟩ := h
  refine ⟨_, (pss_cons (ps_set (i := 4) sc__law_put.nd rfl (Or.inl rfl) pe_non)
      (pss_cons (ps_set (i := 5) sc__law_put.nd rfl (Or.inl rfl) pe_str)
      (pss_cons (ps_try own_cx (psxs_one (psx_set (i := 4) sc__law_put.nd rfl (Or.inl rfl) (xFn own_cx F_put_in hr (ac (pv 0) (ac (pv 1) (ac (pv 2) (ac (pv 3) pa_nil)))))))
        (ph_as (i := 6) own_cx T.RestError sc__law_put.nd rfl rfl (fun _ => (pss_one (ps_set (i := 5) sc__law_put.nd rfl (Or.inl rfl) (cFnM F__law_class (hr.marked _) (ac (pv 6) pa_nil))))) ph_nil))
      (pss_one (ps_ret (pe_tup (ac (pv 5) (ac (pv 4) pa_nil)))))))), ?_⟩
  try (set_option simprocs false in dsimp only [cxOf])
  have two : ∀ {a : V} {b : V}, ([a, b] : List V).length ≤ sizeLine := fun {_ _} => by show 2 ≤ sizeLine; decide
  refine ⟨_, rfl, _, rfl, _, rfl, _, rfl, _, _, _, _, rfl, kept, spare, kk, ss, n, w', lk, ls, B, FI, rfl, ek, rfl, es, k20, s20, fun v H1 S1 m mv => ?_, fun x c m hx hc H1 S1 => ?_⟩
  · refine ⟨_, rfl, _, rfl, two, fun t ft => ?_⟩
    have M := Same.new (o := .tup [.str "", v]) ft
    exact k t "" v _ (S1.trans M) upd_same m (mv.up M)
  · obtain ⟨j, hj, hw⟩ := hc
    refine .inl ⟨hj.r, c, rfl, fun ea hea => ⟨_, rfl, _, rfl, ea, c, j, x, rfl, upd_same, hj, hw, fun H2 S2 => ?_⟩⟩
    refine ⟨_, rfl, _, rfl, two, fun t ft => ?_⟩
    have M := Same.new (o := .tup [.str x, .non]) ft
    exact k t x .non _ (S1.trans ((Same.new (o := .ext (exPhi ea c)) hea).trans (S2.trans M))) upd_same m (.no hx)
noncomputable abbrev s__law_out : Stmt := top 53
theorem sc__law_out : FnScope ["_law_base", "_law_figure_here", "_law_places_here", "_law_found", "_law_told", "e"] ["_law_base", "_law_figure_here", "_law_places_here"] (defScope s__law_out) := ⟨rfl, rfl, rfl, by decide +kernel, rfl, by decide +kernel, by decide +kernel⟩
theorem b__law_out : BindsAll "_law_out" s__law_out ["_law_base", "_law_figure_here", "_law_places_here"] := binds3 fun _ _ _ _ _ _ _ _ _ => rfl
theorem ok_lout (D : Def K mg "_law_out" s__law_out) (T : Txt K mg cR cT cB cW cD cP cA cU) (F_taken_out : FnS P w K mg base "taken_out" ["base", "figure", "places"] 46 (sp_taken2 (WordC K cR cT cB cW cD cP cA cU))) (F__law_class : FnM P w K mg base "_law_class" ["_law_caught"] 1 (sp_class K cR cT cB cW cD cP cA cU)) :
    FnS P w K mg base "_law_out" ["_law_base", "_law_figure_here", "_law_places_here"] 47 sp_lout := by
  refine D.ok sc__law_out b__law_out sp3_len fun f cdv A outer s H vs Q E hr h => ?_
  obtain ⟨_, _, _, rfl, kept, spare, k', s', n, w', fa, lp, ps, B, FI, rfl, elp, h64, hk', hs', hfa, k⟩ := h
  refine ⟨_, (pss_cons (ps_set (i := 3) sc__law_out.nd rfl (Or.inl rfl) pe_non)
      (pss_cons (ps_set (i := 4) sc__law_out.nd rfl (Or.inl rfl) pe_str)
      (pss_cons (ps_try own_cx (psxs_one (psx_set (i := 3) sc__law_out.nd rfl (Or.inl rfl) (xFn own_cx F_taken_out hr (ac (pv 0) (ac (pv 1) (ac (pv 2) pa_nil))))))
        (ph_as (i := 5) own_cx T.RestError sc__law_out.nd rfl rfl (fun _ => (pss_one (ps_set (i := 4) sc__law_out.nd rfl (Or.inl rfl) (cFnM F__law_class (hr.marked _) (ac (pv 5) pa_nil))))) ph_nil))
      (pss_one (ps_ret (pe_tup (ac (pv 4) (ac (pv 3) pa_nil)))))))), ?_⟩
  try (set_option simprocs false in dsimp only [cxOf])
  have two : ∀ {a : V} {b : V}, ([a, b] : List V).length ≤ sizeLine := fun {_ _} => by show 2 ≤ sizeLine; decide
  refine ⟨_, rfl, _, rfl, _, rfl, _, _, _, rfl, kept, spare, k', s', n, w', fa, lp, ps, B, FI, rfl, elp, h64, hk', hs', hfa, fun v H1 S1 m mv => ?_, fun x c m hx hc H1 S1 => ?_⟩
  · refine ⟨_, rfl, _, rfl, two, fun t ft => ?_⟩
    have M := Same.new (o := .tup [.str "", v]) ft
    exact k t "" v _ (S1.trans M) upd_same m (mv.up M)
  · obtain ⟨j, hj, hw⟩ := hc
    refine .inl ⟨hj.r, c, rfl, fun ea hea => ⟨_, rfl, _, rfl, ea, c, j, x, rfl, upd_same, hj, hw, fun H2 S2 => ?_⟩⟩
    refine ⟨_, rfl, _, rfl, two, fun t ft => ?_⟩
    have M := Same.new (o := .tup [.str x, .non]) ft
    exact k t x .non _ (S1.trans ((Same.new (o := .ext (exPhi ea c)) hea).trans (S2.trans M))) upd_same m (.no hx)
noncomputable abbrev s__law_is_base : Stmt := top 51
theorem sc__law_is_base : FnScope ["_law_kept", "_law_spare", "_law_both", "_law_k", "_law_one"] ["_law_kept", "_law_spare"] (defScope s__law_is_base) := ⟨rfl, rfl, rfl, by decide +kernel, rfl, by decide +kernel, by decide +kernel⟩
theorem b__law_is_base : BindsAll "_law_is_base" s__law_is_base ["_law_kept", "_law_spare"] := binds2 fun _ _ _ _ _ _ _ _ => rfl
theorem ok_isbase (D : Def K mg "_law_is_base" s__law_is_base) (T : Txt K mg cR cT cB cW cD cP cA cU) (F__law_common : FnS P w K mg base "_law_common" ["_law_a", "_law_b"] 1 sp_common) : FnS P w K mg base "_law_is_base" ["_law_kept", "_law_spare"] 2 sp_isbase := by
  refine D.ok sc__law_is_base b__law_is_base sp2_len fun f cdv A outer s H vs Q E hr h => ?_
  obtain ⟨_, _, rfl, tk, ts, kept, spare, rfl, rfl, hk, hs, k30, s30, k⟩ := h
  refine ⟨_, (pss_cons (ps_set (i := 2) sc__law_is_base.nd rfl (Or.inl rfl) (pe_op op0catS (cTy call0list (by rfl) T.list PyProof.Rows.Boot.«list» (ac (pv 0) pa_nil)) (cTy call0list (by rfl) T.list PyProof.Rows.Boot.«list» (ac (pv 1) pa_nil))))
      (pss_cons (ps_if (PW.pt (pw_or (pt_not (pt_chain op_le op_le pe_int (cBi call0len (by rfl) T.len PyProof.Rows.Boot.«len» (ac (pv 0) pa_nil)) pe_int)) (pw_or1 (pt_cmpR op_gt (cBi call0len (by rfl) T.len PyProof.Rows.Boot.«len» (ac (pv 1) pa_nil)) pe_int (nomark _)))))
        (pss_one (ps_ret pe_bl))
        pss_nil)
      (pss_cons (ps_for own_pass rfl (pi_enum rfl T.enumerate (ac (pv 2) pa_nil)) (pg_tup (n := 2) rfl (pgs_cons (pg_name (i := 3) sc__law_is_base.nd rfl (Or.inl rfl)) (pgs_cons (pg_name (i := 4) sc__law_is_base.nd rfl (Or.inr rfl)) pgs_nil)))
        (pss_one (ps_if (PW.pt (pw_or (pt_not (pt_chain op_le op_le pe_int (pv 4) (pe_op op_pow pe_int pe_int))) (pw_or1 (pt_cmpR op0in pe_bl (pe_comp (lv := 1) (caps := [4]) (N' := ["_law_other", "_law_one"]) rfl (CompOk.caps (sc := defScope s__law_is_base) rfl (by decide +kernel) (by decide +kernel) (by decide +kernel) rfl rfl (compcap1 rfl rfl rfl)) (keep_name (by decide)) (pi_list (pe_slice sl0L (pv 2) po_none (po_some (pv 3)))) (fun _ _ _ _ => pg_name (i := 0) (show (["_law_other", "_law_one"] : List Str).Nodup by decide +kernel) rfl (Or.inl rfl)) (fun _ _ _ _ => (pe_cmpR op_gt (cFn F__law_common hr passes0 (ac (pv 1) (ac (pv 0) pa_nil))) pe_int (nomark _)))) (by with_unfolding_all rfl)))))
          (pss_one (ps_ret pe_bl))
          pss_nil)))
      (pss_one (ps_ret (pe_or (pe_cmpR op_eq (cBi call0len (by rfl) T.len PyProof.Rows.Boot.«len» (ac (pv 1) pa_nil)) pe_int (nomark _)) (pe_one (pe_cmpR op_lt (cBi (call_maxT rfl) (by rfl) T.max PyProof.Rows.Boot.«max» (ac (pv 0) pa_nil)) (cBi (call_minT rfl) (by rfl) T.min PyProof.Rows.Boot.«min» (ac (pv 1) pa_nil)) (nomark _))))))))), ?_⟩
  try (set_option simprocs false in dsimp only [cxOf])
  have s300 : (300 : Nat) ≤ sizeLine := by decide
  have no : ∀ {H' : Hp}, Same H H' → ¬ GoodBase kept spare → Q (.bl false) H' := fun S h => k false _ ⟨fun z => (nomatch z), fun g => absurd g h⟩ S
  refine ⟨_, rfl, tk, _, rfl, .inr hk, fun l1 g1 => ?_⟩
  have N1 := Same.new (o := .lst (kept.map V.int)) g1
  refine ⟨_, rfl, ts, _, rfl, .inr (hs.up N1), fun l2 g2 => ?_⟩
  have N2 := Same.new (o := .lst (spare.map V.int)) g2
  refine ⟨l1, l2, _, _, rfl, rfl, SqL.of (N2 _ _ upd_same), SqL.of upd_same, (by rw [List.length_map, List.length_map]; omega), fun l3 g3 => ?_⟩
  rw [← List.map_append]
  have N3 := Same.new (o := .lst ((kept ++ spare).map V.int)) g3
  have S1 := N1.trans (N2.trans N3)
  have e3 := (upd_same : upd (upd (upd H l1 (.lst (kept.map V.int))) l2 (.lst (spare.map V.int))) l3 (.lst ((kept ++ spare).map V.int)) l3 = _)
  have hk1 := hk.up S1
  have hs1 := hs.up S1
  generalize upd (upd (upd H l1 (.lst (kept.map V.int))) l2 (.lst (spare.map V.int))) l3 (.lst ((kept ++ spare).map V.int)) = H1 at *
  refine ⟨_, rfl, tk, _, rfl, .inr hk1, _, _, rfl, rfl, _, rfl, ?_⟩
  rw [List.length_map]
  by_cases c1 : (1 : Int) ≤ kept.length
  case neg =>
    rw [decide_eq_false c1]
    refine iteF ⟨_, rfl, iteT (iteT (no S1 fun g => ?_))⟩
    have := g.k1; omega
  rw [decide_eq_true c1]
  refine iteT ⟨_, _, rfl, rfl, _, rfl, ?_⟩
  by_cases c2 : (kept.length : Int) ≤ 6
  case neg =>
    rw [decide_eq_false c2]
    refine iteT (iteT (no S1 fun g => ?_))
    have := g.k6; omega
  rw [decide_eq_true c2]
  refine iteF ⟨_, rfl, ts, _, rfl, .inr hs1, _, _, rfl, rfl, _, rfl, ?_⟩
  rw [List.length_map]
  by_cases c3 : (4 : Int) < spare.length
  · rw [decide_eq_true c3]
    refine iteT (no S1 fun g => ?_)
    have := g.s4; omega
  rw [decide_eq_false c3]
  refine iteF ?_
  refine ⟨_, rfl, l3, rfl, ⟨_, SqL.of e3⟩, for_enum (K := K) (xs := (kept ++ spare).map V.int) (fun i σ H' => ∃ y3 y4 : Option V, σ = [some (.ref tk), some (.ref ts), some (.ref l3), y3, y4] ∧ Same H1 H' ∧ (∀ x ∈ (kept ++ spare).take i, 2 ≤ x ∧ x ≤ 1000000) ∧ ((kept ++ spare).take i).Pairwise Cop)
    ⟨_, _, rfl, Same.refl _, (fun _ h => nomatch h), .nil⟩ (fun i σ H' ⟨_, _, _, S, _⟩ => SqL.of (S _ _ e3)) ?_ ?_⟩
  · rintro i x pp σ H3 hx ⟨y3, y4, rfl, S3, r, c⟩ hp
    obtain ⟨d, hd, rfl⟩ := ints_at hx
    have hi := (List.getElem?_eq_some_iff.mp hd).1
    have NP := Same.new (o := .tup [.int (i : Int), .int d]) hp
    have S4 := S3.trans NP
    refine ⟨pp, _, rfl, SqT.of upd_same, rfl, _, _, rfl, _, _, rfl, rfl, ?_⟩
    generalize upd H3 pp (.tup [.int (i : Int), .int d]) = H4 at S4
    have A4 := S1.trans S4
    refine ⟨_, rfl, _, _, rfl, rfl, _, rfl, ?_⟩
    by_cases c4 : (2 : Int) ≤ d
    case neg =>
      rw [decide_eq_false c4]
      refine iteF ⟨_, rfl, iteT (iteT (no A4 fun g => ?_))⟩
      have := g.rng d (List.mem_of_getElem? hd); omega
    rw [decide_eq_true c4]
    refine iteT ⟨_, _, rfl, rfl, ⟨by decide, by decide, by decide⟩, _, _, rfl, rfl, _, rfl, ?_⟩
    by_cases c5 : d ≤ 10 ^ (6 : Int).toNat
    case neg =>
      rw [decide_eq_false c5]
      refine iteT (iteT (no A4 fun g => c5 ?_))
      exact (g.rng d (List.mem_of_getElem? hd)).2
    rw [decide_eq_true c5]
    refine iteF ?_
    refine ⟨_, rfl, _, rfl, _, rfl, l3, _, rfl, SqL.of (S4 _ _ e3), fun ls gs => ?_⟩
    rw [cut_to (Int.natCast_nonneg i), Int.toNat_natCast]
    have NS := Same.new (o := .lst (((kept ++ spare).take i).map V.int)) gs
    refine ⟨ls, rfl, ⟨_, SqL.of upd_same⟩, comp_L (K := K) (SqL.of upd_same) (by rw [List.length_map, List.length_take, List.length_append]; omega) (gcdV d) ?_ ?_⟩
    · intro x hx H' Q' S q
      obtain ⟨o, ho, rfl⟩ := List.mem_map.mp hx
      have ro := r o ho
      exact ⟨_, rfl, _, rfl, _, _, rfl, d, o, rfl, rfl, by omega, by omega, _, _, rfl, rfl, q _ (Same.refl _)⟩
    · intro DD H5 hD S5 eD
      refine ⟨DD, _, rfl, .inl (SqL.of eD), rfl, flat_gcd d _, _, rfl, ?_⟩
      show if inV (.bl true) _ = true then _ else _
      rw [in_gcd]
      have A5 := A4.trans (NS.trans S5)
      by_cases c6 : ∃ o ∈ (kept ++ spare).take i, 1 < Int.gcd d o
      · rw [decide_eq_true c6]
        exact iteT (no A5 fun g => cop_not hd c6 g.cop)
      · rw [decide_eq_false c6]
        exact iteF ⟨_, _, rfl, S4.trans (NS.trans S5), rng_snoc hd ⟨c4, c5⟩ r, cop_snoc hd c4 c c6⟩
  · rintro σ H3 ⟨y3, y4, rfl, S3, r, c⟩
    rw [List.length_map, List.take_length] at r c
    have A3 := S1.trans S3
    refine ⟨_, rfl, ts, _, rfl, .inr (hs1.up S3), rfl, _, rfl, ?_⟩
    rw [List.length_map]
    by_cases c7 : spare = []
    · subst c7
      refine iteT (k true _ ⟨fun _ => ⟨by omega, by omega, by omega, r, c, fun _ _ s hs => (nomatch hs)⟩, fun _ => rfl⟩ A3)
    · have hne : (spare.length : Int) ≠ 0 := fun z => c7 (List.length_eq_zero_iff.mp (by omega))
      rw [decide_eq_false (show ¬ V.int (spare.length : Int) = V.int 0 from fun z => hne (by injection z))]
      have kne : kept ≠ [] := fun z => by rw [z] at c1; exact absurd c1 (by decide)
      refine iteF ⟨_, rfl, tk, kept, rfl, hk1.up S3, kne, fun ma hma hmax => ⟨_, rfl, ts, spare, rfl, hs1.up S3, c7, fun mi hmi hmin => ⟨_, _, rfl, rfl, ?_⟩⟩⟩
      refine k _ _ ?_ A3
      rw [decide_eq_true_iff]
      constructor
      · intro h
        exact ⟨by omega, by omega, by omega, r, c, fun x hx y hy => by have := hmax x hx; have := hmin y hy; omega⟩
      · intro g
        exact g.lt ma hma mi hmi
end
end K11
set_option Elab.async false
set_option linter.all false
set_option maxRecDepth 100000
set_option maxHeartbeats 4000000
namespace K11
open PySem L2 RF
seal L2.PE L2.PA L2.PS L2.PSs L2.PT L2.PG L2.PI L2.PK L2.PO L2.PEx L2.PSx L2.PSxs L2.PH L2.PW L2.PGs L2.OpR L2.CallR L2.SlR L2.IxR
section
variable {P : Program} {w : World} {K : PySem.W.Frag} {mg : Str → Option Value} {base : Heap} {cR cT cB cW cD cP cA cU : Addr}
noncomputable abbrev s__law_moved : Stmt := top 56
theorem sc__law_moved : FnScope ["_law_base", "_law_one", "_law_word", "_law_fault"] ["_law_base", "_law_one", "_law_word", "_law_fault"] (defScope s__law_moved) := ⟨rfl, rfl, rfl, by decide +kernel, rfl, by decide +kernel, by decide +kernel⟩
theorem b__law_moved : BindsAll "_law_moved" s__law_moved ["_law_base", "_law_one", "_law_word", "_law_fault"] := binds4 fun _ _ _ _ _ _ _ _ _ _ => rfl
theorem ok_moved (D : Def K mg "_law_moved" s__law_moved) (F__law_is_base : FnS P w K mg base "_law_is_base" ["_law_kept", "_law_spare"] 2 sp_isbase) (F__law_fits : FnS P w K mg base "_law_fits" ["_law_base", "_law_number"] 2 sp_fits) (F__law_figure : FnS P w K mg base "_law_figure" ["_law_base", "_law_number"] 1 sp_rests) :
    FnS P w K mg base "_law_moved" ["_law_base", "_law_one", "_law_word", "_law_fault"] 3 sp_moved := by
  refine D.ok sc__law_moved b__law_moved sp4_len fun f cdv A outer s H vs Q E hr h => ?_
  obtain ⟨_, _, _, _, rfl, k, s', n, w', fa, tb, rfl, hb, rfl, rfl, rfl, hk, hs, q⟩ := h
  refine ⟨_, (pss_cons (ps_if (pt_cmpR op_ne (pv 2) pe_str (nomark _))
        (pss_one (ps_ret (pe_tup (ac (pv 2) (ac pe_non pa_nil)))))
        pss_nil)
      (pss_cons (ps_if (pt_cmpR op_ne (pv 3) pe_str (nomark _))
        (pss_one (ps_ret (pe_tup (ac (pv 3) (ac pe_non pa_nil)))))
        pss_nil)
      (pss_cons (ps_if (pt_not (pt_val (cFn F__law_is_base hr passes0 (ac (pe_ix ix0T (pv 0) pe_int (fun _ _ => rfl)) (ac (pe_ix ix0T (pv 0) pe_int (fun _ _ => rfl)) pa_nil)))))
        (pss_one (ps_ret (pe_tup (ac pe_str (ac pe_non pa_nil)))))
        pss_nil)
      (pss_cons (ps_if (pt_not (pt_val (cFn F__law_fits hr passes0 (ac (pv 0) (ac (pv 1) pa_nil)))))
        (pss_one (ps_ret (pe_tup (ac pe_str (ac pe_non pa_nil)))))
        pss_nil)
      (pss_one (ps_ret (pe_tup (ac pe_str (ac (pe_tup (ac (pv 0) (ac (cFn F__law_figure hr passes0 (ac (pv 0) (ac (pv 1) pa_nil))) pa_nil))) pa_nil))))))))), ?_⟩
  try (set_option simprocs false in dsimp only [cxOf])
  have two : ∀ {a : V} {b : V}, ([a, b] : List V).length ≤ sizeLine := fun {_ _} => by show 2 ≤ sizeLine; decide
  obtain ⟨t1, t2, e0, e1, e2⟩ := hb.ex
  refine ⟨_, rfl, rfl, _, rfl, ?_⟩
  by_cases hw : w' = ""
  case neg =>
    refine iteTe (ne_str hw) ⟨_, rfl, two, fun t ft => ?_⟩
    exact q t w' .non _ (Same.new ft) upd_same (.word hw) (.no hw)
  subst hw
  refine iteNS rfl ⟨_, rfl, rfl, _, rfl, ?_⟩
  by_cases hfa : fa = ""
  case neg =>
    refine iteTe (ne_str hfa) ⟨_, rfl, two, fun t ft => ?_⟩
    exact q t fa .non _ (Same.new ft) upd_same (.fault rfl hfa) (.no hfa)
  subst hfa
  refine iteNS rfl ⟨_, rfl, tb, _, _, _, rfl, rfl, SqT.of e0, rfl, _, rfl, tb, _, _, _, rfl, rfl, SqT.of e0, rfl, _, _, rfl, t1, t2, k, s', rfl, rfl, SqT.of e1, SqT.of e2, hk, hs, fun b H1 hb1 S1 => ⟨_, rfl, ?_⟩⟩
  by_cases g : GoodBase k s'
  case neg =>
    have hbf : b = false := Bool.eq_false_iff.mpr fun z => g (hb1.mp z)
    subst hbf
    refine iteT ⟨two, fun t ft => ?_⟩
    exact q t "base" .non _ (S1.trans (Same.new ft)) upd_same (.base rfl rfl g) (.no (by decide))
  rw [hb1.mpr g]
  have B : Bas H1 (.ref tb) k s' := ⟨⟨tb, rfl, hb.up S1⟩, g⟩
  refine iteF ⟨_, rfl, _, rfl, _, _, rfl, k, s', n, B, rfl, _, rfl, ?_⟩
  by_cases hf : Fits k n
  case neg =>
    rw [decide_eq_false hf]
    refine iteT ⟨two, fun t ft => ?_⟩
    exact q t "great" .non _ (S1.trans (Same.new ft)) upd_same (.great rfl rfl g hf) (.no (by decide))
  rw [decide_eq_true hf]
  refine iteF ⟨_, rfl, _, rfl, _, rfl, _, _, rfl, k, s', n, B, rfl, fun lf H2 S2 hlf elf => ⟨two, fun u fu => ⟨two, fun t ft => ?_⟩⟩⟩
  have M1 := Same.new (o := .tup [.ref tb, .ref lf]) fu
  have M2 := Same.new (o := .tup [.str "", .ref u]) ft
  exact q t "" (.ref u) _ (S1.trans (S2.trans (M1.trans M2))) upd_same (.ok rfl rfl g hf) (.yes u tb lf g (M2 _ _ upd_same) (hb.up (S1.trans (S2.trans (M1.trans M2)))) ((M1.trans M2) _ _ elf) (S1.free hlf))
noncomputable abbrev s__law_like : Stmt := top 57
theorem sc__law_like : FnScope ["_law_found", "_law_due_here"] ["_law_found", "_law_due_here"] (defScope s__law_like) := ⟨rfl, rfl, rfl, by decide +kernel, rfl, by decide +kernel, by decide +kernel⟩
theorem b__law_like : BindsAll "_law_like" s__law_like ["_law_found", "_law_due_here"] := binds2 fun _ _ _ _ _ _ _ _ => rfl
theorem ok_like (D : Def K mg "_law_like" s__law_like) (F__law_same : FnS P w K mg base "_law_same" ["_law_found", "_law_due_here"] 5 (sp_sameN 4)) : FnS P w K mg base "_law_like" ["_law_found", "_law_due_here"] 6 sp_like := by
  refine D.ok sc__law_like b__law_like sp2_len fun f cdv A outer s H vs Q E hr h => ?_
  obtain ⟨_, _, rfl, t1, t2, x, v1, v2, k, s', n, G1, G2, rfl, rfl, e1, e2, m1, m2, q⟩ := h
  refine ⟨_, (pss_cons (ps_if (pt_cmpR op_ne (pe_ix ix0T (pv 0) pe_int (fun _ _ => rfl)) (pe_ix ix0T (pv 1) pe_int (fun _ _ => rfl)) (nomark _))
        (pss_one (ps_ret pe_bl))
        pss_nil)
      (pss_cons (ps_if (pt_cmpR op_isN (pe_ix ix0T (pv 1) pe_int (fun _ _ => rfl)) pe_non (nomark _))
        (pss_one (ps_ret (pe_cmpR op_isN (pe_ix ix0T (pv 0) pe_int (fun _ _ => rfl)) pe_non (nomark _))))
        pss_nil)
      (pss_one (ps_ret (cFn F__law_same hr passes0 (ac (pe_ix ix0T (pv 0) pe_int (fun _ _ => rfl)) (ac (pe_ix ix0T (pv 1) pe_int (fun _ _ => rfl)) pa_nil))))))), ?_⟩
  try (set_option simprocs false in dsimp only [cxOf])
  refine ⟨_, rfl, t1, _, _, _, rfl, rfl, SqT.of e1, rfl, _, rfl, t2, _, _, _, rfl, rfl, SqT.of e2, rfl, rfl, _, rfl, iteNS rfl ?_⟩
  refine ⟨_, rfl, t2, _, _, _, rfl, rfl, SqT.of e2, rfl, rfl, _, rfl, ?_⟩
  cases m2 with
  | no hx =>
    cases m1 with
    | no _ => exact iteT ⟨_, rfl, t1, _, _, _, rfl, rfl, SqT.of e1, rfl, rfl, q _ (Same.refl _)⟩
    | yes => exact absurd rfl hx
  | yes u2 tw2 lf2 g eu2 hb2 el2 _ =>
    cases m1 with
    | no hx => exact absurd rfl hx
    | yes u1 tw1 lf1 _ eu1 hb1 el1 _ =>
      refine iteF ⟨_, rfl, t1, _, _, _, rfl, rfl, SqT.of e1, rfl, _, rfl, t2, _, _, _, rfl, rfl, SqT.of e2, rfl, _, _, rfl, ?_, q⟩
      exact sd_pair eu1 eu2 (sd_base g hb1 hb2) (sd_list el1 el2 (g.rests_len n))
end
end K11
set_option Elab.async false
set_option linter.all false
set_option maxRecDepth 100000
set_option maxHeartbeats 4000000
namespace K11
open PySem L2 RF
seal L2.PE L2.PA L2.PS L2.PSs L2.PT L2.PG L2.PI L2.PK L2.PO L2.PEx L2.PSx L2.PSxs L2.PH L2.PW L2.PGs L2.OpR L2.CallR L2.SlR L2.IxR
section
variable {P : Program} {w : World} {K : PySem.W.Frag} {mg : Str → Option Value} {base : Heap} {cR cT cB cW cD cP cA cU : Addr}
theorem pi_tupK {X : Cx} {tg l : Expr} {tl : TE} (K : PySem.W.Frag) (hl : PE X l tl) (hK : X.K = K := by rfl) : PI X tg l (iTup K tl) := hK ▸ pi_tup hl
noncomputable abbrev s__law_more : Stmt := top 54
theorem sc__law_more : FnScope ["_law_base", "_law_number", "_law_some", "_law_both", "_law_kept", "_law_spare", "_law_k"] ["_law_base", "_law_number"] (defScope s__law_more) := ⟨rfl, rfl, rfl, by decide +kernel, rfl, by decide +kernel, by decide +kernel⟩
theorem b__law_more : BindsAll "_law_more" s__law_more ["_law_base", "_law_number"] := binds2 fun _ _ _ _ _ _ _ _ => rfl
noncomputable def Gm (H : Hp) (t : Addr) (nb : Int) (σ : St) (H' : Hp) : Prop := ∃ (lo : Addr) (ns : List Int) (y : Option V), σ = [some (.ref t), some (.int nb), some (.ref lo), y, none, none, none] ∧ Same H H' ∧ H' lo = some (.lst (ns.map V.int)) ∧ 1 ≤ ns.length ∧ ns.length ≤ 28
theorem ok_more (D : Def K mg "_law_more" s__law_more) (T : Txt K mg cR cT cB cW cD cP cA cU) (F__law_mixed : FnS P w K mg base "_law_mixed" ["_law_number", "_law_k"] 1 sp_mixed) (F__law_common : FnS P w K mg base "_law_common" ["_law_a", "_law_b"] 1 sp_common) : FnS P w K mg base "_law_more" ["_law_base", "_law_number"] 2 sp_more2 := by
  refine D.ok sc__law_more b__law_more sp2_len fun f cdv A outer s H vs Q E hr h => ?_
  obtain ⟨_, _, rfl, kept, spare, nb, B, rfl, nb0, c31, k⟩ := h
  obtain ⟨⟨t, rfl, hb⟩, gb⟩ := id B
  refine ⟨_, (pss_cons (ps_set (i := 2) sc__law_more.nd rfl (Or.inl rfl) (pe_lst (ac pe_int (ac pe_int (ac pe_int (ac pe_int (ac pe_int (ac pe_int (ac pe_int (ac pe_int (ac pe_int (ac pe_int (ac pe_int (ac pe_int (ac pe_int (ac pe_int (ac pe_int (ac pe_int (ac pe_int (ac pe_int pa_nil))))))))))))))))))))
      (pss_cut (Gm H t nb) (ps_if (pt_cmpR op_eq (pe_op op_mod (pv 1) pe_int) pe_int (nomark _))
        (pss_one (ps_set (i := 2) sc__law_more.nd rfl (Or.inl rfl) (pe_op op0catS (pv 2) (pe_lst (ac pe_int (ac pe_int (ac pe_int (ac pe_int (ac pe_int (ac (pe_un un_neg pe_int) (ac pe_int (ac pe_int (ac (pe_op op_pow pe_int pe_int) (ac (pe_un un_neg (pe_op op_pow pe_int pe_int)) pa_nil))))))))))))))
        (pss_cons (ps_set (i := 3) sc__law_more.nd rfl (Or.inr rfl) (pe_op op0catTA (pe_ix ix0T (pv 0) pe_int (fun _ _ => rfl)) (pe_ix ix0T (pv 0) pe_int (fun _ _ => rfl))))
        (pss_one (ps_setFC (i := 2) (lv := 1) (caps := [3]) (N' := ["_law_one", "_law_both"]) sc__law_more.nd rfl (Or.inl rfl) rfl (CompOkC.rf rfl (by kernel_rfl) rfl (compcap1 rfl rfl rfl)) (keep_name (by decide)) (pi_list (pv 2)) (fun _ _ _ _ => pg_name (i := 0) (show (["_law_one", "_law_both"] : List Str).Nodup by decide +kernel) rfl (Or.inr rfl)) (fun _ _ _ _ => (pt_cmpR op0notIn pe_bl (pe_comp (lv := 1) (caps := [0]) (N' := ["_law_other", "_law_one"]) rfl (CompOk.rf rfl (by kernel_rfl) rfl (compcap1 rfl rfl rfl)) (keep_name (by decide)) (pi_tupK K (pv 1)) (fun _ _ _ _ => pg_name (i := 0) (show (["_law_other", "_law_one"] : List Str).Nodup by decide +kernel) rfl (Or.inl rfl)) (fun _ _ _ _ => (pe_cmpR op_eq (cFn F__law_common hr passes0 (ac (pv 1) (ac (pv 0) pa_nil))) pe_int (nomark _)))) (by with_unfolding_all rfl))) (fun _ _ _ _ => (pv 0))))))
      (pss_cons (ps_set (i := 4) sc__law_more.nd rfl (Or.inl rfl) (pe_lst pa_nil))
      (pss_cons (ps_set (i := 5) sc__law_more.nd rfl (Or.inl rfl) (pe_lst pa_nil))
      (pss_cons (ps_for own_pass rfl (pi_range1 rfl T.range (ac (pe_op op_mod (pe_op op_fdiv (pv 1) pe_int) pe_int) pa_nil)) (pg_name (i := 6) sc__law_more.nd rfl (Or.inl rfl))
        (pss_one (ps_expr (pe_bm PySem.F.plainAttrs_list PySem.F.slot_list_append PySem.F.type_list_append mt_append (pv 4) (ac (pe_ix ix0L (pv 2) (pe_op op_mod (cFn F__law_mixed hr passes0 (ac (pv 1) (ac (pe_op op_add pe_int (pv 6)) pa_nil))) (cBi call0len (by rfl) T.len PyProof.Rows.Boot.«len» (ac (pv 2) pa_nil))) (fun _ _ => rfl)) pa_nil)))))
      (pss_cons (ps_for own_pass rfl (pi_range1 rfl T.range (ac (pe_op op_mod (pe_op op_fdiv (pv 1) pe_int) pe_int) pa_nil)) (pg_name (i := 6) sc__law_more.nd rfl (Or.inl rfl))
        (pss_one (ps_expr (pe_bm PySem.F.plainAttrs_list PySem.F.slot_list_append PySem.F.type_list_append mt_append (pv 5) (ac (pe_ix ix0L (pv 2) (pe_op op_sub (pe_op op_sub (cBi call0len (by rfl) T.len PyProof.Rows.Boot.«len» (ac (pv 2) pa_nil)) pe_int) (pe_op op_mod (cFn F__law_mixed hr passes0 (ac (pv 1) (ac (pe_op op_add pe_int (pv 6)) pa_nil))) (cBi (call_min2 rfl) (by rfl) T.min PyProof.Rows.Boot.«min» (ac pe_int (ac (cBi call0len (by rfl) T.len PyProof.Rows.Boot.«len» (ac (pv 2) pa_nil)) pa_nil))))) (fun _ _ => rfl)) pa_nil)))))
      (pss_one (ps_ret (pe_tup (ac (pv 4) (ac (pv 5) pa_nil))))))))))), ?_⟩
  try (set_option simprocs false in dsimp only [cxOf])
  obtain ⟨t1, t2, e0, e1, e2⟩ := hb.ex
  have s300 : (300 : Nat) ≤ sizeLine := by decide
  have k6 := gb.k6
  have s4 := gb.s4
  refine ⟨(by show 18 ≤ sizeLine; decide), fun lo fo => ?_⟩
  have N0 := Same.new (o := .lst (someN.map V.int)) fo
  have eo : upd H lo (.lst (someN.map V.int)) lo = some (.lst (someN.map V.int)) := upd_same
  refine ⟨?_, ?_⟩
  rotate_left
  · show tIfS _ _ _ _ _ (upd H lo (.lst (someN.map V.int)))
    generalize upd H lo (.lst (someN.map V.int)) = H1 at *
    refine ⟨_, rfl, _, _, rfl, rfl, (by show (0 : Int) < 4; decide), rfl, _, rfl, ite2 (fun _ => ?_) (fun _ => ?_)⟩
    · refine ⟨_, rfl, _, rfl, _, _, rfl, rfl, ⟨by decide, by decide, by decide⟩, _, _, rfl, rfl, ⟨by decide, by decide, by decide⟩, _, rfl, (by show 10 ≤ sizeLine; decide), fun p1 f1 => ?_⟩
      have N1 := Same.new (o := .lst (moreN.map V.int)) f1
      refine ⟨lo, p1, _, _, rfl, rfl, SqL.of (N1 _ _ eo), SqL.of upd_same, (by show 18 + 10 ≤ sizeLine; decide), fun p2 f2 => ?_⟩
      exact ⟨p2, someN ++ moreN, _, rfl, N0.trans (N1.trans (Same.new f2)), by rw [upd_same, List.map_append]; rfl, by decide, by decide⟩
    · refine ⟨_, rfl, t, _, _, _, rfl, rfl, SqT.of (N0 _ _ e0), rfl, _, rfl, t, _, _, _, rfl, rfl, SqT.of (N0 _ _ e0), rfl, t1, t2, _, _, rfl, rfl, SqT.of (N0 _ _ e1), SqT.of (N0 _ _ e2), (by rw [List.length_map, List.length_map]; omega), fun q1 H5 S5 sq1 => ?_⟩
      rw [← List.map_append] at sq1
      refine ⟨_, rfl, lo, rfl, ⟨_, SqL.of (S5 _ _ eo)⟩, comp_LF (K := K) (SqL.of (S5 _ _ eo)) (by decide) (takesV (kept ++ spare)) id ?_ ?_⟩
      · intro x hx H' Q' R S yes no
        obtain ⟨d, hd, rfl⟩ := List.mem_map.mp hx
        refine ⟨_, rfl, q1, rfl, ⟨_, (sq1.up S).any⟩, comp_T (K := K) (sq1.up S).any (by rw [List.length_map, List.length_append]; omega) (eq1V d) ?_ ?_⟩
        · intro y hy H2 Q2 S2 q
          obtain ⟨o, ho, rfl⟩ := List.mem_map.mp hy
          have o2 := (gb.rng o ho).1
          exact ⟨_, rfl, _, rfl, _, _, rfl, d, o, rfl, rfl, some_pos hd, by omega, rfl, q _ (Same.refl _)⟩
        · intro D2 H2 hD2 S2 e
          refine ⟨D2, _, rfl, .inl (SqL.of e), rfl, flat_eq1 d _, _, rfl, ?_⟩
          show if takes (kept ++ spare) d = true then _ else _
          cases ht : takes (kept ++ spare) d with
          | true => exact iteT ⟨_, rfl, yes ht _ S2⟩
          | false => exact iteF (no ht _ S2)
      · intro D2 H2 hD2 S2 e
        rw [List.map_id, take_filter] at e
        obtain ⟨l1, l28⟩ := some_len c31
        exact ⟨D2, _, _, rfl, N0.trans (S5.trans S2), e, l1, l28⟩
  clear eo N0 fo lo
  rintro _ H1 ⟨lo, ns, y, rfl, S1, elo, l1, l28⟩
  refine ⟨by decide, fun lk fk => ?_⟩
  have N1 := Same.new (o := .lst []) fk
  refine ⟨by decide, fun ls fs => ?_⟩
  have N2 := Same.new (o := .lst []) fs
  have co : upd (upd H1 lk (.lst [])) ls (.lst []) lo = some (.lst (ns.map V.int)) := (N1.trans N2) _ _ elo
  have ck : upd (upd H1 lk (.lst [])) ls (.lst []) lk = some (.lst []) := N2 _ _ upd_same
  have cs := (upd_same : upd (upd H1 lk (.lst [])) ls (.lst []) ls = _)
  have d1 : lo ≠ lk := ne_of_none elo fk
  have d2 : lo ≠ ls := ne_of_none (N1 _ _ elo) fs
  have d3 : lk ≠ ls := fun z => by rw [← z, upd_same] at fs; cases fs
  have hlk : H lk = none := S1.free fk
  have hls : H ls = none := (S1.trans N1).free fs
  have S2 := S1.trans (N1.trans N2)
  show tSeq _ _ _ _ (upd (upd H1 lk (.lst [])) ls (.lst []))
  generalize upd (upd H1 lk (.lst [])) ls (.lst []) = G at *
  have hpos : (0 : Int) < ((ns.map V.int).length : Int) := by rw [List.length_map]; omega
  refine ⟨_, rfl, _, _, rfl, rfl, ⟨by decide, by decide⟩, _, _, rfl, rfl, (by show (0 : Int) < 4; decide), _, rfl, (by show -(2 ^ 62) ≤ nb / 4 % 4; omega), (by show nb / 4 % 4 < 2 ^ 62; omega), for_range (lo := 0) (fun i σ H' => ∃ (kk : List Int) (y6 : Option V), σ = [some (.ref t), some (.int nb), some (.ref lo), y, some (.ref lk), some (.ref ls), y6] ∧ Same H H' ∧ H' lo = some (.lst (ns.map V.int)) ∧ H' lk = some (.lst (kk.map V.int)) ∧ H' ls = some (.lst []) ∧ kk.length = i) ⟨[], _, rfl, S2, co, ck, cs, rfl⟩ ?_ ?_⟩
  · rintro i σ H3 hi ⟨kk, y6, rfl, S3, c0, c1, c2, hl⟩
    have hi : i < (nb / 4 % 4).toNat := hi
    refine ⟨_, rfl, .inl ⟨rfl, _, SqL.of c1⟩, _, rfl, _, rfl, _, rfl, _, _, rfl, rfl, _, _, rfl, nb, 60 + (0 + (i : Int)), rfl, rfl, by omega, by omega, fun mo mo0 _ => ⟨_, rfl, lo, _, rfl, .inl (SqL.of c0), _, _, rfl, rfl, hpos, lo, _, _, _, rfl, rfl, SqL.of c0, atI_ints (md0 mo hpos) (by have := md1 mo hpos; rwa [List.length_map] at this ⊢), lk, _, _, rfl, rfl, c1, (by rw [List.length_map]; omega), ?_⟩⟩
    exact ⟨kk ++ [_], _, rfl, S3.upd hlk, by rw [upd_ne d1]; exact c0, by rw [upd_same, List.map_append]; rfl, by rw [upd_ne d3.symm]; exact c2, by rw [List.length_append, hl]; rfl⟩
  rintro σ H3 ⟨kk, y6, rfl, S3, c0, c1, c2, hl⟩
  have hl : kk.length = (nb / 4 % 4).toNat := hl
  have hl3 : kk.length ≤ 3 := by omega
  refine ⟨_, rfl, _, _, rfl, rfl, ⟨by decide, by decide⟩, _, _, rfl, rfl, (by show (0 : Int) < 3; decide), _, rfl, (by show -(2 ^ 62) ≤ nb / 16 % 3; omega), (by show nb / 16 % 3 < 2 ^ 62; omega), for_range (lo := 0) (fun i σ H' => ∃ (ss : List Int) (y6 : Option V), σ = [some (.ref t), some (.int nb), some (.ref lo), y, some (.ref lk), some (.ref ls), y6] ∧ Same H H' ∧ H' lo = some (.lst (ns.map V.int)) ∧ H' lk = some (.lst (kk.map V.int)) ∧ H' ls = some (.lst (ss.map V.int)) ∧ ss.length = i) ⟨[], _, rfl, S3, c0, c1, c2, rfl⟩ ?_ ?_⟩
  · rintro i σ H4 hi ⟨ss, y6, rfl, S4, c0, c1, c2, hl⟩
    have hi : i < (nb / 16 % 3).toNat := hi
    have L1 : (1 : Int) ≤ ((ns.map V.int).length : Int) := hpos
    refine ⟨_, rfl, .inl ⟨rfl, _, SqL.of c2⟩, _, rfl, _, rfl, lo, _, rfl, .inl (SqL.of c0), _, _, rfl, rfl, _, rfl, _, rfl, _, _, rfl, rfl, _, _, rfl, nb, 70 + (0 + (i : Int)), rfl, rfl, by omega, by omega, fun mo mo0 _ => ⟨_, rfl, lo, _, rfl, .inl (SqL.of c0), _, _, rfl, _, _, rfl, rfl, (last_ix L1 mo0).1, _, _, rfl, rfl, lo, _, _, _, rfl, rfl, SqL.of c0, atI_ints (last_ix L1 mo0).2.1 (by have := (last_ix L1 mo0).2.2; rwa [List.length_map] at this ⊢), ls, _, _, rfl, rfl, c2, (by rw [List.length_map]; omega), ?_⟩⟩
    exact ⟨ss ++ [_], _, rfl, S4.upd hls, by rw [upd_ne d2]; exact c0, by rw [upd_ne d3]; exact c1, by rw [upd_same, List.map_append]; rfl, by rw [List.length_append, hl]; rfl⟩
  rintro σ H4 ⟨ss, y6, rfl, S4, c0, c1, c2, hl⟩
  have hl : ss.length = (nb / 16 % 3).toNat := hl
  refine ⟨_, rfl, _, rfl, (by show 2 ≤ sizeLine; decide), fun tt ft => ?_⟩
  have M := Same.new (o := .tup [.ref lk, .ref ls]) ft
  exact k tt lk ls kk ss _ (S4.trans M) upd_same (M _ _ c1) (M _ _ c2) hl3 (by omega)
end
end K11
set_option Elab.async false
set_option linter.all false
set_option maxRecDepth 100000
set_option maxHeartbeats 4000000
namespace K11
open PySem L2 RF
seal L2.PE L2.PA L2.PS L2.PSs L2.PT L2.PG L2.PI L2.PK L2.PO L2.PEx L2.PSx L2.PSxs L2.PH L2.PW L2.PGs L2.OpR L2.CallR L2.SlR L2.IxR
section
variable {P : Program} {w : World} {K : PySem.W.Frag} {mg : Str → Option Value} {base : Heap} {cR cT cB cW cD cP cA cU : Addr}
theorem rng62' {x : Int} {n : Nat} (h0 : 0 ≤ x) (h1 : x < (n : Int) + 1) (h6 : n ≤ 10) : -(2 ^ 62) ≤ x ∧ x < 2 ^ 62 := by omega
theorem k40' {i k : Nat} (hi : i < k) (h6 : k ≤ 10) : 0 ≤ 40 + (0 + (i : Int)) ∧ 40 + (0 + (i : Int)) ≤ 1000 := by omega
theorem n62' {n : Nat} (h6 : n ≤ 10) : -(2 ^ 62) ≤ (n : Int) ∧ (n : Int) < 2 ^ 62 ∧ (n : Int).toNat < sizeLine := by
  have : (30 : Nat) ≤ sizeLine := by decide
  omega
theorem len10 {k len : Nat} {x : Int} (h : x < (k : Int) + 1) (h6 : k ≤ 10) (hl : len = x.toNat) : len ≤ 10 := by omega
theorem le20' {n : Nat} (h : n ≤ 10) : n ≤ 20 ∧ n + 1 ≤ 20 ∧ n + 2 ≤ 20 ∧ n < sizeLine ∧ n + 2 ≤ sizeLine := by
  have : (30 : Nat) ≤ sizeLine := by decide
  omega
theorem lt62' {x : Int} {n : Nat} (h : x < (n : Int) + 1) (h6 : n ≤ 10) : x < 2 ^ 62 := by omega
noncomputable abbrev s__law_places : Stmt := top 55
theorem sc__law_places : FnScope ["_law_base", "_law_number", "_law_many", "_law_some", "_law_k", "_law_more_here", "_law_left", "_law_wrong"] ["_law_base", "_law_number"] (defScope s__law_places) := ⟨rfl, rfl, rfl, by decide +kernel, rfl, by decide +kernel, by decide +kernel⟩
theorem b__law_places : BindsAll "_law_places" s__law_places ["_law_base", "_law_number"] := binds2 fun _ _ _ _ _ _ _ _ => rfl
theorem ok_lplaces (D : Def K mg "_law_places" s__law_places) (T : Txt K mg cR cT cB cW cD cP cA cU) (F__law_mixed : FnS P w K mg base "_law_mixed" ["_law_number", "_law_k"] 1 sp_mixed) : FnS P w K mg base "_law_places" ["_law_base", "_law_number"] 2 sp_lplaces2 := by
  refine D.ok sc__law_places b__law_places sp2_len fun f cdv A outer s H vs Q E hr h => ?_
  obtain ⟨_, _, rfl, kept, spare, nb, B, rfl, nb0, nb1, k⟩ := h
  refine ⟨_, (pss_cons (ps_set (i := 2) sc__law_places.nd rfl (Or.inl rfl) (pe_op op_add (cBi call0len (by rfl) T.len PyProof.Rows.Boot.«len» (ac (pe_ix ix0T (pv 0) pe_int (fun _ _ => rfl)) pa_nil)) (cBi call0len (by rfl) T.len PyProof.Rows.Boot.«len» (ac (pe_ix ix0T (pv 0) pe_int (fun _ _ => rfl)) pa_nil))))
      (pss_cons (ps_set (i := 3) sc__law_places.nd rfl (Or.inr rfl) (pe_lst pa_nil))
      (pss_cons (ps_for own_pass rfl (pi_range1 rfl T.range (ac (pe_op op_mod (pv 1) (pe_op op_add (pv 2) pe_int)) pa_nil)) (pg_name (i := 4) sc__law_places.nd rfl (Or.inl rfl))
        (pss_cons (ps_set (i := 5) sc__law_places.nd rfl (Or.inl rfl) (cFn F__law_mixed hr passes0 (ac (pv 1) (ac (pe_op op_add pe_int (pv 4)) pa_nil))))
        (pss_cons (ps_setF (i := 6) (lv := 1) (caps := [3]) (N' := ["_law_place", "_law_some"]) (xe := fun _ _ _ _ _ _ => False) (fun _ _ _ _ _ _ _ _ _ _ _ _ _ z => z.elim) sc__law_places.nd rfl (Or.inl rfl) rfl (CompOk.caps (sc := defScope s__law_places) rfl (by decide +kernel) (by decide +kernel) (by decide +kernel) rfl rfl (compcap1 rfl rfl rfl)) (keep_name (by decide)) (pi_range1 rfl T.range (ac (pv 2) pa_nil)) (fun _ _ _ _ => pg_name (i := 0) (show (["_law_place", "_law_some"] : List Str).Nodup by decide +kernel) rfl (Or.inl rfl)) (fun _ _ _ _ => (pt_cmpR op0notIn (pv 0) (pv 1) (by with_unfolding_all rfl))) (fun _ _ _ _ => (pv 0)))
        (pss_one (ps_expr (pe_bm PySem.F.plainAttrs_list PySem.F.slot_list_insert PySem.F.type_list_insert mt_insert (pv 3) (ac (pe_op op_mod (pe_op op_fdiv (pv 5) pe_int) (pe_op op_add (cBi call0len (by rfl) T.len PyProof.Rows.Boot.«len» (ac (pv 3) pa_nil)) pe_int)) (ac (pe_ix ix0L (pv 6) (pe_op op_mod (pv 5) (cBi call0len (by rfl) T.len PyProof.Rows.Boot.«len» (ac (pv 6) pa_nil))) (fun _ _ => rfl)) pa_nil))))))))
      (pss_cons (ps_if (pt_cmpR op_gt (pe_op op_mod (pe_op op_fdiv (pv 1) pe_int) pe_int) pe_int (nomark _))
        (pss_one (ps_ret (pe_tup (ac (pv 3) (ac pe_str pa_nil)))))
        pss_nil)
      (pss_cons (ps_set (i := 7) sc__law_places.nd rfl (Or.inl rfl) (pe_ix ix0L (pe_lst (ac (pe_un un_neg pe_int) (ac (pv 2) (ac (pe_op op_pow pe_int pe_int) (ac (pe_un un_neg (pe_op op_pow pe_int pe_int)) (ac (pe_op op_mod (pe_op op_fdiv (pv 1) pe_int) (pv 2)) pa_nil)))))) (pe_op op_mod (pe_op op_fdiv (pv 1) pe_int) pe_int) (fun _ _ => rfl)))
      (pss_cons (ps_if (PW.pt (pw_or (pt_cmpR op0in (pv 7) (pv 3) (by with_unfolding_all rfl)) (pw_or1 (pt_not (pt_chain op_le op_lt pe_int (pv 7) (pv 2))))))
        (pss_one (ps_expr (pe_bm PySem.F.plainAttrs_list PySem.F.slot_list_insert PySem.F.type_list_insert mt_insert (pv 3) (ac (pe_op op_mod (pe_op op_fdiv (pv 1) pe_int) (pe_op op_add (cBi call0len (by rfl) T.len PyProof.Rows.Boot.«len» (ac (pv 3) pa_nil)) pe_int)) (ac (pv 7) pa_nil)))))
        (pss_one (ps_set (i := 3) sc__law_places.nd rfl (Or.inr rfl) (pe_op op0catS (pv 3) (pe_lst (ac (pv 7) (ac (pv 7) pa_nil)))))))
      (pss_one (ps_ret (pe_tup (ac (pv 3) (ac pe_str pa_nil))))))))))), ?_⟩
  try (set_option simprocs false in dsimp only [cxOf])
  obtain ⟨⟨t, rfl, hb⟩, gb⟩ := id B
  obtain ⟨t1, t2, e0, e1, e2⟩ := hb.ex
  have k6 := gb.k6
  have s4 := gb.s4
  have kp := gb.lpos
  have two : ∀ {a : V} {b : V}, ([a, b] : List V).length ≤ sizeLine := fun {_ _} => by show 2 ≤ sizeLine; decide
  refine ⟨_, rfl, t, _, _, _, rfl, rfl, SqT.of e0, rfl, t1, _, rfl, .inr (SqT.of e1), _, rfl, t, _, _, _, rfl, rfl, SqT.of e0, rfl, t2, _, rfl, .inr (SqT.of e2), _, _, rfl, rfl, ?_⟩
  rw [List.length_map, List.length_map, ← Int.natCast_add]
  obtain ⟨cN, hN⟩ : ∃ cN, cN = kept.length + spare.length := ⟨_, rfl⟩
  have n10 : cN ≤ 10 := by omega
  have np : (0 : Int) < (cN : Int) := by omega
  rw [← hN] at k ⊢
  refine ⟨by decide, fun ls fs => ?_⟩
  have N := Same.new (o := .lst []) fs
  have m0 := md0 nb (lplus cN)
  have m1 := md1 nb (lplus cN)
  have r62 := rng62' m0 m1 n10
  have q62 := n62' n10
  refine ⟨_, rfl, _, rfl, _, _, rfl, rfl, _, _, rfl, rfl, lplus cN, _, rfl, r62.1, r62.2, for_range (lo := 0) (fun i σ H' => ∃ (ps : List Int) (y4 y5 y6 y7 : Option V), σ = [some (.ref t), some (.int nb), some (.int (cN : Int)), some (.ref ls), y4, y5, y6, y7] ∧ Same H H' ∧ H' ls = some (.lst (ps.map V.int)) ∧ ps.length = i ∧ PlacesOk ps cN) ⟨[], _, _, _, _, rfl, N, upd_same, rfl, ⟨fun p hp => absurd hp (by simp), by simp⟩⟩ ?_ ?_⟩
  · rintro i σ H2 hi ⟨ps, y4, y5, y6, y7, rfl, S2, els, hlen, ok⟩
    have hi : i < (nb % ((cN : Int) + 1)).toNat := hi
    have hi' := hi_lt hi m1 hlen
    refine ⟨_, rfl, _, rfl, _, _, rfl, rfl, _, _, rfl, nb, 40 + (0 + (i : Int)), rfl, rfl, (k40' (hlen ▸ hi') n10).1, (k40' (hlen ▸ hi') n10).2, fun mo mo0 mo1 => ?_⟩
    refine ⟨_, rfl, _, rfl, q62.1, q62.2.1, comp_RF (lo := 0) _ q62.2.2 (fun x => !decide (x ∈ ps)) V.int ?_ ?_⟩
    · intro j hj H' Q' R S yes no
      refine ⟨_, rfl, _, rfl, ls, ps.map V.int, rfl, .inl (SqL.of (S _ _ els)), rfl, flat_ints ps, _, rfl, ?_⟩
      show if (!inV (V.int (0 + (j : Int))) (ps.map V.int)) = true then _ else _
      rw [in_ints]
      by_cases hm : 0 + (j : Int) ∈ ps
      · rw [decide_eq_true hm]
        exact iteF (no (by rw [decide_eq_true hm]; rfl) H' (Same.refl _))
      · rw [decide_eq_false hm]
        exact iteT ⟨_, rfl, yes (by rw [decide_eq_false hm]; rfl) H' (Same.refl _)⟩
    · intro Dl H3 hD S3 eD
      have eD : H3 Dl = some (.lst ((leftOf cN ps).map V.int)) := by rw [eD]; unfold leftOf; rw [List.map_map]; rfl
      have els3 := S3 _ _ els
      have L0 := left_pos hi'
      have L1 : (0 : Int) < ((((leftOf cN ps).map V.int).length : Nat) : Int) := by rw [List.length_map]; exact Int.natCast_pos.mpr L0
      have x0 := md0 mo L1
      have x1 : mo % ((((leftOf cN ps).map V.int).length : Nat) : Int) < ((leftOf cN ps).length : Int) := by have := md1 mo L1; rwa [List.length_map] at this ⊢
      have pm : (ps.map V.int).length ≤ 10 := by rw [List.length_map]; exact Nat.le_of_lt (Nat.lt_of_lt_of_le hi' n10)
      have j0 := md0 (mo / 16) (lplus (ps.map V.int).length)
      have j1 := md1 (mo / 16) (lplus (ps.map V.int).length)
      have hx := left_mem (RF.getD_mem (l := leftOf cN ps) (i := (mo % ((((leftOf cN ps).map V.int).length : Nat) : Int)).toNat) (toNat_lt x0 x1))
      refine ⟨_, rfl, .inl ⟨rfl, _, SqL.of els3⟩, _, rfl, _, _, rfl, rfl, ⟨by decide, by decide⟩, _, rfl, ls, _, rfl, .inl (SqL.of els3), _, _, rfl, rfl, _, _, rfl, rfl, lplus (ps.map V.int).length, _, rfl, _, rfl, _, rfl, Dl, _, rfl, .inl (SqL.of eD), _, _, rfl, rfl, L1, Dl, _, _, _, rfl, rfl, SqL.of eD, atI_ints x0 x1, ls, _, _, _, rfl, rfl, els3, j0, lt62' j1 pm, (le20' pm).2.2.2.1, ?_⟩
      exact ⟨_, _, _, _, _, rfl, (S2.trans S3).upd fs, by rw [upd_same, ins_map], by rw [(ins_perm ps _ _).length_eq, List.length_cons, hlen], ins_ok _ ok hx.1 hx.2⟩
  · rintro σ H2 ⟨ps, y4, y5, y6, y7, rfl, S2, els, hlen, ok⟩
    have hlen : ps.length = (nb % ((cN : Int) + 1)).toNat := hlen
    have h20 := len10 m1 n10 hlen
    have pm : (ps.map V.int).length ≤ 10 := by rw [List.length_map]; exact h20
    refine ⟨_, rfl, _, _, rfl, rfl, ⟨by decide, by decide⟩, _, _, rfl, rfl, (by show (0 : Int) < 5; decide), _, _, rfl, rfl, _, rfl, ite2 (fun _ => ?_) (fun _ => ?_)⟩
    · refine ⟨_, rfl, two, fun tq fq => ?_⟩
      have Nq := Same.new (o := .tup [.ref ls, .str ""]) fq
      exact k tq ls ps "" _ (S2.trans Nq) upd_same (Nq _ _ els) (le20' h20).1 (.inl ⟨rfl, ok⟩)
    · obtain ⟨wv, hwv⟩ := atI_any (ns := [-1, (cN : Int), 10 ^ (30 : Int).toNat, -(10 ^ (30 : Int).toNat), nb / 64 % (cN : Int)]) (i := nb / 80 % 5) (md0 _ (by decide)) (by show nb / 80 % 5 < 5; exact md1 _ (by decide))
      refine ⟨_, rfl, _, rfl, _, _, rfl, rfl, ⟨by decide, by decide, by decide⟩, _, _, rfl, rfl, ⟨by decide, by decide, by decide⟩, _, rfl, _, rfl, _, _, rfl, rfl, ⟨by decide, by decide⟩, _, rfl, _, _, rfl, rfl, np, (by show 5 ≤ sizeLine; decide), fun pw fw => ?_⟩
      have Nw := Same.new (o := .lst ([-1, (cN : Int), 10 ^ (30 : Int).toNat, -(10 ^ (30 : Int).toNat), nb / 64 % (cN : Int)].map V.int)) fw
      refine ⟨_, rfl, _, _, rfl, rfl, ⟨by decide, by decide⟩, _, _, rfl, rfl, (by show (0 : Int) < 5; decide), pw, _, _, _, rfl, rfl, SqL.of upd_same, hwv, ?_⟩
      have S3 := S2.trans Nw
      have els3 := Nw _ _ els
      have j0 := md0 (nb / 512) (lplus (ps.map V.int).length)
      have j1 := md1 (nb / 512) (lplus (ps.map V.int).length)
      clear hwv
      refine ⟨_, rfl, _, rfl, ls, ps.map V.int, rfl, .inl (SqL.of els3), rfl, flat_ints ps, _, rfl, ?_⟩
      show if inV (V.int wv) (ps.map V.int) = true then _ else _
      rw [in_ints]
      by_cases hm : wv ∈ ps
      · rw [decide_eq_true hm]
        refine iteT ?_
        refine ⟨_, rfl, .inl ⟨rfl, _, SqL.of els3⟩, _, rfl, _, _, rfl, rfl, ⟨by decide, by decide⟩, _, rfl, ls, _, rfl, .inl (SqL.of els3), _, _, rfl, rfl, _, _, rfl, rfl, lplus (ps.map V.int).length, _, rfl, ls, _, _, _, rfl, rfl, els3, j0, lt62' j1 pm, (le20' pm).2.2.2.1, ?_⟩
        refine ⟨_, rfl, two, fun tq fq => ?_⟩
        have Nq := Same.new (o := .tup [.ref ls, .str "place"]) fq
        exact k tq ls _ "place" _ ((S3.upd fs).trans Nq) upd_same (Nq _ _ (by rw [upd_same, ins_map])) (by rw [(ins_perm ps _ wv).length_eq, List.length_cons]; exact (le20' h20).2.1) (.inr ⟨rfl, ins_bad _ (.inl hm)⟩)
      rw [decide_eq_false hm]
      refine iteF ⟨_, rfl, _, _, rfl, rfl, _, rfl, ?_⟩
      by_cases h0 : 0 ≤ wv
      case neg =>
        rw [decide_eq_false h0]
        refine iteF ⟨_, rfl, iteT ?_⟩
        refine ⟨_, rfl, .inl ⟨rfl, _, SqL.of els3⟩, _, rfl, _, _, rfl, rfl, ⟨by decide, by decide⟩, _, rfl, ls, _, rfl, .inl (SqL.of els3), _, _, rfl, rfl, _, _, rfl, rfl, lplus (ps.map V.int).length, _, rfl, ls, _, _, _, rfl, rfl, els3, j0, lt62' j1 pm, (le20' pm).2.2.2.1, ?_⟩
        refine ⟨_, rfl, two, fun tq fq => ?_⟩
        have Nq := Same.new (o := .tup [.ref ls, .str "place"]) fq
        exact k tq ls _ "place" _ ((S3.upd fs).trans Nq) upd_same (Nq _ _ (by rw [upd_same, ins_map])) (by rw [(ins_perm ps _ wv).length_eq, List.length_cons]; exact (le20' h20).2.1) (.inr ⟨rfl, ins_bad _ (.inr fun z => h0 z.1)⟩)
      rw [decide_eq_true h0]
      refine iteT ⟨_, rfl, _, _, rfl, rfl, _, rfl, ?_⟩
      by_cases h1 : wv < (cN : Int)
      case neg =>
        rw [decide_eq_false h1]
        refine iteT ?_
        refine ⟨_, rfl, .inl ⟨rfl, _, SqL.of els3⟩, _, rfl, _, _, rfl, rfl, ⟨by decide, by decide⟩, _, rfl, ls, _, rfl, .inl (SqL.of els3), _, _, rfl, rfl, _, _, rfl, rfl, lplus (ps.map V.int).length, _, rfl, ls, _, _, _, rfl, rfl, els3, j0, lt62' j1 pm, (le20' pm).2.2.2.1, ?_⟩
        refine ⟨_, rfl, two, fun tq fq => ?_⟩
        have Nq := Same.new (o := .tup [.ref ls, .str "place"]) fq
        exact k tq ls _ "place" _ ((S3.upd fs).trans Nq) upd_same (Nq _ _ (by rw [upd_same, ins_map])) (by rw [(ins_perm ps _ wv).length_eq, List.length_cons]; exact (le20' h20).2.1) (.inr ⟨rfl, ins_bad _ (.inr fun z => h1 z.2)⟩)
      rw [decide_eq_true h1]
      refine iteF ⟨_, rfl, _, rfl, _, rfl, two, fun pz fz => ?_⟩
      have Nz := Same.new (o := .lst [.int wv, .int wv]) fz
      refine ⟨ls, pz, _, _, rfl, rfl, SqL.of (Nz _ _ els3), SqL.of upd_same, (by show (ps.map V.int).length + 2 ≤ sizeLine; exact (le20' pm).2.2.2.2), fun pn fn => ?_⟩
      have Nn := Same.new (o := .lst (ps.map V.int ++ [.int wv, .int wv])) fn
      refine ⟨_, rfl, two, fun tq fq => ?_⟩
      have Nq := Same.new (o := .tup [.ref pn, .str "place"]) fq
      exact k tq pn (ps ++ [wv, wv]) "place" _ (S3.trans (Nz.trans (Nn.trans Nq))) upd_same (Nq _ _ (by rw [upd_same, List.map_append]; rfl)) (by rw [List.length_append]; exact (le20' h20).2.2.1) (.inr ⟨rfl, two_bad⟩)
end
end K11
set_option Elab.async false
set_option linter.all false
set_option maxRecDepth 100000
set_option maxHeartbeats 4000000
namespace K11
open PySem L2 RF
seal L2.PE L2.PA L2.PS L2.PSs L2.PT L2.PG L2.PI L2.PK L2.PO L2.PEx L2.PSx L2.PSxs L2.PH L2.PW L2.PGs L2.OpR L2.CallR L2.SlR L2.IxR
section
variable {P : Program} {w : World} {K : PySem.W.Frag} {mg : Str → Option Value} {base : Heap} {cR cT cB cW cD cP cA cU : Addr}
theorem rd4 {H : Hp} {l a b c d : Addr} {xs ys zs us : List Int} (h : H l = some (.lst [.ref a, .ref b, .ref c, .ref d])) (ha : H a = some (.lst (xs.map V.int))) (hb : H b = some (.lst (ys.map V.int))) (hc : H c = some (.lst (zs.map V.int))) (hd : H d = some (.lst (us.map V.int))) :
    RdD K H (.ref l) (.list [.list (xs.map .int), .list (ys.map .int), .list (zs.map .int), .list (us.map .int)]) :=
  .lst (SqL.of h) (.cons (.lst (SqL.of ha) (.ints xs)) (.cons (.lst (SqL.of hb) (.ints ys)) (.cons (.lst (SqL.of hc) (.ints zs)) (.cons (.lst (SqL.of hd) (.ints us)) .nil))))
theorem eqv4 (a b c d : List Int) : PyData.eqv (.list [.list (a.map .int), .list (b.map .int), .list (c.map .int), .list (d.map .int)]) (.list [.list (a.map .int), .list (b.map .int), .list (c.map .int), .list (d.map .int)]) = true := by
  simp [PyData.eqv, PyData.eqvAll, PySem.W.ked_eqvAll]
theorem shaped4 (a b c d : List Int) : SeqAt.shaped (.list [.list (a.map .int), .list (b.map .int), .list (c.map .int), .list (d.map .int)]) = true := by
  have : PyData.depth (.list [.list (a.map .int), .list (b.map .int), .list (c.map .int), .list (d.map .int)]) ≤ 64 := by
    simp only [PyData.depth, PyData.depthAll, PySem.W.ke_depthAll]; omega
  unfold SeqAt.shaped
  rw [decide_eq_true this]
  simp [PyData.canLay0, PyData.canLayAll0, PySem.W.ke_canLayAll0]
theorem atI_kept {kept spare : List Int} {i : Int} (h0 : 0 ≤ i) (h1 : i < kept.length) : atI (kept.map V.int) i = some (.int ((kept ++ spare).getD i.toNat 0)) := by
  rw [atI_ints h0 h1, List.getD_eq_getElem?_getD, List.getD_eq_getElem?_getD, List.getElem?_append_left (by omega)]
theorem atI_spare {kept spare : List Int} {i : Int} (h0 : 0 ≤ i) (h1 : i < spare.length) : atI (spare.map V.int) i = some (.int ((kept ++ spare).getD ((kept.length : Int) + i).toNat 0)) := by
  rw [atI_ints h0 h1, List.getD_eq_getElem?_getD, List.getD_eq_getElem?_getD, List.getElem?_append_right (by omega), show ((kept.length : Int) + i).toNat - kept.length = i.toNat by omega]
noncomputable def Ap (G : Hp) (q : Addr) (i : Nat) (H' : Hp) (x : Str) (v : V) : Prop := x = "" → ∃ (u tw lf : Addr) (xs : List V), v = .ref u ∧ H' u = some (.tup [.ref tw, .ref lf]) ∧ H' lf = some (.lst xs) ∧ xs.length ≤ 20 + i ∧ G lf = none ∧ lf ≠ q
theorem Ap.of {G G1 H0 H' : Hp} {q : Addr} {k s : List Int} {n : Int} {x : Str} {v : V} (m : MV G1 H0 k s n x v) (S : Same G G1) (P : Same H0 H') (hq : H0 q = none) : Ap G q 0 H' x v := fun hx => by
  cases m with
  | no h => exact absurd hx h
  | yes u tw lf g eu hb el fr => exact ⟨u, tw, lf, _, rfl, P _ _ eu, P _ _ el, by rw [List.length_map]; exact g.r20 n, S.free fr, ne_of_none el hq⟩
theorem Ap.put {G H' : Hp} {q : Addr} {i : Nat} {x : Str} {v : V} (h : Ap G q i H' x v) {lf : Addr} {ys : List V} {y : V} (el : H' lf = some (.lst ys)) (hl : ys.length ≤ 20 + i) : Ap G q (i + 1) (upd H' lf (.lst (ys ++ [y]))) x v := fun hx => by
  obtain ⟨u, tw, lf', xs, rfl, eu, el', hxl, hg, hq⟩ := h hx
  have n1 : u ≠ lf := fun z => by rw [z, el] at eu; cases eu
  by_cases hz : lf' = lf
  · subst hz
    exact ⟨u, tw, lf', _, rfl, by rw [upd_ne n1]; exact eu, upd_same, by rw [List.length_append]; show ys.length + 1 ≤ _; omega, hg, hq⟩
  · exact ⟨u, tw, lf', xs, rfl, by rw [upd_ne n1]; exact eu, by rw [upd_ne hz]; exact el', by omega, hg, hq⟩
theorem Ap.next {G H' : Hp} {q : Addr} {i : Nat} {x : Str} {v : V} (h : Ap G q i H' x v) : Ap G q (i + 1) H' x v := fun hx => by
  obtain ⟨u, tw, lf', xs, e, eu, el', hxl, r⟩ := h hx
  exact ⟨u, tw, lf', xs, e, eu, el', by omega, r⟩
structure Both (G : Hp) (q u1 u2 : Addr) (x1 x2 : Str) (v1 v2 : V) (i : Nat) (H' : Hp) : Prop where
  s : Same G H'
  f : H' q = some (.lst [.ref u1, .ref u2])
  e1 : H' u1 = some (.tup [.str x1, v1])
  e2 : H' u2 = some (.tup [.str x2, v2])
  a1 : Ap G q i H' x1 v1
  a2 : Ap G q i H' x2 v2
theorem Both.put {G H' : Hp} {q u1 u2 : Addr} {x1 x2 : Str} {v1 v2 : V} {i : Nat} (h : Both G q u1 u2 x1 x2 v1 v2 i H') {lf : Addr} {ys : List V} {y : V} (el : H' lf = some (.lst ys)) (hl : ys.length ≤ 20 + i) (hg : G lf = none) (hq : lf ≠ q) : Both G q u1 u2 x1 x2 v1 v2 (i + 1) (upd H' lf (.lst (ys ++ [y]))) := by
  have n1 : u1 ≠ lf := fun z => by have := h.e1; rw [z, el] at this; cases this
  have n2 : u2 ≠ lf := fun z => by have := h.e2; rw [z, el] at this; cases this
  exact ⟨h.s.upd hg, by rw [upd_ne hq.symm]; exact h.f, by rw [upd_ne n1]; exact h.e1, by rw [upd_ne n2]; exact h.e2, h.a1.put el hl, h.a2.put el hl⟩
theorem Both.next {G H' : Hp} {q u1 u2 : Addr} {x1 x2 : Str} {v1 v2 : V} {i : Nat} (h : Both G q u1 u2 x1 x2 v1 v2 i H') : Both G q u1 u2 x1 x2 v1 v2 (i + 1) H' := ⟨h.s, h.f, h.e1, h.e2, h.a1.next, h.a2.next⟩
theorem iteFe {c : Bool} {A B : Prop} (h : c = false) (b : B) : if c = true then A else B := by rw [if_neg (by rw [h]; exact Bool.false_ne_true)]; exact b
end
end K11
set_option Elab.async false
set_option linter.all false
set_option maxRecDepth 100000
set_option maxHeartbeats 4000000
namespace K11
open PySem L2 RF
seal L2.PE L2.PA L2.PS L2.PSs L2.PT L2.PG L2.PI L2.PK L2.PO L2.PEx L2.PSx L2.PSxs L2.PH L2.PW L2.PGs L2.OpR L2.CallR L2.SlR L2.IxR
section
variable {P : Program} {w : World} {K : PySem.W.Frag} {mg : Str → Option Value} {base : Heap} {cR cT cB cW cD cP cA cU : Addr}
noncomputable abbrev s_law : Stmt := top 58
theorem sc_law : FnScope ["_law_script", "_law_base", "_law_k", "_law_cell", "_law_number", "_law_one", "_law_figure_here", "_law_word", "_law_kept", "_law_spare", "_law_places_here", "_law_fault", "_law_grown", "_law_many", "_law_less", "_law_due_here", "_law_held", "_law_turn", "_law_found", "_law_told"] ["_law_script"] (defScope s_law) := ⟨rfl, rfl, rfl, by decide +kernel, rfl, by decide +kernel, by decide +kernel⟩
theorem body_law (T : Txt K mg cR cT cB cW cD cP cA cU) (F__law_any_base : FnS P w K mg base "_law_any_base" ["_law_number"] 3 sp_base31) (F__law_mixed : FnS P w K mg base "_law_mixed" ["_law_number", "_law_k"] 1 sp_mixed) (F__law_cell_at : FnS P w K mg base "_law_cell_at" ["_law_script", "_law_k"] 1 (sp_cell_at K))
    (F__law_fitting : FnS P w K mg base "_law_fitting" ["_law_base", "_law_cell"] 2 sp_fitting) (F__law_figure : FnS P w K mg base "_law_figure" ["_law_base", "_law_number"] 1 sp_rests) (F__law_maybe : FnS P w K mg base "_law_maybe" ["_law_base", "_law_figure_here", "_law_number", "_law_often"] 2 sp_maybe)
    (F__law_more : FnS P w K mg base "_law_more" ["_law_base", "_law_number"] 2 sp_more2) (F__law_places : FnS P w K mg base "_law_places" ["_law_base", "_law_number"] 2 sp_lplaces2) (F__law_moved : FnS P w K mg base "_law_moved" ["_law_base", "_law_one", "_law_word", "_law_fault"] 3 sp_moved)
    (F__law_put : FnS P w K mg base "_law_put" ["_law_base", "_law_figure_here", "_law_kept", "_law_spare"] 47 sp_lput) (F__law_out : FnS P w K mg base "_law_out" ["_law_base", "_law_figure_here", "_law_places_here"] 47 sp_lout) (F__law_like : FnS P w K mg base "_law_like" ["_law_found", "_law_due_here"] 6 sp_like) :
    Body P w K mg base ["_law_script", "_law_base", "_law_k", "_law_cell", "_law_number", "_law_one", "_law_figure_here", "_law_word", "_law_kept", "_law_spare", "_law_places_here", "_law_fault", "_law_grown", "_law_many", "_law_less", "_law_due_here", "_law_held", "_law_turn", "_law_found", "_law_told"] "law" s_law 48 (sp_law K) := by
  intro f cdv A outer s H vs Q E hr h
  obtain ⟨_, rfl, l, ns0, rfl, hq, h63, k⟩ := h
  refine ⟨_, (pss_cons (ps_set (i := 1) sc_law.nd rfl (Or.inr rfl) (cFn F__law_any_base hr passes0 (ac (cFn F__law_mixed hr passes0 (ac (cFn F__law_cell_at hr passes0 (ac (pv 0) (ac pe_int pa_nil))) (ac pe_int pa_nil))) pa_nil)))
      (pss_cons (ps_for own_pass rfl (pi_enum rfl T.enumerate (ac (pe_slice sl_list (pv 0) (po_some pe_int) (po_some pe_int)) pa_nil)) (pg_tup (n := 2) rfl (pgs_cons (pg_name (i := 2) sc_law.nd rfl (Or.inl rfl)) (pgs_cons (pg_name (i := 3) sc_law.nd rfl (Or.inl rfl)) pgs_nil)))
        (pss_cons (ps_set (i := 4) sc_law.nd rfl (Or.inl rfl) (cFn F__law_mixed hr passes0 (ac (pv 3) (ac (pe_op op_add pe_int (pv 2)) pa_nil))))
        (pss_cons (ps_set (i := 5) sc_law.nd rfl (Or.inl rfl) (cFn F__law_fitting hr passes0 (ac (pv 1) (ac (pv 3) pa_nil))))
        (pss_cons (ps_asg (cFn F__law_maybe hr passes0 (ac (pv 1) (ac (cFn F__law_figure hr passes0 (ac (pv 1) (ac (pv 5) pa_nil))) (ac (cFn F__law_mixed hr passes0 (ac (pv 4) (ac pe_int pa_nil))) (ac pe_int pa_nil))))) (pg_tup (n := 2) rfl (pgs_cons (pg_name (i := 6) sc_law.nd rfl (Or.inl rfl)) (pgs_cons (pg_name (i := 7) sc_law.nd rfl (Or.inl rfl)) pgs_nil))))
        (pss_cons (ps_asg (cFn F__law_more hr passes0 (ac (pv 1) (ac (cFn F__law_mixed hr passes0 (ac (pv 4) (ac pe_int pa_nil))) pa_nil))) (pg_tup (n := 2) rfl (pgs_cons (pg_name (i := 8) sc_law.nd rfl (Or.inl rfl)) (pgs_cons (pg_name (i := 9) sc_law.nd rfl (Or.inl rfl)) pgs_nil))))
        (pss_cons (ps_asg (cFn F__law_places hr passes0 (ac (pv 1) (ac (cFn F__law_mixed hr passes0 (ac (pv 4) (ac pe_int pa_nil))) pa_nil))) (pg_tup (n := 2) rfl (pgs_cons (pg_name (i := 10) sc_law.nd rfl (Or.inr rfl)) (pgs_cons (pg_name (i := 11) sc_law.nd rfl (Or.inl rfl)) pgs_nil))))
        (pss_cons (ps_set (i := 12) sc_law.nd rfl (Or.inl rfl) (pe_tup (ac (pe_op op0catTP (pe_ix ix0T (pv 1) pe_int (fun _ _ => rfl)) (cTy call_tuple_of (by rfl) T.tuple PyProof.Rows.Boot.«tuple» (ac (pv 8) pa_nil))) (ac (pe_op op0catTP (pe_ix ix0T (pv 1) pe_int (fun _ _ => rfl)) (cTy call_tuple_of (by rfl) T.tuple PyProof.Rows.Boot.«tuple» (ac (pv 9) pa_nil))) pa_nil))))
        (pss_cons (ps_set (i := 13) sc_law.nd rfl (Or.inr rfl) (cBi call0len (by rfl) T.len PyProof.Rows.Boot.«len» (ac (pe_ix ix0T (pv 1) pe_int (fun _ _ => rfl)) pa_nil)))
        (pss_cons (ps_set (i := 14) sc_law.nd rfl (Or.inl rfl) (pe_tup (ac (cTy call_tuple_of (by rfl) T.tuple PyProof.Rows.Boot.«tuple» (ac (pe_compF (lv := 1) (caps := [1, 10]) (N' := ["_law_j", "_law_base", "_law_places_here"]) (xe := fun _ _ _ _ _ _ => False) (fun _ _ _ _ _ _ _ _ _ _ _ _ _ z => z.elim) rfl (CompOk.caps (sc := defScope s_law) rfl (by decide +kernel) (by decide +kernel) (by decide +kernel) rfl rfl (compcap2 rfl rfl rfl rfl rfl rfl)) (keep_name (by decide)) (pi_range1 rfl T.range (ac (pv 13) pa_nil)) (fun _ _ _ _ => pg_name (i := 0) (show (["_law_j", "_law_base", "_law_places_here"] : List Str).Nodup by decide +kernel) rfl (Or.inl rfl)) (fun _ _ _ _ => (pt_cmpR op0notIn (pv 0) (pv 2) (by with_unfolding_all rfl))) (fun _ _ _ _ => (pe_ix ix0T (pe_ix ix0T (pv 1) pe_int (fun _ _ => rfl)) (pv 0) (fun _ _ => rfl)))) pa_nil)) (ac (cTy call_tuple_of (by rfl) T.tuple PyProof.Rows.Boot.«tuple» (ac (pe_compF (lv := 1) (caps := [1, 10, 13]) (N' := ["_law_j", "_law_base", "_law_places_here", "_law_many"]) (xe := fun _ _ _ _ _ _ => False) (fun _ _ _ _ _ _ _ _ _ _ _ _ _ z => z.elim) rfl (CompOk.caps (sc := defScope s_law) rfl (by decide +kernel) (by decide +kernel) (by decide +kernel) rfl rfl (compcap3 rfl rfl rfl rfl rfl rfl rfl rfl rfl)) (keep_name (by decide)) (pi_range1 rfl T.range (ac (cBi call0len (by rfl) T.len PyProof.Rows.Boot.«len» (ac (pe_ix ix0T (pv 1) pe_int (fun _ _ => rfl)) pa_nil)) pa_nil)) (fun _ _ _ _ => pg_name (i := 0) (show (["_law_j", "_law_base", "_law_places_here", "_law_many"] : List Str).Nodup by decide +kernel) rfl (Or.inl rfl)) (fun _ _ _ _ => (pt_cmpR op0notIn (pe_op op_add (pv 3) (pv 0)) (pv 2) (by with_unfolding_all rfl))) (fun _ _ _ _ => (pe_ix ix0T (pe_ix ix0T (pv 1) pe_int (fun _ _ => rfl)) (pv 0) (fun _ _ => rfl)))) pa_nil)) pa_nil))))
        (pss_cons (ps_set (i := 15) sc_law.nd rfl (Or.inl rfl) (pe_lst (ac (cFn F__law_moved hr passes0 (ac (pv 12) (ac (pv 5) (ac (pv 7) (ac pe_str pa_nil))))) (ac (cFn F__law_moved hr passes0 (ac (pv 14) (ac (pv 5) (ac (pv 7) (ac (pv 11) pa_nil))))) pa_nil))))
        (pss_cons (ps_set (i := 16) sc_law.nd rfl (Or.inl rfl) (pe_lst (ac (cTy call0list (by rfl) T.list PyProof.Rows.Boot.«list» (ac (pv 6) pa_nil)) (ac (cTy call0list (by rfl) T.list PyProof.Rows.Boot.«list» (ac (pv 8) pa_nil)) (ac (cTy call0list (by rfl) T.list PyProof.Rows.Boot.«list» (ac (pv 9) pa_nil)) (ac (cTy call0list (by rfl) T.list PyProof.Rows.Boot.«list» (ac (pv 10) pa_nil)) pa_nil))))))
        (pss_one (ps_for own_pass rfl (pi_range1 rfl T.range (ac pe_int pa_nil)) (pg_name (i := 17) sc_law.nd rfl (Or.inl rfl))
          (pss_cons (ps_set (i := 18) sc_law.nd rfl (Or.inl rfl) (pe_lst (ac (cFn F__law_put hr passes0 (ac (pv 1) (ac (pv 6) (ac (pv 8) (ac (pv 9) pa_nil))))) (ac (cFn F__law_out hr passes0 (ac (pv 1) (ac (pv 6) (ac (pv 10) pa_nil)))) pa_nil))))
          (pss_cons (ps_if (PW.pt (pw_or (pt_not (pt_val (cFn F__law_like hr passes0 (ac (pe_ix ix0L (pv 18) pe_int (fun _ _ => rfl)) (ac (pe_ix ix0L (pv 15) pe_int (fun _ _ => rfl)) pa_nil))))) (pw_or1 (pt_not (pt_val (cFn F__law_like hr passes0 (ac (pe_ix ix0L (pv 18) pe_int (fun _ _ => rfl)) (ac (pe_ix ix0L (pv 15) pe_int (fun _ _ => rfl)) pa_nil))))))))
            (pss_one (ps_ret pe_bl))
            pss_nil)
          (pss_cons (ps_if (pt_cmpR (op_neDK K hr.units) (pe_lst (ac (pv 6) (ac (pv 8) (ac (pv 9) (ac (pv 10) pa_nil))))) (pv 16) (nomark _))
            (pss_one (ps_ret pe_bl))
            pss_nil)
          (pss_one (ps_for own_pass rfl (pi_list (pv 18)) (pg_name (i := 19) sc_law.nd rfl (Or.inl rfl))
            (pss_one (ps_if (pt_cmpR op_eq (pe_ix ix0T (pv 19) pe_int (fun _ _ => rfl)) pe_str (nomark _))
              (pss_one (ps_expr (pe_bm PySem.F.plainAttrs_list PySem.F.slot_list_append PySem.F.type_list_append mt_append (pe_ix ix0T (pe_ix ix0T (pv 19) pe_int (fun _ _ => rfl)) pe_int (fun _ _ => rfl)) (ac pe_int pa_nil))))
              pss_nil))))))))))))))))))))
      (pss_one (ps_ret pe_bl)))), ?_⟩
  try (set_option simprocs false in dsimp only [cxOf])
  have s300 : (300 : Nat) ≤ sizeLine := by decide
  have two : ∀ {a : V} {b : V}, ([a, b] : List V).length ≤ sizeLine := fun {_ _} => by show 2 ≤ sizeLine; decide
  refine ⟨_, rfl, _, _, rfl, l, ns0, 0, rfl, rfl, hq, by decide, fun c0 => ⟨_, _, rfl, c0, 0, rfl, rfl, by decide, by decide, fun n8 _ _ => ⟨_, rfl, n8, rfl, fun kept spare tb H1 gb c31 S1 htb hb => ?_⟩⟩⟩
  have B1 : Bas H1 (.ref tb) kept spare := ⟨⟨tb, rfl, hb⟩, gb⟩
  obtain ⟨t1, t2, e0, e1, e2⟩ := hb.ex
  have k6 := gb.k6
  have s4 := gb.s4
  refine ⟨_, rfl, _, rfl, _, rfl, l, _, rfl, S1.seq hq, fun p1 g1 => ?_⟩
  rw [cut_mid (by decide) (by decide)]
  have N1 := Same.new (o := .lst (((ns0.take (25 : Int).toNat).drop (1 : Int).toNat).map V.int)) g1
  have ec : upd H1 p1 (.lst (((ns0.take (25 : Int).toNat).drop (1 : Int).toNat).map V.int)) p1 = some (.lst (((ns0.take (25 : Int).toNat).drop (1 : Int).toNat).map V.int)) := upd_same
  have lc : ((ns0.take (25 : Int).toNat).drop (1 : Int).toNat).length ≤ 40 := by
    rw [List.length_drop, List.length_take]
    show min 25 _ - 1 ≤ 40
    omega
  have BG := B1.up N1
  have e0 := N1 _ _ e0
  have e1 := N1 _ _ e1
  have e2 := N1 _ _ e2
  have hb := hb.up N1
  generalize upd H1 p1 (.lst (((ns0.take (25 : Int).toNat).drop (1 : Int).toNat).map V.int)) = G at *
  generalize (ns0.take (25 : Int).toNat).drop (1 : Int).toNat = cs at *
  refine ⟨p1, rfl, ⟨_, SqL.of ec⟩, for_enum (K := K) (xs := cs.map V.int) (fun i σ H' => ∃ y : Nat → Option V, σ = [some (.ref l), some (.ref tb), y 2, y 3, y 4, y 5, y 6, y 7, y 8, y 9, y 10, y 11, y 12, y 13, y 14, y 15, y 16, y 17, y 18, y 19] ∧ Same G H') ⟨fun _ => none, rfl, Same.refl G⟩ (fun i σ H' ⟨_, _, S⟩ => SqL.of (S _ _ ec)) ?_ ?_⟩
  rotate_left
  · rintro σ H3 ⟨y, rfl, S3⟩
    exact k H3
  rintro i x pp σ H3 hx ⟨y, rfl, S3⟩ hp
  obtain ⟨z, hz, rfl⟩ := ints_at hx
  have hi := (List.getElem?_eq_some_iff.mp hz).1
  have NP := Same.new (o := .tup [.int (i : Int), .int z]) hp
  have S4 := S3.trans NP
  refine ⟨pp, _, rfl, SqT.of upd_same, rfl, _, _, rfl, _, _, rfl, rfl, ?_⟩
  generalize upd H3 pp (.tup [.int (i : Int), .int z]) = H4 at S4
  have B4 := BG.up S4
  refine ⟨_, rfl, _, rfl, _, _, rfl, rfl, _, _, rfl, z, 30 + (i : Int), rfl, rfl, by omega, by omega, fun nb nb0 _ => ?_⟩
  refine ⟨_, rfl, _, rfl, _, _, rfl, kept, spare, _, B4, rfl, fun n n0 n1 => ?_⟩
  have hfit : Fits kept n := ⟨n0, n1⟩
  refine ⟨_, rfl, _, rfl, _, rfl, _, _, rfl, kept, spare, n, B4, rfl, fun lf0 H5 S5 _ elf0 => ⟨_, rfl, _, _, rfl, nb, 9, rfl, rfl, by decide, by decide, fun m9 m90 _ => ⟨_, _, _, _, rfl, kept, spare, lf0, n, m9, 6, B4.up S5, rfl, rfl, rfl, elf0, hfit, m90, by decide, by decide, fun t5 lf nsf w' H6 S6 et5 elf l20 FW => ?_⟩⟩⟩
  refine ⟨t5, _, rfl, SqT.of et5, rfl, _, _, rfl, _, _, rfl, rfl, ?_⟩
  have A6 := S4.trans (S5.trans S6)
  have B6 := BG.up A6
  clear et5 elf0 S5
  refine ⟨_, rfl, _, rfl, _, _, rfl, nb, 10, rfl, rfl, by decide, by decide, fun m0 m00 _ => ⟨_, _, rfl, kept, spare, m0, B6, rfl, m00, c31, fun t7 lk ls kk ss H7 S7 et7 elk els k3 s2 => ?_⟩⟩
  refine ⟨t7, _, rfl, SqT.of et7, rfl, _, _, rfl, _, _, rfl, rfl, ?_⟩
  have A7 := A6.trans S7
  refine ⟨_, rfl, _, rfl, _, _, rfl, nb, 11, rfl, rfl, by decide, by decide, fun m1 m10 m11 => ⟨_, _, rfl, kept, spare, m1, BG.up A7, rfl, m10, m11, fun t8 lp ps fa H8 S8 et8 elp p20 hfa => ?_⟩⟩
  refine ⟨t8, _, rfl, SqT.of et8, rfl, _, _, rfl, _, _, rfl, rfl, ?_⟩
  have A8 := A7.trans S8
  have elf := (S7.trans S8) _ _ elf
  have elk := S8 _ _ elk
  have els := S8 _ _ els
  have hfa : (fa = "" ∧ PlacesOk ps ((kept ++ spare).length : Nat)) ∨ (fa = "place" ∧ ¬ PlacesOk ps ((kept ++ spare).length : Nat)) := by rw [List.length_append]; exact hfa
  clear et7 et8 S7 S8 A6 A7 S6 B6
  have a0 := A8 _ _ e0
  have a1 := A8 _ _ e1
  have a2 := A8 _ _ e2
  refine ⟨_, rfl, tb, _, _, _, rfl, rfl, SqT.of a0, rfl, _, rfl, lk, _, rfl, .inl ⟨SqL.of elk, fun q1 f1 => ?_⟩⟩
  have M1 := Same.new (o := .tup (kk.map V.int)) f1
  refine ⟨t1, q1, _, _, rfl, rfl, M1 _ _ a1, upd_same, (by rw [List.length_map, List.length_map]; omega), fun q2 H9 S9 eg1 => ?_⟩
  have A9 := M1.trans S9
  refine ⟨_, rfl, tb, _, _, _, rfl, rfl, SqT.of (A9 _ _ a0), rfl, _, rfl, ls, _, rfl, .inl ⟨SqL.of (A9 _ _ els), fun q3 f3 => ?_⟩⟩
  have M3 := Same.new (o := .tup (ss.map V.int)) f3
  refine ⟨t2, q3, _, _, rfl, rfl, (A9.trans M3) _ _ a2, upd_same, (by rw [List.length_map, List.length_map]; omega), fun q4 H10 S10 eg2 => ?_⟩
  rw [← List.map_append] at eg1 eg2
  refine ⟨two, fun tg fg => ?_⟩
  have M5 := Same.new (o := .tup [.ref q2, .ref q4]) fg
  have A10 := A9.trans (M3.trans (S10.trans M5))
  have hg : BaseAt (upd H10 tg (.tup [.ref q2, .ref q4])) tg (kept ++ kk) (spare ++ ss) := ⟨q2, q4, upd_same, (M3.trans (S10.trans M5)) _ _ eg1, M5 _ _ eg2⟩
  have A11 := A8.trans A10
  have elf := A10 _ _ elf
  have elk := A10 _ _ elk
  have els := A10 _ _ els
  have elp := A10 _ _ elp
  have a0 := A10 _ _ a0
  have a1 := A10 _ _ a1
  have a2 := A10 _ _ a2
  generalize upd H10 tg (.tup [.ref q2, .ref q4]) = H11 at *
  clear M5 A10 A9 M3 M1 S9 S10 eg1 eg2 f1 f3 fg A8
  refine ⟨_, rfl, tb, _, _, _, rfl, rfl, SqT.of a0, rfl, t1, _, rfl, .inr (SqT.of a1), ?_⟩
  rw [List.length_map]
  refine ⟨_, rfl, _, rfl, (by show -(2 ^ 62) ≤ (kept.length : Int); omega), (by show (kept.length : Int) < 2 ^ 62; omega), comp_RF (lo := 0) _ (by rw [Int.toNat_natCast]; omega) (fun x => !decide (x ∈ ps)) (fun x => V.int ((kept ++ spare).getD x.toNat 0)) ?_ ?_⟩
  · intro j hj H' Q' R S yes no
    rw [Int.toNat_natCast] at hj
    refine ⟨_, rfl, _, rfl, lp, ps.map V.int, rfl, .inl (SqL.of (S _ _ elp)), rfl, flat_ints ps, _, rfl, ?_⟩
    show if (!inV (V.int (0 + (j : Int))) (ps.map V.int)) = true then _ else _
    rw [in_ints]
    by_cases hm : 0 + (j : Int) ∈ ps
    · rw [decide_eq_true hm]
      exact iteF (no (by rw [decide_eq_true hm]; rfl) H' (Same.refl _))
    · rw [decide_eq_false hm]
      exact iteT ⟨_, rfl, tb, _, _, _, rfl, rfl, SqT.of (S _ _ a0), rfl, _, rfl, t1, _, _, _, rfl, rfl, SqT.of (S _ _ a1), atI_kept (by omega) (by omega), yes (by rw [decide_eq_false hm]; rfl) H' (Same.refl _)⟩
  intro l1 H12 _ S12 el1
  have el1 : H12 l1 = some (.lst ((keepOf (kept ++ spare) 0 kept.length ps).map V.int)) := by rw [el1, Int.toNat_natCast]; unfold keepOf; rw [List.map_map]; rfl
  refine ⟨l1, _, rfl, .inl ⟨SqL.of el1, fun u1 fu1 => ?_⟩⟩
  have M6 := Same.new (o := .tup ((keepOf (kept ++ spare) 0 kept.length ps).map V.int)) fu1
  have A12 := S12.trans M6
  have b0 := A12 _ _ a0
  have b2 := A12 _ _ a2
  have elp12 := A12 _ _ elp
  refine ⟨_, rfl, tb, _, _, _, rfl, rfl, SqT.of b0, rfl, t2, _, rfl, .inr (SqT.of b2), _, rfl, (by show -(2 ^ 62) ≤ ((spare.map V.int).length : Int); omega), (by show ((spare.map V.int).length : Int) < 2 ^ 62; rw [List.length_map]; omega), comp_RF (lo := 0) _ (by rw [Int.toNat_natCast, List.length_map]; omega) (fun x => !decide ((kept.length : Int) + x ∈ ps)) (fun x => V.int ((kept ++ spare).getD ((kept.length : Int) + x).toNat 0)) ?_ ?_⟩
  · intro j hj H' Q' R S yes no
    rw [Int.toNat_natCast, List.length_map] at hj
    refine ⟨_, rfl, _, rfl, _, _, rfl, rfl, _, rfl, lp, ps.map V.int, rfl, .inl (SqL.of (S _ _ elp12)), rfl, flat_ints ps, _, rfl, ?_⟩
    show if (!inV (V.int ((kept.length : Int) + (0 + (j : Int)))) (ps.map V.int)) = true then _ else _
    rw [in_ints]
    by_cases hm : (kept.length : Int) + (0 + (j : Int)) ∈ ps
    · rw [decide_eq_true hm]
      exact iteF (no (by rw [decide_eq_true hm]; rfl) H' (Same.refl _))
    · rw [decide_eq_false hm]
      exact iteT ⟨_, rfl, tb, _, _, _, rfl, rfl, SqT.of (S _ _ b0), rfl, _, rfl, t2, _, _, _, rfl, rfl, SqT.of (S _ _ b2), atI_spare (by omega) (by omega), yes (by rw [decide_eq_false hm]; rfl) H' (Same.refl _)⟩
  intro l2 H13 _ S13 el2
  have el2 : H13 l2 = some (.lst ((keepOf (kept ++ spare) kept.length spare.length ps).map V.int)) := by
    rw [el2, Int.toNat_natCast, List.length_map]; unfold keepOf; rw [List.map_map]; simp only [Int.zero_add]; rfl
  refine ⟨l2, _, rfl, .inl ⟨SqL.of el2, fun u2 fu2 => ⟨two, fun tl fl => ?_⟩⟩⟩
  have M7 := Same.new (o := .tup ((keepOf (kept ++ spare) kept.length spare.length ps).map V.int)) fu2
  have M8 := Same.new (o := .tup [.ref u1, .ref u2]) fl
  have A13 := A12.trans (S13.trans (M7.trans M8))
  have hl : BaseAt (upd (upd H13 u2 (.tup ((keepOf (kept ++ spare) kept.length spare.length ps).map V.int))) tl (.tup [.ref u1, .ref u2])) tl (keepOf (kept ++ spare) 0 kept.length ps) (keepOf (kept ++ spare) kept.length spare.length ps) :=
    ⟨u1, u2, upd_same, (S13.trans (M7.trans M8)) _ _ upd_same, M8 _ _ upd_same⟩
  have lk' : (keepOf (kept ++ spare) 0 kept.length ps).length ≤ kept.length := keep_len
  have ls' : (keepOf (kept ++ spare) kept.length spare.length ps).length ≤ spare.length := keep_len
  have A14 := A11.trans A13
  have hg := hg.up A13
  have elf := A13 _ _ elf
  have elk := A13 _ _ elk
  have els := A13 _ _ els
  have elp := A13 _ _ elp
  show tSeq _ _ _ _ (upd (upd H13 u2 (.tup ((keepOf (kept ++ spare) kept.length spare.length ps).map V.int))) tl (.tup [.ref u1, .ref u2]))
  generalize upd (upd H13 u2 (.tup ((keepOf (kept ++ spare) kept.length spare.length ps).map V.int))) tl (.tup [.ref u1, .ref u2]) = H14 at *
  generalize hk' : keepOf (kept ++ spare) 0 kept.length ps = k' at *
  generalize hs' : keepOf (kept ++ spare) kept.length spare.length ps = s' at *
  clear M8 M7 M6 A13 A12 S13 S12 el1 el2 fu1 fu2 fl b0 b2 elp12 a0 a1 a2 A11
  refine ⟨_, rfl, _, rfl, _, rfl, _, _, _, _, rfl, kept ++ kk, spare ++ ss, n, w', "", tg, rfl, hg, rfl, rfl, rfl, (by rw [List.length_append]; omega), (by rw [List.length_append]; omega), fun d1 x1 v1 H15 S15 ed1 mo1 mv1 => ?_⟩
  refine ⟨_, rfl, _, rfl, _, rfl, _, rfl, _, _, _, _, rfl, k', s', n, w', fa, tl, rfl, hl.up S15, rfl, rfl, rfl, (by omega), (by omega), fun d2 x2 v2 H16 S16 ed2 mo2 mv2 => ⟨two, fun ld fd => ?_⟩⟩
  have M9 := Same.new (o := .lst [.ref d1, .ref d2]) fd
  have A16 := S15.trans (S16.trans M9)
  have ed1 := (S16.trans M9) _ _ ed1
  have ed2 := M9 _ _ ed2
  have mv1 := mv1.up (S16.trans M9)
  have mv2 := mv2.up M9
  have eld : upd H16 ld (.lst [.ref d1, .ref d2]) ld = some (.lst [.ref d1, .ref d2]) := upd_same
  have A17 := A14.trans A16
  have elf := A16 _ _ elf
  have elk := A16 _ _ elk
  have els := A16 _ _ els
  have elp := A16 _ _ elp
  generalize upd H16 ld (.lst [.ref d1, .ref d2]) = H17 at *
  clear A16 M9 S15 S16 hg hl A14 fd
  refine ⟨_, rfl, lf, _, rfl, .inl (SqL.of elf), fun h1 f1 => ?_⟩
  have O1 := Same.new (o := .lst (nsf.map V.int)) f1
  refine ⟨_, rfl, lk, _, rfl, .inl (SqL.of (O1 _ _ elk)), fun h2 f2 => ?_⟩
  have O2 := Same.new (o := .lst (kk.map V.int)) f2
  refine ⟨_, rfl, ls, _, rfl, .inl (SqL.of ((O1.trans O2) _ _ els)), fun h3 f3 => ?_⟩
  have O3 := Same.new (o := .lst (ss.map V.int)) f3
  refine ⟨_, rfl, lp, _, rfl, .inl (SqL.of ((O1.trans (O2.trans O3)) _ _ elp)), fun h4 f4 => ⟨(by show 4 ≤ sizeLine; decide), fun lh fh => ?_⟩⟩
  have O4 := Same.new (o := .lst (ps.map V.int)) f4
  have O5 := Same.new (o := .lst [.ref h1, .ref h2, .ref h3, .ref h4]) fh
  have A18 := O1.trans (O2.trans (O3.trans (O4.trans O5)))
  have eh1 := (O2.trans (O3.trans (O4.trans O5))) _ _ (upd_same (H := H17) (a := h1) (o := .lst (nsf.map V.int)))
  have eh2 := (O3.trans (O4.trans O5)) _ _ (upd_same (H := upd H17 h1 (.lst (nsf.map V.int))) (a := h2) (o := .lst (kk.map V.int)))
  have eh3 := (O4.trans O5) _ _ (upd_same (H := upd (upd H17 h1 (.lst (nsf.map V.int))) h2 (.lst (kk.map V.int))) (a := h3) (o := .lst (ss.map V.int)))
  have eh4 := O5 _ _ (upd_same (H := upd (upd (upd H17 h1 (.lst (nsf.map V.int))) h2 (.lst (kk.map V.int))) h3 (.lst (ss.map V.int))) (a := h4) (o := .lst (ps.map V.int)))
  have eh := (upd_same (H := upd (upd (upd (upd H17 h1 (.lst (nsf.map V.int))) h2 (.lst (kk.map V.int))) h3 (.lst (ss.map V.int))) h4 (.lst (ps.map V.int))) (a := lh) (o := .lst [.ref h1, .ref h2, .ref h3, .ref h4]))
  have A19 := A17.trans A18
  have elf := A18 _ _ elf
  have elk := A18 _ _ elk
  have els := A18 _ _ els
  have elp := A18 _ _ elp
  have ed1 := A18 _ _ ed1
  have ed2 := A18 _ _ ed2
  have eld := A18 _ _ eld
  have mv1 := mv1.up A18
  have mv2 := mv2.up A18
  clear O1 O2 O3 O4 O5 A18 A17
  generalize upd (upd (upd (upd (upd H17 h1 (.lst (nsf.map V.int))) h2 (.lst (kk.map V.int))) h3 (.lst (ss.map V.int))) h4 (.lst (ps.map V.int))) lh (.lst [.ref h1, .ref h2, .ref h3, .ref h4]) = H18 at *
  clear fh f4 f3 f2 f1
  refine ⟨2, rfl, by decide, by decide, for_range (lo := 0) (fun j σ H' => ∃ y17 y18 y19 : Option V, σ = [some (.ref l), some (.ref tb), some (.int i), some (.int z), some (.int nb), some (.int n), some (.ref lf), some (.str w'), some (.ref lk), some (.ref ls), some (.ref lp), some (.str fa), some (.ref tg), some (.int kept.length), some (.ref tl), some (.ref ld), some (.ref lh), y17, y18, y19] ∧ Same H18 H') ⟨_, _, _, rfl, Same.refl _⟩ ?_ ?_⟩
  rotate_left
  · rintro σ H19 ⟨y17, y18, y19, rfl, S19⟩
    exact ⟨fun j => [none, none, some (.int i), some (.int z), some (.int nb), some (.int n), some (.ref lf), some (.str w'), some (.ref lk), some (.ref ls), some (.ref lp), some (.str fa), some (.ref tg), some (.int kept.length), some (.ref tl), some (.ref ld), some (.ref lh), y17, y18, y19].getD j none, rfl, A19.trans S19⟩
  rintro j σ H19 hj ⟨y17, y18, y19, rfl, S19⟩
  have B19 := BG.up (A19.trans S19)
  have FI : FigIn H19 (.ref lf) kept spare n w' := ⟨lf, nsf, rfl, S19 _ _ elf, l20, hfit, FW⟩
  refine ⟨_, rfl, _, rfl, _, rfl, _, rfl, _, _, _, _, rfl, kept, spare, kk, ss, n, w', lk, ls, B19, FI, rfl, S19 _ _ elk, rfl, S19 _ _ els, by omega, by omega, fun r1 x1' v1' Ha Sa ea ma mva => ?_⟩
  refine ⟨_, rfl, _, rfl, _, rfl, _, _, _, rfl, kept, spare, k', s', n, w', fa, lp, ps, B19.up Sa, FI.up Sa, rfl, (S19.trans Sa) _ _ elp, by omega, hk', hs', hfa, fun r2 x2' v2' Hb Sb eb mb mvb => ⟨two, fun lq fq => ?_⟩⟩
  obtain rfl := ma.uniq mo1
  obtain rfl := mb.uniq mo2
  have P1 := Same.new (o := .lst [.ref r1, .ref r2]) fq
  have ea := (Sb.trans P1) _ _ ea
  have eb := P1 _ _ eb
  have elq : upd Hb lq (.lst [.ref r1, .ref r2]) lq = some (.lst [.ref r1, .ref r2]) := upd_same
  have mva := mva.up Sb
  have T1 := S19.trans (Sa.trans (Sb.trans P1))
  refine ⟨_, rfl, lq, _, _, _, rfl, rfl, SqL.of elq, rfl, _, rfl, ld, _, _, _, rfl, rfl, SqL.of (T1 _ _ eld), rfl, _, _, rfl, r1, d1, _, _, _, kept ++ kk, spare ++ ss, n, _, _, rfl, rfl, ea, T1 _ _ ed1, mva.up P1, mv1.up T1, fun Hc Sc => ⟨_, rfl, iteF ?_⟩⟩
  have T2 := T1.trans Sc
  refine ⟨_, rfl, lq, _, _, _, rfl, rfl, SqL.of (Sc _ _ elq), rfl, _, rfl, ld, _, _, _, rfl, rfl, SqL.of (T2 _ _ eld), rfl, _, _, rfl, r2, d2, _, _, _, k', s', n, _, _, rfl, rfl, Sc _ _ eb, T2 _ _ ed2, mvb.up (P1.trans Sc), mv2.up T2, fun Hd Sd => ⟨_, rfl, iteF ?_⟩⟩
  have T3 := T2.trans Sd
  refine ⟨_, rfl, _, rfl, _, rfl, _, rfl, (by show 4 ≤ sizeLine; decide), fun lz fz => ?_⟩
  have P2 := Same.new (o := .lst [.ref lf, .ref lk, .ref ls, .ref lp]) fz
  have T4 := T3.trans P2
  refine ⟨_, rfl, _, _, rd4 upd_same (T4 _ _ elf) (T4 _ _ elk) (T4 _ _ els) (T4 _ _ elp), rd4 (T4 _ _ eh) (T4 _ _ eh1) (T4 _ _ eh2) (T4 _ _ eh3) (T4 _ _ eh4), shaped4 _ _ _ _, shaped4 _ _ _ _, _, rfl, ?_⟩
  rw [eqv4]
  have U := Sc.trans (Sd.trans P2)
  have b0 : Both H18 lq r1 r2 _ _ _ _ 0 _ := ⟨T4, U _ _ elq, U _ _ ea, U _ _ eb, Ap.of mva S19 (P1.trans U) fq, Ap.of mvb (S19.trans Sa) (P1.trans U) fq⟩
  generalize upd Hd lz (.lst [.ref lf, .ref lk, .ref ls, .ref lp]) = He at *
  clear U P2 T3 T2 T1 T4 elq ea eb mva mvb fz
  refine iteF ⟨_, rfl, lq, rfl, ⟨_, SqL.of b0.f⟩, for_list (K := K) (xs := [.ref r1, .ref r2]) (fun m σ H' => ∃ y19 : Option V, σ = [some (.ref l), some (.ref tb), some (.int i), some (.int z), some (.int nb), some (.int n), some (.ref lf), some (.str w'), some (.ref lk), some (.ref ls), some (.ref lp), some (.str fa), some (.ref tg), some (.int kept.length), some (.ref tl), some (.ref ld), some (.ref lh), some (.int (0 + (j : Int))), some (.ref lq), y19] ∧ Both H18 lq r1 r2 _ _ _ _ m H') ⟨_, rfl, b0⟩ (fun m σ H' _ ⟨_, _, b⟩ => SqL.of b.f) ?_ ?_⟩
  rotate_left
  · rintro σ H' ⟨y', rfl, b⟩
    exact ⟨_, _, _, rfl, b.s⟩
  rintro m x σ H' hx ⟨y', rfl, b⟩
  obtain ⟨r, xx, vv, rfl, er, ap⟩ : ∃ (r : Addr) (xx : Str) (vv : V), x = .ref r ∧ H' r = some (.tup [.str xx, vv]) ∧ Ap H18 lq m H' xx vv := by
    rcases m with _ | _ | m
    · cases hx; exact ⟨r1, _, _, rfl, b.e1, b.a1⟩
    · cases hx; exact ⟨r2, _, _, rfl, b.e2, b.a2⟩
    · cases hx
  refine ⟨_, rfl, r, _, _, _, rfl, rfl, SqT.of er, rfl, rfl, _, rfl, ?_⟩
  by_cases hxx : xx = ""
  · obtain ⟨u, tw, lff, xs, rfl, eu, el, hl, hg, hn⟩ := ap hxx
    subst hxx
    refine iteTe (decide_eq_true rfl) ⟨_, rfl, r, _, _, _, rfl, rfl, SqT.of er, rfl, u, _, _, _, rfl, rfl, SqT.of eu, rfl, .inl ⟨rfl, _, SqL.of el⟩, lff, _, _, rfl, rfl, el, ?_, ?_⟩
    · have : m < 2 := (List.getElem?_eq_some_iff.mp hx).1
      omega
    · exact ⟨_, rfl, b.put el hl hg hn⟩
  · exact iteFe (decide_eq_false fun z => hxx (V.str.inj z)) ⟨_, rfl, b.next⟩
end
end K11
set_option Elab.async false
set_option linter.all false
set_option maxRecDepth 100000
set_option maxHeartbeats 4000000
namespace K11
open PySem L2 RF
theorem all_mk {l : PySem.W.OpenLaw} {w : World} {K : PySem.W.Frag} {h : Heap} {mg : Str → Option Value} {fa : Addr} (X : K.In h) (G : h.Ns mainGlobals mg) (hfa : mg "law" = some (.ref fa))
    {f0 : Addr} {od0 an0 : Option Addr} {sl0 : Array (Option Value)} {oc0 kV0 dc0 pm0 cd0 ct0 : Value}
    {f1 : Addr} {od1 an1 : Option Addr} {sl1 : Array (Option Value)} {oc1 kV1 dc1 pm1 cd1 ct1 : Value}
    {f2 : Addr} {od2 an2 : Option Addr} {sl2 : Array (Option Value)} {oc2 kV2 dc2 pm2 cd2 ct2 : Value}
    {f3 : Addr} {od3 an3 : Option Addr} {sl3 : Array (Option Value)} {oc3 kV3 dc3 pm3 cd3 ct3 : Value}
    {f4 : Addr} {od4 an4 : Option Addr} {sl4 : Array (Option Value)} {oc4 kV4 dc4 pm4 cd4 ct4 : Value}
    {f5 : Addr} {od5 an5 : Option Addr} {sl5 : Array (Option Value)} {oc5 kV5 dc5 pm5 cd5 ct5 : Value}
    {f6 : Addr} {od6 an6 : Option Addr} {sl6 : Array (Option Value)} {oc6 kV6 dc6 pm6 cd6 ct6 : Value}
    {f7 : Addr} {od7 an7 : Option Addr} {sl7 : Array (Option Value)} {oc7 kV7 dc7 pm7 cd7 ct7 : Value}
    {f8 : Addr} {od8 an8 : Option Addr} {sl8 : Array (Option Value)} {oc8 kV8 dc8 pm8 cd8 ct8 : Value}
    {f9 : Addr} {od9 an9 : Option Addr} {sl9 : Array (Option Value)} {oc9 kV9 dc9 pm9 cd9 ct9 : Value}
    {f10 : Addr} {od10 an10 : Option Addr} {sl10 : Array (Option Value)} {oc10 kV10 dc10 pm10 cd10 ct10 : Value}
    {f11 : Addr} {od11 an11 : Option Addr} {sl11 : Array (Option Value)} {oc11 kV11 dc11 pm11 cd11 ct11 : Value}
    {f12 : Addr} {od12 an12 : Option Addr} {sl12 : Array (Option Value)} {oc12 kV12 dc12 pm12 cd12 ct12 : Value}
    {f13 : Addr} {od13 an13 : Option Addr} {sl13 : Array (Option Value)} {oc13 kV13 dc13 pm13 cd13 ct13 : Value}
    {f14 : Addr} {od14 an14 : Option Addr} {sl14 : Array (Option Value)} {oc14 kV14 dc14 pm14 cd14 ct14 : Value}
    {f15 : Addr} {od15 an15 : Option Addr} {sl15 : Array (Option Value)} {oc15 kV15 dc15 pm15 cd15 ct15 : Value}
    {f16 : Addr} {od16 an16 : Option Addr} {sl16 : Array (Option Value)} {oc16 kV16 dc16 pm16 cd16 ct16 : Value}
    {f17 : Addr} {od17 an17 : Option Addr} {sl17 : Array (Option Value)} {oc17 kV17 dc17 pm17 cd17 ct17 : Value}
    {f18 : Addr} {od18 an18 : Option Addr} {sl18 : Array (Option Value)} {oc18 kV18 dc18 pm18 cd18 ct18 : Value}
    {f19 : Addr} {od19 an19 : Option Addr} {sl19 : Array (Option Value)} {oc19 kV19 dc19 pm19 cd19 ct19 : Value}
    {f20 : Addr} {od20 an20 : Option Addr} {sl20 : Array (Option Value)} {oc20 kV20 dc20 pm20 cd20 ct20 : Value}
    {f21 : Addr} {od21 an21 : Option Addr} {sl21 : Array (Option Value)} {oc21 kV21 dc21 pm21 cd21 ct21 : Value}
    {f22 : Addr} {od22 an22 : Option Addr} {sl22 : Array (Option Value)} {oc22 kV22 dc22 pm22 cd22 ct22 : Value}
    {f23 : Addr} {od23 an23 : Option Addr} {sl23 : Array (Option Value)} {oc23 kV23 dc23 pm23 cd23 ct23 : Value}
    {f24 : Addr} {od24 an24 : Option Addr} {sl24 : Array (Option Value)} {oc24 kV24 dc24 pm24 cd24 ct24 : Value}
    {f25 : Addr} {od25 an25 : Option Addr} {sl25 : Array (Option Value)} {oc25 kV25 dc25 pm25 cd25 ct25 : Value}
    {f26 : Addr} {od26 an26 : Option Addr} {sl26 : Array (Option Value)} {oc26 kV26 dc26 pm26 cd26 ct26 : Value}
    {f27 : Addr} {od27 an27 : Option Addr} {sl27 : Array (Option Value)} {oc27 kV27 dc27 pm27 cd27 ct27 : Value}
    {f28 : Addr} {od28 an28 : Option Addr} {sl28 : Array (Option Value)} {oc28 kV28 dc28 pm28 cd28 ct28 : Value}
    {f29 : Addr} {od29 an29 : Option Addr} {sl29 : Array (Option Value)} {oc29 kV29 dc29 pm29 cd29 ct29 : Value}
    {f30 : Addr} {od30 an30 : Option Addr} {sl30 : Array (Option Value)} {oc30 kV30 dc30 pm30 cd30 ct30 : Value}
    {f31 : Addr} {od31 an31 : Option Addr} {sl31 : Array (Option Value)} {oc31 kV31 dc31 pm31 cd31 ct31 : Value}
    {f32 : Addr} {od32 an32 : Option Addr} {sl32 : Array (Option Value)} {oc32 kV32 dc32 pm32 cd32 ct32 : Value}
    {f33 : Addr} {od33 an33 : Option Addr} {sl33 : Array (Option Value)} {oc33 kV33 dc33 pm33 cd33 ct33 : Value}
    {f34 : Addr} {od34 an34 : Option Addr} {sl34 : Array (Option Value)} {oc34 kV34 dc34 pm34 cd34 ct34 : Value}
    {f35 : Addr} {od35 an35 : Option Addr} {sl35 : Array (Option Value)} {oc35 kV35 dc35 pm35 cd35 ct35 : Value}
    {f36 : Addr} {od36 an36 : Option Addr} {sl36 : Array (Option Value)} {oc36 kV36 dc36 pm36 cd36 ct36 : Value}
    {f37 : Addr} {od37 an37 : Option Addr} {sl37 : Array (Option Value)} {oc37 kV37 dc37 pm37 cd37 ct37 : Value}
    {f38 : Addr} {od38 an38 : Option Addr} {sl38 : Array (Option Value)} {oc38 kV38 dc38 pm38 cd38 ct38 : Value}
    {f39 : Addr} {od39 an39 : Option Addr} {sl39 : Array (Option Value)} {oc39 kV39 dc39 pm39 cd39 ct39 : Value}
    {f40 : Addr} {od40 an40 : Option Addr} {sl40 : Array (Option Value)} {oc40 kV40 dc40 pm40 cd40 ct40 : Value}
    {cR : Addr}
    {cT : Addr}
    {cB : Addr}
    {cW : Addr}
    {cD : Addr}
    {cP : Addr}
    {cA : Addr}
    {cU : Addr}
    {tk29 : Tok}
    {tk30 : Tok}
    {tk31 : Tok}
    {tk32 : Tok}
    (a0 : PySem.W.nsIn K mainGlobals "common" = some (some (.ref f0))) (l0 : K.lookup f0 = some ⟨oc0, od0, .func (PySem.W.fnOf "common" "common" (defArgs s_common) (defBody s_common) (defScope s_common) .none kV0 dc0 pm0 an0 cd0 ct0), sl0⟩) (c0 : PySem.W.codeIn K cd0 "common" = true) (k0 : PySem.W.keepIn K (.ref f0) = true)
    (a1 : PySem.W.nsIn K mainGlobals "base_of" = some (some (.ref f1))) (l1 : K.lookup f1 = some ⟨oc1, od1, .func (PySem.W.fnOf "base_of" "base_of" (defArgs s_base_of) (defBody s_base_of) (defScope s_base_of) .none kV1 dc1 pm1 an1 cd1 ct1), sl1⟩) (c1 : PySem.W.codeIn K cd1 "base_of" = true) (k1 : PySem.W.keepIn K (.ref f1) = true)
    (a2 : PySem.W.nsIn K mainGlobals "have_common_part" = some (some (.ref f2))) (l2 : K.lookup f2 = some ⟨oc2, od2, .func (PySem.W.fnOf "have_common_part" "have_common_part" (defArgs s_have_common_part) (defBody s_have_common_part) (defScope s_have_common_part) .none kV2 dc2 pm2 an2 cd2 ct2), sl2⟩) (c2 : PySem.W.codeIn K cd2 "have_common_part" = true) (k2 : PySem.W.keepIn K (.ref f2) = true)
    (a3 : PySem.W.nsIn K mainGlobals "divisors_of" = some (some (.ref f3))) (l3 : K.lookup f3 = some ⟨oc3, od3, .func (PySem.W.fnOf "divisors_of" "divisors_of" (defArgs s_divisors_of) (defBody s_divisors_of) (defScope s_divisors_of) .none kV3 dc3 pm3 an3 cd3 ct3), sl3⟩) (c3 : PySem.W.codeIn K cd3 "divisors_of" = true) (k3 : PySem.W.keepIn K (.ref f3) = true)
    (a4 : PySem.W.nsIn K mainGlobals "refuse_bad_places" = some (some (.ref f4))) (l4 : K.lookup f4 = some ⟨oc4, od4, .func (PySem.W.fnOf "refuse_bad_places" "refuse_bad_places" (defArgs s_refuse_bad_places) (defBody s_refuse_bad_places) (defScope s_refuse_bad_places) .none kV4 dc4 pm4 an4 cd4 ct4), sl4⟩) (c4 : PySem.W.codeIn K cd4 "refuse_bad_places" = true) (k4 : PySem.W.keepIn K (.ref f4) = true)
    (a5 : PySem.W.nsIn K mainGlobals "product_of" = some (some (.ref f5))) (l5 : K.lookup f5 = some ⟨oc5, od5, .func (PySem.W.fnOf "product_of" "product_of" (defArgs s_product_of) (defBody s_product_of) (defScope s_product_of) .none kV5 dc5 pm5 an5 cd5 ct5), sl5⟩) (c5 : PySem.W.codeIn K cd5 "product_of" = true) (k5 : PySem.W.keepIn K (.ref f5) = true)
    (a6 : PySem.W.nsIn K mainGlobals "span_of" = some (some (.ref f6))) (l6 : K.lookup f6 = some ⟨oc6, od6, .func (PySem.W.fnOf "span_of" "span_of" (defArgs s_span_of) (defBody s_span_of) (defScope s_span_of) .none kV6 dc6 pm6 an6 cd6 ct6), sl6⟩) (c6 : PySem.W.codeIn K cd6 "span_of" = true) (k6 : PySem.W.keepIn K (.ref f6) = true)
    (a7 : PySem.W.nsIn K mainGlobals "lowest" = some (some (.ref f7))) (l7 : K.lookup f7 = some ⟨oc7, od7, .func (PySem.W.fnOf "lowest" "lowest" (defArgs s_lowest) (defBody s_lowest) (defScope s_lowest) .none kV7 dc7 pm7 an7 cd7 ct7), sl7⟩) (c7 : PySem.W.codeIn K cd7 "lowest" = true) (k7 : PySem.W.keepIn K (.ref f7) = true)
    (a8 : PySem.W.nsIn K mainGlobals "highest" = some (some (.ref f8))) (l8 : K.lookup f8 = some ⟨oc8, od8, .func (PySem.W.fnOf "highest" "highest" (defArgs s_highest) (defBody s_highest) (defScope s_highest) .none kV8 dc8 pm8 an8 cd8 ct8), sl8⟩) (c8 : PySem.W.codeIn K cd8 "highest" = true) (k8 : PySem.W.keepIn K (.ref f8) = true)
    (a9 : PySem.W.nsIn K mainGlobals "fits" = some (some (.ref f9))) (l9 : K.lookup f9 = some ⟨oc9, od9, .func (PySem.W.fnOf "fits" "fits" (defArgs s_fits) (defBody s_fits) (defScope s_fits) .none kV9 dc9 pm9 an9 cd9 ct9), sl9⟩) (c9 : PySem.W.codeIn K cd9 "fits" = true) (k9 : PySem.W.keepIn K (.ref f9) = true)
    (a10 : PySem.W.nsIn K mainGlobals "figure_of" = some (some (.ref f10))) (l10 : K.lookup f10 = some ⟨oc10, od10, .func (PySem.W.fnOf "figure_of" "figure_of" (defArgs s_figure_of) (defBody s_figure_of) (defScope s_figure_of) .none kV10 dc10 pm10 an10 cd10 ct10), sl10⟩) (c10 : PySem.W.codeIn K cd10 "figure_of" = true) (k10 : PySem.W.keepIn K (.ref f10) = true)
    (a11 : PySem.W.nsIn K mainGlobals "number_of" = some (some (.ref f11))) (l11 : K.lookup f11 = some ⟨oc11, od11, .func (PySem.W.fnOf "number_of" "number_of" (defArgs s_number_of) (defBody s_number_of) (defScope s_number_of) .none kV11 dc11 pm11 an11 cd11 ct11), sl11⟩) (c11 : PySem.W.codeIn K cd11 "number_of" = true) (k11 : PySem.W.keepIn K (.ref f11) = true)
    (a12 : PySem.W.nsIn K mainGlobals "is_right" = some (some (.ref f12))) (l12 : K.lookup f12 = some ⟨oc12, od12, .func (PySem.W.fnOf "is_right" "is_right" (defArgs s_is_right) (defBody s_is_right) (defScope s_is_right) .none kV12 dc12 pm12 an12 cd12 ct12), sl12⟩) (c12 : PySem.W.codeIn K cd12 "is_right" = true) (k12 : PySem.W.keepIn K (.ref f12) = true)
    (a13 : PySem.W.nsIn K mainGlobals "rests_of" = some (some (.ref f13))) (l13 : K.lookup f13 = some ⟨oc13, od13, .func (PySem.W.fnOf "rests_of" "rests_of" (defArgs s_rests_of) (defBody s_rests_of) (defScope s_rests_of) .none kV13 dc13 pm13 an13 cd13 ct13), sl13⟩) (c13 : PySem.W.codeIn K cd13 "rests_of" = true) (k13 : PySem.W.keepIn K (.ref f13) = true)
    (a14 : PySem.W.nsIn K mainGlobals "refuse_no_figure" = some (some (.ref f14))) (l14 : K.lookup f14 = some ⟨oc14, od14, .func (PySem.W.fnOf "refuse_no_figure" "refuse_no_figure" (defArgs s_refuse_no_figure) (defBody s_refuse_no_figure) (defScope s_refuse_no_figure) .none kV14 dc14 pm14 an14 cd14 ct14), sl14⟩) (c14 : PySem.W.codeIn K cd14 "refuse_no_figure" = true) (k14 : PySem.W.keepIn K (.ref f14) = true)
    (a15 : PySem.W.nsIn K mainGlobals "number_by_kept" = some (some (.ref f15))) (l15 : K.lookup f15 = some ⟨oc15, od15, .func (PySem.W.fnOf "number_by_kept" "number_by_kept" (defArgs s_number_by_kept) (defBody s_number_by_kept) (defScope s_number_by_kept) .none kV15 dc15 pm15 an15 cd15 ct15), sl15⟩) (c15 : PySem.W.codeIn K cd15 "number_by_kept" = true) (k15 : PySem.W.keepIn K (.ref f15) = true)
    (a16 : PySem.W.nsIn K mainGlobals "number_by_rests" = some (some (.ref f16))) (l16 : K.lookup f16 = some ⟨oc16, od16, .func (PySem.W.fnOf "number_by_rests" "number_by_rests" (defArgs s_number_by_rests) (defBody s_number_by_rests) (defScope s_number_by_rests) .none kV16 dc16 pm16 an16 cd16 ct16), sl16⟩) (c16 : PySem.W.codeIn K cd16 "number_by_rests" = true) (k16 : PySem.W.keepIn K (.ref f16) = true)
    (a17 : PySem.W.nsIn K mainGlobals "inverse" = some (some (.ref f17))) (l17 : K.lookup f17 = some ⟨oc17, od17, .func (PySem.W.fnOf "inverse" "inverse" (defArgs s_inverse) (defBody s_inverse) (defScope s_inverse) .none kV17 dc17 pm17 an17 cd17 ct17), sl17⟩) (c17 : PySem.W.codeIn K cd17 "inverse" = true) (k17 : PySem.W.keepIn K (.ref f17) = true)
    (a18 : PySem.W.nsIn K mainGlobals "put_in" = some (some (.ref f18))) (l18 : K.lookup f18 = some ⟨oc18, od18, .func (PySem.W.fnOf "put_in" "put_in" (defArgs s_put_in) (defBody s_put_in) (defScope s_put_in) .none kV18 dc18 pm18 an18 cd18 ct18), sl18⟩) (c18 : PySem.W.codeIn K cd18 "put_in" = true) (k18 : PySem.W.keepIn K (.ref f18) = true)
    (a19 : PySem.W.nsIn K mainGlobals "taken_out" = some (some (.ref f19))) (l19 : K.lookup f19 = some ⟨oc19, od19, .func (PySem.W.fnOf "taken_out" "taken_out" (defArgs s_taken_out) (defBody s_taken_out) (defScope s_taken_out) .none kV19 dc19 pm19 an19 cd19 ct19), sl19⟩) (c19 : PySem.W.codeIn K cd19 "taken_out" = true) (k19 : PySem.W.keepIn K (.ref f19) = true)
    (a20 : PySem.W.nsIn K mainGlobals "_law_cell_at" = some (some (.ref f20))) (l20 : K.lookup f20 = some ⟨oc20, od20, .func (PySem.W.fnOf "_law_cell_at" "_law_cell_at" (defArgs s__law_cell_at) (defBody s__law_cell_at) (defScope s__law_cell_at) .none kV20 dc20 pm20 an20 cd20 ct20), sl20⟩) (c20 : PySem.W.codeIn K cd20 "_law_cell_at" = true) (k20 : PySem.W.keepIn K (.ref f20) = true)
    (a21 : PySem.W.nsIn K mainGlobals "_law_mixed" = some (some (.ref f21))) (l21 : K.lookup f21 = some ⟨oc21, od21, .func (PySem.W.fnOf "_law_mixed" "_law_mixed" (defArgs s__law_mixed) (defBody s__law_mixed) (defScope s__law_mixed) .none kV21 dc21 pm21 an21 cd21 ct21), sl21⟩) (c21 : PySem.W.codeIn K cd21 "_law_mixed" = true) (k21 : PySem.W.keepIn K (.ref f21) = true)
    (a22 : PySem.W.nsIn K mainGlobals "_law_base_by" = some (some (.ref f22))) (l22 : K.lookup f22 = some ⟨oc22, od22, .func (PySem.W.fnOf "_law_base_by" "_law_base_by" (defArgs s__law_base_by) (defBody s__law_base_by) (defScope s__law_base_by) .none kV22 dc22 pm22 an22 cd22 ct22), sl22⟩) (c22 : PySem.W.codeIn K cd22 "_law_base_by" = true) (k22 : PySem.W.keepIn K (.ref f22) = true)
    (a23 : PySem.W.nsIn K mainGlobals "_law_any_base" = some (some (.ref f23))) (l23 : K.lookup f23 = some ⟨oc23, od23, .func (PySem.W.fnOf "_law_any_base" "_law_any_base" (defArgs s__law_any_base) (defBody s__law_any_base) (defScope s__law_any_base) .none kV23 dc23 pm23 an23 cd23 ct23), sl23⟩) (c23 : PySem.W.codeIn K cd23 "_law_any_base" = true) (k23 : PySem.W.keepIn K (.ref f23) = true)
    (a24 : PySem.W.nsIn K mainGlobals "_law_span" = some (some (.ref f24))) (l24 : K.lookup f24 = some ⟨oc24, od24, .func (PySem.W.fnOf "_law_span" "_law_span" (defArgs s__law_span) (defBody s__law_span) (defScope s__law_span) .none kV24 dc24 pm24 an24 cd24 ct24), sl24⟩) (c24 : PySem.W.codeIn K cd24 "_law_span" = true) (k24 : PySem.W.keepIn K (.ref f24) = true)
    (a25 : PySem.W.nsIn K mainGlobals "_law_fitting" = some (some (.ref f25))) (l25 : K.lookup f25 = some ⟨oc25, od25, .func (PySem.W.fnOf "_law_fitting" "_law_fitting" (defArgs s__law_fitting) (defBody s__law_fitting) (defScope s__law_fitting) .none kV25 dc25 pm25 an25 cd25 ct25), sl25⟩) (c25 : PySem.W.codeIn K cd25 "_law_fitting" = true) (k25 : PySem.W.keepIn K (.ref f25) = true)
    (a26 : PySem.W.nsIn K mainGlobals "_law_figure" = some (some (.ref f26))) (l26 : K.lookup f26 = some ⟨oc26, od26, .func (PySem.W.fnOf "_law_figure" "_law_figure" (defArgs s__law_figure) (defBody s__law_figure) (defScope s__law_figure) .none kV26 dc26 pm26 an26 cd26 ct26), sl26⟩) (c26 : PySem.W.codeIn K cd26 "_law_figure" = true) (k26 : PySem.W.keepIn K (.ref f26) = true)
    (a27 : PySem.W.nsIn K mainGlobals "_law_same" = some (some (.ref f27))) (l27 : K.lookup f27 = some ⟨oc27, od27, .func (PySem.W.fnOf "_law_same" "_law_same" (defArgs s__law_same) (defBody s__law_same) (defScope s__law_same) .none kV27 dc27 pm27 an27 cd27 ct27), sl27⟩) (c27 : PySem.W.codeIn K cd27 "_law_same" = true) (k27 : PySem.W.keepIn K (.ref f27) = true)
    (a28 : PySem.W.nsIn K mainGlobals "_law_class" = some (some (.ref f28))) (l28 : K.lookup f28 = some ⟨oc28, od28, .func (PySem.W.fnOf "_law_class" "_law_class" (defArgs s__law_class) (defBody s__law_class) (defScope s__law_class) .none kV28 dc28 pm28 an28 cd28 ct28), sl28⟩) (c28 : PySem.W.codeIn K cd28 "_law_class" = true) (k28 : PySem.W.keepIn K (.ref f28) = true)
    (a29 : PySem.W.nsIn K mainGlobals "_law_spoilt" = some (some (.ref f29))) (l29 : K.lookup f29 = some ⟨oc29, od29, .func (PySem.W.fnOf "_law_spoilt" "_law_spoilt" (defArgs s__law_spoilt) (defBody s__law_spoilt) (defScope s__law_spoilt) .none kV29 dc29 pm29 an29 cd29 ct29), sl29⟩) (c29 : PySem.W.codeIn K cd29 "_law_spoilt" = true) (k29 : PySem.W.keepIn K (.ref f29) = true)
    (a30 : PySem.W.nsIn K mainGlobals "_law_maybe" = some (some (.ref f30))) (l30 : K.lookup f30 = some ⟨oc30, od30, .func (PySem.W.fnOf "_law_maybe" "_law_maybe" (defArgs s__law_maybe) (defBody s__law_maybe) (defScope s__law_maybe) .none kV30 dc30 pm30 an30 cd30 ct30), sl30⟩) (c30 : PySem.W.codeIn K cd30 "_law_maybe" = true) (k30 : PySem.W.keepIn K (.ref f30) = true)
    (a31 : PySem.W.nsIn K mainGlobals "_law_fits" = some (some (.ref f31))) (l31 : K.lookup f31 = some ⟨oc31, od31, .func (PySem.W.fnOf "_law_fits" "_law_fits" (defArgs s__law_fits) (defBody s__law_fits) (defScope s__law_fits) .none kV31 dc31 pm31 an31 cd31 ct31), sl31⟩) (c31 : PySem.W.codeIn K cd31 "_law_fits" = true) (k31 : PySem.W.keepIn K (.ref f31) = true)
    (a32 : PySem.W.nsIn K mainGlobals "_law_common" = some (some (.ref f32))) (l32 : K.lookup f32 = some ⟨oc32, od32, .func (PySem.W.fnOf "_law_common" "_law_common" (defArgs s__law_common) (defBody s__law_common) (defScope s__law_common) .none kV32 dc32 pm32 an32 cd32 ct32), sl32⟩) (c32 : PySem.W.codeIn K cd32 "_law_common" = true) (k32 : PySem.W.keepIn K (.ref f32) = true)
    (a33 : PySem.W.nsIn K mainGlobals "_law_is_base" = some (some (.ref f33))) (l33 : K.lookup f33 = some ⟨oc33, od33, .func (PySem.W.fnOf "_law_is_base" "_law_is_base" (defArgs s__law_is_base) (defBody s__law_is_base) (defScope s__law_is_base) .none kV33 dc33 pm33 an33 cd33 ct33), sl33⟩) (c33 : PySem.W.codeIn K cd33 "_law_is_base" = true) (k33 : PySem.W.keepIn K (.ref f33) = true)
    (a34 : PySem.W.nsIn K mainGlobals "_law_put" = some (some (.ref f34))) (l34 : K.lookup f34 = some ⟨oc34, od34, .func (PySem.W.fnOf "_law_put" "_law_put" (defArgs s__law_put) (defBody s__law_put) (defScope s__law_put) .none kV34 dc34 pm34 an34 cd34 ct34), sl34⟩) (c34 : PySem.W.codeIn K cd34 "_law_put" = true) (k34 : PySem.W.keepIn K (.ref f34) = true)
    (a35 : PySem.W.nsIn K mainGlobals "_law_out" = some (some (.ref f35))) (l35 : K.lookup f35 = some ⟨oc35, od35, .func (PySem.W.fnOf "_law_out" "_law_out" (defArgs s__law_out) (defBody s__law_out) (defScope s__law_out) .none kV35 dc35 pm35 an35 cd35 ct35), sl35⟩) (c35 : PySem.W.codeIn K cd35 "_law_out" = true) (k35 : PySem.W.keepIn K (.ref f35) = true)
    (a36 : PySem.W.nsIn K mainGlobals "_law_more" = some (some (.ref f36))) (l36 : K.lookup f36 = some ⟨oc36, od36, .func (PySem.W.fnOf "_law_more" "_law_more" (defArgs s__law_more) (defBody s__law_more) (defScope s__law_more) .none kV36 dc36 pm36 an36 cd36 ct36), sl36⟩) (c36 : PySem.W.codeIn K cd36 "_law_more" = true) (k36 : PySem.W.keepIn K (.ref f36) = true)
    (a37 : PySem.W.nsIn K mainGlobals "_law_places" = some (some (.ref f37))) (l37 : K.lookup f37 = some ⟨oc37, od37, .func (PySem.W.fnOf "_law_places" "_law_places" (defArgs s__law_places) (defBody s__law_places) (defScope s__law_places) .none kV37 dc37 pm37 an37 cd37 ct37), sl37⟩) (c37 : PySem.W.codeIn K cd37 "_law_places" = true) (k37 : PySem.W.keepIn K (.ref f37) = true)
    (a38 : PySem.W.nsIn K mainGlobals "_law_moved" = some (some (.ref f38))) (l38 : K.lookup f38 = some ⟨oc38, od38, .func (PySem.W.fnOf "_law_moved" "_law_moved" (defArgs s__law_moved) (defBody s__law_moved) (defScope s__law_moved) .none kV38 dc38 pm38 an38 cd38 ct38), sl38⟩) (c38 : PySem.W.codeIn K cd38 "_law_moved" = true) (k38 : PySem.W.keepIn K (.ref f38) = true)
    (a39 : PySem.W.nsIn K mainGlobals "_law_like" = some (some (.ref f39))) (l39 : K.lookup f39 = some ⟨oc39, od39, .func (PySem.W.fnOf "_law_like" "_law_like" (defArgs s__law_like) (defBody s__law_like) (defScope s__law_like) .none kV39 dc39 pm39 an39 cd39 ct39), sl39⟩) (c39 : PySem.W.codeIn K cd39 "_law_like" = true) (k39 : PySem.W.keepIn K (.ref f39) = true)
    (a40 : PySem.W.nsIn K mainGlobals "law" = some (some (.ref f40))) (l40 : K.lookup f40 = some ⟨oc40, od40, .func (PySem.W.fnOf "law" "law" (defArgs s_law) (defBody s_law) (defScope s_law) .none kV40 dc40 pm40 an40 cd40 ct40), sl40⟩) (c40 : PySem.W.codeIn K cd40 "law" = true) (k40 : PySem.W.keepIn K (.ref f40) = true)
    (z0 : PySem.W.nsIn K mainGlobals "len" = some none)
    (z1 : PySem.W.nsIn K mainGlobals "isinstance" = some none)
    (z2 : PySem.W.nsIn K mainGlobals "sorted" = some none)
    (z3 : PySem.W.nsIn K mainGlobals "list" = some none)
    (z4 : PySem.W.nsIn K mainGlobals "tuple" = some none)
    (z5 : PySem.W.nsIn K mainGlobals "int" = some none)
    (z6 : PySem.W.nsIn K mainGlobals "bool" = some none)
    (z7 : PySem.W.nsIn K mainGlobals "zip" = some none)
    (z8 : PySem.W.nsIn K mainGlobals "all" = some none)
    (z9 : PySem.W.nsIn K mainGlobals "min" = some none)
    (z10 : PySem.W.nsIn K mainGlobals "max" = some none)
    (z11 : PySem.W.nsIn K mainGlobals "abs" = some none)
    (z12 : PySem.W.nsIn K mainGlobals "range" = some none)
    (z13 : PySem.W.nsIn K mainGlobals "enumerate" = some none)
    (z14 : PySem.W.nsIn K mainGlobals "set" = some none)
    (z15 : PySem.W.nsIn K mainGlobals "ValueError" = some none)
    (z16 : PySem.W.nsIn K mainGlobals "RestError" = some (some (.ref cR)))
    (z17 : PySem.W.nsIn K mainGlobals "TooGreat" = some (some (.ref cT)))
    (z18 : PySem.W.excIn K cT bmV "ValueError.__new__" = true)
    (z19 : PySem.W.nsIn K mainGlobals "BadFigure" = some (some (.ref cB)))
    (z20 : PySem.W.excIn K cB bmV "ValueError.__new__" = true)
    (z21 : PySem.W.nsIn K mainGlobals "Wrong" = some (some (.ref cW)))
    (z22 : PySem.W.excIn K cW bmV "ValueError.__new__" = true)
    (z23 : PySem.W.nsIn K mainGlobals "BadDivisor" = some (some (.ref cD)))
    (z24 : PySem.W.nsIn K mainGlobals "BadPlace" = some (some (.ref cP)))
    (z25 : PySem.W.excIn K cP bmV "ValueError.__new__" = true)
    (z26 : PySem.W.nsIn K mainGlobals "BadBase" = some (some (.ref cA)))
    (z27 : PySem.W.excIn K cA bmV "ValueError.__new__" = true)
    (z28 : PySem.W.nsIn K mainGlobals "Unlike" = some (some (.ref cU)))
    (z29 : PySem.W.nsIn K mainGlobals "MOST_KEPT" = some (some (.int 6 tk29)))
    (z30 : PySem.W.nsIn K mainGlobals "MOST_SPARE" = some (some (.int 4 tk30)))
    (z31 : PySem.W.nsIn K mainGlobals "LEAST_DIVISOR" = some (some (.int 2 tk31)))
    (z32 : PySem.W.nsIn K mainGlobals "GREATEST_DIVISOR" = some (some (.int 1000000 tk32)))
    (xsp : PySem.W.specialIn K (.builtin "object.__class__") "__get__" = some (some (.builtin "getset_descriptor.__get__")))
    (xtk : PySem.W.takesIn K (.builtin "object.__class__") = some true)
    (xga_cT : PySem.W.findIn K (.ref cT) "__getattribute__" = some (some (.builtin "BaseException.__getattribute__")))
    (xgt_cT : PySem.W.findIn K (.ref cT) "__getattr__" = some none)
    (xcl_cT : PySem.W.findIn K (.ref cT) "__class__" = some (some (.builtin "object.__class__")))
    (xmo_cT : PySem.W.mroIn K cT (.type "object") = some true)
    (xmb_cT : PySem.W.mroIn K cT (.type "BaseException") = some true)
    (xr_cT : PySem.W.exmOne K (.ref cT) (.ref cR) = some true)
    (xv_cT : PySem.W.kitOne K (.ref cT) (.type "ValueError") = some true)
    (xk0_cT : PySem.W.kitOne K (.ref cT) (.ref cT) = some true)
    (xk1_cT : PySem.W.kitOne K (.ref cT) (.ref cB) = some false)
    (xk2_cT : PySem.W.kitOne K (.ref cT) (.ref cW) = some false)
    (xk3_cT : PySem.W.kitOne K (.ref cT) (.ref cD) = some false)
    (xk4_cT : PySem.W.kitOne K (.ref cT) (.ref cP) = some false)
    (xk5_cT : PySem.W.kitOne K (.ref cT) (.ref cA) = some false)
    (xk6_cT : PySem.W.kitOne K (.ref cT) (.ref cU) = some false)
    (xga_cB : PySem.W.findIn K (.ref cB) "__getattribute__" = some (some (.builtin "BaseException.__getattribute__")))
    (xgt_cB : PySem.W.findIn K (.ref cB) "__getattr__" = some none)
    (xcl_cB : PySem.W.findIn K (.ref cB) "__class__" = some (some (.builtin "object.__class__")))
    (xmo_cB : PySem.W.mroIn K cB (.type "object") = some true)
    (xmb_cB : PySem.W.mroIn K cB (.type "BaseException") = some true)
    (xr_cB : PySem.W.exmOne K (.ref cB) (.ref cR) = some true)
    (xv_cB : PySem.W.kitOne K (.ref cB) (.type "ValueError") = some true)
    (xk0_cB : PySem.W.kitOne K (.ref cB) (.ref cT) = some false)
    (xk1_cB : PySem.W.kitOne K (.ref cB) (.ref cB) = some true)
    (xk2_cB : PySem.W.kitOne K (.ref cB) (.ref cW) = some false)
    (xk3_cB : PySem.W.kitOne K (.ref cB) (.ref cD) = some false)
    (xk4_cB : PySem.W.kitOne K (.ref cB) (.ref cP) = some false)
    (xk5_cB : PySem.W.kitOne K (.ref cB) (.ref cA) = some false)
    (xk6_cB : PySem.W.kitOne K (.ref cB) (.ref cU) = some false)
    (xga_cW : PySem.W.findIn K (.ref cW) "__getattribute__" = some (some (.builtin "BaseException.__getattribute__")))
    (xgt_cW : PySem.W.findIn K (.ref cW) "__getattr__" = some none)
    (xcl_cW : PySem.W.findIn K (.ref cW) "__class__" = some (some (.builtin "object.__class__")))
    (xmo_cW : PySem.W.mroIn K cW (.type "object") = some true)
    (xmb_cW : PySem.W.mroIn K cW (.type "BaseException") = some true)
    (xr_cW : PySem.W.exmOne K (.ref cW) (.ref cR) = some true)
    (xv_cW : PySem.W.kitOne K (.ref cW) (.type "ValueError") = some true)
    (xk0_cW : PySem.W.kitOne K (.ref cW) (.ref cT) = some false)
    (xk1_cW : PySem.W.kitOne K (.ref cW) (.ref cB) = some false)
    (xk2_cW : PySem.W.kitOne K (.ref cW) (.ref cW) = some true)
    (xk3_cW : PySem.W.kitOne K (.ref cW) (.ref cD) = some false)
    (xk4_cW : PySem.W.kitOne K (.ref cW) (.ref cP) = some false)
    (xk5_cW : PySem.W.kitOne K (.ref cW) (.ref cA) = some false)
    (xk6_cW : PySem.W.kitOne K (.ref cW) (.ref cU) = some false)
    (xga_cP : PySem.W.findIn K (.ref cP) "__getattribute__" = some (some (.builtin "BaseException.__getattribute__")))
    (xgt_cP : PySem.W.findIn K (.ref cP) "__getattr__" = some none)
    (xcl_cP : PySem.W.findIn K (.ref cP) "__class__" = some (some (.builtin "object.__class__")))
    (xmo_cP : PySem.W.mroIn K cP (.type "object") = some true)
    (xmb_cP : PySem.W.mroIn K cP (.type "BaseException") = some true)
    (xr_cP : PySem.W.exmOne K (.ref cP) (.ref cR) = some true)
    (xv_cP : PySem.W.kitOne K (.ref cP) (.type "ValueError") = some true)
    (xk0_cP : PySem.W.kitOne K (.ref cP) (.ref cT) = some false)
    (xk1_cP : PySem.W.kitOne K (.ref cP) (.ref cB) = some false)
    (xk2_cP : PySem.W.kitOne K (.ref cP) (.ref cW) = some false)
    (xk3_cP : PySem.W.kitOne K (.ref cP) (.ref cD) = some false)
    (xk4_cP : PySem.W.kitOne K (.ref cP) (.ref cP) = some true)
    (xk5_cP : PySem.W.kitOne K (.ref cP) (.ref cA) = some false)
    (xk6_cP : PySem.W.kitOne K (.ref cP) (.ref cU) = some false)
    (xga_cA : PySem.W.findIn K (.ref cA) "__getattribute__" = some (some (.builtin "BaseException.__getattribute__")))
    (xgt_cA : PySem.W.findIn K (.ref cA) "__getattr__" = some none)
    (xcl_cA : PySem.W.findIn K (.ref cA) "__class__" = some (some (.builtin "object.__class__")))
    (xmo_cA : PySem.W.mroIn K cA (.type "object") = some true)
    (xmb_cA : PySem.W.mroIn K cA (.type "BaseException") = some true)
    (xr_cA : PySem.W.exmOne K (.ref cA) (.ref cR) = some true)
    (xv_cA : PySem.W.kitOne K (.ref cA) (.type "ValueError") = some true)
    (xk0_cA : PySem.W.kitOne K (.ref cA) (.ref cT) = some false)
    (xk1_cA : PySem.W.kitOne K (.ref cA) (.ref cB) = some false)
    (xk2_cA : PySem.W.kitOne K (.ref cA) (.ref cW) = some false)
    (xk3_cA : PySem.W.kitOne K (.ref cA) (.ref cD) = some false)
    (xk4_cA : PySem.W.kitOne K (.ref cA) (.ref cP) = some false)
    (xk5_cA : PySem.W.kitOne K (.ref cA) (.ref cA) = some true)
    (xk6_cA : PySem.W.kitOne K (.ref cA) (.ref cU) = some false) :
    ∃ fd : FuncData, (∀ (s : Shared) (v : Value), BindsTo s fd ⟨[v], []⟩ [("_law_script", v)]) ∧ ∀ base : Heap, K.In base → base.Ns mainGlobals mg → FnOk l.prog w K mg base (CX1 l.prog w) 49 fa fd ["_law_script"] (sp_law K) := by
  have e := hfa.symm.trans (PySem.W.mg_of X G a40)
  cases e
  have T : Txt K mg cR cT cB cW cD cP cA cU := ⟨PySem.W.mg_none_of X G z0, PySem.W.mg_none_of X G z1, PySem.W.mg_none_of X G z2, PySem.W.mg_none_of X G z3, PySem.W.mg_none_of X G z4, PySem.W.mg_none_of X G z5, PySem.W.mg_none_of X G z6, PySem.W.mg_none_of X G z7, PySem.W.mg_none_of X G z8, PySem.W.mg_none_of X G z9, PySem.W.mg_none_of X G z10, PySem.W.mg_none_of X G z11, PySem.W.mg_none_of X G z12, PySem.W.mg_none_of X G z13, PySem.W.mg_none_of X G z14, PySem.W.mg_none_of X G z15, PySem.W.mg_of X G z16, PySem.W.mg_of X G z17, z18, PySem.W.mg_of X G z19, z20, PySem.W.mg_of X G z21, z22, PySem.W.mg_of X G z23, PySem.W.mg_of X G z24, z25, PySem.W.mg_of X G z26, z27, PySem.W.mg_of X G z28, ⟨_, PySem.W.mg_of X G z29⟩, ⟨_, PySem.W.mg_of X G z30⟩, ⟨_, PySem.W.mg_of X G z31⟩, ⟨_, PySem.W.mg_of X G z32⟩⟩
  have D0 : Def K mg "common" s_common := def_mk X G a0 l0 c0 k0
  have D1 : Def K mg "base_of" s_base_of := def_mk X G a1 l1 c1 k1
  have D2 : Def K mg "have_common_part" s_have_common_part := def_mk X G a2 l2 c2 k2
  have D3 : Def K mg "divisors_of" s_divisors_of := def_mk X G a3 l3 c3 k3
  have D4 : Def K mg "refuse_bad_places" s_refuse_bad_places := def_mk X G a4 l4 c4 k4
  have D5 : Def K mg "product_of" s_product_of := def_mk X G a5 l5 c5 k5
  have D6 : Def K mg "span_of" s_span_of := def_mk X G a6 l6 c6 k6
  have D7 : Def K mg "lowest" s_lowest := def_mk X G a7 l7 c7 k7
  have D8 : Def K mg "highest" s_highest := def_mk X G a8 l8 c8 k8
  have D9 : Def K mg "fits" s_fits := def_mk X G a9 l9 c9 k9
  have D10 : Def K mg "figure_of" s_figure_of := def_mk X G a10 l10 c10 k10
  have D11 : Def K mg "number_of" s_number_of := def_mk X G a11 l11 c11 k11
  have D12 : Def K mg "is_right" s_is_right := def_mk X G a12 l12 c12 k12
  have D13 : Def K mg "rests_of" s_rests_of := def_mk X G a13 l13 c13 k13
  have D14 : Def K mg "refuse_no_figure" s_refuse_no_figure := def_mk X G a14 l14 c14 k14
  have D15 : Def K mg "number_by_kept" s_number_by_kept := def_mk X G a15 l15 c15 k15
  have D16 : Def K mg "number_by_rests" s_number_by_rests := def_mk X G a16 l16 c16 k16
  have D17 : Def K mg "inverse" s_inverse := def_mk X G a17 l17 c17 k17
  have D18 : Def K mg "put_in" s_put_in := def_mk X G a18 l18 c18 k18
  have D19 : Def K mg "taken_out" s_taken_out := def_mk X G a19 l19 c19 k19
  have D20 : Def K mg "_law_cell_at" s__law_cell_at := def_mk X G a20 l20 c20 k20
  have D21 : Def K mg "_law_mixed" s__law_mixed := def_mk X G a21 l21 c21 k21
  have D22 : Def K mg "_law_base_by" s__law_base_by := def_mk X G a22 l22 c22 k22
  have D23 : Def K mg "_law_any_base" s__law_any_base := def_mk X G a23 l23 c23 k23
  have D24 : Def K mg "_law_span" s__law_span := def_mk X G a24 l24 c24 k24
  have D25 : Def K mg "_law_fitting" s__law_fitting := def_mk X G a25 l25 c25 k25
  have D26 : Def K mg "_law_figure" s__law_figure := def_mk X G a26 l26 c26 k26
  have D27 : Def K mg "_law_same" s__law_same := def_mk X G a27 l27 c27 k27
  have D28 : Def K mg "_law_class" s__law_class := def_mk X G a28 l28 c28 k28
  have D29 : Def K mg "_law_spoilt" s__law_spoilt := def_mk X G a29 l29 c29 k29
  have D30 : Def K mg "_law_maybe" s__law_maybe := def_mk X G a30 l30 c30 k30
  have D31 : Def K mg "_law_fits" s__law_fits := def_mk X G a31 l31 c31 k31
  have D32 : Def K mg "_law_common" s__law_common := def_mk X G a32 l32 c32 k32
  have D33 : Def K mg "_law_is_base" s__law_is_base := def_mk X G a33 l33 c33 k33
  have D34 : Def K mg "_law_put" s__law_put := def_mk X G a34 l34 c34 k34
  have D35 : Def K mg "_law_out" s__law_out := def_mk X G a35 l35 c35 k35
  have D36 : Def K mg "_law_more" s__law_more := def_mk X G a36 l36 c36 k36
  have D37 : Def K mg "_law_places" s__law_places := def_mk X G a37 l37 c37 k37
  have D38 : Def K mg "_law_moved" s__law_moved := def_mk X G a38 l38 c38 k38
  have D39 : Def K mg "_law_like" s__law_like := def_mk X G a39 l39 c39 k39
  have FL := fun_mk (st := s_law) l40 c40 k40
  refine ⟨PySem.W.fnOf "law" "law" (defArgs s_law) (defBody s_law) (defScope s_law) .none kV40 dc40 pm40 an40 cd40 ct40, fun s v => .of_eq rfl, fun base _ _ => ?_⟩
  have G_cT : IsC K cR cT cB cW cD cP cA cU cT 0 := ⟨⟨xga_cT, xgt_cT, xcl_cT, xsp, xtk, xmo_cT, xmb_cT⟩, xr_cT, xv_cT, xk0_cT, xk1_cT, xk2_cT, xk3_cT, xk4_cT, xk5_cT, xk6_cT⟩
  have G_cB : IsC K cR cT cB cW cD cP cA cU cB 1 := ⟨⟨xga_cB, xgt_cB, xcl_cB, xsp, xtk, xmo_cB, xmb_cB⟩, xr_cB, xv_cB, xk0_cB, xk1_cB, xk2_cB, xk3_cB, xk4_cB, xk5_cB, xk6_cB⟩
  have G_cW : IsC K cR cT cB cW cD cP cA cU cW 2 := ⟨⟨xga_cW, xgt_cW, xcl_cW, xsp, xtk, xmo_cW, xmb_cW⟩, xr_cW, xv_cW, xk0_cW, xk1_cW, xk2_cW, xk3_cW, xk4_cW, xk5_cW, xk6_cW⟩
  have G_cP : IsC K cR cT cB cW cD cP cA cU cP 4 := ⟨⟨xga_cP, xgt_cP, xcl_cP, xsp, xtk, xmo_cP, xmb_cP⟩, xr_cP, xv_cP, xk0_cP, xk1_cP, xk2_cP, xk3_cP, xk4_cP, xk5_cP, xk6_cP⟩
  have G_cA : IsC K cR cT cB cW cD cP cA cU cA 5 := ⟨⟨xga_cA, xgt_cA, xcl_cA, xsp, xtk, xmo_cA, xmb_cA⟩, xr_cA, xv_cA, xk0_cA, xk1_cA, xk2_cA, xk3_cA, xk4_cA, xk5_cA, xk6_cA⟩
  have GC : Cs K cR cT cB cW cD cP cA cU := ⟨G_cT, G_cB, G_cW, G_cP, G_cA⟩
  have F0 := ok_common (P := l.prog) (w := w) (base := base) D0
  have F2 := ok_hcp D2 F0
  have F1 := ok_base_of D1 T F2
  have F3 := ok_divisors_of (P := l.prog) (w := w) (base := base) D3
  have F4 := ok_places (P := l.prog) (w := w) (base := base) D4 T
  have F5 := ok_product_of (P := l.prog) (w := w) (base := base) D5
  have F6 := ok_span_of D6 F5
  have F7 := ok_lowest D7 F6
  have F8 := ok_highest D8 F6
  have F9 := ok_fits D9 F7 F8
  have F13 := ok_rests_of D13 F3
  have F10 := ok_figure_of D10 T F9 F13
  have F14 := ok_refuse D14 T F3
  have F17 := ok_inverse (P := l.prog) (w := w) (base := base) D17 40
  have F16 := ok_by_rests D16 T F17
  have F15 := ok_by_kept D15 T F16
  have F12 := ok_is_right D12 T F14 F15 F13
  have F11 := ok_number_of D11 T F12 F15
  have F18 := ok_put D18 T GC F11 F1 F10
  have F19 := ok_taken D19 T GC F11 F3 F4 F1 F10
  have F20 := ok_cell_at (P := l.prog) (w := w) (base := base) D20 T
  have F21 := ok_mixed (P := l.prog) (w := w) (base := base) D21
  have F22 := ok_base_by D22 T F21
  have F23 := ok_any_base D23 T F22
  have F24 := ok__law_span (P := l.prog) (w := w) (base := base) D24
  have F25 := ok_fitting D25 F24 F21
  have F26 := ok_law_figure (P := l.prog) (w := w) (base := base) D26
  have FS0 := ok_same0 (P := l.prog) (w := w) (base := base) D27
  have FS1 := ok_sameS D27 T FS0
  have FS2 := ok_sameS D27 T FS1
  have FS3 := ok_sameS D27 T FS2
  have F27 := ok_sameS D27 T FS3
  have F28 := ok_class (P := l.prog) (w := w) (base := base) D28 T
  have F29 := ok_spoiltW (P := l.prog) (w := w) (base := base) D29 T
  have F30 := ok_maybe D30 F29
  have F31 := ok_law_fits D31 F24
  have F32 := ok_lcommon (P := l.prog) (w := w) (base := base) D32
  have F33 := ok_isbase D33 T F32
  have F34 := ok_lput D34 T F18 F28
  have F35 := ok_lout D35 T F19 F28
  have F36 := ok_more D36 T F21 F32
  have F37 := ok_lplaces D37 T F21
  have F38 := ok_moved D38 F33 F31 F26
  have F39 := ok_like D39 F27
  exact FL.okX sc_law sp1_len (body_law T F23 F21 F20 F25 F26 F30 F36 F37 F38 F34 F35 F39 _)
theorem walk {l : PySem.W.OpenLaw} {q : Program} {loose : List Str} {XP : (Str → Option Value) → Heap → Prop} {YP : World → Heap → Prop} {d : DefRec} {K : Params → PySem.W.Frag} (hn : l.most = some 63) (hdf : d.params.defaults = [])
    (hY : ∀ (w : World) (h : Heap), YP w h → (K w.params).In h)
    (F : ∀ (w : World) (mg : Str → Option Value) (fa : Addr) (h : Heap), (K w.params).In h → h.Ns mainGlobals mg → mg d.name = some (.ref fa) →
      ∃ fd : FuncData, (∀ (s : Shared) (u : Value), BindsTo s fd ⟨[u], []⟩ [("_law_script", u)]) ∧ ∀ base : Heap, (K w.params).In base → base.Ns mainGlobals mg → FnOk l.prog w (K w.params) mg base (CX1 l.prog w) 49 fa fd ["_law_script"] (sp_law (K w.params))) :
    PySem.W.WalkO q loose XP YP l.row.toRowW d [] (fun f vs => PySem.call f vs) :=
  L2.walk_of (n := 63) (k := 49) (x := "_law_script") (CX := fun w => CX1 l.prog w) (sp := fun w => (sp_law (K w.params))) hn (by decide) hdf ⟨rfl, by decide, by decide⟩ hY F (fun _ _ a ns hl _ hS => ⟨_, rfl, a, ns, rfl, hS, hl, fun _ => rfl⟩) fun _ H s e s' => cx1_none H s e s'
end K11
open PySem PySem.W PyProof.Rows
theorem PySem.W.Fast.tw7184429533719069687 : True := trivial
theorem PySem.W.Fast.tw12976077497918632016 : True := trivial
theorem PySem.W.Fast.tw14285255732641708479 : True := trivial
theorem PySem.W.Fast.tw1972315673706872498 : True := trivial
set_option maxRecDepth 100000 in
set_option maxHeartbeats 0 in
theorem PySem.Challenge.cw_restfigures_k11_divisors_put_in_and_take_holds : PySem.Challenge.rw_restfigures_k11_divisors_put_in_and_take.Holds := by
  w_on; o_law; k_head; (case hw => w_witness2)
  k_fill
  refine K11.walk (l := PySem.Challenge.rw_restfigures_k11_divisors_put_in_and_take) rfl rfl (fun w h Y => PySem.W.kIn_of Y) ?F
  case F =>
    intro w mg fa h KX G hmg
    refine' K11.all_mk KX G hmg ?a0 ?l0 ?c0 ?k0 ?a1 ?l1 ?c1 ?k1 ?a2 ?l2 ?c2 ?k2 ?a3 ?l3 ?c3 ?k3 ?a4 ?l4 ?c4 ?k4 ?a5 ?l5 ?c5 ?k5 ?a6 ?l6 ?c6 ?k6 ?a7 ?l7 ?c7 ?k7 ?a8 ?l8 ?c8 ?k8 ?a9 ?l9 ?c9 ?k9 ?a10 ?l10 ?c10 ?k10 ?a11 ?l11 ?c11 ?k11 ?a12 ?l12 ?c12 ?k12 ?a13 ?l13 ?c13 ?k13 ?a14 ?l14 ?c14 ?k14 ?a15 ?l15 ?c15 ?k15 ?a16 ?l16 ?c16 ?k16 ?a17 ?l17 ?c17 ?k17 ?a18 ?l18 ?c18 ?k18 ?a19 ?l19 ?c19 ?k19 ?a20 ?l20 ?c20 ?k20 ?a21 ?l21 ?c21 ?k21 ?a22 ?l22 ?c22 ?k22 ?a23 ?l23 ?c23 ?k23 ?a24 ?l24 ?c24 ?k24 ?a25 ?l25 ?c25 ?k25 ?a26 ?l26 ?c26 ?k26 ?a27 ?l27 ?c27 ?k27 ?a28 ?l28 ?c28 ?k28 ?a29 ?l29 ?c29 ?k29 ?a30 ?l30 ?c30 ?k30 ?a31 ?l31 ?c31 ?k31 ?a32 ?l32 ?c32 ?k32 ?a33 ?l33 ?c33 ?k33 ?a34 ?l34 ?c34 ?k34 ?a35 ?l35 ?c35 ?k35 ?a36 ?l36 ?c36 ?k36 ?a37 ?l37 ?c37 ?k37 ?a38 ?l38 ?c38 ?k38 ?a39 ?l39 ?c39 ?k39 ?a40 ?l40 ?c40 ?k40 ?z0 ?z1 ?z2 ?z3 ?z4 ?z5 ?z6 ?z7 ?z8 ?z9 ?z10 ?z11 ?z12 ?z13 ?z14 ?z15 ?z16 ?z17 ?z18 ?z19 ?z20 ?z21 ?z22 ?z23 ?z24 ?z25 ?z26 ?z27 ?z28 ?z29 ?z30 ?z31 ?z32 ?xsp ?xtk ?xga_cT ?xgt_cT ?xcl_cT ?xmo_cT ?xmb_cT ?xr_cT ?xv_cT ?xk0_cT ?xk1_cT ?xk2_cT ?xk3_cT ?xk4_cT ?xk5_cT ?xk6_cT ?xga_cB ?xgt_cB ?xcl_cB ?xmo_cB ?xmb_cB ?xr_cB ?xv_cB ?xk0_cB ?xk1_cB ?xk2_cB ?xk3_cB ?xk4_cB ?xk5_cB ?xk6_cB ?xga_cW ?xgt_cW ?xcl_cW ?xmo_cW ?xmb_cW ?xr_cW ?xv_cW ?xk0_cW ?xk1_cW ?xk2_cW ?xk3_cW ?xk4_cW ?xk5_cW ?xk6_cW ?xga_cP ?xgt_cP ?xcl_cP ?xmo_cP ?xmb_cP ?xr_cP ?xv_cP ?xk0_cP ?xk1_cP ?xk2_cP ?xk3_cP ?xk4_cP ?xk5_cP ?xk6_cP ?xga_cA ?xgt_cA ?xcl_cA ?xmo_cA ?xmb_cA ?xr_cA ?xv_cA ?xk0_cA ?xk1_cA ?xk2_cA ?xk3_cA ?xk4_cA ?xk5_cA ?xk6_cA
    (case a0 => k_is)
    (case l0 => k_is)
    (case c0 => k_is)
    (case k0 => k_is)
    (case a1 => k_is)
    (case l1 => k_is)
    (case c1 => k_is)
    (case k1 => k_is)
    (case a2 => k_is)
    (case l2 => k_is)
    (case c2 => k_is)
    (case k2 => k_is)
    (case a3 => k_is)
    (case l3 => k_is)
    (case c3 => k_is)
    (case k3 => k_is)
    (case a4 => k_is)
    (case l4 => k_is)
    (case c4 => k_is)
    (case k4 => k_is)
    (case a5 => k_is)
    (case l5 => k_is)
    (case c5 => k_is)
    (case k5 => k_is)
    (case a6 => k_is)
    (case l6 => k_is)
    (case c6 => k_is)
    (case k6 => k_is)
    (case a7 => k_is)
    (case l7 => k_is)
    (case c7 => k_is)
    (case k7 => k_is)
    (case a8 => k_is)
    (case l8 => k_is)
    (case c8 => k_is)
    (case k8 => k_is)
    (case a9 => k_is)
    (case l9 => k_is)
    (case c9 => k_is)
    (case k9 => k_is)
    (case a10 => k_is)
    (case l10 => k_is)
    (case c10 => k_is)
    (case k10 => k_is)
    (case a11 => k_is)
    (case l11 => k_is)
    (case c11 => k_is)
    (case k11 => k_is)
    (case a12 => k_is)
    (case l12 => k_is)
    (case c12 => k_is)
    (case k12 => k_is)
    (case a13 => k_is)
    (case l13 => k_is)
    (case c13 => k_is)
    (case k13 => k_is)
    (case a14 => k_is)
    (case l14 => k_is)
    (case c14 => k_is)
    (case k14 => k_is)
    (case a15 => k_is)
    (case l15 => k_is)
    (case c15 => k_is)
    (case k15 => k_is)
    (case a16 => k_is)
    (case l16 => k_is)
    (case c16 => k_is)
    (case k16 => k_is)
    (case a17 => k_is)
    (case l17 => k_is)
    (case c17 => k_is)
    (case k17 => k_is)
    (case a18 => k_is)
    (case l18 => k_is)
    (case c18 => k_is)
    (case k18 => k_is)
    (case a19 => k_is)
    (case l19 => k_is)
    (case c19 => k_is)
    (case k19 => k_is)
    (case a20 => k_is)
    (case l20 => k_is)
    (case c20 => k_is)
    (case k20 => k_is)
    (case a21 => k_is)
    (case l21 => k_is)
    (case c21 => k_is)
    (case k21 => k_is)
    (case a22 => k_is)
    (case l22 => k_is)
    (case c22 => k_is)
    (case k22 => k_is)
    (case a23 => k_is)
    (case l23 => k_is)
    (case c23 => k_is)
    (case k23 => k_is)
    (case a24 => k_is)
    (case l24 => k_is)
    (case c24 => k_is)
    (case k24 => k_is)
    (case a25 => k_is)
    (case l25 => k_is)
    (case c25 => k_is)
    (case k25 => k_is)
    (case a26 => k_is)
    (case l26 => k_is)
    (case c26 => k_is)
    (case k26 => k_is)
    (case a27 => k_is)
    (case l27 => k_is)
    (case c27 => k_is)
    (case k27 => k_is)
    (case a28 => k_is)
    (case l28 => k_is)
    (case c28 => k_is)
    (case k28 => k_is)
    (case a29 => k_is)
    (case l29 => k_is)
    (case c29 => k_is)
    (case k29 => k_is)
    (case a30 => k_is)
    (case l30 => k_is)
    (case c30 => k_is)
    (case k30 => k_is)
    (case a31 => k_is)
    (case l31 => k_is)
    (case c31 => k_is)
    (case k31 => k_is)
    (case a32 => k_is)
    (case l32 => k_is)
    (case c32 => k_is)
    (case k32 => k_is)
    (case a33 => k_is)
    (case l33 => k_is)
    (case c33 => k_is)
    (case k33 => k_is)
    (case a34 => k_is)
    (case l34 => k_is)
    (case c34 => k_is)
    (case k34 => k_is)
    (case a35 => k_is)
    (case l35 => k_is)
    (case c35 => k_is)
    (case k35 => k_is)
    (case a36 => k_is)
    (case l36 => k_is)
    (case c36 => k_is)
    (case k36 => k_is)
    (case a37 => k_is)
    (case l37 => k_is)
    (case c37 => k_is)
    (case k37 => k_is)
    (case a38 => k_is)
    (case l38 => k_is)
    (case c38 => k_is)
    (case k38 => k_is)
    (case a39 => k_is)
    (case l39 => k_is)
    (case c39 => k_is)
    (case k39 => k_is)
    (case a40 => k_is)
    (case l40 => k_is)
    (case c40 => k_is)
    (case k40 => k_is)
    (case z0 => k_is)
    (case z1 => k_is)
    (case z2 => k_is)
    (case z3 => k_is)
    (case z4 => k_is)
    (case z5 => k_is)
    (case z6 => k_is)
    (case z7 => k_is)
    (case z8 => k_is)
    (case z9 => k_is)
    (case z10 => k_is)
    (case z11 => k_is)
    (case z12 => k_is)
    (case z13 => k_is)
    (case z14 => k_is)
    (case z15 => k_is)
    (case z16 => k_is)
    (case z17 => k_is)
    (case z18 => k_exc)
    (case z19 => k_is)
    (case z20 => k_exc)
    (case z21 => k_is)
    (case z22 => k_exc)
    (case z23 => k_is)
    (case z24 => k_is)
    (case z25 => k_exc)
    (case z26 => k_is)
    (case z27 => k_exc)
    (case z28 => k_is)
    (case z29 => k_is)
    (case z30 => k_is)
    (case z31 => k_is)
    (case z32 => k_is)
    (case xsp => k_is)
    (case xtk => k_is)
    (case xga_cT => k_is)
    (case xgt_cT => k_is)
    (case xcl_cT => k_is)
    (case xmo_cT => k_is)
    (case xmb_cT => k_is)
    (case xr_cT => kts_exm)
    (case xv_cT => kit_is)
    (case xk0_cT => kit_is)
    (case xk1_cT => kit_is)
    (case xk2_cT => kit_is)
    (case xk3_cT => kit_is)
    (case xk4_cT => kit_is)
    (case xk5_cT => kit_is)
    (case xk6_cT => kit_is)
    (case xga_cB => k_is)
    (case xgt_cB => k_is)
    (case xcl_cB => k_is)
    (case xmo_cB => k_is)
    (case xmb_cB => k_is)
    (case xr_cB => kts_exm)
    (case xv_cB => kit_is)
    (case xk0_cB => kit_is)
    (case xk1_cB => kit_is)
    (case xk2_cB => kit_is)
    (case xk3_cB => kit_is)
    (case xk4_cB => kit_is)
    (case xk5_cB => kit_is)
    (case xk6_cB => kit_is)
    (case xga_cW => k_is)
    (case xgt_cW => k_is)
    (case xcl_cW => k_is)
    (case xmo_cW => k_is)
    (case xmb_cW => k_is)
    (case xr_cW => kts_exm)
    (case xv_cW => kit_is)
    (case xk0_cW => kit_is)
    (case xk1_cW => kit_is)
    (case xk2_cW => kit_is)
    (case xk3_cW => kit_is)
    (case xk4_cW => kit_is)
    (case xk5_cW => kit_is)
    (case xk6_cW => kit_is)
    (case xga_cP => k_is)
    (case xgt_cP => k_is)
    (case xcl_cP => k_is)
    (case xmo_cP => k_is)
    (case xmb_cP => k_is)
    (case xr_cP => kts_exm)
    (case xv_cP => kit_is)
    (case xk0_cP => kit_is)
    (case xk1_cP => kit_is)
    (case xk2_cP => kit_is)
    (case xk3_cP => kit_is)
    (case xk4_cP => kit_is)
    (case xk5_cP => kit_is)
    (case xk6_cP => kit_is)
    (case xga_cA => k_is)
    (case xgt_cA => k_is)
    (case xcl_cA => k_is)
    (case xmo_cA => k_is)
    (case xmb_cA => k_is)
    (case xr_cA => kts_exm)
    (case xv_cA => kit_is)
    (case xk0_cA => kit_is)
    (case xk1_cA => kit_is)
    (case xk2_cA => kit_is)
    (case xk3_cA => kit_is)
    (case xk4_cA => kit_is)
    (case xk5_cA => kit_is)
    (case xk6_cA => kit_is)
