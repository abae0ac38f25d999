import PyProof.Rows.All
import Wide.All
import OpenK.AllK
import Wide.FinOn
import Lean
import PyProof.EqAt
import PyProof.EqKinds
import PyProof.TupleCall
import KE.KEqDict
import PySem.Challenge.RW_glazehall_k65_stretches_moved
set_option Elab.async false
set_option linter.all false
set_option maxRecDepth 100000
namespace L2
open PySem PySem.Spec PyProof.Rows
noncomputable abbrev Key := Sum Int Str
noncomputable def keyIs : Key → Value → Bool
  | .inl k, v => Value.isInt k v
  | .inr x, v => Value.isStrOf x v
noncomputable def keyH (w : World) : Key → Int
  | .inl k => hashInt k
  | .inr x => hashStr w x
theorem keyIs_shape : ∀ {k : Key} {v : Value}, keyIs k v = true → (∃ i t, k = Sum.inl i ∧ v = Value.int i t) ∨ (∃ x t, k = Sum.inr x ∧ v = Value.str x t)
  | .inl i, v, h => by
    obtain ⟨t, e⟩ := Value.isInt_shape (k := i) (v := v) h
    exact .inl ⟨i, t, rfl, e⟩
  | .inr x, v, h => by
    obtain ⟨t, e⟩ := Value.isStrOf_shape (x := x) (v := v) h
    exact .inr ⟨x, t, rfl, e⟩
theorem keyIs_int (i : Int) (t : Tok) : keyIs (.inl i) (.int i t) = true := by simp [keyIs, Value.isInt]
theorem keyIs_str (x : Str) (t : Tok) : keyIs (.inr x) (.str x t) = true := by simp [keyIs, Value.isStrOf]
theorem key_ll (a b : Int) : decide ((Sum.inl a : Key) = Sum.inl b) = (a == b) := by
  by_cases e : a = b
  · subst e; simp
  · have h : ¬ (Sum.inl a : Key) = Sum.inl b := fun q => e (Sum.inl.inj q)
    rw [decide_eq_false h]
    exact (beq_eq_false_iff_ne.mpr e).symm
theorem key_rr (a b : Str) : decide ((Sum.inr a : Key) = Sum.inr b) = decide (a = b) := by
  by_cases e : a = b
  · subst e; simp
  · have h : ¬ (Sum.inr a : Key) = Sum.inr b := fun q => e (Sum.inr.inj q)
    rw [decide_eq_false h, decide_eq_false e]
theorem key_lr (a : Int) (b : Str) : decide ((Sum.inl a : Key) = Sum.inr b) = false := decide_eq_false (fun q => nomatch q)
theorem key_rl (a : Str) (b : Int) : decide ((Sum.inr a : Key) = Sum.inl b) = false := decide_eq_false (fun q => nomatch q)
noncomputable def mixKind (prog : Program) (w : World) : PySem.KeyKind prog w Key where
  is := keyIs
  hash := keyH w
  inj := fun v a b ha hb => by
    rcases keyIs_shape ha with ⟨i, t, rfl, rfl⟩ | ⟨x, t, rfl, rfl⟩
    · rcases keyIs_shape hb with ⟨j, u, rfl, e⟩ | ⟨y, u, rfl, e⟩
      · injection e with e1 _; rw [e1]
      · exact nomatch e
    · rcases keyIs_shape hb with ⟨j, u, rfl, e⟩ | ⟨y, u, rfl, e⟩
      · exact nomatch e
      · injection e with e1 _; rw [e1]
  byValue := fun k v h => by
    rcases keyIs_shape h with ⟨i, t, rfl, rfl⟩ | ⟨x, t, rfl, rfl⟩ <;> rfl
  pyHash := fun hv h => by
    rcases keyIs_shape hv with ⟨i, t, rfl, rfl⟩ | ⟨x, t, rfl, rfl⟩
    · exact wpAny_pyHash_int h
    · exact wpAny_pyHash_str h
  eqBool := fun hu hv h => by
    rcases keyIs_shape hu with ⟨i, t, rfl, rfl⟩ | ⟨x, t, rfl, rfl⟩
    · rcases keyIs_shape hv with ⟨j, u, rfl, rfl⟩ | ⟨y, u, rfl, rfl⟩
      · rw [key_ll] at h; exact wpAny_eqBool_int h
      · rw [key_lr] at h; exact SeqAt.EqAt.int_str i t y u _ _ _ _ h
    · rcases keyIs_shape hv with ⟨j, u, rfl, rfl⟩ | ⟨y, u, rfl, rfl⟩
      · rw [key_rl] at h; exact SeqAt.EqAt.str_int x t j u _ _ _ _ h
      · rw [key_rr] at h; exact wpAny_eqBool_str h
  «strs» := fun k x t v h => by
    rcases keyIs_shape h with ⟨i, u, rfl, e⟩ | ⟨y, u, rfl, e⟩
    · exact nomatch e
    · injection e with e1 _
      subst e1
      cases v <;> rfl
theorem mixKind_int (prog : Program) (w : World) (i : Int) (t : Tok) : (mixKind prog w).is (.inl i) (.int i t) = true := keyIs_int i t
theorem mixKind_str (prog : Program) (w : World) (x : Str) (t : Tok) : (mixKind prog w).is (.inr x) (.str x t) = true := keyIs_str x t
inductive V where
  | non | bl (b : Bool) | int (i : Int) | str (x : Str) | byt (b : Array UInt8) | flt (b : UInt64) | ref (a : Addr) | ty (n : String)
  deriving DecidableEq
noncomputable def RelV : V → Value → Prop
  | .non, u => u = Value.none
  | .bl b, u => u = Value.bool b
  | .int i, u => ∃ t, u = Value.int i t
  | .str x, u => ∃ t, u = Value.str x t
  | .byt b, u => ∃ t, u = Value.bytes b t
  | .flt b, u => ∃ t, u = Value.float b t
  | .ref a, u => u = Value.ref a
  | .ty n, u => u = Value.type n
noncomputable abbrev Vals : List V → List Value → Prop := Paired RelV
theorem Vals.length {xs : List V} {us : List Value} (r : Vals xs us) : xs.length = us.length := Paired.length r
theorem Vals.get : ∀ {xs : List V} {us : List Value} {i : Nat} {x : V}, Vals xs us → xs[i]? = some x → ∃ u, us[i]? = some u ∧ RelV x u
  | _, _, _, _, .nil, e => by simp at e
  | _, _, 0, _, .cons r _, e => by simp at e; subst e; exact ⟨_, rfl, r⟩
  | _, _, i + 1, x, .cons _ t, e => by
    obtain ⟨u, h1, h2⟩ := Vals.get (i := i) (x := x) t (by simpa using e)
    exact ⟨u, by simpa using h1, h2⟩
theorem Vals.set {x : V} {u : Value} (r : RelV x u) : ∀ {xs : List V} {us : List Value} (i : Nat), Vals xs us → Vals (xs.set i x) (us.set i u)
  | _, _, _, .nil => .nil
  | _, _, 0, .cons _ t => .cons r t
  | _, _, i + 1, .cons q t => .cons q (Vals.set r i t)
theorem Vals.append : ∀ {xs ys : List V} {us ws : List Value}, Vals xs us → Vals ys ws → Vals (xs ++ ys) (us ++ ws)
  | _, _, _, _, .nil, s => s
  | _, _, _, _, .cons r t, s => .cons r (Vals.append t s)
theorem Vals.take : ∀ {xs : List V} {us : List Value} (n : Nat), Vals xs us → Vals (xs.take n) (us.take n)
  | _, _, 0, _ => .nil
  | _, _, _ + 1, .nil => .nil
  | _, _, n + 1, .cons r t => .cons r (Vals.take n t)
theorem Vals.drop : ∀ {xs : List V} {us : List Value} (n : Nat), Vals xs us → Vals (xs.drop n) (us.drop n)
  | _, _, 0, r => r
  | _, _, _ + 1, .nil => .nil
  | _, _, n + 1, .cons _ t => Vals.drop n t
theorem Vals.none_of : ∀ {xs : List V} {us : List Value} {i : Nat}, Vals xs us → xs[i]? = none → us[i]? = none := fun {xs us i} r e => by
  have h1 := r.length
  have h2 : xs.length ≤ i := List.getElem?_eq_none_iff.mp e
  exact List.getElem?_eq_none_iff.mpr (by omega)
noncomputable def RelO : Option V → Option Value → Prop
  | some v, some u => RelV v u
  | none, none => True
  | _, _ => False
noncomputable def KV {κ : Type} : List (κ × V) → List (κ × Value) → Prop := Paired fun (p : κ × V) (q : κ × Value) => p.1 = q.1 ∧ RelV p.2 q.2
noncomputable def kV : Key → V
  | .inl i => .int i
  | .inr x => .str x
inductive HO where
  | lst (xs : List V)
  | tup (xs : List V)
  | dK (kvs : List (Key × V)) | dT (kvs : List (List Key × V))
  | set (S : Int → Bool) (n : Nat)
  | ins (C dx : Addr) (fs : List (Str × V))
  | own (x : Addr)
  | xd (fs : List (Str × V))
  | met (f x : Addr)
  | rng (lo hi : Int)
  | frz (o : Obj) (u : HO)
  | tbl (ps : Array Value)
  | ext (φ : Heap → Prop)
noncomputable abbrev Hp := Addr → Option HO
noncomputable def upd (H : Hp) (a : Addr) (o : HO) : Hp := fun b => if b = a then some o else H b
theorem upd_same {H : Hp} {a : Addr} {o : HO} : upd H a o a = some o := by unfold upd; rw [if_pos rfl]
theorem upd_ne {H : Hp} {a b : Addr} {o : HO} (h : b ≠ a) : upd H a o b = H b := by unfold upd; rw [if_neg h]
theorem ne_of {H : Hp} {a b : Addr} {o u : HO} (h : H a = some o) (h' : H b = some u) (d : o ≠ u) : a ≠ b := by
  intro e; subst e; rw [h] at h'; exact d (Option.some.inj h')
theorem ne_of_none {H : Hp} {a b : Addr} {o : HO} (h : H a = some o) (h' : H b = none) : a ≠ b := by
  intro e; subst e; rw [h] at h'; cases h'
section
variable (P : Program) (w : World)
noncomputable def ObjOk (H : Hp) (h : Heap) (a : Addr) : HO → Prop
  | .lst xs => xs.length ≤ sizeLine ∧ ∃ (its : List Value) (n : Nat), Vals xs its ∧ h.get? a = some { cls := .type "list", data := .seq its.toArray n }
  | .tup xs => xs.length ≤ sizeLine ∧ ∃ its : List Value, Vals xs its ∧ IsTup h a its.toArray
  | .dK kvs => kvs.length ≤ sizeLine ∧ (a == sysModules) = false ∧ ∃ vs, KV kvs vs ∧ h.DictOf (mixKind P w) a vs
  | .dT kvs => kvs.length ≤ sizeLine ∧ (a == sysModules) = false ∧ ∃ xs : List (List Key × Addr × Value),
      Paired (fun (p : List Key × V) (q : List Key × Addr × Value) => p.1 = q.1 ∧ H q.2.1 = some (.tup (p.1.map kV)) ∧ RelV p.2 q.2.2) kvs xs ∧
      ∃ o es ep, h.get? a = some o ∧ o.ExactDict ∧ o.data = .dict es ep ∧ es.toList = xs.map (entryOfKey (tupleKind (mixKind P w))) ∧ (xs.map (·.1)).Nodup
  | .set S n => h.SetOf (intKind P w) a S n
  | .ins C dx fs => H dx = some (.own a) ∧ fs.length ≤ 1000 ∧ dx ≠ a ∧ h.get? a = some (PySem.W.instObj C dx) ∧
      ∃ mA, h.Ns1 dx mA ∧ (∀ f, RelO (fs.lookup f) (mA f)) ∧ PySem.Within mA (fs.map (·.1))
  | .own _ => ∃ o, h.get? a = some o
  | .xd fs => ∃ mA, h.Ns1 a mA ∧ ∀ f, RelO (fs.lookup f) (mA f)
  | .rng lo hi => ∃ t u v, h.get? a = some { cls := .type "range", data := .fields #[.int lo t, .int hi u, .int 1 v] }
  | .frz o u => h.get? a = some o ∧ ObjOk H h a u
  | .tbl ps => h.get? a = some { cls := .none, data := .fields ps }
  | .met f x => h.get? a = some (PySem.W.methodObj (.ref f) (.ref x))
  | .ext φ => φ h ∧ (∃ o, h.get? a = some o) ∧ ∀ h1 h2 : Heap, φ h1 → (∀ o, h1.get? a = some o → h2.get? a = some o) → φ h2
noncomputable def HOk (H : Hp) (h : Heap) : Prop := ∀ a o, H a = some o → ObjOk P w H h a o
end
section
variable {P : Program} {w : World} {H H' : Hp} {h h' : Heap} {a : Addr} {o : HO}
theorem ObjOk.lt (x : ObjOk P w H h a o) : a < h.objs.size := by
  cases o with
  | lst xs => obtain ⟨_, _, _, _, e⟩ := x; exact Heap.lt_size e
  | tup xs => obtain ⟨_, _, _, p⟩ := x; exact p.lt
  | dK kvs => obtain ⟨_, _, _, _, o, _, _, e, _⟩ := x; exact Heap.lt_size e
  | dT kvs => obtain ⟨_, _, _, _, o, _, _, e, _⟩ := x; exact Heap.lt_size e
  | set S n => obtain ⟨o, _, _, _, e, _⟩ := x; exact Heap.lt_size e
  | ins C dx fs => obtain ⟨_, _, _, e, _⟩ := x; exact Heap.lt_size e
  | own y => obtain ⟨_, e⟩ := x; exact Heap.lt_size e
  | xd fs => obtain ⟨_, ⟨_, _, _, e, _⟩, _⟩ := x; exact Heap.lt_size e
  | rng lo hi => obtain ⟨_, _, _, e⟩ := x; exact Heap.lt_size e
  | frz ob u => obtain ⟨e, _⟩ := x; exact Heap.lt_size e
  | tbl ps => exact Heap.lt_size (show h.get? a = some _ from x)
  | met f y => exact Heap.lt_size (show h.get? a = some _ from x)
  | ext φ => obtain ⟨_, ⟨_, e⟩, _⟩ := x; exact Heap.lt_size e
theorem Paired.mapP {α β : Type} {F G : α → β → Prop} : ∀ {l₁ : List α} {l₂ : List β}, Paired F l₁ l₂ → (∀ a b, F a b → G a b) → Paired G l₁ l₂
  | _, _, .nil, _ => .nil
  | _, _, .cons r t, f => .cons (f _ _ r) (Paired.mapP t f)
theorem ObjOk.stay (x : ObjOk P w H h a o) (k : ∀ b u, (b = a ∨ H b = some (.own a)) → h.get? b = some u → h'.get? b = some u)
    (ho : ∀ b, H b = some (.own a) → H' b = some (.own a)) (ht : ∀ b xs, H b = some (.tup xs) → H' b = some (.tup xs)) : ObjOk P w H' h' a o := by
  induction o with
  | lst xs => obtain ⟨z, its, n, r, e⟩ := x; exact ⟨z, its, n, r, k _ _ (.inl rfl) e⟩
  | tup xs => obtain ⟨z, its, r, ob, e, c⟩ := x; exact ⟨z, its, r, ob, k _ _ (.inl rfl) e, c⟩
  | dK kvs => obtain ⟨z, y, vs, r, ob, es, ep, e, c⟩ := x; exact ⟨z, y, vs, r, ob, es, ep, k _ _ (.inl rfl) e, c⟩
  | dT kvs =>
    obtain ⟨z, y, xs, r, ob, es, ep, e, c⟩ := x
    exact ⟨z, y, xs, Paired.mapP r fun p q z => ⟨z.1, ht _ _ z.2.1, z.2.2⟩, ob, es, ep, k _ _ (.inl rfl) e, c⟩
  | set S n => obtain ⟨ob, es, ep, t, e, c⟩ := x; exact ⟨ob, es, ep, t, k _ _ (.inl rfl) e, c⟩
  | ins C dx fs =>
    obtain ⟨d, z, ne, e, mA, ⟨od, es, ep, e2, c⟩, r⟩ := x
    exact ⟨ho _ d, z, ne, k _ _ (.inl rfl) e, mA, ⟨od, es, ep, k _ _ (.inr d) e2, c⟩, r⟩
  | own y => obtain ⟨ob, e⟩ := x; exact ⟨ob, k _ _ (.inl rfl) e⟩
  | xd fs => obtain ⟨mA, ⟨od, es, ep, e, c⟩, r⟩ := x; exact ⟨mA, ⟨od, es, ep, k _ _ (.inl rfl) e, c⟩, r⟩
  | rng lo hi => obtain ⟨t, u, v, e⟩ := x; exact ⟨t, u, v, k _ _ (.inl rfl) e⟩
  | frz ob u ih => obtain ⟨e, q⟩ := x; exact ⟨k _ _ (.inl rfl) e, ih q⟩
  | tbl ps =>
    have e : h.get? a = some { cls := .none, data := .fields ps } := x
    show h'.get? a = some { cls := .none, data := .fields ps }
    exact k a _ (.inl rfl) e
  | met f y =>
    have e : h.get? a = some (PySem.W.methodObj (.ref f) (.ref y)) := x
    show h'.get? a = some (PySem.W.methodObj (.ref f) (.ref y))
    exact k a _ (.inl rfl) e
  | ext φ => obtain ⟨p, ⟨o, e⟩, st⟩ := x; exact ⟨st _ _ p fun o q => k _ _ (.inl rfl) q, ⟨o, k _ _ (.inl rfl) e⟩, st⟩
theorem HOk.lt (x : HOk P w H h) (e : H a = some o) : a < h.objs.size := (x a o e).lt
theorem HOk.fresh (x : HOk P w H h) (e : h.objs.size ≤ a) : H a = none := by
  cases q : H a with
  | none => rfl
  | some u => exact absurd (Nat.lt_of_lt_of_le (x.lt q) e) (Nat.lt_irrefl _)
theorem HOk.kept (x : HOk P w H h) (k : ∀ b u, h.get? b = some u → h'.get? b = some u) : HOk P w H h' := fun a o e =>
  (x a o e).stay (fun b u _ q => k b u q) (fun _ q => q) fun _ _ q => q
theorem HOk.laid (x : HOk P w H h) (k : ∀ b u, h.get? b = some u → h'.get? b = some u) (hp : h.objs.size ≤ a) (new : ObjOk P w (upd H a o) h' a o) : HOk P w (upd H a o) h' := fun b u e => by
  have hn := x.fresh hp
  by_cases hb : b = a
  · subst hb; rw [upd_same] at e; cases e; exact new
  · rw [upd_ne hb] at e
    exact (x b u e).stay (fun c v _ q => k c v q) (fun c q => by rw [upd_ne (ne_of_none q hn)]; exact q) fun c xs q => by rw [upd_ne (ne_of_none q hn)]; exact q
end
noncomputable def Rd (H : Hp) (a : Addr) (u : HO) : Prop := H a = some u ∨ ∃ o, H a = some (.frz o u)
theorem Rd.of {H : Hp} {a : Addr} {u : HO} (h : H a = some u) : Rd H a u := .inl h
theorem Rd.ok {P : Program} {w : World} {H : Hp} {h : Heap} {a : Addr} {u : HO} (r : Rd H a u) (x : HOk P w H h) : ObjOk P w H h a u := by
  rcases r with r | ⟨o, r⟩
  · exact x a u r
  · obtain ⟨_, q⟩ := x a _ r
    exact q
noncomputable def Mut : Option HO → Prop
  | some (.lst _) => True
  | some (.dK _) => True
  | some (.dT _) => True
  | some (.set _ _) => True
  | some (.ins _ _ _) => True
  | some (.ext _) => True
  | _ => False
section
variable {P : Program} {w : World} {H : Hp} {h h' : Heap} {x e : Addr} {o' : HO}
theorem HOk.write (ok : HOk P w H h) (mu : Mut (H x)) (he : e = x ∨ H e = some (.own x)) (k : ∀ b u, b ≠ e → h.get? b = some u → h'.get? b = some u) (heo : ∃ u, h'.get? e = some u)
    (new : ObjOk P w (upd H x o') h' x o') : HOk P w (upd H x o') h' := fun b u q => by
  have nown : ∀ c y, H c = some (.own y) → c ≠ x := fun c y r z => by subst z; rw [r] at mu; exact mu
  have ntup : ∀ c xs, H c = some (.tup xs) → c ≠ x := fun c xs r z => by subst z; rw [r] at mu; exact mu
  by_cases hb : b = x
  · subst hb; rw [upd_same] at q; cases q; exact new
  · rw [upd_ne hb] at q
    by_cases hbe : b = e
    · have q' : H b = some (.own x) := by
        rcases he with z | z
        · exact absurd (hbe.trans z) hb
        · rw [hbe]; exact z
      rw [q] at q'; cases q'
      obtain ⟨v, hv⟩ := heo
      exact ⟨v, by rw [hbe]; exact hv⟩
    · refine (ok b u q).stay (fun c v hc r => k c v ?_ r) (fun c r => by rw [upd_ne (nown c b r)]; exact r) fun c xs r => by rw [upd_ne (ntup c xs r)]; exact r
      rcases hc with rfl | hc
      · exact hbe
      · rintro rfl
        rcases he with z | z
        · exact nown c b hc z
        · rw [hc] at z; cases z; exact hb rfl
end
structure Un (fs ex : List Addr) (H H' : Hp) (h h' : Heap) : Prop where
  keep : ∀ b o, h.get? b = some o → H b = none → b ∉ fs → b ∉ ex → h'.get? b = some o
  slot : ∀ b o, h.get? b = some o → H b = none → b ∈ fs → b ∉ ex → ∃ sl, h'.get? b = some { o with slots := sl }
  free : ∀ b o, h.get? b = some o → H b = none → b ∉ ex → H' b = none
  there : ∀ b o, h.get? b = some o → b ∉ ex → ∃ o', h'.get? b = some o'
  tups : ∀ b xs, H b = some (.tup xs) → H' b = some (.tup xs)
  frzs : ∀ b o u, H b = some (.frz o u) → H' b = some (.frz o u)
  tbls : ∀ b ps, H b = some (.tbl ps) → ∃ more, H' b = some (.tbl (ps ++ more))
section
variable {fs fs' ex ex' : List Addr} {H H1 H2 : Hp} {h h1 h2 h' : Heap} {a x e : Addr} {o : HO}
theorem Un.any (u : Un fs ex H H1 h h1) {b : Addr} {ob : Obj} (q : h.get? b = some ob) (n : H b = none) (hx : b ∉ ex) : ∃ sl, h1.get? b = some { ob with slots := sl } := by
  by_cases hb : b ∈ fs
  · exact u.slot b ob q n hb hx
  · exact ⟨ob.slots, u.keep b ob q n hb hx⟩
theorem Un.trans (a : Un fs ex H H1 h h1) (b : Un fs ex H1 H2 h1 h2) : Un fs ex H H2 h h2 where
  keep := fun c ob q n hc hx => b.keep c ob (a.keep c ob q n hc hx) (a.free c ob q n hx) hc hx
  slot := fun c ob q n hc hx => by
    obtain ⟨sl, e1⟩ := a.slot c ob q n hc hx
    obtain ⟨sl', e2⟩ := b.slot c _ e1 (a.free c ob q n hx) hc hx
    exact ⟨sl', e2⟩
  free := fun c ob q n hx => by
    obtain ⟨o', e1⟩ := a.there c ob q hx
    exact b.free c o' e1 (a.free c ob q n hx) hx
  there := fun c ob q hx => by
    obtain ⟨o', e1⟩ := a.there c ob q hx
    exact b.there c o' e1 hx
  tups := fun c xs q => b.tups c xs (a.tups c xs q)
  frzs := fun c ob xs q => b.frzs c ob xs (a.frzs c ob xs q)
  tbls := fun c ps q => by
    obtain ⟨m1, e1⟩ := a.tbls c ps q
    obtain ⟨m2, e2⟩ := b.tbls c _ e1
    exact ⟨m1 ++ m2, by rw [e2, Array.append_assoc]⟩
theorem Un.kept (k : ∀ b u, h.get? b = some u → h'.get? b = some u) : Un fs ex H H h h' :=
  ⟨fun b ob q _ _ _ => k b ob q, fun b ob q _ _ _ => ⟨ob.slots, k b ob q⟩, fun _ _ _ n _ => n, fun b ob q _ => ⟨ob, k b ob q⟩, fun _ _ q => q, fun _ _ _ q => q, fun _ ps q => ⟨#[], by rw [q]; simp⟩⟩
theorem Un.refl : Un fs ex H H h h := Un.kept fun _ _ q => q
theorem Un.laid (k : ∀ b u, h.get? b = some u → h'.get? b = some u) (hp : h.objs.size ≤ a) (hn : H a = none) : Un fs ex H (upd H a o) h h' where
  keep := fun b u q _ _ _ => k b u q
  slot := fun b u q _ _ _ => ⟨u.slots, k b u q⟩
  free := fun b u q n _ => by rw [upd_ne (Nat.ne_of_lt (Nat.lt_of_lt_of_le (Heap.lt_size q) hp))]; exact n
  there := fun b u q _ => ⟨u, k b u q⟩
  tups := fun b xs q => by rw [upd_ne (ne_of_none q hn)]; exact q
  frzs := fun b u xs q => by rw [upd_ne (ne_of_none q hn)]; exact q
  tbls := fun b ps q => ⟨#[], by rw [upd_ne (ne_of_none q hn), q]; simp⟩
theorem Un.write (mu : Mut (H x)) (he : e = x ∨ H e = some (.own x)) (k : ∀ b u, b ≠ e → h.get? b = some u → h'.get? b = some u) (heo : ∃ u, h'.get? e = some u) : Un fs ex H (upd H x o) h h' := by
  have hx : ∀ b, H b = none → b ≠ x := fun b n z => by subst z; rw [n] at mu; exact mu
  have hb : ∀ b, H b = none → b ≠ e := fun b n z => by
    subst z
    rcases he with r | r
    · exact hx b n r
    · rw [n] at r; cases r
  have hm : ∀ b u, H b = some u → ¬ Mut (some u) → b ≠ x := fun b u q nm z => by subst z; rw [q] at mu; exact nm mu
  refine ⟨fun b u q n _ _ => k b u (hb b n) q, fun b u q n _ _ => ⟨u.slots, k b u (hb b n) q⟩, fun b u q n _ => by rw [upd_ne (hx b n)]; exact n, fun b u q _ => ?_,
    fun b xs q => by rw [upd_ne (hm b _ q fun z => z)]; exact q, fun b u xs q => by rw [upd_ne (hm b _ q fun z => z)]; exact q, fun b ps q => ⟨#[], by rw [upd_ne (hm b _ q fun z => z), q]; simp⟩⟩
  by_cases hbe : b = e
  · subst hbe; exact heo
  · exact ⟨u, k b u hbe q⟩
theorem Un.mono (u : Un fs ex H H1 h h1) (hs : ∀ b ∈ fs, b ∈ fs') (hx : ∀ b ∈ ex, b ∈ ex') : Un fs' ex' H H1 h h1 :=
  ⟨fun b ob q n hb he => u.keep b ob q n (fun z => hb (hs b z)) fun z => he (hx b z), fun _ _ q n _ he => u.any q n fun z => he (hx _ z), fun b ob q n he => u.free b ob q n fun z => he (hx b z), fun b ob q he => u.there b ob q fun z => he (hx b z), u.tups, u.frzs, u.tbls⟩
end
noncomputable def trk (h : Heap) (H : Hp) : List Addr := (List.range h.objs.size).filter fun a => (H a).isSome
noncomputable def hidT (h : Heap) (H : Hp) : Heap := PySem.W.hideAll h (trk h H)
theorem hidT_size (h : Heap) (H : Hp) : (hidT h H).objs.size = h.objs.size := PySem.W.hideAll_size _ _
theorem hidT_get {h : Heap} {H : Hp} {b : Addr} {o : Obj} (e : h.get? b = some o) (n : H b = none) : (hidT h H).get? b = some o :=
  PySem.W.hideAll_get _ e fun hm => by
    have q : (H b).isSome = true := (List.mem_filter.mp hm).2
    rw [n] at q; simp at q
theorem of_hidT {h : Heap} {H : Hp} {b : Addr} {o : Obj} (e : (hidT h H).get? b = some o) : h.get? b = some o ∧ H b = none := by
  have e' : h.get? b = some o := PySem.W.of_hideAll (trk h H) e
  refine ⟨e', ?_⟩
  cases q : H b with
  | none => rfl
  | some x =>
    have hm : b ∈ trk h H := List.mem_filter.mpr ⟨List.mem_range.mpr (Heap.lt_size e'), by simp [q]⟩
    have z : (hidT h H).get? b = none := PySem.W.hideAll_none (trk h H) hm
    rw [z] at e; cases e
noncomputable def allNews (g h : Heap) (L : Addr) : List (Addr × Obj) := (List.range h.objs.size).filterMap fun a => if a = L ∨ (g.get? a).isSome = true then none else (h.get? a).map fun o => (a, o)
noncomputable def rest (g h : Heap) (L d : Addr) : List (Addr × Obj) := (allNews g h L).filter fun p => decide (p.1 ≠ d)
structure Mod (K : PySem.W.Frag) (mg : Str → Option Value) (base : Heap) : Prop where
  kin : K.In base
  glob : base.Ns mainGlobals mg
  blt : ∃ mb, base.Ns builtinsNs mb ∧ ∀ x : Str, x ≠ "__name__" → mb x = bootBuiltins x
  nolimit : base.NoLimit
structure Cx where
  prog : Program
  w : World
  K : PySem.W.Frag
  mg : Str → Option Value
  base : Heap
  A : Around
  N : List Str
  s₀ : Shared
  H₀ : Hp
  env : Env
  outer : List Env
  stack : List Env
  ex : List Addr
  fn : Str → Bool
  calm : Bool
  pn : List (Addr × Obj)
  xe : Value → Shared → Prop
noncomputable def frs (l : List Env) : List Addr := l.filterMap (·.frame)
noncomputable abbrev Cx.fs (X : Cx) : List Addr := frs X.outer
noncomputable def Vis (sc : Scope) (x : Str) : Prop := sc.names.lookup x = some .local ∨ sc.names.lookup x = some .cell ∨ sc.names.lookup x = some .free
noncomputable def Loc (sc : Scope) (x : Str) : Prop := sc.names.lookup x = some .local ∨ sc.names.lookup x = some .cell
noncomputable def Look (env : Env) (h : Heap) (m : Str → Option Value) (x : Str) (u : Value) : Prop :=
  (env.kindOf x = some .local ∧ m x = some u) ∨ ((env.kindOf x = some .cell ∨ env.kindOf x = some .free) ∧ ∃ c, env.cells.lookup x = some c ∧ h.IsCell c (some u))
structure Cx.Ok (X : Cx) : Prop where
  mod : Mod X.K X.mg X.base
  kind : X.env.scope.kind = .function
  glob : X.env.globals = mainGlobals
  blt : X.env.builtins = builtinsNs
  above : X.s₀.heap.objs.size ≤ X.env.locals
  inj : ∀ x y c, X.env.cells.lookup x = some c → X.env.cells.lookup y = some c → x = y
  has : ∀ x, (X.env.kindOf x = some .cell ∨ X.env.kindOf x = some .free) → ∃ c, X.env.cells.lookup x = some c
  cab : ∀ x c, X.fn x = true → X.env.cells.lookup x = some c → X.s₀.heap.objs.size ≤ c
  hd : X.calm = true → X.A.handled = none
  frames : X.A.frames = some X.stack
  stk : X.stack = X.outer ∨ (X.stack = X.env :: X.outer ∧ X.env.frame = some X.env.locals)
  exf : ∀ b ∈ X.ex, b ≠ X.env.locals ∧ ∀ x c, X.env.cells.lookup x = some c → c ≠ b
  bs : ∀ b o, X.base.get? b = some o → X.s₀.heap.get? b = some o ∧ X.H₀ b = none
  bsz : X.base.objs.size ≤ X.s₀.heap.objs.size
  noex : ∀ b o, X.base.get? b = some o → b ∉ X.ex
  exfs : ∀ b ∈ X.ex, b ∉ X.fs
  funs : X.s₀.heap.FunFrames X.base X.outer
  frf : ∀ b ∈ X.fs, X.H₀ b = none
structure Inv (X : Cx) (pins : List (Addr × Obj)) (σ : List (Option V)) (H : Hp) (s : Shared) : Prop where
  ok : X.Ok
  os : s.os = X.s₀.os
  bare : AllBare s.gens
  base : Un X.fs X.ex X.H₀ H X.s₀.heap s.heap
  loc : ∃ m, s.heap.Ns X.env.locals m ∧ ∀ (i : Nat) (x : Str) (v : V), X.N[i]? = some x → σ[i]? = some (some v) → Vis X.env.scope x → ∃ u, RelV v u ∧ Look X.env s.heap m x u
  cell : ∀ x c, X.env.cells.lookup x = some c → ∃ v, s.heap.IsCell c v
  free : H X.env.locals = none
  freeC : ∀ x c, X.env.cells.lookup x = some c → H c = none
  pin : ∀ p ∈ X.pn ++ pins, s.heap.get? p.1 = some p.2 ∧ H p.1 = none ∧ p.1 ≠ X.env.locals ∧ p.1 ∉ X.fs ∧ ∀ v, p.2.data ≠ .cell v
  hok : HOk X.prog X.w H s.heap
  len : σ.length = X.N.length
section
variable {X : Cx} {pins : List (Addr × Obj)} {σ : List (Option V)} {H H' : Hp} {s : Shared} {h' : Heap}
theorem Cx.Ok.nofr (ok : X.Ok) {b : Addr} {o : Obj} (e : X.base.get? b = some o) : b ∉ X.fs := fun hb => by
  have := (ok.funs.mem hb).1
  rw [e] at this; cases this
theorem Inv.bs (I : Inv X pins σ H s) : ∀ b o, X.base.get? b = some o → s.heap.get? b = some o ∧ H b = none := fun b o e =>
  ⟨I.base.keep b o (I.ok.bs b o e).1 (I.ok.bs b o e).2 (I.ok.nofr e) (I.ok.noex b o e), I.base.free b o (I.ok.bs b o e).1 (I.ok.bs b o e).2 (I.ok.noex b o e)⟩
theorem Inv.bk (I : Inv X pins σ H s) : ∀ b o, X.base.get? b = some o → s.heap.get? b = some o := fun b o e => (I.bs b o e).1
theorem Inv.mod (I : Inv X pins σ H s) : Mod X.K X.mg X.base := I.ok.mod
theorem Inv.kIn (I : Inv X pins σ H s) : X.K.In s.heap := I.ok.mod.kin.keeps I.bk
theorem Inv.nolimit (I : Inv X pins σ H s) : s.heap.NoLimit := I.ok.mod.nolimit.keeps I.bk
theorem Inv.fr (I : Inv X pins σ H s) : ∃ m, Fr X.base X.env.locals s.heap m :=
  let ⟨m, hn, _⟩ := I.loc
  ⟨m, hn, I.bk, Nat.le_trans I.ok.bsz I.ok.above⟩
theorem Inv.lt (I : Inv X pins σ H s) : X.env.locals < s.heap.objs.size := let ⟨_, hn, _⟩ := I.loc; hn.lt
theorem Inv.sz (I : Inv X pins σ H s) : X.s₀.heap.objs.size ≤ s.heap.objs.size := Nat.le_trans I.ok.above (Nat.le_of_lt I.lt)
theorem Inv.nofs (I : Inv X pins σ H s) {a : Addr} (h : s.heap.objs.size ≤ a) : a ∉ X.fs := fun hb => by
  obtain ⟨_, o, ho, _⟩ := I.ok.funs.mem hb
  exact absurd (Nat.lt_of_lt_of_le (Heap.lt_size ho) (Nat.le_trans I.sz h)) (Nat.lt_irrefl _)
theorem Inv.cne (I : Inv X pins σ H s) : ∀ x c, X.env.cells.lookup x = some c → c ≠ X.env.locals := fun x c e z => by
  obtain ⟨v, o, ho, hd⟩ := I.cell x c e
  obtain ⟨m, ⟨o', es, ep, ho', hd', _⟩, _⟩ := I.loc
  rw [z, ho'] at ho; cases ho; rw [hd'] at hd; cases hd
theorem Inv.funs (I : Inv X pins σ H s) : s.heap.FunFrames X.base X.outer := by
  have all : ∀ (l : List Env), (∀ b ∈ frs l, b ∈ X.fs) → X.s₀.heap.FunFrames X.base l → s.heap.FunFrames X.base l := by
    intro l
    induction l with
    | nil => intro _ _; trivial
    | cons env r ih =>
      intro hs hl
      obtain ⟨hk, ⟨L, o, hf, hn, ho, hd⟩, hr⟩ := hl
      have hL : L ∈ X.fs := hs L (by unfold frs; rw [List.filterMap_cons, hf]; exact List.mem_cons_self)
      obtain ⟨sl, e⟩ := I.base.slot L o ho (I.ok.frf L hL) hL fun z => I.ok.exfs L z hL
      exact ⟨hk, ⟨L, _, hf, hn, e, hd⟩, ih (fun b hb => hs b (by unfold frs; rw [List.filterMap_cons, hf]; exact List.mem_cons_of_mem _ hb)) hr⟩
  exact all X.outer (fun _ hb => hb) I.ok.funs
theorem Inv.stack (I : Inv X pins σ H s) : s.heap.FunFrames X.base X.stack := by
  rcases I.ok.stk with e | ⟨e, hf⟩
  · rw [e]; exact I.funs
  · rw [e]
    obtain ⟨m, hn, _⟩ := I.loc
    refine .cons (by rw [I.ok.kind]; decide) hf hn ?_ I.funs
    exact Heap.get?_none_of_le (Nat.le_trans I.ok.bsz I.ok.above)
theorem Inv.stkSub (I : Inv X pins σ H s) : ∀ b ∈ frs X.stack, b ∈ X.env.locals :: X.fs := fun b hb => by
  rcases I.ok.stk with e | ⟨e, hf⟩
  · rw [e] at hb; exact List.mem_cons_of_mem _ hb
  · rw [e] at hb
    unfold frs at hb
    rw [List.filterMap_cons, hf] at hb
    exact hb
theorem Inv.stkFree (I : Inv X pins σ H s) : ∀ b ∈ frs X.stack, H b = none := fun b hb => by
  rcases List.mem_cons.mp (I.stkSub b hb) with e | hb
  · rw [e]; exact I.free
  · obtain ⟨_, o, ho, _⟩ := I.ok.funs.mem hb
    exact I.base.free b o ho (I.ok.frf b hb) fun z => I.ok.exfs b z hb
theorem Inv.step {g' : Array GenState} {t' : Nat} {d' : Drawn} {ch : List Addr} (I : Inv X pins σ H s)
    (hch : ∀ b ∈ ch, (b ∈ X.ex ∨ X.s₀.heap.objs.size ≤ b) ∧ b ≠ X.env.locals ∧ (∀ x c, X.env.cells.lookup x = some c → c ≠ b) ∧ ∀ p ∈ X.pn ++ pins, p.1 ≠ b)
    (keep : ∀ b o, b ≠ X.env.locals → b ∉ X.fs → b ∉ ch → s.heap.get? b = some o → H b = none → h'.get? b = some o)
    (slot : ∀ b o, b ≠ X.env.locals → b ∈ X.fs → b ∉ ch → s.heap.get? b = some o → H b = none → ∃ sl, h'.get? b = some { o with slots := sl }) (free : ∀ b o, b ∉ ch → s.heap.get? b = some o → H b = none → H' b = none)
    (there : ∀ b o, b ∉ ch → s.heap.get? b = some o → ∃ o', h'.get? b = some o')
    (tups : ∀ b xs, H b = some (.tup xs) → H' b = some (.tup xs)) (frzs : ∀ b o u, H b = some (.frz o u) → H' b = some (.frz o u)) (tbls : ∀ b ps, H b = some (.tbl ps) → ∃ more, H' b = some (.tbl (ps ++ more)))
    (ns : ∀ m, s.heap.Ns X.env.locals m → h'.Ns X.env.locals m) (hok : HOk X.prog X.w H' h') (hg : AllBare g') :
    Inv X pins σ H' { s with heap := h', gens := g', drawn := d', toks := t' } := by
  have neL : ∀ b o, X.s₀.heap.get? b = some o → b ≠ X.env.locals := fun b o e => Nat.ne_of_lt (Nat.lt_of_lt_of_le (Heap.lt_size e) I.ok.above)
  have neC : ∀ b o, X.s₀.heap.get? b = some o → b ∉ X.ex → b ∉ ch := fun b o e hx hb => by
    rcases (hch b hb).1 with z | z
    · exact hx z
    · exact absurd (Nat.lt_of_lt_of_le (Heap.lt_size e) z) (Nat.lt_irrefl _)
  have cellK : ∀ x c, X.env.cells.lookup x = some c → ∀ v, s.heap.IsCell c v → h'.IsCell c v := fun x c e v ⟨o, ho, hd⟩ => by
    have nch : c ∉ ch := fun z => (hch c z).2.2.1 x c e rfl
    by_cases hc : c ∈ X.fs
    · obtain ⟨sl, q⟩ := slot c o (I.cne x c e) hc nch ho (I.freeC x c e)
      exact ⟨_, q, hd⟩
    · exact ⟨o, keep c o (I.cne x c e) hc nch ho (I.freeC x c e), hd⟩
  refine ⟨I.ok, I.os, hg, ⟨fun b o e n hb hx => ?_, fun b o e n hb hx => ?_, fun b o e n hx => ?_, fun b o e hx => ?_, fun b xs e => tups b xs (I.base.tups b xs e), fun b o xs e => frzs b o xs (I.base.frzs b o xs e), fun b ps e => ?_⟩, ?_, fun x c e => ?_, ?_, fun x c e => ?_, fun p hp => ?_, hok, I.len⟩
  · exact keep b o (neL b o e) hb (neC b o e hx) (I.base.keep b o e n hb hx) (I.base.free b o e n hx)
  · obtain ⟨sl, e1⟩ := I.base.slot b o e n hb hx
    obtain ⟨sl', e2⟩ := slot b _ (neL b o e) hb (neC b o e hx) e1 (I.base.free b o e n hx)
    exact ⟨sl', e2⟩
  · obtain ⟨o', e1⟩ := I.base.there b o e hx
    exact free b o' (neC b o e hx) e1 (I.base.free b o e n hx)
  · obtain ⟨o', e1⟩ := I.base.there b o e hx
    exact there b o' (neC b o e hx) e1
  · obtain ⟨m1, e1⟩ := I.base.tbls b ps e
    obtain ⟨m2, e2⟩ := tbls b _ e1
    exact ⟨m1 ++ m2, by rw [e2, Array.append_assoc]⟩
  · obtain ⟨m, hn, hl⟩ := I.loc
    refine ⟨m, ns m hn, fun i x v e1 e2 e3 => ?_⟩
    obtain ⟨u, r, l⟩ := hl i x v e1 e2 e3
    refine ⟨u, r, ?_⟩
    rcases l with l | ⟨k, c, e, z⟩
    · exact .inl l
    · exact .inr ⟨k, c, e, cellK x c e _ z⟩
  · obtain ⟨v, z⟩ := I.cell x c e
    exact ⟨v, cellK x c e v z⟩
  · obtain ⟨m, ⟨o, _, _, ho, _⟩, _⟩ := I.loc
    exact free _ o (fun z => (hch _ z).2.1 rfl) ho I.free
  · obtain ⟨v, o, ho, hd⟩ := I.cell x c e
    exact free c o (fun z => (hch c z).2.2.1 x c e rfl) ho (I.freeC x c e)
  · obtain ⟨e, n, ne, nf, d⟩ := I.pin p hp
    have nch : p.1 ∉ ch := fun z => (hch p.1 z).2.2.2 p hp rfl
    exact ⟨keep p.1 p.2 ne nf nch e n, free p.1 p.2 nch e n, ne, nf, d⟩
theorem Inv.un {t' : Nat} (I : Inv X pins σ H s) (u : Un X.fs [] H H' s.heap h') (hok : HOk X.prog X.w H' h') : Inv X pins σ H' { s with heap := h', toks := t' } := by
  obtain ⟨m, ⟨o, es, ep, ho, r⟩, _⟩ := id I.loc
  obtain ⟨sl, hL⟩ := u.any ho I.free (by simp)
  exact I.step (g' := s.gens) (d' := s.drawn) (ch := []) (fun _ z => nomatch z) (fun b o _ hb _ e n => u.keep b o e n hb (by simp)) (fun b o _ hb _ e n => u.slot b o e n hb (by simp)) (fun b o _ e n => u.free b o e n (by simp)) (fun b o _ e => u.there b o e (by simp)) u.tups u.frzs u.tbls (fun m' hm => by
    obtain ⟨o', es', ep', ho', r'⟩ := hm
    rw [ho] at ho'; cases ho'
    exact ⟨_, es', ep', hL, r'⟩) hok I.bare
theorem Inv.call {g' : Array GenState} {t' : Nat} {d' : Drawn} {ch : List Addr} (I : Inv X pins σ H s) (u : Un (frs X.stack) ch H H' s.heap h') (hok : HOk X.prog X.w H' h') (hg : AllBare g')
    (hch : ∀ b ∈ ch, (b ∈ X.ex ∨ X.s₀.heap.objs.size ≤ b) ∧ b ≠ X.env.locals ∧ (∀ x c, X.env.cells.lookup x = some c → c ≠ b) ∧ ∀ p ∈ X.pn ++ pins, p.1 ≠ b) :
    Inv X pins σ H' { s with heap := h', gens := g', drawn := d', toks := t' } := by
  obtain ⟨m, ⟨o, es, ep, ho, r⟩, _⟩ := id I.loc
  obtain ⟨sl, hL⟩ := u.any ho I.free fun z => (hch _ z).2.1 rfl
  exact I.step (ch := ch) hch (fun b o hL hb hc e n => u.keep b o e n (fun z => (List.mem_cons.mp (I.stkSub b z)).elim hL hb) hc) (fun b o _ _ hc e n => u.any e n hc) (fun b o hc e n => u.free b o e n hc) (fun b o hc e => u.there b o e hc) u.tups u.frzs u.tbls (fun m' hm => by
    obtain ⟨o', es', ep', ho', r'⟩ := hm
    rw [ho] at ho'; cases ho'
    exact ⟨_, es', ep', hL, r'⟩) hok hg
theorem Inv.turned {t' : Nat} {it : Addr} (I : Inv X pins σ H s) (k : ∀ b o, b ≠ it → s.heap.get? b = some o → h'.get? b = some o) (hn : H it = none) (hL : it ≠ X.env.locals)
    (h1 : it ∈ X.ex ∨ X.s₀.heap.objs.size ≤ it) (h2 : ∀ x c, X.env.cells.lookup x = some c → c ≠ it) (h3 : ∀ p ∈ X.pn ++ pins, p.1 ≠ it) : Inv X pins σ H { s with heap := h', toks := t' } := by
  have nit : ∀ b u, H b = some u → b ≠ it := fun b u e z => by rw [z, hn] at e; cases e
  refine I.step (g' := s.gens) (d' := s.drawn) (ch := [it]) (fun b hb => ?_) (fun b o _ _ hc e _ => k b o (fun z => hc (by simp [z])) e) (fun b o _ _ hc e _ => ⟨o.slots, k b o (fun z => hc (by simp [z])) e⟩) (fun _ _ _ _ n => n)
    (fun b o hc e => ⟨o, k b o (fun z => hc (by simp [z])) e⟩) (fun _ _ e => e) (fun _ _ _ e => e) (fun b ps e => ⟨#[], by rw [e]; simp⟩) (fun m hm => ?_) (fun b u e => ?_) I.bare
  · have e : b = it := by simpa using hb
    subst e
    exact ⟨h1, hL, h2, h3⟩
  · obtain ⟨o, es, ep, ho, r⟩ := hm
    exact ⟨o, es, ep, k _ o (Ne.symm hL) ho, r⟩
  · refine (I.hok b u e).stay (fun c v hc q => k c v ?_ q) (fun _ q => q) fun _ _ q => q
    rcases hc with z | z
    · rw [z]; exact nit b u e
    · exact nit c _ z
theorem Inv.tok (I : Inv X pins σ H s) (t : Nat) : Inv X pins σ H { s with toks := t } := I.un (h' := s.heap) (t' := t) Un.refl I.hok
theorem Inv.kept {t' : Nat} (I : Inv X pins σ H s) (k : ∀ b u, s.heap.get? b = some u → h'.get? b = some u) : Inv X pins σ H { s with heap := h', toks := t' } := I.un (Un.kept k) (I.hok.kept k)
theorem Inv.laid {a : Addr} {o : HO} {t' : Nat} (I : Inv X pins σ H s) (k : ∀ b u, s.heap.get? b = some u → h'.get? b = some u) (hp : s.heap.objs.size ≤ a) (new : ObjOk X.prog X.w (upd H a o) h' a o) :
    Inv X pins σ (upd H a o) { s with heap := h', toks := t' } := I.un (Un.laid k hp (I.hok.fresh hp)) (I.hok.laid k hp new)
theorem Inv.write {x e : Addr} {o : HO} {t' : Nat} (I : Inv X pins σ H s) (mu : Mut (H x)) (he : e = x ∨ H e = some (.own x)) (k : ∀ b u, b ≠ e → s.heap.get? b = some u → h'.get? b = some u) (heo : ∃ u, h'.get? e = some u)
    (new : ObjOk X.prog X.w (upd H x o) h' x o) : Inv X pins σ (upd H x o) { s with heap := h', toks := t' } := I.un (Un.write mu he k heo) (I.hok.write mu he k heo new)
theorem Inv.weak {σ' : List (Option V)} (I : Inv X pins σ H s) (hl : σ'.length = σ.length) (w : ∀ (i : Nat) v, σ'[i]? = some (some v) → σ[i]? = some (some v)) : Inv X pins σ' H s :=
  ⟨I.ok, I.os, I.bare, I.base, let ⟨m, hn, hl'⟩ := I.loc; ⟨m, hn, fun i x v e1 e2 e3 => hl' i x v e1 (w i v e2) e3⟩, I.cell, I.free, I.freeC, I.pin, I.hok, hl.trans I.len⟩
theorem Inv.pins_of {pins' : List (Addr × Obj)} (I : Inv X pins σ H s) (h : ∀ p ∈ pins', s.heap.get? p.1 = some p.2 ∧ H p.1 = none ∧ p.1 ≠ X.env.locals ∧ p.1 ∉ X.fs ∧ ∀ v, p.2.data ≠ .cell v) : Inv X pins' σ H s :=
  ⟨I.ok, I.os, I.bare, I.base, I.loc, I.cell, I.free, I.freeC, fun p hp => (List.mem_append.mp hp).elim (fun z => I.pin p (List.mem_append_left _ z)) (h p), I.hok, I.len⟩
theorem nodup_ix {N : List Str} (hN : N.Nodup) {i j : Nat} {x : Str} (a : N[i]? = some x) (b : N[j]? = some x) : i = j := by
  obtain ⟨h1, e1⟩ := List.getElem?_eq_some_iff.mp a
  obtain ⟨h2, e2⟩ := List.getElem?_eq_some_iff.mp b
  exact (List.getElem_inj hN).mp (e1.trans e2.symm)
theorem store_ok2 {M : Model} {A : Around} {E : Value → Shared → Prop} {i : Nat} {x : Str} {v : V} {u : Value} {Q : Unit → Shared → Prop} (I : Inv X pins σ H s) (hN : X.N.Nodup) (hi : X.N[i]? = some x) (hx : Loc X.env.scope x) (r : RelV v u)
    (h : ∀ s', Inv X pins (σ.set i (some v)) H s' → (∃ a, Heap.SameBut a s.heap s'.heap ∧ (a = X.env.locals ∨ X.env.cells.lookup x = some a)) → Q () s') (hf : X.fn x = true ∨ X.env.scope.names.lookup x = some .local := by first | exact .inl rfl | exact .inr rfl | assumption) : wpAny M A (storeName X.env x u) Q E s := by
  obtain ⟨m, hn, hl⟩ := id I.loc
  have hcls : (X.env.scope.kind == .class || (X.env.scope.kind == .module && X.env.locals != X.env.globals)) = false := by rw [I.ok.kind]; rfl
  have hiσ : i < σ.length := by rw [I.len]; exact (List.getElem?_eq_some_iff.mp hi).1
  have cne := I.cne
  have tracked : ∀ {a : Addr} {h' : Heap}, (∃ o, s.heap.get? a = some o ∧ H a = none) → Heap.SameBut a s.heap h' → HOk X.prog X.w H h' := fun {a h'} ha hs b ob e => by
    obtain ⟨_, _, hfree⟩ := ha
    refine (I.hok b ob e).stay (fun c w' hc q => (hs.2 c ?_).trans q) (fun _ q => q) fun _ _ q => q
    rintro rfl
    rcases hc with rfl | hc
    · rw [hfree] at e; cases e
    · rw [hfree] at hc; cases hc
  rcases hx with hk | hk
  · refine wpAny_storeName_local hk hn (fun h' hn' hs => ?_) hcls
    obtain ⟨oL, _, _, hoL, _⟩ := id hn
    refine h _ ⟨I.ok, I.os, I.bare, ⟨fun b o e n hb hx => ?_, fun b o e n hb hx => ?_, I.base.free, fun b o e hx => ?_, I.base.tups, I.base.frzs, I.base.tbls⟩, ⟨_, hn', fun j y v' e1 e2 e3 => ?_⟩, fun y c e => ?_, I.free, I.freeC, fun p hp => ?_, tracked ⟨oL, hoL, I.free⟩ hs, by simpa using I.len⟩ ⟨_, hs, .inl rfl⟩
    · exact (hs.2 b (Nat.ne_of_lt (Nat.lt_of_lt_of_le (Heap.lt_size e) I.ok.above))).trans (I.base.keep b o e n hb hx)
    · obtain ⟨sl, e1⟩ := I.base.slot b o e n hb hx
      exact ⟨sl, (hs.2 b (Nat.ne_of_lt (Nat.lt_of_lt_of_le (Heap.lt_size e) I.ok.above))).trans e1⟩
    · obtain ⟨o', e1⟩ := I.base.there b o e hx
      exact ⟨o', (hs.2 b (Nat.ne_of_lt (Nat.lt_of_lt_of_le (Heap.lt_size e) I.ok.above))).trans e1⟩
    · by_cases hj : j = i
      · subst hj
        rw [hi] at e1; cases e1
        rw [List.getElem?_set_self hiσ] at e2
        cases e2
        exact ⟨u, r, .inl ⟨hk, by simp⟩⟩
      · rw [List.getElem?_set_ne (Ne.symm hj)] at e2
        obtain ⟨u', r', q⟩ := hl j y v' e1 e2 e3
        refine ⟨u', r', ?_⟩
        rcases q with ⟨k, e⟩ | ⟨k, c, e, z⟩
        · refine .inl ⟨k, ?_⟩
          have : y ≠ x := fun e => hj (nodup_ix hN e1 (e ▸ hi))
          simp [this, e]
        · exact .inr ⟨k, c, e, z.sameBut hs (cne y c e)⟩
    · obtain ⟨w', z⟩ := I.cell y c e
      exact ⟨w', z.sameBut hs (cne y c e)⟩
    · obtain ⟨e, n, ne, nf, d⟩ := I.pin p hp
      exact ⟨(hs.2 p.1 ne).trans e, n, ne, nf, d⟩
  · have hfn : X.fn x = true := by
      rcases hf with z | z
      · exact z
      · rw [z] at hk; cases hk
    obtain ⟨c, hc⟩ := I.ok.has x (.inl hk)
    obtain ⟨w', z⟩ := I.cell x c hc
    refine wpAny_storeName_cell I.ok.kind hk hc z (fun h' hc' hs => ?_)
    obtain ⟨oc, hoc, hocd⟩ := id z
    refine h { s with heap := h' } ⟨I.ok, I.os, I.bare, ⟨fun b o e n hb hx => ?_, fun b o e n hb hx => ?_, I.base.free, fun b o e hx => ?_, I.base.tups, I.base.frzs, I.base.tbls⟩, ⟨m, hn.sameBut hs (Ne.symm (cne x c hc)), fun j y v' e1 e2 e3 => ?_⟩, fun y c' e => ?_, I.free, I.freeC, fun p hp => ?_, tracked ⟨oc, hoc, I.freeC x c hc⟩ hs, by simpa using I.len⟩ ⟨c, hs, .inr hc⟩
    · exact (hs.2 b (Nat.ne_of_lt (Nat.lt_of_lt_of_le (Heap.lt_size e) (I.ok.cab x c hfn hc)))).trans (I.base.keep b o e n hb hx)
    · obtain ⟨sl, e1⟩ := I.base.slot b o e n hb hx
      exact ⟨sl, (hs.2 b (Nat.ne_of_lt (Nat.lt_of_lt_of_le (Heap.lt_size e) (I.ok.cab x c hfn hc)))).trans e1⟩
    · obtain ⟨o', e1⟩ := I.base.there b o e hx
      exact ⟨o', (hs.2 b (Nat.ne_of_lt (Nat.lt_of_lt_of_le (Heap.lt_size e) (I.ok.cab x c hfn hc)))).trans e1⟩
    · by_cases hj : j = i
      · subst hj
        rw [hi] at e1; cases e1
        rw [List.getElem?_set_self hiσ] at e2
        cases e2
        exact ⟨u, r, .inr ⟨.inl hk, c, hc, hc'⟩⟩
      · rw [List.getElem?_set_ne (Ne.symm hj)] at e2
        obtain ⟨u', r', q⟩ := hl j y v' e1 e2 e3
        refine ⟨u', r', ?_⟩
        rcases q with q | ⟨k, c', e, z'⟩
        · exact .inl q
        · refine .inr ⟨k, c', e, z'.sameBut hs ?_⟩
          rintro rfl
          exact hj (nodup_ix hN e1 (I.ok.inj _ _ _ e hc ▸ hi))
    · by_cases hcc : c' = c
      · subst hcc; exact ⟨_, hc'⟩
      · obtain ⟨w2, z2⟩ := I.cell y c' e
        exact ⟨w2, z2.sameBut hs hcc⟩
    · obtain ⟨e, n, ne, nf, d⟩ := I.pin p hp
      refine ⟨(hs.2 p.1 ?_).trans e, n, ne, nf, d⟩
      intro q
      rw [q, hoc] at e
      have q' : oc = p.2 := Option.some.inj e
      exact d w' (by rw [← q']; exact hocd)
theorem store_ok {M : Model} {A : Around} {E : Value → Shared → Prop} {i : Nat} {x : Str} {v : V} {u : Value} {Q : Unit → Shared → Prop} (I : Inv X pins σ H s) (hN : X.N.Nodup) (hi : X.N[i]? = some x) (hx : Loc X.env.scope x) (r : RelV v u)
    (h : ∀ s', Inv X pins (σ.set i (some v)) H s' → Q () s') (hf : X.fn x = true ∨ X.env.scope.names.lookup x = some .local := by first | exact .inl rfl | exact .inr rfl | assumption) : wpAny M A (storeName X.env x u) Q E s :=
  store_ok2 I hN hi hx r (fun s' I' _ => h s' I') hf
theorem Inv.call' {s' : Shared} {ch : List Addr} (I : Inv X pins σ H s) (ho : s'.os = s.os) (u : Un (frs X.stack) ch H H' s.heap s'.heap) (hok : HOk X.prog X.w H' s'.heap) (hg : AllBare s'.gens)
    (hch : ∀ b ∈ ch, (b ∈ X.ex ∨ X.s₀.heap.objs.size ≤ b) ∧ b ≠ X.env.locals ∧ (∀ x c, X.env.cells.lookup x = some c → c ≠ b) ∧ ∀ p ∈ X.pn ++ pins, p.1 ≠ b) : Inv X pins σ H' s' := by
  obtain ⟨h', g', d', t', o'⟩ := s'
  have e : o' = s.os := ho
  subst e
  exact I.call (g' := g') (t' := t') (d' := d') u hok hg hch
end
noncomputable abbrev XK := Value → Option Addr → Hp → Prop
noncomputable abbrev St := List (Option V)
noncomputable abbrev VK := V → Hp → Prop
noncomputable abbrev TE := St → Hp → VK → Prop
noncomputable abbrev TT := St → Hp → (Bool → Hp → Prop) → Prop
noncomputable abbrev TA := St → Hp → (List V → Hp → Prop) → Prop
structure Ends where
  nx : St → Hp → Prop
  rt : VK
  bk : St → Hp → Prop := fun _ _ => False
  ct : St → Hp → Prop := fun _ _ => False
noncomputable abbrev TS := Ends → St → Hp → Prop
noncomputable def EP (X : Cx) (pins : List (Addr × Obj)) (σ : St) (Q : VK) (u : Value) (s' : Shared) : Prop := ∃ v H', Inv X pins σ H' s' ∧ RelV v u ∧ Q v H'
noncomputable def TP (X : Cx) (pins : List (Addr × Obj)) (σ : St) (Q : Bool → Hp → Prop) (b : Bool) (s' : Shared) : Prop := ∃ H', Inv X pins σ H' s' ∧ Q b H'
noncomputable def AP (X : Cx) (pins : List (Addr × Obj)) (σ : St) (Q : List V → Hp → Prop) (us : List Value) (s' : Shared) : Prop := ∃ vs H', Inv X pins σ H' s' ∧ Vals vs us ∧ Q vs H'
noncomputable def SP (X : Cx) (pins : List (Addr × Obj)) (D : Ends) (f : Flow) (s' : Shared) : Prop :=
  match f with
  | .next => ∃ σ' H', Inv X pins σ' H' s' ∧ D.nx σ' H'
  | .brk => ∃ σ' H', Inv X pins σ' H' s' ∧ D.bk σ' H'
  | .cont => ∃ σ' H', Inv X pins σ' H' s' ∧ D.ct σ' H'
  | .ret u => ∃ v σ' H', Inv X pins σ' H' s' ∧ RelV v u ∧ D.rt v H'
noncomputable def PE (X : Cx) (e : Expr) (t : TE) : Prop :=
  ∀ (pins : List (Addr × Obj)) (s : Shared) (σ : St) (H : Hp) (Q : VK), Inv X pins σ H s → t σ H Q → wpAny (model X.prog X.w) X.A (eval e X.env) (EP X pins σ Q) X.xe s
noncomputable def PT (X : Cx) (e : Expr) (t : TT) : Prop :=
  ∀ (pins : List (Addr × Obj)) (s : Shared) (σ : St) (H : Hp) (Q : Bool → Hp → Prop), Inv X pins σ H s → t σ H Q → wpAny (model X.prog X.w) X.A (isTrue e X.env (eval e X.env)) (TP X pins σ Q) X.xe s
noncomputable def PW (X : Cx) (e : Expr) (t : TT) : Prop :=
  ∀ (whole : Sem Value) (pins : List (Addr × Obj)) (s : Shared) (σ : St) (H : Hp) (Q : Bool → Hp → Prop), Inv X pins σ H s → t σ H Q → wpAny (model X.prog X.w) X.A (isTrue e X.env whole) (TP X pins σ Q) X.xe s
theorem PW.pt {X : Cx} {e : Expr} {t : TT} (h : PW X e t) : PT X e t := h _
noncomputable def PA (X : Cx) (es : List Expr) (t : TA) : Prop :=
  ∀ (pos : Pos) (pins : List (Addr × Obj)) (s : Shared) (σ : St) (H : Hp) (Q : List V → Hp → Prop), Inv X pins σ H s → t σ H Q → wpAny (model X.prog X.w) X.A (spliced (backTo pos (starEach es X.env))) (AP X pins σ Q) X.xe s
noncomputable def PS (X : Cx) (st : Stmt) (t : TS) : Prop :=
  ∀ (pins : List (Addr × Obj)) (s : Shared) (σ : St) (H : Hp) (D : Ends), Inv X pins σ H s → t D σ H → wpAny (model X.prog X.w) X.A (exec st X.env) (SP X pins D) X.xe s
noncomputable def PSs (X : Cx) (st : List Stmt) (t : TS) : Prop :=
  ∀ (pins : List (Addr × Obj)) (s : Shared) (σ : St) (H : Hp) (D : Ends), Inv X pins σ H s → t D σ H → wpAny (model X.prog X.w) X.A (execs st X.env) (SP X pins D) X.xe s
theorem thn {α : Type} {t : Sem α} {Q Q' : α → Shared → Prop} {M : Model} {A : Around} {E : Value → Shared → Prop} {s : Shared} (h : wpAny M A t Q E s) (hQ : ∀ a s, Q a s → Q' a s) : wpAny M A t Q' E s := wpAny_mono h hQ fun _ _ x => x
section
variable {X : Cx}
theorem bin {a b : Expr} {ta tb : TE} (ha : PE X a ta) (hb : PE X b tb) {pins : List (Addr × Obj)} {s : Shared} {σ : St} {H : Hp} {R : V → V → Hp → Prop} (I : Inv X pins σ H s) (h : ta σ H fun x H1 => tb σ H1 fun y H2 => R x y H2)
    {α : Type} {Q : α → Shared → Prop} {f : Value → Value → Sem α}
    (hf : ∀ v u s2 x y H2, Inv X pins σ H2 s2 → RelV x v → RelV y u → R x y H2 → wpAny (model X.prog X.w) X.A (f v u) Q X.xe s2) :
    wpAny (model X.prog X.w) X.A (eval a X.env) (fun v s₁ => wpAny (model X.prog X.w) X.A (eval b X.env) (fun u s₂ => wpAny (model X.prog X.w) X.A (f v u) Q X.xe s₂) X.xe s₁) X.xe s := by
  refine thn (ha pins s σ H _ I h) fun v s1 ⟨x, H1, I1, r1, q1⟩ => ?_
  refine thn (hb pins s1 σ H1 _ I1 q1) fun u s2 ⟨y, H2, I2, r2, q2⟩ => ?_
  exact hf v u s2 x y H2 I2 r1 r2 q2
noncomputable def tVar (i : Nat) : TE := fun σ H Q => ∃ v, σ[i]? = some (some v) ∧ Q v H
noncomputable def tC (v : V) : TE := fun _ H Q => Q v H
theorem pe_var {i : Nat} {x : Str} {pos : Pos} (hN : X.N[i]? = some x) (hv : Vis X.env.scope x) (hd : (x == ("__debug__" : Str)) = false := by decide) (hcd : (x == ("__classdict__" : Str)) = false := by decide) : PE X (.Name x pos) (tVar i) := by
  intro pins s σ H Q I h
  obtain ⟨v, e, h⟩ := h
  obtain ⟨m, hn, hl⟩ := I.loc
  obtain ⟨u, r, l⟩ := hl i x v hN e hv
  have fin : EP X pins σ Q u s := ⟨v, H, I, r, h⟩
  rcases l with ⟨hk, hm⟩ | ⟨hk, c, hc, hcell⟩
  · exact wpAny_Name (wpAny_loadName_local I.ok.kind hk hn hm fin) hd
  · rcases hk with hk | hk
    · exact wpAny_Name (wpAny_loadName_cell I.ok.kind hk hc hcell fin) hd
    · exact wpAny_Name (wpAny_loadName_free I.ok.kind hk hc hcell fin hcd) hd
theorem pe_int {i j pos} : PE X (.Constant (.int i) j pos) (tC (.int i)) := fun _ _ _ H _ I h => wpAny_Constant_int ⟨.int i, H, I.tok _, ⟨_, rfl⟩, h⟩
theorem pe_bl {b j pos} : PE X (.Constant (.bool b) j pos) (tC (.bl b)) := fun _ _ _ H _ I h => Constant_bool ⟨.bl b, H, I, rfl, h⟩
theorem pe_non {j pos} : PE X (.Constant .none j pos) (tC .non) := fun _ _ _ H _ I h => Constant_none ⟨.non, H, I, rfl, h⟩
theorem pe_str {x j pos} : PE X (.Constant (.str x) j pos) (tC (.str x)) := fun _ _ _ H _ I h => Calls.Constant_str ⟨.str x, H, I.tok _, ⟨_, rfl⟩, h⟩
noncomputable def Gl (X : Cx) (x : Str) : Prop := X.env.kindOf x = some .globalImplicit
theorem ld_glob {E : Value → Shared → Prop} {pins : List (Addr × Obj)} {s : Shared} {σ : St} {H : Hp} {x : Str} {u : Value} {pos : Pos} {Q : Value → Shared → Prop} (I : Inv X pins σ H s) (hg : Gl X x) (hm : X.mg x = some u) (h : Q u s)
    (hd : (x == ("__debug__" : Str)) = false := by decide) : wpAny (model X.prog X.w) X.A (eval (.Name x pos) X.env) Q E s :=
  Calls.Name_function_global I.ok.kind hg (Calls.loadGlobal_global (by rw [I.ok.glob]; exact I.mod.glob.keeps I.bk) hm h) hd
theorem ld_blt {E : Value → Shared → Prop} {pins : List (Addr × Obj)} {s : Shared} {σ : St} {H : Hp} {x : Str} {u : Value} {pos : Pos} {Q : Value → Shared → Prop} (I : Inv X pins σ H s) (hg : Gl X x) (hm : X.mg x = none) (hv : bootBuiltins x = some u) (h : Q u s)
    (hn : x ≠ "__name__" := by decide) (hd : (x == ("__debug__" : Str)) = false := by decide) : wpAny (model X.prog X.w) X.A (eval (.Name x pos) X.env) Q E s := by
  obtain ⟨mb, h1, h2⟩ := I.mod.blt
  exact Calls.Name_function_global I.ok.kind hg (Calls.loadGlobal_builtin (by rw [I.ok.glob]; exact I.mod.glob.keeps I.bk) hm (by rw [I.ok.blt]; exact h1.keeps I.bk) ((h2 x hn).trans hv) h) hd
theorem pe_glob {x : Str} {v : V} {u : Value} {pos : Pos} (hg : Gl X x) (hm : X.mg x = some u) (r : RelV v u) (hd : (x == ("__debug__" : Str)) = false := by decide) : PE X (.Name x pos) (tC v) :=
  fun _ _ _ H _ I h => ld_glob I hg hm ⟨v, H, I, r, h⟩ hd
theorem pe_bltn {x : Str} {v : V} {u : Value} {pos : Pos} (hg : Gl X x) (hm : X.mg x = none) (hv : bootBuiltins x = some u) (r : RelV v u) (hn : x ≠ "__name__" := by decide) (hd : (x == ("__debug__" : Str)) = false := by decide) : PE X (.Name x pos) (tC v) :=
  fun _ _ _ H _ I h => ld_blt I hg hm hv ⟨v, H, I, r, h⟩ hn hd
noncomputable def t2I (ta tb : TE) (k : Int → Int → Hp → Prop) : St → Hp → Prop := fun σ H => ta σ H fun x H1 => tb σ H1 fun y H2 => ∃ i j, x = .int i ∧ y = .int j ∧ k i j H2
noncomputable def tAdd (ta tb : TE) : TE := fun σ H Q => t2I ta tb (fun i j H2 => Q (.int (i + j)) H2) σ H
noncomputable def tSub (ta tb : TE) : TE := fun σ H Q => t2I ta tb (fun i j H2 => Q (.int (i - j)) H2) σ H
noncomputable def tMul (ta tb : TE) : TE := fun σ H Q => t2I ta tb (fun i j H2 => (-(2 ^ 64) < i ∧ i < 2 ^ 64) ∧ Q (.int (i * j)) H2) σ H
variable {a b : Expr} {ta tb : TE} {pos : Pos}
noncomputable def PC (X : Cx) (op : CmpOp) (a b : Expr) (t : TE) : Prop :=
  ∀ (pins : List (Addr × Obj)) (s : Shared) (σ : St) (H : Hp) (Q : VK), Inv X pins σ H s → t σ H Q →
    wpAny (model X.prog X.w) X.A (eval a X.env) (fun v s₁ => wpAny (model X.prog X.w) X.A (eval b X.env) (fun u s₂ => wpAny (model X.prog X.w) X.A (compareOp op v u) (EP X pins σ Q) X.xe s₂) X.xe s₁) X.xe s
theorem nobehind (b : Expr) {op : CmpOp} (h : op ≠ .In) (h2 : op ≠ .NotIn) : behindInMarks op b = false := by
  have e1 : (op == CmpOp.In) = false := by cases op <;> first | rfl | exact absurd rfl h
  have e2 : (op == CmpOp.NotIn) = false := by cases op <;> first | rfl | exact absurd rfl h2
  cases b <;> simp [behindInMarks, e1, e2]
noncomputable def tCmp (p : Int → Int → Bool) (ta tb : TE) : TE := fun σ H Q => t2I ta tb (fun i j H2 => Q (.bl (p i j)) H2) σ H
noncomputable abbrev tLt : TE → TE → TE := tCmp fun i j => decide (i < j)
noncomputable abbrev tLe : TE → TE → TE := tCmp fun i j => decide (i ≤ j)
noncomputable abbrev tGt : TE → TE → TE := tCmp fun i j => decide (j < i)
noncomputable abbrev tGe : TE → TE → TE := tCmp fun i j => decide (j ≤ i)
noncomputable abbrev tEqI : TE → TE → TE := tCmp fun i j => decide (i = j)
noncomputable abbrev tNeI : TE → TE → TE := tCmp fun i j => !decide (i = j)
noncomputable def tIsN (ta : TE) : TE := fun σ H Q => ta σ H fun x H1 => Q (.bl (decide (x = .non))) H1
noncomputable def tNotN (ta : TE) : TE := fun σ H Q => ta σ H fun x H1 => Q (.bl (!decide (x = .non))) H1
theorem RelV.none_iff {x : V} {v : Value} (r : RelV x v) : (v == Value.none) = decide (x = .non) := by
  cases x with
  | non => cases r; rfl
  | bl _ => cases r; rfl
  | int _ => obtain ⟨t, rfl⟩ := r; rfl
  | str _ => obtain ⟨t, rfl⟩ := r; rfl
  | byt _ => obtain ⟨t, rfl⟩ := r; rfl
  | flt _ => obtain ⟨t, rfl⟩ := r; rfl
  | ref _ => cases r; rfl
  | ty _ => cases r; rfl
theorem pc_isN {j pos'} (ha : PE X a ta) : PC X .Is a (.Constant .none j pos') (tIsN ta) := by
  intro pins s σ H Q I h
  refine thn (ha pins s σ H _ I h) fun v s1 ⟨x, H1, I1, r1, q1⟩ => ?_
  exact Constant_none (is_none_gen ⟨.bl _, H1, I1, by rw [r1.none_iff]; rfl, q1⟩)
theorem pc_notN {j pos'} (ha : PE X a ta) : PC X .IsNot a (.Constant .none j pos') (tNotN ta) := by
  intro pins s σ H Q I h
  refine thn (ha pins s σ H _ I h) fun v s1 ⟨x, H1, I1, r1, q1⟩ => ?_
  exact Constant_none (isnot_none_gen ⟨.bl _, H1, I1, by rw [r1.none_iff]; rfl, q1⟩)
noncomputable def tB (t : TE) : TT := fun σ H Q => t σ H fun x H1 => ∃ c, x = .bl c ∧ Q c H1
theorem pe_cmp {op : CmpOp} {t : TE} (h : PC X op a b t) (h1 : behindInMarks op b = false := by first | exact nobehind _ (by decide) (by decide) | rfl) : PE X (.Compare a [op] [b] pos) t := fun pins s σ H Q I hw => wpAny_Compare1 (h pins s σ H Q I hw) h1
theorem pt_cmp {op : CmpOp} {t : TE} (h : PC X op a b t) (h1 : behindInMarks op b = false := by first | exact nobehind _ (by decide) (by decide) | rfl) : PT X (.Compare a [op] [b] pos) (tB t) := by
  intro pins s σ H Q I hw
  refine wpAny_isTrue_Compare1 (thn (h pins s σ H _ I hw) fun v s1 h1 => thn h1 fun u s2 h2 => thn h2 fun c s3 ⟨x, H1, I1, r1, q1⟩ => ?_) h1
  obtain ⟨d, rfl, q⟩ := q1
  cases r1
  exact wpAny_truthy_bool ⟨H1, I1, q⟩
theorem pt_val {e : Expr} {t : TE} (h : PE X e t) (he : ∀ whole, isTrue e X.env whole = (do let v ← whole; standAt e.pos; holding [v] (truthy v)) := by intro _; rfl) : PT X e (tB t) := by
  intro pins s σ H Q I hw
  refine isTrue_plain (thn (h pins s σ H _ I hw) fun v s1 ⟨x, H1, I1, r1, q1⟩ => ?_) (he _)
  obtain ⟨d, rfl, q⟩ := q1
  cases r1
  exact wpAny_truthy_bool ⟨H1, I1, q⟩
variable {tA tB' : TT} {rest : List Expr}
noncomputable def tAnd (t u : TT) : TT := fun σ H Q => t σ H fun c H1 => if c = true then u σ H1 Q else Q false H1
noncomputable def tOr (t u : TT) : TT := fun σ H Q => t σ H fun c H1 => if c = true then Q true H1 else u σ H1 Q
noncomputable def tNot (t : TT) : TT := fun σ H Q => t σ H fun c H1 => Q (!c) H1
theorem pw_and1 (ha : PT X a tA) : PW X (.BoolOp .And [a] pos) tA := by
  intro wh pins s σ H Q I h
  refine isTrue_and (thn (ha pins s σ H Q I h) fun c s1 e => ?_)
  cases c with
  | true => exact isTrue_and_nil e
  | false => exact e
theorem pw_or1 (ha : PT X a tA) : PW X (.BoolOp .Or [a] pos) tA := by
  intro wh pins s σ H Q I h
  refine isTrue_or (thn (ha pins s σ H Q I h) fun c s1 e => ?_)
  cases c with
  | false => exact isTrue_or_nil e
  | true => exact e
theorem pw_and (ha : PT X a tA) (hb : PW X (.BoolOp .And (b :: rest) pos) tB') : PW X (.BoolOp .And (a :: b :: rest) pos) (tAnd tA tB') := by
  intro wh pins s σ H Q I h
  refine isTrue_and (thn (ha pins s σ H _ I h) fun c s1 ⟨H1, I1, q1⟩ => ?_)
  cases c with
  | true => exact hb wh pins s1 σ H1 Q I1 q1
  | false => exact ⟨H1, I1, q1⟩
theorem pw_or (ha : PT X a tA) (hb : PW X (.BoolOp .Or (b :: rest) pos) tB') : PW X (.BoolOp .Or (a :: b :: rest) pos) (tOr tA tB') := by
  intro wh pins s σ H Q I h
  refine isTrue_or (thn (ha pins s σ H _ I h) fun c s1 ⟨H1, I1, q1⟩ => ?_)
  cases c with
  | true => exact ⟨H1, I1, q1⟩
  | false => exact hb wh pins s1 σ H1 Q I1 q1
theorem pt_not (ha : PT X a tA) : PT X (.UnaryOp .Not a pos) (tNot tA) := by
  intro pins s σ H Q I h
  exact isTrue_not (ha pins s σ H (fun c H1 => Q (!c) H1) I h)
noncomputable def tAndV (ta tb : TE) : TE := fun σ H Q => ta σ H fun x H1 => ∃ c, x = .bl c ∧ if c = true then tb σ H1 Q else Q (.bl false) H1
noncomputable def tOrV (ta tb : TE) : TE := fun σ H Q => ta σ H fun x H1 => ∃ c, x = .bl c ∧ if c = true then Q (.bl true) H1 else tb σ H1 Q
noncomputable def tNotV (ta : TE) : TE := fun σ H Q => ta σ H fun x H1 => ∃ c, x = .bl c ∧ Q (.bl (!c)) H1
theorem pe_one {op} {t : TE} (h : PE X a t) : PE X (.BoolOp op [a] pos) t := fun pins s σ H Q I hw => BoolOp_one (h pins s σ H Q I hw)
theorem pe_and (ha : PE X a ta) (hb : PE X (.BoolOp .And (b :: rest) pos) tb) : PE X (.BoolOp .And (a :: b :: rest) pos) (tAndV ta tb) := by
  intro pins s σ H Q I h
  refine BoolOp_and (thn (ha pins s σ H _ I h) fun v s1 ⟨x, H1, I1, r1, q1⟩ => ?_)
  obtain ⟨c, rfl, q1⟩ := q1
  cases r1
  refine wpAny_truthy_bool ?_
  cases c with
  | true => exact hb pins s1 σ H1 Q I1 q1
  | false => exact ⟨.bl false, H1, I1, rfl, q1⟩
theorem pe_or (ha : PE X a ta) (hb : PE X (.BoolOp .Or (b :: rest) pos) tb) : PE X (.BoolOp .Or (a :: b :: rest) pos) (tOrV ta tb) := by
  intro pins s σ H Q I h
  refine BoolOp_or (thn (ha pins s σ H _ I h) fun v s1 ⟨x, H1, I1, r1, q1⟩ => ?_)
  obtain ⟨c, rfl, q1⟩ := q1
  cases r1
  refine wpAny_truthy_bool ?_
  cases c with
  | false => exact hb pins s1 σ H1 Q I1 q1
  | true => exact ⟨.bl true, H1, I1, rfl, q1⟩
theorem pe_not (ha : PE X a ta) : PE X (.UnaryOp .Not a pos) (tNotV ta) := by
  intro pins s σ H Q I h
  refine UnaryOp_ (thn (ha pins s σ H _ I h) fun v s1 ⟨x, H1, I1, r1, q1⟩ => ?_)
  obtain ⟨c, rfl, q1⟩ := q1
  cases r1
  exact not_of (wpAny_truthy_bool ⟨.bl (!c), H1, I1, rfl, q1⟩)
noncomputable def tIf (t : TT) (ta tb : TE) : TE := fun σ H Q => t σ H fun c H1 => if c = true then ta σ H1 Q else tb σ H1 Q
theorem pe_ifExp {c : Expr} (hc : PT X c tA) (ha : PE X a ta) (hb : PE X b tb) : PE X (.IfExp c a b pos) (tIf tA ta tb) := by
  intro pins s σ H Q I h
  refine wpAny_IfExp (thn (hc pins s σ H _ I h) fun d s1 ⟨H1, I1, q1⟩ => ?_)
  cases d with
  | true => exact ha pins s1 σ H1 Q I1 q1
  | false => exact hb pins s1 σ H1 Q I1 q1
end
noncomputable def SqL (K : PySem.W.Frag) (H : Hp) (a : Addr) (xs : List V) : Prop :=
  Rd H a (.lst xs) ∨
    ∃ (o : Obj) (its : Array Value) (n : Nat), K.lookup a = some o ∧ o.cls = .type "list" ∧ o.dict = none ∧ o.data = .seq its n ∧ its.size ≤ sizeLine ∧ Vals xs its.toList
noncomputable def SqT (K : PySem.W.Frag) (H : Hp) (a : Addr) (xs : List V) : Prop :=
  Rd H a (.tup xs) ∨
    ∃ (o : Obj) (its : Array Value) (n : Nat), K.lookup a = some o ∧ o.cls = .type "tuple" ∧ o.data = .seq its n ∧ its.size ≤ sizeLine ∧ Vals xs its.toList
noncomputable def absV : Value → Option V
  | .none => some .non
  | .bool b => some (.bl b)
  | .int i _ => some (.int i)
  | .str x _ => some (.str x)
  | .bytes b _ => some (.byt b)
  | .float b _ => some (.flt b)
  | .ref a => some (.ref a)
  | .type n => some (.ty n)
  | _ => none
theorem RelV.abs {x : V} {u : Value} (r : RelV x u) : absV u = some x := by
  cases x with
  | non => cases r; rfl
  | bl _ => cases r; rfl
  | int _ => obtain ⟨t, rfl⟩ := r; rfl
  | str _ => obtain ⟨t, rfl⟩ := r; rfl
  | byt _ => obtain ⟨t, rfl⟩ := r; rfl
  | flt _ => obtain ⟨t, rfl⟩ := r; rfl
  | ref _ => cases r; rfl
  | ty _ => cases r; rfl
theorem RelV.inj {x y : V} {u : Value} (r : RelV x u) (q : RelV y u) : x = y := Option.some.inj (r.abs.symm.trans q.abs)
theorem Vals.inj : ∀ {xs ys : List V} {us : List Value}, Vals xs us → Vals ys us → xs = ys
  | _, _, _, .nil, .nil => rfl
  | _, _, _, .cons r t, .cons r' t' => by rw [r.inj r', Vals.inj t t']
section
variable {X : Cx} {pins : List (Addr × Obj)} {σ : St} {H : Hp} {s : Shared} {a : Addr} {xs ys : List V}
theorem SqL.of {K : PySem.W.Frag} (h : H a = some (.lst xs)) : SqL K H a xs := .inl (.inl h)
theorem SqT.of {K : PySem.W.Frag} (h : H a = some (.tup xs)) : SqT K H a xs := .inl (.inl h)
theorem Inv.list (I : Inv X pins σ H s) (h : SqL X.K H a xs) : ∃ its : List Value, Vals xs its ∧ PlainL s.heap a its.toArray ∧ xs.length ≤ sizeLine := by
  rcases h with h | ⟨o, its, n, hk, hc, hd, hs, hz, r⟩
  · obtain ⟨z, its, n, r, e⟩ := h.ok I.hok
    exact ⟨its, r, ⟨_, n, e, rfl, rfl, rfl⟩, z⟩
  · refine ⟨its.toList, r, ⟨o, n, I.kIn a o hk, hc, hd, by simpa using hs⟩, ?_⟩
    have e := r.length
    simp only [Array.length_toList] at e
    omega
theorem Inv.tuple (I : Inv X pins σ H s) (h : SqT X.K H a xs) : ∃ its : List Value, Vals xs its ∧ IsTup s.heap a its.toArray ∧ xs.length ≤ sizeLine := by
  rcases h with h | ⟨o, its, n, hk, hc, hs, hz, r⟩
  · obtain ⟨z, its, r, p⟩ := h.ok I.hok
    exact ⟨its, r, p, z⟩
  · refine ⟨its.toList, r, ⟨o, I.kIn a o hk, hc, n, by simpa using hs⟩, ?_⟩
    have e := r.length
    simp only [Array.length_toList] at e
    omega
theorem Inv.list_inj (I : Inv X pins σ H s) (h : SqL X.K H a xs) (h' : SqL X.K H a ys) : xs = ys := by
  obtain ⟨its, r, ⟨o, n, e, _, _, d⟩, _⟩ := I.list h
  obtain ⟨its', r', ⟨o', n', e', _, _, d'⟩, _⟩ := I.list h'
  rw [e] at e'; cases e'
  rw [d] at d'
  injection d' with d1 _
  have : its = its' := by simpa using congrArg Array.toList d1
  subst this
  exact r.inj r'
theorem Inv.tuple_inj (I : Inv X pins σ H s) (h : SqT X.K H a xs) (h' : SqT X.K H a ys) : xs = ys := by
  obtain ⟨its, r, ⟨o, e, _, n, d⟩, _⟩ := I.tuple h
  obtain ⟨its', r', ⟨o', e', _, n', d'⟩, _⟩ := I.tuple h'
  rw [e] at e'; cases e'
  rw [d] at d'
  injection d' with d1 _
  have : its = its' := by simpa using congrArg Array.toList d1
  subst this
  exact r.inj r'
end
noncomputable abbrev Cx.wish (X : Cx) (E : Value → Shared → Prop) : Cx := { X with xe := E }
noncomputable abbrev Cx.nox (X : Cx) : Cx := X.wish fun _ _ => False
theorem Cx.Ok.wish {X : Cx} (ok : X.Ok) (E : Value → Shared → Prop) : (X.wish E).Ok :=
  ⟨ok.mod, ok.kind, ok.glob, ok.blt, ok.above, ok.inj, ok.has, ok.cab, ok.hd, ok.frames, ok.stk, ok.exf, ok.bs, ok.bsz, ok.noex, ok.exfs, ok.funs, ok.frf⟩
theorem Cx.Ok.unwish {X : Cx} {E : Value → Shared → Prop} (ok : (X.wish E).Ok) : X.Ok :=
  ⟨ok.mod, ok.kind, ok.glob, ok.blt, ok.above, ok.inj, ok.has, ok.cab, ok.hd, ok.frames, ok.stk, ok.exf, ok.bs, ok.bsz, ok.noex, ok.exfs, ok.funs, ok.frf⟩
section
variable {X : Cx} {pins : List (Addr × Obj)} {σ : St} {H : Hp} {s : Shared} {E : Value → Shared → Prop}
theorem Inv.wish (I : Inv X pins σ H s) (E : Value → Shared → Prop) : Inv (X.wish E) pins σ H s := ⟨I.ok.wish E, I.os, I.bare, I.base, I.loc, I.cell, I.free, I.freeC, I.pin, I.hok, I.len⟩
theorem Inv.unwish (I : Inv (X.wish E) pins σ H s) : Inv X pins σ H s := ⟨I.ok.unwish, I.os, I.bare, I.base, I.loc, I.cell, I.free, I.freeC, I.pin, I.hok, I.len⟩
theorem SP.unwish {D : Ends} {f : Flow} {s' : Shared} (h : SP (X.wish E) pins D f s') : SP X pins D f s' := by
  cases f with
  | next => obtain ⟨σ', H', I, q⟩ := h; exact ⟨σ', H', I.unwish, q⟩
  | brk => obtain ⟨σ', H', I, q⟩ := h; exact ⟨σ', H', I.unwish, q⟩
  | cont => obtain ⟨σ', H', I, q⟩ := h; exact ⟨σ', H', I.unwish, q⟩
  | ret u => obtain ⟨v, σ', H', I, r, q⟩ := h; exact ⟨v, σ', H', I.unwish, r, q⟩
theorem PE.nox {e : Expr} {t : TE} (h : PE X.nox e t) : PE X e t := fun pins s σ H Q I hw =>
  wpAny_mono (h pins s σ H Q (I.wish _) hw) (fun _ _ ⟨v, H', I', r, q⟩ => ⟨v, H', I'.unwish, r, q⟩) fun _ _ z => False.elim z
theorem PT.nox {e : Expr} {t : TT} (h : PT X.nox e t) : PT X e t := fun pins s σ H Q I hw =>
  wpAny_mono (h pins s σ H Q (I.wish _) hw) (fun _ _ ⟨H', I', q⟩ => ⟨H', I'.unwish, q⟩) fun _ _ z => False.elim z
theorem PSs.nox {st : List Stmt} {t : TS} (h : PSs X.nox st t) : PSs X st t := fun pins s σ H D I hw =>
  wpAny_mono (h pins s σ H D (I.wish _) hw) (fun _ _ q => q.unwish) fun _ _ z => False.elim z
end
section
variable {X : Cx} {st : Stmt} {rest : List Stmt} {t u : TS} {e : Expr} {te : TE} {pos : Pos}
noncomputable def tNext : TS := fun D σ H => D.nx σ H
noncomputable def tSeq (t u : TS) : TS := fun D σ H => t { D with nx := u D } σ H
theorem pss_nil : PSs X [] tNext := fun _ _ σ H _ I h => wpAny_execs_nil ⟨σ, H, I, h⟩
theorem pss_cons (h1 : PS X st t) (h2 : PSs X rest u) : PSs X (st :: rest) (tSeq t u) := by
  intro pins s σ H D I h
  refine wpAny_execs_cons (thn (h1 pins s σ H { D with nx := u D } I h) fun f s1 q => ?_)
  cases f with
  | next =>
    obtain ⟨σ', H', I', q⟩ := q
    exact h2 pins s1 σ' H' D I' q
  | ret v => exact q
  | brk => exact q
  | cont => exact q
noncomputable def tBreak : TS := fun D σ H => D.bk σ H
noncomputable def tCont : TS := fun D σ H => D.ct σ H
theorem ps_pass : PS X (.Pass pos) tNext := fun _ _ σ H _ I h => wpAny_Pass ⟨σ, H, I, h⟩
theorem ps_break : PS X (.Break pos) tBreak := fun _ _ σ H _ I h => wpAny_Break ⟨σ, H, I, h⟩
theorem ps_continue : PS X (.Continue pos) tCont := fun _ _ σ H _ I h => wpAny_Continue ⟨σ, H, I, h⟩
theorem Inv.quiet {pins : List (Addr × Obj)} {σ : St} {H : Hp} {s : Shared} (I : Inv X pins σ H s) : interactive X.env = false := by simp [interactive, I.ok.kind]
noncomputable def tDrop (te : TE) : TS := fun D σ H => te σ H fun _ H1 => D.nx σ H1
theorem ps_expr (he : PE X e te) (hs : swapsWith e none pos.line X.env = pure false := by rfl) : PS X (.Expr e pos) (tDrop te) := by
  intro pins s σ H D I h
  exact wpAny_Expr_any (thn (he pins s σ H _ I h) fun v s1 ⟨x, H1, I1, r1, q1⟩ => ⟨σ, H1, I1, q1⟩) I.quiet hs
noncomputable def tRet (te : TE) : TS := fun D σ H => te σ H D.rt
theorem ps_ret (he : PE X e te) : PS X (.Return (some e) pos) (tRet te) := by
  intro pins s σ H D I h
  exact wpAny_Return_some (thn (he pins s σ H _ I h) fun v s1 ⟨x, H1, I1, r1, q1⟩ => ⟨x, σ, H1, I1, r1, q1⟩)
noncomputable def tRetN : TS := fun D _ H => D.rt .non H
theorem ps_retN : PS X (.Return none pos) tRetN := fun _ _ σ H _ I h => wpAny_Return_none ⟨.non, σ, H, I, rfl, h⟩
noncomputable def tIfS (c : TT) (t u : TS) : TS := fun D σ H => c σ H fun b H1 => if b = true then t D σ H1 else u D σ H1
theorem ps_if {c : Expr} {a b : List Stmt} {tc : TT} (hc : PT X c tc) (ha : PSs X a t) (hb : PSs X b u) : PS X (.If c a b pos) (tIfS tc t u) := by
  intro pins s σ H D I h
  refine wpAny_If (thn (hc pins s σ H _ I h) fun d s1 ⟨H1, I1, q1⟩ => ?_)
  cases d with
  | true => exact ha pins s1 σ H1 D I1 q1
  | false => exact hb pins s1 σ H1 D I1 q1
noncomputable def tNever : TS := fun _ _ _ => False
end
noncomputable abbrev TG := V → St → Hp → (St → Hp → Prop) → Prop
noncomputable abbrev TGs := List V → St → Hp → (St → Hp → Prop) → Prop
noncomputable def PG (X : Cx) (target : Expr) (t : TG) : Prop :=
  ∀ (pins : List (Addr × Obj)) (s : Shared) (σ : St) (H : Hp) (v : V) (u : Value) (Q : St → Hp → Prop), Inv X pins σ H s → RelV v u → t v σ H Q →
    wpAny (model X.prog X.w) X.A (assign target X.env u) (fun _ s' => ∃ σ' H', Inv X pins σ' H' s' ∧ Q σ' H') X.xe s
noncomputable def PGs (X : Cx) (ts : List Expr) (t : TGs) : Prop :=
  ∀ (pins : List (Addr × Obj)) (s : Shared) (σ : St) (H : Hp) (vs : List V) (us : List Value) (Q : St → Hp → Prop), Inv X pins σ H s → Vals vs us → t vs σ H Q →
    wpAny (model X.prog X.w) X.A (assignInOrder ((assignEach ts X.env).map (·.2)) us) (fun _ s' => ∃ σ' H', Inv X pins σ' H' s' ∧ Q σ' H') X.xe s
noncomputable abbrev TSet := V → V → V → Hp → (Hp → Prop) → Prop
noncomputable def PSet (X : Cx) (t : TSet) : Prop :=
  ∀ (pins : List (Addr × Obj)) (s : Shared) (σ : St) (H : Hp) (o i v : V) (ov iv u : Value) (Q : Hp → Prop), Inv X pins σ H s → RelV o ov → RelV i iv → RelV v u → t o i v H Q →
    wpAny (model X.prog X.w) X.A (setItem ov iv u) (fun _ s' => ∃ H', Inv X pins σ H' s' ∧ Q H') X.xe s
noncomputable abbrev TIp := V → V → Hp → VK → Prop
noncomputable def PIp (X : Cx) (op : Operator) (t : TIp) : Prop :=
  ∀ (pins : List (Addr × Obj)) (s : Shared) (σ : St) (H : Hp) (x y : V) (v u : Value) (Q : VK), Inv X pins σ H s → RelV x v → RelV y u → t x y H Q →
    wpAny (model X.prog X.w) X.A (inplaceOp op v u) (EP X pins σ Q) X.xe s
section
variable {X : Cx} {pos : Pos}
noncomputable def gName (i : Nat) : TG := fun v σ H Q => Q (σ.set i (some v)) H
theorem pg_name {i : Nat} {x : Str} (hN : X.N.Nodup) (hi : X.N[i]? = some x) (hx : Loc X.env.scope x) (hf : X.fn x = true ∨ X.env.scope.names.lookup x = some .local := by first | exact .inl rfl | exact .inr rfl | assumption) : PG X (.Name x pos) (gName i) := by
  intro pins s σ H v u Q I r h
  exact wpAny_assign_Name (store_ok I hN hi hx r (fun s' I' => ⟨_, H, I', h⟩) hf)
noncomputable def gNil : TGs := fun vs σ H Q => vs = [] ∧ Q σ H
noncomputable def gCons (t : TG) (u : TGs) : TGs := fun vs σ H Q => ∃ v r, vs = v :: r ∧ t v σ H fun σ' H' => u r σ' H' Q
theorem pgs_nil : PGs X [] gNil := by
  intro pins s σ H vs us Q I r h
  obtain ⟨e, h⟩ := h
  subst e
  cases r
  exact assignInOrder_nil ⟨σ, H, I, h⟩
theorem pgs_cons {e : Expr} {es : List Expr} {t : TG} {u : TGs} (h1 : PG X e t) (h2 : PGs X es u)
    (hs : (assignEach (e :: es) X.env).map (·.2) = assign e X.env :: (assignEach es X.env).map (·.2) := by rfl) : PGs X (e :: es) (gCons t u) := by
  intro pins s σ H vs us Q I r h
  obtain ⟨v, vr, e1, h⟩ := h
  subst e1
  cases r with
  | cons r rr =>
    rw [hs]
    refine assignInOrder_cons (thn (h1 pins s σ H _ _ _ I r h) fun _ s1 ⟨σ1, H1, I1, q1⟩ => ?_)
    exact h2 pins s1 σ1 H1 _ _ Q I1 rr q1
noncomputable def gTup (K : PySem.W.Frag) (n : Nat) (t : TGs) : TG := fun v σ H Q => ∃ a xs, v = .ref a ∧ SqT K H a xs ∧ xs.length = n ∧ t xs σ H Q
theorem pg_tup {es : List Expr} {k : Nat} {t : TGs} {n : Nat} (hc : X.calm = true) (h : PGs X es t)
    (hn : (assignEach es X.env).length = n := by rfl) (hst : (assignEach es X.env).findIdx? (·.1) = none := by rfl) : PG X (.Tuple es k pos) (gTup X.K n t) := by
  intro pins s σ H v u Q I r hw
  obtain ⟨a, xs, e1, hq, hl, hw⟩ := hw
  subst e1
  cases r
  obtain ⟨its, rv, ht, hz⟩ := I.tuple hq
  refine assign_Tuple_tuple (I.ok.hd hc) ht (by simp [hn, ← hl, rv.length]) hst fun h' hx => ?_
  have I1 : Inv X pins σ H { s with heap := h' } := I.kept (t' := s.toks) fun b o e => hx b o (Nat.ne_of_lt (Heap.lt_size e)) e
  exact h pins _ σ H xs _ Q I1 (by simpa using rv) hw
noncomputable def gSub (to ti : TE) (t : TSet) : TG := fun v σ H Q => to σ H fun o H1 => ti σ H1 fun i H2 => t o i v H2 fun H3 => Q σ H3
theorem pg_sub {o i : Expr} {to ti : TE} {t : TSet} (ho : PE X o to) (hi : PE X i ti) (hs : PSet X t)
    (ha : ∀ v, assign (.Subscript o i pos) X.env v = (do
      let ov ← holding [v] (eval o X.env)
      let iv ← holding [v, ov] (eval i X.env)
      standAt pos
      holding [v, ov, iv] (setItem ov iv v)
      release [v, ov, iv] []) := by intro _; rfl) : PG X (.Subscript o i pos) (gSub to ti t) := by
  intro pins s σ H v u Q I r h
  rw [ha]
  refine wpAny_bind (wpAny_holding (thn (ho pins s σ H _ I h) fun ov s1 ⟨x, H1, I1, r1, q1⟩ => ?_))
  refine wpAny_bind (wpAny_holding (thn (hi pins s1 σ H1 _ I1 q1) fun iv s2 ⟨y, H2, I2, r2, q2⟩ => ?_))
  refine wpAny_bind (wpAny_standAt (wpAny_bind (wpAny_holding (thn (hs pins s2 σ H2 x y v ov iv u _ I2 r1 r2 r q2) fun _ s3 ⟨H3, I3, q3⟩ => ?_))))
  exact wpAny_release ⟨σ, H3, I3, q3⟩
noncomputable def tAsg (te : TE) (g : TG) : TS := fun D σ H => te σ H fun x H1 => g x σ H1 D.nx
theorem ps_asg {tg e : Expr} {te : TE} {g : TG} (he : PE X e te) (hg : PG X tg g) (hs : swapsWithSole [tg] e pos.line X.env = pure false := by rfl) (hw : swappedStores [tg] e X.env = pure none := by rfl)
    (h1 : (assignEach [tg] X.env).map (·.2) = [assign tg X.env] := by rfl) : PS X (.Assign [tg] e pos) (tAsg te g) := by
  intro pins s σ H D I h
  refine wpAny_Assign_stores (thn (he pins s σ H _ I h) fun v s1 ⟨x, H1, I1, r1, q1⟩ => ?_) hs hw
  rw [h1]
  exact thn (hg pins s1 σ H1 x v _ I1 r1 q1) fun _ s2 q => q
theorem ps_set {i : Nat} {x : Str} {e : Expr} {te : TE} {pos' : Pos} (hN : X.N.Nodup) (hi : X.N[i]? = some x) (hx : Loc X.env.scope x) (he : PE X e te) (hs : swapsWith e (some (.Name x pos')) pos.line X.env = pure false := by rfl) (hf : X.fn x = true ∨ X.env.scope.names.lookup x = some .local := by first | exact .inl rfl | exact .inr rfl | assumption) :
    PS X (.Assign [.Name x pos'] e pos) (tAsg te (gName i)) := by
  intro pins s σ H D I h
  refine wpAny_Assign_Name (thn (he pins s σ H _ I h) fun v s1 ⟨y, H1, I1, r1, q1⟩ => ?_) hs
  exact store_ok I1 hN hi hx r1 (fun s2 I2 => ⟨_, H1, I2, q1⟩) hf
noncomputable def tPar (i j : Nat) (ta : TA) : TS := fun D σ H => ta σ H fun vs H1 => ∃ v w, vs = [v, w] ∧ D.nx ((σ.set i (some v)).set j (some w)) H1
noncomputable def tAug (i : Nat) (te : TE) (ti : TIp) : TS := fun D σ H => ∃ x, σ[i]? = some (some x) ∧ te σ H fun y H1 => ti x y H1 fun z H2 => D.nx (σ.set i (some z)) H2
noncomputable def tAugS (to ti te : TE) (tget : V → V → Hp → VK → Prop) (tip : TIp) (tset : TSet) : TS := fun D σ H => to σ H fun o H1 => ti σ H1 fun i H2 => tget o i H2 fun x H3 => te σ H3 fun y H4 => tip x y H4 fun z H5 => tset o i z H5 fun H6 => D.nx σ H6
noncomputable def PGet (X : Cx) (t : V → V → Hp → VK → Prop) : Prop :=
  ∀ (pins : List (Addr × Obj)) (s : Shared) (σ : St) (H : Hp) (o i : V) (ov iv : Value) (Q : VK), Inv X pins σ H s → RelV o ov → RelV i iv → t o i H Q →
    wpAny (model X.prog X.w) X.A (getItem ov iv) (EP X pins σ Q) X.xe s
noncomputable def ipI (f : Int → Int → Int) : TIp := fun x y H Q => ∃ i j, x = .int i ∧ y = .int j ∧ Q (.int (f i j)) H
end
section
variable {X : Cx} {pos : Pos}
noncomputable def tWhile (c : TT) (tb : TS) : TS := fun D σ H => ∃ W : Nat → St → Hp → Prop, (∃ m, W m σ H) ∧ ∀ m σ H, W m σ H →
  c σ H fun b H1 => if b = true then ∃ N : St → Hp → Prop, (∀ σ' H', N σ' H' → ∃ m', m' < m ∧ W m' σ' H') ∧ tb { D with nx := N, ct := N, bk := D.nx } σ H1 else D.nx σ H1
end
structure It where
  go : Nat → Hp → Prop
  yld : Nat → Hp → V → Hp → Prop
  stop : Nat → Hp → Prop
noncomputable def FpOk (X : Cx) (pins : List (Addr × Obj)) (H : Hp) (b : Addr) : Prop :=
  H b = none ∧ b ≠ X.env.locals ∧ b ∉ X.fs ∧ (b ∈ X.ex ∨ X.s₀.heap.objs.size ≤ b) ∧ (∀ x c, X.env.cells.lookup x = some c → c ≠ b) ∧ ∀ p ∈ X.pn ++ pins, p.1 ≠ b
theorem Inv.fpOk {X : Cx} {pins : List (Addr × Obj)} {σ : St} {H H' : Hp} {s : Shared} {b : Addr} (I : Inv X pins σ H s) (hb : s.heap.objs.size ≤ b) (hn : H' b = none) : FpOk X pins H' b := by
  refine ⟨hn, Nat.ne_of_gt (Nat.lt_of_lt_of_le I.lt hb), I.nofs hb, .inr (Nat.le_trans I.sz hb), fun x c e z => ?_, fun p hp z => ?_⟩
  · obtain ⟨v, q⟩ := I.cell x c e
    exact absurd (Nat.lt_of_lt_of_le q.lt (by rw [z]; exact hb)) (Nat.lt_irrefl _)
  · exact absurd (Nat.lt_of_lt_of_le (Heap.lt_size (I.pin p hp).1) (by rw [z]; exact hb)) (Nat.lt_irrefl _)
structure Turn (P : Program) (w : World) (K : PySem.W.Frag) (tg : Expr) (J : It) (fp : List Addr) (it : Addr) (tn : Nat → Heap → Prop) : Prop where
  mem : it ∈ fp
  obj : ∀ i h, tn i h → ∀ b ∈ fp, ∃ o, h.get? b = some o ∧ ∀ v, o.data ≠ .cell v
  keep : ∀ i h h', tn i h → (∀ b ∈ fp, ∀ o, h.get? b = some o → h'.get? b = some o) → tn i h'
  item : ∀ (X : Cx), X.prog = P → X.w = w → X.K = K → X.calm = true → ∀ (i : Nat) (pins : List (Addr × Obj)) (s : Shared) (σ : St) (H : Hp) (E : Value → Shared → Prop), Inv X pins σ H s → (∀ b ∈ fp, FpOk X pins H b) → tn i s.heap → J.go i H →
    wpAny (model P w) X.A (pyNext (.ref it)) (fun r s1 => ∃ u, r = some u ∧
      wpAny (model P w) X.A (letOwnedTupleGo tg (.ref it) u) (fun _ s2 => ∃ x H', Inv X pins σ H' s2 ∧ RelV x u ∧ J.yld i H x H' ∧ tn (i + 1) s2.heap ∧ ∀ b ∈ fp, H' b = none) E s1) E s
  done : ∀ (X : Cx), X.prog = P → X.w = w → X.K = K → X.calm = true → ∀ (i : Nat) (pins : List (Addr × Obj)) (s : Shared) (σ : St) (H : Hp) (E : Value → Shared → Prop), Inv X pins σ H s → (∀ b ∈ fp, FpOk X pins H b) → tn i s.heap → J.stop i H →
    wpAny (model P w) X.A (pyNext (.ref it)) (fun r s1 => r = none ∧ Inv X pins σ H s1) E s
  self : ∀ (A : Around) (i : Nat) (s : Shared) (Q : Value → Shared → Prop) (E : Value → Shared → Prop), tn i s.heap → Q (.ref it) s → wpAny (model P w) A (pyIter (.ref it)) Q E s
noncomputable abbrev TI := St → Hp → (It → Hp → Prop) → Prop
noncomputable def PIE (X : Cx) (pins : List (Addr × Obj)) (σ : St) (tg : Expr) (R : It → Hp → Prop) (itv : Value) (s2 : Shared) : Prop :=
  ∃ (it : Addr) (fp : List Addr) (tn : Nat → Heap → Prop) (J : It) (H' : Hp), itv = .ref it ∧ Inv X pins σ H' s2 ∧ Turn X.prog X.w X.K tg J fp it tn ∧ tn 0 s2.heap ∧ (∀ b ∈ fp, FpOk X pins H' b) ∧ R J H'
noncomputable def PI (X : Cx) (tg iter : Expr) (wi : TI) : Prop :=
  ∀ (pins : List (Addr × Obj)) (s : Shared) (σ : St) (H : Hp) (R : It → Hp → Prop), Inv X pins σ H s → wi σ H R →
    wpAny (model X.prog X.w) X.A (eval iter X.env) (fun v s1 => wpAny (model X.prog X.w) X.A (pyIter v) (PIE X pins σ tg R) X.xe s1) X.xe s
theorem go_of {M : Model} {A : Around} {E : Value → Shared → Prop} {s : Shared} {tg : Expr} {it : Addr} {u : Value} {o : Obj} {n : String} {vs : Array Value} {Q : Unit → Shared → Prop} (ho : s.heap.get? it = some o) (hc : o.cls = .type n) (hd : o.data = .fields vs)
    (hn : ["enumerate", "zip", "dict_itemiterator", "dict_reverseitemiterator", "odict_iterator", "itertools.zip_longest", "itertools.pairwise"].contains n = false) (hQ : Q () s) : wpAny M A (letOwnedTupleGo tg (.ref it) u) Q E s := by
  unfold letOwnedTupleGo
  cases tg <;> first
    | exact wpAny_pure hQ
    | (cases u <;> first
        | exact wpAny_pure hQ
        | (refine wpAny_bind (wpAny_load ho ?_)
           rw [hc, hd]
           show wpAny M A (if (["enumerate", "zip", "dict_itemiterator", "dict_reverseitemiterator", "odict_iterator", "itertools.zip_longest", "itertools.pairwise"].contains n && vs[0]? == some (rawInt _)) = true then _ else _) Q E s
           rw [if_neg (by intro h; rw [hn, Bool.false_and] at h; cases h)]
           exact wpAny_pure hQ))
noncomputable def Itl (K : PySem.W.Frag) (a : Addr) : It :=
  ⟨fun i H => ∃ xs x, SqL K H a xs ∧ xs[i]? = some x, fun i H x H' => H' = H ∧ ∀ xs, SqL K H a xs → xs[i]? = some x, fun i H => ∃ xs, SqL K H a xs ∧ xs.length ≤ i⟩
noncomputable def Itt (K : PySem.W.Frag) (a : Addr) : It :=
  ⟨fun i H => ∃ xs x, SqT K H a xs ∧ xs[i]? = some x, fun i H x H' => H' = H ∧ ∀ xs, SqT K H a xs → xs[i]? = some x, fun i H => ∃ xs, SqT K H a xs ∧ xs.length ≤ i⟩
noncomputable def Itr (lo : Int) (n : Nat) : It := ⟨fun i _ => i < n, fun i H x H' => H' = H ∧ x = .int (lo + i), fun i _ => n ≤ i⟩
theorem turn_list {P : Program} {w : World} {K : PySem.W.Frag} {tg : Expr} (a it : Addr) : Turn P w K tg (Itl K a) [it] it (fun i h => h.IsListIter it a i) where
  mem := by simp
  obj := fun i h st b hb => by
    have e : b = it := by simpa using hb
    subst e
    obtain ⟨o, e, c, d⟩ := st
    exact ⟨o, e, fun v z => by rw [d] at z; cases z⟩
  keep := fun i h h' st k => st.at fun o e => k it (by simp) o e
  item := by
    intro X hP hw hK hc i pins s σ H E I hf st hg
    subst hP hw hK
    obtain ⟨xs, x, hq, hx⟩ := hg
    obtain ⟨its, rv, p, hz⟩ := I.list hq
    obtain ⟨u, hu, ru⟩ := rv.get hx
    obtain ⟨f0, f1, f2, f3, f4, f5⟩ := hf it (by simp)
    refine wpAny_pyNext_list_item st p.isList (x := u) (by simpa using hu) fun h' st' sb => ?_
    have I1 : Inv X pins σ H { s with heap := h' } := I.turned (t' := s.toks) (fun b o hb e => (sb.2 b hb).trans e) f0 f1 f3 f4 f5
    obtain ⟨o, e, c, d⟩ := id st'
    exact ⟨u, rfl, go_of (s := { s with heap := h' }) e c d (by decide) ⟨x, H, I1, ru, ⟨rfl, fun ys hy => by rw [I.list_inj hy hq]; exact hx⟩, st', fun b hb => (hf b hb).1⟩⟩
  done := by
    intro X hP hw hK hc i pins s σ H E I hf st hg
    subst hP hw hK
    obtain ⟨xs, hq, hx⟩ := hg
    obtain ⟨its, rv, p, hz⟩ := I.list hq
    obtain ⟨f0, f1, f2, f3, f4, f5⟩ := hf it (by simp)
    have hl := rv.length
    exact wpAny_pyNext_list_end (I.ok.hd hc) st p.isList (by simp; omega) fun h' eb => ⟨rfl, I.turned (t' := s.toks) (fun b o hb e => eb b o hb e) f0 f1 f3 f4 f5⟩
  self := fun _ _ _ _ _ st h => wpAny_pyIter_listiter st h
theorem turn_tuple {P : Program} {w : World} {K : PySem.W.Frag} {tg : Expr} (a it : Addr) : Turn P w K tg (Itt K a) [it] it (fun i h => h.IsTupleIter it a i) where
  mem := by simp
  obj := fun i h st b hb => by
    have e : b = it := by simpa using hb
    subst e
    obtain ⟨o, e, c, d⟩ := st
    exact ⟨o, e, fun v z => by rw [d] at z; cases z⟩
  keep := fun i h h' st k => st.at fun o e => k it (by simp) o e
  item := by
    intro X hP hw hK hc i pins s σ H E I hf st hg
    subst hP hw hK
    obtain ⟨xs, x, hq, hx⟩ := hg
    obtain ⟨its, rv, p, hz⟩ := I.tuple hq
    obtain ⟨u, hu, ru⟩ := rv.get hx
    obtain ⟨f0, f1, f2, f3, f4, f5⟩ := hf it (by simp)
    refine wpAny_pyNext_tuple_item st (show s.heap.IsTuple a its.toArray from p) (x := u) (by simpa using hu) fun h' st' sb => ?_
    have I1 : Inv X pins σ H { s with heap := h' } := I.turned (t' := s.toks) (fun b o hb e => (sb.2 b hb).trans e) f0 f1 f3 f4 f5
    obtain ⟨o, e, c, d⟩ := id st'
    exact ⟨u, rfl, go_of (s := { s with heap := h' }) e c d (by decide) ⟨x, H, I1, ru, ⟨rfl, fun ys hy => by rw [I.tuple_inj hy hq]; exact hx⟩, st', fun b hb => (hf b hb).1⟩⟩
  done := by
    intro X hP hw hK hc i pins s σ H E I hf st hg
    subst hP hw hK
    obtain ⟨xs, hq, hx⟩ := hg
    obtain ⟨its, rv, p, hz⟩ := I.tuple hq
    obtain ⟨f0, f1, f2, f3, f4, f5⟩ := hf it (by simp)
    have hl := rv.length
    exact wpAny_pyNext_tuple_end (I.ok.hd hc) st (show s.heap.IsTuple a its.toArray from p) (by simp; omega) fun h' eb => ⟨rfl, I.turned (t' := s.toks) (fun b o hb e => eb b o hb e) f0 f1 f3 f4 f5⟩
  self := fun _ _ _ _ _ st h => wpAny_pyIter_tupleiter st h
theorem turn_range {P : Program} {w : World} {K : PySem.W.Frag} {tg : Expr} (it : Addr) (lo : Int) (n : Nat) : Turn P w K tg (Itr lo n) [it] it (fun i h => IsRangeIter h it (lo + (i : Nat) * 1) ((n : Int) - (i : Nat)) 1) where
  mem := by simp
  obj := fun i h st b hb => by
    have e : b = it := by simpa using hb
    subst e
    exact ⟨_, st, fun v z => by
      have z' : Data.fields _ = Data.cell v := z
      cases z'⟩
  keep := fun i h h' st k => k it (by simp) _ st
  item := by
    intro X hP hw hK hc i pins s σ H E I hf st hg
    subst hP hw hK
    obtain ⟨f0, f1, f2, f3, f4, f5⟩ := hf it (by simp)
    have W := Walks.range (prog := X.prog) (w := X.w) (I.ok.hd hc) it lo 1 n
    refine W.item i s _ _ hg st fun v h' tk hv st' kk => ?_
    obtain ⟨t, rfl⟩ := hv
    have I1 : Inv X pins σ H { s with heap := h', toks := tk } := I.turned (fun b o hb e => kk b o (by simpa using hb) e) f0 f1 f3 f4 f5
    refine ⟨_, rfl, go_of (s := { s with heap := h', toks := tk }) (n := "range_iterator") st' rfl rfl (by decide) ⟨.int (lo + i), H, I1, ⟨t, ?_⟩, ⟨rfl, rfl⟩, st', fun b hb => (hf b hb).1⟩⟩
    rw [Int.mul_one]
  done := by
    intro X hP hw hK hc i pins s σ H E I hf st hg
    subst hP hw hK
    obtain ⟨f0, f1, f2, f3, f4, f5⟩ := hf it (by simp)
    exact wpAny_pyNext_range_end (I.ok.hd hc) st (by have : n ≤ i := hg; omega) fun h' eb => ⟨rfl, I.turned (t' := s.toks) (fun b o hb e => eb b o hb e) f0 f1 f3 f4 f5⟩
  self := fun _ _ _ _ _ st h => wpAny_pyIter_rangeiter st h
section
variable {X : Cx} {tg : Expr}
noncomputable def iList (K : PySem.W.Frag) (tl : TE) : TI := fun σ H R => tl σ H fun x H1 => ∃ a, x = .ref a ∧ (∃ xs, SqL K H1 a xs) ∧ R (Itl K a) H1
noncomputable def iTup (K : PySem.W.Frag) (tl : TE) : TI := fun σ H R => tl σ H fun x H1 => ∃ a, x = .ref a ∧ (∃ xs, SqT K H1 a xs) ∧ R (Itt K a) H1
theorem range_it {pins : List (Addr × Obj)} {σ : St} {H : Hp} {s : Shared} {R : It → Hp → Prop} {E : Value → Shared → Prop} {lo hi : Int} {t u v : Tok} {tk : Nat} (I : Inv X pins σ H s) (h1 : -(2 ^ 62) ≤ lo) (h2 : lo < 2 ^ 62) (h3 : -(2 ^ 62) ≤ hi) (h4 : hi < 2 ^ 62)
    (q : R (Itr lo (hi - lo).toNat) H) : wpAny (model X.prog X.w) X.A (pyIter (.ref s.heap.objs.size)) (PIE X pins σ tg R) E { s with heap := s.heap.push { cls := .type "range", data := .fields #[.int lo t, .int hi u, .int 1 v] }, toks := tk } := by
  refine wpAny_pyIter_range (IsRange.new ..) (small_one h1 h2 h3 h4) ?_
  have I1 : Inv X pins σ H { s with heap := s.heap.push { cls := .type "range", data := .fields #[.int lo t, .int hi u, .int 1 v] }, toks := tk } := I.kept fun b o e => Heap.get?_push_of_some _ e
  refine ⟨(s.heap.push { cls := .type "range", data := .fields #[.int lo t, .int hi u, .int 1 v] }).objs.size, [(s.heap.push { cls := .type "range", data := .fields #[.int lo t, .int hi u, .int 1 v] }).objs.size], _, _, H, rfl,
    I1.kept (t' := tk) fun b o e => Heap.get?_push_of_some _ e, turn_range _ lo (hi - lo).toNat, ?_, fun b hb => ?_, q⟩
  · have e1 : lo + ((0 : Nat) : Int) * 1 = lo := by simp
    have e2 : (((hi - lo).toNat : Nat) : Int) - ((0 : Nat) : Int) = Builtin.Range.rangeSize lo hi 1 := by rw [rangeSize_one]; split <;> omega
    show IsRangeIter _ _ (lo + ((0 : Nat) : Int) * 1) ((((hi - lo).toNat : Nat) : Int) - ((0 : Nat) : Int)) 1
    rw [e1, e2]
    exact Heap.get?_push_size _ rfl
  · have e : b = (s.heap.push { cls := .type "range", data := .fields #[.int lo t, .int hi u, .int 1 v] }).objs.size := by simpa using hb
    subst e
    exact I1.fpOk (Nat.le_refl _) (I1.hok.fresh (Nat.le_refl _))
noncomputable def iRng1 (ta : TA) : TI := fun σ H R => ta σ H fun vs H1 => ∃ j : Int, vs = [.int j] ∧ -(2 ^ 62) ≤ j ∧ j < 2 ^ 62 ∧ R (Itr 0 j.toNat) H1
noncomputable def iRng2 (ta : TA) : TI := fun σ H R => ta σ H fun vs H1 => ∃ i j : Int, vs = [.int i, .int j] ∧ (-(2 ^ 62) ≤ i ∧ i < 2 ^ 62 ∧ -(2 ^ 62) ≤ j ∧ j < 2 ^ 62) ∧ R (Itr i (j - i).toNat) H1
theorem pi_range1 {a : Expr} {ta : TA} {p pos : Pos} (hg : Gl X "range") (hm : X.mg "range" = none) (ha : PA X [a] ta) (hs : starEach [a] X.env = [(false, eval a X.env)] := by rfl) : PI X tg (.Call (.Name "range" p) [a] [] pos) (iRng1 ta) := by
  intro pins s σ H R I h
  refine Call_ (ld_blt I hg hm boot_range (PyProof.Rows.callWith_type1 (thn (ha pos pins s σ H _ I h) fun us s1 ⟨vs, H1, I1, r1, q1⟩ => ?_) hs rfl))
  obtain ⟨j, e, q1, q2, q⟩ := q1
  subst e
  cases r1 with
  | cons r rr =>
    cases rr
    obtain ⟨t, rfl⟩ := r
    exact call_range_1 (range_it I1 (by omega) (by omega) q1 q2 (by simpa using q))
noncomputable def tFor (wi : TI) (g : TG) (tb : TS) : TS := fun D σ H => wi σ H fun J H1 => ∃ W : Nat → Nat → St → Hp → Prop, (∃ m, W 0 m σ H1) ∧ ∀ i m σ H, W i m σ H →
  (J.stop i H ∧ D.nx σ H) ∨ (J.go i H ∧ ∃ N : St → Hp → Prop, (∀ σ' H', N σ' H' → ∃ m', m' < m ∧ W (i + 1) m' σ' H') ∧ ∀ x H', J.yld i H x H' → g x σ H' fun σ2 H2 => tb { D with nx := N, ct := N, bk := D.nx } σ2 H2)
noncomputable def pinsAt (fp : List Addr) (h : Heap) : List (Addr × Obj) := fp.filterMap fun b => (h.get? b).map fun o => (b, o)
theorem mem_pinsAt {fp : List Addr} {h : Heap} {b : Addr} {o : Obj} (hb : b ∈ fp) (e : h.get? b = some o) : (b, o) ∈ pinsAt fp h := List.mem_filterMap.mpr ⟨b, hb, by rw [e]; rfl⟩
theorem of_pinsAt {fp : List Addr} {h : Heap} {p : Addr × Obj} (hp : p ∈ pinsAt fp h) : p.1 ∈ fp ∧ h.get? p.1 = some p.2 := by
  obtain ⟨b, hb, e⟩ := List.mem_filterMap.mp hp
  cases q : h.get? b with
  | none => rw [q] at e; cases e
  | some o =>
    rw [q] at e
    have e' : (b, o) = p := Option.some.inj e
    subst e'
    exact ⟨hb, q⟩
theorem Inv.pinned {pins : List (Addr × Obj)} {σ : St} {H : Hp} {s : Shared} {fp : List Addr} (I : Inv X pins σ H s) (hf : ∀ b ∈ fp, FpOk X pins H b) (ho : ∀ b ∈ fp, ∃ o, s.heap.get? b = some o ∧ ∀ v, o.data ≠ .cell v) : Inv X (pins ++ pinsAt fp s.heap) σ H s :=
  I.pins_of fun p hp => (List.mem_append.mp hp).elim (fun z => I.pin p (List.mem_append_right _ z)) fun z => by
    obtain ⟨hb, e⟩ := of_pinsAt z
    obtain ⟨f0, f1, f2, _⟩ := hf p.1 hb
    obtain ⟨o, e', d⟩ := ho p.1 hb
    rw [e] at e'; cases e'
    exact ⟨e, f0, f1, f2, d⟩
theorem Inv.unpinned {pins pl : List (Addr × Obj)} {σ : St} {H : Hp} {s : Shared} (I : Inv X (pins ++ pl) σ H s) : Inv X pins σ H s := I.pins_of fun p hp => I.pin p (List.mem_append_right _ (List.mem_append_left _ hp))
theorem ps_for {iter : Expr} {body : List Stmt} {wi : TI} {g : TG} {tb : TS} {pos : Pos} (hp : PassesOwn (model X.prog X.w) X.A X.env X.xe) (hc : X.calm = true) (hi : PI X tg iter wi) (hg : PG X tg g) (hb : PSs X body tb)
    (hs : ∀ x, foldedSetIterable iter X.env x = pure x := by intro _; rfl) : PS X (.For tg iter body [] pos) (tFor wi g tb) := by
  intro pins s σ H D I h
  refine wpAny_For (thn (hi pins s σ H _ I h) fun v s1 h1 => thn h1 fun itv s2 h2 => ?_) hs
  obtain ⟨it, fp, tn, J, H2, e, I2, T, st2, f2, W, ⟨m0, w0⟩, turn⟩ := h2
  subst e
  have stat : ∀ {H' : Hp}, (∀ b ∈ fp, H' b = none) → ∀ b ∈ fp, FpOk X pins H' b := fun hn b hb => ⟨hn b hb, (f2 b hb).2⟩
  refine codeAny_forLoop_any (fun n s' => ∃ i σ' H', Inv X pins σ' H' s' ∧ tn i s'.heap ∧ (∀ b ∈ fp, H' b = none) ∧ W i n σ' H') ?_ m0 ⟨0, σ, H2, I2, st2, fun b hb => (f2 b hb).1, w0⟩
  rintro n s3 ⟨i, σ3, H3, I3, st3, fr3, w3⟩
  rcases turn i n σ3 H3 w3 with ⟨stop, qn⟩ | ⟨go, N, hN, step⟩
  · refine wpAny_passesOwn hp (thn (T.done X rfl rfl rfl hc i pins s3 σ3 H3 X.xe I3 (stat fr3) st3 stop) fun r s4 ⟨hr, I4⟩ => ?_)
    subst hr
    exact wpAny_execs_nil ⟨σ3, H3, I4, qn⟩
  · refine wpAny_passesOwn hp (thn (T.item X rfl rfl rfl hc i pins s3 σ3 H3 X.xe I3 (stat fr3) st3 go) fun r s4 ⟨u, hr, h4⟩ => ?_)
    subst hr
    refine wpAny_passesOwn hp (thn h4 fun _ s5 ⟨x, H5, I5, r5, y5, st5, fr5⟩ => ?_)
    have I5' := I5.pinned (stat fr5) (T.obj _ _ st5)
    refine wpAny_passesOwn hp (thn (hg _ s5 σ3 H5 x u _ I5' r5 (step x H5 y5)) fun _ s6 ⟨σ6, H6, I6, q6⟩ => ?_)
    refine wpAny_passesOwn hp (thn (hb _ s6 σ6 H6 _ I6 q6) fun f s7 q7 => ?_)
    have again : ∀ {σ7 : St} {H7 : Hp}, Inv X (pins ++ pinsAt fp s5.heap) σ7 H7 s7 → N σ7 H7 → ∃ m, m < n ∧ ∃ i σ' H', Inv X pins σ' H' s7 ∧ tn i s7.heap ∧ (∀ b ∈ fp, H' b = none) ∧ W i m σ' H' := fun {σ7 H7} I7 n7 => by
      obtain ⟨m', hm, w7⟩ := hN σ7 H7 n7
      refine ⟨m', hm, i + 1, σ7, H7, I7.unpinned, T.keep _ _ _ st5 fun b hb o e => (I7.pin (b, o) (List.mem_append_right _ (List.mem_append_right _ (mem_pinsAt hb e)))).1, fun b hb => ?_, w7⟩
      obtain ⟨o, e, d⟩ := T.obj _ _ st5 b hb
      exact (I7.pin (b, o) (List.mem_append_right _ (List.mem_append_right _ (mem_pinsAt hb e)))).2.1
    cases f with
    | next => obtain ⟨σ7, H7, I7, n7⟩ := q7; exact again I7 n7
    | cont => obtain ⟨σ7, H7, I7, n7⟩ := q7; exact again I7 n7
    | brk => obtain ⟨σ7, H7, I7, q7⟩ := q7; exact ⟨σ7, H7, I7.unpinned, q7⟩
    | ret v => obtain ⟨x7, σ7, H7, I7, r7, q7⟩ := q7; exact ⟨x7, σ7, H7, I7.unpinned, r7, q7⟩
end
noncomputable abbrev R2 := V → V → Hp → VK → Prop
noncomputable def OpR (X : Cx) (f : Value → Value → Sem Value) (r : R2) : Prop :=
  ∀ (pins : List (Addr × Obj)) (s : Shared) (σ : St) (H : Hp) (x y : V) (v u : Value) (Q : VK), Inv X pins σ H s → RelV x v → RelV y u → r x y H Q →
    wpAny (model X.prog X.w) X.A (f v u) (EP X pins σ Q) X.xe s
noncomputable def UnR (X : Cx) (f : Value → Sem Value) (r : V → Hp → VK → Prop) : Prop :=
  ∀ (pins : List (Addr × Obj)) (s : Shared) (σ : St) (H : Hp) (x : V) (v : Value) (Q : VK), Inv X pins σ H s → RelV x v → r x H Q →
    wpAny (model X.prog X.w) X.A (f v) (EP X pins σ Q) X.xe s
noncomputable def CallR (X : Cx) (f : Value) (r : List V → Hp → VK → Prop) : Prop :=
  ∀ (pins : List (Addr × Obj)) (s : Shared) (σ : St) (H : Hp) (xs : List V) (us : List Value) (Q : VK), Inv X pins σ H s → Vals xs us → r xs H Q →
    wpAny (model X.prog X.w) X.A (call f us) (EP X pins σ Q) X.xe s
noncomputable def TruR (X : Cx) (r : V → Hp → (Bool → Hp → Prop) → Prop) : Prop :=
  ∀ (pins : List (Addr × Obj)) (s : Shared) (σ : St) (H : Hp) (x : V) (v : Value) (Q : Bool → Hp → Prop), Inv X pins σ H s → RelV x v → r x H Q →
    wpAny (model X.prog X.w) X.A (truthy v) (TP X pins σ Q) X.xe s
noncomputable def tOp (r : R2) (ta tb : TE) : TE := fun σ H Q => ta σ H fun x H1 => tb σ H1 fun y H2 => r x y H2 Q
noncomputable def tUn (r : V → Hp → VK → Prop) (ta : TE) : TE := fun σ H Q => ta σ H fun x H1 => r x H1 Q
noncomputable def rI (C : Int → Int → Prop) (g : Int → Int → V) : R2 := fun x y H Q => ∃ i j, x = .int i ∧ y = .int j ∧ C i j ∧ Q (g i j) H
noncomputable def rI0 (g : Int → Int → V) : R2 := fun x y H Q => ∃ i j, x = .int i ∧ y = .int j ∧ Q (g i j) H
noncomputable def rU (g : Int → V) : V → Hp → VK → Prop := fun x H Q => ∃ i, x = .int i ∧ Q (g i) H
section
variable {X : Cx} {a b c : Expr} {ta tb tc : TE} {pos : Pos}
theorem binT (ha : PE X a ta) (hb : PE X b tb) {pins : List (Addr × Obj)} {s : Shared} {σ : St} {H : Hp} {R : V → V → Hp → Prop} (I : Inv X pins σ H s)
    (h : ta σ H fun x H1 => tb σ H1 fun y H2 => R x y H2) {Q : Value → Shared → Prop} {f : Value → Value → Sem Value}
    (hf : ∀ v u s2 x y H2, Inv X pins σ H2 s2 → RelV x v → RelV y u → R x y H2 → wpAny (model X.prog X.w) X.A (f v u) Q X.xe s2) :
    wpAny (model X.prog X.w) X.A (eval a X.env) (fun v s₁ => wpAny (model X.prog X.w) X.A (eval b X.env) (fun u s₂ => wpAny (model X.prog X.w) X.A (f v u) Q X.xe s₂) X.xe s₁) X.xe s := by
  refine thn (ha pins s σ H _ I h) fun v s1 ⟨x, H1, I1, r1, q1⟩ => ?_
  refine thn (hb pins s1 σ H1 _ I1 q1) fun u s2 ⟨y, H2, I2, r2, q2⟩ => ?_
  exact hf v u s2 x y H2 I2 r1 r2 q2
theorem pe_op {op : Operator} {r : R2} (ho : OpR X (binaryOp op) r) (ha : PE X a ta) (hb : PE X b tb) : PE X (.BinOp a op b pos) (tOp r ta tb) := by
  intro pins s σ H Q I h
  exact wpAny_BinOp (binT ha hb I h fun v u s2 x y H2 I2 rx ry q => ho pins s2 σ H2 x y v u Q I2 rx ry q)
theorem pe_un {op : UnaryOp} {r : V → Hp → VK → Prop} (ho : UnR X (unaryOp op) r) (ha : PE X a ta) : PE X (.UnaryOp op a pos) (tUn r ta) := by
  intro pins s σ H Q I h
  exact UnaryOp_ (thn (ha pins s σ H _ I h) fun v s1 ⟨x, H1, I1, r1, q1⟩ => ho pins s1 σ H1 x v Q I1 r1 q1)
theorem opI {f : Value → Value → Sem Value} {C : Int → Int → Prop} {g : Int → Int → Int}
    (rule : ∀ (i j : Int) (t u : Tok) (s : Shared) (Q : Value → Shared → Prop) (E : Value → Shared → Prop), C i j → Q (.int (g i j) s.toks) { s with toks := s.toks + 1 } → wpAny (model X.prog X.w) X.A (f (.int i t) (.int j u)) Q E s) :
    OpR X f (rI C fun i j => .int (g i j)) := by
  intro pins s σ H x y v u Q I rx ry h
  obtain ⟨i, j, rfl, rfl, hc, q⟩ := h
  obtain ⟨t, rfl⟩ := rx
  obtain ⟨t', rfl⟩ := ry
  exact rule i j t t' s _ _ hc ⟨.int (g i j), H, I.tok _, ⟨_, rfl⟩, q⟩
theorem opI0 {f : Value → Value → Sem Value} {g : Int → Int → Int}
    (rule : ∀ (i j : Int) (t u : Tok) (s : Shared) (Q : Value → Shared → Prop) (E : Value → Shared → Prop), Q (.int (g i j) s.toks) { s with toks := s.toks + 1 } → wpAny (model X.prog X.w) X.A (f (.int i t) (.int j u)) Q E s) :
    OpR X f (rI0 fun i j => .int (g i j)) := by
  intro pins s σ H x y v u Q I rx ry h
  obtain ⟨i, j, rfl, rfl, q⟩ := h
  obtain ⟨t, rfl⟩ := rx
  obtain ⟨t', rfl⟩ := ry
  exact rule i j t t' s _ _ ⟨.int (g i j), H, I.tok _, ⟨_, rfl⟩, q⟩
theorem opB0 {f : Value → Value → Sem Value} {g : Int → Int → Bool}
    (rule : ∀ (i j : Int) (t u : Tok) (s : Shared) (Q : Value → Shared → Prop) (E : Value → Shared → Prop), Q (.bool (g i j)) s → wpAny (model X.prog X.w) X.A (f (.int i t) (.int j u)) Q E s) :
    OpR X f (rI0 fun i j => .bl (g i j)) := by
  intro pins s σ H x y v u Q I rx ry h
  obtain ⟨i, j, rfl, rfl, q⟩ := h
  obtain ⟨t, rfl⟩ := rx
  obtain ⟨t', rfl⟩ := ry
  exact rule i j t t' s _ _ ⟨.bl (g i j), H, I, rfl, q⟩
noncomputable def CDiv (i j : Int) : Prop := 0 < j ∧ j < 1073741824
noncomputable def CDivN (i j : Int) : Prop := j ≠ 0 ∧ j.natAbs < 1073741824
noncomputable def CPow (i j : Int) : Prop := 0 ≤ j ∧ j ≤ 1000000 ∧ i.natAbs < 2 ^ 64
noncomputable def CMul (i j : Int) : Prop := (-(2 ^ 64) < i ∧ i < 2 ^ 64) ∨ (-(2 ^ 64) < j ∧ j < 2 ^ 64)
theorem CMul.ok {i j : Int} (h : CMul i j) : IntMulOk i j := by
  rcases h with ⟨h1, h2⟩ | ⟨h1, h2⟩
  · exact .of_left (intBits_le_64 h1 h2)
  · exact .of_right (intBits_le_64 h1 h2)
theorem op_add : OpR X (binaryOp .Add) (rI0 fun i j => .int (i + j)) := opI0 fun _ _ _ _ _ _ _ q => add_int q
theorem op_sub : OpR X (binaryOp .Sub) (rI0 fun i j => .int (i - j)) := opI0 fun _ _ _ _ _ _ _ q => sub_int q
theorem op_mul : OpR X (binaryOp .Mult) (rI CMul fun i j => .int (i * j)) := opI fun _ _ _ _ _ _ _ hc q => mul_int q hc.ok
theorem op_modN : OpR X (binaryOp .Mod) (rI (fun _ j => j ≠ 0) fun i j => .int (i.fmod j)) := opI fun _ _ _ _ _ _ _ hc q => mod_int' hc q
theorem op_pow : OpR X (binaryOp .Pow) (rI CPow fun i j => .int (i ^ j.toNat)) := opI fun _ _ _ _ _ _ _ hc q => pow_int_small hc.1 hc.2.1 hc.2.2 q
theorem unI {f : Value → Sem Value} {g : Int → Int}
    (rule : ∀ (i : Int) (t : Tok) (s : Shared) (Q : Value → Shared → Prop) (E : Value → Shared → Prop), Q (.int (g i) s.toks) { s with toks := s.toks + 1 } → wpAny (model X.prog X.w) X.A (f (.int i t)) Q E s) :
    UnR X f (rU fun i => .int (g i)) := by
  intro pins s σ H x v Q I rx h
  obtain ⟨i, rfl, q⟩ := h
  obtain ⟨t, rfl⟩ := rx
  exact rule i t s _ _ ⟨.int (g i), H, I.tok _, ⟨_, rfl⟩, q⟩
theorem un_neg : UnR X (unaryOp .USub) (rU fun i => .int (-i)) := unI fun _ _ _ _ _ q => neg_int q
end
noncomputable def scal : V → V → Bool
  | .non, .non => true | .non, .int _ => true | .int _, .non => true | .non, .bl _ => true | .bl _, .non => true | .non, .str _ => true | .str _, .non => true
  | .int _, .int _ => true | .bl _, .bl _ => true | .str _, .str _ => true | .byt _, .byt _ => true
  | .int _, .str _ => true | .str _, .int _ => true | .bl _, .str _ => true | .str _, .bl _ => true
  | _, _ => false
noncomputable def rEq : R2 := fun x y H Q => scal x y = true ∧ Q (.bl (decide (x = y))) H
noncomputable def rNe : R2 := fun x y H Q => scal x y = true ∧ Q (.bl (!decide (x = y))) H
section
variable {X : Cx} {a b c : Expr} {ta tb tc : TE} {pos : Pos}
theorem op_lt : OpR X (compareOp .Lt) (rI0 fun i j => .bl (decide (i < j))) := opB0 fun _ _ _ _ _ _ _ q => lt_int q
theorem op_le : OpR X (compareOp .LtE) (rI0 fun i j => .bl (decide (i ≤ j))) := opB0 fun _ _ _ _ _ _ _ q => le_int q
theorem op_gt : OpR X (compareOp .Gt) (rI0 fun i j => .bl (decide (j < i))) := opB0 fun _ _ _ _ _ _ _ q => gt_int q
theorem op_ge : OpR X (compareOp .GtE) (rI0 fun i j => .bl (decide (j ≤ i))) := opB0 fun _ _ _ _ _ _ _ q => ge_int q
noncomputable def isObj : HO → Bool
  | .lst _ => true
  | .ins _ _ _ => true
  | _ => false
theorem OpR.or {f : Value → Value → Sem Value} {r r' : R2} (h : OpR X f r) (h' : OpR X f r') : OpR X f (fun x y H Q => r x y H Q ∨ r' x y H Q) := by
  intro pins s σ H x y v u Q I rx ry q
  rcases q with q | q
  · exact h pins s σ H x y v u Q I rx ry q
  · exact h' pins s σ H x y v u Q I rx ry q
theorem nomark (b : Expr) {op : CmpOp} (h : op ≠ .In := by decide) (h2 : op ≠ .NotIn := by decide) : behindInMarks op b = false := by
  have e1 : (op == CmpOp.In) = false := by cases op <;> first | rfl | exact absurd rfl h
  have e2 : (op == CmpOp.NotIn) = false := by cases op <;> first | rfl | exact absurd rfl h2
  cases b <;> simp [behindInMarks, e1, e2]
theorem pe_cmpR {op : CmpOp} {r : R2} (ho : OpR X (compareOp op) r) (ha : PE X a ta) (hb : PE X b tb) (hm : behindInMarks op b = false) : PE X (.Compare a [op] [b] pos) (tOp r ta tb) := by
  intro pins s σ H Q I h
  exact wpAny_Compare1 (binT ha hb I h fun v u s2 x y H2 I2 rx ry q => ho pins s2 σ H2 x y v u Q I2 rx ry q) hm
noncomputable def tTest (t : TE) : TT := fun σ H Q => t σ H fun x H' => ∃ k, x = .bl k ∧ Q k H'
theorem pt_cmpR {op : CmpOp} {r : R2} (ho : OpR X (compareOp op) r) (ha : PE X a ta) (hb : PE X b tb) (hm : behindInMarks op b = false) : PT X (.Compare a [op] [b] pos) (tTest (tOp r ta tb)) := by
  intro pins s σ H Q I h
  refine wpAny_isTrue_Compare1 (thn (ha pins s σ H _ I h) fun v s1 ⟨x, H1, I1, r1, q1⟩ => thn (hb pins s1 σ H1 _ I1 q1) fun u s2 ⟨y, H2, I2, r2, q2⟩ =>
    thn (ho pins s2 σ H2 x y v u _ I2 r1 r2 q2) fun c s3 ⟨z, H3, I3, r3, k, e, q3⟩ => ?_) hm
  subst e
  cases r3
  exact wpAny_truthy_bool ⟨H3, I3, q3⟩
noncomputable def tChain (r r' : R2) (ta tb tc : TE) : TE := fun σ H Q => ta σ H fun x H1 => tb σ H1 fun y H2 => r x y H2 fun z H3 => ∃ k, z = .bl k ∧
  (if k = true then tc σ H3 fun w' H4 => r' y w' H4 Q else Q (.bl false) H3)
theorem pe_chain {op op' : CmpOp} {r r' : R2} (ho : OpR X (compareOp op) r) (ho' : OpR X (compareOp op') r') (ha : PE X a ta) (hb : PE X b tb) (hc : PE X c tc)
    (hm : lastMarks [op, op'] [b, c] = false := by with_unfolding_all rfl) : PE X (.Compare a [op, op'] [b, c] pos) (tChain r r' ta tb tc) := by
  intro pins s σ H Q I h
  refine Compare_chain (thn (ha pins s σ H _ I h) fun v s1 ⟨x, H1, I1, r1, q1⟩ => chain_link (thn (hb pins s1 σ H1 _ I1 q1) fun u s2 ⟨y, H2, I2, r2, q2⟩ =>
    thn (ho pins s2 σ H2 x y v u _ I2 r1 r2 q2) fun d s3 ⟨z, H3, I3, r3, k, e, q3⟩ => ?_)) hm
  subst e
  cases r3
  refine wpAny_truthy_bool ?_
  cases k with
  | false => exact ite_ff ⟨.bl false, H3, I3, rfl, q3⟩
  | true => exact ite_tt (chain_last (thn (hc pins s3 σ H3 _ I3 q3) fun w' s4 ⟨z', H4, I4, r4, q4⟩ => ho' pins s4 σ H4 y z' u w' Q I4 r2 r4 q4))
theorem pt_chain {op op' : CmpOp} {r r' : R2} (ho : OpR X (compareOp op) r) (ho' : OpR X (compareOp op') r') (ha : PE X a ta) (hb : PE X b tb) (hc : PE X c tc)
    (hm : lastMarks [op, op'] [b, c] = false := by with_unfolding_all rfl) : PT X (.Compare a [op, op'] [b, c] pos) (tTest (tChain r r' ta tb tc)) := by
  intro pins s σ H Q I h
  refine isTrue_chain (thn (ha pins s σ H _ I h) fun v s1 ⟨x, H1, I1, r1, q1⟩ => test_link (thn (hb pins s1 σ H1 _ I1 q1) fun u s2 ⟨y, H2, I2, r2, q2⟩ =>
    thn (ho pins s2 σ H2 x y v u _ I2 r1 r2 q2) fun d s3 ⟨z, H3, I3, r3, k, e, q3⟩ => ?_)) hm
  subst e
  cases r3
  refine wpAny_truthy_bool ?_
  cases k with
  | false =>
    obtain ⟨k', e', q'⟩ := q3
    cases e'
    exact ite_ff ⟨H3, I3, q'⟩
  | true =>
    refine ite_tt (test_last (thn (hc pins s3 σ H3 _ I3 q3) fun w' s4 ⟨z', H4, I4, r4, q4⟩ => thn (ho' pins s4 σ H4 y z' u w' _ I4 r2 r4 q4) fun d' s5 ⟨z2, H5, I5, r5, k2, e2, q5⟩ => ?_))
    subst e2
    cases r5
    exact wpAny_truthy_bool ⟨H5, I5, q5⟩
noncomputable def TruV (K : PySem.W.Frag) (x : V) (H : Hp) (k : Bool) : Prop :=
  match x with
  | .non => k = false
  | .bl b => k = b
  | .int i => k = (i != 0)
  | .str y => y.length ≤ sizeLine ∧ k = ((y.length : Int) != 0)
  | .byt y => y.size ≤ sizeLine ∧ k = ((y.size : Int) != 0)
  | .ref p => (∃ xs, SqL K H p xs ∧ k = !xs.isEmpty) ∨ (∃ xs, SqT K H p xs ∧ k = !xs.isEmpty) ∨ ∃ kvs, H p = some (.dK kvs) ∧ k = !kvs.isEmpty
  | _ => False
theorem line63 : (sizeLine : Nat) < 2 ^ 63 := by rw [sizeLine_eq]; decide
theorem op_add_str : OpR X (binaryOp .Add) (fun x y H Q => ∃ i j, x = .str i ∧ y = .str j ∧ i.length + j.length ≤ sizeLine ∧ Q (.str (i ++ j)) H) := by
  intro pins s σ H x y v u Q I rx ry h
  obtain ⟨i, j, rfl, rfl, hz, q⟩ := h
  obtain ⟨t, rfl⟩ := rx
  obtain ⟨t', rfl⟩ := ry
  exact add_str (fun t' tk => ⟨.str (i ++ j), H, I.tok _, ⟨_, rfl⟩, q⟩) hz
noncomputable def PlainIxT (b : Expr) : Prop := ∀ o i, subscripted b false o i = operate [o, i] (getItem o i)
theorem vals1 {x : V} {us : List Value} (r : Vals [x] us) : ∃ u, us = [u] ∧ RelV x u := by
  cases r with
  | cons r1 r2 => cases r2; exact ⟨_, rfl, r1⟩
theorem vals2 {x y : V} {us : List Value} (r : Vals [x, y] us) : ∃ u w', us = [u, w'] ∧ RelV x u ∧ RelV y w' := by
  cases r with
  | cons r1 r2 =>
    cases r2 with
    | cons r3 r4 => cases r4; exact ⟨_, _, rfl, r1, r3⟩
theorem call_abs : CallR X (.builtin "abs") (fun xs H Q => ∃ i, xs = [.int i] ∧ Q (.int (if i < 0 then -i else i)) H) := by
  intro pins s σ H xs us Q I r h
  obtain ⟨i, rfl, q⟩ := h
  obtain ⟨u, rfl, t, rfl⟩ := vals1 r
  exact call_abs_int fun u tk => ⟨.int (if i < 0 then -i else i), H, I.tok _, ⟨_, rfl⟩, q⟩
noncomputable def LenV (K : PySem.W.Frag) (x : V) (H : Hp) (n : Nat) : Prop :=
  match x with
  | .str y => y.length ≤ sizeLine ∧ n = y.length
  | .byt y => y.size ≤ sizeLine ∧ n = y.size
  | .ref p => (∃ xs, SqL K H p xs ∧ n = xs.length) ∨ ∃ xs, SqT K H p xs ∧ n = xs.length
  | _ => False
theorem call_len : CallR X (.builtin "len") (fun xs H Q => ∃ x n, xs = [x] ∧ LenV X.K x H n ∧ Q (.int n) H) := by
  intro pins s σ H xs us Q I r h
  obtain ⟨x, n, rfl, e, q⟩ := h
  obtain ⟨u, rfl, rx⟩ := vals1 r
  have hl := line63
  have hs : sizeLine = 16777216 := sizeLine_eq
  cases x with
  | str y =>
    obtain ⟨t, rfl⟩ := rx
    obtain ⟨hy, e'⟩ : y.length ≤ sizeLine ∧ n = y.length := e
    subst e'
    exact len_str (by omega) ⟨.int _, H, I.tok _, ⟨_, rfl⟩, q⟩
  | byt y =>
    obtain ⟨t, rfl⟩ := rx
    obtain ⟨hy, e'⟩ : y.size ≤ sizeLine ∧ n = y.size := e
    subst e'
    exact PySem.W.len_bytes (by omega) ⟨.int _, H, I.tok _, ⟨_, rfl⟩, q⟩
  | ref p =>
    cases rx
    have e' : (∃ xs, SqL X.K H p xs ∧ n = xs.length) ∨ ∃ xs, SqT X.K H p xs ∧ n = xs.length := e
    rcases e' with ⟨xs, hx, e'⟩ | ⟨xs, hx, e'⟩
    · subst e'
      obtain ⟨its, r', pl, hz⟩ := I.list hx
      have hlen := r'.length
      exact Calls.call_len_list pl.isList (by simp only [List.size_toArray]; omega) ⟨.int xs.length, H, I.tok _, ⟨_, by simp only [List.size_toArray]; rw [hlen]⟩, q⟩
    · subst e'
      obtain ⟨its, r', pl, hz⟩ := I.tuple hx
      have hlen := r'.length
      exact len_tuple pl (by simp only [List.size_toArray]; omega) ⟨.int xs.length, H, I.tok _, ⟨_, by simp only [List.size_toArray]; rw [hlen]⟩, q⟩
  | _ => exact (show False from e).elim
end
structure ObjM (h : Heap) (x dx C : Addr) (mA : Str → Option Value) : Prop where
  obj : h.get? x = some (PySem.W.instObj C dx)
  ns : h.Ns1 dx mA
  ne : dx ≠ x
theorem lookIn_ns {h : Heap} {dx : Addr} {mA : Str → Option Value} (n : h.Ns1 dx mA) : ∃ od, h.get? dx = some od ∧ ∀ name, PySem.W.lookIn name od = some (mA name) := by
  obtain ⟨o, es, ep, ho, hd, hk, _, hm⟩ := n
  refine ⟨o, ho, fun name => ?_⟩
  have e := hm name
  unfold nsFind findBy at e
  rw [← Array.find?_toList] at e
  unfold PySem.W.lookIn
  rw [hd]
  dsimp only
  split
  · rename_i y q
    rw [q] at e
    exact congrArg some e
  · rename_i q
    rw [q] at e
    have a : es.toList.any (·.refKey) = false := by
      rw [List.any_eq_false]
      intro y hy
      obtain ⟨z, t, hkey⟩ := hk y (Array.mem_toList_iff.mp hy)
      simp [DictEntry.refKey, hkey]
    have a' : ¬ es.toList.any (·.refKey) = true := by rw [a]; exact Bool.false_ne_true
    rw [if_neg a']
    exact congrArg some e
theorem ObjM.look {h : Heap} {x dx C : Addr} {mA : Str → Option Value} (I : ObjM h x dx C mA) : ∃ od, PySem.W.InstAt h x (PySem.W.instObj C dx) C (some od) ∧ ∀ name, PySem.W.lookIn name od = some (mA name) :=
  let ⟨od, ho, hl⟩ := lookIn_ns I.ns
  ⟨od, ⟨I.obj, rfl, rfl, ho⟩, hl⟩
section
variable {prog : Program} {w : World} {A : Around} {E : Value → Shared → Prop} {s : Shared} {K : PySem.W.Frag} {x dx C f : Addr} {mA : Str → Option Value} {name : Str} {v : Value}
theorem get_meth {pl : Sem Bool} {Q : Value × List Value → Shared → Prop} (X : K.In s.heap) (I : ObjM s.heap x dx C mA) (hg : PySem.W.plainGet K C name = true)
    (hf : PySem.W.findIn K (.ref C) name = some (some (.ref f))) (ht : PySem.W.isFn K (.ref f) = true) (hv : mA name = none) (h : Q (.ref f, [.ref x]) s) :
    wpAny (model prog w) A (getMethod (.ref x) name pl) Q E s := by
  obtain ⟨od, J, hl⟩ := I.look
  exact PySem.W.method_fn X J (PySem.W.plainGet_of hg).1 (PySem.W.plainGet_of hg).2 hf (beq_iff_eq.mp ht) (by show (PySem.W.lookIn name od).map (·.isSome) = some false; rw [hl, hv]; rfl) h
end
noncomputable def putF (f : Str) (v : V) : List (Str × V) → List (Str × V)
  | [] => [(f, v)]
  | (g, x) :: r => if g = f then (g, v) :: r else (g, x) :: putF f v r
theorem RelO.some_of {v : V} {o : Option Value} (r : RelO (some v) o) : ∃ u, o = some u ∧ RelV v u := by
  cases o with
  | none => exact (show False from r).elim
  | some u => exact ⟨u, rfl, r⟩
theorem RelO.none_of {o : Option Value} (r : RelO none o) : o = none := by
  cases o with
  | none => rfl
  | some u => exact (show False from r).elim
section
variable {P : Program} {w : World} {H H' : Hp} {h h' : Heap} {a C dx : Addr} {fs fs' : List (Str × V)}
theorem ins_get (hok : HOk P w H h) (e : H a = some (.ins C dx fs)) : ∃ mA, ObjM h a dx C mA ∧ (∀ f, RelO (fs.lookup f) (mA f)) ∧ PySem.Within mA (fs.map (·.1)) ∧ fs.length ≤ 1000 ∧ H dx = some (.own a) := by
  obtain ⟨d, z, ne, ob, mA, n, r, q⟩ := (show ObjOk P w H h a (.ins C dx fs) from hok a _ e)
  exact ⟨mA, ⟨ob, n, ne⟩, r, q, z, d⟩
end
structure Cls (K : PySem.W.Frag) (C : Addr) : Prop where
  pg : PySem.W.plainGet K C Str.empty = true
  hd : PySem.W.hasDictIn K C = true
  po : PySem.W.plainOver K C = true
  sa : PySem.W.findIn K (.ref C) "__setattr__" = some (some (.builtin "object.__setattr__"))
theorem Cls.get {K : PySem.W.Frag} {C : Addr} (c : Cls K C) (f : Str) : PySem.W.plainGet K C f = true := c.pg
noncomputable def NoAttr (K : PySem.W.Frag) (C : Addr) (f : Str) : Prop := PySem.W.findIn K (.ref C) f = some none
structure Con (K : PySem.W.Frag) (C : Addr) (f : Str) (v : V) (u : Value) : Prop where
  at_ : PySem.W.findIn K (.ref C) f = some (some u)
  rel : RelV v u
  get : PySem.W.specialIn K u "__get__" = some none
  cp : PySem.W.copiedNames.contains f = false
structure Meth (K : PySem.W.Frag) (C : Addr) (m : Str) (f : Addr) : Prop where
  at_ : PySem.W.findIn K (.ref C) m = some (some (.ref f))
  fn : PySem.W.isFn K (.ref f) = true
  kp : PySem.W.keepIn K (.ref f) = true
section
variable {X : Cx} {pins : List (Addr × Obj)} {σ : St} {H : Hp} {s : Shared} {a C dx : Addr} {fs : List (Str × V)} {f : Str} {v : V} {A : Around} {E : Value → Shared → Prop}
theorem getmeth_ok {m : Str} {g : Addr} {pl : Sem Bool} {Q : Value × List Value → Shared → Prop} (I : Inv X pins σ H s) (e : H a = some (.ins C dx fs)) (c : Cls X.K C) (k : Meth X.K C m g) (l : fs.lookup m = none)
    (h : Q (.ref g, [.ref a]) s) : wpAny (model X.prog X.w) A (getMethod (.ref a) m pl) Q E s := by
  obtain ⟨mA, O, r, _, _, _⟩ := ins_get I.hok e
  have hn : mA m = none := RelO.none_of (by rw [← l]; exact r m)
  exact get_meth I.kIn O (c.get m) k.at_ k.fn hn h
theorem Inv.made (I : Inv X pins σ H s) : Inv X pins σ (upd (upd H s.heap.objs.size (.own (s.heap.objs.size + 1))) (s.heap.objs.size + 1) (.ins C s.heap.objs.size []))
    { s with heap := (s.heap.push PySem.W.emptyDict).push (PySem.W.instObj C s.heap.objs.size) } := by
  have e1 : (s.heap.push PySem.W.emptyDict).get? s.heap.objs.size = some PySem.W.emptyDict := Heap.get?_push_size s.heap rfl
  have e2 : ((s.heap.push PySem.W.emptyDict).push (PySem.W.instObj C s.heap.objs.size)).get? (s.heap.objs.size + 1) = some (PySem.W.instObj C s.heap.objs.size) := by
    have := Heap.get?_push_size (s.heap.push PySem.W.emptyDict) (o := PySem.W.instObj C s.heap.objs.size) rfl
    rwa [Heap.size_push] at this
  have e3 : (s.heap.push PySem.W.emptyDict).Ns s.heap.objs.size (fun _ => none) := ⟨PySem.W.emptyDict, #[], _, e1, rfl, (fun e he => absurd he (by simp)), fun _ => rfl⟩
  have I1 := I.laid (a := s.heap.objs.size) (o := .own (s.heap.objs.size + 1)) (h' := s.heap.push PySem.W.emptyDict) (t' := s.toks) (fun b u q => Heap.get?_push_of_some _ q) (Nat.le_refl _) ⟨_, e1⟩
  refine I1.laid (a := s.heap.objs.size + 1) (o := .ins C s.heap.objs.size []) (t' := s.toks) (fun b u q => Heap.get?_push_of_some _ q) (Nat.le_of_eq (Heap.size_push _ _)) ?_
  have ne : s.heap.objs.size ≠ s.heap.objs.size + 1 := Nat.ne_of_lt (Nat.lt_succ_self _)
  refine ⟨by rw [upd_ne ne, upd_same], Nat.zero_le _, ne, e2, fun _ => none, (Heap.Ns1.of_empty e3).at fun o q => Heap.get?_push_of_some _ q, fun _ => True.intro, fun y hy => absurd rfl hy⟩
end
noncomputable def tFld (K : PySem.W.Frag) (ta : TE) (f : Str) : TE := fun σ H Q => ta σ H fun x H1 => ∃ a C dx fs v, x = .ref a ∧ H1 a = some (.ins C dx fs) ∧ Cls K C ∧ NoAttr K C f ∧ fs.lookup f = some v ∧ Q v H1
noncomputable def tCon (K : PySem.W.Frag) (ta : TE) (f : Str) : TE := fun σ H Q => ta σ H fun x H1 => ∃ a C dx fs v u, x = .ref a ∧ H1 a = some (.ins C dx fs) ∧ Cls K C ∧ Con K C f v u ∧ fs.lookup f = none ∧ Q v H1
noncomputable def sFld (K : PySem.W.Frag) (ta tv : TE) (f : Str) : TS := fun D σ H => tv σ H fun y H1 => ta σ H1 fun x H2 => ∃ a C dx fs, x = .ref a ∧ H2 a = some (.ins C dx fs) ∧ Cls K C ∧ NoAttr K C f ∧ fs.length < 1000 ∧
  D.nx σ (upd H2 a (.ins C dx (putF f y fs)))
noncomputable def InOp (X : Cx) (op : Operator) (rd : V → V → Hp → VK → Prop) : Prop :=
  ∀ (pins : List (Addr × Obj)) (s : Shared) (σ : St) (H : Hp) (x y : V) (u v : Value) (Q : VK), Inv X pins σ H s → RelV x u → RelV y v → rd x y H Q → wpAny (model X.prog X.w) X.A (inplaceOp op u v) (EP X pins σ Q) X.xe s
noncomputable def sFldAug (K : PySem.W.Frag) (ta tv : TE) (rd : V → V → Hp → VK → Prop) (f : Str) : TS := fun D σ H => ta σ H fun x H1 => ∃ a C dx fs v, x = .ref a ∧ H1 a = some (.ins C dx fs) ∧ Cls K C ∧ NoAttr K C f ∧ fs.lookup f = some v ∧
  tv σ H1 fun y H2 => rd v y H2 fun z H3 => ∃ dx' fs', H3 a = some (.ins C dx' fs') ∧ fs'.length < 1000 ∧ D.nx σ (upd H3 a (.ins C dx' (putF f z fs')))
section
variable {X : Cx} {o e value : Expr} {f : Str} {pos pos' tpos : Pos} {ta tv : TE}
noncomputable def rAdd : V → V → Hp → VK → Prop := fun x y H Q => ∃ i j, x = .int i ∧ y = .int j ∧ Q (.int (i + j)) H
noncomputable def rSub : V → V → Hp → VK → Prop := fun x y H Q => ∃ i j, x = .int i ∧ y = .int j ∧ Q (.int (i - j)) H
end
section
variable {X : Cx} {pins : List (Addr × Obj)} {σ : St} {H : Hp} {s : Shared} {A : Around} {E : Value → Shared → Prop} {Q : Value → Shared → Prop} {c : Value} {b : Bool}
inductive TyOf (K : PySem.W.Frag) (H : Hp) : V → Value → Prop where
  | non : TyOf K H .non (.type "NoneType")
  | bl (x : Bool) : TyOf K H (.bl x) (.type "bool")
  | int (i : Int) : TyOf K H (.int i) (.type "int")
  | str (x : Str) : TyOf K H (.str x) (.type "str")
  | flt (x : UInt64) : TyOf K H (.flt x) (.type "float")
  | lst {a : Addr} {xs : List V} (e : H a = some (.lst xs)) : TyOf K H (.ref a) (.type "list")
  | frz {a : Addr} {o : Obj} {xs : List V} (e : H a = some (.frz o (.lst xs))) : TyOf K H (.ref a) (.type "list")
  | tup {a : Addr} {xs : List V} (e : H a = some (.tup xs)) : TyOf K H (.ref a) (.type "tuple")
  | dK {a : Addr} {kvs : List (Key × V)} (e : H a = some (.dK kvs)) : TyOf K H (.ref a) (.type "dict")
  | dT {a : Addr} {kvs : List (List Key × V)} (e : H a = some (.dT kvs)) : TyOf K H (.ref a) (.type "dict")
  | ins {a C dx : Addr} {fs : List (Str × V)} (e : H a = some (.ins C dx fs)) (cl : Cls K C) (ha : PySem.W.findIn K (.ref C) "__class__" = some (some (.builtin "object.__class__")))
      (hn : PySem.W.specialIn K (.builtin "object.__class__") "__get__" = some (some (.builtin "getset_descriptor.__get__"))) (htk : PySem.W.takesIn K (.builtin "object.__class__") = some true)
      (hm : PySem.W.mroIn K C (.type "object") = some true) : TyOf K H (.ref a) (.ref C)
end
structure Room (k : Nat) (A : Around) : Prop where
  hd : A.handled = none
  dp : A.depth + 3 * k + 5 < recursionLimit
  un : A.units + 16 * k + 200 < cLine
theorem Room.mono {j k : Nat} {A : Around} (r : Room k A) (h : j ≤ k) : Room j A := ⟨r.hd, by have := r.dp; omega, by have := r.un; omega⟩
theorem Room.deeper {k : Nat} {A : Around} (r : Room (k + 1) A) (env : Env) : Room k (A.deeper env) :=
  ⟨r.hd, by have := r.dp; show A.depth + 1 + 3 * k + 5 < _; omega, by have := r.un; show A.units + 3 + 16 * k + 200 < _; omega⟩
theorem Room.in1 {k : Nat} {A : Around} (r : Room (k + 1) A) : Room k A.in1 :=
  ⟨r.hd, by have := r.dp; show A.depth + 3 * k + 5 < _; omega, by have := r.un; show A.units + 1 + 16 * k + 200 < _; omega⟩
theorem Room.depth {k : Nat} {A : Around} (r : Room k A) : A.depth < recursionLimit := by have := r.dp; omega
theorem Room.units {k : Nat} {A : Around} (r : Room k A) : A.units + 64 < cLine := by have := r.un; omega
noncomputable def tNil : TA := fun _ H Q => Q [] H
noncomputable def tCons (ta : TE) (tr : TA) : TA := fun σ H Q => ta σ H fun x H1 => tr σ H1 fun xs H2 => Q (x :: xs) H2
section
variable {X : Cx} {e : Expr} {es : List Expr} {te : TE} {t : TA} {pos : Pos}
theorem pa_nil : PA X [] tNil := fun _ _ _ _ H Q I h => Calls.spliced_nil ⟨[], H, I, .nil, h⟩
theorem pa_cons (ha : PE X e te) (hr : PA X es t) (hs : starEach (e :: es) X.env = (false, eval e X.env) :: starEach es X.env := by rfl) : PA X (e :: es) (tCons te t) := by
  intro pos pins s σ H Q I h
  rw [hs]
  show wpAny _ _ (spliced ((false, eval e X.env) :: backTo pos (starEach es X.env))) _ _ s
  refine Calls.spliced_cons (thn (ha pins s σ H _ I h) fun u s1 ⟨x, H1, I1, r1, q1⟩ => ?_)
  exact thn (hr pos pins s1 σ H1 _ I1 q1) fun us s2 ⟨xs, H2, I2, r2, q2⟩ => ⟨x :: xs, H2, I2, .cons r1 r2, q2⟩
noncomputable def tTup (t : TA) : TE := fun σ H Q => t σ H fun xs H1 => xs.length ≤ sizeLine ∧ ∀ p, H1 p = none → Q (.ref p) (upd H1 p (.tup xs))
noncomputable def tLst (t : TA) : TE := fun σ H Q => t σ H fun xs H1 => xs.length ≤ sizeLine ∧ ∀ p, H1 p = none → Q (.ref p) (upd H1 p (.lst xs))
theorem pe_tup {x1} (h : PA X es t) : PE X (.Tuple es x1 pos) (tTup t) := by
  intro pins s σ H Q I hq
  refine wpAny_Tuple_spliced (thn (h pos pins s σ H _ I hq) fun us s1 ⟨xs, H1, I1, r, z, q⟩ => ⟨by rw [← r.length]; exact z, ?_⟩)
  have hf : H1 s1.heap.objs.size = none := I1.hok.fresh (Nat.le_refl _)
  refine ⟨.ref s1.heap.objs.size, upd H1 s1.heap.objs.size (.tup xs), I1.laid (t' := s1.toks) (fun b u e => Heap.get?_push_of_some _ e) (Nat.le_refl _) ?_, rfl, q _ hf⟩
  exact ⟨z, us, r, ⟨_, Heap.get?_push_size _ rfl, rfl, _, rfl⟩⟩
theorem pe_lst (h : PA X es t) : PE X (.List es pos) (tLst t) := by
  intro pins s σ H Q I hq
  refine wpAny_List_spliced (thn (h pos pins s σ H _ I hq) fun us s1 ⟨xs, H1, I1, r, z, q⟩ => ⟨by rw [← r.length]; exact z, ?_⟩)
  have hf : H1 s1.heap.objs.size = none := I1.hok.fresh (Nat.le_refl _)
  refine ⟨.ref s1.heap.objs.size, upd H1 s1.heap.objs.size (.lst xs), I1.laid (t' := s1.toks) (fun b u e => Heap.get?_push_of_some _ e) (Nat.le_refl _) ?_, rfl, q _ hf⟩
  exact ⟨z, us, 0, r, Heap.get?_push_size _ rfl⟩
end
noncomputable abbrev Sp := List V → Hp → VK → XK → Prop
noncomputable abbrev CXT := List Env → Hp → Shared → XK → Value → Shared → Prop
structure Env0 (P : Program) (w : World) (K : PySem.W.Frag) (mg : Str → Option Value) (base : Heap) (A : Around) (outer : List Env) (s : Shared) (H : Hp) : Prop where
  frames : A.frames = some outer
  mod : Mod K mg base
  bs : ∀ b o, base.get? b = some o → s.heap.get? b = some o ∧ H b = none
  bsz : base.objs.size ≤ s.heap.objs.size
  funs : s.heap.FunFrames base outer
  frf : ∀ b ∈ frs outer, H b = none
  hok : HOk P w H s.heap
  bare : AllBare s.gens
noncomputable def CE (outer : List Env) (P : Program) (w : World) (H : Hp) (s : Shared) (Q : VK) (u : Value) (s' : Shared) : Prop :=
  ∃ v H', s'.os = s.os ∧ AllBare s'.gens ∧ Un (frs outer) [] H H' s.heap s'.heap ∧ HOk P w H' s'.heap ∧ RelV v u ∧ Q v H'
noncomputable def CR (CX : CXT) (outer : List Env) (P : Program) (w : World) (H : Hp) (s : Shared) (Q : VK) (E : XK) (r : Result) (s' : Shared) : Prop :=
  match r with
  | .ok (.ret u) => CE outer P w H s Q u s'
  | .ok _ => False
  | .error e => CX outer H s E e s'
structure FnOk (P : Program) (w : World) (K : PySem.W.Frag) (mg : Str → Option Value) (base : Heap) (CX : CXT) (k : Nat) (f : Addr) (fd : FuncData) (ps : List Str) (sp : Sp) : Prop where
  len : ∀ vs H Q E, sp vs H Q E → vs.length = ps.length
  run : ∀ (A : Around) (outer : List Env) (s : Shared) (H : Hp) (args : Args) (us : List Value) (vs : List V) (Q : VK) (E : XK), Room k A → Env0 P w K mg base A outer s H → BindsTo s fd args (ps.zip us) → Vals vs us → sp vs H Q E →
    codeAny (model P w) A (.call (.ref f) args) (CR CX outer P w H s Q E) s
theorem FnOk.mono {P : Program} {w : World} {K : PySem.W.Frag} {mg : Str → Option Value} {base : Heap} {CX : CXT} {j k : Nat} {f : Addr} {fd : FuncData} {ps : List Str} {sp : Sp} (F : FnOk P w K mg base CX j f fd ps sp) (h : j ≤ k) :
    FnOk P w K mg base CX k f fd ps sp := ⟨F.len, fun A outer s H args us vs Q E hr => F.run A outer s H args us vs Q E (hr.mono h)⟩
theorem FnOk.imp {P : Program} {w : World} {K : PySem.W.Frag} {mg : Str → Option Value} {base : Heap} {CX : CXT} {k : Nat} {f : Addr} {fd : FuncData} {ps : List Str} {sp sp' : Sp} (F : FnOk P w K mg base CX k f fd ps sp)
    (h : ∀ vs H Q E, sp' vs H Q E → sp vs H Q E) : FnOk P w K mg base CX k f fd ps sp' :=
  ⟨fun vs H Q E q => F.len vs H Q E (h _ _ _ _ q), fun A outer s H args us vs Q E hr he hb hv hs => F.run A outer s H args us vs Q E hr he hb hv (h _ _ _ _ hs)⟩
theorem Env0.in1 {P : Program} {w : World} {K : PySem.W.Frag} {mg : Str → Option Value} {base : Heap} {A : Around} {outer : List Env} {s : Shared} {H : Hp} (e : Env0 P w K mg base A outer s H) :
    Env0 P w K mg base A.in1 outer s H := ⟨e.frames, e.mod, e.bs, e.bsz, e.funs, e.frf, e.hok, e.bare⟩
section
variable {X : Cx} {pins : List (Addr × Obj)} {σ : St} {H : Hp} {s s' : Shared}
theorem Inv.env0 (I : Inv X pins σ H s) : Env0 X.prog X.w X.K X.mg X.base X.A X.stack s H :=
  ⟨I.ok.frames, I.ok.mod, I.bs, Nat.le_trans I.ok.bsz I.sz, I.stack, I.stkFree, I.hok, I.bare⟩
theorem Inv.after {Q : VK} {u : Value} (I : Inv X pins σ H s) (h : CE X.stack X.prog X.w H s Q u s') : EP X pins σ Q u s' := by
  obtain ⟨v, H', os, bare, un, hok, r, q⟩ := h
  obtain ⟨hh, g, d, t, os'⟩ := s'
  obtain rfl : os' = s.os := os
  exact ⟨v, H', I.call (h' := hh) (g' := g) (d' := d) (t' := t) (ch := []) un hok bare (fun b z => absurd z (by simp)), r, q⟩
end
noncomputable def tCall (sp : Sp) (dvs : List V) (E : XK) (t : TA) : TE := fun σ H Q => t σ H fun vs H1 => sp (vs ++ dvs) H1 Q E
noncomputable def tMeth (C : Addr) (m : Str) (sp : Sp) (dvs : List V) (E : XK) (ta : TE) (t : TA) : TE := fun σ H Q => ta σ H fun x H1 => ∃ a dx fs, x = .ref a ∧ H1 a = some (.ins C dx fs) ∧ fs.lookup m = none ∧
  t σ H1 fun vs H2 => sp (x :: (vs ++ dvs)) H2 Q E
noncomputable def tMake (C : Addr) (sp : Sp) (dvs : List V) (E : XK) (t : TA) : TE := fun σ H Q => t σ H fun vs H1 => ∀ x dx, H1 x = none → H1 dx = none → dx ≠ x →
  sp (.ref x :: (vs ++ dvs)) (upd (upd H1 dx (.own x)) x (.ins C dx [])) (fun v H2 => v = .non ∧ Q (.ref x) H2) E
noncomputable def Binds (K : PySem.W.Frag) (fd : FuncData) (ps : List Str) (ds : List Value) : Prop :=
  ∀ (s : Shared) (us : List Value), K.In s.heap → (us ++ ds).length = ps.length → BindsTo s fd ⟨us, []⟩ (ps.zip (us ++ ds))
theorem Binds.all {K : PySem.W.Frag} {fd : FuncData} {ps : List Str} (h : ∀ us : List Value, us.length = ps.length → bindArgs fd ⟨us, []⟩ = pure (ps.zip us)) : Binds K fd ps [] := fun s us _ hl => by
  rw [List.append_nil] at hl ⊢
  exact .of_eq (h us hl)
noncomputable def Passes (CX : CXT) (X : Cx) (E : XK) : Prop := ∀ (pins : List (Addr × Obj)) (σ : St) (H : Hp) (s : Shared) (e : Value) (s' : Shared), Inv X pins σ H s → CX X.stack H s E e s' → X.xe e s'
section
variable {X : Cx} {CX : CXT} {k : Nat} {f C : Addr} {fd : FuncData} {ps : List Str} {sp : Sp} {dvs : List V} {ds : List Value} {E : XK} {x m : Str} {p pos apos : Pos} {e o : Expr} {es : List Expr} {ta : TE} {t : TA}
structure Mk (K : PySem.W.Frag) (C f : Addr) : Prop where
  makes : PySem.W.makesIn K C = true
  init : PySem.W.findIn K (.ref C) "__init__" = some (some (.ref f))
  fn : PySem.W.isFn K (.ref f) = true
  kp : PySem.W.keepIn K (.ref C) = true
end
noncomputable def PK (X : Cx) (kws : List Keyword) (t : TA) : Prop :=
  ∀ (pos : Pos) (pins : List (Addr × Obj)) (s : Shared) (σ : St) (H : Hp) (Q : List V → Hp → Prop), Inv X pins σ H s → t σ H Q → wpAny (model X.prog X.w) X.A (evalAll ((backToKw pos (keywordEach kws X.env)).map (·.2))) (AP X pins σ Q) X.xe s
section
variable {X : Cx} {CX : CXT} {k : Nat} {f C : Addr} {fd : FuncData} {ps ks : List Str} {sp : Sp} {E : XK} {x m : Str} {p pos apos kpos : Pos} {e o : Expr} {es : List Expr} {kws : List Keyword} {te ta : TE} {t tk : TA} {nm : Option Str}
structure KBinds (K : PySem.W.Frag) (fd : FuncData) (ps ks : List Str) (g : List Value → List Value → List Value) (gV : List V → List V → List V) : Prop where
  to : ∀ (s : Shared) (us ws : List Value), K.In s.heap → (g us ws).length = ps.length → BindsTo s fd ⟨us, ks.zip ws⟩ (ps.zip (g us ws))
  rel : ∀ {vs : List V} {us : List Value} {zs : List V} {ws : List Value}, Vals vs us → Vals zs ws → Vals (gV vs zs) (g us ws)
noncomputable def tCallK (sp : Sp) (gV : List V → List V → List V) (E : XK) (t tk : TA) : TE := fun σ H Q => t σ H fun vs H1 => tk σ H1 fun zs H2 => sp (gV vs zs) H2 Q E
variable {g : List Value → List Value → List Value} {gV : List V → List V → List V}
end
structure FnScope (N P : List Str) (sc : Scope) : Prop where
  kind : sc.kind = .function
  co : sc.isCoroutine = false
  gen : sc.isGenerator = false
  nd : N.Nodup
  pre : N.take P.length = P
  par : ∀ x ∈ P, sc.names.lookup x = some .local ∨ sc.names.lookup x = some .cell
  nofree : ∀ y ∈ sc.names, y.2 ≠ .free
theorem bindL_out {kindOf : Str → Option NameKind} {x : Str} : ∀ {binds : List (Str × Value)} {m : Str → Option Value}, (∀ v, (x, v) ∉ binds) → bindL kindOf binds m x = m x
  | [], _, _ => rfl
  | (n, v) :: r, m, h => by
    unfold bindL
    rw [bindL_out fun w hw => h w (List.mem_cons_of_mem _ hw)]
    split
    · have : x ≠ n := by rintro rfl; exact h v List.mem_cons_self
      simp [this]
    · rfl
theorem bindC_out {kindOf : Str → Option NameKind} {x : Str} : ∀ {binds : List (Str × Value)} {m : Str → Option Value}, (∀ v, (x, v) ∉ binds) → bindC kindOf binds m x = m x
  | [], _, _ => rfl
  | (n, v) :: r, m, h => by
    unfold bindC
    rw [bindC_out fun w hw => h w (List.mem_cons_of_mem _ hw)]
    split
    · rfl
    · have : x ≠ n := by rintro rfl; exact h v List.mem_cons_self
      simp [this]
theorem bindL_get {kindOf : Str → Option NameKind} {x : Str} {v : Value} : ∀ {P : List Str} {vs : List Value} {i : Nat} {m : Str → Option Value}, P.Nodup → P[i]? = some x → vs[i]? = some v → kindOf x = some .local →
    bindL kindOf (P.zip vs) m x = some v
  | [], _, _, _, _, h, _, _ => by simp at h
  | _ :: _, [], _, _, _, _, h, _ => by simp at h
  | p :: P, w :: vs, 0, m, nd, h1, h2, hk => by
    simp at h1 h2; subst h1; subst h2
    show bindL kindOf ((p, w) :: P.zip vs) m p = _
    unfold bindL
    rw [bindL_out fun v hv => (List.nodup_cons.mp nd).1 (List.of_mem_zip hv).1, if_pos hk]
    simp
  | p :: P, w :: vs, i + 1, m, nd, h1, h2, hk => by
    show bindL kindOf ((p, w) :: P.zip vs) m x = _
    unfold bindL
    exact bindL_get (i := i) (List.nodup_cons.mp nd).2 (by simpa using h1) (by simpa using h2) hk
theorem bindC_get {kindOf : Str → Option NameKind} {x : Str} {v : Value} : ∀ {P : List Str} {vs : List Value} {i : Nat} {m : Str → Option Value}, P.Nodup → P[i]? = some x → vs[i]? = some v → kindOf x ≠ some .local →
    bindC kindOf (P.zip vs) m x = some v
  | [], _, _, _, _, h, _, _ => by simp at h
  | _ :: _, [], _, _, _, _, h, _ => by simp at h
  | p :: P, w :: vs, 0, m, nd, h1, h2, hk => by
    simp at h1 h2; subst h1; subst h2
    show bindC kindOf ((p, w) :: P.zip vs) m p = _
    unfold bindC
    rw [bindC_out fun v hv => (List.nodup_cons.mp nd).1 (List.of_mem_zip hv).1, if_neg hk]
    simp
  | p :: P, w :: vs, i + 1, m, nd, h1, h2, hk => by
    show bindC kindOf ((p, w) :: P.zip vs) m x = _
    unfold bindC
    exact bindC_get (i := i) (List.nodup_cons.mp nd).2 (by simpa using h1) (by simpa using h2) hk
noncomputable def start (N : List Str) (vs : List V) : St := vs.map some ++ List.replicate (N.length - vs.length) none
noncomputable def cxOf (CX : CXT) (P : Program) (w : World) (K : PySem.W.Frag) (mg : Str → Option Value) (base : Heap) (N : List Str) (qual : Str) (scope : Scope) (f : Addr) (cd : Value) (A : Around) (outer : List Env) (s : Shared) (H : Hp) (E : XK) (c : Bool := true) : Cx where
  prog := P
  w := w
  K := K
  mg := mg
  base := base
  A := A.deeper (envOfC qual scope s.heap.objs.size f cd)
  N := N
  s₀ := s
  H₀ := H
  env := envOfC qual scope s.heap.objs.size f cd
  outer := outer
  stack := envOfC qual scope s.heap.objs.size f cd :: outer
  ex := []
  calm := c
  fn := fun _ => true
  pn := []
  xe := fun e s' => wpAny (model P w) (A.deeper (envOfC qual scope s.heap.objs.size f cd)) (leaving (envOfC qual scope s.heap.objs.size f cd) e) (fun _ s'' => CX outer H s E e s'') (fun e' s'' => CX outer H s E e' s'') s'
theorem cell_has {sc : Scope} {n : Nat} {x : Str} (h : sc.names.lookup x = some .cell) : ∃ c, (cellsFrom n sc.names []).lookup x = some c := by
  have q := PySem.W.cellsFrom_some sc.names n [] (.inl h)
  exact Option.isSome_iff_exists.mp q
theorem inv_start {CX : CXT} {P : Program} {w : World} {K : PySem.W.Frag} {mg : Str → Option Value} {base : Heap} {N ps : List Str} {qual : Str} {scope : Scope} {f : Addr} {cd : Value} {A : Around} {outer : List Env} {s s1 : Shared} {H : Hp} {E : XK} {us : List Value} {vs : List V}
    (S : FnScope N ps scope) {c : Bool} (hd : c = true → A.handled = none) (e0 : Env0 P w K mg base A outer s H) (hl : vs.length = ps.length) (r : Vals vs us)
    (x : InCallC s s.heap.objs.size (bindL (envOfC qual scope s.heap.objs.size f cd).kindOf (ps.zip us) fun _ => none) (cellsFrom (s.heap.objs.size + 1) scope.names []) (bindC (envOfC qual scope s.heap.objs.size f cd).kindOf (ps.zip us) fun _ => none) s1) :
    Inv (cxOf CX P w K mg base N qual scope f cd A outer s H E c) [] (start N vs) H s1 := by
  have hpl : ps.length ≤ N.length := by have := congrArg List.length S.pre; rw [List.length_take] at this; omega
  obtain ⟨h1, tk, rfl, hk⟩ := x.done
  have noA : ∀ b : Addr, b ∉ (cxOf CX P w K mg base N qual scope f cd A outer s H E c).ex := fun b z => absurd (show b ∈ ([] : List Addr) from z) (by simp)
  refine ⟨⟨e0.mod, S.kind, rfl, rfl, Nat.le_refl _, fun y z c h1 h2 => ?_, fun y hy => ?_, fun y c _ h => ?_, hd, Around.frames_deeper e0.frames, .inr ⟨rfl, rfl⟩, fun b z => absurd z (noA b), e0.bs, e0.bsz, fun b _ _ => noA b, fun b z => absurd z (noA b), e0.funs, e0.frf⟩,
    rfl, e0.bare, Un.kept hk, ⟨_, x.toInCall.ns, fun i y v h1 h2 h3 => ?_⟩, fun y c h => ⟨_, x.cell y c h⟩, e0.hok.fresh (Nat.le_refl _), fun y c h => ?_, fun p hp => absurd (show p ∈ ([] : List (Addr × Obj)) from hp) (by simp), e0.hok.kept hk, ?_⟩
  · exact name_of_addr x.apart (PySem.mem_of_lookup h1) (PySem.mem_of_lookup h2)
  · have hy : scope.names.lookup y = some .cell ∨ scope.names.lookup y = some .free := hy
    rcases hy with hy | hy
    · exact cell_has hy
    · exact absurd rfl (S.nofree _ (PySem.mem_of_lookup hy))
  · exact Nat.le_of_lt (x.above y c (PySem.mem_of_lookup h))
  · have hi : i < vs.length := by
      unfold start at h2
      by_cases hi : i < vs.length
      · exact hi
      · rw [List.getElem?_append_right (by simpa using hi)] at h2
        rw [List.getElem?_replicate] at h2
        split at h2 <;> cases h2
    have ha : vs[i]? = some v := by
      unfold start at h2
      rw [List.getElem?_append_left (by simpa using hi), List.getElem?_map] at h2
      cases e : vs[i]? with
      | none => rw [e] at h2; cases h2
      | some a => rw [e] at h2; cases h2; rfl
    obtain ⟨u, hu, rv⟩ := r.get ha
    have hp : ps[i]? = some y := by
      rw [← S.pre, List.getElem?_take_of_lt (by omega)]; exact h1
    have ndP : ps.Nodup := by rw [← S.pre]; exact S.nd.sublist (List.take_sublist _ _)
    refine ⟨u, rv, ?_⟩
    rcases S.par y (List.mem_of_getElem? hp) with k | k
    · exact .inl ⟨k, bindL_get ndP hp hu k⟩
    · obtain ⟨c, e⟩ := cell_has (n := s.heap.objs.size + 1) k
      refine .inr ⟨.inl k, c, e, ?_⟩
      have q := x.cell y c e
      rw [bindC_get ndP hp hu (by show scope.names.lookup y ≠ _; rw [k]; decide)] at q
      exact q
  · exact e0.hok.fresh (Nat.le_of_lt (x.above y c (PySem.mem_of_lookup h)))
  · unfold start
    show _ = N.length
    rw [List.length_append, List.length_map, List.length_replicate]
    omega
theorem fn_of {CX : CXT} {P : Program} {w : World} {K : PySem.W.Frag} {mg : Str → Option Value} {base : Heap} {k : Nat} {f : Addr} {name qual : Str} {params : Arguments} {body : List Stmt} {scope : Scope} {dV kV doc pm cdv ct oc : Value} {an od : Option Addr}
    {osl : Array (Option Value)} {N ps : List Str} {sp : Sp} (lk : K.lookup f = some ⟨oc, od, .func (PySem.W.fnOf name qual params body scope dV kV doc pm an cdv ct), osl⟩) (hcd : PySem.W.codeIn K cdv qual = true) (S : FnScope N ps scope)
    (len : ∀ vs H Q E, sp vs H Q E → vs.length = ps.length)
    (hbody : ∀ (A : Around) (outer : List Env) (s : Shared) (H : Hp) (vs : List V) (Q : VK) (E : XK), Room k (A.deeper (envOfC qual scope s.heap.objs.size f cdv)) → sp vs H Q E →
      ∃ t, PSs (cxOf CX P w K mg base N qual scope f cdv A outer s H E) body t ∧ t { nx := fun _ H' => Q .non H', rt := Q } (start N vs) H) :
    FnOk P w K mg base CX (k + 1) f (PySem.W.fnOf name qual params body scope dV kV doc pm an cdv ct) ps sp := by
  refine ⟨len, fun A outer s H args us vs Q E hr e0 hb r hsp => ?_⟩
  have hl := len _ _ _ _ hsp
  have KX : K.In s.heap := e0.mod.kin.keeps fun b o e => (e0.bs b o e).1
  have lim : s.heap.NoLimit := e0.mod.nolimit.keeps fun b o e => (e0.bs b o e).1
  have hkind : ∀ y ∈ ps.zip us, scope.names.lookup y.1 = some .local ∨ (scope.names.lookup y.1 = some .cell ∧ ((cellsFrom (s.heap.objs.size + 1) scope.names []).lookup y.1).isSome = true) := fun ⟨n, v⟩ hy => by
    rcases S.par n (List.of_mem_zip hy).1 with q | q
    · exact .inl q
    · exact .inr ⟨q, PySem.W.cellsFrom_some _ _ _ (.inl q)⟩
  refine codeAny_call_function hr.depth (KX _ _ lk) rfl S.co S.gen rfl (PySem.W.codeRec_of KX hcd) (hb _ _ _ _ ?_)
  refine wpAny_newFunctionEnv_cells S.kind hkind fun env he s1 x => ?_
  subst he
  refine ⟨lim.keeps x.toInCall.keep, codeAny_func ?_⟩
  obtain ⟨t, ht, hq⟩ := hbody A outer s H vs Q E (hr.deeper _) hsp
  have I : Inv (cxOf CX P w K mg base N qual scope f cdv A outer s H E) [] (start N vs) H s1 := inv_start S (fun _ => hr.hd) e0 hl r x
  refine wpAny_mono (ht [] s1 (start N vs) H _ I hq) (fun fl s' hs => ?_) fun e s' hs => hs
  have fin : ∀ {σ' : St} {H' : Hp} {v : V} {u : Value}, Inv (cxOf CX P w K mg base N qual scope f cdv A outer s H E) [] σ' H' s' → RelV v u → Q v H' → CE outer P w H s Q u s' :=
    fun {σ' H' v u} J rv q => ⟨v, H', J.os, J.bare, J.base, J.hok, rv, q⟩
  cases fl with
  | ret u =>
    obtain ⟨v, σ', H', J, rv, q⟩ := hs
    exact fin J rv q
  | next =>
    obtain ⟨σ', H', J, q⟩ := hs
    exact fin (v := V.non) (u := Value.none) J rfl q
  | brk =>
    obtain ⟨_, _, _, q⟩ := hs
    exact False.elim q
  | cont =>
    obtain ⟨_, _, _, q⟩ := hs
    exact False.elim q
structure RoomQ (k : Nat) (A : Around) : Prop where
  dp : A.depth + 3 * k + 5 < recursionLimit
  un : A.units + 16 * k + 200 < cLine
theorem Room.q {k : Nat} {A : Around} (r : Room k A) : RoomQ k A := ⟨r.dp, r.un⟩
theorem RoomQ.mono {j k : Nat} {A : Around} (r : RoomQ k A) (h : j ≤ k) : RoomQ j A := ⟨by have := r.dp; omega, by have := r.un; omega⟩
theorem RoomQ.deeper {k : Nat} {A : Around} (r : RoomQ (k + 1) A) (env : Env) : RoomQ k (A.deeper env) :=
  ⟨by have := r.dp; show A.depth + 1 + 3 * k + 5 < _; omega, by have := r.un; show A.units + 3 + 16 * k + 200 < _; omega⟩
theorem RoomQ.depth {k : Nat} {A : Around} (r : RoomQ k A) : A.depth < recursionLimit := by have := r.dp; omega
theorem RoomQ.units {k : Nat} {A : Around} (r : RoomQ k A) : A.units + 64 < cLine := by have := r.un; omega
structure FnOkQ (P : Program) (w : World) (K : PySem.W.Frag) (mg : Str → Option Value) (base : Heap) (CX : CXT) (k : Nat) (f : Addr) (fd : FuncData) (ps : List Str) (sp : Sp) : Prop where
  len : ∀ vs H Q E, sp vs H Q E → vs.length = ps.length
  run : ∀ (A : Around) (outer : List Env) (s : Shared) (H : Hp) (args : Args) (us : List Value) (vs : List V) (Q : VK) (E : XK), RoomQ k A → Env0 P w K mg base A outer s H → BindsTo s fd args (ps.zip us) → Vals vs us → sp vs H Q E →
    codeAny (model P w) A (.call (.ref f) args) (CR CX outer P w H s Q E) s
section
variable {X : Cx} {x : Str} {p pos : Pos} {e : Expr} {es : List Expr} {t : TA} {id T : String} {r : List V → Hp → VK → Prop}
noncomputable def tCB (r : List V → Hp → VK → Prop) (t : TA) : TE := fun σ H Q => t σ H fun vs H1 => r vs H1 Q
theorem pe_callB (hc : CallR X (.builtin id) r) (hg : Gl X x) (hm : X.mg x = none) (hv : bootBuiltins x = some (.builtin id)) (ha : PA X (e :: es) t) (hn : x ≠ "__name__" := by decide) (hdb : (x == ("__debug__" : Str)) = false := by decide)
    (he : starEach (e :: es) X.env = (false, eval e X.env) :: starEach es X.env := by rfl) (hpl : (backTo pos (starEach es X.env)).any (·.1) = false := by rfl) : PE X (.Call (.Name x p) (e :: es) [] pos) (tCB r t) := by
  intro pins s σ H Q I h
  refine wpAny_Call_Name_kw (ld_blt I hg hm hv ?_ hn hdb)
  exact PyProof.Rows.callWith_builtin1 (thn (ha pos pins s σ H _ I h) fun us s1 ⟨vs, H1, I1, r1, q1⟩ => hc pins s1 σ H1 vs us Q I1 r1 q1) he hpl
theorem pe_callTy (hc : CallR X (.type T) r) (hg : Gl X x) (hm : X.mg x = none) (hv : bootBuiltins x = some (.type T)) (ha : PA X (e :: es) t) (hn : x ≠ "__name__" := by decide) (hdb : (x == ("__debug__" : Str)) = false := by decide)
    (he : starEach (e :: es) X.env = (false, eval e X.env) :: starEach es X.env := by rfl) (hpl : (backTo pos (starEach es X.env)).any (·.1) = false := by rfl) : PE X (.Call (.Name x p) (e :: es) [] pos) (tCB r t) := by
  intro pins s σ H Q I h
  refine wpAny_Call_Name_kw (ld_blt I hg hm hv ?_ hn hdb)
  exact PyProof.Rows.callWith_type1 (thn (ha pos pins s σ H _ I h) fun us s1 ⟨vs, H1, I1, r1, q1⟩ => hc pins s1 σ H1 vs us Q I1 r1 q1) he hpl
end
end L2
namespace HT
open PySem PyProof.Rows
noncomputable def lexLt : List Int → List Int → Bool
  | [], [] => false
  | [], _ :: _ => true
  | _ :: _, [] => false
  | x :: xs, y :: ys => if x = y then lexLt xs ys else decide (x < y)
section
open PySem.SeqAt
open PySem.AutoSeq1 (wpAny_loadPart')
open PySem.MeetsSeq PySem.MeetsSeq2 PySem.MeetsSeq3
end
section
variable {prog : Program} {w : World} {A : Around} {E : Value → Shared → Prop} {s : Shared}
theorem cat_tup {t b : Addr} {vs ws : List Value} {Q : Value → Shared → Prop} (ht : IsTup s.heap t vs.toArray) (hb : IsTup s.heap b ws.toArray) (hv : vs ≠ [])
    (h1 : ws = [] → Q (.ref t) s) (h2 : ws ≠ [] → Q (.ref s.heap.objs.size) { s with heap := s.heap.push { cls := .type "tuple", data := .seq (vs ++ ws).toArray } })
    (hsz : vs.length + ws.length ≤ sizeLine) : wpAny (model prog w) A (binaryOp .Add (.ref t) (.ref b)) Q E s := by
  obtain ⟨⟨cls, dd, data, sl⟩, ho, hc, n, hd⟩ := id ht
  obtain ⟨⟨cls2, dd2, data2, sl2⟩, ho2, hc2, n2, hd2⟩ := id hb
  simp only at hc hd hc2 hd2
  subst hc hd hc2 hd2
  have e : vs.toArray ++ ws.toArray = (vs ++ ws).toArray := by simp
  by_cases hw : ws = []
  · exact concat_meets ⟨_, ho, rfl⟩ ⟨_, ho2, rfl⟩ noFill_tuple_add seq_tuple_add PySem.F.slot_tuple_add PySem.F.entry_tuple_add (PySem.F.args_tuple_add_2 _ _)
      (tuple_addW1 t b vs.toArray ws.toArray n n2 dd dd2 sl sl2 (by simpa using hv) (by simp [hw])) ⟨ho, ho2, h1 hw⟩
  · refine concat_meets ⟨_, ho, rfl⟩ ⟨_, ho2, rfl⟩ noFill_tuple_add seq_tuple_add PySem.F.slot_tuple_add PySem.F.entry_tuple_add (PySem.F.args_tuple_add_2 _ _)
      (tuple_addW2 t b vs.toArray ws.toArray n n2 dd dd2 sl sl2 (by simpa using hv) (by simpa using hw) (by rw [List.size_toArray, List.size_toArray]; exact hsz)) ⟨ho, ho2, ?_⟩
    rw [e]
    exact h2 hw
noncomputable def sIx (n d : Nat) : Option Int → Nat
  | none => d
  | some v => if v < 0 then (v + (n : Int)).toNat else min v.toNat n
theorem sIx_le (n d : Nat) (hd : d ≤ n) (o : Option Int) : sIx n d o ≤ n := by
  cases o with
  | none => exact hd
  | some v =>
    show (if v < 0 then (v + (n : Int)).toNat else min v.toNat n) ≤ n
    by_cases hv : v < 0
    · rw [if_pos hv]; omega
    · rw [if_neg hv]; exact Nat.min_le_right _ _
theorem clip_eq (v : Int) (n d : Nat) : (if v < 0 then max (v + (n : Int)) 0 else min v (n : Int)) = ((sIx n d (some v) : Nat) : Int) := by
  show (if v < 0 then max (v + (n : Int)) 0 else min v (n : Int)) = (((if v < 0 then (v + (n : Int)).toNat else min v.toNat n) : Nat) : Int)
  by_cases hv : v < 0
  · simp only [if_pos hv]; omega
  · simp only [if_neg hv]; omega
theorem adjust_gen (lo hi : Option Int) (n : Nat) : Builtin.Slice.sliceAdjust lo hi 1 (n : Int) = (((sIx n 0 lo : Nat) : Int), ((sIx n n hi : Nat) : Int)) := by
  have h1 : ¬ ((1 : Int) < 0) := by omega
  unfold Builtin.Slice.sliceAdjust
  simp only [h1, if_false]
  refine Prod.ext ?_ ?_
  · cases lo with
    | none => rfl
    | some v => exact clip_eq v n 0
  · cases hi with
    | none => rfl
    | some v => exact clip_eq v n n
theorem places_gen (i j : Nat) : Builtin.Slice.slicePlaces (i : Int) (j : Int) 1 = j - i := by
  unfold Builtin.Slice.slicePlaces
  have h1 : (1 : Int) > 0 := by omega
  simp only [h1, if_true, Int.ediv_one]
  split <;> omega
theorem slicePart_ {v : Value} {o : Option Int} {Q : Option Int → Shared → Prop} (p : IsPart v o) (h : Q o s) : wpAny (model prog w) A (Builtin.Slice.slicePartIndex v) Q E s := by
  cases p with
  | none => exact slicePart_none h
  | int i t => exact slicePart_int h
theorem sliceApplied_gen {sl : Addr} {vl vu : Value} {lo hi : Option Int} {n : Nat} {Q : Int × Int × Nat → Shared → Prop} (hs : s.heap.IsSliceOf sl vl vu .none) (pl : IsPart vl lo) (pu : IsPart vu hi)
    (h : Q (((sIx n 0 lo : Nat) : Int), 1, sIx n n hi - sIx n 0 lo) s) : wpAny (model prog w) A (Builtin.Slice.sliceApplied (.ref sl) (pure (n : Int))) Q E s := by
  obtain ⟨os, hos, hcs, hds⟩ := id hs
  unfold Builtin.Slice.sliceApplied Builtin.Slice.sliceFields
  refine wpAny_bind (wpAny_bind (wpAny_field hos hds (x := vl) rfl (wpAny_bind (wpAny_field hos hds (x := vu) rfl (wpAny_bind (wpAny_field hos hds (x := .none) rfl (wpAny_pure ?_)))))))
  refine wpAny_bind (slicePart_none ?_)
  show wpAny _ _ (if ((1 : Int) == 0) = true then _ else _) _ _ s
  rw [if_neg (by decide)]
  refine wpAny_bind (slicePart_ pl (wpAny_bind (slicePart_ pu (wpAny_bind (wpAny_pure ?_)))))
  show wpAny _ _ (match Builtin.Slice.sliceAdjust lo hi 1 (n : Int) with | (lo, hi) => pure (lo, (1 : Int), Builtin.Slice.slicePlaces lo hi 1)) _ _ s
  rw [adjust_gen lo hi n]
  show wpAny _ _ (pure (((sIx n 0 lo : Nat) : Int), (1 : Int), Builtin.Slice.slicePlaces ((sIx n 0 lo : Nat) : Int) ((sIx n n hi : Nat) : Int) 1)) _ _ s
  rw [places_gen]
  exact wpAny_pure h
theorem pick_gen (xs : Array Value) (i k : Nat) : ((List.range k).filterMap fun (m : Nat) => xs[((i : Int) + (m : Int) * 1).toNat]?).toArray = ((xs.toList.drop i).take k).toArray := by
  have e : (fun (m : Nat) => xs[((i : Int) + (m : Int) * 1).toNat]?) = fun m => xs[i + m]? := by
    funext m
    have : ((i : Int) + (m : Int) * 1).toNat = i + m := by omega
    rw [this]
  rw [e]
  have := pick_run xs i k
  rw [List.filterMap_map] at this
  have e2 : ((fun x => xs[x]?) ∘ fun x => i + x) = fun m => xs[i + m]? := rfl
  rw [e2] at this
  rw [this]
theorem getItem_tuple_cut {t sl : Addr} {items : Array Value} {vl vu : Value} {lo hi : Option Int} {Q : Value → Shared → Prop} (ht : IsTup s.heap t items) (hs : s.heap.IsSliceOf sl vl vu .none) (pl : IsPart vl lo) (pu : IsPart vu hi)
    (hw : ¬ (sIx items.size 0 lo = 0 ∧ sIx items.size items.size hi = items.size))
    (h : Q (.ref s.heap.objs.size) { s with heap := s.heap.push { cls := .type "tuple", data := .seq ((items.toList.drop (sIx items.size 0 lo)).take (sIx items.size items.size hi - sIx items.size 0 lo)).toArray } })
    (hsz : items.size ≤ sizeLine) : wpAny (model prog w) A (getItem (.ref t) (.ref sl)) Q E s := by
  have htake : sizeOk (.seq ((items.toList.drop (sIx items.size 0 lo)).take (sIx items.size items.size hi - sIx items.size 0 lo)).toArray) := by
    show ((items.toList.drop (sIx items.size 0 lo)).take (sIx items.size items.size hi - sIx items.size 0 lo)).toArray.size ≤ sizeLine
    rw [List.size_toArray, List.length_take, List.length_drop, Array.length_toList]
    omega
  have hj : sIx items.size items.size hi ≤ items.size := sIx_le _ _ (Nat.le_refl _) hi
  obtain ⟨os, hos, hcs, hds⟩ := id hs
  have hTs : s.TypeIs (.ref sl) "slice" := ⟨os, hos, hcs⟩
  unfold getItem
  try with_reducible refine wpAny_holding ?_
  first | refine wpAny_bind (wpAny_pure ?_) | skip
  refine wpAny_bind (wpAny_sequenceKey ht.typeIs (by decide) ?_)
  refine wpAny_bind (wpAny_callSpecial?_slot (name := Str.ofString "__getitem__") ht.typeIs PyProof.Rows.slot_tuple_getitem
    (wpAny_call_entry PyProof.Rows.slot_tuple_getitem ht.typeIs entry_tuple_getitem ?_ (args_tuple_getitem _ _)))
  show wpAny _ _ (Builtin.Tuple.tupleItemsOf (.ref t) >>= _) _ _ s
  refine wpAny_bind (tupleItemsOf_ ht ?_)
  refine wpAny_bind (wpAny_typeOf hTs ?_)
  rw [if_pos (by decide)]
  refine wpAny_bind (sliceApplied_gen hs pl pu ?_)
  have hno : ¬ ((((sIx items.size 0 lo : Nat) : Int) == 0 && (1 : Int) == 1 && (sIx items.size items.size hi - sIx items.size 0 lo) == items.size) = true) := by
    intro q
    rw [Bool.and_eq_true, Bool.and_eq_true] at q
    have q1 : ((sIx items.size 0 lo : Nat) : Int) = 0 := eq_of_beq q.1.1
    have q2 : sIx items.size items.size hi - sIx items.size 0 lo = items.size := eq_of_beq q.2
    exact hw ⟨by omega, by omega⟩
  show wpAny _ _ (if (((sIx items.size 0 lo : Nat) : Int) == 0 && (1 : Int) == 1 && (sIx items.size items.size hi - sIx items.size 0 lo) == items.size) = true then _ else _) _ _ s
  rw [if_neg hno, pick_gen]
  first
    | exact wpAny_bind (m := Builtin.Tuple.tupleExact _) (wpAny_newObj_type (wpAny_pure ⟨_, rfl, wpAny_pure h⟩) htake)
    | exact wpAny_bind (m := Builtin.Tuple.tupleExact _) (wpAny_newObj_type (wpAny_bind (wpAny_pure (wpAny_pure ⟨_, rfl, wpAny_pure h⟩))) htake)
    | exact wpAny_bind (wpAny_bind (m := Builtin.Tuple.tupleExact _) (wpAny_newObj_type (wpAny_pure (wpAny_pure ⟨_, rfl, wpAny_pure h⟩)) htake))
    | exact wpAny_bind (wpAny_bind (m := Builtin.Tuple.tupleExact _) (wpAny_newObj_type (wpAny_pure ⟨_, rfl, wpAny_pure h⟩) htake))
end
end HT
namespace L2
open PySem PySem.Spec PyProof.Rows
noncomputable abbrev TO := St → Hp → (Option Int → Hp → Prop) → Prop
noncomputable def PO (X : Cx) (e : Option Expr) (t : TO) : Prop :=
  ∀ (pins : List (Addr × Obj)) (s : Shared) (σ : St) (H : Hp) (Q : Option Int → Hp → Prop), Inv X pins σ H s → t σ H Q →
    wpAny (model X.prog X.w) X.A (evalPart e X.env) (fun u s' => ∃ o H', Inv X pins σ H' s' ∧ IsPart u o ∧ Q o H') X.xe s
noncomputable def tNoPart : TO := fun _ H Q => Q none H
noncomputable def tPart (t : TE) : TO := fun σ H Q => t σ H fun x H1 => ∃ i, x = .int i ∧ Q (some i) H1
section
variable {X : Cx} {e : Expr} {te : TE} {lo hi : Option Expr} {tl th : TO} {pos p2 : Pos}
theorem po_none : PO X none tNoPart := by
  intro pins s σ H Q I h
  rw [evalPart_none]
  exact wpAny_pure ⟨none, H, I, .none, h⟩
theorem po_some (h : PE X e te) : PO X (some e) (tPart te) := by
  intro pins s σ H Q I hw
  rw [evalPart_some]
  refine thn (h pins s σ H _ I hw) fun u s1 ⟨x, H1, I1, r1, q1⟩ => ?_
  obtain ⟨i, rfl, q⟩ := q1
  obtain ⟨t, rfl⟩ := r1
  exact ⟨some i, H1, I1, .int i t, q⟩
noncomputable def SlR (X : Cx) (r : V → Option Int → Option Int → Hp → VK → Prop) : Prop :=
  ∀ (pins : List (Addr × Obj)) (s : Shared) (σ : St) (H : Hp) (x : V) (v vl vu : Value) (lo hi : Option Int) (sl : Addr) (Q : VK), Inv X pins σ H s → RelV x v → s.heap.IsSliceOf sl vl vu .none → IsPart vl lo → IsPart vu hi → r x lo hi H Q →
    ∃ T id, typeLookup (.type T) "__getitem__" = pure (some (.builtin id)) ∧ s.TypeIs v T ∧ wpAny (model X.prog X.w) X.A (getItem v (.ref sl)) (EP X pins σ Q) X.xe s
theorem SlR.or {r r' : V → Option Int → Option Int → Hp → VK → Prop} (h : SlR X r) (h' : SlR X r') : SlR X (fun x lo hi H Q => r x lo hi H Q ∨ r' x lo hi H Q) := by
  intro pins s σ H x v vl vu lo hi sl Q I rx hs pl pu q
  rcases q with q | q
  · exact h pins s σ H x v vl vu lo hi sl Q I rx hs pl pu q
  · exact h' pins s σ H x v vl vu lo hi sl Q I rx hs pl pu q
noncomputable def tSl (r : V → Option Int → Option Int → Hp → VK → Prop) (te : TE) (tl th : TO) : TE := fun σ H Q => te σ H fun x H1 => tl σ H1 fun l H2 => th σ H2 fun u H3 => r x l u H3 Q
theorem pe_slice {r : V → Option Int → Option Int → Hp → VK → Prop} (hr : SlR X r) (he : PE X e te) (hl : PO X lo tl) (hu : PO X hi th) : PE X (.Subscript e (.Slice lo hi none p2) pos) (tSl r te tl th) := by
  intro pins s σ H Q I h
  refine Subscript_ (thn (he pins s σ H _ I h) fun v s1 ⟨x, H1, I1, r1, q1⟩ => ?_)
  refine wpAny_Slice (thn (hl pins s1 σ H1 _ I1 q1) fun vl s2 ⟨l, H2, I2, pl, q2⟩ => thn (hu pins s2 σ H2 _ I2 q2) fun vu s3 ⟨u, H3, I3, pu, q3⟩ => ?_)
  rw [evalPart_none]
  refine wpAny_pure ?_
  have I4 : Inv X pins σ H3 { s3 with heap := s3.heap.push { cls := .type "slice", data := .fields #[vl, vu, .none] } } := I3.kept (t' := s3.toks) fun b ob q => Heap.get?_push_of_some _ q
  obtain ⟨T, id, hT, ht, hg⟩ := hr pins { s3 with heap := s3.heap.push { cls := .type "slice", data := .fields #[vl, vu, .none] } } σ H3 x v vl vu l u s3.heap.objs.size Q I4 r1 (Heap.IsSliceOf.new ..) pl pu q3
  show wpAny (model X.prog X.w) X.A (subscriptTail e (.Slice lo hi none p2) v (.ref s3.heap.objs.size)) (EP X pins σ Q) X.xe { s3 with heap := s3.heap.push { cls := .type "slice", data := .fields #[vl, vu, .none] } }
  exact tail_any (ops := [.ref s3.heap.objs.size, v]) ht hT hg (by with_unfolding_all rfl)
noncomputable def cutV (xs : List V) (lo hi : Option Int) : List V := (xs.drop (HT.sIx xs.length 0 lo)).take (HT.sIx xs.length xs.length hi - HT.sIx xs.length 0 lo)
theorem cutV_length (xs : List V) (lo hi : Option Int) : (cutV xs lo hi).length ≤ xs.length := by
  unfold cutV
  rw [List.length_take, List.length_drop]
  omega
noncomputable def rSlT (K : PySem.W.Frag) : V → Option Int → Option Int → Hp → VK → Prop := fun x lo hi H Q => ∃ a xs, x = .ref a ∧ SqT K H a xs ∧
  ¬ (HT.sIx xs.length 0 lo = 0 ∧ HT.sIx xs.length xs.length hi = xs.length) ∧ ∀ p, H p = none → Q (.ref p) (upd H p (.tup (cutV xs lo hi)))
theorem sl_tup : SlR X (rSlT X.K) := by
  intro pins s σ H x v vl vu lo hi sl Q I rx hs pl pu h
  obtain ⟨a, xs, rfl, hx, hw, q⟩ := h
  cases rx
  obtain ⟨its, r, ht, hz⟩ := I.tuple hx
  have hlen : its.toArray.size = xs.length := by rw [List.size_toArray]; exact r.length.symm
  refine ⟨"tuple", _, PyProof.Rows.slot_tuple_getitem.lookup, ht.typeIs, ?_⟩
  refine HT.getItem_tuple_cut ht hs pl pu (by rw [hlen]; exact hw) ?_ (by rw [hlen]; exact hz)
  rw [hlen]
  refine ⟨.ref s.heap.objs.size, _, I.laid (t' := s.toks) (o := .tup (cutV xs lo hi)) (fun b ob q => Heap.get?_push_of_some _ q) (Nat.le_refl _) ?_, rfl, q _ (I.hok.fresh (Nat.le_refl _))⟩
  exact ⟨Nat.le_trans (cutV_length xs lo hi) hz, _, (r.drop (HT.sIx xs.length 0 lo)).take (HT.sIx xs.length xs.length hi - HT.sIx xs.length 0 lo), IsTup.new _ _⟩
noncomputable def rLtT (K : PySem.W.Frag) : R2 := fun x y H Q => ∃ a b ns ms, x = .ref a ∧ y = .ref b ∧ SqT K H a (ns.map V.int) ∧ SqT K H b (ms.map V.int) ∧ Q (.bl (HT.lexLt ns ms)) H
noncomputable def rCatT (K : PySem.W.Frag) : R2 := fun x y H Q => ∃ a b xs ys, x = .ref a ∧ y = .ref b ∧ SqT K H a xs ∧ SqT K H b ys ∧ xs ≠ [] ∧ xs.length + ys.length ≤ sizeLine ∧
  (ys = [] → Q (.ref a) H) ∧ (ys ≠ [] → ∀ p, H p = none → Q (.ref p) (upd H p (.tup (xs ++ ys))))
theorem Vals.nil_iff {xs : List V} {us : List Value} (r : Vals xs us) : us = [] ↔ xs = [] := by
  cases r with
  | nil => simp
  | cons _ _ => simp
theorem op_catT : OpR X (binaryOp .Add) (rCatT X.K) := by
  intro pins s σ H x y v u Q I rx ry h
  obtain ⟨a, b, xs, ys, rfl, rfl, ha, hb, hx, hz, q1, q2⟩ := h
  cases rx
  cases ry
  obtain ⟨its, r1, p1, _⟩ := I.tuple ha
  obtain ⟨its2, r2, p2, _⟩ := I.tuple hb
  refine HT.cat_tup p1 p2 (fun z => hx (r1.nil_iff.mp z)) (fun z => ⟨.ref a, H, I, rfl, q1 (r2.nil_iff.mp z)⟩) (fun z => ?_) (by rw [← r1.length, ← r2.length]; exact hz)
  refine ⟨.ref s.heap.objs.size, _, I.laid (t' := s.toks) (o := .tup (xs ++ ys)) (fun b ob q => Heap.get?_push_of_some _ q) (Nat.le_refl _) ?_, rfl, q2 (fun w => z (r2.nil_iff.mpr w)) _ (I.hok.fresh (Nat.le_refl _))⟩
  exact ⟨by rw [List.length_append]; exact hz, _, r1.append r2, IsTup.new _ _⟩
end
noncomputable def ixN (n : Nat) (i : Int) : Option Nat := if 0 ≤ i then (if i < n then some i.toNat else none) else if -(n : Int) ≤ i then some (i + n).toNat else none
noncomputable def atI {α : Type} (xs : List α) (i : Int) : Option α := (ixN xs.length i).bind fun j => xs[j]?
theorem ixN_seq {n : Nat} {i : Int} {j : Nat} (h : ixN n i = some j) : seqIndex? i n = some j ∧ j < n ∧ -(n : Int) ≤ i ∧ i < n := by
  unfold ixN at h
  by_cases h0 : 0 ≤ i
  · rw [if_pos h0] at h
    by_cases h1 : i < n
    · rw [if_pos h1] at h
      have e : i.toNat = j := Option.some.inj h
      exact ⟨by rw [seqIndex_of h0 h1, e], by omega, by omega, h1⟩
    · rw [if_neg h1] at h; cases h
  · rw [if_neg h0] at h
    by_cases h1 : -(n : Int) ≤ i
    · rw [if_pos h1] at h
      have e : (i + n).toNat = j := Option.some.inj h
      exact ⟨by rw [seqIndex_neg (by omega) h1, e], by omega, h1, by omega⟩
    · rw [if_neg h1] at h; cases h
theorem atI_get {α : Type} {xs : List α} {i : Int} {v : α} (h : atI xs i = some v) : ∃ j, seqIndex? i xs.length = some j ∧ xs[j]? = some v ∧ j < xs.length ∧ -(xs.length : Int) ≤ i ∧ i < xs.length := by
  unfold atI at h
  cases e : ixN xs.length i with
  | none => rw [e] at h; cases h
  | some j =>
    rw [e] at h
    obtain ⟨h1, h2, h3, h4⟩ := ixN_seq e
    exact ⟨j, h1, h, h2, h3, h4⟩
theorem atI_nat {α : Type} {xs : List α} {j : Nat} {v : α} (h : xs[j]? = some v) : atI xs (j : Int) = some v := by
  have hj : j < xs.length := (List.getElem?_eq_some_iff.mp h).1
  have e : ixN xs.length (j : Int) = some j := by
    unfold ixN
    rw [if_pos (by omega), if_pos (by omega)]; simp
  unfold atI; rw [e]; exact h
noncomputable def PlainIx (b : Expr) : Prop := ∀ o i, subscripted b false o i = operate [o, i] (getItem o i)
noncomputable def IxR (X : Cx) (r : R2) : Prop :=
  ∀ (value slice : Expr) (pins : List (Addr × Obj)) (s : Shared) (σ : St) (H : Hp) (x y : V) (v u : Value) (Q : VK), Inv X pins σ H s → RelV x v → RelV y u → r x y H Q →
    subscripted slice false v u = operate [v, u] (getItem v u) → wpAny (model X.prog X.w) X.A (subscriptTail value slice v u) (EP X pins σ Q) X.xe s
noncomputable def MtR (X : Cx) (id : String) (r : V → List V → Hp → VK → Prop) : Prop :=
  ∀ (pins : List (Addr × Obj)) (s : Shared) (σ : St) (H : Hp) (x : V) (xs : List V) (v : Value) (us : List Value) (Q : VK), Inv X pins σ H s → RelV x v → Vals xs us → r x xs H Q →
    wpAny (model X.prog X.w) X.A (call (.builtin id) (v :: us)) (EP X pins σ Q) X.xe s
section
variable {X : Cx} {a b : Expr} {ta tb : TE} {pos : Pos}
theorem IxR.or {r r' : R2} (h : IxR X r) (h' : IxR X r') : IxR X (fun x y H Q => r x y H Q ∨ r' x y H Q) := by
  intro value slice pins s σ H x y v u Q I rx ry q hs
  rcases q with q | q
  · exact h value slice pins s σ H x y v u Q I rx ry q hs
  · exact h' value slice pins s σ H x y v u Q I rx ry q hs
theorem MtR.or {id : String} {r r' : V → List V → Hp → VK → Prop} (h : MtR X id r) (h' : MtR X id r') : MtR X id (fun x xs H Q => r x xs H Q ∨ r' x xs H Q) := by
  intro pins s σ H x xs v us Q I rx rs q
  rcases q with q | q
  · exact h pins s σ H x xs v us Q I rx rs q
  · exact h' pins s σ H x xs v us Q I rx rs q
theorem pe_ix {r : R2} (hr : IxR X r) (ha : PE X a ta) (hb : PE X b tb) (hs : PlainIx b) : PE X (.Subscript a b pos) (tOp r ta tb) := by
  intro pins s σ H Q I h
  exact Subscript_ (binT ha hb I h fun v u s2 x y H2 I2 rx ry q => hr a b pins s2 σ H2 x y v u Q I2 rx ry q (hs _ _))
noncomputable def rIxL (K : PySem.W.Frag) : R2 := fun x y H Q => ∃ p xs i v, x = .ref p ∧ y = .int i ∧ SqL K H p xs ∧ atI xs i = some v ∧ Q v H
noncomputable def rIxT (K : PySem.W.Frag) : R2 := fun x y H Q => ∃ p xs i v, x = .ref p ∧ y = .int i ∧ SqT K H p xs ∧ atI xs i = some v ∧ Q v H
noncomputable def rIxS : R2 := fun x y H Q => ∃ z i c, x = .str z ∧ y = .int i ∧ z.length ≤ sizeLine ∧ atI z.cps.toList i = some c ∧ Q (.str ⟨#[c]⟩) H
theorem ix_list : IxR X (rIxL X.K) := by
  intro value slice pins s σ H x y v u Q I rx ry h hs
  obtain ⟨p, xs, i, z, rfl, rfl, hq, he, q⟩ := h
  cases rx
  obtain ⟨t, rfl⟩ := ry
  obtain ⟨its, r, pl, hz⟩ := I.list hq
  obtain ⟨j, h1, h2, h3, h4, h5⟩ := atI_get he
  obtain ⟨w, ew, rw'⟩ := r.get h2
  have hl := r.length
  have hn := line63
  have fin : EP X pins σ Q w s := ⟨z, H, I, rw', q⟩
  by_cases h0 : 0 ≤ i
  · have hj : i.toNat = j := by
      rw [seqIndex_of h0 h5] at h1
      exact Option.some.inj h1
    exact item_listR pl.isList h0 (by omega) (by rw [hj]; simpa using ew) fin hs
  · have hj : (i + (its.toArray.size : Int)).toNat = j := by
      rw [seqIndex_neg (by omega) h4] at h1
      rw [List.size_toArray, ← hl]
      exact Option.some.inj h1
    exact subscriptTail_builtinR (x := w) pl.isList.typeIs slot_list_getitem.lookup
      (wpAny_getItem_list_neg (Q := fun r s' => r = w ∧ EP X pins σ Q r s') pl.isList (by omega) (by rw [List.size_toArray] <;> omega) (by omega) (by rw [hj]; simpa using ew) ⟨rfl, fin⟩) hs
theorem ix_tup : IxR X (rIxT X.K) := by
  intro value slice pins s σ H x y v u Q I rx ry h hs
  obtain ⟨p, xs, i, z, rfl, rfl, hq, he, q⟩ := h
  cases rx
  obtain ⟨t, rfl⟩ := ry
  obtain ⟨its, r, pl, hz⟩ := I.tuple hq
  obtain ⟨j, h1, h2, h3, h4, h5⟩ := atI_get he
  obtain ⟨w, ew, rw'⟩ := r.get h2
  have hl := r.length
  have hn := line63
  have fin : EP X pins σ Q w s := ⟨z, H, I, rw', q⟩
  exact subscriptTail_builtinR (x := w) pl.typeIs slot_tuple_getitem.lookup
    (getItem_tuple (j := j) (Q := fun r s' => r = w ∧ EP X pins σ Q r s') pl (by omega) (by omega) (by rw [List.size_toArray, ← hl]; exact h1) (by simpa using ew) ⟨rfl, fin⟩) hs
theorem ix_str : IxR X rIxS := by
  intro value slice pins s σ H x y v u Q I rx ry h hs
  obtain ⟨z, i, c, rfl, rfl, hz, he, q⟩ := h
  obtain ⟨t, rfl⟩ := rx
  obtain ⟨t', rfl⟩ := ry
  obtain ⟨j, h1, h2, h3, h4, h5⟩ := atI_get he
  have hl : z.cps.toList.length = z.length := by simp [Str.length]
  rw [hl] at h1 h4 h5
  have hn := line63
  exact tail_any (typeIs_str s z t) slot_str_getitem.lookup (getItem_str (c := c) (by
    have e1 : decide (i < -(2 ^ 63 : Int)) = false := decide_eq_false (by omega)
    have e2 : decide (i ≥ 2 ^ 63) = false := decide_eq_false (by omega)
    rw [e1, e2, Bool.or_false]) (by rw [h1]; simpa using h2) ⟨.str ⟨#[c]⟩, H, I.tok _, ⟨_, rfl⟩, q⟩) hs
noncomputable def rIx (K : PySem.W.Frag) : R2 := fun x y H Q => rIxL K x y H Q ∨ rIxT K x y H Q ∨ rIxS x y H Q
theorem ix_seq : IxR X (rIx X.K) := ix_list.or (ix_tup.or ix_str)
theorem mapSeq_set (its : List Value) (n j : Nat) (u : Value) : Obj.mapSeq (·.setIfInBounds j u) { cls := .type "list", data := .seq its.toArray n } = { cls := .type "list", data := .seq (its.set j u).toArray n } := by
  simp [Obj.mapSeq]
theorem Inv.lst {pins : List (Addr × Obj)} {σ : St} {H : Hp} {s : Shared} {p : Addr} {xs : List V} (I : Inv X pins σ H s) (h : H p = some (.lst xs)) :
    ∃ (its : List Value) (n : Nat), Vals xs its ∧ s.heap.get? p = some { cls := .type "list", data := .seq its.toArray n } ∧ xs.length ≤ sizeLine := by
  obtain ⟨z, its, n, r, e⟩ := I.hok p _ h
  exact ⟨its, n, r, e, z⟩
theorem Inv.lstUpd {pins : List (Addr × Obj)} {σ : St} {H : Hp} {s : Shared} {p : Addr} {xs ys : List V} {its its' : List Value} {n n' : Nat} {f : Obj → Obj} (I : Inv X pins σ H s) (h : H p = some (.lst xs))
    (ho : s.heap.get? p = some { cls := .type "list", data := .seq its.toArray n }) (hf : f { cls := .type "list", data := .seq its.toArray n } = { cls := .type "list", data := .seq its'.toArray n' }) (r : Vals ys its') (hz : ys.length ≤ sizeLine) (t : Nat) :
    Inv X pins σ (upd H p (.lst ys)) { s with heap := s.heap.update p f, toks := t } := by
  have e : (s.heap.update p f).get? p = some { cls := .type "list", data := .seq its'.toArray n' } := by
    rw [Heap.get?_update_self f ho (by rw [hf] <;> rfl), hf]
  refine I.write (x := p) (e := p) (by rw [h]; trivial) (.inl rfl) (fun b u hb q => (Heap.get?_update_other _ _ (Ne.symm hb)).trans q) ⟨_, e⟩ ?_
  exact ⟨hz, its', n', r, e⟩
noncomputable def rSetL : V → V → V → Hp → (Hp → Prop) → Prop := fun o i v H Q => ∃ p xs k j, o = .ref p ∧ i = .int k ∧ H p = some (.lst xs) ∧ ixN xs.length k = some j ∧ Q (upd H p (.lst (xs.set j v)))
theorem set_list : PSet X rSetL := by
  intro pins s σ H o i v ov iv u Q I ro ri rv h
  obtain ⟨p, xs, k, j, rfl, rfl, hp, hj, q⟩ := h
  cases ro
  obtain ⟨t, rfl⟩ := ri
  obtain ⟨its, n, r, ho, hz⟩ := I.lst hp
  obtain ⟨h1, h2, h3, h4⟩ := ixN_seq hj
  have hl := r.length
  have hn := line63
  have I' : Inv X pins σ (upd H p (.lst (xs.set j v))) { s with heap := s.heap.update p (Obj.mapSeq (·.setIfInBounds j u)) } :=
    I.lstUpd hp ho (mapSeq_set its n j u) (r.set rv j) (by rw [List.length_set]; exact hz) s.toks
  by_cases h0 : 0 ≤ k
  · have hk : k.toNat = j := by
      rw [seqIndex_of h0 h4] at h1
      exact Option.some.inj h1
    exact PySem.W.ki_setAt ho h0 (by omega) (by rw [List.size_toArray, ← hl]; exact h4) (by rw [hk]; exact ⟨_, I', q⟩)
  · have hk : (k + (its.toArray.size : Int)).toNat = j := by
      rw [seqIndex_neg (by omega) h3] at h1
      rw [List.size_toArray, ← hl]
      exact Option.some.inj h1
    exact PySem.W.ki_setBack ho (by omega) (by rw [List.size_toArray, ← hl]; exact h3) (by omega) (by rw [hk]; exact ⟨_, I', q⟩)
theorem slice_bounds (lo hi : Option Int) (n : Nat) : (sliceBounds lo hi none n).1 = ((HT.sIx n 0 lo : Nat) : Int) ∧ (sliceBounds lo hi none n).2.1 = ((HT.sIx n n hi : Nat) : Int) ∧ (sliceBounds lo hi none n).2.2 = 1 := by
  refine ⟨?_, ?_, rfl⟩
  · cases lo with
    | none => simp [sliceBounds, HT.sIx]
    | some i =>
      simp only [sliceBounds, HT.sIx, Option.getD_none, show (1 : Int) > 0 by decide, if_true]
      by_cases h : i < 0
      · simp only [h, if_true] <;> omega
      · simp only [h, if_false] <;> omega
  · cases hi with
    | none => simp [sliceBounds, HT.sIx]
    | some i =>
      simp only [sliceBounds, HT.sIx, Option.getD_none, show (1 : Int) > 0 by decide, if_true]
      by_cases h : i < 0
      · simp only [h, if_true] <;> omega
      · simp only [h, if_false] <;> omega
theorem slicePick_cut (its : List Value) (lo hi : Option Int) : slicePick its.toArray lo hi none = ((its.drop (HT.sIx its.length 0 lo)).take (HT.sIx its.length its.length hi - HT.sIx its.length 0 lo)).toArray := by
  obtain ⟨h1, h2, h3⟩ := slice_bounds lo hi its.toArray.size
  unfold slicePick
  rw [h1, h2, h3]
  simp only [sliceRange_one, pick_run, List.size_toArray] <;> rfl
noncomputable def rSlL (K : PySem.W.Frag) : V → Option Int → Option Int → Hp → VK → Prop := fun x lo hi H Q => ∃ a xs, x = .ref a ∧ SqL K H a xs ∧ ∀ p, H p = none → Q (.ref p) (upd H p (.lst (cutV xs lo hi)))
theorem sl_list : SlR X (rSlL X.K) := by
  intro pins s σ H x v vl vu lo hi sl Q I rx hs pl pu h
  obtain ⟨a, xs, rfl, hx, q⟩ := h
  cases rx
  obtain ⟨its, r, ht, hz⟩ := I.list hx
  have hlen := r.length
  refine ⟨"list", _, slot_list_getitem.lookup, ht.isList.typeIs, ?_⟩
  refine wpAny_getItem_list_slice ht.isList hs pl pu .none (by simp) ?_ (by rw [List.size_toArray] <;> omega)
  rw [slicePick_cut, ← hlen]
  refine ⟨.ref s.heap.objs.size, _, I.laid (t' := s.toks) (o := .lst (cutV xs lo hi)) (fun b ob q => Heap.get?_push_of_some _ q) (Nat.le_refl _) ?_, rfl, q _ (I.hok.fresh (Nat.le_refl _))⟩
  exact ⟨Nat.le_trans (cutV_length xs lo hi) hz, _, 0, (r.drop (HT.sIx xs.length 0 lo)).take (HT.sIx xs.length xs.length hi - HT.sIx xs.length 0 lo), Heap.get?_push_size _ rfl⟩
noncomputable def flatV : V → Bool
  | .non => true
  | .bl _ => true
  | .int _ => true
  | .str _ => true
  | _ => false
noncomputable def eqV : V → V → Bool
  | .non, .non => true
  | .bl a, .bl b => a == b
  | .bl a, .int b => (if a then 1 else 0) == b
  | .int a, .bl b => a == (if b then 1 else 0)
  | .int a, .int b => a == b
  | .str a, .str b => a == b
  | _, _ => false
theorem eqAt_V {A : Around} {s : Shared} {y x : V} {u v : Value} (ry : RelV y u) (rx : RelV x v) (fy : flatV y = true) (fx : flatV x = true) : SeqAt.EqAt A s u v (eqV y x) := by
  cases y with
  | non =>
    cases ry
    cases x with
    | non => cases rx; exact SeqAt.EqAt.same _
    | bl b => cases rx; exact SeqAt.EqAt.none_bool b
    | int b => obtain ⟨t, rfl⟩ := rx; exact SeqAt.EqAt.none_int b t
    | str b => obtain ⟨t, rfl⟩ := rx; exact SeqAt.EqAt.none_str b t
    | _ => exact absurd (show false = true from fx) Bool.false_ne_true
  | bl a =>
    cases ry
    cases x with
    | non => cases rx; exact SeqAt.EqAt.bool_none a
    | bl b => cases rx; exact SeqAt.EqAt.bool_bool a b
    | int b => obtain ⟨t, rfl⟩ := rx; exact SeqAt.EqAt.bool_int a b t
    | str b => obtain ⟨t, rfl⟩ := rx; exact SeqAt.EqAt.bool_str a b t
    | _ => exact absurd (show false = true from fx) Bool.false_ne_true
  | int a =>
    obtain ⟨t', rfl⟩ := ry
    cases x with
    | non => cases rx; exact SeqAt.EqAt.int_none a t'
    | bl b => cases rx; exact SeqAt.EqAt.int_bool a t' b
    | int b => obtain ⟨t, rfl⟩ := rx; exact SeqAt.EqAt.int_int a t' b t
    | str b => obtain ⟨t, rfl⟩ := rx; exact SeqAt.EqAt.int_str a t' b t
    | _ => exact absurd (show false = true from fx) Bool.false_ne_true
  | str a =>
    obtain ⟨t', rfl⟩ := ry
    cases x with
    | non => cases rx; exact SeqAt.EqAt.str_none a t'
    | bl b => cases rx; exact SeqAt.EqAt.str_bool a t' b
    | int b => obtain ⟨t, rfl⟩ := rx; exact SeqAt.EqAt.str_int a t' b t
    | str b => obtain ⟨t, rfl⟩ := rx; exact SeqAt.EqAt.str_str a t' b t
    | _ => exact absurd (show false = true from fx) Bool.false_ne_true
  | _ => exact absurd (show false = true from fy) Bool.false_ne_true
noncomputable def eqU (x : V) (u : Value) : Bool := match u with
  | .none => eqV .non x
  | .bool b => eqV (.bl b) x
  | .int i _ => eqV (.int i) x
  | .str z _ => eqV (.str z) x
  | _ => false
theorem eqU_of {x y : V} {u : Value} (r : RelV y u) (f : flatV y = true) : eqU x u = eqV y x := by
  cases y with
  | non => cases r; rfl
  | bl b => cases r; rfl
  | int i => obtain ⟨t, rfl⟩ := r; rfl
  | str z => obtain ⟨t, rfl⟩ := r; rfl
  | _ => exact absurd (show false = true from f) Bool.false_ne_true
theorem any_eqU {x : V} : ∀ {xs : List V} {us : List Value}, Vals xs us → xs.all flatV = true → us.any (eqU x) = xs.any fun y => eqV y x
  | _, _, .nil, _ => rfl
  | y :: xs, u :: us, .cons r t, f => by
    rw [List.all_cons, Bool.and_eq_true] at f
    rw [List.any_cons, List.any_cons, eqU_of r f.1, any_eqU t f.2]
theorem mem_eqAt {A : Around} {s : Shared} {x : V} {v : Value} (rx : RelV x v) (fx : flatV x = true) : ∀ {xs : List V} {us : List Value}, Vals xs us → xs.all flatV = true → ∀ u ∈ us, SeqAt.EqAt A s u v (eqU x u)
  | _, _, .nil, _ => fun u hu => by cases hu
  | y :: xs, u :: us, .cons r t, f => fun u' hu => by
    rw [List.all_cons, Bool.and_eq_true] at f
    rcases List.mem_cons.mp hu with rfl | hu
    · rw [eqU_of r f.1]; exact eqAt_V r rx f.1 fx
    · exact mem_eqAt rx fx t f.2 u' hu
noncomputable def inV (x : V) (xs : List V) : Bool := xs.any fun y => eqV y x
noncomputable def rIn (K : PySem.W.Frag) (neg : Bool) : R2 := fun x y H Q => ∃ p xs, y = .ref p ∧ (SqL K H p xs ∨ SqT K H p xs) ∧ flatV x = true ∧ xs.all flatV = true ∧ Q (.bl (if neg then !inV x xs else inV x xs)) H
theorem op_in_seq : OpR X (compareOp .In) (rIn X.K false) := by
  intro pins s σ H x y v u Q I rx ry h
  obtain ⟨p, xs, rfl, hq, fx, fs, q⟩ := h
  cases ry
  rcases hq with hq | hq
  · obtain ⟨its, r, pl, hz⟩ := I.list hq
    refine SeqAt.in_listAt (eqU x) pl.isList (fun w hw => mem_eqAt rx fx r fs w (by simpa using hw)) ⟨.bl _, H, I, rfl, ?_⟩
    rw [show its.toArray.any (eqU x) = its.any (eqU x) by simp, any_eqU r fs]
    exact q
  · obtain ⟨its, r, pl, hz⟩ := I.tuple hq
    refine SeqAt.in_tupleAt (eqU x) pl (fun w hw => mem_eqAt rx fx r fs w (by simpa using hw)) ⟨.bl _, H, I, rfl, ?_⟩
    rw [show its.toArray.any (eqU x) = its.any (eqU x) by simp, any_eqU r fs]
    exact q
theorem op_notIn_seq : OpR X (compareOp .NotIn) (rIn X.K true) := by
  intro pins s σ H x y v u Q I rx ry h
  obtain ⟨p, xs, rfl, hq, fx, fs, q⟩ := h
  cases ry
  rcases hq with hq | hq
  · obtain ⟨its, r, pl, hz⟩ := I.list hq
    refine SeqAt.notIn_listAt (eqU x) pl.isList (fun w hw => mem_eqAt rx fx r fs w (by simpa using hw)) ⟨.bl _, H, I, rfl, ?_⟩
    rw [show its.toArray.any (eqU x) = its.any (eqU x) by simp, any_eqU r fs]
    exact q
  · obtain ⟨its, r, pl, hz⟩ := I.tuple hq
    refine SeqAt.notIn_tupleAt (eqU x) pl (fun w hw => mem_eqAt rx fx r fs w (by simpa using hw)) ⟨.bl _, H, I, rfl, ?_⟩
    rw [show its.toArray.any (eqU x) = its.any (eqU x) by simp, any_eqU r fs]
    exact q
theorem CallR.or {f : Value} {r r' : List V → Hp → VK → Prop} (h : CallR X f r) (h' : CallR X f r') : CallR X f (fun xs H Q => r xs H Q ∨ r' xs H Q) := by
  intro pins s σ H xs us Q I rs q
  rcases q with q | q
  · exact h pins s σ H xs us Q I rs q
  · exact h' pins s σ H xs us Q I rs q
theorem call_tuple_of : CallR X (.type "tuple") (fun xs H Q => ∃ p ys, xs = [.ref p] ∧ ((SqL X.K H p ys ∧ ∀ l, H l = none → Q (.ref l) (upd H l (.tup ys))) ∨ (SqT X.K H p ys ∧ Q (.ref p) H))) := by
  intro pins s σ H xs us Q I r h
  obtain ⟨p, ys, rfl, h⟩ := h
  obtain ⟨u, rfl, rx⟩ := vals1 r
  cases rx
  rcases h with ⟨hq, q⟩ | ⟨hq, q⟩
  · obtain ⟨its, r', pl, hz⟩ := I.list hq
    have hlen := r'.length
    refine call_tuple_list pl.isList (fun h' kp => ?_) (by simp only [List.size_toArray] <;> omega)
    have I1 : Inv X pins σ H { s with heap := h' } := I.kept (t' := s.toks) kp
    have I2 : Inv X pins σ (upd H h'.objs.size (.tup ys)) { s with heap := h'.push { cls := .type "tuple", data := .seq its.toArray } } :=
      I1.laid (t' := s.toks) (fun b o e => Heap.get?_push_of_some _ e) (Nat.le_refl _) (show ObjOk X.prog X.w _ _ _ (.tup ys) from ⟨hz, its, r', IsTup.new _ _⟩)
    exact ⟨.ref h'.objs.size, _, I2, rfl, q _ (I1.hok.fresh (Nat.le_refl _))⟩
  · obtain ⟨its, r', pl, hz⟩ := I.tuple hq
    exact call_tuple_same pl ⟨.ref p, H, I, rfl, q⟩
noncomputable def tyV (K : PySem.W.Frag) (T : String) (x : V) (H : Hp) : Prop := match x with
  | .str _ => T = "str"
  | .int _ => T = "int"
  | .ref p => (T = "list" ∧ ∃ xs, SqL K H p xs) ∨ (T = "tuple" ∧ ∃ o, K.lookup p = some o ∧ o.cls = .type "tuple" ∧ o.dict = none) ∨
      (T = "dict" ∧ ((∃ kvs, H p = some (.dK kvs)) ∨ ∃ kvs, H p = some (.dT kvs))) ∨ (T = "set" ∧ ∃ S n, H p = some (.set S n))
  | _ => False
theorem tyV_is {pins : List (Addr × Obj)} {σ : St} {H : Hp} {s : Shared} {T : String} {x : V} {v : Value} (I : Inv X pins σ H s) (r : RelV x v) (ty : tyV X.K T x H) :
    s.TypeIs v T ∧ ∀ a, v = .ref a → ∃ ob, s.heap.get? a = some ob ∧ ob.dict = none := by
  cases x with
  | str z =>
    obtain ⟨t, rfl⟩ := r
    cases (show T = "str" from ty)
    exact ⟨typeIs_str s z t, fun _ e => nomatch e⟩
  | int i =>
    obtain ⟨t, rfl⟩ := r
    cases (show T = "int" from ty)
    exact ⟨typeIs_int s i t, fun _ e => nomatch e⟩
  | ref p =>
    cases r
    rcases ty with ⟨rfl, xs, hq⟩ | ⟨rfl, o, hk, hc, hd⟩ | ⟨rfl, hk⟩ | ⟨rfl, S, n, hk⟩
    · obtain ⟨its, _, pl, _⟩ := I.list hq
      refine ⟨pl.isList.typeIs, fun a e => ?_⟩
      cases e
      obtain ⟨o, n, e, c, hd, _⟩ := pl
      exact ⟨o, e, hd⟩
    · refine ⟨⟨o, I.kIn p o hk, hc⟩, fun a e => ?_⟩
      cases e
      exact ⟨o, I.kIn _ o hk, hd⟩
    · have z : ∃ o, s.heap.get? p = some o ∧ o.ExactDict := by
        rcases hk with ⟨kvs, hk⟩ | ⟨kvs, hk⟩
        · obtain ⟨_, _, _, _, o, _, _, e, ex, _⟩ := I.hok p _ hk
          exact ⟨o, e, ex⟩
        · obtain ⟨_, _, _, _, o, _, _, e, ex, _⟩ := I.hok p _ hk
          exact ⟨o, e, ex⟩
      obtain ⟨o, e, ex⟩ := z
      refine ⟨⟨o, e, ex.1⟩, fun a e2 => ?_⟩
      cases e2
      exact ⟨o, e, ex.2.1⟩
    · obtain ⟨o, _, _, _, e, ex, _⟩ := I.hok p _ hk
      refine ⟨⟨o, e, ex.1⟩, fun a e2 => ?_⟩
      cases e2
      exact ⟨o, e, ex.2.1⟩
  | _ => exact False.elim ty
noncomputable def tBM0 (K : PySem.W.Frag) (T : String) (r : V → List V → Hp → VK → Prop) (to : TE) : TE := fun σ H Q => to σ H fun x H1 => tyV K T x H1 ∧ r x [] H1 Q
noncomputable def tBM (K : PySem.W.Frag) (T : String) (r : V → List V → Hp → VK → Prop) (to : TE) (t : TA) : TE := fun σ H Q => to σ H fun x H1 => tyV K T x H1 ∧ t σ H1 fun xs H2 => r x xs H2 Q
variable {o e : Expr} {es : List Expr} {to : TE} {t : TA} {name : Str} {apos cpos : Pos} {T id : String} {r : V → List V → Hp → VK → Prop}
theorem pe_bm0 (pa : PlainAttrs T) (slot : Slot T name id) (hty : typeOf (.builtin id) = pure (.type "method_descriptor")) (hm : MtR X id r) (ho : PE X o to)
    (hbase : attributeBase o name X.env (eval o X.env) = eval o X.env := by rfl) (hline : (apos.endLine == cpos.line) = true := by rfl) : PE X (.Call (.Attribute o name apos) [] [] cpos) (tBM0 X.K T r to) := by
  intro pins s σ H Q I h
  refine wpAny_Call_method0_late hbase hline (thn (ho pins s σ H _ I h) fun v s1 ⟨x, H1, I1, r1, ty, q1⟩ => ?_)
  obtain ⟨h1, h2⟩ := tyV_is I1 r1 ty
  exact ⟨T, id, pa, slot, hty, h1, h2, Calls.callWith_builtin rfl (PySem.evalArgs_none (hm pins s1 σ H1 x [] v [] Q I1 r1 .nil q1))⟩
theorem pe_bm (pa : PlainAttrs T) (slot : Slot T name id) (hty : typeOf (.builtin id) = pure (.type "method_descriptor")) (hm : MtR X id r) (ho : PE X o to) (ha : PA X (e :: es) t)
    (hbase : attributeBase o name X.env (eval o X.env) = eval o X.env := by rfl)
    (hfew : ((backTo cpos (starEach (e :: es) X.env)).all (fun x => !x.1) && (backToKw cpos (keywordEach [] X.env)).all (fun x => x.1.isSome)
      && decide ((e :: es).length + ([] : List Keyword).length + (if ([] : List Keyword).isEmpty then 0 else 1) < 30)) = true := by rfl)
    (hline : (apos.endLine == cpos.line) = true := by rfl) (hs : starEach (e :: es) X.env = (false, eval e X.env) :: starEach es X.env := by rfl) (hplain : (backTo cpos (starEach es X.env)).any (·.1) = false := by rfl) :
    PE X (.Call (.Attribute o name apos) (e :: es) [] cpos) (tBM X.K T r to t) := by
  intro pins s σ H Q I h
  refine wpAny_Call_method_late hbase hfew hline rfl (thn (ho pins s σ H _ I h) fun v s1 ⟨x, H1, I1, r1, ty, q1⟩ => ?_)
  obtain ⟨h1, h2⟩ := tyV_is I1 r1 ty
  refine ⟨T, id, pa, slot, hty, h1, h2, ?_⟩
  have hA := ha cpos pins s1 σ H1 _ I1 q1
  rw [hs] at hA ⊢
  refine Calls.callWith_builtin (by show (false || (backTo cpos (starEach es X.env)).any (·.1)) = false; rw [hplain] <;> rfl) (Calls.evalArgs_plain ?_)
  exact thn hA fun us s2 ⟨vs, H2, I2, r2, q2⟩ => hm pins s2 σ H2 x vs v us Q I2 r1 r2 q2
/- xs.append(e), list.index on a module's tuple .. are MtR facts of 06m -/
end
noncomputable def MtM (X : Cx) (id : String) (r : V → List V → Hp → VK → Prop) : Prop :=
  ∀ (pins : List (Addr × Obj)) (s : Shared) (σ : St) (H : Hp) (x : V) (xs : List V) (v : Value) (us : List Value) (Q : VK), Inv X pins σ H s → RelV x v → Vals xs us → r x xs H Q →
    wpAny (model X.prog X.w) X.A (call (.builtin id) (v :: us)) (EP X pins σ Q) X.xe s
theorem Vals.one : ∀ {x : V} {us : List Value}, Vals [x] us → ∃ u, us = [u] ∧ RelV x u
  | _, _, .cons r .nil => ⟨_, rfl, r⟩
theorem Vals.two : ∀ {x y : V} {us : List Value}, Vals [x, y] us → ∃ u v, us = [u, v] ∧ RelV x u ∧ RelV y v
  | _, _, _, .cons r (.cons q .nil) => ⟨_, _, rfl, r, q⟩
theorem Vals.zero : ∀ {us : List Value}, Vals [] us → us = []
  | _, .nil => rfl
theorem Vals.dropLast {xs : List V} {us : List Value} (h : Vals xs us) : Vals xs.dropLast us.dropLast := by
  induction h with
  | nil => exact .nil
  | cons r t ih =>
    cases t with
    | nil => exact .nil
    | cons q t' => exact .cons r ih
theorem Vals.eraseIdx : ∀ {xs : List V} {us : List Value} (i : Nat), Vals xs us → Vals (xs.eraseIdx i) (us.eraseIdx i)
  | _, _, _, .nil => .nil
  | _, _, 0, .cons _ t => t
  | _, _, i + 1, .cons r t => .cons r (Vals.eraseIdx i t)
theorem Vals.reverse {xs : List V} {us : List Value} (h : Vals xs us) : Vals xs.reverse us.reverse := by
  induction h with
  | nil => exact .nil
  | cons r t ih => rw [List.reverse_cons, List.reverse_cons]; exact Vals.append ih (.cons r .nil)
theorem Vals.rep {xs : List V} {us : List Value} (h : Vals xs us) : ∀ k : Nat, Vals (List.replicate k xs).flatten (List.replicate k us).flatten
  | 0 => .nil
  | k + 1 => by
    rw [List.replicate_succ, List.replicate_succ, List.flatten_cons, List.flatten_cons]
    exact Vals.append h (Vals.rep h k)
theorem erase_last {α : Type} (l : List α) : l.eraseIdx (l.length - 1) = l.dropLast := by
  induction l with
  | nil => rfl
  | cons a r ih =>
    cases r with
    | nil => rfl
    | cons b r =>
      have e : (a :: b :: r).length - 1 = ((b :: r).length - 1) + 1 := by
        have h1 : (a :: b :: r).length = r.length + 2 := rfl
        have h2 : (b :: r).length = r.length + 1 := rfl
        omega
      rw [e, List.eraseIdx_cons_succ, ih]
      all_goals rfl
theorem len_erase {α : Type} : ∀ (l : List α) (i : Nat), (l.eraseIdx i).length ≤ l.length
  | [], _ => Nat.le_refl _
  | _ :: _, 0 => Nat.le_succ _
  | _ :: r, i + 1 => Nat.succ_le_succ (len_erase r i)
theorem foldl_rep (its : List Value) : ∀ (k : Nat) (acc : List Value),
    List.foldl (fun x1 x2 => x1 ++ x2) acc.toArray (List.replicate k its.toArray) = (acc ++ (List.replicate k its).flatten).toArray
  | 0, acc => by simp
  | k + 1, acc => by
    have e : acc.toArray ++ its.toArray = (acc ++ its).toArray := by simp
    have e2 : (acc ++ its) ++ (List.replicate k its).flatten = acc ++ (List.replicate (k + 1) its).flatten := by
      rw [List.replicate_succ, List.flatten_cons, List.append_assoc]
    rw [← e2, ← foldl_rep its k (acc ++ its), ← e, List.replicate_succ, List.foldl_cons]
section
variable {X : Cx} {pins : List (Addr × Obj)} {σ : St} {H : Hp} {s : Shared} {l b : Addr} {xs ys zs : List V}
theorem Inv.lset {its its' : List Value} {n : Nat} {f : Array Value → Array Value} {t' : Nat} (I : Inv X pins σ H s) (hH : H l = some (.lst xs))
    (e : s.heap.get? l = some { cls := .type "list", data := .seq its.toArray n }) (hf : f its.toArray = its'.toArray) (hv : Vals ys its') (hz : ys.length ≤ sizeLine) :
    Inv X pins σ (upd H l (.lst ys)) { s with heap := s.heap.update l (Obj.mapSeq f), toks := t' } := by
  have q := PySem.IsL.update e f
  rw [hf] at q
  refine I.write (x := l) (e := l) (by rw [hH]; exact trivial) (.inl rfl) (fun b' u hb hu => (Heap.get?_update_other s.heap (Obj.mapSeq f) (Ne.symm hb)).trans hu) ⟨_, q⟩ ?_
  exact ⟨hz, its', _, hv, q⟩
theorem Inv.lnew {its : List Value} {t' : Nat} (I : Inv X pins σ H s) (hv : Vals ys its) (hz : ys.length ≤ sizeLine) :
    Inv X pins σ (upd H s.heap.objs.size (.lst ys)) { s with heap := s.heap.push { cls := .type "list", data := .seq its.toArray }, toks := t' } :=
  I.laid (fun _ _ q => Heap.get?_push_of_some _ q) (Nat.le_refl _) ⟨hz, its, 0, hv, Heap.get?_push_size _ rfl⟩
theorem Inv.fresh (I : Inv X pins σ H s) : H s.heap.objs.size = none := I.hok.fresh (Nat.le_refl _)
theorem Inv.lstM (I : Inv X pins σ H s) (hH : H l = some (.lst xs)) : xs.length ≤ sizeLine ∧ ∃ (its : List Value) (n : Nat), Vals xs its ∧ xs.length = its.length ∧ s.heap.get? l = some { cls := .type "list", data := .seq its.toArray n } := by
  obtain ⟨z, its, n, r, e⟩ := I.hok l _ hH
  exact ⟨z, its, n, r, r.length, e⟩
theorem notLongL {n : Nat} (h : n ≤ sizeLine) : Builtin.List.listTooLong n = false := by
  unfold Builtin.List.listTooLong
  exact decide_eq_false (by omega)
end
section
variable {X : Cx}
noncomputable def rAppend : V → List V → Hp → VK → Prop := fun x vs H Q => ∃ l xs y, x = .ref l ∧ vs = [y] ∧ H l = some (.lst xs) ∧ xs.length < sizeLine ∧ Q .non (upd H l (.lst (xs ++ [y])))
theorem mt_append : MtM X "list.append" rAppend := by
  intro pins s σ H x vs v us Q I rx rv h
  obtain ⟨l, xs, y, rfl, rfl, hH, hz, q⟩ := h
  cases rx
  obtain ⟨u, rfl, ru⟩ := rv.one
  obtain ⟨z, its, n, r, hl, e⟩ := I.lstM hH
  refine call_meets F.slot_list_append ⟨_, e, rfl⟩ F.entry_list_append (F.args_list_append_2 _ _) (PySem.list_append l its.toArray n u (by rw [List.size_toArray]; omega)) ⟨e, ?_⟩
  refine ⟨.non, _, I.lset (its' := its ++ [u]) hH e (by simp) (r.append (.cons ru .nil)) ?_, rfl, q⟩
  rw [List.length_append, List.length_singleton]
  omega
noncomputable def rExtend : V → List V → Hp → VK → Prop := fun x vs H Q => ∃ l b xs zs, x = .ref l ∧ vs = [.ref b] ∧ H l = some (.lst xs) ∧ H b = some (.lst zs) ∧ xs.length + zs.length ≤ sizeLine ∧ Q .non (upd H l (.lst (xs ++ zs)))
theorem mt_extend : MtM X "list.extend" rExtend := by
  intro pins s σ H x vs v us Q I rx rv h
  obtain ⟨l, b, xs, zs, rfl, rfl, hH, hB, hz, q⟩ := h
  cases rx
  obtain ⟨u, rfl, ru⟩ := rv.one
  cases ru
  obtain ⟨z, its, n, r, hl, e⟩ := I.lstM hH
  obtain ⟨z2, its2, n2, r2, hl2, e2⟩ := I.lstM hB
  have hsz : its.toArray.size + its2.toArray.size ≤ sizeLine := by rw [List.size_toArray, List.size_toArray]; omega
  have hlong : ¬ (!its.toArray.isEmpty && Builtin.List.listTooLong (its.toArray.size + its2.toArray.size)) = true := by
    rw [notLongL hsz, Bool.and_false]
    exact Bool.false_ne_true
  refine call_meets F.slot_list_extend ⟨_, e, rfl⟩ F.entry_list_extend (F.args_list_extend_2 _ _)
    (AutoSeq1.list_extend_list_list_0 l its.toArray n b its2.toArray n2 hlong (by rw [List.size_toArray]; omega) (by omega)) ⟨e, e2, ?_⟩
  refine ⟨.non, _, I.lset (its' := its ++ its2) hH e (by simp) (r.append r2) ?_, rfl, q⟩
  rw [List.length_append]
  omega
noncomputable def rPop : V → List V → Hp → VK → Prop := fun x vs H Q => ∃ l xs y, x = .ref l ∧ vs = [] ∧ H l = some (.lst xs) ∧ xs[xs.length - 1]? = some y ∧ Q y (upd H l (.lst xs.dropLast))
theorem mt_pop : MtM X "list.pop" rPop := by
  intro pins s σ H x vs v us Q I rx rv h
  obtain ⟨l, xs, y, rfl, rfl, hH, hy, q⟩ := h
  cases rx
  have hus := rv.zero
  subst hus
  obtain ⟨z, its, n, r, hl, e⟩ := I.lstM hH
  obtain ⟨u, hu, ru⟩ := r.get hy
  have hy' : its.toArray[its.toArray.size - 1]? = some u := by
    show its.toArray[its.length - 1]? = some u
    rw [← Array.getElem?_toList, ← hl]
    exact hu
  refine call_meets F.slot_list_pop ⟨_, e, rfl⟩ F.entry_list_pop (F.args_list_pop_1 _) (MeetsSeq.list_pop_last l its.toArray n u hy' (by rw [List.size_toArray]; omega)) ⟨e, ?_⟩
  refine ⟨y, _, I.lset (its' := its.dropLast) hH e ?_ r.dropLast ?_, ru, q⟩
  · show its.toArray.eraseIdxIfInBounds (its.toArray.size - 1) = its.dropLast.toArray
    rw [List.size_toArray, List.eraseIdxIfInBounds_toArray, erase_last]
  · rw [List.length_dropLast]
    omega
noncomputable def rPopAt : V → List V → Hp → VK → Prop := fun x vs H Q => ∃ l xs i k y, x = .ref l ∧ vs = [.int i] ∧ H l = some (.lst xs) ∧ -(2 ^ 63) ≤ i ∧ i < 2 ^ 63 ∧ seqIndex? i xs.length = some k ∧ xs[k]? = some y ∧ Q y (upd H l (.lst (xs.eraseIdx k)))
theorem mt_popAt : MtM X "list.pop" rPopAt := by
  intro pins s σ H x vs v us Q I rx rv h
  obtain ⟨l, xs, i, k, y, rfl, rfl, hH, h1, h2, hk, hy, q⟩ := h
  cases rx
  obtain ⟨u, rfl, ru⟩ := rv.one
  obtain ⟨t, rfl⟩ := ru
  obtain ⟨z, its, n, r, hl, e⟩ := I.lstM hH
  obtain ⟨w, hw, rw'⟩ := r.get hy
  refine call_meets F.slot_list_pop ⟨_, e, rfl⟩ F.entry_list_pop (F.args_list_pop_2 _ _)
    (MeetsSeq.list_pop_at l its.toArray n i t k w (fitsIndex_both h1 h2) (by rw [List.size_toArray, ← hl]; exact hk) (by rw [← Array.getElem?_toList]; exact hw) (by rw [List.size_toArray]; omega)) ⟨e, ?_⟩
  refine ⟨y, _, I.lset (its' := its.eraseIdx k) hH e ?_ (r.eraseIdx k) ?_, rw', q⟩
  · show its.toArray.eraseIdxIfInBounds k = (its.eraseIdx k).toArray
    rw [List.eraseIdxIfInBounds_toArray]
  · have := len_erase xs k
    omega
noncomputable def rReverse : V → List V → Hp → VK → Prop := fun x vs H Q => ∃ l xs, x = .ref l ∧ vs = [] ∧ H l = some (.lst xs) ∧ Q .non (upd H l (.lst xs.reverse))
theorem mt_reverse : MtM X "list.reverse" rReverse := by
  intro pins s σ H x vs v us Q I rx rv h
  obtain ⟨l, xs, rfl, rfl, hH, q⟩ := h
  cases rx
  have hus := rv.zero
  subst hus
  obtain ⟨z, its, n, r, hl, e⟩ := I.lstM hH
  refine call_meets F.slot_list_reverse ⟨_, e, rfl⟩ F.entry_list_reverse (F.args_list_reverse_1 _) (AutoSeq1.list_reverse_list_0 l its.toArray n (by rw [List.size_toArray]; omega)) ⟨e, ?_⟩
  refine ⟨.non, _, I.lset (its' := its.reverse) hH e (by simp) r.reverse ?_, rfl, q⟩
  rw [List.length_reverse]
  omega
noncomputable def rClear : V → List V → Hp → VK → Prop := fun x vs H Q => ∃ l xs, x = .ref l ∧ vs = [] ∧ H l = some (.lst xs) ∧ Q .non (upd H l (.lst []))
theorem mt_clear : MtM X "list.clear" rClear := by
  intro pins s σ H x vs v us Q I rx rv h
  obtain ⟨l, xs, rfl, rfl, hH, q⟩ := h
  cases rx
  have hus := rv.zero
  subst hus
  obtain ⟨z, its, n, r, hl, e⟩ := I.lstM hH
  refine call_meets F.slot_list_clear ⟨_, e, rfl⟩ F.entry_list_clear (F.args_list_clear_1 _) (AutoSeq1.list_clear_list_0 l its.toArray n (by rw [List.size_toArray]; omega)) ⟨e, ?_⟩
  exact ⟨.non, _, I.lset (its' := []) (ys := []) hH e rfl .nil (Nat.zero_le _), rfl, q⟩
noncomputable def rCat : R2 := fun x y H Q => ∃ l b xs zs, x = .ref l ∧ y = .ref b ∧ H l = some (.lst xs) ∧ H b = some (.lst zs) ∧ xs.length + zs.length ≤ sizeLine ∧ ∀ p, H p = none → Q (.ref p) (upd H p (.lst (xs ++ zs)))
theorem op_cat : OpR X (binaryOp .Add) rCat := by
  intro pins s σ H x y v u Q I rx ry h
  obtain ⟨l, b, xs, zs, rfl, rfl, hH, hB, hz, q⟩ := h
  cases rx
  cases ry
  obtain ⟨z, its, n, r, hl, e⟩ := I.lstM hH
  obtain ⟨z2, its2, n2, r2, hl2, e2⟩ := I.lstM hB
  refine PySem.P.add_list e e2 ?_ (by rw [List.size_toArray, List.size_toArray]; omega)
  have ea : its.toArray ++ its2.toArray = (its ++ its2).toArray := by simp
  rw [ea]
  exact ⟨.ref _, _, I.lnew (t' := s.toks) (r.append r2) (by rw [List.length_append]; omega), rfl, q _ I.fresh⟩
noncomputable def rRep : R2 := fun x y H Q => ∃ l k xs, x = .ref l ∧ y = .int k ∧ H l = some (.lst xs) ∧ -(2 ^ 63) ≤ k ∧ k < 2 ^ 63 ∧ xs.length * k.toNat ≤ sizeLine ∧
  ∀ p, H p = none → Q (.ref p) (upd H p (.lst (List.replicate k.toNat xs).flatten))
theorem len_rep {α : Type} (xs : List α) (k : Nat) : (List.replicate k xs).flatten.length = k * xs.length := by
  induction k with
  | zero => simp
  | succ k ih => rw [List.replicate_succ, List.flatten_cons, List.length_append, ih, Nat.succ_mul, Nat.add_comm]
theorem op_rep : OpR X (binaryOp .Mult) rRep := by
  intro pins s σ H x y v u Q I rx ry h
  obtain ⟨l, k, xs, rfl, rfl, hH, h1, h2, hz, q⟩ := h
  cases rx
  obtain ⟨t, rfl⟩ := ry
  obtain ⟨z, its, n, r, hl, e⟩ := I.lstM hH
  have hlen : its.toArray.size * k.toNat ≤ sizeLine := by rw [List.size_toArray, ← hl]; exact hz
  have hcap : ¬ its.toArray.size * k.toNat > (2 ^ 63 - 1) / 8 := by
    have : (sizeLine : Nat) ≤ (2 ^ 63 - 1) / 8 := by decide
    omega
  have hfit : ¬ (!Builtin.List.listFitsIndex k) = true := by
    rw [fitsIndex_both h1 h2]
    exact Bool.false_ne_true
  have hlong : ¬ Builtin.List.listTooLong (its.toArray.size * k.toNat) = true := by
    rw [notLongL hlen]
    exact Bool.false_ne_true
  have hnew : List.foldl (fun x1 x2 => x1 ++ x2) #[] (List.replicate (if its.toArray.isEmpty = true then 0 else k.toNat) its.toArray) = (List.replicate k.toNat its).flatten.toArray := by
    have f0 : ∀ m : Nat, List.foldl (fun x1 x2 => x1 ++ x2) #[] (List.replicate m its.toArray) = (List.replicate m its).flatten.toArray := fun m => by
      have := foldl_rep its m []
      rw [List.nil_append] at this
      exact this
    rw [f0]
    cases its with
    | nil => simp
    | cons a r' => rw [if_neg (by simp)]
  refine wpAny_binaryOp_repeat_ref (T := "list") (U := "int") (by decide) ⟨_, e, rfl⟩ (fun s' => typeIs_int s' k t) noFill_list_mul F.fills_int_mul F.slot_int_rmul repeat_list F.slot_int_index.lookup
    (call_meets F.slot_int_rmul (typeIs_int s k t) F.entry_int_rmul (F.args_int_rmul_2 _ _) (int___rmul___int_list k t l its.toArray n)
      ⟨e, rfl, ⟨_, e, rfl⟩, call_meets F.slot_list_mul ⟨_, e, rfl⟩ F.entry_list_mul (F.args_list_mul_2 _ _) (AutoListH.list___mul___list_int_3 l its.toArray n k t hfit hcap hlong) ⟨e, ?_⟩⟩)
  rw [hnew]
  exact ⟨.ref _, _, I.lnew (t' := s.toks) (r.rep k.toNat) (by rw [len_rep, Nat.mul_comm]; exact hz), rfl, q _ I.fresh⟩
end
section
variable {prog : Program} {w : World} {A : Around} {E : Value → Shared → Prop} {s : Shared}
end
section
variable {X : Cx}
end
end L2
namespace Att
open PySem PySem.W PySem.Calls PyProof.Rows
theorem ints_of_wellAll {P : Params} {h : Heap} : ∀ (ns : List Int) (vs : List Value), WellAll P h vs (ns.map WData.int) → IntsAre vs ns := by
  intro ns
  induction ns with
  | nil =>
    intro vs w
    rw [List.map_nil] at w
    cases w
    exact .nil
  | cons n ns ih =>
    intro vs w
    rw [List.map_cons] at w
    cases w with
    | cons a b =>
      cases a
      exact .cons _ _ (ih _ b)
theorem script_of {l : OpenLaw} {n : Nat} (hn : l.most = some n) {P : Params} {h : Heap} {args : List WData} {vals : List Value}
    (hpre : l.row.toRowW.claim.pre args = true) (hwl : WellAll P h vals args) :
    ∃ a vs ns, vals = [Value.ref a] ∧ args = [WData.list (ns.map WData.int)] ∧ h.get? a = some { cls := .type "list", data := .seq vs.toArray } ∧ IntsAre vs ns ∧ ns.length ≤ n := by
  have hsh : WShape.hasAll [] args [.list .int] = true := (pre_splitW hpre).1
  have hc : l.pre.holds [] { args := args } = true := (pre_splitW hpre).2
  obtain ⟨d, r, rfl, h1, h2⟩ := hasAllW_cons hsh
  obtain rfl := hasAllW_nil h2
  obtain ⟨xs, rfl, h3⟩ := hasW_list h1
  obtain ⟨ns, rfl⟩ := items_int h3
  have hlen : ns.length ≤ n := by
    unfold OpenLaw.pre at hc
    have h4 : (WTm.not (.lt (.lit (.int (n : Int))) (.len (.arg 0)))).holds [] { args := [.list (ns.map .int)] } = true := by
      have h4 := (holds_andW hc).1
      rw [hn] at h4
      exact h4
    have h5 := condW_of h4 (w_not (w_lt w_lit (w_len_list (w_arg rfl))))
    rw [List.length_map] at h5
    refine Nat.le_of_not_lt fun q => ?_
    have q' : (n : Int) < ((ns.length : Nat) : Int) := by omega
    first
      | (rw [decide_eq_true q'] at h5; exact absurd h5 (by decide))
      | (simp at h5; omega)
  cases hwl with
  | cons w1 w2 =>
    cases w2
    cases w1 with
    | list ho hall => exact ⟨_, _, ns, rfl, rfl, ho, ints_of_wellAll ns _ hall, hlen⟩
theorem post_true (l : OpenLaw) (args : List WData) : l.row.toRowW.claim.post args (.bool true) args = true :=
  postW_of (r := l.row.toRowW) (X := (true == true))
    (show WShape.has [] (.bool true) .bool = true by first | rfl | decide | simp [WShape.has, WShape.arms, WShape.armsAll])
    (show (WTm.eq .res (.lit (.bool true))).value [] { args := args, res := some (.bool true), after := args } = some (.bool (true == true)) from w_eq_bool (w_res rfl) w_lit) rfl
theorem attach_call {l : OpenLaw} {n : Nat} {q : Program} {loose : List Str} {XP : (Str → Option Value) → Heap → Prop} {YP : World → Heap → Prop} {d : DefRec}
    (hn : l.most = some n) (hdf : d.params.defaults = [])
    (call : ∀ (w : World) (s₀ s₁ : Shared) (mg mb : Str → Option Value) (fa : Addr) (o : Obj) (pm cd doc : Value) (a : Addr) (vs : List Value) (ns : List Int),
      Ground q loose [] XP w s₀ mg mb s₁.heap → YP w s₁.heap →
      s₁.heap.get? fa = some o → o.data = .func (docDef d.name d.params d.body d.scope pm cd doc) → s₁.heap.CodeRec cd d.name → mg d.name = some (.ref fa) →
      s₁.heap.get? a = some { cls := .type "list", data := .seq vs.toArray } → IntsAre vs ns → ns.length ≤ n → s₁.gens = #[] →
      codeAny (model l.prog w) callerA (.call (.ref fa) ⟨[.ref a], []⟩) (fun r s' => r = .ok (.ret (.bool true)) ∧ OldK s₁.heap s'.heap ∧ s'.os = s₁.os ∧ AllBare s'.gens) s₁) :
    WalkO q loose XP YP l.row.toRowW d [] (fun f vs => PySem.call f vs) := by
  intro w s₀ s₁ mg mb G Y fa o pm cd doc dV kV ho hd hcd hD hmg hg args vals as hpre hlay hrd hwl hlo
  obtain rfl : dV = .none := Dflts.none hD hdf
  obtain rfl : kV = .none := Dflts.noKw hD
  obtain ⟨a, vs, ns, rfl, rfl, hobj, hints, hlen⟩ := script_of hn hpre hwl
  refine enter_call (codeAny_mono (call w s₀ s₁ mg mb fa o pm cd doc a vs ns G Y ho (fd_plain hd) hcd hmg hobj hints hlen hg) fun r s' hq => ?_)
  obtain ⟨rfl, h2, h3, h4⟩ := hq
  exact ⟨.inl ⟨.bool true, .bool true, [], rfl, fun _ => rfl, .bool true, post_true l _, fun _ => ⟨List.Pairwise.nil, fun _ hm => (nomatch hm)⟩⟩, h2, h3, h4⟩
section
variable {prog : Program} {w : World} {A : Around} {E : Value → Shared → Prop} {s : Shared} {K : Frag}
noncomputable def noObjs (h : Heap) : Heap := { h with objs := #[] }
noncomputable def ledger (h : Heap) (L d : Addr) : List (Addr × Obj) := (List.range h.objs.size).filterMap fun a => if a = L ∨ a = d then none else (h.get? a).map fun o => (a, o)
end
end Att
namespace L2
open PySem PySem.Spec PyProof.Rows
theorem vals_ints : ∀ {vs : List Value} {ns : List Int}, IntsAre vs ns → Vals (ns.map V.int) vs
  | _, _, .nil => .nil
  | _, _, .cons n t h => .cons ⟨t, rfl⟩ (vals_ints h)
noncomputable def Only (H : Hp) : Prop := ∀ b, H b = none ∨ ∃ o xs, H b = some (.frz o (.lst xs))
theorem law_call {P : Program} {w : World} {K : PySem.W.Frag} {mg mb : Str → Option Value} {CX : CXT} {k : Nat} {fa a : Addr} {fd : FuncData} {x : Str} {sp : Sp} {s₁ : Shared} {vs : List Value} {ns : List Int}
    (KX : K.In s₁.heap) (hns : s₁.heap.Ns mainGlobals mg) (hb : s₁.heap.Ns builtinsNs mb) (hbb : ∀ x : Str, x ≠ "__name__" → mb x = bootBuiltins x) (hlim : s₁.heap.NoLimit) (hg : s₁.gens = #[])
    (ha : s₁.heap.get? a = some { cls := .type "list", data := .seq vs.toArray }) (hi : IntsAre vs ns) (hl : ns.length ≤ sizeLine) (hr : Room k callerA)
    (F : ∀ base : Heap, K.In base → base.Ns mainGlobals mg → FnOk P w K mg base CX k fa fd [x] sp) (hbind : ∀ (s : Shared) (u : Value), BindsTo s fd ⟨[u], []⟩ [(x, u)])
    (hsp : ∀ H : Hp, Only H → SqL K H a (ns.map V.int) → sp [.ref a] H (fun v _ => v = .bl true) fun _ _ _ => False)
    (hCX : ∀ H e s', CX [] H s₁ (fun _ _ _ => False) e s' → False) :
    codeAny (model P w) callerA (.call (.ref fa) ⟨[.ref a], []⟩) (fun r s' => r = .ok (.ret (.bool true)) ∧ OldK s₁.heap s'.heap ∧ s'.os = s₁.os ∧ AllBare s'.gens) s₁ := by
  have rv := vals_ints hi
  have lenV := hi.length
  have core : ∀ H : Hp, Only H → SqL K H a (ns.map V.int) → HOk P w H s₁.heap → (∀ b, H b ≠ none → b = a) → (H a ≠ none → K.lookup a = none) →
      codeAny (model P w) callerA (.call (.ref fa) ⟨[.ref a], []⟩) (fun r s' => r = .ok (.ret (.bool true)) ∧ OldK s₁.heap s'.heap ∧ s'.os = s₁.os ∧ AllBare s'.gens) s₁ := by
    intro H hO hS hok hA hK
    have base_of : ∀ {b : Addr} {o : Obj}, s₁.heap.get? b = some o → H b = none → (hidT s₁.heap H).get? b = some o := fun e n => hidT_get e n
    have noA : ∀ {b : Addr} {o : Obj} {es : Array DictEntry} {ep : Nat}, s₁.heap.get? b = some o → o.data = .dict es ep → H b = none := fun {b o es ep} e d => by
      cases q : H b with
      | none => rfl
      | some u =>
        have e' : b = a := hA b (by rw [q]; simp)
        subst e'
        rw [ha] at e; cases e
        have d' : Data.seq vs.toArray _ = Data.dict es ep := d
        cases d'
    have nsK : ∀ {b : Addr} {m : Str → Option Value}, s₁.heap.Ns b m → (hidT s₁.heap H).Ns b m := fun {b m} ⟨o, es, ep, e, d, r⟩ => ⟨o, es, ep, base_of e (noA e d), d, r⟩
    have hKb : K.In (hidT s₁.heap H) := fun b o e => base_of (KX b o e) (by
      cases q : H b with
      | none => rfl
      | some u =>
        have e' : b = a := hA b (by rw [q]; simp)
        subst e'
        rw [hK (by rw [q]; simp)] at e; cases e)
    have hM : Mod K mg (hidT s₁.heap H) := ⟨hKb, nsK hns, ⟨mb, nsK hb, hbb⟩, let ⟨mc, h1, h2⟩ := hlim; ⟨mc, nsK h1, h2⟩⟩
    have e0 : Env0 P w K mg (hidT s₁.heap H) callerA [] s₁ H := ⟨rfl, hM, fun b o e => of_hidT e, Nat.le_of_eq (hidT_size _ _), trivial, fun b hb => absurd (show b ∈ ([] : List Addr) from hb) (by simp), hok, .of_eq hg⟩
    refine codeAny_mono ((F _ hKb (nsK hns)).run callerA [] s₁ H ⟨[.ref a], []⟩ [.ref a] [.ref a] _ _ hr e0 (hbind s₁ (.ref a)) (.cons rfl .nil) (hsp H hO hS)) fun r s' h => ?_
    cases r with
    | error e => exact (hCX H e s' h).elim
    | ok fl =>
      cases fl with
      | next => exact False.elim h
      | brk => exact False.elim h
      | cont => exact False.elim h
      | ret u =>
        obtain ⟨v, H', os, bare, un, hok', r', q⟩ := h
        have q' : v = .bl true := q
        subst q'
        obtain rfl : u = Value.bool true := r'
        refine ⟨rfl, OldK.of_keep fun b o e => ?_, os, bare⟩
        cases q : H b with
        | none => exact un.keep b o e q (by intro z; exact absurd (show b ∈ ([] : List Addr) from z) (by simp)) (by simp)
        | some u =>
          rcases hO b with z | ⟨ob, xs, z⟩
          · rw [q] at z; cases z
          · have z2 := un.frzs b ob _ z
            obtain ⟨e1, _⟩ := hok b _ z
            obtain ⟨e2, _⟩ := hok' b _ z2
            rw [e] at e1; cases e1
            exact e2
  cases hk : K.lookup a with
  | some o =>
    have e := KX a o hk
    rw [ha] at e
    cases e
    refine core (fun _ => none) (fun _ => .inl rfl) (.inr ⟨_, vs.toArray, _, hk, rfl, rfl, rfl, by rw [List.size_toArray, lenV]; exact hl, by simpa using rv⟩) (fun b u z => by have z' : (none : Option HO) = some u := z; cases z') (fun b z => absurd rfl z) fun z => absurd rfl z
  | none =>
    refine core (fun b => if b = a then some (.frz { cls := .type "list", data := .seq vs.toArray } (.lst (ns.map V.int))) else none) (fun b => ?_) (.inl (.inr ⟨{ cls := .type "list", data := .seq vs.toArray }, if_pos rfl⟩)) (fun b u z => ?_) (fun b z => ?_) fun _ => hk
    · by_cases hb : b = a
      · exact .inr ⟨_, _, if_pos hb⟩
      · exact .inl (if_neg hb)
    · by_cases hb : b = a
      · have z' := (if_pos hb).symm.trans z
        cases z'
        subst hb
        exact ⟨ha, by rw [List.length_map]; exact hl, vs, _, rv, ha⟩
      · have z' := (if_neg hb).symm.trans z
        cases z'
    · by_cases hb : b = a
      · exact hb
      · exact absurd (if_neg hb) z
noncomputable abbrev KOf {K : PySem.W.Frag} {h : Heap} (_ : K.In h) : PySem.W.Frag := K
theorem walk_of {l : PySem.W.OpenLaw} {n k : Nat} {q : Program} {loose : List Str} {XP : (Str → Option Value) → Heap → Prop} {YP : World → Heap → Prop} {d : DefRec} {K : Params → PySem.W.Frag} {CX : World → CXT} {sp : World → Sp} {x : Str}
    (hn : l.most = some n) (hn2 : n ≤ sizeLine) (hdf : d.params.defaults = []) (hr : Room k callerA)
    (hY : ∀ (w : World) (h : Heap), YP w h → (K w.params).In h)
    (F : ∀ (w : World) (mg : Str → Option Value) (fa : Addr) (h : Heap), (K w.params).In h → h.Ns mainGlobals mg → mg d.name = some (.ref fa) →
      ∃ fd : FuncData, (∀ (s : Shared) (u : Value), BindsTo s fd ⟨[u], []⟩ [(x, u)]) ∧
        ∀ base : Heap, (K w.params).In base → base.Ns mainGlobals mg → FnOk l.prog w (K w.params) mg base (CX w) k fa fd [x] (sp w))
    (hsp : ∀ (w : World) (H : Hp) (a : Addr) (ns : List Int), ns.length ≤ n → Only H → SqL (K w.params) H a (ns.map V.int) → sp w [.ref a] H (fun v _ => v = .bl true) fun _ _ _ => False)
    (hCX : ∀ (w : World) (H : Hp) (s : Shared) (e : Value) (s' : Shared), CX w [] H s (fun _ _ _ => False) e s' → False) :
    PySem.W.WalkO q loose XP YP l.row.toRowW d [] (fun f vs => PySem.call f vs) := by
  refine Att.attach_call hn hdf fun w s₀ s₁ mg mb fa o pm cd doc a vs ns G Y ho hd hcd hmg hobj hints hlen hg => ?_
  have KX := hY w _ Y
  obtain ⟨fd, hb, hF⟩ := F w mg fa _ KX G.T.g hmg
  exact law_call KX G.T.g G.T.b G.T.builtins G.T.nolimit hg hobj hints (Nat.le_trans hlen hn2) hr hF hb (fun H hO hS => hsp w H a ns hlen hO hS) fun H e s' => hCX w H s₁ e s'
noncomputable def inClass (s : Stmt) (j : Nat) : Stmt := match s with
  | .ClassDef _ _ _ body _ _ _ _ _ _ _ => body.getD j (.Pass ⟨0, 0, 0, 0⟩)
  | _ => .Pass ⟨0, 0, 0, 0⟩
noncomputable def defArgs (s : Stmt) : Arguments := match s with
  | .FunctionDef _ a _ _ _ _ _ _ _ _ => a
  | _ => { posonlyargs := [], args := [], vararg := none, kwonlyargs := [], kw_defaults := [], kwarg := none, defaults := [] }
noncomputable def defBody (s : Stmt) : List Stmt := match s with
  | .FunctionDef _ _ b _ _ _ _ _ _ _ => b
  | _ => []
noncomputable def defScope (s : Stmt) : Scope := match s with
  | .FunctionDef _ _ _ _ _ _ sc _ _ _ => sc
  | _ => { kind := .function, names := [], isGenerator := false, isCoroutine := false }
noncomputable abbrev CX0 : CXT := fun _ _ _ _ _ _ => False
noncomputable abbrev E0 : XK := fun _ _ _ => False
structure Fun (K : PySem.W.Frag) (x qual : Str) (st : Stmt) (f : Addr) (fd : FuncData) : Prop where
  ex : ∃ (oc : Value) (od : Option Addr) (kV doc pm : Value) (an : Option Addr) (cdv ct : Value) (osl : Array (Option Value)),
    fd = PySem.W.fnOf x qual (defArgs st) (defBody st) (defScope st) .none kV doc pm an cdv ct ∧ K.lookup f = some ⟨oc, od, .func fd, osl⟩ ∧ PySem.W.codeIn K cdv qual = true
  kp : PySem.W.keepIn K (.ref f) = true
section
variable {P : Program} {w : World} {K : PySem.W.Frag} {mg : Str → Option Value} {base : Heap}
theorem Fun.ok {x qual : Str} {st : Stmt} {f : Addr} {fd : FuncData} {N ps : List Str} {k : Nat} {sp : Sp} (F : Fun K x qual st f fd) (S : FnScope N ps (defScope st)) (len : ∀ vs H Q E, sp vs H Q E → vs.length = ps.length)
    (hbody : ∀ (cdv : Value) (A : Around) (outer : List Env) (s : Shared) (H : Hp) (vs : List V) (Q : VK) (E : XK), Room k (A.deeper (envOfC qual (defScope st) s.heap.objs.size f cdv)) → sp vs H Q E →
      ∃ t, PSs (cxOf CX0 P w K mg base N qual (defScope st) f cdv A outer s H E).nox (defBody st) t ∧ t { nx := fun _ H' => Q .non H', rt := Q } (start N vs) H) : FnOk P w K mg base CX0 (k + 1) f fd ps sp := by
  obtain ⟨oc, od, kV, doc, pm, an, cdv, ct, osl, rfl, lk, hcd⟩ := F.ex
  refine fn_of lk hcd S len fun A outer s H vs Q E hr hsp => ?_
  obtain ⟨t, h, q⟩ := hbody cdv A outer s H vs Q E hr hsp
  exact ⟨t, h.nox, q⟩
theorem Fun.binds {x qual : Str} {st : Stmt} {f : Addr} {fd : FuncData} {ps : List Str} (F : Fun K x qual st f fd)
    (h : ∀ (kV doc pm : Value) (an : Option Addr) (cdv ct : Value) (us : List Value), us.length = ps.length → bindArgs (PySem.W.fnOf x qual (defArgs st) (defBody st) (defScope st) .none kV doc pm an cdv ct) ⟨us, []⟩ = pure (ps.zip us)) : Binds K fd ps [] := by
  obtain ⟨oc, od, kV, doc, pm, an, cdv, ct, osl, rfl, lk, hcd⟩ := F.ex
  exact .all (h kV doc pm an cdv ct)
theorem fun_mk {x qual : Str} {st : Stmt} {f : Addr} {oc : Value} {od an : Option Addr} {osl : Array (Option Value)} {kV doc pm cdv ct : Value} (l : K.lookup f = some ⟨oc, od, .func (PySem.W.fnOf x qual (defArgs st) (defBody st) (defScope st) .none kV doc pm an cdv ct), osl⟩)
    (c : PySem.W.codeIn K cdv qual = true) (k : PySem.W.keepIn K (.ref f) = true) : Fun K x qual st f (PySem.W.fnOf x qual (defArgs st) (defBody st) (defScope st) .none kV doc pm an cdv ct) := ⟨⟨oc, od, kV, doc, pm, an, cdv, ct, osl, rfl, l, c⟩, k⟩
end
section
variable {X : Cx}
end
theorem iteF {A B : Prop} (h : B) : if false = true then A else B := by
  rw [if_neg Bool.false_ne_true]
  exact h
theorem iteT {A B : Prop} (h : A) : if true = true then A else B := by
  rw [if_pos rfl]
  exact h
noncomputable def Same (H H' : Hp) : Prop := ∀ b o, H b = some o → H' b = some o
theorem Same.refl (H : Hp) : Same H H := fun _ _ h => h
theorem Same.trans {H H1 H2 : Hp} (a : Same H H1) (b : Same H1 H2) : Same H H2 := fun c o h => b c o (a c o h)
theorem Same.free {H H' : Hp} (e : Same H H') {l : Addr} (h : H' l = Option.none) : H l = Option.none := by
  cases q : H l with
  | none => rfl
  | some o =>
    rw [e l o q] at h
    cases h
theorem Same.seq {K : PySem.W.Frag} {H H' : Hp} {a : Addr} {xs : List V} (e : Same H H') (h : SqL K H a xs) : SqL K H' a xs := by
  rcases h with (h | ⟨o, h⟩) | h
  · exact .inl (.inl (e _ _ h))
  · exact .inl (.inr ⟨o, e _ _ h⟩)
  · exact .inr h
section
variable {κ : Type} [DecidableEq κ]
noncomputable def valV (kvs : List (κ × V)) (k : κ) : Option V := (kvs.find? fun kv => decide (kv.1 = k)).map (·.2)
noncomputable def putK (kvs : List (κ × V)) (k : κ) (v : V) : List (κ × V) :=
  if (kvs.any fun kv => decide (kv.1 = k)) = true then kvs.map (fun kv => if kv.1 = k then (kv.1, v) else kv) else kvs ++ [(k, v)]
noncomputable def dropK (kvs : List (κ × V)) (k : κ) : List (κ × V) := kvs.filter fun kv => decide (kv.1 ≠ k)
theorem valV_pos {p : κ × V} {r : List (κ × V)} {k : κ} (e : p.1 = k) : valV (p :: r) k = some p.2 := by simp [valV, List.find?_cons, e]
theorem valV_neg {p : κ × V} {r : List (κ × V)} {k : κ} (e : ¬ p.1 = k) : valV (p :: r) k = valV r k := by simp [valV, List.find?_cons, e]
theorem valV_any (k : κ) : ∀ kvs : List (κ × V), (kvs.any fun kv => decide (kv.1 = k)) = (valV kvs k).isSome
  | [] => rfl
  | p :: r => by
    rw [List.any_cons]
    by_cases e : p.1 = k
    · simp only [valV_pos e, decide_eq_true e, Bool.true_or, Option.isSome_some]
    · rw [valV_neg e, decide_eq_false e, Bool.false_or]; exact valV_any k r
theorem valV_map (k j : κ) (y : V) : ∀ kvs : List (κ × V), valV (kvs.map fun kv => if kv.1 = k then (kv.1, y) else kv) j = (valV kvs j).map fun x => if j = k then y else x
  | [] => rfl
  | p :: r => by
    have ih := valV_map k j y r
    rw [List.map_cons]
    by_cases h : p.1 = k
    · rw [if_pos h]
      by_cases e : p.1 = j
      · rw [valV_pos (p := (p.1, y)) e, valV_pos e, Option.map_some, if_pos (e.symm.trans h)]
      · rw [valV_neg (p := (p.1, y)) e, valV_neg e, ih]
    · rw [if_neg h]
      by_cases e : p.1 = j
      · rw [valV_pos (p := p) e, valV_pos e, Option.map_some, if_neg (fun z => h (e.trans z))]
      · rw [valV_neg (p := p) e, valV_neg e, ih]
theorem valV_snoc (k j : κ) (y : V) : ∀ kvs : List (κ × V), valV kvs k = none → valV (kvs ++ [(k, y)]) j = if j = k then some y else valV kvs j
  | [], _ => by
    by_cases e : k = j
    · rw [if_pos e.symm]; exact valV_pos (p := (k, y)) e
    · rw [if_neg (fun z => e z.symm)]; exact valV_neg (p := (k, y)) e
  | p :: r, hn => by
    rw [List.cons_append]
    have hk : ¬ p.1 = k := fun z => by rw [valV_pos z] at hn; cases hn
    rw [valV_neg hk] at hn
    have ih := valV_snoc k j y r hn
    by_cases e : p.1 = j
    · rw [valV_pos e, valV_pos e, if_neg (fun z => hk (e.trans z))]
    · rw [valV_neg e, valV_neg e, ih]
theorem valV_put (kvs : List (κ × V)) (k j : κ) (y : V) : valV (putK kvs k y) j = if j = k then some y else valV kvs j := by
  unfold putK
  by_cases a : (kvs.any fun kv => decide (kv.1 = k)) = true
  · rw [if_pos a, valV_map]
    rw [valV_any] at a
    by_cases e : j = k
    · obtain ⟨x, hx⟩ := Option.isSome_iff_exists.mp a
      rw [if_pos e, e, hx, Option.map_some, if_pos rfl]
    · rw [if_neg e]
      cases valV kvs j with
      | none => rfl
      | some x => rw [Option.map_some, if_neg e]
  · rw [if_neg a]
    refine valV_snoc k j y kvs ?_
    rw [valV_any] at a
    cases q : valV kvs k with
    | none => rfl
    | some x => rw [q] at a; exact (a rfl).elim
theorem length_putK (kvs : List (κ × V)) (k : κ) (v : V) : (putK kvs k v).length ≤ kvs.length + 1 := by
  unfold putK
  split
  · rw [List.length_map]; omega
  · rw [List.length_append, List.length_cons, List.length_nil]; omega
theorem putK_new {kvs : List (κ × V)} {k : κ} (v : V) (h : valV kvs k = none) : putK kvs k v = kvs ++ [(k, v)] := by
  unfold putK
  rw [valV_any, h]
  exact if_neg (by decide)
theorem RelO.isSome_eq {o : Option V} {u : Option Value} (r : RelO o u) : o.isSome = u.isSome := by
  cases o with
  | none => cases u with
    | none => rfl
    | some _ => exact (show False from r).elim
  | some _ => cases u with
    | none => exact (show False from r).elim
    | some _ => rfl
theorem RelO.getD {o : Option V} {u : Option Value} {d : V} {d' : Value} (r : RelO o u) (rd : RelV d d') : RelV (o.getD d) (u.getD d') := by
  cases o with
  | none => cases u with
    | none => exact rd
    | some _ => exact (show False from r).elim
  | some _ => cases u with
    | none => exact (show False from r).elim
    | some _ => exact r
theorem KV.val {kvs : List (κ × V)} {vs : List (κ × Value)} (r : KV kvs vs) (k : κ) : RelO (valV kvs k) (valueAt vs k) := by
  unfold KV at r
  induction r with
  | nil => exact True.intro
  | @cons p q ps qs h t ih =>
    obtain ⟨h1, h2⟩ := h
    by_cases e : p.1 = k
    · have e' : q.1 = k := h1.symm.trans e
      have b : valueAt (q :: qs) k = some q.2 := by simp [valueAt, List.find?_cons, e']
      rw [valV_pos e, b]; exact h2
    · have e' : ¬ q.1 = k := fun z => e (h1.trans z)
      have b : valueAt (q :: qs) k = valueAt qs k := by simp [valueAt, List.find?_cons, e']
      rw [valV_neg e, b]; exact ih
theorem KV.any {kvs : List (κ × V)} {vs : List (κ × Value)} (r : KV kvs vs) (k : κ) : (kvs.any fun kv => decide (kv.1 = k)) = vs.any fun kv => decide (kv.1 = k) := by
  unfold KV at r
  induction r with
  | nil => rfl
  | cons h t ih => rw [List.any_cons, List.any_cons, ih, h.1]
theorem KV.repl {kvs : List (κ × V)} {vs : List (κ × Value)} (r : KV kvs vs) (k : κ) {y : V} {u : Value} (ry : RelV y u) :
    KV (kvs.map fun kv => if kv.1 = k then (kv.1, y) else kv) (vs.map fun kv => if kv.1 = k then (kv.1, u) else kv) := by
  unfold KV at r ⊢
  induction r with
  | nil => exact .nil
  | @cons p q ps qs h t ih =>
    rw [List.map_cons, List.map_cons]
    refine .cons ?_ ih
    obtain ⟨h1, h2⟩ := h
    by_cases e : p.1 = k
    · rw [if_pos e, if_pos (h1.symm.trans e)]; exact ⟨h1, ry⟩
    · rw [if_neg e, if_neg (fun z => e (h1.trans z))]; exact ⟨h1, h2⟩
theorem KV.put {kvs : List (κ × V)} {vs : List (κ × Value)} (r : KV kvs vs) (k : κ) {y : V} {u : Value} (ry : RelV y u) : KV (putK kvs k y) (stored vs k u) := by
  unfold putK stored
  rw [r.any k]
  by_cases e : (vs.any fun kv => decide (kv.1 = k)) = true
  · rw [if_pos e, if_pos e]; exact r.repl k ry
  · rw [if_neg e, if_neg e]; exact Paired.snoc r ⟨rfl, ry⟩
theorem KV.drop {kvs : List (κ × V)} {vs : List (κ × Value)} (r : KV kvs vs) (k : κ) : KV (dropK kvs k) (without vs k) := by
  unfold KV at r ⊢
  unfold dropK without
  induction r with
  | nil => exact .nil
  | @cons p q ps qs h t ih =>
    obtain ⟨h1, h2⟩ := h
    rw [List.filter_cons, List.filter_cons]
    by_cases e : p.1 = k
    · have a : ¬ decide (p.1 ≠ k) = true := by simp [e]
      have b : ¬ decide (q.1 ≠ k) = true := by simp [h1.symm.trans e]
      rw [if_neg a, if_neg b]; exact ih
    · have e' : ¬ q.1 = k := fun z => e (h1.trans z)
      have a : decide (p.1 ≠ k) = true := by simp [e]
      have b : decide (q.1 ≠ k) = true := by simp [e']
      rw [if_pos a, if_pos b]; exact .cons ⟨h1, h2⟩ ih
theorem KV.keys {kvs : List (κ × V)} {vs : List (κ × Value)} (r : KV kvs vs) : kvs.map (·.1) = vs.map (·.1) := by
  unfold KV at r
  induction r with
  | nil => rfl
  | cons h t ih => rw [List.map_cons, List.map_cons, ih, h.1]
theorem KV.length {kvs : List (κ × V)} {vs : List (κ × Value)} (r : KV kvs vs) : kvs.length = vs.length := Paired.length r
end
theorem kV_is {P : Program} {w : World} {k : Key} {u : Value} (r : RelV (kV k) u) : (mixKind P w).is k u = true := by
  cases k with
  | inl i => obtain ⟨t, e⟩ := (show ∃ t, u = Value.int i t from r); subst e; exact mixKind_int P w i t
  | inr x => obtain ⟨t, e⟩ := (show ∃ t, u = Value.str x t from r); subst e; exact mixKind_str P w x t
theorem items_are {P : Program} {w : World} : ∀ {ks : List Key} {us : List Value}, Vals (ks.map kV) us → ItemsAre (mixKind P w) ks us
  | [], _, r => by rw [List.map_nil] at r; cases r; exact .nil
  | k :: ks, _, r => by
    rw [List.map_cons] at r
    cases r with
    | cons h t => exact .cons (kV_is h) (items_are t)
noncomputable abbrev KT (H : Hp) : List (List Key × V) → List (List Key × Addr × Value) → Prop := Paired fun p q => p.1 = q.1 ∧ H q.2.1 = some (.tup (p.1.map kV)) ∧ RelV p.2 q.2.2
theorem KT.val {H : Hp} {kvs : List (List Key × V)} {xs : List (List Key × Addr × Value)} (r : KT H kvs xs) (k : List Key) : RelO (valV kvs k) ((atKey xs k).map (·.2)) := by
  induction r with
  | nil => exact True.intro
  | @cons p q ps qs h t ih =>
    obtain ⟨h1, _, h2⟩ := h
    by_cases e : p.1 = k
    · have e' : q.1 = k := h1.symm.trans e
      have b : atKey (q :: qs) k = some q.2 := by simp [atKey, List.find?_cons, e']
      rw [valV_pos e, b]; exact h2
    · have e' : ¬ q.1 = k := fun z => e (h1.trans z)
      have b : atKey (q :: qs) k = atKey qs k := by simp [atKey, List.find?_cons, e']
      rw [valV_neg e, b]; exact ih
theorem KT.repl {H : Hp} {kvs : List (List Key × V)} {xs : List (List Key × Addr × Value)} (r : KT H kvs xs) (k : List Key) {y : V} {u : Value} (ry : RelV y u) :
    KT H (kvs.map fun kv => if kv.1 = k then (kv.1, y) else kv) (xs.map (putAt k u)) := by
  induction r with
  | nil => exact .nil
  | @cons p q ps qs h t ih =>
    rw [List.map_cons, List.map_cons]
    refine .cons ?_ ih
    obtain ⟨h1, h2, h3⟩ := h
    unfold putAt
    by_cases e : p.1 = k
    · rw [if_pos e, if_pos (h1.symm.trans e)]; exact ⟨h1, h2, ry⟩
    · rw [if_neg e, if_neg (fun z => e (h1.trans z))]; exact ⟨h1, h2, h3⟩
theorem KT.put {H : Hp} {kvs : List (List Key × V)} {xs : List (List Key × Addr × Value)} (r : KT H kvs xs) (k : List Key) {b : Addr} {y : V} {u : Value} (hb : H b = some (.tup (k.map kV))) (ry : RelV y u) :
    KT H (putK kvs k y) (storedH xs k b u) := by
  have e : (kvs.any fun kv => decide (kv.1 = k)) = (atKey xs k).isSome := by
    rw [valV_any, (r.val k).isSome_eq, Option.isSome_map]
  unfold putK storedH
  rw [e]
  by_cases q : (atKey xs k).isSome = true
  · rw [if_pos q, if_pos q]; exact r.repl k ry
  · rw [if_neg q, if_neg q]; exact Paired.snoc r ⟨rfl, hb, ry⟩
theorem KT.keeps {H H' : Hp} {kvs : List (List Key × V)} {xs : List (List Key × Addr × Value)} (r : KT H kvs xs) (ht : ∀ b ys, H b = some (.tup ys) → H' b = some (.tup ys)) : KT H' kvs xs :=
  Paired.mapP r fun _ _ z => ⟨z.1, ht _ _ z.2.1, z.2.2⟩
section
variable {P : Program} {w : World} {H : Hp} {h : Heap} {a : Addr}
theorem rd_of {u : HO} (ok : HOk P w H h) (e : Rd H a u) : ObjOk P w H h a u := e.ok ok
theorem dk_rd {kvs : List (Key × V)} (ok : HOk P w H h) (e : Rd H a (.dK kvs)) : kvs.length ≤ sizeLine ∧ (a == sysModules) = false ∧ ∃ vs, KV kvs vs ∧ h.DictOf (mixKind P w) a vs :=
  show ObjOk P w H h a (.dK kvs) from rd_of ok e
theorem dk_of {kvs : List (Key × V)} (ok : HOk P w H h) (e : H a = some (.dK kvs)) : kvs.length ≤ sizeLine ∧ (a == sysModules) = false ∧ ∃ vs, KV kvs vs ∧ h.DictOf (mixKind P w) a vs := dk_rd ok (.inl e)
theorem key_of {ks : List Key} (ok : HOk P w H h) (e : H a = some (.tup (ks.map kV))) : (tupleKind (mixKind P w)).is h ks a := by
  obtain ⟨_, its, r, o, h1, h2, n, h3⟩ := (show ObjOk P w H h a (.tup (ks.map kV)) from ok a _ e)
  exact ⟨o, its.toArray, n, h1, h2, h3, by simpa using items_are r⟩
theorem dt_rd {kvs : List (List Key × V)} (ok : HOk P w H h) (e : Rd H a (.dT kvs)) : kvs.length ≤ sizeLine ∧ (a == sysModules) = false ∧
    ∃ xs, KT H kvs xs ∧ h.DictOfH (tupleKind (mixKind P w)) a xs := by
  obtain ⟨z, y, xs, r, o, es, ep, h1, h2, h3, h4, h5⟩ := (show ObjOk P w H h a (.dT kvs) from rd_of ok e)
  refine ⟨z, y, xs, r, o, es, ep, h1, h2, h3, h4, fun x hx => ?_, h5⟩
  have all : ∀ {l : List (List Key × V)} {m : List (List Key × Addr × Value)}, KT H l m → ∀ x ∈ m, (tupleKind (mixKind P w)).is h x.1 x.2.1 := by
    intro l m q
    induction q with
    | nil => intro x hx; exact nomatch hx
    | @cons p q ps qs hq t ih =>
      intro x hx
      rcases List.mem_cons.mp hx with e | hx
      · subst e
        exact key_of ok (by rw [← hq.1]; exact hq.2.1)
      · exact ih x hx
  exact all r x hx
theorem dt_of {kvs : List (List Key × V)} (ok : HOk P w H h) (e : H a = some (.dT kvs)) : kvs.length ≤ sizeLine ∧ (a == sysModules) = false ∧
    ∃ xs, KT H kvs xs ∧ h.DictOfH (tupleKind (mixKind P w)) a xs := dt_rd ok (.inl e)
end
noncomputable def DGet (H : Hp) (a : Addr) (y : V) (r : Option V) : Prop :=
  (∃ kvs k, Rd H a (.dK kvs) ∧ y = kV k ∧ r = valV kvs k) ∨ ∃ kvs k b, Rd H a (.dT kvs) ∧ y = .ref b ∧ H b = some (.tup (k.map kV)) ∧ r = valV kvs k
noncomputable def DPut (H : Hp) (a : Addr) (y v : V) (H' : Hp) : Prop :=
  (∃ kvs k, H a = some (.dK kvs) ∧ y = kV k ∧ kvs.length < sizeLine ∧ H' = upd H a (.dK (putK kvs k v))) ∨
  ∃ kvs k b, H a = some (.dT kvs) ∧ y = .ref b ∧ H b = some (.tup (k.map kV)) ∧ kvs.length < sizeLine ∧ H' = upd H a (.dT (putK kvs k v))
theorem DGet.k {H : Hp} {a : Addr} {kvs : List (Key × V)} {k : Key} (e : H a = some (.dK kvs)) : DGet H a (kV k) (valV kvs k) := .inl ⟨kvs, k, .inl e, rfl, rfl⟩
theorem DGet.t {H : Hp} {a b : Addr} {kvs : List (List Key × V)} {k : List Key} (e : H a = some (.dT kvs)) (eb : H b = some (.tup (k.map kV))) : DGet H a (.ref b) (valV kvs k) := .inr ⟨kvs, k, b, .inl e, rfl, eb, rfl⟩
theorem DPut.k {H : Hp} {a : Addr} {kvs : List (Key × V)} {k : Key} {v : V} (e : H a = some (.dK kvs)) (hl : kvs.length < sizeLine) : DPut H a (kV k) v (upd H a (.dK (putK kvs k v))) := .inl ⟨kvs, k, e, rfl, hl, rfl⟩
theorem DPut.t {H : Hp} {a b : Addr} {kvs : List (List Key × V)} {k : List Key} {v : V} (e : H a = some (.dT kvs)) (eb : H b = some (.tup (k.map kV))) (hl : kvs.length < sizeLine) :
    DPut H a (.ref b) v (upd H a (.dT (putK kvs k v))) := .inr ⟨kvs, k, b, e, rfl, eb, hl, rfl⟩
section
variable {X : Cx} {pins : List (Addr × Obj)} {σ : St} {H : Hp} {s : Shared} {a : Addr} {y v : V} {u r : Value} {o : Option V} {A : Around} {E : Value → Shared → Prop}
theorem Inv.big (I : Inv X pins σ H s) : sysModules < s.heap.objs.size := by
  have h : mainGlobals < s.heap.objs.size := (I.mod.glob.keeps I.bk).lt
  exact Nat.lt_trans (by decide) h
theorem d_write {h' : Heap} {t' : Nat} {ob : HO} (I : Inv X pins σ H s) (mu : Mut (H a)) (hs : Heap.SameBut a s.heap h') (he : ∃ q, h'.get? a = some q) (new : ObjOk X.prog X.w (upd H a ob) h' a ob) :
    Inv X pins σ (upd H a ob) { s with heap := h', toks := t' } :=
  I.write (x := a) (e := a) mu (.inl rfl) (fun b q hb z => (hs.2 b hb).trans z) he new
theorem dk_new {P : Program} {w : World} {H' : Hp} {h' : Heap} {kvs : List (Key × V)} {vs : List (Key × Value)} (z : kvs.length ≤ sizeLine) (hd : (a == sysModules) = false) (rel : KV kvs vs) (dd : h'.DictOf (mixKind P w) a vs) :
    ObjOk P w H' h' a (.dK kvs) := ⟨z, hd, vs, rel, dd⟩
theorem d_setItem {H' : Hp} {Q : Unit → Shared → Prop} (hu : A.units + 1 < cLine) (I : Inv X pins σ H s) (g : DPut H a y v H') (ry : RelV y u) (rv : RelV v r) (h : ∀ s', Inv X pins σ H' s' → Q () s') :
    wpAny (model X.prog X.w) A (setItem (.ref a) u r) Q E s := by
  rcases g with ⟨kvs, k, e, ey, l, eH⟩ | ⟨kvs, k, b, e, ey, eb, l, eH⟩
  · subst ey eH
    obtain ⟨z, hd, vs, rel, dd⟩ := dk_of I.hok e
    have hz : vs.length ≤ sizeLine := by rw [← rel.length]; exact z
    have hl : (putK kvs k v).length ≤ sizeLine := by have := length_putK kvs k v; omega
    refine wpAny_setItem_pairs (hsz := hz) (kV_is ry) dd fun h' dd' hs => h _ ?_
    have he : ∃ q, h'.get? a = some q := let ⟨q, _, _, hq, _⟩ := dd'; ⟨q, hq⟩
    exact d_write I (by rw [e]; exact True.intro) hs he (dk_new hl hd (rel.put k rv) dd')
  · subst ey eH
    cases (show u = Value.ref b from ry)
    obtain ⟨z, hd, xs, rel, dd⟩ := dt_of I.hok e
    have hz : xs.length ≤ sizeLine := by rw [← Paired.length rel]; exact z
    have hl : (putK kvs k v).length ≤ sizeLine := by have := length_putK kvs k v; omega
    refine wpAny_setItem_heap (hsz := hz) (tupleKind_room_in1 hu) (key_of I.hok eb) dd fun h' dd' hs => h _ ?_
    obtain ⟨q, es, ep, hq, h2, h3, h4, _, h5⟩ := dd'
    refine d_write I (by rw [e]; exact True.intro) hs ⟨q, hq⟩ ⟨hl, hd, _, (rel.put k eb rv).keeps fun c ys ec => ?_, q, es, ep, hq, h2, h3, h4, h5⟩
    rw [upd_ne (ne_of ec e (fun z => nomatch z))]
    exact ec
end
section
variable {X : Cx} {pins : List (Addr × Obj)} {σ : St} {H : Hp} {s : Shared} {a : Addr} {kvs : List (Key × V)} {k : Key} {u : Value} {A : Around} {E : Value → Shared → Prop}
end
noncomputable def NoSl (i : Expr) : Prop := ∀ ov iv, subscripted i false ov iv = operate [ov, iv] (getItem ov iv)
noncomputable def tDGet (td ty : TE) : TE := fun σ H Q => td σ H fun x H1 => ty σ H1 fun y H2 => ∃ a v, x = .ref a ∧ DGet H2 a y (some v) ∧ Q v H2
noncomputable def tDIn (ty td : TE) : TE := fun σ H Q => ty σ H fun y H1 => td σ H1 fun x H2 => ∃ a o, x = .ref a ∧ DGet H2 a y o ∧ Q (.bl o.isSome) H2
noncomputable def tDNotIn (ty td : TE) : TE := fun σ H Q => ty σ H fun y H1 => td σ H1 fun x H2 => ∃ a o, x = .ref a ∧ DGet H2 a y o ∧ Q (.bl (!o.isSome)) H2
noncomputable def sDPut (td ty tv : TE) : TS := fun D σ H => tv σ H fun v H1 => td σ H1 fun x H2 => ty σ H2 fun y H3 => ∃ a H4, x = .ref a ∧ DPut H3 a y v H4 ∧ D.nx σ H4
noncomputable def sDAug (td ty tv : TE) (rd : V → V → Hp → VK → Prop) : TS := fun D σ H => td σ H fun x H1 => ty σ H1 fun y H2 => ∃ a v, x = .ref a ∧ DGet H2 a y (some v) ∧
  tv σ H2 fun y2 H3 => rd v y2 H3 fun z H4 => ∃ H5, DPut H4 a y z H5 ∧ D.nx σ H5
noncomputable def sDDel (td ty : TE) : TS := fun D σ H => td σ H fun x H1 => ty σ H1 fun y H2 => ∃ a kvs k, x = .ref a ∧ H2 a = some (.dK kvs) ∧ y = kV k ∧ (valV kvs k).isSome = true ∧ D.nx σ (upd H2 a (.dK (dropK kvs k)))
section
variable {X : Cx} {o i e value : Expr} {pos pos' tpos : Pos} {td ty tv : TE}
end
theorem dt_empty {P : Program} {w : World} {H : Hp} (h : Heap) (hb : sysModules < h.objs.size) : ObjOk P w H (h.push { cls := .type "dict", data := .dict #[] }) h.objs.size (.dT []) :=
  ⟨Nat.zero_le _, beq_eq_false_iff_ne.mpr (Ne.symm (Nat.ne_of_lt hb)), [], .nil, _, #[], 0, Heap.get?_push_size _ rfl, ⟨rfl, rfl, rfl⟩, rfl, rfl, List.nodup_nil⟩
noncomputable def tDNewK : TE := fun _ H Q => ∀ p, H p = none → Q (.ref p) (upd H p (.dK []))
noncomputable def tDNewT : TE := fun _ H Q => ∀ p, H p = none → Q (.ref p) (upd H p (.dT []))
section
variable {X : Cx} {pos : Pos}
theorem pe_dnewT : PE X (.Dict [] [] pos) tDNewT := fun pins s σ H Q I h =>
  wpAny_Dict_empty ⟨.ref s.heap.objs.size, _, I.laid (a := s.heap.objs.size) (o := .dT []) (t' := s.toks) (fun _ _ q => Heap.get?_push_of_some _ q) (Nat.le_refl _) (dt_empty s.heap I.big), rfl, h _ (I.hok.fresh (Nat.le_refl _))⟩
end
noncomputable def tPairs : List (TE × TE) → St → Hp → (List (V × V) → Hp → Prop) → Prop
  | [], _, H, Q => Q [] H
  | (tk, tv) :: r, σ, H, Q => tk σ H fun x H1 => tv σ H1 fun y H2 => tPairs r σ H2 fun ps H3 => Q ((x, y) :: ps) H3
noncomputable abbrev VV : List (V × V) → List (Value × Value) → Prop := Paired fun p q => RelV p.1 q.1 ∧ RelV p.2 q.2
noncomputable def PPs (X : Cx) (pos : Pos) (keys : List (Option Expr)) (values : List Expr) (trs : List (TE × TE)) : Prop :=
  ∀ (pins : List (Addr × Obj)) (s : Shared) (σ : St) (H : Hp) (Q : List (V × V) → Hp → Prop), Inv X pins σ H s → tPairs trs σ H Q →
    wpAny (model X.prog X.w) X.A (evalPairs (pairTrees keys values X.env pos)) (fun vs s' => ∃ ps H', Inv X pins σ H' s' ∧ VV ps vs ∧ Q ps H') X.xe s
noncomputable def mergeK (kvs more : List (Key × V)) : List (Key × V) := more.foldl (fun acc kv => putK acc kv.1 kv.2) kvs
theorem KV.merge : ∀ {more : List (Key × V)} {rs : List (Key × Value)} {kvs : List (Key × V)} {vs : List (Key × Value)}, KV more rs → KV kvs vs → KV (mergeK kvs more) (merged vs rs) := by
  intro more rs kvs vs r
  unfold KV at r
  induction r generalizing kvs vs with
  | nil => intro q; exact q
  | @cons p q ps qs h t ih =>
    intro r0
    have e : KV (putK kvs p.1 p.2) (stored vs q.1 q.2) := by
      have := r0.put p.1 h.2
      rw [← h.1]; exact this
    exact ih e
noncomputable def tDisp (trs : List (TE × TE)) : TE := fun σ H Q => ∀ p, H p = none → tPairs trs σ (upd H p (.dK [])) fun ps H2 => H2 p = some (.dK []) ∧ ∃ kvs : List (Key × V), ps = kvs.map (fun kv => (kV kv.1, kv.2)) ∧ kvs.length ≤ 15 ∧ Q (.ref p) (upd H2 p (.dK (mergeK [] kvs)))
structure M1 (X : Cx) (o : Expr) (m : Str) (apos : Pos) (e : Expr) (cpos : Pos) : Prop where
  base : attributeBase o m X.env (eval o X.env) = eval o X.env
  few : ((backTo cpos (starEach [e] X.env)).all (fun x => !x.1) && (backToKw cpos (keywordEach [] X.env)).all (fun x => x.1.isSome)
    && decide (([e] : List Expr).length + ([] : List Keyword).length + (if ([] : List Keyword).isEmpty then 0 else 1) < 30)) = true
  line : (apos.endLine == cpos.line) = true
  trees : backTo cpos (starEach [e] X.env) = [(false, eval e X.env)]
structure M2 (X : Cx) (o : Expr) (m : Str) (apos : Pos) (e f : Expr) (cpos : Pos) : Prop where
  base : attributeBase o m X.env (eval o X.env) = eval o X.env
  few : ((backTo cpos (starEach [e, f] X.env)).all (fun x => !x.1) && (backToKw cpos (keywordEach [] X.env)).all (fun x => x.1.isSome)
    && decide (([e, f] : List Expr).length + ([] : List Keyword).length + (if ([] : List Keyword).isEmpty then 0 else 1) < 30)) = true
  line : (apos.endLine == cpos.line) = true
  trees : backTo cpos (starEach [e, f] X.env) = [(false, eval e X.env), (false, eval f X.env)]
noncomputable def IsD (H : Hp) (a : Addr) : Prop := (∃ kvs, Rd H a (.dK kvs)) ∨ ∃ kvs, Rd H a (.dT kvs)
section
variable {X : Cx} {pins : List (Addr × Obj)} {σ : St} {H : Hp} {s : Shared} {a : Addr} {y d : V} {u r : Value} {o : Option V} {A : Around} {E : Value → Shared → Prop}
end
noncomputable def tDGet1 (td ty : TE) : TE := fun σ H Q => td σ H fun x H1 => ∃ a, x = .ref a ∧ IsD H1 a ∧ ty σ H1 fun y H2 => ∃ o, DGet H2 a y o ∧ Q (o.getD .non) H2
noncomputable def tDGet2 (td ty tx : TE) : TE := fun σ H Q => td σ H fun x H1 => ∃ a, x = .ref a ∧ IsD H1 a ∧ ty σ H1 fun y H2 => tx σ H2 fun z H3 => ∃ o, DGet H3 a y o ∧ Q (o.getD z) H3
noncomputable def tDPop1 (td ty : TE) : TE := fun σ H Q => td σ H fun x H1 => ∃ a, x = .ref a ∧ IsD H1 a ∧ ty σ H1 fun y H2 => ∃ kvs k v, H2 a = some (.dK kvs) ∧ y = kV k ∧ valV kvs k = some v ∧ Q v (upd H2 a (.dK (dropK kvs k)))
noncomputable def tDPop2 (td ty tx : TE) : TE := fun σ H Q => td σ H fun x H1 => ∃ a, x = .ref a ∧ IsD H1 a ∧ ty σ H1 fun y H2 => tx σ H2 fun z H3 => ∃ kvs k, H3 a = some (.dK kvs) ∧ y = kV k ∧
  (∀ v, valV kvs k = some v → Q v (upd H3 a (.dK (dropK kvs k)))) ∧ (valV kvs k = none → Q z H3)
section
variable {X : Cx} {o e f : Expr} {apos cpos : Pos} {td ty tx : TE}
end
section
variable {X : Cx} {pins : List (Addr × Obj)} {σ : St} {H : Hp} {s : Shared} {a : Addr} {kvs : List (Key × V)} {A : Around} {E : Value → Shared → Prop}
end
section
variable {X : Cx} {pins : List (Addr × Obj)} {σ : St} {H : Hp} {s : Shared} {a : Addr} {y : V} {u : Value} {A : Around} {E : Value → Shared → Prop}
end
end L2
set_option maxHeartbeats 4000000
namespace L2
open PySem PySem.Spec PyProof.Rows
mutual
inductive Is (K : PySem.W.Frag) (H : Hp) : V → PyData → Prop
  | non : Is K H .non .none
  | bl (b : Bool) : Is K H (.bl b) (.bool b)
  | int (i : Int) : Is K H (.int i) (.int i)
  | str (x : Str) : Is K H (.str x) (.str x)
  | tup {a : Addr} {xs : List V} {ds : List PyData} : SqT K H a xs → IsAll K H xs ds → Is K H (.ref a) (.tuple ds)
  | lst {a : Addr} {xs : List V} {ds : List PyData} : SqL K H a xs → IsAll K H xs ds → Is K H (.ref a) (.list ds)
inductive IsAll (K : PySem.W.Frag) (H : Hp) : List V → List PyData → Prop
  | nil : IsAll K H [] []
  | cons {v : V} {vs : List V} {d : PyData} {ds : List PyData} : Is K H v d → IsAll K H vs ds → IsAll K H (v :: vs) (d :: ds)
end
section
variable {K : PySem.W.Frag} {H H' : Hp}
theorem same_tup {a : Addr} {xs : List V} (e : Same H H') (h : SqT K H a xs) : SqT K H' a xs := by
  rcases h with (h | ⟨o, h⟩) | h
  · exact .inl (.inl (e _ _ h))
  · exact .inl (.inr ⟨o, e _ _ h⟩)
  · exact .inr h
mutual
theorem Is.mono (e : Same H H') : ∀ {v : V} {d : PyData}, Is K H v d → Is K H' v d
  | _, _, .non => .non
  | _, _, .bl b => .bl b
  | _, _, .int i => .int i
  | _, _, .str x => .str x
  | _, _, .tup h t => .tup (same_tup e h) (IsAll.mono e t)
  | _, _, .lst h t => .lst (e.seq h) (IsAll.mono e t)
theorem IsAll.mono (e : Same H H') : ∀ {vs : List V} {ds : List PyData}, IsAll K H vs ds → IsAll K H' vs ds
  | _, _, .nil => .nil
  | _, _, .cons h t => .cons (Is.mono e h) (IsAll.mono e t)
end
theorem IsAll.length : ∀ {vs : List V} {ds : List PyData}, IsAll K H vs ds → vs.length = ds.length
  | _, _, .nil => rfl
  | _, _, .cons _ t => congrArg Nat.succ t.length
theorem IsAll.get : ∀ {vs : List V} {ds : List PyData} {i : Nat} {d : PyData}, IsAll K H vs ds → ds[i]? = some d → ∃ v, vs[i]? = some v ∧ Is K H v d
  | _, _, _, _, .nil, e => by simp at e
  | _, _, 0, _, .cons h _, e => by simp at e; subst e; exact ⟨_, rfl, h⟩
  | _, _, i + 1, d, .cons _ t, e => by
    obtain ⟨v, h1, h2⟩ := IsAll.get (i := i) (d := d) t (by simpa using e)
    exact ⟨v, by simpa using h1, h2⟩
theorem Is.none_of {v : V} (h : Is K H v .none) : v = .non := by cases h; rfl
end
section
variable {X : Cx} {pins : List (Addr × Obj)} {σ : St} {H : Hp} {s : Shared}
mutual
theorem Is.reads (I : Inv X pins σ H s) : ∀ {v : V} {d : PyData} {u : Value}, Is X.K H v d → RelV v u → ∃ as, Reads s.heap u d as
  | _, _, _, .non, r => by cases r; exact ⟨_, .none⟩
  | _, _, _, .bl b, r => by cases r; exact ⟨_, .bool b⟩
  | _, _, _, .int i, r => by obtain ⟨t, rfl⟩ := r; exact ⟨_, .int i t⟩
  | _, _, _, .str x, r => by obtain ⟨t, rfl⟩ := r; exact ⟨_, .str x t⟩
  | _, _, _, .tup h t, r => by
    cases r
    obtain ⟨its, rv, ⟨o, ho, hc, n, hd⟩, _⟩ := I.tuple h
    obtain ⟨as, ra⟩ := IsAll.reads I t rv
    exact ⟨_, .tuple ho hc hd (by simpa using ra)⟩
  | _, _, _, .lst h t, r => by
    cases r
    obtain ⟨its, rv, pl, _⟩ := I.list h
    obtain ⟨o, ho, hc, n, hd⟩ := pl.isList
    obtain ⟨as, ra⟩ := IsAll.reads I t rv
    exact ⟨_, .list ho hc hd (by simpa using ra)⟩
theorem IsAll.reads (I : Inv X pins σ H s) : ∀ {vs : List V} {ds : List PyData} {us : List Value}, IsAll X.K H vs ds → Vals vs us → ∃ as, ReadsAll s.heap us ds as
  | _, _, _, .nil, r => by cases r; exact ⟨_, .nil⟩
  | _, _, _, .cons h t, r => by
    cases r with
    | cons r1 r2 =>
      obtain ⟨a1, e1⟩ := Is.reads I h r1
      obtain ⟨a2, e2⟩ := IsAll.reads I t r2
      exact ⟨_, .cons e1 e2⟩
end
noncomputable def rEqD (K : PySem.W.Frag) (f : Bool → Bool) : R2 := fun x y H Q => ∃ d e, Is K H x d ∧ Is K H y e ∧ SeqAt.shaped d = true ∧ SeqAt.shaped e = true ∧ Q (.bl (f (PyData.eqv d e))) H
theorem op_eqD (hu : X.A.units + 64 < cLine) : OpR X (compareOp .Eq) (rEqD X.K id) := by
  intro pins s σ H x y v u Q I rx ry h
  obtain ⟨d, e, h1, h2, s1, s2, q⟩ := h
  obtain ⟨_, r1⟩ := h1.reads I rx
  obtain ⟨_, r2⟩ := h2.reads I ry
  exact SeqAt.compareEq_shaped r1 r2 s1 s2 hu ⟨.bl _, H, I, rfl, q⟩
theorem op_neD (hu : X.A.units + 64 < cLine) : OpR X (compareOp .NotEq) (rEqD X.K not) := by
  intro pins s σ H x y v u Q I rx ry h
  obtain ⟨d, e, h1, h2, s1, s2, q⟩ := h
  obtain ⟨_, r1⟩ := h1.reads I rx
  obtain ⟨_, r2⟩ := h2.reads I ry
  exact SeqAt.compareNe_shaped r1 r2 s1 s2 hu ⟨.bl _, H, I, rfl, q⟩
end
noncomputable def Sm (n : Nat) (i : Int) : Prop := i.natAbs < 2 ^ n
theorem Sm.mono {m n : Nat} {i : Int} (h : Sm m i) (e : m ≤ n) : Sm n i := Nat.lt_of_lt_of_le h (Nat.pow_le_pow_right (by decide) e)
theorem Sm.mul {m n : Nat} {i j : Int} (h : Sm m i) (k : Sm n j) : Sm (m + n) (i * j) := by
  unfold Sm at *
  rw [Int.natAbs_mul, Nat.pow_add]
  exact Nat.mul_lt_mul'' h k
theorem Sm.add {m n : Nat} {i j : Int} (h : Sm m i) (k : Sm n j) : Sm (max m n + 1) (i + j) := by
  unfold Sm at *
  have h1 : i.natAbs < 2 ^ max m n := Nat.lt_of_lt_of_le h (Nat.pow_le_pow_right (by decide) (Nat.le_max_left _ _))
  have h2 : j.natAbs < 2 ^ max m n := Nat.lt_of_lt_of_le k (Nat.pow_le_pow_right (by decide) (Nat.le_max_right _ _))
  have h3 := Int.natAbs_add_le i j
  rw [Nat.pow_succ]
  omega
theorem Sm.neg {m : Nat} {i : Int} (h : Sm m i) : Sm m (-i) := by unfold Sm at *; rwa [Int.natAbs_neg]
theorem Sm.sub {m n : Nat} {i j : Int} (h : Sm m i) (k : Sm n j) : Sm (max m n + 1) (i - j) := by rw [Int.sub_eq_add_neg]; exact h.add k.neg
theorem Sm.of_le {m : Nat} {i j : Int} (h : Sm m i) (e : j.natAbs ≤ i.natAbs) : Sm m j := Nat.lt_of_le_of_lt e h
theorem obj_of {P : Program} {w : World} {H : Hp} {h : Heap} {a : Addr} {o : HO} (x : ObjOk P w H h a o) : ∃ ob, h.get? a = some ob := by
  cases o with
  | lst xs => obtain ⟨_, _, _, _, e⟩ := x; exact ⟨_, e⟩
  | tup xs => obtain ⟨_, _, _, ob, e, _⟩ := x; exact ⟨ob, e⟩
  | dK kvs => obtain ⟨_, _, _, _, ob, _, _, e, _⟩ := x; exact ⟨ob, e⟩
  | dT kvs => obtain ⟨_, _, _, _, ob, _, _, e, _⟩ := x; exact ⟨ob, e⟩
  | set S n => obtain ⟨ob, _, _, _, e, _⟩ := x; exact ⟨ob, e⟩
  | ins C dx fs => obtain ⟨_, _, _, e, _⟩ := x; exact ⟨_, e⟩
  | own y => exact x
  | xd fs => obtain ⟨_, ⟨ob, _, _, e, _⟩, _⟩ := x; exact ⟨ob, e⟩
  | rng lo hi => obtain ⟨_, _, _, e⟩ := x; exact ⟨_, e⟩
  | frz ob u => exact ⟨_, x.1⟩
  | tbl ps => exact ⟨_, x⟩
  | met f y => exact ⟨_, x⟩
  | ext φ => exact x.2.1
structure Fly (P : Program) (w : World) (l : List Env) (H : Hp) (s : Shared) (ea : Addr) (cls : Value) (H' : Hp) (s' : Shared) : Prop where
  os : s'.os = s.os
  bare : AllBare s'.gens
  un : Un (frs l) [] H H' s.heap s'.heap
  hok : HOk P w H' s'.heap
  free : H' ea = none
  air : ∃ (B : Heap) (a0 : Value), Heap.FlyingW B l ea cls a0 s'.heap ∧ ∀ b o, s'.heap.get? b = some o → b ∉ frs l → (H' b ≠ none ∨ ∃ o', s.heap.get? b = some o') → B.get? b = some o
noncomputable def CXE (P : Program) (w : World) : CXT := fun l H s E e s' => ∃ ea cls H', e = .ref ea ∧ Fly P w l H s ea cls H' s' ∧ E cls none H'
theorem hok_in {P : Program} {w : World} {H : Hp} {h1 h2 B : Heap} (x : HOk P w H h1) (hB : ∀ b o, h1.get? b = some o → H b ≠ none → B.get? b = some o) (st : B.StaysIn h2) : HOk P w H h2 := fun a o e =>
  (x a o e).stay (fun b u hb q => st b u (hB b u q (by
    rcases hb with rfl | z
    · rw [e]; simp
    · rw [z]; simp))) (fun _ q => q) fun _ _ q => q
section
variable {P : Program} {w : World} {l : List Env} {H H' : Hp} {s s' : Shared} {ea : Addr} {cls a0 : Value} {B h2 : Heap}
theorem Fly.un_to (F : Fly P w l H s ea cls H' s') (fl : Heap.FlyingW B l ea cls a0 s'.heap) (hB : ∀ b o, s'.heap.get? b = some o → b ∉ frs l → (H' b ≠ none ∨ ∃ o', s.heap.get? b = some o') → B.get? b = some o)
    (st : B.StaysIn h2) (sm : s'.heap.UpToSlots h2) : Un (frs l) [] H H' s.heap h2 where
  keep := fun b o q n hb _ => st b o (hB b o (F.un.keep b o q n hb (by simp)) hb (.inr ⟨o, q⟩))
  slot := fun b o q n hb _ => by
    obtain ⟨sl, q1⟩ := F.un.slot b o q n hb (by simp)
    obtain ⟨_, o2, q2, nf⟩ := fl.2.2.1.mem hb
    rw [q1] at q2; cases q2
    obtain ⟨sl2, q3⟩ := sm b _ q1 nf
    exact ⟨sl2, q3⟩
  free := F.un.free
  there := fun b o q _ => by
    obtain ⟨o1, q1⟩ := F.un.there b o q (by simp)
    by_cases hb : b ∈ frs l
    · obtain ⟨_, o2, q2, nf⟩ := fl.2.2.1.mem hb
      obtain ⟨sl2, q3⟩ := sm b _ q2 nf
      exact ⟨_, q3⟩
    · exact ⟨o1, st b o1 (hB b o1 q1 hb (.inr ⟨o, q⟩))⟩
  tups := F.un.tups
  frzs := F.un.frzs
  tbls := F.un.tbls
end
section
variable {X : Cx} {pins : List (Addr × Obj)} {σ : St} {H H' : Hp} {s s' : Shared} {ea : Addr} {cls a0 : Value} {B h1 h2 : Heap} {M : Model}
theorem Fly.nofr (I : Inv X pins σ H s) (F : Fly X.prog X.w X.stack H s ea cls H' s') : ∀ b ∈ frs X.stack, H' b = none := fun b hb => by
  obtain ⟨_, o, ho, _⟩ := I.stack.mem hb
  exact F.un.free b o ho (I.stkFree b hb) (by simp)
theorem Fly.inv (I : Inv X pins σ H s) (F : Fly X.prog X.w X.stack H s ea cls H' s') (fl : Heap.FlyingW B X.stack ea cls a0 s'.heap)
    (hB : ∀ b o, s'.heap.get? b = some o → b ∉ frs X.stack → (H' b ≠ none ∨ ∃ o', s.heap.get? b = some o') → B.get? b = some o) (st : B.StaysIn h2) (sm : s'.heap.UpToSlots h2) : Inv X pins σ H' { s' with heap := h2 } :=
  I.call' (ch := []) (s' := { s' with heap := h2 }) F.os (F.un_to fl hB st sm) (hok_in F.hok (fun b o q n => hB b o q (fun z => n (F.nofr I b z)) (.inl n)) st) F.bare (fun b z => nomatch z)
theorem off_stack (I : Inv X pins σ H s) {b : Addr} {o : Obj} (q : X.s₀.heap.get? b = some o) (hb : b ∉ X.fs) : b ∉ frs X.stack := fun z => by
  rcases List.mem_cons.mp (I.stkSub b z) with e | e
  · exact absurd e (Nat.ne_of_lt (Nat.lt_of_lt_of_le (Heap.lt_size q) I.ok.above))
  · exact hb e
theorem leave_fly (hst : X.stack = X.env :: X.outer) (hfr : X.env.frame = some X.env.locals) (hex : X.ex = []) (I : Inv X pins σ H s) (F : Fly X.prog X.w X.stack H s ea cls H' s')
    {Q' : Unit → Shared → Prop} {E' : Value → Shared → Prop} (hQ : ∀ h2, Fly X.prog X.w X.outer X.H₀ X.s₀ ea cls H' { s' with heap := h2 } → Q' () { s' with heap := h2 }) : wpAny M X.A (leaving X.env (.ref ea)) Q' E' s' := by
  obtain ⟨B, a0, fl, hB⟩ := F.air
  have fl' : Heap.FlyingW B (X.env :: X.outer) ea cls a0 s'.heap := by rw [← hst]; exact fl
  refine wpAny_leaves_onW (by rw [← hst]; exact I.ok.frames) hfr fl' fun h2 fl2 sm => ?_
  have J := F.inv I fl hB fl2.1 sm
  have jb : Un X.fs [] X.H₀ H' X.s₀.heap h2 := by have := J.base; rw [hex] at this; exact this
  refine hQ h2 ⟨J.os, J.bare, jb, J.hok, F.free, B, a0, fl2, fun b o q hb hh => ?_⟩
  rcases hh with n | ⟨o', q'⟩
  · cases e : H' b with
    | none => exact absurd e n
    | some u =>
      obtain ⟨o1, q1⟩ := obj_of (F.hok b u e)
      have z := hB b o1 q1 (fun z => n (F.nofr I b z)) (.inl n)
      have y : some o = some o1 := q.symm.trans (fl2.1 b o1 z)
      cases y
      exact z
  · obtain ⟨o1, q1⟩ := I.base.there b o' q' (by rw [hex]; simp)
    obtain ⟨o2, q2⟩ := F.un.there b o1 q1 (by simp)
    have z := hB b o2 q2 (off_stack I q' hb) (.inr ⟨o1, q1⟩)
    have y : some o = some o2 := q.symm.trans (fl2.1 b o2 z)
    cases y
    exact z
theorem leave_made (hst : X.stack = X.env :: X.outer) (hfr : X.env.frame = some X.env.locals) (hex : X.ex = []) (I : Inv X pins σ H s) {vs : List Value} (hx : Heap.MadeExcOf s.heap h1 ea cls vs)
    {Q' : Unit → Shared → Prop} {E' : Value → Shared → Prop} (hQ : ∀ h2, Fly X.prog X.w X.outer X.H₀ X.s₀ ea cls H { s with heap := h2 } → Q' () { s with heap := h2 }) :
    wpAny M X.A (leaving X.env (.ref ea)) Q' E' { s with heap := h1 } := by
  have hin : ∀ env ∈ X.stack, ∀ a, env.frame = some a → a ∈ frs X.stack := fun env he a ha => List.mem_filterMap.mpr ⟨env, he, ha⟩
  have kB : ∀ b o, s.heap.get? b = some o → b ∉ frs X.stack → (PySem.W.hideAll s.heap (frs X.stack)).get? b = some o := fun b o q hb => PySem.W.hideAll_get _ q hb
  have hl : s.heap.FunFrames (PySem.W.hideAll s.heap (frs X.stack)) (X.env :: X.outer) := by
    have := PySem.W.funFrames_hide I.stack hin
    rw [hst] at this ⊢
    exact this
  refine wpAny_leaves_madeW (base := PySem.W.hideAll s.heap (frs X.stack)) (h := s.heap) (by rw [← hst]; exact I.ok.frames) hfr (fun b o q => PySem.W.of_hideAll _ q) hl hx fun h2 t fl2 _ _ sm => ?_
  have st := fl2.1
  have fresh : H ea = none := by
    cases e : H ea with
    | none => rfl
    | some u =>
      obtain ⟨o1, q1⟩ := obj_of (I.hok ea u e)
      have y := q1.symm.trans hx.new
      cases y
  have nofr : ∀ b, H b ≠ none → b ∉ frs X.stack := fun b n z => n (I.stkFree b z)
  have un2 : Un (frs X.stack) [] H H s.heap h2 := by
    refine ⟨fun b o q _ hb _ => st b o (kB b o q hb), fun b o q n hb _ => ?_, fun _ _ _ n _ => n, fun b o q _ => ?_, fun _ _ q => q, fun _ _ _ q => q, fun b ps q => ⟨#[], by rw [q]; simp⟩⟩
    · obtain ⟨_, o2, q2, nf⟩ := I.stack.mem hb
      rw [q] at q2; cases q2
      exact sm b o (hx.keeps b o q) nf
    · by_cases hb : b ∈ frs X.stack
      · obtain ⟨_, o2, q2, nf⟩ := I.stack.mem hb
        obtain ⟨sl, q3⟩ := sm b o2 (hx.keeps b o2 q2) nf
        exact ⟨_, q3⟩
      · exact ⟨o, st b o (kB b o q hb)⟩
  have J : Inv X pins σ H { s with heap := h2 } := I.call' (ch := []) (s' := { s with heap := h2 }) rfl un2 (hok_in I.hok (fun b o q n => kB b o q (nofr b n)) st) I.bare (fun b z => nomatch z)
  have jb : Un X.fs [] X.H₀ H X.s₀.heap h2 := by have := J.base; rw [hex] at this; exact this
  refine hQ h2 ⟨J.os, J.bare, jb, J.hok, fresh, _, _, fl2, fun b o q hb hh => ?_⟩
  rcases hh with n | ⟨o', q'⟩
  · cases e : H b with
    | none => exact absurd e n
    | some u =>
      obtain ⟨o1, q1⟩ := obj_of (I.hok b u e)
      have z := kB b o1 q1 (nofr b n)
      have y : some o = some o1 := q.symm.trans (st b o1 z)
      cases y
      exact z
  · obtain ⟨o1, q1⟩ := I.base.there b o' q' (by rw [hex]; simp)
    have z := kB b o1 q1 (off_stack I q' hb)
    have y : some o = some o1 := q.symm.trans (st b o1 z)
    cases y
    exact z
end
noncomputable def Lifts (X : Cx) (E : XK) : Prop := ∀ (pins : List (Addr × Obj)) (σ : St) (H : Hp) (s : Shared) (ea : Addr) (cls : Value) (vs : List Value) (h1 : Heap), Inv X pins σ H s → Heap.MadeExcOf s.heap h1 ea cls vs → E cls none H → X.xe (.ref ea) { s with heap := h1 }
noncomputable def PassS (CX : CXT) (X : Cx) (E : St → XK) : Prop := ∀ (pins : List (Addr × Obj)) (σ : St) (H : Hp) (s : Shared) (e : Value) (s' : Shared), Inv X pins σ H s → CX X.stack H s (E σ) e s' → X.xe e s'
section
variable {P : Program} {w : World} {K : PySem.W.Frag} {mg : Str → Option Value} {base : Heap} {N : List Str} {qual : Str} {scope : Scope} {f : Addr} {cd : Value} {A : Around} {outer : List Env} {s : Shared} {H : Hp} {E : XK} {c : Bool}
theorem lifts_def : Lifts (cxOf (CXE P w) P w K mg base N qual scope f cd A outer s H E c) E := fun pins σ H1 s1 ea cls vs h1 I hx hE =>
  leave_made (X := cxOf (CXE P w) P w K mg base N qual scope f cd A outer s H E c) rfl rfl rfl I hx fun h2 F => ⟨ea, cls, H1, rfl, F, hE⟩
theorem passS_def : PassS (CXE P w) (cxOf (CXE P w) P w K mg base N qual scope f cd A outer s H E c) (fun _ => E) := fun pins σ H1 s1 e s' I ⟨ea, cls, H', he, F, hE⟩ => by
  subst he
  exact leave_fly (X := cxOf (CXE P w) P w K mg base N qual scope f cd A outer s H E c) rfl rfl rfl I F fun h2 F2 => ⟨ea, cls, H', rfl, F2, hE⟩
end
section
variable {P : Program} {w : World} {K : PySem.W.Frag} {mg : Str → Option Value} {base : Heap}
theorem Fun.okE {x qual : Str} {st : Stmt} {f : Addr} {fd : FuncData} {N ps : List Str} {k : Nat} {sp : Sp} (F : Fun K x qual st f fd) (S : FnScope N ps (defScope st)) (len : ∀ vs H Q E, sp vs H Q E → vs.length = ps.length)
    (hbody : ∀ (cdv : Value) (A : Around) (outer : List Env) (s : Shared) (H : Hp) (vs : List V) (Q : VK) (E : XK), Room k (A.deeper (envOfC qual (defScope st) s.heap.objs.size f cdv)) → sp vs H Q E →
      ∃ t, PSs (cxOf (CXE P w) P w K mg base N qual (defScope st) f cdv A outer s H E) (defBody st) t ∧ t { nx := fun _ H' => Q .non H', rt := Q } (start N vs) H) : FnOk P w K mg base (CXE P w) (k + 1) f fd ps sp := by
  obtain ⟨oc, od, kV, doc, pm, an, cdv, ct, osl, rfl, lk, hcd⟩ := F.ex
  exact fn_of lk hcd S len fun A outer s H vs Q E hr hsp => hbody cdv A outer s H vs Q E hr hsp
structure FunG (K : PySem.W.Frag) (x qual : Str) (st : Stmt) (f : Addr) (fd : FuncData) : Prop where
  ex : ∃ (oc : Value) (od : Option Addr) (dV kV doc pm : Value) (an : Option Addr) (cdv ct : Value) (osl : Array (Option Value)),
    fd = PySem.W.fnOf x qual (defArgs st) (defBody st) (defScope st) dV kV doc pm an cdv ct ∧ K.lookup f = some ⟨oc, od, .func fd, osl⟩ ∧ PySem.W.codeIn K cdv qual = true
  kp : PySem.W.keepIn K (.ref f) = true
theorem Fun.g {x qual : Str} {st : Stmt} {f : Addr} {fd : FuncData} (F : Fun K x qual st f fd) : FunG K x qual st f fd := by
  obtain ⟨oc, od, kV, doc, pm, an, cdv, ct, osl, e, lk, hcd⟩ := F.ex
  exact ⟨⟨oc, od, _, kV, doc, pm, an, cdv, ct, osl, e, lk, hcd⟩, F.kp⟩
theorem FunG.okE {x qual : Str} {st : Stmt} {f : Addr} {fd : FuncData} {N ps : List Str} {k : Nat} {sp : Sp} (F : FunG K x qual st f fd) (S : FnScope N ps (defScope st)) (len : ∀ vs H Q E, sp vs H Q E → vs.length = ps.length)
    (hbody : ∀ (cdv : Value) (A : Around) (outer : List Env) (s : Shared) (H : Hp) (vs : List V) (Q : VK) (E : XK), Room k (A.deeper (envOfC qual (defScope st) s.heap.objs.size f cdv)) → sp vs H Q E →
      ∃ t, PSs (cxOf (CXE P w) P w K mg base N qual (defScope st) f cdv A outer s H E) (defBody st) t ∧ t { nx := fun _ H' => Q .non H', rt := Q } (start N vs) H) : FnOk P w K mg base (CXE P w) (k + 1) f fd ps sp := by
  obtain ⟨oc, od, dV, kV, doc, pm, an, cdv, ct, osl, rfl, lk, hcd⟩ := F.ex
  exact fn_of lk hcd S len fun A outer s H vs Q E hr hsp => hbody cdv A outer s H vs Q E hr hsp
end
noncomputable abbrev veMro : List Value := [.type "ValueError", .type "Exception", .type "BaseException", .type "object"]
noncomputable def ExcC (K : PySem.W.Frag) (C : Addr) : Prop := PySem.W.excIn K C veMro "ValueError.__new__" = true
theorem ExcC.obj {K : PySem.W.Frag} {h : Heap} {C : Addr} (q : ExcC K C) (X : K.In h) :
    ∃ bm N nm qn bs hd sn sub ab col dd k0 k1 k2 k3 k5 mN, h.get? C = some (excClassObj nm qn C N bs bm hd sn sub ab col dd k0 k1 k2 k3 k5 "ValueError.__new__") ∧ h.Ns N mN ∧ mN "__init__" = none ∧ OwnTail h veMro bm := by
  unfold ExcC PySem.W.excIn at q
  split at q
  · rename_i dd cd sl ho
    split at q
    · rename_i C' bm k0 k1 k2 k3 n k5 em es
      simp only [Bool.and_eq_true, beq_iff_eq, Bool.not_eq_true'] at q
      obtain ⟨⟨⟨⟨⟨e1, e2⟩, e3⟩, e4⟩, e5⟩, e6⟩ := q
      subst e1 e2
      obtain ⟨nm, bs, mro, ns, qn, hd, sn, sub, ab, col, del⟩ := cd
      dsimp only at em e3 e5 e6
      subst em e3
      obtain ⟨l⟩ := sl
      dsimp only at es
      subst es
      exact ⟨bm, ns, nm, qn, bs, hd, sn, sub, ab, col, dd, k0, k1, k2, k3, k5, _, X _ _ ho, .of_isNs (PySem.W.isNs_of_in X e5), PySem.W.nsMap_none_of_in X e5 e6, PySem.W.tail_of_in X e4⟩
    · cases q
  · cases q
section
variable {X : Cx} {E : XK} {x : Str} {C : Addr} {np cpos pos : Pos} {e : Expr} {es : List Expr} {t : TA}
noncomputable def tRaise (E : XK) (C : Addr) (t : TA) : TS := fun _ σ H => t σ H fun vs H1 => vs.length ≤ sizeLine ∧ E (.ref C) none H1
end
noncomputable def tCallS (sp : Sp) (dvs : List V) (E : St → XK) (t : TA) : TE := fun σ H Q => t σ H fun vs H1 => sp (vs ++ dvs) H1 Q (E σ)
section
variable {X : Cx} {CX : CXT} {k : Nat} {f C : Addr} {fd : FuncData} {ps : List Str} {sp : Sp} {dvs : List V} {ds : List Value} {E : St → XK} {x m : Str} {p pos apos : Pos} {e o : Expr} {es : List Expr} {ta : TE} {t : TA}
theorem run_fnS {pins : List (Addr × Obj)} {σ : St} {H : Hp} {s : Shared} {Q : VK} {us : List Value} {vs : List V} (F : FnOk X.prog X.w X.K X.mg X.base CX k f fd ps sp) (hr : Room k X.A) (hb : Binds X.K fd ps ds) (hd : Vals dvs ds) (hx : PassS CX X E)
    (I : Inv X pins σ H s) (r : Vals vs us) (h : sp (vs ++ dvs) H Q (E σ)) : wpAny (model X.prog X.w) X.A (call (.ref f) us) (EP X pins σ Q) X.xe s := by
  have r2 : Vals (vs ++ dvs) (us ++ ds) := r.append hd
  have hl : (us ++ ds).length = ps.length := by rw [← r2.length]; exact F.len _ _ _ _ h
  refine wpAny_call (codeAny_mono (F.run X.A X.stack s H ⟨us, []⟩ (us ++ ds) (vs ++ dvs) Q (E σ) hr I.env0 (hb s us I.kIn hl) r2 h) fun r s' hq => ?_)
  cases r with
  | error e => exact hx pins σ H s e s' I hq
  | ok fl =>
    cases fl with
    | ret u => exact I.after hq
    | next => exact False.elim hq
    | brk => exact False.elim hq
    | cont => exact False.elim hq
theorem pe_callS (F : FnOk X.prog X.w X.K X.mg X.base CX k f fd ps sp) (hr : Room k X.A) (hg : Gl X x) (hm : X.mg x = some (.ref f)) (hk : PySem.W.keepIn X.K (.ref f) = true) (hb : Binds X.K fd ps ds) (hd : Vals dvs ds) (hx : PassS CX X E)
    (ha : PA X (e :: es) t) (hdb : (x == ("__debug__" : Str)) = false := by decide) (he : starEach (e :: es) X.env = (false, eval e X.env) :: starEach es X.env := by rfl) (hpl : (backTo pos (starEach es X.env)).any (·.1) = false := by rfl) :
    PE X (.Call (.Name x p) (e :: es) [] pos) (tCallS sp dvs E t) := by
  intro pins s σ H Q I h
  refine wpAny_Call_Name_kw (ld_glob I hg hm ?_ hdb)
  refine PySem.W.callWith_K (h₀ := X.base) I.ok.mod.kin hk (thn (ha pos pins s σ H _ I h) fun us s1 ⟨vs, H1, I1, r, q⟩ => ⟨I1.kIn, ?_⟩) he hpl
  exact run_fnS F hr hb hd hx I1 r q
end
noncomputable def tryX (X : Cx) (pn : List (Addr × Obj)) (E : St → XK) : Cx :=
  { X with pn := X.pn ++ pn, xe := fun e s' => ∃ σ H s ea cls H', Inv X pn σ H s ∧ e = .ref ea ∧ Fly X.prog X.w X.stack H s ea cls H' s' ∧ E σ cls none H' }
noncomputable def handX (X : Cx) (ea : Addr) : Cx := { X with A := X.A.mark (some (.ref ea)), calm := false, xe := fun _ _ => False }
section
variable {X : Cx} {pn pins : List (Addr × Obj)} {σ : St} {H : Hp} {s : Shared} {E : St → XK} {ea : Addr}
theorem of_try (ok : (tryX X pn E).Ok) : X.Ok := ⟨ok.mod, ok.kind, ok.glob, ok.blt, ok.above, ok.inj, ok.has, ok.cab, ok.hd, ok.frames, ok.stk, ok.exf, ok.bs, ok.bsz, ok.noex, ok.exfs, ok.funs, ok.frf⟩
theorem inv_of_try (I : Inv (tryX X pn E) pins σ H s) : Inv X pn σ H s := ⟨of_try I.ok, I.os, I.bare, I.base, I.loc, I.cell, I.free, I.freeC, fun p hp => I.pin p (List.mem_append_left _ hp), I.hok, I.len⟩
theorem passS_try : PassS (CXE X.prog X.w) (tryX X pn E) E := fun pins σ H s e s' I ⟨ea, cls, H', he, F, hE⟩ => ⟨σ, H, s, ea, cls, H', inv_of_try I, he, F, hE⟩
theorem inv_track {a : Addr} {o : HO} (I : Inv X pins σ H s) (hn : H a = none) (h0 : X.s₀.heap.get? a = none) (hL : a ≠ X.env.locals) (hc : ∀ x c, X.env.cells.lookup x = some c → c ≠ a) (hp : ∀ p ∈ X.pn ++ pins, p.1 ≠ a)
    (new : ObjOk X.prog X.w (upd H a o) s.heap a o) : Inv X pins σ (upd H a o) s := by
  have ne : ∀ b u, H b = some u → b ≠ a := fun b u q => ne_of_none q hn
  refine ⟨I.ok, I.os, I.bare, ⟨I.base.keep, I.base.slot, fun b ob q n hx => ?_, I.base.there, fun b xs q => ?_, fun b ob u q => ?_, fun b ps q => ?_⟩, I.loc, I.cell, ?_, fun x c e => ?_, fun p hq => ?_, fun b u e => ?_, I.len⟩
  · rw [upd_ne (fun z => by rw [z, h0] at q; cases q)]; exact I.base.free b ob q n hx
  · have z := I.base.tups b xs q
    rw [upd_ne (ne b _ z)]; exact z
  · have z := I.base.frzs b ob u q
    rw [upd_ne (ne b _ z)]; exact z
  · obtain ⟨more, z⟩ := I.base.tbls b ps q
    exact ⟨more, by rw [upd_ne (ne b _ z)]; exact z⟩
  · rw [upd_ne (Ne.symm hL)]; exact I.free
  · rw [upd_ne (hc x c e)]; exact I.freeC x c e
  · obtain ⟨z1, z2, z3⟩ := I.pin p hq
    exact ⟨z1, by rw [upd_ne (hp p hq)]; exact z2, z3⟩
  · by_cases hb : b = a
    · subst hb; rw [upd_same] at e; cases e; exact new
    · rw [upd_ne hb] at e
      exact (I.hok b u e).stay (fun _ _ _ q => q) (fun c q => by rw [upd_ne (ne c _ q)]; exact q) fun c xs q => by rw [upd_ne (ne c _ q)]; exact q
theorem Fly.fresh {H' : Hp} {s' : Shared} {cls : Value} (F : Fly X.prog X.w X.stack H s ea cls H' s') : s.heap.get? ea = none := by
  obtain ⟨B, a0, fl, hB⟩ := F.air
  cases e : s.heap.get? ea with
  | none => rfl
  | some o =>
    obtain ⟨oe, vs, T, oT, ts, he, _, hd, _⟩ := fl.2.2.2
    have nf : ea ∉ frs X.stack := fun z => by
      obtain ⟨_, o2, q2, nf⟩ := fl.2.2.1.mem z
      rw [he] at q2; cases q2
      exact nf vs hd
    have z := hB ea oe he nf (.inr ⟨o, e⟩)
    have y := fl.2.1
    rw [y] at z; cases z
end
noncomputable def excO (ea : Addr) (cls : Value) : HO := .ext fun h => ∃ o vs, h.get? ea = some o ∧ o.cls = cls ∧ o.data = .fields vs
noncomputable def tTry (K : PySem.W.Frag) (c : Value) (i : Nat) (tb : (St → XK) → TS) (th : TS) : TS := fun D σ H =>
  tb (fun σ' cls _ H' => PySem.W.exmOne K cls c = some true ∧ ∀ ea, H' ea = none →
    th { nx := fun σ'' H'' => D.nx (σ''.set i none) H'', rt := D.rt, bk := fun σ'' H'' => D.bk (σ''.set i none) H'', ct := fun σ'' H'' => D.ct (σ''.set i none) H'' } (σ'.set i (some (.ref ea))) (upd H' ea (excO ea cls))) D σ H
section
variable {X : Cx} {body suite : List Stmt} {b0 : Stmt} {x n : Str} {np hpos pos : Pos} {i : Nat} {c : Value} {tb : (St → XK) → TS} {th : TS}
end
noncomputable def Has (P : Program) (w : World) (K : PySem.W.Frag) (mg : Str → Option Value) (base : Heap) (k : Nat) (x : Str) (ps : List Str) (sp : Sp) : Prop :=
  ∃ f fd, mg x = some (.ref f) ∧ PySem.W.keepIn K (.ref f) = true ∧ Binds K fd ps [] ∧ FnOk P w K mg base (CXE P w) k f fd ps sp
noncomputable def DefAt (K : PySem.W.Frag) (mg : Str → Option Value) (x : Str) (st : Stmt) (ps : List Str) : Prop :=
  ∃ f fd, mg x = some (.ref f) ∧ Fun K x x st f fd ∧ Binds K fd ps []
section
variable {P : Program} {w : World} {K : PySem.W.Frag} {mg : Str → Option Value} {base : Heap} {x : Str} {ps N : List Str} {sp sp' : Sp} {j k : Nat} {st : Stmt}
theorem Has.mono (h : Has P w K mg base j x ps sp) (e : j ≤ k) : Has P w K mg base k x ps sp := by
  obtain ⟨f, fd, h1, h2, h3, h4⟩ := h
  exact ⟨f, fd, h1, h2, h3, h4.mono e⟩
theorem Has.imp (h : Has P w K mg base k x ps sp) (e : ∀ vs H Q E, sp' vs H Q E → sp vs H Q E) : Has P w K mg base k x ps sp' := by
  obtain ⟨f, fd, h1, h2, h3, h4⟩ := h
  exact ⟨f, fd, h1, h2, h3, h4.imp e⟩
end
theorem passSN {X : Cx} {P : Program} {w : World} : PassS (CXE P w) X (fun _ => E0) := fun _ _ _ _ _ _ _ ⟨_, _, _, _, _, h⟩ => h.elim
section
variable {X : Cx} {k : Nat} {ps : List Str} {sp : Sp} {E : St → XK} {x : Str} {p pos : Pos} {e : Expr} {es : List Expr} {t : TA}
theorem pe_callE (h : Has X.prog X.w X.K X.mg X.base k x ps sp) (hr : Room k X.A) (hg : Gl X x) (hx : PassS (CXE X.prog X.w) X E) (ha : PA X (e :: es) t) (hdb : (x == ("__debug__" : Str)) = false := by decide)
    (he : starEach (e :: es) X.env = (false, eval e X.env) :: starEach es X.env := by rfl) (hpl : (backTo pos (starEach es X.env)).any (·.1) = false := by rfl) : PE X (.Call (.Name x p) (e :: es) [] pos) (tCallS sp [] E t) := by
  obtain ⟨f, fd, h1, h2, h3, h4⟩ := h
  exact pe_callS h4 hr hg h1 h2 h3 .nil hx ha hdb he hpl
end
theorem Sm.log {n : Nat} {i : Int} (h : Sm n i) (h0 : i ≠ 0) : i.natAbs.log2 < n := (Nat.log2_lt (by omega)).mpr h
theorem Sm.bits {n : Nat} {i : Int} (h : Sm n i) : Builtin.Int.intBits i ≤ n := by
  unfold Builtin.Int.intBits
  by_cases h0 : i = 0
  · subst h0; exact Nat.zero_le _
  · rw [if_neg (by simpa using h0)]
    exact h.log h0
noncomputable def CMulB (i j : Int) : Prop := ∃ m n, Sm m i ∧ Sm n j ∧ m + n ≤ 134217728
noncomputable def CDivB (_ j : Int) : Prop := j ≠ 0 ∧ ∃ n, Sm n j ∧ n ≤ 9000
section
variable {X : Cx}
theorem op_mulB : OpR X (binaryOp .Mult) (rI CMulB fun i j => .int (i * j)) := opI fun _ _ _ _ _ _ _ ⟨_, _, h1, h2, h3⟩ q => mul_int q (IntMulOk.of_le h1.bits h2.bits h3)
theorem op_fdivB : OpR X (binaryOp .FloorDiv) (rI CDivB fun i j => .int (i.fdiv j)) := opI fun _ _ _ _ _ _ _ ⟨h0, _, h1, h2⟩ q => floordiv_int h0 q (.inl (PyProof.noPylong_of_log2 (Nat.lt_of_lt_of_le (h1.log h0) h2)))
end
section
variable {X : Cx} {x : Str} {n : String} {C : Addr} {pos : Pos}
theorem pe_ty (hg : Gl X x) (hm : X.mg x = none) (hv : bootBuiltins x = some (.type n)) (hn : x ≠ "__name__" := by decide) (hd : (x == ("__debug__" : Str)) = false := by decide) : PE X (.Name x pos) (tC (.ty n)) :=
  pe_bltn (v := .ty n) hg hm hv rfl hn hd
theorem pe_cls (hg : Gl X x) (hm : X.mg x = some (.ref C)) (hd : (x == ("__debug__" : Str)) = false := by decide) : PE X (.Name x pos) (tC (.ref C)) := pe_glob (v := .ref C) hg hm rfl hd
end
structure ExcI (K : PySem.W.Frag) (C : Addr) : Prop where
  ga : PySem.W.findIn K (.ref C) "__getattribute__" = some (some (.builtin "BaseException.__getattribute__"))
  gh : PySem.W.findIn K (.ref C) "__getattr__" = some none
  cl : PySem.W.findIn K (.ref C) "__class__" = some (some (.builtin "object.__class__"))
  mo : PySem.W.mroIn K C (.type "object") = some true
  mb : PySem.W.mroIn K C (.type "BaseException") = some true
  hd : PySem.W.hasDictIn K C = true
section
variable {K : PySem.W.Frag} {prog : Program} {w : World} {A : Around} {E : Value → Shared → Prop} {h : Heap} {g : Array GenState} {d : Drawn} {t : Nat} {os : OsState} {a C : Addr} {o : Obj}
theorem exc_class_get {R : Result → Shared → Prop} {tp : Value} (X : K.In h) (z : ExcI K C) (hx : h.get? a = some o) (hc : o.cls = .ref C) (hq : R (.ok (.ret (.ref C))) ⟨h, g, d, t, os⟩) :
    codeAny (model prog w) A (.call (.builtin "getset_descriptor.__get__") ⟨[.builtin "object.__class__", .ref a, tp], []⟩) R ⟨h, g, d, t, os⟩ := by
  have L0 : PySem.W.Looks (model prog w) h (typeOf (.ref a)) (.ref C) := by
    rw [← hc]
    exact (PySem.W.Looks.ld hx).andThen .now
  have L1 := PySem.W.looks_mroIn (M := model prog w) X z.mo
  refine codeAny_call_builtin PySem.W.KF.slot_gs.plain PySem.W.KF.entry_gs (PySem.W.KF.slot_gs.check _ _ _ _ _ _ _ _ PySem.W.KF.type_class (PySem.W.KF.args_gs _ _ _) ?_)
  unfold Builtin.«getset_descriptor.__get__» Builtin.Getset_descriptor.descrGet
  rw [PySem.W.dga_obj]
  refine wpAny_bind (wpAny_pure ?_)
  unfold Builtin.Getset_descriptor.descrGetter Builtin.Getset_descriptor.descrCheckInstance Builtin.Getset_descriptor.descrNameAndClass isInstance
  simp only [PySem.W.KF.owner_class]
  repeat lk
  refine ⟨Code.quiet_builtin _ (by decide +kernel), codeAny_builtin PySem.W.KF.entry_class ?_⟩
  unfold Builtin.«object.__class__» shownTypeOf
  repeat lk
  exact hq
theorem exc_class_entry {tk : Tok} {Q : Fin → Shared → Prop} (X : K.In h) (z : ExcI K C) (hx : h.get? a = some o) (hc : o.cls = .ref C) (hq : Q (.done (.ret (.ref C))) ⟨h, g, d, t, os⟩) :
    wpAny (model prog w) A (Builtin.«object.__getattribute__» ⟨[.ref a, .str "__class__" tk], []⟩) Q E ⟨h, g, d, t, os⟩ := by
  have hT5 : (⟨h, g, d, t, os⟩ : Shared).TypeIs (.builtin "object.__class__") "getset_descriptor" := F.typeOf_object_class
  have f5 := F.typeOf_object_class
  have f6 := F.slot_gs_get.lookup
  have f7 := F.slot_gs_set.lookup
  have LK : ∀ {A : Around} {Q : Option Value → Shared → Prop} {E : Value → Shared → Prop}, Q (some (.builtin "object.__class__")) ⟨h, g, d, t, os⟩ → wpAny (model prog w) A (typeLookup (.ref C) "__class__") Q E ⟨h, g, d, t, os⟩ :=
    fun q => (PySem.W.looks_findIn (M := model prog w) X z.cl).at q
  repeat (any_goals (first | assumption | (with_reducible refine wpAny_loadPart_at hx ?_; rw [hc]) | with_reducible refine LK ?_ | wp_step))
  refine exc_class_get X z hx hc ?_
  repeat (any_goals (first | assumption | wp_step))
theorem exc_check {M : Model} {nameV : Value} {Q : Unit → Shared → Prop} (X : K.In h) (z : ExcI K C) (hx : h.get? a = some o) (hc : o.cls = .ref C) (hq : Q () ⟨h, g, d, t, os⟩) :
    wpAny M A (checkBuiltinCall "BaseException.__getattribute__" ⟨[.ref a, nameV], []⟩) Q E ⟨h, g, d, t, os⟩ := by
  have hk : builtinKind "BaseException.__getattribute__" = some .slot := by decide +kernel
  have hsplit : splitId "BaseException.__getattribute__" = some ("BaseException", "__getattribute__") := by decide +kernel
  have ha := F.args_bexc_ga (.ref a) nameV
  have LS : ∀ {A : Around} {Q : Bool → Shared → Prop} {E : Value → Shared → Prop}, Q true ⟨h, g, d, t, os⟩ → wpAny M A (isSubtype (.ref C) (.type "BaseException")) Q E ⟨h, g, d, t, os⟩ :=
    fun q => (PySem.W.looks_mroIn (M := M) X z.mb).at q
  simp only [checkBuiltinCall, hk, hsplit]
  refine wpAny_bind ?_
  · unfold isInstance
    repeat (first | (with_reducible refine wpAny_loadPart_at hx ?_; rw [hc]) | with_reducible refine LS ?_ | wp_step)
    exact hq
theorem exc_class_by {tk : Tok} {Q : Value → Shared → Prop} (X : K.In h) (z : ExcI K C) (hx : h.get? a = some o) (hc : o.cls = .ref C) (hq : Q (.ref C) ⟨h, g, d, t, os⟩) :
    wpAny (model prog w) A (getAttrBy (.ref a) (.str "__class__" tk) false) Q E ⟨h, g, d, t, os⟩ := by
  have f3 := F.attr_ValueError.ga.bind (.ref a)
  have hx2 : (Value.builtin "BaseException.__getattribute__" == Value.builtin "object.__getattribute__") = false := by decide +kernel
  have hx1 : (onTheHeap (Value.ref C) && Value.builtin "BaseException.__getattribute__" == Value.builtin "object.__getattribute__") = false := by rw [hx2]; rfl
  have L1 : ∀ {A : Around} {Q : Option Value → Shared → Prop} {E : Value → Shared → Prop}, Q (some (.builtin "BaseException.__getattribute__")) ⟨h, g, d, t, os⟩ → wpAny (model prog w) A (typeLookup (.ref C) "__getattribute__") Q E ⟨h, g, d, t, os⟩ :=
    fun q => (PySem.W.looks_findIn (M := model prog w) X z.ga).at q
  have L2 : ∀ {A : Around} {Q : Option Value → Shared → Prop} {E : Value → Shared → Prop}, Q none ⟨h, g, d, t, os⟩ → wpAny (model prog w) A (typeLookup (.ref C) "__getattr__") Q E ⟨h, g, d, t, os⟩ :=
    fun q => (PySem.W.looks_findIn (M := model prog w) X z.gh).at q
  repeat (any_goals (first | assumption | (with_reducible refine wpAny_loadPart_at hx ?_; rw [hc]) | with_reducible refine L1 ?_ | with_reducible refine L2 ?_ | wp_step))
  refine codeAny_call_builtin F.attr_ValueError.ga.plain F.entry_bexc_ga (exc_check X z hx hc (exc_class_entry X z hx hc ?_))
  repeat (any_goals (first | assumption | wp_step))
theorem exc_class_attr {Q : Option Value → Shared → Prop} (X : K.In h) (z : ExcI K C) (hx : h.get? a = some o) (hc : o.cls = .ref C) (hq : Q (some (.ref C)) ⟨h, g, d, t + 1, os⟩) :
    wpAny (model prog w) A (getAttr? (.ref a) "__class__") Q E ⟨h, g, d, t, os⟩ := by
  unfold getAttr? getAttrBy?
  repeat (any_goals (first | assumption | with_reducible apply exc_class_by X z hx hc | wp_step))
theorem kitx_exc (z : ExcI K C) : PySem.W.KitX K (.ref a) (.ref C) (fun h => ∃ o, h.get? a = some o ∧ o.cls = .ref C) where
  ty := fun M h _ ⟨o, h1, h2⟩ => by
    rw [← h2]
    exact (PySem.W.Looks.ld h1).andThen .now
  it := fun _ _ X _ => by
    obtain ⟨cdD, hcD, _⟩ := PySem.W.any_some z.hd
    unfold PySem.W.clsIn at hcD
    split at hcD
    · rename_i c' d' cd' sl' ho
      intro A' Q' E' s' k q
      unfold isType loadHead
      exact wpAny_bind (wpAny_loadPart (k _ _ (X _ _ ho)) (wpAny_pure q))
    · cases hcD
  ne := fun h tp dd its n sl X htp => by
    obtain ⟨cdD, hcD, _⟩ := PySem.W.any_some z.hd
    refine Bool.eq_false_iff.mpr fun q => ?_
    have e : C = tp := Value.ref.inj (beq_iff_eq.mp q)
    subst e
    unfold PySem.W.clsIn at hcD
    split at hcD
    · rename_i c' d' cd' sl' ho
      have y := (X _ _ ho).symm.trans htp
      cases y
    · cases hcD
  ca := fun {prog w A E Q s} X ⟨o, h1, h2⟩ k => by
    obtain ⟨hh, g, d, t, os⟩ := s
    exact exc_class_attr X z h1 h2 k
end
noncomputable def clsV : V → Option Value
  | .ty n => some (.type n)
  | .ref a => some (.ref a)
  | _ => none
noncomputable def clsVs : List V → Option (List Value)
  | [] => some []
  | c :: r => match clsV c, clsVs r with
    | some v, some vs => some (v :: vs)
    | _, _ => none
theorem clsV_rel {c : V} {cv u : Value} (h : clsV c = some cv) (r : RelV c u) : u = cv := by
  cases c with
  | ty n => cases h; exact r
  | ref a => cases h; exact r
  | _ => cases h
theorem clsVs_rel : ∀ {cs : List V} {vs us : List Value}, clsVs cs = some vs → Vals cs us → us = vs
  | [], _, _, h, r => by cases h; cases r; rfl
  | c :: cs, vs, us, h, r => by
    unfold clsVs at h
    split at h
    · rename_i v ws h1 h2
      cases h
      cases r with
      | cons r1 r2 => rw [clsV_rel h1 r1, clsVs_rel h2 r2]
    · cases h
inductive TyE (K : PySem.W.Frag) (H : Hp) : V → Value → Prop where
  | of {x : V} {t : Value} (h : TyOf K H x t) : TyE K H x t
  | tup {a : Addr} {xs : List V} (h : SqT K H a xs) : TyE K H (.ref a) (.type "tuple")
  | lst {a : Addr} {xs : List V} (h : SqL K H a xs) : TyE K H (.ref a) (.type "list")
  | exc {a C : Addr} (h : H a = some (excO a (.ref C))) (z : ExcI K C) : TyE K H (.ref a) (.ref C)
section
variable {X : Cx} {pins : List (Addr × Obj)} {σ : St} {H : Hp} {s : Shared}
theorem TyE.kit {x : V} {u t : Value} (I : Inv X pins σ H s) (rx : RelV x u) (ty : TyE X.K H x t) : ∃ Hq : Heap → Prop, PySem.W.KitX X.K u t Hq ∧ Hq s.heap ∧ u ≠ .builtin "__main__.__loader__#opaque" := by
  cases ty with
  | tup h =>
    cases rx
    obtain ⟨its, _, ⟨o, h1, h2, _⟩, _⟩ := I.tuple h
    exact ⟨_, PySem.W.kitx_tuple, ⟨o, h1, h2⟩, fun z => nomatch z⟩
  | lst h =>
    cases rx
    obtain ⟨its, _, pl, _⟩ := I.list h
    obtain ⟨o, h1, h2, _⟩ := pl.isList
    exact ⟨_, PySem.W.kitx_list, ⟨o, h1, h2⟩, fun z => nomatch z⟩
  | @exc a C h z =>
    cases rx
    obtain ⟨⟨o, vs, h1, h2, _⟩, _⟩ := (show ObjOk X.prog X.w H s.heap a (excO a (.ref C)) from I.hok a _ h)
    exact ⟨_, kitx_exc z, ⟨o, h1, h2⟩, fun z => nomatch z⟩
  | of h =>
    cases h with
    | non => cases (show u = Value.none from rx); exact ⟨_, PySem.W.kitx_none, True.intro, fun z => nomatch z⟩
    | bl y => cases (show u = Value.bool y from rx); exact ⟨_, PySem.W.kitx_bool, True.intro, fun z => nomatch z⟩
    | int i => obtain ⟨t, q⟩ := (show ∃ t, u = Value.int i t from rx); cases q; exact ⟨_, PySem.W.kitx_int, True.intro, fun z => nomatch z⟩
    | str y => obtain ⟨t, q⟩ := (show ∃ t, u = Value.str y t from rx); cases q; exact ⟨_, PySem.W.kitx_str, True.intro, fun z => nomatch z⟩
    | flt y => obtain ⟨t, q⟩ := (show ∃ t, u = Value.float y t from rx); cases q; exact ⟨_, PySem.W.kitx_float, True.intro, fun z => nomatch z⟩
    | @lst a xs ea =>
      cases (show u = Value.ref a from rx)
      obtain ⟨_, _, n, _, h1⟩ := (show ObjOk X.prog X.w H s.heap a (.lst xs) from I.hok a _ ea)
      exact ⟨_, PySem.W.kitx_list, ⟨_, h1, rfl⟩, fun z => nomatch z⟩
    | @frz a ob xs ea =>
      cases (show u = Value.ref a from rx)
      obtain ⟨_, _, _, n, _, h1⟩ := (show ObjOk X.prog X.w H s.heap a (.frz ob (.lst xs)) from I.hok a _ ea)
      exact ⟨_, PySem.W.kitx_list, ⟨_, h1, rfl⟩, fun z => nomatch z⟩
    | @tup a xs ea =>
      cases (show u = Value.ref a from rx)
      obtain ⟨_, _, _, o, h1, h2, _⟩ := (show ObjOk X.prog X.w H s.heap a (.tup xs) from I.hok a _ ea)
      exact ⟨_, PySem.W.kitx_tuple, ⟨o, h1, h2⟩, fun z => nomatch z⟩
    | @dK a kvs ea =>
      cases (show u = Value.ref a from rx)
      obtain ⟨_, _, vs, _, o, es, ep, h1, h2, _⟩ := (show ObjOk X.prog X.w H s.heap a (.dK kvs) from I.hok a _ ea)
      exact ⟨_, PySem.W.kitx_dict, ⟨o, h1, h2.1⟩, fun z => nomatch z⟩
    | @dT a kvs ea =>
      cases (show u = Value.ref a from rx)
      obtain ⟨_, _, xs, _, o, es, ep, h1, h2, _⟩ := (show ObjOk X.prog X.w H s.heap a (.dT kvs) from I.hok a _ ea)
      exact ⟨_, PySem.W.kitx_dict, ⟨o, h1, h2.1⟩, fun z => nomatch z⟩
    | @ins a C dx fs ea cl ha hn htk hm =>
      cases (show u = Value.ref a from rx)
      obtain ⟨mA, O, _⟩ := ins_get I.hok ea
      obtain ⟨od, J, _⟩ := O.look
      exact ⟨_, PySem.W.kitx_own (cl.get _) cl.hd ha hn htk hm, J, fun z => nomatch z⟩
noncomputable def rIsI (K : PySem.W.Frag) : List V → Hp → VK → Prop := fun xs H Q => ∃ x c cv t b, xs = [x, c] ∧ clsV c = some cv ∧ TyE K H x t ∧ PySem.W.kitOne K t cv = some b ∧ Q (.bl b) H
noncomputable def rIsT (K : PySem.W.Frag) : List V → Hp → VK → Prop := fun xs H Q => ∃ x p cs vs t b, xs = [x, .ref p] ∧ SqT K H p cs ∧ clsVs cs = some vs ∧ TyE K H x t ∧ PySem.W.kitAny K t vs = some b ∧ Q (.bl b) H
theorem call_isinst : CallR X (.builtin "isinstance") (rIsI X.K) := by
  intro pins s σ H xs us Q I r h
  obtain ⟨x, c, cv, t, b, rfl, hc, ty, hk, q⟩ := h
  obtain ⟨u, c', rfl, rx, rc⟩ := vals2 r
  have ec := clsV_rel hc rc
  subst ec
  obtain ⟨Hq, Z, p, ne⟩ := ty.kit I rx
  exact PySem.W.kia_one Z I.kIn p hk ne fun tk => ⟨.bl b, H, I.tok tk, rfl, q⟩
theorem call_isinstT : CallR X (.builtin "isinstance") (rIsT X.K) := by
  intro pins s σ H xs us Q I r h
  obtain ⟨x, pa, cs, vs, t, b, rfl, hT, hc, ty, hk, q⟩ := h
  obtain ⟨u, c', rfl, rx, rc⟩ := vals2 r
  cases rc
  obtain ⟨its, rv, ⟨⟨cls, dd, data, sl⟩, ho, hcl, n, hd⟩, _⟩ := I.tuple hT
  dsimp only at hcl hd
  subst hcl hd
  have ei := clsVs_rel hc rv
  subst ei
  obtain ⟨Hq, Z, p, ne⟩ := ty.kit I rx
  exact PySem.W.kia_tup Z I.kIn p ho hk ne fun tk => ⟨.bl b, H, I.tok tk, rfl, q⟩
end
inductive D where
  | non | bl (b : Bool) | int (i : Int) | str (x : Str) | tup (ds : List D) | rol (ds : List D) | ref (n : Nat) | ty (t : String) | gl (x : Str)
inductive O where
  | lst (xs : List D) | dic (kvs : List (D × D)) | ins (C : Str) (fs : List (Str × D)) | exc (C : Str)
  | dit (kvs : List (D × D))
  | fdt (kvs : List (D × D))
noncomputable abbrev Sto := List O
noncomputable abbrev Dv := List (Option D)
inductive R (α : Type) where
  | ok (a : α) (S : Sto) | exc (C : Str) (S : Sto) | fail
noncomputable def R.bind {α β : Type} (r : R α) (f : α → Sto → R β) : R β := match r with
  | .ok a S => f a S
  | .exc C S => .exc C S
  | .fail => .fail
inductive RS where
  | next (δ : Dv) (S : Sto) | ret (d : D) (S : Sto) | brk (δ : Dv) (S : Sto) | cnt (δ : Dv) (S : Sto) | exc (C : Str) (δ : Dv) (S : Sto) | fail
noncomputable def RS.bind (r : RS) (f : Dv → Sto → RS) : RS := match r with
  | .next δ S => f δ S
  | r => r
noncomputable def R.toS {α : Type} (r : R α) (δ : Dv) (f : α → Sto → RS) : RS := match r with
  | .ok a S => f a S
  | .exc C S => .exc C δ S
  | .fail => .fail
structure Mo where
  K : PySem.W.Frag
  mg : Str → Option Value
noncomputable abbrev Cx.mo (X : Cx) : Mo := ⟨X.K, X.mg⟩
noncomputable def FzL (K : PySem.W.Frag) (H : Hp) (a : Addr) (xs : List V) : Prop :=
  (∃ o, H a = some (.frz o (.lst xs))) ∨
    ∃ (o : Obj) (its : Array Value) (n : Nat), K.lookup a = some o ∧ o.cls = .type "list" ∧ o.dict = none ∧ o.data = .seq its n ∧ its.size ≤ sizeLine ∧ Vals xs its.toList
theorem FzL.sq {K : PySem.W.Frag} {H : Hp} {a : Addr} {xs : List V} (h : FzL K H a xs) : SqL K H a xs := by
  rcases h with h | h
  · exact .inl (.inr h)
  · exact .inr h
structure TSm (H H' : Hp) : Prop where
  tup : ∀ a xs, Rd H a (.tup xs) → Rd H' a (.tup xs)
  tp : ∀ a xs, H a = some (.tup xs) → H' a = some (.tup xs)
  frz : ∀ a o xs, H a = some (.frz o (.lst xs)) → H' a = some (.frz o (.lst xs))
theorem TSm.refl (H : Hp) : TSm H H := ⟨fun _ _ h => h, fun _ _ h => h, fun _ _ _ h => h⟩
theorem TSm.trans {H H1 H2 : Hp} (a : TSm H H1) (b : TSm H1 H2) : TSm H H2 := ⟨fun c xs h => b.tup c xs (a.tup c xs h),
  fun c xs h => b.tp c xs (a.tp c xs h),
  fun c o xs h => b.frz c o xs (a.frz c o xs h)⟩
theorem TSm.of_keep {H H' : Hp} {p : Addr} (k : ∀ b u, b ≠ p → H b = some u → H' b = some u) (ht : ∀ xs, ¬ Rd H p (.tup xs)) (hf : ∀ o xs, H p ≠ some (.frz o (.lst xs))) : TSm H H' := by
  refine ⟨fun a xs h => ?_,
   fun a xs h => k _ _ (fun e => ht xs (e ▸ .inl h)) h,
   fun a o xs h => ?_⟩
  · have n : a ≠ p := fun e => ht xs (e ▸ h)
    rcases h with h | ⟨o, h⟩
    · exact .inl (k _ _ n h)
    · exact .inr ⟨o, k _ _ n h⟩
  · exact k _ _ (fun e => hf o xs (e ▸ h)) h
theorem upd_keep {H : Hp} {p : Addr} {o : HO} : ∀ b u, b ≠ p → H b = some u → upd H p o b = some u := fun b u n h => by rw [upd_ne n]; exact h
theorem TSm.new {H : Hp} {p : Addr} {o : HO} (h : H p = none) : TSm H (upd H p o) := by
  refine TSm.of_keep upd_keep (fun xs r => ?_) (fun o xs r => ?_)
  · rcases r with r | ⟨_, r⟩ <;> rw [h] at r <;> cases r
  · rw [h] at r; cases r
theorem TSm.set {H : Hp} {p : Addr} {o : HO} (m : Mut (H p)) : TSm H (upd H p o) := by
  refine TSm.of_keep upd_keep (fun xs r => ?_) (fun o xs r => ?_)
  · rcases r with r | ⟨_, r⟩ <;> rw [r] at m <;> exact m
  · rw [r] at m; exact m
theorem TSm.sqT {K : PySem.W.Frag} {H H' : Hp} (e : TSm H H') {a : Addr} {xs : List V} (h : SqT K H a xs) : SqT K H' a xs := by
  rcases h with h | h
  · exact .inl (e.tup a xs h)
  · exact .inr h
noncomputable def SqU (_ : PySem.W.Frag) (H : Hp) (a : Addr) (xs : List V) : Prop := H a = some (.tup xs)
theorem SqU.sq {K : PySem.W.Frag} {H : Hp} {a : Addr} {xs : List V} (h : SqU K H a xs) : SqT K H a xs := SqT.of h
theorem SqU.of {K : PySem.W.Frag} {H : Hp} {a : Addr} {xs : List V} (h : H a = some (.tup xs)) : SqU K H a xs := h
theorem TSm.sqU {K : PySem.W.Frag} {H H' : Hp} (e : TSm H H') {a : Addr} {xs : List V} (h : SqU K H a xs) : SqU K H' a xs := e.tp a xs h
theorem TSm.fzL {K : PySem.W.Frag} {H H' : Hp} (e : TSm H H') {a : Addr} {xs : List V} (h : FzL K H a xs) : FzL K H' a xs := by
  rcases h with ⟨o, h⟩ | h
  · exact .inl ⟨o, e.frz a o xs h⟩
  · exact .inr h
mutual
inductive RD (M : Mo) (ι : List Addr) (H : Hp) : V → D → Prop
  | non : RD M ι H .non .non
  | bl (b : Bool) : RD M ι H (.bl b) (.bl b)
  | int (i : Int) : RD M ι H (.int i) (.int i)
  | str (x : Str) : RD M ι H (.str x) (.str x)
  | ty (t : String) : RD M ι H (.ty t) (.ty t)
  | tup {a : Addr} {xs : List V} {ds : List D} : SqU M.K H a xs → RDs M ι H xs ds → RD M ι H (.ref a) (.tup ds)
  | rol {a : Addr} {xs : List V} {ds : List D} : FzL M.K H a xs → RDs M ι H xs ds → RD M ι H (.ref a) (.rol ds)
  | ref {a : Addr} {n : Nat} : ι[n]? = some a → RD M ι H (.ref a) (.ref n)
  | gl {a : Addr} {x : Str} : M.mg x = some (.ref a) → RD M ι H (.ref a) (.gl x)
inductive RDs (M : Mo) (ι : List Addr) (H : Hp) : List V → List D → Prop
  | nil : RDs M ι H [] []
  | cons {v : V} {vs : List V} {d : D} {ds : List D} : RD M ι H v d → RDs M ι H vs ds → RDs M ι H (v :: vs) (d :: ds)
end
section
variable {M : Mo} {ι ι' : List Addr} {H H' : Hp}
mutual
theorem RD.mono (p : ∀ (n : Nat) a, ι[n]? = some a → ι'[n]? = some a) (e : TSm H H') : ∀ {v : V} {d : D}, RD M ι H v d → RD M ι' H' v d
  | _, _, .non => .non
  | _, _, .bl b => .bl b
  | _, _, .int i => .int i
  | _, _, .str x => .str x
  | _, _, .ty t => .ty t
  | _, _, .tup h t => .tup (e.sqU h) (RDs.mono p e t)
  | _, _, .rol h t => .rol (e.fzL h) (RDs.mono p e t)
  | _, _, .ref h => .ref (p _ _ h)
  | _, _, .gl h => .gl h
theorem RDs.mono (p : ∀ (n : Nat) a, ι[n]? = some a → ι'[n]? = some a) (e : TSm H H') : ∀ {vs : List V} {ds : List D}, RDs M ι H vs ds → RDs M ι' H' vs ds
  | _, _, .nil => .nil
  | _, _, .cons h t => .cons (RD.mono p e h) (RDs.mono p e t)
end
theorem RDs.length : ∀ {vs : List V} {ds : List D}, RDs M ι H vs ds → vs.length = ds.length
  | _, _, .nil => rfl
  | _, _, .cons _ t => congrArg Nat.succ t.length
theorem RDs.get : ∀ {vs : List V} {ds : List D} {i : Nat} {d : D}, RDs M ι H vs ds → ds[i]? = some d → ∃ v, vs[i]? = some v ∧ RD M ι H v d
  | _, _, _, _, .nil, e => by simp at e
  | _, _, 0, _, .cons h _, e => by simp at e; subst e; exact ⟨_, rfl, h⟩
  | _, _, i + 1, d, .cons _ t, e => by
    obtain ⟨v, h1, h2⟩ := RDs.get (i := i) (d := d) t (by simpa using e)
    exact ⟨v, by simpa using h1, h2⟩
theorem RDs.append : ∀ {vs : List V} {ds : List D} {us : List V} {es : List D}, RDs M ι H vs ds → RDs M ι H us es → RDs M ι H (vs ++ us) (ds ++ es)
  | _, _, _, _, .nil, s => s
  | _, _, _, _, .cons h t, s => .cons h (RDs.append t s)
theorem RDs.take : ∀ {vs : List V} {ds : List D} (n : Nat), RDs M ι H vs ds → RDs M ι H (vs.take n) (ds.take n)
  | _, _, 0, _ => .nil
  | _, _, _ + 1, .nil => .nil
  | _, _, n + 1, .cons h t => .cons h (RDs.take n t)
theorem RDs.drop : ∀ {vs : List V} {ds : List D} (n : Nat), RDs M ι H vs ds → RDs M ι H (vs.drop n) (ds.drop n)
  | _, _, 0, h => h
  | _, _, _ + 1, .nil => .nil
  | _, _, n + 1, .cons _ t => RDs.drop n t
theorem RDs.set {v : V} {d : D} (h : RD M ι H v d) : ∀ {vs : List V} {ds : List D} (i : Nat), RDs M ι H vs ds → RDs M ι H (vs.set i v) (ds.set i d)
  | _, _, _, .nil => .nil
  | _, _, 0, .cons _ t => .cons h t
  | _, _, i + 1, .cons q t => .cons q (RDs.set h i t)
theorem RDs.atI {vs : List V} {ds : List D} {i : Int} {d : D} (r : RDs M ι H vs ds) (h : L2.atI ds i = some d) : ∃ v, L2.atI vs i = some v ∧ RD M ι H v d := by
  unfold L2.atI at h ⊢
  rw [r.length]
  cases e : ixN ds.length i with
  | none => rw [e] at h; cases h
  | some j =>
    rw [e] at h
    exact r.get h
theorem RDs.ints (ns : List Int) : RDs M ι H (ns.map V.int) (ns.map D.int) := by
  induction ns with
  | nil => exact .nil
  | cons n ns ih => exact .cons (.int n) ih
end
inductive RFs (M : Mo) (ι : List Addr) (H : Hp) : List (Str × V) → List (Str × D) → Prop
  | nil : RFs M ι H [] []
  | cons {f : Str} {v : V} {d : D} {vs : List (Str × V)} {ds : List (Str × D)} : RD M ι H v d → RFs M ι H vs ds → RFs M ι H ((f, v) :: vs) ((f, d) :: ds)
noncomputable def keyD : Key → D
  | .inl i => .int i
  | .inr x => .str x
inductive RKs (M : Mo) (ι : List Addr) (H : Hp) : List (Key × V) → List (D × D) → Prop
  | nil : RKs M ι H [] []
  | cons {k : Key} {v : V} {d : D} {vs : List (Key × V)} {ds : List (D × D)} : RD M ι H v d → RKs M ι H vs ds → RKs M ι H ((k, v) :: vs) ((keyD k, d) :: ds)
theorem RFs.mono {M : Mo} {ι ι' : List Addr} {H H' : Hp} (p : ∀ (n : Nat) a, ι[n]? = some a → ι'[n]? = some a) (e : TSm H H') : ∀ {vs : List (Str × V)} {ds : List (Str × D)}, RFs M ι H vs ds → RFs M ι' H' vs ds
  | _, _, .nil => .nil
  | _, _, .cons h t => .cons (h.mono p e) (RFs.mono p e t)
theorem RKs.mono {M : Mo} {ι ι' : List Addr} {H H' : Hp} (p : ∀ (n : Nat) a, ι[n]? = some a → ι'[n]? = some a) (e : TSm H H') : ∀ {vs : List (Key × V)} {ds : List (D × D)}, RKs M ι H vs ds → RKs M ι' H' vs ds
  | _, _, .nil => .nil
  | _, _, .cons h t => .cons (h.mono p e) (RKs.mono p e t)
inductive RTs (M : Mo) (ι : List Addr) (H : Hp) : List (List Key × V) → List (D × D) → Prop
  | nil : RTs M ι H [] []
  | cons {k : List Key} {v : V} {d : D} {vs : List (List Key × V)} {ds : List (D × D)} : RD M ι H v d → RTs M ι H vs ds → RTs M ι H ((k, v) :: vs) ((.tup (k.map keyD), d) :: ds)
theorem RTs.mono {M : Mo} {ι ι' : List Addr} {H H' : Hp} (p : ∀ (n : Nat) a, ι[n]? = some a → ι'[n]? = some a) (e : TSm H H') : ∀ {vs : List (List Key × V)} {ds : List (D × D)}, RTs M ι H vs ds → RTs M ι' H' vs ds
  | _, _, .nil => .nil
  | _, _, .cons h t => .cons (h.mono p e) (RTs.mono p e t)
noncomputable def RO (M : Mo) (ι : List Addr) (H : Hp) (a : Addr) : O → Prop
  | .lst xs => ∃ vs, H a = some (.lst vs) ∧ RDs M ι H vs xs
  | .dic kvs => ∃ ks, H a = some (.dK ks) ∧ RKs M ι H ks kvs
  | .ins C fs => ∃ Ca dx vs, M.mg C = some (.ref Ca) ∧ H a = some (.ins Ca dx vs) ∧ RFs M ι H vs fs
  | .exc C => ∃ Ca, M.mg C = some (.ref Ca) ∧ H a = some (excO a (.ref Ca))
  | .dit kvs => ∃ ks, H a = some (.dT ks) ∧ RTs M ι H ks kvs
  | .fdt kvs => ∃ o ks, H a = some (.frz o (.dT ks)) ∧ RTs M ι H ks kvs
structure RelS (M : Mo) (ι : List Addr) (H : Hp) (S : Sto) : Prop where
  len : ι.length = S.length
  nd : ι.Nodup
  obj : ∀ (n : Nat) a o, ι[n]? = some a → S[n]? = some o → RO M ι H a o
structure RelE (M : Mo) (ι : List Addr) (H : Hp) (n : Nat) (σ : St) (δ : Dv) : Prop where
  len : σ.length = n
  dl : δ.length ≤ n
  get : ∀ (i : Nat) d, δ[i]? = some (some d) → ∃ v, σ[i]? = some (some v) ∧ RD M ι H v d
structure Ext (ι : List Addr) (H : Hp) (ι' : List Addr) (H' : Hp) : Prop where
  pre : ∀ (n : Nat) a, ι[n]? = some a → ι'[n]? = some a
  ts : TSm H H'
  fz : ∀ a o u, H a = some (.frz o u) → H' a = some (.frz o u)
theorem Ext.refl (ι : List Addr) (H : Hp) : Ext ι H ι H := ⟨fun _ _ h => h, .refl H, fun _ _ _ h => h⟩
theorem Ext.trans {ι ι1 ι2 : List Addr} {H H1 H2 : Hp} (a : Ext ι H ι1 H1) (b : Ext ι1 H1 ι2 H2) : Ext ι H ι2 H2 := ⟨fun n c h => b.pre n c (a.pre n c h), a.ts.trans b.ts, fun c o u h => b.fz c o u (a.fz c o u h)⟩
section
variable {M : Mo} {ι ι' : List Addr} {H H' : Hp} {S : Sto}
theorem RD.ext {v : V} {d : D} (h : RD M ι H v d) (e : Ext ι H ι' H') : RD M ι' H' v d := h.mono e.pre e.ts
theorem RDs.ext {v : List V} {d : List D} (h : RDs M ι H v d) (e : Ext ι H ι' H') : RDs M ι' H' v d := h.mono e.pre e.ts
theorem RelE.ext {n : Nat} {σ : St} {δ : Dv} (h : RelE M ι H n σ δ) (e : Ext ι H ι' H') : RelE M ι' H' n σ δ :=
  ⟨h.len, h.dl, fun i d q => let ⟨v, h1, h2⟩ := h.get i d q; ⟨v, h1, h2.ext e⟩⟩
theorem RelE.set {n i : Nat} {σ : St} {δ : Dv} {v : V} {d : D} (h : RelE M ι H n σ δ) (hi : i < n) (r : RD M ι H v d) : RelE M ι H n (σ.set i (some v)) (δ.set i (some d)) := by
  refine ⟨by rw [List.length_set]; exact h.len, by rw [List.length_set]; exact h.dl, fun j e q => ?_⟩
  by_cases hj : j = i
  · subst hj
    by_cases hl : j < δ.length
    · rw [List.getElem?_set_self hl] at q
      cases q
      exact ⟨v, List.getElem?_set_self (by rw [h.len]; exact hi), r⟩
    · rw [List.getElem?_eq_none (by rw [List.length_set]; omega)] at q
      cases q
  · rw [List.getElem?_set_ne (Ne.symm hj)] at q
    obtain ⟨u, h1, h2⟩ := h.get j e q
    exact ⟨u, by rw [List.getElem?_set_ne (Ne.symm hj)]; exact h1, h2⟩
theorem RO.ne_none {a : Addr} {o : O} (h : RO M ι H a o) : H a ≠ none := by
  cases o with
  | lst xs => obtain ⟨vs, h, _⟩ := h; rw [h]; simp
  | dic kvs => obtain ⟨_, h, _⟩ := h; rw [h]; simp
  | ins C fs => obtain ⟨_, _, _, _, h, _⟩ := h; rw [h]; simp
  | exc C => obtain ⟨Ca, _, h⟩ := h; rw [h]; simp
  | dit kvs => obtain ⟨_, h, _⟩ := h; rw [h]; simp
  | fdt kvs => obtain ⟨_, _, h, _⟩ := h; rw [h]; simp
theorem RO.keep {a : Addr} {o : O} (h : RO M ι H a o) (pre : ∀ (n : Nat) a, ι[n]? = some a → ι'[n]? = some a) (ts : TSm H H') (k : ∀ b u, H b = some u → (b = a ∨ ∃ x, u = .own x) → H' b = some u) : RO M ι' H' a o := by
  cases o with
  | lst xs => obtain ⟨vs, h, r⟩ := h; exact ⟨vs, k a _ h (.inl rfl), r.mono pre ts⟩
  | dic kvs => obtain ⟨ks, h, r⟩ := h; exact ⟨ks, k a _ h (.inl rfl), r.mono pre ts⟩
  | ins C fs => obtain ⟨Ca, dx, vs, m, h, r⟩ := h; exact ⟨Ca, dx, vs, m, k a _ h (.inl rfl), r.mono pre ts⟩
  | exc C => obtain ⟨Ca, h1, h⟩ := h; exact ⟨Ca, h1, k a _ h (.inl rfl)⟩
  | dit kvs => obtain ⟨ks, h, r⟩ := h; exact ⟨ks, k a _ h (.inl rfl), r.mono pre ts⟩
  | fdt kvs => obtain ⟨o, ks, h, r⟩ := h; exact ⟨o, ks, k a _ h (.inl rfl), r.mono pre ts⟩
theorem RelS.at (h : RelS M ι H S) {n : Nat} {o : O} (e : S[n]? = some o) : ∃ a, ι[n]? = some a ∧ RO M ι H a o := by
  have hn : n < ι.length := by rw [h.len]; exact (List.getElem?_eq_some_iff.mp e).1
  exact ⟨ι[n], List.getElem?_eq_getElem hn, h.obj n _ o (List.getElem?_eq_getElem hn) e⟩
theorem RelS.there (h : RelS M ι H S) {n : Nat} {a : Addr} (e : ι[n]? = some a) : ∃ o, S[n]? = some o ∧ RO M ι H a o := by
  have hn : n < S.length := by rw [← h.len]; exact (List.getElem?_eq_some_iff.mp e).1
  exact ⟨S[n], List.getElem?_eq_getElem hn, h.obj n a _ e (List.getElem?_eq_getElem hn)⟩
theorem RelS.fresh (h : RelS M ι H S) {p : Addr} (hp : H p = none) : p ∉ ι := fun z => by
  obtain ⟨n, hn, e⟩ := List.getElem_of_mem z
  obtain ⟨o, _, r⟩ := h.there (n := n) (a := p) (by rw [List.getElem?_eq_getElem hn, e])
  exact r.ne_none hp
theorem RelS.laid (h : RelS M ι H S) {p : Addr} {u : HO} (hp : H p = none) : RelS M ι (upd H p u) S :=
  ⟨h.len, h.nd, fun n a o h1 h2 => (h.obj n a o h1 h2).keep (fun _ _ q => q) (.new hp) fun b w q _ => by rw [upd_ne (ne_of_none q hp)]; exact q⟩
theorem Ext.laid {p : Addr} {u : HO} (hp : H p = none) : Ext ι H ι (upd H p u) := ⟨fun _ _ q => q, .new hp, fun _ _ _ q => by rw [upd_ne (ne_of_none q hp)]; exact q⟩
theorem Ext.made {p : Addr} {u : HO} (hp : H p = none) : Ext ι H (ι ++ [p]) (upd H p u) :=
  ⟨fun n a q => by rw [List.getElem?_append_left (List.getElem?_eq_some_iff.mp q).1]; exact q, .new hp, fun _ _ _ q => by rw [upd_ne (ne_of_none q hp)]; exact q⟩
theorem RelS.made (h : RelS M ι H S) {p : Addr} {u : HO} {o : O} (hp : H p = none) (r : RO M (ι ++ [p]) (upd H p u) p o) : RelS M (ι ++ [p]) (upd H p u) (S ++ [o]) := by
  refine ⟨by simp [h.len], ?_, fun n a o' h1 h2 => ?_⟩
  · refine List.nodup_append.mpr ⟨h.nd, by simp, fun a ha b hb => ?_⟩
    rw [List.mem_singleton] at hb
    subst hb
    exact fun e => h.fresh hp (e ▸ ha)
  · by_cases hn : n < ι.length
    · rw [List.getElem?_append_left hn] at h1
      rw [List.getElem?_append_left (by rw [← h.len]; exact hn)] at h2
      exact (h.obj n a o' h1 h2).keep (Ext.made (ι := ι) (u := u) hp).pre (.new hp) fun b w q _ => by rw [upd_ne (ne_of_none q hp)]; exact q
    · rw [List.getElem?_append_right (by omega)] at h1
      rw [List.getElem?_append_right (by rw [← h.len]; omega)] at h2
      have e1 : n - ι.length = 0 := by
        rcases Nat.eq_zero_or_pos (n - ι.length) with z | z
        · exact z
        · rw [List.getElem?_eq_none (by simp; omega)] at h1; cases h1
      rw [e1] at h1
      rw [← h.len, e1] at h2
      simp at h1 h2
      subst h1 h2
      exact r
theorem getElem?_snoc {α : Type} (l : List α) (a : α) : (l ++ [a])[l.length]? = some a := by simp
theorem nodup_at {α : Type} {N : List α} (hN : N.Nodup) {i j : Nat} {x : α} (a : N[i]? = some x) (b : N[j]? = some x) : i = j := by
  have hi := (List.getElem?_eq_some_iff.mp a).1
  exact (List.getElem?_inj hi hN).mp (a.trans b.symm)
theorem RelS.set (h : RelS M ι H S) {n : Nat} {p : Addr} {u : HO} {o : O} (hn : ι[n]? = some p) (mu : Mut (H p)) (r : RO M ι (upd H p u) p o) : RelS M ι (upd H p u) (S.set n o) := by
  refine ⟨by rw [List.length_set]; exact h.len, h.nd, fun m a o' h1 h2 => ?_⟩
  by_cases hm : m = n
  · subst hm
    rw [hn] at h1; cases h1
    have hl : m < S.length := by rw [← h.len]; exact (List.getElem?_eq_some_iff.mp hn).1
    rw [List.getElem?_set_self hl] at h2
    cases h2
    exact r
  · rw [List.getElem?_set_ne (Ne.symm hm)] at h2
    have hne : a ≠ p := fun e => by
      subst e
      exact hm (nodup_at h.nd h1 hn)
    refine (h.obj m a o' h1 h2).keep (fun _ _ q => q) (.set mu) fun b w q hb => ?_
    have nb : b ≠ p := by
      rintro rfl
      rcases hb with z | ⟨x, z⟩
      · exact hne z.symm
      · subst z
        rw [q] at mu
        exact mu
    rw [upd_ne nb]; exact q
theorem Ext.set {p : Addr} {u : HO} (mu : Mut (H p)) : Ext ι H ι (upd H p u) := ⟨fun _ _ q => q, .set mu, fun b _ _ q => by rw [upd_ne (by rintro rfl; rw [q] at mu; exact mu)]; exact q⟩
end
noncomputable def Post {α : Type} (M : Mo) (ι : List Addr) (H : Hp) (r : R α) (Q : List Addr → Hp → Sto → α → Prop) (E : Value → Hp → Prop) : Prop := match r with
  | .ok a S => ∀ ι' H', Ext ι H ι' H' → RelS M ι' H' S → Q ι' H' S a
  | .exc C S => ∀ ι' H' Ca, Ext ι H ι' H' → RelS M ι' H' S → M.mg C = some (.ref Ca) → E (.ref Ca) H'
  | .fail => False
section
variable {M : Mo} {ι ι1 : List Addr} {H H1 : Hp} {α β : Type} {Q Q' : List Addr → Hp → Sto → α → Prop} {E E' : Value → Hp → Prop}
theorem Post.ext {r : R α} (h : Post M ι H r Q E) (e : Ext ι H ι1 H1) : Post M ι1 H1 r Q E := by
  cases r with
  | ok a S => exact fun ι' H' x r => h ι' H' (e.trans x) r
  | exc C S => exact fun ι' H' Ca x r => h ι' H' Ca (e.trans x) r
  | fail => exact h
theorem Post.mono {r : R α} (h : Post M ι H r Q E) (hq : ∀ ι' H' S a, Ext ι H ι' H' → RelS M ι' H' S → Q ι' H' S a → Q' ι' H' S a) (he : ∀ C H', E C H' → E' C H') : Post M ι H r Q' E' := by
  cases r with
  | ok a S => exact fun ι' H' x r => hq ι' H' S a x r (h ι' H' x r)
  | exc C S => exact fun ι' H' Ca x r m => he _ _ (h ι' H' Ca x r m)
  | fail => exact h
theorem Post.bind {r : R α} {f : α → Sto → R β} {Q : List Addr → Hp → Sto → β → Prop} (h : Post M ι H (r.bind f) Q E) : Post M ι H r (fun ι1 H1 S1 a => Post M ι1 H1 (f a S1) Q E) E := by
  cases r with
  | ok a S => exact fun ι1 H1 x r => Post.ext (r := f a S) h x
  | exc C S => exact h
  | fail => exact h
end
noncomputable def PostS (M : Mo) (n : Nat) (ι : List Addr) (H : Hp) (r : RS) (Dn : Ends) (E : St → XK) : Prop := match r with
  | .next δ S => ∀ ι' H' σ', Ext ι H ι' H' → RelS M ι' H' S → RelE M ι' H' n σ' δ → Dn.nx σ' H'
  | .ret d S => ∀ ι' H' v, Ext ι H ι' H' → RelS M ι' H' S → RD M ι' H' v d → Dn.rt v H'
  | .brk δ S => ∀ ι' H' σ', Ext ι H ι' H' → RelS M ι' H' S → RelE M ι' H' n σ' δ → Dn.bk σ' H'
  | .cnt δ S => ∀ ι' H' σ', Ext ι H ι' H' → RelS M ι' H' S → RelE M ι' H' n σ' δ → Dn.ct σ' H'
  | .exc C δ S => ∀ ι' H' σ' Ca, Ext ι H ι' H' → RelS M ι' H' S → RelE M ι' H' n σ' δ → M.mg C = some (.ref Ca) → E σ' (.ref Ca) none H'
  | .fail => False
theorem PostS.ext {M : Mo} {n : Nat} {ι ι1 : List Addr} {H H1 : Hp} {r : RS} {Dn : Ends} {E : St → XK} (h : PostS M n ι H r Dn E) (e : Ext ι H ι1 H1) : PostS M n ι1 H1 r Dn E := by
  cases r with
  | next δ S => exact fun ι' H' σ' x => h ι' H' σ' (e.trans x)
  | ret d S => exact fun ι' H' v x => h ι' H' v (e.trans x)
  | brk δ S => exact fun ι' H' σ' x => h ι' H' σ' (e.trans x)
  | cnt δ S => exact fun ι' H' σ' x => h ι' H' σ' (e.trans x)
  | exc C δ S => exact fun ι' H' σ' Ca x => h ι' H' σ' Ca (e.trans x)
  | fail => exact h
theorem PostS.toS {M : Mo} {n : Nat} {ι : List Addr} {H : Hp} {α : Type} {r : R α} {δ : Dv} {σ : St} {f : α → Sto → RS} {Dn : Ends} {E : St → XK} (h : PostS M n ι H (r.toS δ f) Dn E) (re : RelE M ι H n σ δ) :
    Post M ι H r (fun ι1 H1 S1 a => PostS M n ι1 H1 (f a S1) Dn E) (fun C H' => E σ C none H') := by
  cases r with
  | ok a S => exact fun ι1 H1 x r => PostS.ext (r := f a S) h x
  | exc C S => exact fun ι1 H1 Ca x r m => h ι1 H1 σ Ca x r (re.ext x) m
  | fail => exact h
noncomputable def tOf (M : Mo) (n : Nat) (E : St → XK) (f : Dv → Sto → R D) : TE := fun σ H Q => ∃ ι δ S, RelS M ι H S ∧ RelE M ι H n σ δ ∧ Post M ι H (f δ S) (fun ι' H' _ d => ∀ v, RD M ι' H' v d → Q v H') (fun C H' => E σ C none H')
noncomputable def bOf (M : Mo) (n : Nat) (E : St → XK) (f : Dv → Sto → R Bool) : TT := fun σ H Q => ∃ ι δ S, RelS M ι H S ∧ RelE M ι H n σ δ ∧ Post M ι H (f δ S) (fun _ H' _ b => Q b H') (fun C H' => E σ C none H')
noncomputable def aOf (M : Mo) (n : Nat) (E : St → XK) (f : Dv → Sto → R (List D)) : TA := fun σ H Q => ∃ ι δ S, RelS M ι H S ∧ RelE M ι H n σ δ ∧ Post M ι H (f δ S) (fun ι' H' _ ds => ∀ vs, RDs M ι' H' vs ds → Q vs H') (fun C H' => E σ C none H')
noncomputable def sOf (M : Mo) (n : Nat) (E : St → XK) (f : Dv → Sto → RS) : TS := fun Dn σ H => ∃ ι δ S, RelS M ι H S ∧ RelE M ι H n σ δ ∧ PostS M n ι H (f δ S) Dn E
noncomputable abbrev DE (X : Cx) (E : St → XK) (e : Expr) (f : Dv → Sto → R D) : Prop := PE X e (tOf X.mo X.N.length E f)
noncomputable abbrev DT (X : Cx) (E : St → XK) (e : Expr) (f : Dv → Sto → R Bool) : Prop := PT X e (bOf X.mo X.N.length E f)
noncomputable abbrev DW (X : Cx) (E : St → XK) (e : Expr) (f : Dv → Sto → R Bool) : Prop := PW X e (bOf X.mo X.N.length E f)
noncomputable abbrev DA (X : Cx) (E : St → XK) (es : List Expr) (f : Dv → Sto → R (List D)) : Prop := PA X es (aOf X.mo X.N.length E f)
noncomputable abbrev DS (X : Cx) (E : St → XK) (st : Stmt) (f : Dv → Sto → RS) : Prop := PS X st (sOf X.mo X.N.length E f)
noncomputable abbrev DSs (X : Cx) (E : St → XK) (st : List Stmt) (f : Dv → Sto → RS) : Prop := PSs X st (sOf X.mo X.N.length E f)
theorem PE.weak {X : Cx} {e : Expr} {t t' : TE} (h : PE X e t) (w : ∀ σ H Q, t' σ H Q → t σ H Q) : PE X e t' := fun pins s σ H Q I q => h pins s σ H Q I (w σ H Q q)
theorem PT.weak {X : Cx} {e : Expr} {t t' : TT} (h : PT X e t) (w : ∀ σ H Q, t' σ H Q → t σ H Q) : PT X e t' := fun pins s σ H Q I q => h pins s σ H Q I (w σ H Q q)
theorem PW.weak {X : Cx} {e : Expr} {t t' : TT} (h : PW X e t) (w : ∀ σ H Q, t' σ H Q → t σ H Q) : PW X e t' := fun wh pins s σ H Q I q => h wh pins s σ H Q I (w σ H Q q)
theorem PA.weak {X : Cx} {e : List Expr} {t t' : TA} (h : PA X e t) (w : ∀ σ H Q, t' σ H Q → t σ H Q) : PA X e t' := fun pos pins s σ H Q I q => h pos pins s σ H Q I (w σ H Q q)
theorem PS.weak {X : Cx} {e : Stmt} {t t' : TS} (h : PS X e t) (w : ∀ D σ H, t' D σ H → t D σ H) : PS X e t' := fun pins s σ H D I q => h pins s σ H D I (w D σ H q)
theorem PSs.weak {X : Cx} {e : List Stmt} {t t' : TS} (h : PSs X e t) (w : ∀ D σ H, t' D σ H → t D σ H) : PSs X e t' := fun pins s σ H D I q => h pins s σ H D I (w D σ H q)
theorem tOf.step {M : Mo} {n : Nat} {E : St → XK} {f : Dv → Sto → R D} {σ : St} {H : Hp} {ι : List Addr} {δ : Dv} {S : Sto} {Q : VK} {P : List Addr → Hp → Sto → D → Prop} (rs : RelS M ι H S) (re : RelE M ι H n σ δ)
    (h : Post M ι H (f δ S) P (fun C H' => E σ C none H')) (k : ∀ ι' H' S' d v, Ext ι H ι' H' → RelS M ι' H' S' → RelE M ι' H' n σ δ → P ι' H' S' d → RD M ι' H' v d → Q v H') : tOf M n E f σ H Q :=
  ⟨ι, δ, S, rs, re, h.mono (fun ι' H' S' d x r p v rv => k ι' H' S' d v x r (re.ext x) p rv) fun _ _ q => q⟩
theorem bOf.step {M : Mo} {n : Nat} {E : St → XK} {f : Dv → Sto → R Bool} {σ : St} {H : Hp} {ι : List Addr} {δ : Dv} {S : Sto} {Q : Bool → Hp → Prop} {P : List Addr → Hp → Sto → Bool → Prop} (rs : RelS M ι H S) (re : RelE M ι H n σ δ)
    (h : Post M ι H (f δ S) P (fun C H' => E σ C none H')) (k : ∀ ι' H' S' b, Ext ι H ι' H' → RelS M ι' H' S' → RelE M ι' H' n σ δ → P ι' H' S' b → Q b H') : bOf M n E f σ H Q :=
  ⟨ι, δ, S, rs, re, h.mono (fun ι' H' S' b x r p => k ι' H' S' b x r (re.ext x) p) fun _ _ q => q⟩
theorem aOf.step {M : Mo} {n : Nat} {E : St → XK} {f : Dv → Sto → R (List D)} {σ : St} {H : Hp} {ι : List Addr} {δ : Dv} {S : Sto} {Q : List V → Hp → Prop} {P : List Addr → Hp → Sto → List D → Prop} (rs : RelS M ι H S) (re : RelE M ι H n σ δ)
    (h : Post M ι H (f δ S) P (fun C H' => E σ C none H')) (k : ∀ ι' H' S' ds vs, Ext ι H ι' H' → RelS M ι' H' S' → RelE M ι' H' n σ δ → P ι' H' S' ds → RDs M ι' H' vs ds → Q vs H') : aOf M n E f σ H Q :=
  ⟨ι, δ, S, rs, re, h.mono (fun ι' H' S' d x r p v rv => k ι' H' S' d v x r (re.ext x) p rv) fun _ _ q => q⟩
noncomputable abbrev Fd := Dv → Sto → R D
noncomputable abbrev Fb := Dv → Sto → R Bool
noncomputable abbrev Fa := Dv → Sto → R (List D)
noncomputable def getV (i : Nat) : Fd := fun δ S => match δ[i]? with
  | some (some d) => .ok d S
  | _ => .fail
noncomputable def okD (d : D) : Fd := fun _ S => .ok d S
noncomputable def isBl (f : D → Sto → Bool → R α) (d : D) (S : Sto) : R α := match d with
  | .bl b => f d S b
  | _ => .fail
section
variable {X : Cx} {E : St → XK} {a b c : Expr} {fa fb fc : Fd} {pos : Pos}
theorem de_const {e : Expr} {v : V} {d : D} (h : PE X e (tC v)) (r : ∀ ι H, RD X.mo ι H v d) : DE X E e (okD d) :=
  h.weak fun _ H _ ⟨ι, _, _, rs, _, p⟩ => p ι H (.refl ι H) rs v (r ι H)
theorem de_int {i j pos} : DE X E (.Constant (.int i) j pos) (okD (.int i)) := de_const pe_int fun _ _ => .int i
theorem de_bl {i j pos} : DE X E (.Constant (.bool i) j pos) (okD (.bl i)) := de_const pe_bl fun _ _ => .bl i
theorem de_non {j pos} : DE X E (.Constant .none j pos) (okD .non) := de_const pe_non fun _ _ => .non
theorem de_str {i j pos} : DE X E (.Constant (.str i) j pos) (okD (.str i)) := de_const pe_str fun _ _ => .str i
theorem de_var {i : Nat} {x : Str} (hN : X.N[i]? = some x) (hv : Vis X.env.scope x) (hd : (x == ("__debug__" : Str)) = false) (hcd : (x == ("__classdict__" : Str)) = false) : DE X E (.Name x pos) (getV i) :=
  (pe_var hN hv hd hcd).weak fun σ H Q ⟨ι, δ, S, rs, re, p⟩ => by
    unfold getV at p
    cases e : δ[i]? with
    | none => rw [e] at p; exact p.elim
    | some o =>
      cases o with
      | none => rw [e] at p; exact p.elim
      | some d =>
        rw [e] at p
        obtain ⟨v, h1, h2⟩ := re.get i d e
        exact ⟨v, h1, p ι H (.refl ι H) rs v h2⟩
theorem de_glob {x : Str} {v : V} {u : Value} {d : D} (hg : Gl X x) (hm : X.mg x = some u) (r : RelV v u) (rd : ∀ ι H, RD X.mo ι H v d) (hd : (x == ("__debug__" : Str)) = false) : DE X E (.Name x pos) (okD d) :=
  de_const (pe_glob hg hm r hd) rd
theorem de_cls {x : Str} {C : Addr} (hg : Gl X x) (hm : X.mg x = some (.ref C)) (hd : (x == ("__debug__" : Str)) = false) : DE X E (.Name x pos) (okD (.gl x)) :=
  de_const (pe_cls hg hm hd) fun _ _ => .gl hm
theorem de_ty {x : Str} {n : String} (hg : Gl X x) (hm : X.mg x = none) (hv : bootBuiltins x = some (.type n)) (hn : x ≠ "__name__") (hd : (x == ("__debug__" : Str)) = false) : DE X E (.Name x pos) (okD (.ty n)) :=
  de_const (pe_ty hg hm hv hn hd) fun _ _ => .ty n
noncomputable def Prim2 (X : Cx) (r : R2) (g : D → D → Sto → R D) : Prop :=
  ∀ (ι : List Addr) (H : Hp) (S : Sto) (x y : V) (d e : D) (Q : VK) (E : Value → Hp → Prop), RelS X.mo ι H S → RD X.mo ι H x d → RD X.mo ι H y e → Post X.mo ι H (g d e S) (fun ι' H' _ d => ∀ v, RD X.mo ι' H' v d → Q v H') E → r x y H Q
noncomputable def Prim1 (X : Cx) (r : V → Hp → VK → Prop) (g : D → Sto → R D) : Prop :=
  ∀ (ι : List Addr) (H : Hp) (S : Sto) (x : V) (d : D) (Q : VK) (E : Value → Hp → Prop), RelS X.mo ι H S → RD X.mo ι H x d → Post X.mo ι H (g d S) (fun ι' H' _ d => ∀ v, RD X.mo ι' H' v d → Q v H') E → r x H Q
noncomputable def PrimA (X : Cx) (r : List V → Hp → VK → Prop) (g : List D → Sto → R D) : Prop :=
  ∀ (ι : List Addr) (H : Hp) (S : Sto) (xs : List V) (ds : List D) (Q : VK) (E : Value → Hp → Prop), RelS X.mo ι H S → RDs X.mo ι H xs ds → Post X.mo ι H (g ds S) (fun ι' H' _ d => ∀ v, RD X.mo ι' H' v d → Q v H') E → r xs H Q
noncomputable def f2 (g : D → D → Sto → R D) (fa fb : Fd) : Fd := fun δ S => (fa δ S).bind fun x S1 => (fb δ S1).bind fun y S2 => g x y S2
noncomputable def f1 (g : D → Sto → R D) (fa : Fd) : Fd := fun δ S => (fa δ S).bind g
theorem tOp_of {r : R2} {g : D → D → Sto → R D} (hr : Prim2 X r g) {σ : St} {H : Hp} {Q : VK} (h : tOf X.mo X.N.length E (f2 g fa fb) σ H Q) : tOp r (tOf X.mo X.N.length E fa) (tOf X.mo X.N.length E fb) σ H Q := by
  obtain ⟨ι, δ, S, rs, re, p⟩ := h
  refine tOf.step rs re (Post.bind p) fun ι1 H1 S1 d v x1 r1 re1 p1 rv1 => ?_
  refine tOf.step r1 re1 (Post.bind p1) fun ι2 H2 S2 e u x2 r2 re2 p2 rv2 => ?_
  exact hr ι2 H2 S2 v u d e Q _ r2 (rv1.ext x2) rv2 p2
theorem de_op {op : Operator} {r : R2} {g : D → D → Sto → R D} (ho : OpR X (binaryOp op) r) (hr : Prim2 X r g) (ha : DE X E a fa) (hb : DE X E b fb) : DE X E (.BinOp a op b pos) (f2 g fa fb) :=
  (pe_op ho ha hb).weak fun _ _ _ h => tOp_of hr h
theorem de_cmp {op : CmpOp} {r : R2} {g : D → D → Sto → R D} (ho : OpR X (compareOp op) r) (hr : Prim2 X r g) (hm : behindInMarks op b = false) (ha : DE X E a fa) (hb : DE X E b fb) : DE X E (.Compare a [op] [b] pos) (f2 g fa fb) :=
  (pe_cmpR ho ha hb hm).weak fun _ _ _ h => tOp_of hr h
theorem de_un {op : UnaryOp} {r : V → Hp → VK → Prop} {g : D → Sto → R D} (ho : UnR X (unaryOp op) r) (hr : Prim1 X r g) (ha : DE X E a fa) : DE X E (.UnaryOp op a pos) (f1 g fa) :=
  (pe_un ho ha).weak fun σ H Q ⟨ι, δ, S, rs, re, p⟩ => tOf.step rs re (Post.bind p) fun ι1 H1 S1 d v x1 r1 re1 p1 rv1 => hr ι1 H1 S1 v d Q _ r1 rv1 p1
theorem de_ix {r : R2} {g : D → D → Sto → R D} (ho : IxR X r) (hr : Prim2 X r g) (hs : PlainIx b) (ha : DE X E a fa) (hb : DE X E b fb) : DE X E (.Subscript a b pos) (f2 g fa fb) :=
  (pe_ix ho ha hb hs).weak fun _ _ _ h => tOp_of hr h
noncomputable def fNot (fa : Fd) : Fd := fun δ S => (fa δ S).bind (isBl fun _ S1 k => .ok (.bl (!k)) S1)
noncomputable def fAnd (fa fb : Fd) : Fd := fun δ S => (fa δ S).bind (isBl fun _ S1 k => if k = true then fb δ S1 else .ok (.bl false) S1)
noncomputable def fOr (fa fb : Fd) : Fd := fun δ S => (fa δ S).bind (isBl fun _ S1 k => if k = true then .ok (.bl true) S1 else fb δ S1)
theorem Post.isBl {α : Type} {M : Mo} {ι : List Addr} {H : Hp} {d : D} {v : V} {S : Sto} {f : D → Sto → Bool → R α} {Q : List Addr → Hp → Sto → α → Prop} {E : Value → Hp → Prop} (p : Post M ι H (isBl f d S) Q E) (r : RD M ι H v d) :
    ∃ k, d = .bl k ∧ v = .bl k ∧ Post M ι H (f d S k) Q E := by
  cases r with
  | bl k => exact ⟨k, rfl, rfl, p⟩
  | _ => exact p.elim
theorem de_not (ha : DE X E a fa) : DE X E (.UnaryOp .Not a pos) (fNot fa) :=
  (pe_not ha).weak fun σ H Q ⟨ι, δ, S, rs, re, p⟩ => tOf.step rs re (Post.bind p) fun ι1 H1 S1 d v x1 r1 re1 p1 rv1 => by
    obtain ⟨k, rfl, rfl, q⟩ := Post.isBl p1 rv1
    exact ⟨k, rfl, q ι1 H1 (.refl ι1 H1) r1 _ (.bl _)⟩
theorem de_one {op} (ha : DE X E a fa) : DE X E (.BoolOp op [a] pos) fa := pe_one ha
theorem de_and {rest : List Expr} (ha : DE X E a fa) (hb : DE X E (.BoolOp .And (b :: rest) pos) fb) : DE X E (.BoolOp .And (a :: b :: rest) pos) (fAnd fa fb) :=
  (pe_and ha hb).weak fun σ H Q ⟨ι, δ, S, rs, re, p⟩ => tOf.step rs re (Post.bind p) fun ι1 H1 S1 d v x1 r1 re1 p1 rv1 => by
    obtain ⟨k, rfl, rfl, q⟩ := Post.isBl p1 rv1
    refine ⟨k, rfl, ?_⟩
    cases k with
    | true => exact iteT ⟨ι1, δ, S1, r1, re1, q⟩
    | false => exact iteF (q ι1 H1 (.refl ι1 H1) r1 _ (.bl _))
theorem de_or {rest : List Expr} (ha : DE X E a fa) (hb : DE X E (.BoolOp .Or (b :: rest) pos) fb) : DE X E (.BoolOp .Or (a :: b :: rest) pos) (fOr fa fb) :=
  (pe_or ha hb).weak fun σ H Q ⟨ι, δ, S, rs, re, p⟩ => tOf.step rs re (Post.bind p) fun ι1 H1 S1 d v x1 r1 re1 p1 rv1 => by
    obtain ⟨k, rfl, rfl, q⟩ := Post.isBl p1 rv1
    refine ⟨k, rfl, ?_⟩
    cases k with
    | true => exact iteT (q ι1 H1 (.refl ι1 H1) r1 _ (.bl _))
    | false => exact iteF ⟨ι1, δ, S1, r1, re1, q⟩
noncomputable def bVal (fa : Fd) : Fb := fun δ S => (fa δ S).bind (isBl fun _ S1 k => .ok k S1)
noncomputable def bNot (f : Fb) : Fb := fun δ S => (f δ S).bind fun k S1 => .ok (!k) S1
noncomputable def bAnd (f g : Fb) : Fb := fun δ S => (f δ S).bind fun k S1 => if k = true then g δ S1 else .ok false S1
noncomputable def bOr (f g : Fb) : Fb := fun δ S => (f δ S).bind fun k S1 => if k = true then .ok true S1 else g δ S1
theorem bOf_tB {t : TE} {fa : Fd} (ht : ∀ σ H Q, tOf X.mo X.N.length E fa σ H Q → t σ H Q) : ∀ σ H Q, bOf X.mo X.N.length E (bVal fa) σ H Q → tB t σ H Q := fun σ H Q ⟨ι, δ, S, rs, re, p⟩ =>
  ht _ _ _ (tOf.step rs re (Post.bind p) fun ι1 H1 S1 d v x1 r1 re1 p1 rv1 => by
    obtain ⟨k, rfl, rfl, q⟩ := Post.isBl p1 rv1
    exact ⟨k, rfl, q ι1 H1 (.refl ι1 H1) r1⟩)
theorem dt_val (ha : DE X E a fa) (he : ∀ whole, isTrue a X.env whole = (do let v ← whole; standAt a.pos; holding [v] (truthy v))) : DT X E a (bVal fa) :=
  (pt_val ha he).weak (bOf_tB fun _ _ _ h => h)
theorem dt_cmp {op : CmpOp} {r : R2} {g : D → D → Sto → R D} (ho : OpR X (compareOp op) r) (hr : Prim2 X r g) (hm : behindInMarks op b = false) (ha : DE X E a fa) (hb : DE X E b fb) : DT X E (.Compare a [op] [b] pos) (bVal (f2 g fa fb)) :=
  (pt_cmpR ho ha hb hm).weak (bOf_tB fun _ _ _ h => tOp_of hr h)
theorem dt_pc {op : CmpOp} {t : TE} (hp : PC X op a b t) (ht : ∀ σ H Q, tOf X.mo X.N.length E fa σ H Q → t σ H Q) (h1 : behindInMarks op b = false) : DT X E (.Compare a [op] [b] pos) (bVal fa) :=
  (pt_cmp hp h1).weak (bOf_tB ht)
theorem de_pc {op : CmpOp} {t : TE} (hp : PC X op a b t) (ht : ∀ σ H Q, tOf X.mo X.N.length E fa σ H Q → t σ H Q) (h1 : behindInMarks op b = false) : DE X E (.Compare a [op] [b] pos) fa :=
  (pe_cmp hp h1).weak ht
theorem dt_not {f : Fb} (h : DT X E a f) : DT X E (.UnaryOp .Not a pos) (bNot f) :=
  (pt_not h).weak fun σ H Q ⟨ι, δ, S, rs, re, p⟩ => bOf.step rs re (Post.bind p) fun ι1 H1 S1 k x1 r1 re1 p1 => p1 ι1 H1 (.refl ι1 H1) r1
theorem dw_and1 {f : Fb} (h : DT X E a f) : DW X E (.BoolOp .And [a] pos) f := pw_and1 h
theorem dw_or1 {f : Fb} (h : DT X E a f) : DW X E (.BoolOp .Or [a] pos) f := pw_or1 h
theorem dw_and {f g : Fb} {rest : List Expr} (h : DT X E a f) (hb : DW X E (.BoolOp .And (b :: rest) pos) g) : DW X E (.BoolOp .And (a :: b :: rest) pos) (bAnd f g) :=
  (pw_and h hb).weak fun σ H Q ⟨ι, δ, S, rs, re, p⟩ => bOf.step rs re (Post.bind p) fun ι1 H1 S1 k x1 r1 re1 p1 => by
    cases k with
    | true => exact iteT ⟨ι1, δ, S1, r1, re1, p1⟩
    | false => exact iteF (p1 ι1 H1 (.refl ι1 H1) r1)
theorem dw_or {f g : Fb} {rest : List Expr} (h : DT X E a f) (hb : DW X E (.BoolOp .Or (b :: rest) pos) g) : DW X E (.BoolOp .Or (a :: b :: rest) pos) (bOr f g) :=
  (pw_or h hb).weak fun σ H Q ⟨ι, δ, S, rs, re, p⟩ => bOf.step rs re (Post.bind p) fun ι1 H1 S1 k x1 r1 re1 p1 => by
    cases k with
    | true => exact iteT (p1 ι1 H1 (.refl ι1 H1) r1)
    | false => exact iteF ⟨ι1, δ, S1, r1, re1, p1⟩
noncomputable def fIf (f : Fb) (fa fb : Fd) : Fd := fun δ S => (f δ S).bind fun k S1 => if k = true then fa δ S1 else fb δ S1
theorem de_ifExp {f : Fb} (h : DT X E c f) (ha : DE X E a fa) (hb : DE X E b fb) : DE X E (.IfExp c a b pos) (fIf f fa fb) :=
  (pe_ifExp h ha hb).weak fun σ H Q ⟨ι, δ, S, rs, re, p⟩ => bOf.step rs re (Post.bind p) fun ι1 H1 S1 k x1 r1 re1 p1 => by
    cases k with
    | true => exact iteT ⟨ι1, δ, S1, r1, re1, p1⟩
    | false => exact iteF ⟨ι1, δ, S1, r1, re1, p1⟩
noncomputable def fChain (g g' : D → D → Sto → R D) (fa fb fc : Fd) : Fd := fun δ S => (fa δ S).bind fun x S1 => (fb δ S1).bind fun y S2 => (g x y S2).bind (isBl fun _ S3 k => if k = true then (fc δ S3).bind fun z S4 => g' y z S4 else .ok (.bl false) S3)
end
noncomputable def aNil : Fa := fun _ S => .ok [] S
noncomputable def aCons (f : Fd) (g : Fa) : Fa := fun δ S => (f δ S).bind fun d S1 => (g δ S1).bind fun ds S2 => .ok (d :: ds) S2
section
variable {X : Cx} {E : St → XK} {e : Expr} {es : List Expr} {f : Fd} {g : Fa} {pos : Pos}
theorem da_nil : DA X E [] aNil := pa_nil.weak fun σ H Q ⟨ι, _, _, rs, _, p⟩ => p ι H (.refl ι H) rs [] .nil
theorem da_cons (h : DE X E e f) (t : DA X E es g) (hs : starEach (e :: es) X.env = (false, eval e X.env) :: starEach es X.env) : DA X E (e :: es) (aCons f g) :=
  (pa_cons h t hs).weak fun σ H Q ⟨ι, δ, S, rs, re, p⟩ => tOf.step rs re (Post.bind p) fun ι1 H1 S1 d v x1 r1 re1 p1 rv1 =>
    aOf.step r1 re1 (Post.bind p1) fun ι2 H2 S2 ds vs x2 r2 re2 p2 rv2 => p2 ι2 H2 (.refl ι2 H2) r2 _ (.cons (rv1.ext x2) rv2)
noncomputable def lim : Nat := 100000
theorem lim_line : lim ≤ sizeLine := by decide
noncomputable def mkTup (ds : List D) (S : Sto) : R D := if ds.length ≤ lim then .ok (.tup ds) S else .fail
noncomputable def mkLst (ds : List D) (S : Sto) : R D := if ds.length ≤ lim then .ok (.ref S.length) (S ++ [.lst ds]) else .fail
theorem post_tup {M : Mo} {ι : List Addr} {H : Hp} {S : Sto} {vs : List V} {ds : List D} {Q : VK} {E : Value → Hp → Prop} (rs : RelS M ι H S) (rv : RDs M ι H vs ds) (p : Post M ι H (mkTup ds S) (fun ι' H' _ d => ∀ v, RD M ι' H' v d → Q v H') E) :
    vs.length ≤ sizeLine ∧ ∀ p, H p = none → Q (.ref p) (upd H p (.tup vs)) := by
  unfold mkTup at p
  split at p
  · rename_i hl
    refine ⟨by rw [rv.length]; exact Nat.le_trans hl lim_line, fun q hq => p ι _ (Ext.laid hq) (rs.laid hq) _ (.tup (SqU.of upd_same) (rv.ext (Ext.laid hq)))⟩
  · exact p.elim
theorem post_lst {M : Mo} {ι : List Addr} {H : Hp} {S : Sto} {vs : List V} {ds : List D} {Q : VK} {E : Value → Hp → Prop} (rs : RelS M ι H S) (rv : RDs M ι H vs ds) (p : Post M ι H (mkLst ds S) (fun ι' H' _ d => ∀ v, RD M ι' H' v d → Q v H') E) :
    vs.length ≤ sizeLine ∧ ∀ p, H p = none → Q (.ref p) (upd H p (.lst vs)) := by
  unfold mkLst at p
  split at p
  · rename_i hl
    refine ⟨by rw [rv.length]; exact Nat.le_trans hl lim_line, fun q hq => p _ _ (Ext.made hq) (rs.made hq ⟨vs, upd_same, rv.ext (Ext.made hq)⟩) _ (.ref ?_)⟩
    rw [← rs.len]; exact getElem?_snoc ι q
  · exact p.elim
noncomputable def fTup (g : Fa) : Fd := fun δ S => (g δ S).bind mkTup
noncomputable def fLst (g : Fa) : Fd := fun δ S => (g δ S).bind mkLst
theorem de_tup {x1} (h : DA X E es g) : DE X E (.Tuple es x1 pos) (fTup g) :=
  (pe_tup h).weak fun σ H Q ⟨ι, δ, S, rs, re, p⟩ => aOf.step rs re (Post.bind p) fun ι1 H1 S1 ds vs x1 r1 re1 p1 rv1 => post_tup r1 rv1 p1
theorem de_lst (h : DA X E es g) : DE X E (.List es pos) (fLst g) :=
  (pe_lst h).weak fun σ H Q ⟨ι, δ, S, rs, re, p⟩ => aOf.step rs re (Post.bind p) fun ι1 H1 S1 ds vs x1 r1 re1 p1 rv1 => post_lst r1 rv1 p1
noncomputable def spOf (M : Mo) (k : Nat) (f : List D → Sto → R D) : Sp := fun vs H Q E => vs.length = k ∧ ∃ ι ds S, RelS M ι H S ∧ RDs M ι H vs ds ∧ Post M ι H (f ds S) (fun ι' H' _ d => ∀ v, RD M ι' H' v d → Q v H') (fun C H' => E C none H')
noncomputable def fCall (F : List D → Sto → R D) (g : Fa) : Fd := fun δ S => (g δ S).bind F
theorem de_call {k : Nat} {ps : List Str} {x : Str} {p : Pos} {F : List D → Sto → R D} (h : Has X.prog X.w X.K X.mg X.base k x ps (spOf X.mo ps.length F)) (hl : (e :: es).length = ps.length) (hr : Room k X.A) (hg : Gl X x) (hx : PassS (CXE X.prog X.w) X E) (ha : DA X E (e :: es) g)
    (hla : ∀ δ S ds S', g δ S = .ok ds S' → ds.length = (e :: es).length) (hdb : (x == ("__debug__" : Str)) = false)
    (he : starEach (e :: es) X.env = (false, eval e X.env) :: starEach es X.env) (hpl : (backTo pos (starEach es X.env)).any (·.1) = false) : DE X E (.Call (.Name x p) (e :: es) [] pos) (fCall F g) :=
  (pe_callE h hr hg hx ha hdb he hpl).weak fun σ H Q ⟨ι, δ, S, rs, re, q⟩ => by
    refine aOf.step rs re (P := fun ι1 H1 S1 ds => ds.length = (e :: es).length ∧ Post X.mo ι1 H1 (F ds S1) (fun ι' H' _ d => ∀ v, RD X.mo ι' H' v d → Q v H') (fun C H' => E σ C none H')) ?_ fun ι1 H1 S1 ds vs x1 r1 re1 p1 rv1 => ?_
    · have q' := Post.bind (r := g δ S) (f := F) q
      cases eg : g δ S with
      | ok ds S' => rw [eg] at q'; exact fun ι1 H1 x r => ⟨hla δ S ds S' eg, q' ι1 H1 x r⟩
      | exc C S' => rw [eg] at q'; exact q'
      | fail => rw [eg] at q'; exact q'
    · rw [List.append_nil]
      exact ⟨by rw [rv1.length, p1.1]; exact hl, ι1, ds, S1, r1, rv1, p1.2⟩
theorem de_callB {x : Str} {p : Pos} {id : String} {r : List V → Hp → VK → Prop} {G : List D → Sto → R D} (hc : CallR X (.builtin id) r) (hG : PrimA X r G) (hg : Gl X x) (hm : X.mg x = none) (hv : bootBuiltins x = some (.builtin id)) (ha : DA X E (e :: es) g) (hn : x ≠ "__name__")
    (hdb : (x == ("__debug__" : Str)) = false) (he : starEach (e :: es) X.env = (false, eval e X.env) :: starEach es X.env) (hpl : (backTo pos (starEach es X.env)).any (·.1) = false) : DE X E (.Call (.Name x p) (e :: es) [] pos) (fCall G g) :=
  (pe_callB hc hg hm hv ha hn hdb he hpl).weak fun σ H Q ⟨ι, δ, S, rs, re, q⟩ => aOf.step rs re (Post.bind q) fun ι1 H1 S1 ds vs x1 r1 re1 p1 rv1 => hG ι1 H1 S1 vs ds Q _ r1 rv1 p1
theorem de_callTy {x : Str} {p : Pos} {T : String} {r : List V → Hp → VK → Prop} {G : List D → Sto → R D} (hc : CallR X (.type T) r) (hG : PrimA X r G) (hg : Gl X x) (hm : X.mg x = none) (hv : bootBuiltins x = some (.type T)) (ha : DA X E (e :: es) g) (hn : x ≠ "__name__")
    (hdb : (x == ("__debug__" : Str)) = false) (he : starEach (e :: es) X.env = (false, eval e X.env) :: starEach es X.env) (hpl : (backTo pos (starEach es X.env)).any (·.1) = false) : DE X E (.Call (.Name x p) (e :: es) [] pos) (fCall G g) :=
  (pe_callTy hc hg hm hv ha hn hdb he hpl).weak fun σ H Q ⟨ι, δ, S, rs, re, q⟩ => aOf.step rs re (Post.bind q) fun ι1 H1 S1 ds vs x1 r1 re1 p1 rv1 => hG ι1 H1 S1 vs ds Q _ r1 rv1 p1
end
mutual
noncomputable def noRef : D → Bool
  | .ref _ => false
  | .tup ds => noRefs ds
  | .rol ds => noRefs ds
  | _ => true
noncomputable def noRefs : List D → Bool
  | [] => true
  | d :: ds => noRef d && noRefs ds
end
open Classical in
noncomputable def gc (S : Sto) (r : R D) : R D := match r with
  | .ok d S' => if noRef d = true ∧ S <+: S' then .ok d S else .ok d S'
  | r => r
section
variable {M : Mo} {ι ι' : List Addr} {H H' : Hp} {S : Sto}
mutual
theorem RD.noRef : ∀ {v : V} {d : D}, RD M ι H v d → L2.noRef d = true → RD M ι' H v d
  | _, _, .non, _ => .non
  | _, _, .bl b, _ => .bl b
  | _, _, .int i, _ => .int i
  | _, _, .str x, _ => .str x
  | _, _, .ty t, _ => .ty t
  | _, _, .tup h t, e => .tup h (RDs.noRef t (by simpa [L2.noRef] using e))
  | _, _, .rol h t, e => .rol h (RDs.noRef t (by simpa [L2.noRef] using e))
  | _, _, .ref h, e => by simp [L2.noRef] at e
  | _, _, .gl h, _ => .gl h
theorem RDs.noRef : ∀ {vs : List V} {ds : List D}, RDs M ι H vs ds → noRefs ds = true → RDs M ι' H vs ds
  | _, _, .nil, _ => .nil
  | _, _, .cons h t, e => by
    simp [noRefs] at e
    exact .cons (RD.noRef h e.1) (RDs.noRef t e.2)
end
mutual
theorem RD.down (p : ∀ (n : Nat) a, ι[n]? = some a → ι'[n]? = some a) : ∀ {v u : V} {d : D} {G : Hp}, RD M ι G u d → RD M ι' H v d → RD M ι H v d
  | _, _, _, _, .non, h => by cases h; exact .non
  | _, _, _, _, .bl b, h => by cases h; exact .bl b
  | _, _, _, _, .int i, h => by cases h; exact .int i
  | _, _, _, _, .str x, h => by cases h; exact .str x
  | _, _, _, _, .ty t, h => by cases h; exact .ty t
  | _, _, _, _, .tup _ t, h => by
    cases h with
    | tup h' t' => exact .tup h' (RDs.down p t t')
  | _, _, _, _, .rol _ t, h => by
    cases h with
    | rol h' t' => exact .rol h' (RDs.down p t t')
  | _, _, _, _, .ref q, h => by
    cases h with
    | ref q' =>
      have e := p _ _ q
      rw [q'] at e
      cases e
      exact .ref q
  | _, _, _, _, .gl q, h => by
    cases h with
    | gl q' => exact .gl q'
theorem RDs.down (p : ∀ (n : Nat) a, ι[n]? = some a → ι'[n]? = some a) : ∀ {vs us : List V} {ds : List D} {G : Hp}, RDs M ι G us ds → RDs M ι' H vs ds → RDs M ι H vs ds
  | _, _, _, _, .nil, h => by cases h; exact .nil
  | _, _, _, _, .cons a b, h => by
    cases h with
    | cons a' b' => exact .cons (RD.down p a a') (RDs.down p b b')
end
theorem RFs.down (p : ∀ (n : Nat) a, ι[n]? = some a → ι'[n]? = some a) : ∀ {vs vs' : List (Str × V)} {ds : List (Str × D)}, RFs M ι H vs ds → RFs M ι' H' vs' ds → RFs M ι H' vs' ds
  | _, _, _, .nil, h => by cases h; exact .nil
  | _, _, _, .cons a b, h => by
    cases h with
    | cons a' b' => exact .cons (RD.down p a a') (RFs.down p b b')
theorem RKs.down' (p : ∀ (n : Nat) a, ι[n]? = some a → ι'[n]? = some a) : ∀ {vs vs' : List (Key × V)} {ds es : List (D × D)}, RKs M ι H vs ds → RKs M ι' H' vs' es → ds = es → RKs M ι H' vs' es
  | _, _, _, _, .nil, .nil, _ => .nil
  | _, _, _, _, .nil, .cons _ _, h => nomatch h
  | _, _, _, _, .cons _ _, .nil, h => nomatch h
  | _, _, _, _, .cons (d := d) a b, .cons (d := d') a' b', h => by
    injection h with h1 h2
    injection h1 with h3 h4
    subst h4
    exact .cons (RD.down p a a') (RKs.down' p b b' h2)
theorem RTs.down' (p : ∀ (n : Nat) a, ι[n]? = some a → ι'[n]? = some a) : ∀ {vs vs' : List (List Key × V)} {ds es : List (D × D)}, RTs M ι H vs ds → RTs M ι' H' vs' es → ds = es → RTs M ι H' vs' es
  | _, _, _, _, .nil, .nil, _ => .nil
  | _, _, _, _, .nil, .cons _ _, h => nomatch h
  | _, _, _, _, .cons _ _, .nil, h => nomatch h
  | _, _, _, _, .cons (d := d) a b, .cons (d := d') a' b', h => by
    injection h with h1 h2
    injection h1 with h3 h4
    subst h4
    exact .cons (RD.down p a a') (RTs.down' p b b' h2)
theorem RelS.down (h : RelS M ι H S) (e : Ext ι H ι' H') {S' : Sto} (h' : RelS M ι' H' S') (pr : S <+: S') : RelS M ι H' S := by
  refine ⟨h.len, h.nd, fun n a o h1 h2 => ?_⟩
  obtain ⟨J, rfl⟩ := pr
  have hl : n < S.length := (List.getElem?_eq_some_iff.mp h2).1
  have r := h.obj n a o h1 h2
  have r' := h'.obj n a o (e.pre n a h1) (by rw [List.getElem?_append_left hl]; exact h2)
  cases o with
  | lst xs =>
    obtain ⟨vs, q1, q2⟩ := r
    obtain ⟨vs', q1', q2'⟩ := r'
    exact ⟨vs', q1', RDs.down e.pre q2 q2'⟩
  | dic kvs =>
    obtain ⟨ks, q1, q2⟩ := r
    obtain ⟨ks', q1', q2'⟩ := r'
    exact ⟨ks', q1', RKs.down' e.pre q2 q2' rfl⟩
  | ins C fs =>
    obtain ⟨Ca, dx, vs, m, q1, q2⟩ := r
    obtain ⟨Ca', dx', vs', m', q1', q2'⟩ := r'
    exact ⟨Ca', dx', vs', m', q1', RFs.down e.pre q2 q2'⟩
  | exc C => exact r'
  | dit kvs =>
    obtain ⟨ks, q1, q2⟩ := r
    obtain ⟨ks', q1', q2'⟩ := r'
    exact ⟨ks', q1', RTs.down' e.pre q2 q2' rfl⟩
  | fdt kvs =>
    obtain ⟨o, ks, q1, q2⟩ := r
    obtain ⟨o', ks', q1', q2'⟩ := r'
    exact ⟨o', ks', q1', RTs.down' e.pre q2 q2' rfl⟩
theorem Post.gc {r : R D} {Q : V → Hp → Prop} {E : Value → Hp → Prop} (rs : RelS M ι H S) (p : Post M ι H (gc S r) (fun ι' H' _ d => ∀ v, RD M ι' H' v d → Q v H') E) : Post M ι H r (fun ι' H' _ d => ∀ v, RD M ι' H' v d → Q v H') E := by
  cases r with
  | ok d S' =>
    unfold L2.gc at p
    by_cases c : L2.noRef d = true ∧ S <+: S'
    · simp only [if_pos c] at p
      exact fun ι' H' x r v rv => p ι H' ⟨fun _ _ q => q, x.ts, x.fz⟩ (rs.down x r c.2) v (rv.noRef c.1)
    · simp only [if_neg c] at p
      exact p
  | exc C S' => exact p
  | fail => exact p
end
noncomputable def fGc (f : Fd) : Fd := fun δ S => gc S (f δ S)
theorem de_gc {X : Cx} {E : St → XK} {e : Expr} {f : Fd} (h : DE X E e f) : DE X E e (fGc f) := h.weak fun σ H Q ⟨ι, δ, S, rs, re, p⟩ => ⟨ι, δ, S, rs, re, Post.gc rs p⟩
noncomputable abbrev Fs := Dv → Sto → RS
noncomputable def sNext : Fs := fun δ S => .next δ S
noncomputable def sSeq (f g : Fs) : Fs := fun δ S => (f δ S).bind g
noncomputable def sSet (i : Nat) (f : Fd) : Fs := fun δ S => (f δ S).toS δ fun d S1 => .next (δ.set i (some d)) S1
noncomputable def sRet (f : Fd) : Fs := fun δ S => (f δ S).toS δ fun d S1 => .ret d S1
noncomputable def sExpr (f : Fd) : Fs := fun δ S => (f δ S).toS δ fun _ S1 => .next δ S1
noncomputable def sIf (c : Fb) (f g : Fs) : Fs := fun δ S => (c δ S).toS δ fun k S1 => if k = true then f δ S1 else g δ S1
theorem PS.nox {X : Cx} {st : Stmt} {t : TS} (h : PS X.nox st t) : PS X st t := fun pins s σ H D I hw =>
  wpAny_mono (h pins s σ H D (I.wish _) hw) (fun _ _ q => SP.unwish q) fun _ _ q => q.elim
section
variable {X : Cx} {E : St → XK} {pos : Pos} {st : Stmt} {rest : List Stmt} {e : Expr} {f g : Fs} {fe : Fd}
theorem dss_nil : DSs X E [] sNext := pss_nil.weak fun D σ H ⟨ι, δ, S, rs, re, p⟩ => p ι H σ (.refl ι H) rs re
theorem dss_cons (h1 : DS X E st f) (h2 : DSs X E rest g) : DSs X E (st :: rest) (sSeq f g) :=
  (pss_cons h1 h2).weak fun D σ H ⟨ι, δ, S, rs, re, p⟩ => by
    refine ⟨ι, δ, S, rs, re, ?_⟩
    unfold sSeq at p
    cases ef : f δ S with
    | next δ1 S1 => rw [ef] at p; exact fun ι' H' σ' x r' re' => ⟨ι', δ1, S1, r', re', PostS.ext p x⟩
    | ret d S1 => rw [ef] at p; exact p
    | brk δ1 S1 => rw [ef] at p; exact p
    | cnt δ1 S1 => rw [ef] at p; exact p
    | exc C δ1 S1 => rw [ef] at p; exact p
    | fail => rw [ef] at p; exact p
theorem ds_pass : DS X E (.Pass pos) sNext := ps_pass.weak fun D σ H ⟨ι, δ, S, rs, re, p⟩ => p ι H σ (.refl ι H) rs re
theorem ds_break : DS X E (.Break pos) (fun δ S => .brk δ S) := ps_break.weak fun D σ H ⟨ι, δ, S, rs, re, p⟩ => p ι H σ (.refl ι H) rs re
theorem ds_continue : DS X E (.Continue pos) (fun δ S => .cnt δ S) := ps_continue.weak fun D σ H ⟨ι, δ, S, rs, re, p⟩ => p ι H σ (.refl ι H) rs re
theorem ds_retN : DS X E (.Return none pos) (fun _ S => .ret .non S) := ps_retN.weak fun D σ H ⟨ι, δ, S, rs, re, p⟩ => p ι H _ (.refl ι H) rs .non
theorem ds_set {i : Nat} {x : Str} {pos' : Pos} (hN : X.N.Nodup) (hi : X.N[i]? = some x) (hx : Loc X.env.scope x) (he : DE X E e fe) (hs : swapsWith e (some (.Name x pos')) pos.line X.env = pure false) (hf : X.fn x = true ∨ X.env.scope.names.lookup x = some .local) :
    DS X E (.Assign [.Name x pos'] e pos) (sSet i fe) :=
  (ps_set hN hi hx he hs hf).weak fun D σ H ⟨ι, δ, S, rs, re, p⟩ => tOf.step rs re (PostS.toS p re) fun ι1 H1 S1 d v x1 r1 re1 p1 rv1 =>
    p1 ι1 H1 _ (.refl ι1 H1) r1 (re1.set (List.getElem?_eq_some_iff.mp hi).1 rv1)
theorem ds_ret (he : DE X E e fe) : DS X E (.Return (some e) pos) (sRet fe) :=
  (ps_ret he).weak fun D σ H ⟨ι, δ, S, rs, re, p⟩ => tOf.step rs re (PostS.toS p re) fun ι1 H1 S1 d v x1 r1 re1 p1 rv1 => p1 ι1 H1 v (.refl ι1 H1) r1 rv1
theorem ds_expr (he : DE X E e fe) (hs : swapsWith e none pos.line X.env = pure false) : DS X E (.Expr e pos) (sExpr fe) :=
  (ps_expr he hs).weak fun D σ H ⟨ι, δ, S, rs, re, p⟩ => tOf.step rs re (PostS.toS p re) fun ι1 H1 S1 d v x1 r1 re1 p1 rv1 => p1 ι1 H1 σ (.refl ι1 H1) r1 re1
theorem ds_if {c : Expr} {a b : List Stmt} {fc : Fb} (hc : DT X E c fc) (ha : DSs X E a f) (hb : DSs X E b g) : DS X E (.If c a b pos) (sIf fc f g) :=
  (ps_if hc ha hb).weak fun D σ H ⟨ι, δ, S, rs, re, p⟩ => bOf.step rs re (PostS.toS p re) fun ι1 H1 S1 k x1 r1 re1 p1 => by
    cases k with
    | true => exact iteT ⟨ι1, δ, S1, r1, re1, p1⟩
    | false => exact iteF ⟨ι1, δ, S1, r1, re1, p1⟩
noncomputable def sPar (i j : Nat) (fa : Fa) : Fs := fun δ S => (fa δ S).toS δ fun ds S1 => match ds with
  | [d, e] => .next ((δ.set i (some d)).set j (some e)) S1
  | _ => .fail
noncomputable abbrev En : St → XK := fun _ => E0
noncomputable def noxS : RS → RS
  | .exc _ _ _ => .fail
  | r => r
noncomputable def noxR {α : Type} : R α → R α
  | .exc _ _ => .fail
  | r => r
noncomputable def whileD (t : Fb) (b : Fs) : Nat → Fs
  | 0 => fun _ _ => .fail
  | m + 1 => fun δ S => (noxR (t δ S)).toS δ fun k S1 => if k = true then
      (match noxS (b δ S1) with
        | .next δ2 S2 => whileD t b m δ2 S2
        | .cnt δ2 S2 => whileD t b m δ2 S2
        | .brk δ2 S2 => .next δ2 S2
        | r => r)
    else .next δ S1
theorem Post.nox {α : Type} {M : Mo} {ι : List Addr} {H : Hp} {r : R α} {Q : List Addr → Hp → Sto → α → Prop} {E E' : Value → Hp → Prop} (h : Post M ι H (noxR r) Q E) : Post M ι H r Q E' := by
  cases r with
  | ok a S => exact h
  | exc C S => exact h.elim
  | fail => exact h
theorem noxR_toS {α : Type} {r : R α} {δ : Dv} {f : α → Sto → RS} {M : Mo} {n : Nat} {ι : List Addr} {H : Hp} {σ : St} {Dn : Ends} {E E' : St → XK} (h : PostS M n ι H ((noxR r).toS δ f) Dn E) (re : RelE M ι H n σ δ) :
    Post M ι H r (fun ι1 H1 S1 a => PostS M n ι1 H1 (f a S1) Dn E) (fun C H' => E' σ C none H') := (PostS.toS h re).nox
inductive Itb where
  | its (ds : List D) | lref (n : Nat)
noncomputable def cur (t : Itb) (S : Sto) : Option (List D) := match t with
  | .its ds => some ds
  | .lref n => match S[n]? with
    | some (.lst xs) => some xs
    | _ => none
noncomputable abbrev Fi := Dv → Sto → R Itb
noncomputable def JOk (M : Mo) (ι : List Addr) (H : Hp) (J : It) (t : Itb) : Prop :=
  ∀ ι' H' S', Ext ι H ι' H' → RelS M ι' H' S' → ∀ ds, cur t S' = some ds → ∀ i : Nat,
    (∀ d, ds[i]? = some d → J.go i H' ∧ ∀ x H'', J.yld i H' x H'' → Ext ι' H' ι' H'' ∧ RelS M ι' H'' S' ∧ RD M ι' H'' x d) ∧ (ds.length ≤ i → J.stop i H')
noncomputable def itOf (M : Mo) (n : Nat) (E : St → XK) (f : Fi) : TI := fun σ H Rk => ∃ ι δ S, RelS M ι H S ∧ RelE M ι H n σ δ ∧ Post M ι H (f δ S) (fun ι' H' _ t => ∀ J, JOk M ι' H' J t → Rk J H') (fun C H' => E σ C none H')
noncomputable abbrev DI (X : Cx) (E : St → XK) (tg e : Expr) (f : Fi) : Prop := PI X tg e (itOf X.mo X.N.length E f)
theorem PI.weak {X : Cx} {tg e : Expr} {t t' : TI} (h : PI X tg e t) (w : ∀ σ H R, t' σ H R → t σ H R) : PI X tg e t' := fun pins s σ H R I q => h pins s σ H R I (w σ H R q)
theorem itOf.step {M : Mo} {n : Nat} {E : St → XK} {f : Fi} {σ : St} {H : Hp} {ι : List Addr} {δ : Dv} {S : Sto} {Q : It → Hp → Prop} {P : List Addr → Hp → Sto → Itb → Prop} (rs : RelS M ι H S) (re : RelE M ι H n σ δ)
    (h : Post M ι H (f δ S) P (fun C H' => E σ C none H')) (k : ∀ ι' H' S' t J, Ext ι H ι' H' → RelS M ι' H' S' → RelE M ι' H' n σ δ → P ι' H' S' t → JOk M ι' H' J t → Q J H') : itOf M n E f σ H Q :=
  ⟨ι, δ, S, rs, re, h.mono (fun ι' H' S' d x r p v rv => k ι' H' S' d v x r (re.ext x) p rv) fun _ _ q => q⟩
noncomputable def iSeq (K : PySem.W.Frag) (tl : TE) : TI := fun σ H R => tl σ H fun x H1 => ∃ a, x = .ref a ∧ (((∃ xs, SqL K H1 a xs) ∧ R (Itl K a) H1) ∨ ((∃ xs, SqT K H1 a xs) ∧ R (Itt K a) H1))
theorem pi_seq {tg l : Expr} {tl : TE} (hl : PE X l tl) : PI X tg l (iSeq X.K tl) := by
  intro pins s σ H R I h
  refine thn (hl pins s σ H _ I h) fun v s1 ⟨x, H1, I1, r1, q1⟩ => ?_
  obtain ⟨a, e, q1⟩ := q1
  subst e
  cases r1
  rcases q1 with ⟨⟨xs, hq⟩, q⟩ | ⟨⟨xs, hq⟩, q⟩
  · obtain ⟨its, rv, p, hz⟩ := I1.list hq
    refine wpAny_pyIter_list p.isList ?_
    refine ⟨s1.heap.objs.size, [s1.heap.objs.size], _, _, H1, rfl, I1.kept (t' := s1.toks) fun b o e => Heap.get?_push_of_some _ e, turn_list a _, ⟨_, Heap.get?_push_size _ rfl, rfl, rfl⟩, fun b hb => ?_, q⟩
    have e : b = s1.heap.objs.size := by simpa using hb
    subst e
    exact I1.fpOk (Nat.le_refl _) (I1.hok.fresh (Nat.le_refl _))
  · obtain ⟨its, rv, p, hz⟩ := I1.tuple hq
    refine wpAny_pyIter_tuple (show s1.heap.IsTuple a its.toArray from p) ?_
    refine ⟨s1.heap.objs.size, [s1.heap.objs.size], _, _, H1, rfl, I1.kept (t' := s1.toks) fun b o e => Heap.get?_push_of_some _ e, turn_tuple a _, ⟨_, Heap.get?_push_size _ rfl, rfl, rfl⟩, fun b hb => ?_, q⟩
    have e : b = s1.heap.objs.size := by simpa using hb
    subst e
    exact I1.fpOk (Nat.le_refl _) (I1.hok.fresh (Nat.le_refl _))
noncomputable def itD (d : D) (S : Sto) : R Itb := match d with
  | .tup ds => .ok (.its ds) S
  | .rol ds => .ok (.its ds) S
  | .ref n => match S[n]? with
    | some (.lst _) => .ok (.lref n) S
    | _ => .fail
  | _ => .fail
noncomputable def iVal (f : Fd) : Fi := fun δ S => (f δ S).bind itD
end
theorem JOk.tup {M : Mo} {ι : List Addr} {H : Hp} {a : Addr} {xs : List V} {ds : List D} (h : SqT M.K H a xs) (r : RDs M ι H xs ds) : JOk M ι H (Itt M.K a) (.its ds) := by
  intro ι' H' S' x rs ds' hc i
  cases hc
  refine ⟨fun d hd => ?_, fun hl => ⟨xs, x.ts.sqT h, by rw [r.length]; exact hl⟩⟩
  obtain ⟨v, h1, h2⟩ := r.get hd
  refine ⟨⟨xs, v, x.ts.sqT h, h1⟩, fun y H'' hy => ?_⟩
  obtain ⟨e, hy⟩ := hy
  subst e
  have z := hy xs (x.ts.sqT h)
  rw [h1] at z
  cases z
  exact ⟨.refl _ _, rs, h2.ext x⟩
theorem JOk.rol {M : Mo} {ι : List Addr} {H : Hp} {a : Addr} {xs : List V} {ds : List D} (h : FzL M.K H a xs) (r : RDs M ι H xs ds) : JOk M ι H (Itl M.K a) (.its ds) := by
  intro ι' H' S' x rs ds' hc i
  cases hc
  refine ⟨fun d hd => ?_, fun hl => ⟨xs, (x.ts.fzL h).sq, by rw [r.length]; exact hl⟩⟩
  obtain ⟨v, h1, h2⟩ := r.get hd
  refine ⟨⟨xs, v, (x.ts.fzL h).sq, h1⟩, fun y H'' hy => ?_⟩
  obtain ⟨e, hy⟩ := hy
  subst e
  have z := hy xs (x.ts.fzL h).sq
  rw [h1] at z
  cases z
  exact ⟨.refl _ _, rs, h2.ext x⟩
theorem JOk.lref {M : Mo} {ι : List Addr} {H : Hp} {a : Addr} {n : Nat} (h : ι[n]? = some a) : JOk M ι H (Itl M.K a) (.lref n) := by
  intro ι' H' S' x rs ds hc i
  have hn := x.pre n a h
  obtain ⟨o, ho, ro⟩ := rs.there hn
  have e : ∃ vs, H' a = some (.lst vs) ∧ RDs M ι' H' vs ds := by
    unfold cur at hc
    dsimp only at hc
    rw [ho] at hc
    cases o with
    | lst xs => cases hc; exact ro
    | _ => cases hc
  obtain ⟨vs, h1, r⟩ := e
  refine ⟨fun d hd => ?_, fun hl => ⟨vs, SqL.of h1, by rw [r.length]; exact hl⟩⟩
  obtain ⟨v, h2, h3⟩ := r.get hd
  refine ⟨⟨vs, v, SqL.of h1, h2⟩, fun y H'' hy => ?_⟩
  obtain ⟨e, hy⟩ := hy
  subst e
  have z := hy vs (SqL.of h1)
  rw [h2] at z
  cases z
  exact ⟨.refl _ _, rs, h3⟩
theorem JOk.rng {M : Mo} {ι : List Addr} {H : Hp} {lo : Int} {n : Nat} : JOk M ι H (Itr lo n) (.its ((List.range n).map fun i => D.int (lo + (i : Nat)))) := by
  intro ι' H' S' x rs ds hc i
  cases hc
  refine ⟨fun d hd => ?_, fun hl => by simpa [Itr] using hl⟩
  have hi : i < n := by
    have := (List.getElem?_eq_some_iff.mp hd).1
    simpa using this
  have e : d = .int (lo + (i : Nat)) := by
    rw [List.getElem?_map, List.getElem?_range hi] at hd
    cases hd
    rfl
  subst e
  refine ⟨hi, fun y H'' hy => ?_⟩
  obtain ⟨e, e2⟩ := hy
  subst e e2
  exact ⟨.refl _ _, rs, .int _⟩
section
variable {X : Cx} {E : St → XK} {pos : Pos} {tg e : Expr} {f : Fd}
theorem di_val (h : DE X E e f) : DI X E tg e (iVal f) :=
  (pi_seq h).weak fun σ H Rk ⟨ι, δ, S, rs, re, p⟩ => tOf.step rs re (Post.bind p) fun ι1 H1 S1 d v x1 r1 re1 p1 rv1 => by
    cases rv1 with
    | @tup a xs ds h1 h2 => exact ⟨a, rfl, .inr ⟨⟨xs, h1.sq⟩, p1 ι1 H1 (.refl ι1 H1) r1 _ (.tup h1.sq h2)⟩⟩
    | @rol a xs ds h1 h2 => exact ⟨a, rfl, .inl ⟨⟨xs, h1.sq⟩, p1 ι1 H1 (.refl ι1 H1) r1 _ (.rol h1 h2)⟩⟩
    | @ref a n h1 =>
      obtain ⟨o, ho, ro⟩ := r1.there h1
      unfold itD at p1
      dsimp only at p1
      rw [ho] at p1
      cases o with
      | lst xs =>
        obtain ⟨vs, h2, _⟩ := ro
        exact ⟨a, rfl, .inl ⟨⟨vs, SqL.of h2⟩, p1 ι1 H1 (.refl ι1 H1) r1 _ (.lref h1)⟩⟩
      | _ => exact p1.elim
    | _ => exact p1.elim
open Classical in
noncomputable def rng1 (ds : List D) (S : Sto) : R Itb := match ds with
  | [.int j] => if -(2 ^ 62) ≤ j ∧ j < 2 ^ 62 then .ok (.its ((List.range j.toNat).map fun i => D.int (0 + (i : Nat)))) S else .fail
  | _ => .fail
open Classical in
noncomputable def rng2 (ds : List D) (S : Sto) : R Itb := match ds with
  | [.int i, .int j] => if -(2 ^ 62) ≤ i ∧ i < 2 ^ 62 ∧ -(2 ^ 62) ≤ j ∧ j < 2 ^ 62 then .ok (.its ((List.range (j - i).toNat).map fun k => D.int (i + (k : Nat)))) S else .fail
  | _ => .fail
noncomputable def iRg1 (g : Fa) : Fi := fun δ S => (g δ S).bind rng1
noncomputable def iRg2 (g : Fa) : Fi := fun δ S => (g δ S).bind rng2
theorem di_range1 {a : Expr} {g : Fa} {p : Pos} (hg : Gl X "range") (hm : X.mg "range" = none) (ha : DA X E [a] g) (hs : starEach [a] X.env = [(false, eval a X.env)]) : DI X E tg (.Call (.Name "range" p) [a] [] pos) (iRg1 g) :=
  (pi_range1 hg hm ha hs).weak fun σ H Rk ⟨ι, δ, S, rs, re, p⟩ => aOf.step rs re (Post.bind p) fun ι1 H1 S1 ds vs x1 r1 re1 p1 rv1 => by
    unfold rng1 at p1
    split at p1
    · rename_i j
      split at p1
      · rename_i c
        cases rv1 with
        | cons h t =>
          cases h
          cases t
          exact ⟨j, rfl, c.1, c.2, p1 ι1 H1 (.refl ι1 H1) r1 _ JOk.rng⟩
      · exact p1.elim
    · exact p1.elim
end
noncomputable abbrev Fg := D → Dv → Sto → Option Dv
noncomputable def gOf (M : Mo) (n : Nat) (g : Fg) : TG := fun v σ H Q => ∃ ι δ S d, RelS M ι H S ∧ RelE M ι H n σ δ ∧ RD M ι H v d ∧ ∃ δ', g d δ S = some δ' ∧ ∀ σ', RelE M ι H n σ' δ' → Q σ' H
noncomputable abbrev DG (X : Cx) (tg : Expr) (g : Fg) : Prop := PG X tg (gOf X.mo X.N.length g)
theorem PG.weak {X : Cx} {tg : Expr} {t t' : TG} (h : PG X tg t) (w : ∀ v σ H Q, t' v σ H Q → t v σ H Q) : PG X tg t' := fun pins s σ H x u Q I r q => h pins s σ H x u Q I r (w x σ H Q q)
noncomputable def gSet (i : Nat) : Fg := fun d δ _ => some (δ.set i (some d))
section
variable {X : Cx} {E : St → XK} {pos : Pos} {tg e : Expr}
theorem dg_name {i : Nat} {x : Str} (hN : X.N.Nodup) (hi : X.N[i]? = some x) (hx : Loc X.env.scope x) (hf : X.fn x = true ∨ X.env.scope.names.lookup x = some .local) : DG X (.Name x pos) (gSet i) :=
  (pg_name hN hi hx hf).weak fun v σ H Q ⟨ι, δ, S, d, rs, re, rv, δ', e, q⟩ => by
    cases e
    exact q _ (re.set (List.getElem?_eq_some_iff.mp hi).1 rv)
noncomputable def forD (t : Itb) (g : Fg) (b : Fs) : Nat → Nat → Fs
  | 0, _ => fun _ _ => .fail
  | m + 1, i => fun δ S => match cur t S with
    | none => .fail
    | some ds => match ds[i]? with
      | none => .next δ S
      | some d => match g d δ S with
        | none => .fail
        | some δ1 => match noxS (b δ1 S) with
          | .next δ2 S2 => forD t g b m (i + 1) δ2 S2
          | .cnt δ2 S2 => forD t g b m (i + 1) δ2 S2
          | .brk δ2 S2 => .next δ2 S2
          | r => r
noncomputable def sFor (fi : Fi) (g : Fg) (b : Fs) (B : Nat) : Fs := fun δ S => (noxR (fi δ S)).toS δ fun t S1 => forD t g b B 0 δ S1
theorem for_core {g : Fg} {fb : Fs} {B : Nat} {t : Itb} {J : It} {ι1 : List Addr} {H1 : Hp} {S1 : Sto} {δ : Dv} {σ : St} {D : Ends} (jok : JOk X.mo ι1 H1 J t) (r1 : RelS X.mo ι1 H1 S1) (re1 : RelE X.mo ι1 H1 X.N.length σ δ) (p1 : PostS X.mo X.N.length ι1 H1 (forD t g fb B 0 δ S1) D E) :
    ∃ W : Nat → Nat → St → Hp → Prop, (∃ m, W 0 m σ H1) ∧ ∀ i m σ H, W i m σ H → (J.stop i H ∧ D.nx σ H) ∨ (J.go i H ∧ ∃ N : St → Hp → Prop, (∀ σ' H', N σ' H' → ∃ m', m' < m ∧ W (i + 1) m' σ' H') ∧
      ∀ x H', J.yld i H x H' → gOf X.mo X.N.length g x σ H' fun σ2 H2 => sOf X.mo X.N.length En fb { D with nx := N, ct := N, bk := D.nx } σ2 H2) := by
  refine ⟨fun i m σ H => ∃ ι δ S, Ext ι1 H1 ι H ∧ RelS X.mo ι H S ∧ RelE X.mo ι H X.N.length σ δ ∧ PostS X.mo X.N.length ι H (forD t g fb m i δ S) D E, ⟨B, ι1, δ, S1, .refl _ _, r1, re1, p1⟩, ?_⟩
  rintro i m σ H ⟨ι2, δ2, S2, x2, r2, re2, p2⟩
  cases m with
  | zero => exact p2.elim
  | succ m =>
    have p3 : PostS X.mo X.N.length ι2 H (match cur t S2 with | none => .fail | some ds => match ds[i]? with | none => .next δ2 S2 | some d => match g d δ2 S2 with | none => .fail | some δ1 => match noxS (fb δ1 S2) with | .next δ2 S2 => forD t g fb m (i + 1) δ2 S2 | .cnt δ2 S2 => forD t g fb m (i + 1) δ2 S2 | .brk δ2 S2 => .next δ2 S2 | r => r) D E := p2
    cases hcur : cur t S2 with
    | none => rw [hcur] at p3; exact p3.elim
    | some ds =>
      rw [hcur] at p3
      dsimp only at p3
      obtain ⟨j1, j2⟩ := jok ι2 H S2 x2 r2 ds hcur i
      cases hd : ds[i]? with
      | none =>
        rw [hd] at p3
        exact .inl ⟨j2 (List.getElem?_eq_none_iff.mp hd), p3 ι2 H σ (.refl _ _) r2 re2⟩
      | some d =>
        rw [hd] at p3
        dsimp only at p3
        obtain ⟨go, yl⟩ := j1 d hd
        refine .inr ⟨go, fun σ' H' => ∃ ι δ S, Ext ι1 H1 ι H' ∧ RelS X.mo ι H' S ∧ RelE X.mo ι H' X.N.length σ' δ ∧ PostS X.mo X.N.length ι H' (forD t g fb m (i + 1) δ S) D E, fun σ' H' h' => ⟨m, Nat.lt_succ_self m, h'⟩, fun x H' hy => ?_⟩
        obtain ⟨x3, r3, rx⟩ := yl x H' hy
        have re3 := re2.ext x3
        cases hg' : g d δ2 S2 with
        | none => rw [hg'] at p3; exact p3.elim
        | some δ1 =>
          rw [hg'] at p3
          dsimp only at p3
          refine ⟨ι2, δ2, S2, d, r3, re3, rx, δ1, hg', fun σ' re4 => ⟨ι2, δ1, S2, r3, re4, ?_⟩⟩
          have x4 := x2.trans x3
          cases ef : fb δ1 S2 with
          | next δ4 S4 => rw [ef] at p3; exact fun ι' H' σ' x r' re' => ⟨ι', δ4, S4, x4.trans x, r', re', PostS.ext p3 (x3.trans x)⟩
          | cnt δ4 S4 => rw [ef] at p3; exact fun ι' H' σ' x r' re' => ⟨ι', δ4, S4, x4.trans x, r', re', PostS.ext p3 (x3.trans x)⟩
          | brk δ4 S4 => rw [ef] at p3; exact fun ι' H' σ' x r' re' => p3 ι' H' σ' (x3.trans x) r' re'
          | ret v S4 => rw [ef] at p3; exact fun ι' H' σ' x r' re' => p3 ι' H' σ' (x3.trans x) r' re'
          | exc C δ4 S4 => rw [ef] at p3; exact p3.elim
          | fail => rw [ef] at p3; exact p3.elim
theorem ds_for {iter : Expr} {body : List Stmt} {fi : Fi} {g : Fg} {fb : Fs} (B : Nat) (hc : X.calm = true) (hi : DI X.nox En tg iter fi) (hg : DG X.nox tg g) (hb : DSs X.nox En body fb) (hs : ∀ x, foldedSetIterable iter X.env x = pure x) :
    DS X E (.For tg iter body [] pos) (sFor fi g fb B) :=
  (PS.nox (ps_for (X := X.nox) PassesOwn.never hc hi hg hb hs)).weak fun D σ H ⟨ι, δ, S, rs, re, p⟩ => by
    refine itOf.step (M := X.mo) (n := X.N.length) (E := En) rs re (noxR_toS p re) fun ι1 H1 S1 t J x1 r1 re1 p1 jok => ?_
    exact for_core jok r1 re1 p1
end
theorem closure_go (env : Env) : ∀ (names : List (Str × NameKind)) (acc : List (Str × Addr)), (∀ p ∈ names, p.2 = .free → ∃ c, env.cells.lookup p.1 = some c) →
    ∃ cl, (forIn names acc (fun (x : Str × NameKind) (cs : List (Str × Addr)) => if (x.2 == NameKind.free) = true then (do let a ← cellOf env x.1; pure (ForInStep.yield ((x.1, a) :: cs)) : Sem (ForInStep (List (Str × Addr)))) else pure (ForInStep.yield cs)) : Sem (List (Str × Addr))) = pure cl ∧
      (∀ n c, cl.lookup n = some c → acc.lookup n = some c ∨ env.cells.lookup n = some c) ∧ (∀ n, ((n, NameKind.free) ∈ names ∨ ∃ c, acc.lookup n = some c) → ∃ c, cl.lookup n = some c)
  | [], acc, _ => ⟨acc, rfl, fun n c h => .inl h, fun n h => by
      rcases h with h | h
      · cases h
      · exact h⟩
  | (n, k) :: r, acc, h => by
    have hr : ∀ p ∈ r, p.2 = .free → ∃ c, env.cells.lookup p.1 = some c := fun p hp => h p (List.mem_cons_of_mem _ hp)
    by_cases hk : k = .free
    · subst hk
      obtain ⟨c, hc⟩ := h (n, .free) List.mem_cons_self rfl
      obtain ⟨cl, e, h1, h2⟩ := closure_go env r ((n, c) :: acc) hr
      refine ⟨cl, ?_, fun m d hm => ?_, fun m hm => ?_⟩
      · rw [List.forIn_cons]
        have e0 : cellOf env n = pure c := by unfold cellOf; rw [hc]
        simp only [beq_self_eq_true, if_true, e0]
        exact e
      · rcases h1 m d hm with z | z
        · rw [List.lookup_cons] at z
          cases q : m == n with
          | true =>
            rw [q] at z
            cases z
            have : m = n := by simpa using q
            subst this
            exact .inr hc
          | false => rw [q] at z; exact .inl z
        · exact .inr z
      · refine h2 m ?_
        rcases hm with hm | ⟨d, hm⟩
        · rcases List.mem_cons.mp hm with z | z
          · cases z
            exact .inr ⟨c, by rw [List.lookup_cons]; simp⟩
          · exact .inl z
        · refine .inr ?_
          rw [List.lookup_cons]
          cases q : m == n with
          | true => exact ⟨c, rfl⟩
          | false => exact ⟨d, hm⟩
    · obtain ⟨cl, e, h1, h2⟩ := closure_go env r acc hr
      refine ⟨cl, ?_, h1, fun m hm => h2 m ?_⟩
      · rw [List.forIn_cons]
        have : (k == NameKind.free) = false := by simpa using hk
        simp only [this, Bool.false_eq_true, if_false]
        exact e
      · rcases hm with hm | hm
        · rcases List.mem_cons.mp hm with z | z
          · cases z; exact absurd rfl hk
          · exact .inl z
        · exact .inr hm
theorem closure_ok {env : Env} {scope : Scope} (h : ∀ p ∈ scope.names, p.2 = .free → ∃ c, env.cells.lookup p.1 = some c) :
    ∃ cl, closureFor scope env = pure cl ∧ (∀ n c, cl.lookup n = some c → env.cells.lookup n = some c) ∧ (∀ n, (n, NameKind.free) ∈ scope.names → ∃ c, cl.lookup n = some c) := by
  obtain ⟨cl, e, h1, h2⟩ := closure_go env scope.names [] h
  refine ⟨cl, ?_, fun n c q => ?_, fun n q => h2 n (.inl q)⟩
  · simp only [closureFor]
    have e' := congrArg (fun m : Sem (List (Str × Addr)) => m >>= fun s => pure s) e
    exact e'
  · rcases h1 n c q with z | z
    · cases z
    · exact z
theorem relabel_lookup {env : Env} : ∀ {names : List (Str × NameKind)} {x : Str} {k : NameKind},
    (names.map fun (n, k) => if (k == NameKind.free && env.scope.kind == .function && env.kindOf n == some .cell) then (n, NameKind.cell) else (n, k)).lookup x = some k →
      names.lookup x = some k ∨ (k = .cell ∧ names.lookup x = some .free)
  | [], _, _, h => by cases h
  | (n, j) :: r, x, k, h => by
    have ih := @relabel_lookup env r x k
    rw [List.map_cons] at h
    dsimp only at h
    cases hx : x == n with
    | true =>
      by_cases hc : (j == NameKind.free && env.scope.kind == .function && env.kindOf n == some .cell) = true
      · simp only [hc, if_true, List.lookup_cons, hx] at h
        cases h
        refine .inr ⟨rfl, ?_⟩
        simp only [Bool.and_eq_true, beq_iff_eq] at hc
        rw [List.lookup_cons, hx, hc.1.1]
      · rw [if_neg hc] at h
        simp only [List.lookup_cons, hx] at h
        exact .inl (by rw [List.lookup_cons, hx]; exact h)
    | false =>
      have h' : (r.map fun (n, k) => if (k == NameKind.free && env.scope.kind == .function && env.kindOf n == some .cell) then (n, NameKind.cell) else (n, k)).lookup x = some k := by
        by_cases hc : (j == NameKind.free && env.scope.kind == .function && env.kindOf n == some .cell) = true
        · rw [if_pos hc] at h; simpa only [List.lookup_cons, hx] using h
        · rw [if_neg hc] at h; simpa only [List.lookup_cons, hx] using h
      rcases ih h' with z | z
      · exact .inl (by rw [List.lookup_cons, hx]; exact z)
      · exact .inr ⟨z.1, by rw [List.lookup_cons, hx]; exact z.2⟩
theorem lookup_mem {α β : Type} [BEq α] [LawfulBEq α] : ∀ {l : List (α × β)} {a : α} {b : β}, l.lookup a = some b → (a, b) ∈ l
  | [], _, _, h => by cases h
  | (c, d) :: r, a, b, h => by
    rw [List.lookup_cons] at h
    cases q : a == c with
    | true =>
      rw [q] at h
      cases h
      have : a = c := by simpa using q
      subst this
      exact List.mem_cons_self
    | false => rw [q] at h; exact List.mem_cons_of_mem _ (lookup_mem h)
theorem codeAny_compLoop_go {prog : Program} {w : World} {A : Around} {R : Result → Shared → Prop} {s : Shared} {elt target iter : Expr} {ifs : List Expr} {scope : Scope} {pos : Pos} {it acc : Value} {env : Env} (I : Nat → Shared → Prop)
    (turn : ∀ n s, I n s → wpAny (model prog w) A (pyNext it) (fun r s₁ => match r with
      | none => R (.ok .next) s₁
      | some v => wpAny (model prog w) A (letOwnedTupleGo target it v) (fun _ s₁' => wpAny (model prog w) A (assign target env v) (fun _ s₂ =>
          wpAny (model prog w) A (forIn ifs true fun c r => if r = true then do let ok ← isTrue c env (eval c env); pure (ForInStep.yield ok) else pure (ForInStep.yield r)) (fun ok s₃ =>
            if ok = true then wpAny (model prog w) A (eval elt env) (fun x s₄ =>
              wpAny (model prog w) A (call (.builtin "list.append") [acc, x]) (fun _ s₅ => ∃ m, m < n ∧ I m s₅) (notedBy (model prog w) A env fun e s' => R (.error e) s') s₄) (notedBy (model prog w) A env fun e s' => R (.error e) s') s₃
            else ∃ m, m < n ∧ I m s₃) (notedBy (model prog w) A env fun e s' => R (.error e) s') s₂) (notedBy (model prog w) A env fun e s' => R (.error e) s') s₁') (notedBy (model prog w) A env fun e s' => R (.error e) s') s₁) (notedBy (model prog w) A env fun e s' => R (.error e) s') s)
    (n : Nat) (h : I n s) : codeAny (model prog w) A (.compLoop (.ListComp elt [⟨target, iter, ifs, 0⟩] scope pos) 0 it acc env) R s := by
  refine codeAny_loop rfl I (fun n s hI => ?_) n h
  show wpAny _ A ((compTurn (.ListComp elt [⟨target, iter, ifs, 0⟩] scope pos) 0 it acc env).onRaise (fun x => do noteFrame x env; theTreesLotGoes x)) _ _ s
  refine wpAny_noted ?_
  rw [compTurn_list]
  refine wpAny_bind (wpAny_standAt (wpAny_bind (wpAny_mono (turn n s hI) (fun r s₁ h₁ => ?_) fun _ _ h' => h')))
  cases r with
  | none => exact wpAny_pure h₁
  | some v =>
    refine wpAny_bind (wpAny_mono h₁ (fun _ s₁' h₁' => ?_) fun _ _ h' => h')
    refine wpAny_bind (wpAny_mono h₁' (fun _ s₂ h₂ => wpAny_bind (wpAny_mono h₂ (fun ok s₃ h₃ => ?_) fun _ _ h' => h')) fun _ _ h' => h')
    cases ok with
    | false => exact wpAny_pure ⟨rfl, h₃⟩
    | true =>
      exact wpAny_bind (wpAny_bind (wpAny_mono h₃ (fun x s₄ h₄ => wpAny_bind (wpAny_mono h₄ (fun _ s₅ h₅ => wpAny_pure (wpAny_pure ⟨rfl, h₅⟩)) fun _ _ h' => h')) fun _ _ h' => h'))
noncomputable def compX (X : Cx) (N' : List Str) (scope : Scope) (cl : List (Str × Addr)) (C : Addr) (s₃ : Shared) (H₃ : Hp) (ex : List Addr) : Cx :=
  { X with N := N', s₀ := s₃, H₀ := H₃, env := compEnvC scope cl C X.env, outer := X.stack, ex := ex, fn := fun _ => false, pn := [], xe := fun _ _ => False }
noncomputable def maskL {α : Type} (is : List Nat) (l : List (Option α)) : List (Option α) := is.foldl (fun l i => l.set i none) l
theorem maskL_length {α : Type} : ∀ (is : List Nat) (l : List (Option α)), (maskL is l).length = l.length
  | [], _ => rfl
  | i :: is, l => by
    show (maskL is (l.set i none)).length = _
    rw [maskL_length is, List.length_set]
theorem maskL_get {α : Type} : ∀ {is : List Nat} {l : List (Option α)} {j : Nat} {v : α}, (maskL is l)[j]? = some (some v) → j ∉ is ∧ l[j]? = some (some v)
  | [], _, _, _, h => ⟨by simp, h⟩
  | i :: is, l, j, v, h => by
    have h' : (maskL is (l.set i none))[j]? = some (some v) := h
    obtain ⟨h1, h2⟩ := maskL_get h'
    by_cases e : j = i
    · subst e
      by_cases hl : j < l.length
      · rw [List.getElem?_set_self hl] at h2; cases h2
      · rw [List.getElem?_eq_none (by rw [List.length_set]; omega)] at h2; cases h2
    · rw [List.getElem?_set_ne (Ne.symm e)] at h2
      exact ⟨by simp [e, h1], h2⟩
theorem get_maskL {α : Type} : ∀ {is : List Nat} {l : List (Option α)} {j : Nat} {o : Option α}, j ∉ is → l[j]? = some o → (maskL is l)[j]? = some o
  | [], _, _, _, _, h => h
  | i :: is, l, j, v, hj, h => by
    show (maskL is (l.set i none))[j]? = _
    refine get_maskL (fun z => hj (List.mem_cons_of_mem _ z)) ?_
    rw [List.getElem?_set_ne (fun z => hj (by simp [z]))]
    exact h
structure CompSc (X : Cx) (N' more : List Str) (is : List Nat) (scope : Scope) : Prop where
  kind : scope.kind = .function
  cell : ∀ y ∈ scope.names, y.2 ≠ .cell
  names : ∀ x ∈ scope.names, x.2 = .local → scope.names.lookup x.1 = some .local
  free : ∀ x ∈ scope.names, x.2 = .free → X.env.kindOf x.1 = some .cell ∨ X.env.kindOf x.1 = some .free
  N : N' = X.N ++ more
  loc : ∀ (j : Nat) y, N'[j]? = some y → scope.names.lookup y = some .local → j ∈ is
  more : ∀ y ∈ more, scope.names.lookup y = some .local
section
variable {X : Cx} {pins : List (Addr × Obj)} {σ : St} {H : Hp} {s : Shared} {N' more : List Str} {is : List Nat} {scope : Scope} {cl : List (Str × Addr)} {C : Addr} {ex : List Addr}
theorem comp_ok (sc : CompSc X N' more is scope) (I : Inv X pins σ H s) (c1 : ∀ n c, cl.lookup n = some c → X.env.cells.lookup n = some c) (c2 : ∀ n, (n, NameKind.free) ∈ scope.names → ∃ c, cl.lookup n = some c) (hC : s.heap.objs.size ≤ C)
    (hex : ∀ b ∈ ex, H b = none ∧ b < s.heap.objs.size ∧ b ≠ X.env.locals ∧ b ∉ X.fs ∧ (b ∈ X.ex ∨ X.s₀.heap.objs.size ≤ b) ∧ ∀ x c, X.env.cells.lookup x = some c → c ≠ b) : (compX X N' scope cl C s H ex).Ok where
  mod := I.ok.mod
  kind := sc.kind
  glob := I.ok.glob
  blt := I.ok.blt
  above := hC
  inj := fun x y c h1 h2 => I.ok.inj x y c (c1 x c h1) (c1 y c h2)
  has := fun x hx => by
    have hx' : (relabel scope X.env).names.lookup x = some .cell ∨ (relabel scope X.env).names.lookup x = some .free := hx
    have hf : scope.names.lookup x = some .free := by
      rcases hx' with h | h
      · rcases relabel_lookup h with z | z
        · exact absurd rfl (sc.cell _ (lookup_mem z))
        · exact z.2
      · rcases relabel_lookup h with z | z
        · exact z
        · cases z.1
    exact c2 x (lookup_mem hf)
  cab := fun x c h => nomatch h
  hd := I.ok.hd
  frames := I.ok.frames
  stk := .inl rfl
  exf := fun b hb => ⟨Nat.ne_of_lt (Nat.lt_of_lt_of_le (hex b hb).2.1 hC), fun x c e => (hex b hb).2.2.2.2.2 x c (c1 x c e)⟩
  bs := fun b o e => I.bs b o e
  bsz := Nat.le_trans I.ok.bsz I.sz
  noex := fun b o e hb => by
    rcases (hex b hb).2.2.2.2.1 with z | z
    · exact I.ok.noex b o e z
    · exact absurd (Nat.lt_of_lt_of_le (Heap.lt_size e) (Nat.le_trans I.ok.bsz z)) (Nat.lt_irrefl _)
  exfs := fun b hb z => by
    rcases List.mem_cons.mp (I.stkSub b z) with q | q
    · exact (hex b hb).2.2.1 q
    · exact (hex b hb).2.2.2.1 q
  funs := I.stack
  frf := I.stkFree
theorem comp_inv (sc : CompSc X N' more is scope) (I : Inv X pins σ H s) (c1 : ∀ n c, cl.lookup n = some c → X.env.cells.lookup n = some c) (c2 : ∀ n, (n, NameKind.free) ∈ scope.names → ∃ c, cl.lookup n = some c) (hC : C = s.heap.objs.size)
    (hex : ∀ b ∈ ex, H b = none ∧ b < s.heap.objs.size ∧ b ≠ X.env.locals ∧ b ∉ X.fs ∧ (b ∈ X.ex ∨ X.s₀.heap.objs.size ≤ b) ∧ ∀ x c, X.env.cells.lookup x = some c → c ≠ b) {h4 : Heap} {tk : Nat} {m : Str → Option Value}
    (hk : ∀ b o, s.heap.get? b = some o → h4.get? b = some o) (hn : h4.Ns C m) : Inv (compX X N' scope cl C s H ex) [] (maskL is (σ ++ List.replicate more.length none)) H { s with heap := h4, toks := tk } := by
  refine ⟨comp_ok sc I c1 c2 (Nat.le_of_eq hC.symm) hex, rfl, I.bare, Un.kept hk, ⟨m, hn, fun j y v h1 h2 h3 => ?_⟩, fun x c e => ?_, ?_, fun x c e => I.freeC x c (c1 x c e), fun p hp => ?_, I.hok.kept hk, ?_⟩
  · obtain ⟨hj, h2'⟩ := maskL_get h2
    have h3' : (relabel scope X.env).names.lookup y = some .local ∨ (relabel scope X.env).names.lookup y = some .cell ∨ (relabel scope X.env).names.lookup y = some .free := h3
    have h1' : N'[j]? = some y := h1
    have hf : scope.names.lookup y = some .free ∧ ((relabel scope X.env).names.lookup y = some .cell ∨ (relabel scope X.env).names.lookup y = some .free) := by
      rcases h3' with h | h | h
      · rcases relabel_lookup h with z | z
        · exact absurd (sc.loc j y h1' z) hj
        · cases z.1
      · rcases relabel_lookup h with z | z
        · exact absurd rfl (sc.cell _ (lookup_mem z))
        · exact ⟨z.2, .inl h⟩
      · rcases relabel_lookup h with z | z
        · exact ⟨z, .inr h⟩
        · cases z.1
    have hlt : j < σ.length := by
      by_cases q : j < σ.length
      · exact q
      · rw [List.getElem?_append_right (by omega), List.getElem?_replicate] at h2'
        split at h2' <;> cases h2'
    rw [List.getElem?_append_left hlt] at h2'
    have hN : X.N[j]? = some y := by
      rw [sc.N, List.getElem?_append_left (by rw [← I.len]; exact hlt)] at h1'
      exact h1'
    have hk2 := sc.free _ (lookup_mem hf.1) rfl
    obtain ⟨m0, hn0, hl⟩ := I.loc
    obtain ⟨u, r, lk⟩ := hl j y v hN h2' (by
      rcases hk2 with z | z
      · exact .inr (.inl z)
      · exact .inr (.inr z))
    refine ⟨u, r, .inr ⟨hf.2, ?_⟩⟩
    rcases lk with ⟨z, _⟩ | ⟨_, c, e, z⟩
    · rcases hk2 with q | q <;> (rw [z] at q; cases q)
    · obtain ⟨c', e'⟩ := c2 y (lookup_mem hf.1)
      have := c1 y c' e'
      rw [e] at this
      cases this
      obtain ⟨o, ho, hd⟩ := z
      exact ⟨c, e', o, hk c o ho, hd⟩
  · obtain ⟨v, o, ho, hd⟩ := I.cell x c (c1 x c e)
    exact ⟨v, o, hk c o ho, hd⟩
  · exact I.hok.fresh (Nat.le_of_eq hC.symm)
  · exact absurd (show p ∈ ([] : List (Addr × Obj)) from hp) (by simp)
  · show (maskL is (σ ++ List.replicate more.length none)).length = N'.length
    rw [maskL_length, List.length_append, List.length_replicate, I.len, sc.N, List.length_append]
end
noncomputable def optT : Option Fb → Fb
  | none => fun _ S => .ok true S
  | some f => f
noncomputable def compD (t : Itb) (g : Fg) (c : Option Fb) (f : Fd) : Nat → Nat → Dv → Sto → R (List D)
  | 0, _ => fun _ _ => .fail
  | m + 1, i => fun δ S => match cur t S with
    | none => .fail
    | some ds => match ds[i]? with
      | none => .ok [] S
      | some d => if i < lim then (match g d δ S with
        | none => .fail
        | some δ1 => (optT c δ1 S).bind fun k S1 => if k = true then (f δ1 S1).bind fun y S2 => (compD t g c f m (i + 1) δ S2).bind fun ys S3 => .ok (y :: ys) S3 else compD t g c f m (i + 1) δ S1) else .fail
noncomputable def fComp (fi : Fi) (is : List Nat) (k : Nat) (g : Fg) (c : Option Fb) (f : Fd) (B : Nat) : Fd := fun δ S =>
  noxR ((fi δ S).bind fun t S1 => (compD t g c f B 0 (maskL is (δ ++ List.replicate k none)) S1).bind mkLst)
theorem RelE.mask {M : Mo} {ι : List Addr} {H : Hp} {n k : Nat} {σ : St} {δ : Dv} {is : List Nat} (h : RelE M ι H n σ δ) : RelE M ι H (n + k) (maskL is (σ ++ List.replicate k none)) (maskL is (δ ++ List.replicate k none)) := by
  refine ⟨by rw [maskL_length, List.length_append, List.length_replicate, h.len], by rw [maskL_length, List.length_append, List.length_replicate]; have := h.dl; omega, fun i d q => ?_⟩
  obtain ⟨h1, h2⟩ := maskL_get q
  by_cases hi : i < δ.length
  · rw [List.getElem?_append_left hi] at h2
    obtain ⟨v, h3, h4⟩ := h.get i d h2
    exact ⟨v, get_maskL h1 (by rw [List.getElem?_append_left (List.getElem?_eq_some_iff.mp h3).1]; exact h3), h4⟩
  · rw [List.getElem?_append_right (by omega), List.getElem?_replicate] at h2
    split at h2 <;> cases h2
section
variable {X : Cx} {E : St → XK} {elt tg iter : Expr} {ifs : List Expr} {scope : Scope} {pos : Pos} {N' more : List Str} {is : List Nat} {fi : Fi} {g : Fg} {c : Option Fb} {f : Fd}
noncomputable def PTs (X : Cx) (ifs : List Expr) (t : TT) : Prop :=
  ∀ (pins : List (Addr × Obj)) (s : Shared) (σ : St) (H : Hp) (Q : Bool → Hp → Prop), Inv X pins σ H s → t σ H Q →
    wpAny (model X.prog X.w) X.A (forIn ifs true fun c r => if r = true then do let ok ← isTrue c X.env (eval c X.env); pure (ForInStep.yield ok) else pure (ForInStep.yield r)) (TP X pins σ Q) X.xe s
theorem pts_nil : PTs X [] (bOf X.mo X.N.length En (optT none)) := fun pins s σ H Q I ⟨ι, δ, S, rs, re, p⟩ => wpAny_tests_nil ⟨H, I, p ι H (.refl ι H) rs⟩
theorem pts_one {e : Expr} {fb : Fb} (h : DT X En e fb) : PTs X [e] (bOf X.mo X.N.length En (optT (some fb))) := fun pins s σ H Q I q => wpAny_tests_one (h pins s σ H Q I q)
theorem comp_run (B : Nat) (hcm : X.calm = true) (sc : CompSc X N' more is scope) (hi : DI X.nox En tg iter fi) (hs : ∀ x, foldedSetIterable iter X.env x = pure x)
    (hg : ∀ cl C s₃ H₃ ex, DG (compX X N' scope cl C s₃ H₃ ex) tg g) (hc : ∀ cl C s₃ H₃ ex, PTs (compX X N' scope cl C s₃ H₃ ex) ifs (bOf X.mo N'.length En (optT c)))
    (he : ∀ cl C s₃ H₃ ex, DE (compX X N' scope cl C s₃ H₃ ex) En elt f)
    (hgk : ∀ (d : D) (δ δ1 : Dv) (S : Sto), g d δ S = some δ1 → (∀ i ∈ is, ∀ d', δ[i]? ≠ some (some d')) → ∀ (j : Nat) d', δ[j]? = some (some d') → δ1[j]? = some (some d'))
    {pins : List (Addr × Obj)} {s : Shared} {σ : St} {H : Hp} {Q : VK} {use : Option (Value → Sem Unit)} {Qf : Value → Shared → Prop} (I : Inv X pins σ H s) (h : tOf X.mo X.N.length E (fComp fi is more.length g c f B) σ H Q)
    (hfin : ∀ (s' : Shared) (H' : Hp) (C Da : Addr) (oC : Obj) (m : Str → Option Value), Inv X (pins ++ [(C, oC)]) σ H' s' → s'.heap.Ns C m → (∀ h' : Heap, h'.get? C = some oC → h'.Ns C m) → X.s₀.heap.objs.size ≤ C → (∀ p ∈ X.pn ++ pins, p.1 ≠ C) →
      (∀ x c, X.env.cells.lookup x = some c → c ≠ C) → Q (.ref Da) H' → compPost (model X.prog X.w) X.A X.xe use Qf (.ref Da) C (.ok .next) s') :
    wpAny (model X.prog X.w) X.A (comprehension (.ListComp elt [⟨tg, iter, ifs, 0⟩] scope pos) scope X.env (firstIterPos [⟨tg, iter, ifs, 0⟩] pos) (newList []) (firstAsync [⟨tg, iter, ifs, 0⟩]) (firstIter [⟨tg, iter, ifs, 0⟩] X.env) use) Qf X.xe s := by
  obtain ⟨ι, δ, S, rs, re, p⟩ := h
  have p := Post.nox (E' := fun _ _ => False) p
  obtain ⟨cl, hcl, c1, c2⟩ := closure_ok (env := X.env) (scope := scope) (fun x hx hf => I.ok.has x.1 (sc.free x hx hf))
  refine wpAny_comprehension_free (use := use) rfl hs hcl sc.kind sc.names ?_
  have hlenN : N'.length = X.N.length + more.length := by rw [sc.N, List.length_append]
  refine wpAny_mono (hi pins s σ H (fun J H1 => ∃ ι1 S1 t, Ext ι H ι1 H1 ∧ RelS X.mo ι1 H1 S1 ∧ RelE X.mo ι1 H1 X.N.length σ δ ∧ JOk X.mo ι1 H1 J t ∧
      Post X.mo ι1 H1 ((compD t g c f B 0 (maskL is (δ ++ List.replicate more.length none)) S1).bind mkLst) (fun ι' H' _ d => ∀ v, RD X.mo ι' H' v d → Q v H') (fun _ _ => False)) (I.wish _)
      (itOf.step (M := X.mo) (n := X.N.length) (E := En) rs re (Post.mono (Post.bind (r := fi δ S) p) (fun _ _ _ _ _ _ q => q) fun _ _ z => z.elim) fun ι1 H1 S1 t J x1 r1 re1 p1 jok => ⟨ι1, S1, t, x1, r1, re1, jok, p1⟩))
    (fun v s1 h1 => wpAny_mono h1 (fun itv s2 h2 => ?_) fun _ _ z => z.elim) fun _ _ z => z.elim
  obtain ⟨it, fp, tn, J, H2, e, I2n, T, st2, f2, ι1, S1, t, x1, r1, re1, jok, p1⟩ := h2
  subst e
  have I2 : Inv X pins σ H2 s2 := I2n.unwish
  have fpo : ∀ b ∈ fp, ∃ o, s2.heap.get? b = some o := fun b hb => let ⟨o, e, _⟩ := T.obj _ _ st2 b hb; ⟨o, e⟩
  generalize hδm : maskL is (δ ++ List.replicate more.length none) = δm at p1
  have remask : RelE X.mo ι1 H2 N'.length (maskL is (σ ++ List.replicate more.length none)) δm := by
    rw [hlenN, ← hδm]; exact re1.mask
  have hmask : ∀ i ∈ is, ∀ d', δm[i]? ≠ some (some d') := fun i hi' d' z => by
    rw [← hδm] at z
    exact (maskL_get z).1 hi'
  refine wpAny_newObj_type (wpAny_newFunctionEnv sc.cell (by intro y hy; simp at hy) (fun h4 hns hsb => ?_) sc.kind)
  dsimp only at hns hsb ⊢
  generalize hh3 : s2.heap.push { cls := .type "list", dict := none, data := .seq ([] : List Value).toArray } = h3 at hns hsb ⊢
  have sz3 : h3.objs.size = s2.heap.objs.size + 1 := by rw [← hh3, Heap.size_push]
  have old3 : ∀ b o, s2.heap.get? b = some o → h3.get? b = some o := fun b o e => by rw [← hh3]; exact Heap.get?_push_of_some _ e
  have acc3 : h3.get? s2.heap.objs.size = some { cls := .type "list", data := .seq ([] : List Value).toArray } := by rw [← hh3]; exact Heap.get?_push_size _ rfl
  have I3 : Inv X pins σ H2 { s2 with heap := h3 } := I2.kept (t' := s2.toks) old3
  have hD : H2 s2.heap.objs.size = none := I2.hok.fresh (Nat.le_refl _)
  have hDfp : s2.heap.objs.size ∉ fp := fun z => by
    obtain ⟨o, e⟩ := fpo _ z
    exact absurd (Heap.lt_size e) (Nat.lt_irrefl _)
  have cellLt : ∀ x c, X.env.cells.lookup x = some c → c < s2.heap.objs.size := fun x c e => by
    obtain ⟨v, o, ho, _⟩ := I2.cell x c e
    exact Heap.lt_size ho
  have hex : ∀ b ∈ s2.heap.objs.size :: fp, H2 b = none ∧ b < h3.objs.size ∧ b ≠ X.env.locals ∧ b ∉ X.fs ∧ (b ∈ X.ex ∨ X.s₀.heap.objs.size ≤ b) ∧ ∀ x c, X.env.cells.lookup x = some c → c ≠ b := fun b hb => by
    rcases List.mem_cons.mp hb with rfl | hb
    · exact ⟨hD, by rw [sz3]; exact Nat.lt_succ_self _, Nat.ne_of_gt I2.lt, I2.nofs (Nat.le_refl _), .inr I2.sz, fun x c e => Nat.ne_of_lt (cellLt x c e)⟩
    · obtain ⟨q0, q1, q2, q3, q4, _⟩ := f2 b hb
      obtain ⟨o, e⟩ := fpo b hb
      exact ⟨q0, by rw [sz3]; exact Nat.lt_succ_of_lt (Heap.lt_size e), q1, q2, q3, q4⟩
  have neC : ∀ b o, h3.get? b = some o → b ≠ h3.objs.size := fun b o e => Nat.ne_of_lt (Heap.lt_size e)
  have old4 : ∀ b o, h3.get? b = some o → h4.get? b = some o := fun b o e => hsb.extBut b o (neC b o e) (Heap.get?_push_of_some _ e)
  have XI := comp_inv (C := h3.objs.size) (s := { s2 with heap := h3 }) sc I3 c1 c2 rfl hex (h4 := h4) (tk := s2.toks) old4 hns
  have hg' := hg cl h3.objs.size { s2 with heap := h3 } H2 (s2.heap.objs.size :: fp)
  have hc' := hc cl h3.objs.size { s2 with heap := h3 } H2 (s2.heap.objs.size :: fp)
  have he' := he cl h3.objs.size { s2 with heap := h3 } H2 (s2.heap.objs.size :: fp)
  have henv : (compX X N' scope cl h3.objs.size { s2 with heap := h3 } H2 (s2.heap.objs.size :: fp)).env = compEnvC scope cl h3.objs.size X.env := rfl
  generalize hXc : compX X N' scope cl h3.objs.size { s2 with heap := h3 } H2 (s2.heap.objs.size :: fp) = Xc at XI hg' hc' he' henv
  have hprog : Xc.prog = X.prog := by rw [← hXc]; rfl
  have hw : Xc.w = X.w := by rw [← hXc]; rfl
  have hA : Xc.A = X.A := by rw [← hXc]; rfl
  have hK : Xc.K = X.K := by rw [← hXc]; rfl
  have hcal : Xc.calm = true := by rw [← hXc]; exact hcm
  have hmo : Xc.mo = X.mo := by rw [← hXc]; rfl
  have hNc : Xc.N = N' := by rw [← hXc]; rfl
  have hloc : Xc.env.locals = h3.objs.size := by rw [← hXc]; rfl
  have hfs : Xc.fs = frs X.stack := by rw [← hXc]; rfl
  have hexc : Xc.ex = s2.heap.objs.size :: fp := by rw [← hXc]; rfl
  have hs0 : Xc.s₀ = { s2 with heap := h3 } := by rw [← hXc]; rfl
  have hH0 : Xc.H₀ = H2 := by rw [← hXc]; rfl
  have hpn : Xc.pn = [] := by rw [← hXc]; rfl
  have hcells : Xc.env.cells = cl := by rw [← hXc]; rfl
  have hxe : ∀ e s', ¬ Xc.xe e s' := by rw [← hXc]; exact fun _ _ z => z
  have Tc : Turn Xc.prog Xc.w Xc.K tg J fp it tn := by rw [hprog, hw, hK]; exact T
  have fpk : ∀ {H' : Hp} {o : Obj}, (∀ b ∈ fp, H' b = none) → ∀ b ∈ fp, FpOk Xc [(s2.heap.objs.size, o)] H' b := fun {H' o} hn b hb => by
    obtain ⟨_, q1, q2, q3, q4, q5⟩ := hex b (List.mem_cons_of_mem _ hb)
    refine ⟨hn b hb, by rw [hloc]; exact Nat.ne_of_lt q1, ?_, by rw [hexc]; exact .inl (List.mem_cons_of_mem _ hb), fun x c e => q5 x c (c1 x c (by rw [hcells] at e; exact e)), fun p hp => ?_⟩
    · rw [hfs]
      intro z
      rcases List.mem_cons.mp (I2.stkSub b z) with y | y
      · exact q2 y
      · exact q3 y
    · rw [hpn] at hp
      have e : p = (s2.heap.objs.size, o) := by simpa using hp
      subst e
      intro z
      have z' : s2.heap.objs.size = b := z
      exact hDfp (by rw [z']; exact hb)
  have dfs : s2.heap.objs.size ∉ Xc.fs := by
    rw [hfs]
    intro z
    obtain ⟨_, _, q2, q3, _⟩ := hex _ List.mem_cons_self
    rcases List.mem_cons.mp (I2.stkSub _ z) with y | y
    · exact q2 y
    · exact q3 y
  have dloc : s2.heap.objs.size ≠ Xc.env.locals := by rw [hloc]; exact Nat.ne_of_lt (hex _ List.mem_cons_self).2.1
  have dcell : ∀ x c, Xc.env.cells.lookup x = some c → c ≠ s2.heap.objs.size := fun x c e => (hex _ List.mem_cons_self).2.2.2.2.2 x c (c1 x c (by rw [hcells] at e; exact e))
  have pinD : ∀ {σ' : St} {H' : Hp} {s' : Shared} {pn' : List (Addr × Obj)} {us : List Value} {k : Nat}, Inv Xc pn' σ' H' s' → H' s2.heap.objs.size = none → s'.heap.get? s2.heap.objs.size = some { cls := .type "list", data := .seq us.toArray k } →
      Inv Xc [(s2.heap.objs.size, { cls := .type "list", data := .seq us.toArray k })] σ' H' s' := fun {σ' H' s' pn' us k} J' n e => J'.pins_of fun p hp => by
    have e' : p = (s2.heap.objs.size, { cls := .type "list", data := .seq us.toArray k }) := by simpa using hp
    subst e'
    exact ⟨e, n, dloc, dfs, fun v z => by cases z⟩
  have fin : ∀ {σ' : St} {H' : Hp} {s' : Shared} {us : List Value} {vs : List V} {k : Nat} {ι' : List Addr} {S' : Sto} {ds : List D}, Inv Xc [(s2.heap.objs.size, { cls := .type "list", data := .seq us.toArray k })] σ' H' s' → Vals vs us → RelS X.mo ι' H' S' → RDs X.mo ι' H' vs ds →
      Post X.mo ι' H' (mkLst ds S') (fun ι' H' _ d => ∀ v, RD X.mo ι' H' v d → Q v H') (fun _ _ => False) →
      compPost (model X.prog X.w) X.A X.xe use Qf (.ref s2.heap.objs.size) h3.objs.size (.ok .next) s' := fun {σ' H' s' us vs k ι' S' ds} J' rv rS rd q => by
    obtain ⟨m', hn', _⟩ := id J'.loc
    rw [hloc] at hn'
    obtain ⟨eD, nD, _⟩ := J'.pin (s2.heap.objs.size, { cls := .type "list", data := .seq us.toArray k }) (by simp)
    have hCn : H' h3.objs.size = none := by have := J'.free; rw [hloc] at this; exact this
    obtain ⟨z1, z2⟩ := post_lst rS rd q
    have un := J'.base
    rw [hfs, hexc, hs0, hH0] at un
    have hok' : HOk X.prog X.w H' s'.heap := by have hk := J'.hok; rw [hprog, hw] at hk; exact hk
    have os' : s'.os = s2.os := by have := J'.os; rw [hs0] at this; exact this
    have I8 : Inv X pins σ H' s' := I3.call' (ch := s2.heap.objs.size :: fp) (s' := s') os' un hok' J'.bare (fun b hb => by
      obtain ⟨_, _, q2, q3, q4, q5⟩ := hex b hb
      refine ⟨q4, q2, q5, fun p hp z => ?_⟩
      rcases List.mem_cons.mp hb with y | y
      · have := (I2.pin p hp).1
        rw [z, y] at this
        exact absurd (Heap.lt_size this) (Nat.lt_irrefl _)
      · exact (f2 b y).2.2.2.2.2 p hp z)
    have pinLt : ∀ p ∈ X.pn ++ pins, p.1 < s2.heap.objs.size := fun p hp => Heap.lt_size (I2.pin p hp).1
    have I9 : Inv X pins σ (upd H' s2.heap.objs.size (.lst vs)) s' := by
      refine inv_track I8 nD ?_ (hex _ List.mem_cons_self).2.2.1 (hex _ List.mem_cons_self).2.2.2.2.2 (fun p hp z => Nat.lt_irrefl _ (z ▸ pinLt p hp)) ⟨z1, us, k, rv, eD⟩
      cases e : X.s₀.heap.get? s2.heap.objs.size with
      | none => rfl
      | some o => exact absurd (Nat.lt_of_lt_of_le (Heap.lt_size e) I2.sz) (Nat.lt_irrefl _)
    obtain ⟨oC, es, ep, eC, dC, rC⟩ := id hn'
    have hDC : s2.heap.objs.size < h3.objs.size := (hex _ List.mem_cons_self).2.1
    have I10 : Inv X (pins ++ [(h3.objs.size, oC)]) σ (upd H' s2.heap.objs.size (.lst vs)) s' := I9.pins_of fun p hp => by
      rcases List.mem_append.mp hp with hp | hp
      · exact I9.pin p (List.mem_append_right _ hp)
      · have e : p = (h3.objs.size, oC) := by simpa using hp
        subst e
        exact ⟨eC, by rw [upd_ne (Nat.ne_of_gt hDC)]; exact hCn, Nat.ne_of_gt (Nat.lt_of_lt_of_le I2.lt (Nat.le_of_lt hDC)), I2.nofs (Nat.le_of_lt hDC), fun v z => by rw [dC] at z; cases z⟩
    exact hfin s' _ h3.objs.size s2.heap.objs.size oC m' I10 hn' (fun h' e => ⟨oC, es, ep, e, dC, rC⟩) (Nat.le_trans I2.sz (Nat.le_of_lt hDC)) (fun p hp => Nat.ne_of_lt (Nat.lt_trans (pinLt p hp) hDC)) (fun x c e => Nat.ne_of_lt (Nat.lt_trans (cellLt x c e) hDC)) (z2 _ nD)
  have loop : ∀ s4 : Shared, s4 = { s2 with heap := h4, toks := s2.toks } →
      codeAny (model X.prog X.w) X.A (.compLoop (.ListComp elt [⟨tg, iter, ifs, 0⟩] scope pos) 0 (.ref it) (.ref s2.heap.objs.size) (compEnvC scope cl h3.objs.size X.env))
        (compPost (model X.prog X.w) X.A X.xe use Qf (.ref s2.heap.objs.size) h3.objs.size) s4 := by
    rintro s4 rfl
    rw [← henv, ← hprog, ← hw, ← hA] at *
    refine codeAny_compLoop_go (fun n s' => ∃ (i : Nat) (σ' : St) (H' : Hp) (us : List Value) (vs : List V) (k : Nat) (ι' : List Addr) (S' : Sto) (ds : List D),
      Inv Xc [(s2.heap.objs.size, { cls := .type "list", data := .seq us.toArray k })] σ' H' s' ∧ tn i s'.heap ∧ (∀ b ∈ fp, H' b = none) ∧ Vals vs us ∧ us.length ≤ i ∧ Ext ι1 H2 ι' H' ∧ RelS X.mo ι' H' S' ∧ RelE X.mo ι' H' N'.length σ' δm ∧ RDs X.mo ι' H' vs ds ∧
        Post X.mo ι' H' (compD t g c f n i δm S') (fun ι'' H'' S'' ds' => Post X.mo ι'' H'' (mkLst (ds ++ ds') S'') (fun ι' H' _ d => ∀ v, RD X.mo ι' H' v d → Q v H') (fun _ _ => False)) (fun _ _ => False)) ?_ B ?_
    · rintro n s' ⟨i, σ', H', us, vs, k, ι', S', ds, J', st', fn', rv, hl, x', rS, rE, rd, q⟩
      cases n with
      | zero => exact q.elim
      | succ n =>
        have q' : Post X.mo ι' H' (match cur t S' with | none => .fail | some ds => match ds[i]? with | none => .ok [] S' | some d => if i < lim then (match g d δm S' with | none => .fail | some δ1 => (optT c δ1 S').bind fun k S1 => if k = true then (f δ1 S1).bind fun y S2 => (compD t g c f n (i + 1) δm S2).bind fun ys S3 => .ok (y :: ys) S3 else compD t g c f n (i + 1) δm S1) else .fail) (fun ι'' H'' S'' ds' => Post X.mo ι'' H'' (mkLst (ds ++ ds') S'') (fun ι' H' _ d => ∀ v, RD X.mo ι' H' v d → Q v H') (fun _ _ => False)) (fun _ _ => False) := q
        cases hcur : cur t S' with
        | none => rw [hcur] at q'; exact q'.elim
        | some items =>
          rw [hcur] at q'
          dsimp only at q'
          obtain ⟨j1, j2⟩ := jok ι' H' S' x' rS items hcur i
          have dne : H' s2.heap.objs.size = none := (J'.pin (s2.heap.objs.size, { cls := .type "list", data := .seq us.toArray k }) (by simp)).2.1
          cases hd : items[i]? with
          | none =>
            rw [hd] at q'
            have q2 : Post X.mo ι' H' (mkLst (ds ++ []) S') (fun ι' H' _ d => ∀ v, RD X.mo ι' H' v d → Q v H') (fun _ _ => False) := q' ι' H' (.refl _ _) rS
            rw [List.append_nil] at q2
            refine wpAny_mono (Tc.done Xc rfl rfl rfl hcal i _ s' σ' H' _ J' (fpk fn') st' (j2 (List.getElem?_eq_none_iff.mp hd))) (fun r s1 ⟨hr, J1⟩ => ?_) fun _ _ z => z
            subst hr
            exact fin J1 rv rS rd q2
          | some d =>
            rw [hd] at q'
            dsimp only at q'
            by_cases hlim : i < lim
            · rw [if_pos hlim] at q'
              obtain ⟨go, yl⟩ := j1 d hd
              refine wpAny_mono (Tc.item Xc rfl rfl rfl hcal i _ s' σ' H' _ J' (fpk fn') st' go) (fun r s1' ⟨u, hr, h1'⟩ => ?_) fun _ _ z => z
              subst hr
              refine wpAny_mono h1' (fun _ s5 ⟨x, H5, J5, r5, y5, st5, fr5⟩ => ?_) fun _ _ z => z
              obtain ⟨x5, rS5, rx5⟩ := yl x H5 y5
              have rE5 := rE.ext x5
              cases hgd : g d δm S' with
              | none => rw [hgd] at q'; exact q'.elim
              | some δ1 =>
                rw [hgd] at q'
                dsimp only at q'
                have q5 := Post.bind (Post.ext q' x5)
                have J5' := J5.pinned (fpk fr5) (Tc.obj _ _ st5)
                refine wpAny_mono (hg' _ s5 σ' H5 x u (fun σ2 H' => H' = H5 ∧ RelE X.mo ι' H5 N'.length σ2 δ1) J5' r5 ?_) (fun _ s6 ⟨σ6, H6, J6, e6, rE6⟩ => ?_) (fun _ _ z => (hxe _ _ z).elim)
                · rw [hmo, hNc]
                  exact ⟨ι', δm, S', d, rS5, rE5, rx5, δ1, hgd, fun σ2 r => ⟨rfl, r⟩⟩
                subst e6
                refine wpAny_mono (hc' _ s6 σ6 H6 (fun b H7 => ∃ ι7 S7, Ext ι' H6 ι7 H7 ∧ RelS X.mo ι7 H7 S7 ∧ RelE X.mo ι7 H7 N'.length σ6 δ1 ∧ Post X.mo ι7 H7 (if b = true then (f δ1 S7).bind fun y S2 => (compD t g c f n (i + 1) δm S2).bind fun ys S3 => .ok (y :: ys) S3 else compD t g c f n (i + 1) δm S7) (fun ι'' H'' S'' ds' => Post X.mo ι'' H'' (mkLst (ds ++ ds') S'') (fun ι' H' _ d => ∀ v, RD X.mo ι' H' v d → Q v H') (fun _ _ => False)) (fun _ _ => False)) J6
                  (bOf.step rS5 rE6 (Post.mono q5 (fun _ _ _ _ _ _ q => q) fun _ _ z => z.elim) fun ι7 H7 S7 b x7 r7 re7 p7 => ⟨ι7, S7, x7, r7, re7, p7⟩)) (fun ok s7 ⟨H7, J7, ι7, S7, x7, r7, re7, p7⟩ => ?_) (fun _ _ z => (hxe _ _ z).elim)
                have weak : ∀ {ι9 : List Addr} {H9 : Hp}, RelE X.mo ι9 H9 N'.length σ6 δ1 → RelE X.mo ι9 H9 N'.length σ6 δm := fun r => ⟨r.len, remask.dl, fun j d' e => r.get j d' (hgk d δm δ1 S' hgd hmask j d' e)⟩
                cases ok with
                | false =>
                  have p7' : Post X.mo ι7 H7 (compD t g c f n (i + 1) δm S7) _ _ := p7
                  refine iteF ⟨n, Nat.lt_succ_self n, i + 1, σ6, H7, us, vs, k, ι7, S7, ds, J7.unpinned, ?_, fun b hb => ?_, rv, Nat.le_succ_of_le hl, x'.trans (x5.trans x7), r7, weak re7, (rd.ext x5).ext x7, p7'⟩
                  · exact Tc.keep _ _ _ st5 fun b hb o e => (J7.pin (b, o) (by simp [mem_pinsAt hb e])).1
                  · obtain ⟨o, e, _⟩ := Tc.obj _ _ st5 b hb
                    exact (J7.pin (b, o) (by simp [mem_pinsAt hb e])).2.1
                | true =>
                  have p7' : Post X.mo ι7 H7 ((f δ1 S7).bind fun y S2 => (compD t g c f n (i + 1) δm S2).bind fun ys S3 => .ok (y :: ys) S3) (fun ι'' H'' S'' ds' => Post X.mo ι'' H'' (mkLst (ds ++ ds') S'') (fun ι' H' _ d => ∀ v, RD X.mo ι' H' v d → Q v H') (fun _ _ => False)) (fun _ _ => False) := p7
                  refine iteT (wpAny_mono (he' _ s7 σ6 H7 (fun v H8 => ∃ ι8 S8 y, Ext ι7 H7 ι8 H8 ∧ RelS X.mo ι8 H8 S8 ∧ RelE X.mo ι8 H8 N'.length σ6 δ1 ∧ RD X.mo ι8 H8 v y ∧ Post X.mo ι8 H8 ((compD t g c f n (i + 1) δm S8).bind fun ys S3 => .ok (y :: ys) S3) (fun ι'' H'' S'' ds' => Post X.mo ι'' H'' (mkLst (ds ++ ds') S'') (fun ι' H' _ d => ∀ v, RD X.mo ι' H' v d → Q v H') (fun _ _ => False)) (fun _ _ => False)) J7 ?_)
                    (fun xv s8 ⟨v8, H8, J8, rv8, ι8, S8, y, x8, r8, re8, rd8, p8⟩ => ?_) (fun _ _ z => (hxe _ _ z).elim))
                  · rw [hmo, hNc]
                    exact tOf.step (E := En) r7 re7 (Post.mono (Post.bind p7') (fun _ _ _ _ _ _ q => q) fun _ _ z => z.elim) fun ι8 H8 S8 y v8 x8 r8 re8 p8 rv8 => ⟨ι8, S8, y, x8, r8, re8, rv8, p8⟩
                  obtain ⟨eD, nD, _⟩ := J8.pin (s2.heap.objs.size, { cls := .type "list", data := .seq us.toArray k }) (by simp)
                  refine append_at (its := us.toArray) (n := k) eD (fun h9 hsb9 hD9 => ?_) (by rw [List.size_toArray]; exact Nat.le_trans hl (Nat.le_trans (Nat.le_of_lt hlim) lim_line))
                  have J8a : Inv Xc (pinsAt fp s5.heap) σ6 H8 s8 := J8.pins_of fun p hp => J8.pin p (by simp [hp])
                  have J9 : Inv Xc (pinsAt fp s5.heap) σ6 H8 { s8 with heap := h9, toks := s8.toks } := J8a.turned (t' := s8.toks) (it := s2.heap.objs.size) (fun b o nb e => hsb9.extBut b o nb e) nD dloc (by rw [hexc]; exact .inl List.mem_cons_self) dcell (fun p hp z => by
                    rw [hpn] at hp
                    have hp' : p ∈ pinsAt fp s5.heap := by simpa using hp
                    exact hDfp (z ▸ (of_pinsAt hp').1))
                  have hD9' : h9.get? s2.heap.objs.size = some { cls := .type "list", data := .seq (us ++ [xv]).toArray (k + 1) } := by
                    rw [hD9]; simp
                  refine ⟨n, Nat.lt_succ_self n, i + 1, σ6, H8, us ++ [xv], vs ++ [v8], k + 1, ι8, S8, ds ++ [y], pinD J9 nD hD9', ?_, fun b hb => ?_, rv.append (.cons rv8 .nil), by rw [List.length_append]; exact Nat.succ_le_succ hl, x'.trans (x5.trans (x7.trans x8)), r8, weak re8, (((rd.ext x5).ext x7).ext x8).append (.cons rd8 .nil), ?_⟩
                  · exact Tc.keep _ _ _ st5 fun b hb o e => (J9.pin (b, o) (by simp [mem_pinsAt hb e])).1
                  · obtain ⟨o, e, _⟩ := Tc.obj _ _ st5 b hb
                    exact (J9.pin (b, o) (by simp [mem_pinsAt hb e])).2.1
                  · refine Post.mono (Post.bind p8) (fun ι9 H9 S9 ys x9 r9 q9 => ?_) fun _ _ z => z
                    have q9' := q9 ι9 H9 (.refl _ _) r9
                    rw [List.append_assoc]
                    exact q9'
            · rw [if_neg hlim] at q'
              exact q'.elim
    · refine ⟨0, _, H2, [], [], 0, ι1, S1, [], pinD XI hD (old4 _ _ acc3), Tc.keep _ _ _ st2 (fun b hb o e => old4 b o (old3 b o e)), fun b hb => (hex b (List.mem_cons_of_mem _ hb)).1, .nil, Nat.le_refl _, .refl _ _, r1, remask, .nil, Post.bind p1⟩
  exact codeAny_compStart_list (loop _ rfl) (T.self _ 0 _ _ _ (T.keep _ _ _ st2 (fun b hb o e => old4 b o (old3 b o e))) (loop _ rfl))
theorem let_go {pins : List (Addr × Obj)} {s' : Shared} {σ : St} {H' : Hp} {C : Addr} {oC : Obj} (I' : Inv X (pins ++ [(C, oC)]) σ H' s') (h1 : X.s₀.heap.objs.size ≤ C) (h2 : ∀ p ∈ X.pn ++ pins, p.1 ≠ C) (h3 : ∀ x c, X.env.cells.lookup x = some c → c ≠ C) {h' : Heap} (hsb : Heap.SameBut C s'.heap h') :
    Inv X pins σ H' { s' with heap := h' } := by
  obtain ⟨_, n, ne, _, _⟩ := I'.pin (C, oC) (by simp)
  exact (I'.unpinned).turned (t' := s'.toks) (it := C) (fun b o nb e => hsb.extBut b o nb e) n ne (.inr h1) h3 h2
theorem de_comp (B : Nat) (hcm : X.calm = true) (sc : CompSc X N' more is scope) (hi : DI X.nox En tg iter fi) (hs : ∀ x, foldedSetIterable iter X.env x = pure x)
    (hg : ∀ cl C s₃ H₃ ex, DG (compX X N' scope cl C s₃ H₃ ex) tg g) (hc : ∀ cl C s₃ H₃ ex, PTs (compX X N' scope cl C s₃ H₃ ex) ifs (bOf X.mo N'.length En (optT c)))
    (he : ∀ cl C s₃ H₃ ex, DE (compX X N' scope cl C s₃ H₃ ex) En elt f)
    (hgk : ∀ (d : D) (δ δ1 : Dv) (S : Sto), g d δ S = some δ1 → (∀ i ∈ is, ∀ d', δ[i]? ≠ some (some d')) → ∀ (j : Nat) d', δ[j]? = some (some d') → δ1[j]? = some (some d')) :
    DE X E (.ListComp elt [⟨tg, iter, ifs, 0⟩] scope pos) (fComp fi is more.length g c f B) := by
  intro pins s σ H Q I h
  rw [eval_ListComp]
  refine comp_run B hcm sc hi hs hg hc he hgk I h fun s' H' C Da oC m I' hn hn2 q1 q2 q3 q => ?_
  exact ⟨m, hn, fun h' hsb => ⟨.ref Da, H', let_go I' q1 q2 q3 hsb, rfl, q⟩⟩
end
section
variable {X : Cx}
theorem RD.lst_inv {M : Mo} {ι : List Addr} {H : Hp} {S : Sto} {v : V} {n : Nat} {xs : List D} (rs : RelS M ι H S) (r : RD M ι H v (.ref n)) (e : S[n]? = some (.lst xs)) : ∃ a vs, v = .ref a ∧ ι[n]? = some a ∧ H a = some (.lst vs) ∧ RDs M ι H vs xs := by
  cases r with
  | @ref a _ h =>
    obtain ⟨o, ho, ro⟩ := rs.there h
    rw [e] at ho
    cases ho
    obtain ⟨vs, h1, h2⟩ := ro
    exact ⟨a, vs, rfl, h, h1, h2⟩
noncomputable def seqD (d : D) (S : Sto) : Option (List D) := match d with
  | .tup ds => some ds
  | .rol ds => some ds
  | .ref n => match S[n]? with
    | some (.lst xs) => some xs
    | _ => none
  | _ => none
theorem seqD_is {M : Mo} {ι : List Addr} {H : Hp} {S : Sto} {v : V} {d : D} {ds : List D} (rs : RelS M ι H S) (r : RD M ι H v d) (e : seqD d S = some ds) :
    ∃ a vs, v = .ref a ∧ (SqL M.K H a vs ∨ SqU M.K H a vs) ∧ RDs M ι H vs ds := by
  cases r with
  | @tup a xs es h t => cases e; exact ⟨a, xs, rfl, .inr h, t⟩
  | @rol a xs es h t => cases e; exact ⟨a, xs, rfl, .inl h.sq, t⟩
  | @ref a n h =>
    unfold seqD at e
    dsimp only at e
    cases ho : S[n]? with
    | none => rw [ho] at e; cases e
    | some o =>
      rw [ho] at e
      cases o with
      | lst xs =>
        cases e
        obtain ⟨a', vs, e1, e2, e3, e4⟩ := RD.lst_inv rs (.ref h) ho
        cases e1
        exact ⟨_, vs, rfl, .inl (SqL.of e3), e4⟩
      | _ => cases e
  | _ => cases e
theorem prim_I0 {g : Int → Int → V} {k : Int → Int → D} (hk : ∀ M ι H i j, RD M ι H (g i j) (k i j)) : Prim2 X (rI0 g) (fun d e S => match d, e with | .int i, .int j => .ok (k i j) S | _, _ => .fail) := by
  intro ι H S x y d e Q E rs rx ry p
  dsimp only at p
  split at p
  · cases rx; cases ry
    exact ⟨_, _, rfl, rfl, p ι H (.refl ι H) rs _ (hk _ _ _ _ _)⟩
  · exact p.elim
open Classical in
noncomputable def cInt (C : Int → Int → Prop) (k : Int → Int → D) (d e : D) (S : Sto) : R D := match d, e with
  | .int i, .int j => if C i j then .ok (k i j) S else .fail
  | _, _ => .fail
theorem prim_I {C : Int → Int → Prop} {g : Int → Int → V} {k : Int → Int → D} (hk : ∀ M ι H i j, RD M ι H (g i j) (k i j)) : Prim2 X (rI C g) (cInt C k) := by
  intro ι H S x y d e Q E rs rx ry p
  unfold cInt at p
  split at p
  · split at p
    · rename_i c
      cases rx; cases ry
      exact ⟨_, _, rfl, rfl, c, p ι H (.refl ι H) rs _ (hk _ _ _ _ _)⟩
    · exact p.elim
  · exact p.elim
noncomputable def subD (d e : D) (S : Sto) : R D := match d, e with | .int i, .int j => .ok (.int (i - j)) S | _, _ => .fail
noncomputable def ltD (d e : D) (S : Sto) : R D := match d, e with | .int i, .int j => .ok (.bl (decide (i < j))) S | _, _ => .fail
noncomputable def leD (d e : D) (S : Sto) : R D := match d, e with | .int i, .int j => .ok (.bl (decide (i ≤ j))) S | _, _ => .fail
noncomputable def gtD (d e : D) (S : Sto) : R D := match d, e with | .int i, .int j => .ok (.bl (decide (j < i))) S | _, _ => .fail
noncomputable def geD (d e : D) (S : Sto) : R D := match d, e with | .int i, .int j => .ok (.bl (decide (j ≤ i))) S | _, _ => .fail
theorem p_sub : Prim2 X (rI0 fun i j => .int (i - j)) subD := prim_I0 fun _ _ _ _ _ => .int _
theorem p_lt : Prim2 X (rI0 fun i j => .bl (decide (i < j))) ltD := prim_I0 fun _ _ _ _ _ => .bl _
theorem p_le : Prim2 X (rI0 fun i j => .bl (decide (i ≤ j))) leD := prim_I0 fun _ _ _ _ _ => .bl _
theorem p_gt : Prim2 X (rI0 fun i j => .bl (decide (j < i))) gtD := prim_I0 fun _ _ _ _ _ => .bl _
theorem p_ge : Prim2 X (rI0 fun i j => .bl (decide (j ≤ i))) geD := prim_I0 fun _ _ _ _ _ => .bl _
noncomputable def fdivD := cInt CDivB fun i j => .int (i.fdiv j)
noncomputable def modD := cInt (fun _ j => j ≠ 0) fun i j => .int (i.fmod j)
noncomputable def powD := cInt CPow fun i j => .int (i ^ j.toNat)
theorem p_fdiv : Prim2 X (rI CDivB fun i j => .int (i.fdiv j)) fdivD := prim_I fun _ _ _ _ _ => .int _
theorem p_mod : Prim2 X (rI (fun _ j => j ≠ 0) fun i j => .int (i.fmod j)) modD := prim_I fun _ _ _ _ _ => .int _
theorem p_pow : Prim2 X (rI CPow fun i j => .int (i ^ j.toNat)) powD := prim_I fun _ _ _ _ _ => .int _
noncomputable def negD (d : D) (S : Sto) : R D := match d with | .int i => .ok (.int (-i)) S | _ => .fail
theorem p_neg : Prim1 X (rU fun i => .int (-i)) negD := by
  intro ι H S x d Q E rs rx p
  unfold negD at p
  split at p
  · cases rx; exact ⟨_, rfl, p ι H (.refl ι H) rs _ (.int _)⟩
  · exact p.elim
noncomputable def MulOk (i j : Int) : Prop := CMul i j ∨ CMulB i j
open Classical in
noncomputable def mulD (d e : D) (S : Sto) : R D := match d, e with
  | .int i, .int j => if MulOk i j then .ok (.int (i * j)) S else .fail
  | .ref n, .int k => match S[n]? with
    | some (.lst xs) => if xs.length * k.toNat ≤ lim ∧ -(2 ^ 63) ≤ k ∧ k < 2 ^ 63 then mkLst (List.replicate k.toNat xs).flatten S else .fail
    | _ => .fail
  | _, _ => .fail
noncomputable def rMulA : R2 := fun x y H Q => rI CMul (fun i j => .int (i * j)) x y H Q ∨ (rI CMulB (fun i j => .int (i * j)) x y H Q ∨ rRep x y H Q)
theorem op_mulA : OpR X (binaryOp .Mult) rMulA := op_mul.or (op_mulB.or op_rep)
theorem RDs.rep {M : Mo} {ι : List Addr} {H : Hp} {vs : List V} {ds : List D} (h : RDs M ι H vs ds) : ∀ k : Nat, RDs M ι H (List.replicate k vs).flatten (List.replicate k ds).flatten
  | 0 => .nil
  | k + 1 => by
    rw [List.replicate_succ, List.replicate_succ, List.flatten_cons, List.flatten_cons]
    exact h.append (RDs.rep h k)
theorem p_mul : Prim2 X rMulA mulD := by
  intro ι H S x y d e Q E rs rx ry p
  unfold mulD at p
  split at p
  · split at p
    · rename_i c
      cases rx; cases ry
      have q := p ι H (.refl ι H) rs _ (.int _)
      rcases c with c | c
      · exact .inl ⟨_, _, rfl, rfl, c, q⟩
      · exact .inr (.inl ⟨_, _, rfl, rfl, c, q⟩)
    · exact p.elim
  · rename_i n k
    split at p
    · rename_i xs ho
      split at p
      · rename_i c
        obtain ⟨a, vs, rfl, h1, h2, h3⟩ := RD.lst_inv rs rx ho
        cases ry
        exact .inr (.inr ⟨a, k, vs, rfl, rfl, h2, c.2.1, c.2.2, by rw [h3.length]; exact Nat.le_trans c.1 lim_line, (post_lst rs (h3.rep _) p).2⟩)
      · exact p.elim
    · exact p.elim
  · exact p.elim
noncomputable def addD (d e : D) (S : Sto) : R D := match d, e with
  | .int i, .int j => .ok (.int (i + j)) S
  | .str x, .str y => if x.length + y.length ≤ lim then .ok (.str (x ++ y)) S else .fail
  | .tup (x :: xs), .tup ys => if (x :: xs).length + ys.length ≤ lim then .ok (.tup ((x :: xs) ++ ys)) S else .fail
  | .ref m, .ref n => match S[m]?, S[n]? with
    | some (.lst xs), some (.lst ys) => if xs.length + ys.length ≤ lim then .ok (.ref S.length) (S ++ [.lst (xs ++ ys)]) else .fail
    | _, _ => .fail
  | _, _ => .fail
noncomputable def rAddA (K : PySem.W.Frag) : R2 := fun x y H Q => rI0 (fun i j => .int (i + j)) x y H Q ∨ ((∃ i j, x = .str i ∧ y = .str j ∧ i.length + j.length ≤ sizeLine ∧ Q (.str (i ++ j)) H) ∨ (rCatT K x y H Q ∨ rCat x y H Q))
theorem op_addA : OpR X (binaryOp .Add) (rAddA X.K) := op_add.or (op_add_str.or (op_catT.or op_cat))
theorem p_add : Prim2 X (rAddA X.K) addD := by
  intro ι H S x y d e Q E rs rx ry p
  unfold addD at p
  split at p
  · cases rx; cases ry
    exact .inl ⟨_, _, rfl, rfl, p ι H (.refl ι H) rs _ (.int _)⟩
  · split at p
    · rename_i c
      cases rx; cases ry
      exact .inr (.inl ⟨_, _, rfl, rfl, Nat.le_trans c lim_line, p ι H (.refl ι H) rs _ (.str _)⟩)
    · exact p.elim
  · rename_i z zs ys
    split at p
    · rename_i c
      cases rx with
      | @tup a vs _ h1 t1 =>
        cases ry with
        | @tup b us _ h2 t2 =>
          refine .inr (.inr (.inl ⟨a, b, vs, us, rfl, rfl, h1.sq, h2.sq, fun e => ?_, ?_, fun e => ?_, fun e p' hp => ?_⟩))
          · subst e; cases t1
          · rw [t1.length, t2.length]; exact Nat.le_trans c lim_line
          · subst e
            cases t2
            rw [List.append_nil] at p
            exact p ι H (.refl ι H) rs _ (.tup h1 t1)
          · exact p ι _ (Ext.laid hp) (rs.laid hp) _ (.tup (SqU.of upd_same) ((t1.append t2).ext (Ext.laid hp)))
    · exact p.elim
  · rename_i m n
    split at p
    · rename_i xs ys h1 h2
      split at p
      · rename_i c
        obtain ⟨a, vs, rfl, a1, a2, a3⟩ := RD.lst_inv rs rx h1
        obtain ⟨b, us, rfl, b1, b2, b3⟩ := RD.lst_inv rs ry h2
        refine .inr (.inr (.inr ⟨a, b, vs, us, rfl, rfl, a2, b2, by rw [a3.length, b3.length]; exact Nat.le_trans c lim_line, fun q hq => ?_⟩))
        refine p _ _ (Ext.made hq) (rs.made hq ⟨_, upd_same, (a3.append b3).ext (Ext.made hq)⟩) _ (.ref ?_)
        rw [← rs.len]; exact getElem?_snoc ι q
      · exact p.elim
    · exact p.elim
  · exact p.elim
noncomputable def allO {α β : Type} (f : α → Option β) : List α → Option (List β)
  | [] => some []
  | d :: ds => match f d, allO f ds with
    | some p, some ps => some (p :: ps)
    | _, _ => none
noncomputable def toPy (S : Sto) : Nat → D → Option PyData
  | 0, _ => none
  | _ + 1, .non => some .none
  | _ + 1, .bl b => some (.bool b)
  | _ + 1, .int i => some (.int i)
  | _ + 1, .str x => some (.str x)
  | k + 1, .tup ds => (allO (toPy S k) ds).map .tuple
  | k + 1, .rol ds => (allO (toPy S k) ds).map .list
  | k + 1, .ref n => match S[n]? with
    | some (.lst xs) => (allO (toPy S k) xs).map .list
    | _ => none
  | _ + 1, _ => none
theorem allO_is {M : Mo} {ι : List Addr} {H : Hp} {f : D → Option PyData} (hf : ∀ v d p, f d = some p → RD M ι H v d → Is M.K H v p) : ∀ {vs : List V} {ds : List D} {ps : List PyData}, RDs M ι H vs ds → allO f ds = some ps → IsAll M.K H vs ps
  | _, _, _, .nil, e => by cases e; exact .nil
  | _, _, _, .cons h t, e => by
    unfold allO at e
    split at e
    · rename_i p ps h1 h2
      cases e
      exact .cons (hf _ _ _ h1 h) (allO_is hf t h2)
    · cases e
theorem toPy_is {M : Mo} {ι : List Addr} {H : Hp} {S : Sto} (rs : RelS M ι H S) : ∀ (k : Nat) (v : V) (d : D) (p : PyData), toPy S k d = some p → RD M ι H v d → Is M.K H v p
  | 0, _, _, _, e, _ => by cases e
  | k + 1, v, d, p, e, r => by
    cases r with
    | non => cases e; exact .non
    | bl b => cases e; exact .bl b
    | int i => cases e; exact .int i
    | str x => cases e; exact .str x
    | ty t => cases e
    | gl h => cases e
    | @tup a xs ds h t =>
      obtain ⟨ps, e1, rfl⟩ := Option.map_eq_some_iff.mp (show (allO (toPy S k) ds).map .tuple = some p from e)
      exact .tup h.sq (allO_is (toPy_is rs k) t e1)
    | @rol a xs ds h t =>
      obtain ⟨ps, e1, rfl⟩ := Option.map_eq_some_iff.mp (show (allO (toPy S k) ds).map .list = some p from e)
      exact .lst h.sq (allO_is (toPy_is rs k) t e1)
    | @ref a n h =>
      have e' : (match S[n]? with | some (.lst xs) => (allO (toPy S k) xs).map .list | _ => none) = some p := e
      cases ho : S[n]? with
      | none => rw [ho] at e'; cases e'
      | some o =>
        rw [ho] at e'
        cases o with
        | lst xs =>
          obtain ⟨ps, e1, rfl⟩ := Option.map_eq_some_iff.mp e'
          obtain ⟨a', vs, q1, q2, q3, q4⟩ := RD.lst_inv rs (.ref h) ho
          cases q1
          exact .lst (SqL.of q3) (allO_is (toPy_is rs k) q4 e1)
        | _ => cases e'
noncomputable def eqD (S : Sto) (d e : D) : Option Bool := match toPy S 12 d, toPy S 12 e with
  | some p, some q => if SeqAt.shaped p = true ∧ SeqAt.shaped q = true then some (PyData.eqv p q) else none
  | _, _ => none
noncomputable def eqR (f : Bool → Bool) (d e : D) (S : Sto) : R D := match eqD S d e with
  | some b => .ok (.bl (f b)) S
  | none => .fail
theorem p_eq {f : Bool → Bool} : Prim2 X (rEqD X.K f) (eqR f) := by
  intro ι H S x y d e Q E rs rx ry p
  unfold eqR eqD at p
  split at p
  · rename_i b hb
    split at hb
    · rename_i p1 q1 h1 h2
      split at hb
      · rename_i c
        cases hb
        exact ⟨p1, q1, toPy_is rs 12 x d p1 h1 rx, toPy_is rs 12 y e q1 h2 ry, c.1, c.2, p ι H (.refl ι H) rs _ (.bl _)⟩
      · cases hb
    · cases hb
  · exact p.elim
noncomputable def isNonD (d : D) : Bool := match d with
  | .non => true
  | _ => false
theorem isNonD_of {M : Mo} {ι : List Addr} {H : Hp} {v : V} {d : D} (r : RD M ι H v d) : decide (v = .non) = isNonD d := by cases r <;> simp [isNonD]
noncomputable def fIsN (fa : Fd) : Fd := fun δ S => (fa δ S).bind fun d S1 => .ok (.bl (isNonD d)) S1
noncomputable def fNotN (fa : Fd) : Fd := fun δ S => (fa δ S).bind fun d S1 => .ok (.bl (!isNonD d)) S1
variable {E : St → XK} {a b : Expr} {fa fb : Fd}
theorem tIsN_of : ∀ σ H Q, tOf X.mo X.N.length E (fIsN fa) σ H Q → tIsN (tOf X.mo X.N.length E fa) σ H Q := fun σ H Q ⟨ι, δ, S, rs, re, p⟩ =>
  tOf.step rs re (Post.bind p) fun ι1 H1 S1 d v x1 r1 re1 p1 rv1 => by
    rw [isNonD_of rv1]
    exact p1 ι1 H1 (.refl ι1 H1) r1 _ (.bl _)
theorem tNotN_of : ∀ σ H Q, tOf X.mo X.N.length E (fNotN fa) σ H Q → tNotN (tOf X.mo X.N.length E fa) σ H Q := fun σ H Q ⟨ι, δ, S, rs, re, p⟩ =>
  tOf.step rs re (Post.bind p) fun ι1 H1 S1 d v x1 r1 re1 p1 rv1 => by
    rw [isNonD_of rv1]
    exact p1 ι1 H1 (.refl ι1 H1) r1 _ (.bl _)
noncomputable def idxD (d e : D) (S : Sto) : R D := match e with
  | .int i => match seqD d S with
    | some ds => match atI ds i with
      | some x => .ok x S
      | none => .fail
    | none => match d with
      | .str z => if z.length ≤ lim then (match atI z.cps.toList i with
        | some c => .ok (.str ⟨#[c]⟩) S
        | none => .fail) else .fail
      | _ => .fail
  | _ => .fail
theorem p_idx : Prim2 X (rIx X.K) idxD := by
  intro ι H S x y d e Q E rs rx ry p
  unfold idxD at p
  split at p
  · rename_i i
    cases ry
    split at p
    · rename_i ds hs
      obtain ⟨a, vs, rfl, h1, h2⟩ := seqD_is rs rx hs
      split at p
      · rename_i z hz
        obtain ⟨v, hv, rv⟩ := h2.atI hz
        have q := p ι H (.refl ι H) rs v rv
        rcases h1 with h1 | h1
        · exact .inl ⟨a, vs, i, v, rfl, rfl, h1, hv, q⟩
        · exact .inr (.inl ⟨a, vs, i, v, rfl, rfl, h1.sq, hv, q⟩)
      · exact p.elim
    · split at p
      · rename_i z
        split at p
        · rename_i c
          split at p
          · rename_i ch hz
            cases rx
            exact .inr (.inr ⟨_, i, ch, rfl, rfl, Nat.le_trans c lim_line, hz, p ι H (.refl ι H) rs _ (.str _)⟩)
          · exact p.elim
        · exact p.elim
      · exact p.elim
  · exact p.elim
noncomputable def lenD (ds : List D) (S : Sto) : R D := match ds with
  | [d] => match seqD d S with
    | some xs => .ok (.int xs.length) S
    | none => match d with
      | .str z => if z.length ≤ lim then .ok (.int z.length) S else .fail
      | _ => .fail
  | _ => .fail
theorem RDs.one {M : Mo} {ι : List Addr} {H : Hp} {vs : List V} {d : D} (r : RDs M ι H vs [d]) : ∃ v, vs = [v] ∧ RD M ι H v d := by
  cases r with
  | cons h t => cases t; exact ⟨_, rfl, h⟩
theorem RDs.two {M : Mo} {ι : List Addr} {H : Hp} {vs : List V} {d e : D} (r : RDs M ι H vs [d, e]) : ∃ v u, vs = [v, u] ∧ RD M ι H v d ∧ RD M ι H u e := by
  cases r with
  | cons h t => cases t with | cons h' t' => cases t'; exact ⟨_, _, rfl, h, h'⟩
theorem p_len : PrimA X (fun xs H Q => ∃ x n, xs = [x] ∧ LenV X.K x H n ∧ Q (.int n) H) lenD := by
  intro ι H S xs ds Q E rs rv p
  unfold lenD at p
  split at p
  · rename_i d
    obtain ⟨v, rfl, r⟩ := rv.one
    split at p
    · rename_i ys hs
      obtain ⟨a, vs, rfl, h1, h2⟩ := seqD_is rs r hs
      have q := p ι H (.refl ι H) rs _ (.int _)
      refine ⟨.ref a, ys.length, rfl, ?_, q⟩
      rcases h1 with h1 | h1
      · exact .inl ⟨vs, h1, h2.length.symm⟩
      · exact .inr ⟨vs, h1.sq, h2.length.symm⟩
    · split at p
      · rename_i z
        split at p
        · rename_i c
          cases r
          exact ⟨_, _, rfl, ⟨Nat.le_trans c lim_line, rfl⟩, p ι H (.refl ι H) rs _ (.int _)⟩
        · exact p.elim
      · exact p.elim
  · exact p.elim
noncomputable def absD (ds : List D) (S : Sto) : R D := match ds with
  | [.int i] => .ok (.int (if i < 0 then -i else i)) S
  | _ => .fail
theorem p_abs : PrimA X (fun xs H Q => ∃ i, xs = [.int i] ∧ Q (.int (if i < 0 then -i else i)) H) absD := by
  intro ι H S xs ds Q E rs rv p
  unfold absD at p
  split at p
  · obtain ⟨v, rfl, r⟩ := rv.one
    cases r
    exact ⟨_, rfl, p ι H (.refl ι H) rs _ (.int _)⟩
  · exact p.elim
noncomputable def minD (ds : List D) (S : Sto) : R D := match ds with
  | [.int i, .int j] => .ok (.int (if j < i then j else i)) S
  | _ => .fail
noncomputable def maxD (ds : List D) (S : Sto) : R D := match ds with
  | [.int i, .int j] => .ok (.int (if j > i then j else i)) S
  | _ => .fail
noncomputable def listD (ds : List D) (S : Sto) : R D := match ds with
  | [d] => match seqD d S with
    | some xs => mkLst xs S
    | none => .fail
  | _ => .fail
noncomputable def tupleD (ds : List D) (S : Sto) : R D := match ds with
  | [d] => match seqD d S with
    | some xs => mkTup xs S
    | none => .fail
  | _ => .fail
theorem p_tuple : PrimA X (fun xs H Q => ∃ p ys, xs = [.ref p] ∧ ((SqL X.K H p ys ∧ ∀ l, H l = none → Q (.ref l) (upd H l (.tup ys))) ∨ (SqT X.K H p ys ∧ Q (.ref p) H))) tupleD := by
  intro ι H S xs ds Q E rs rv p
  unfold tupleD at p
  split at p
  · rename_i d
    obtain ⟨v, rfl, r⟩ := rv.one
    split at p
    · rename_i ys hs
      obtain ⟨a, vs, rfl, h1, h2⟩ := seqD_is rs r hs
      refine ⟨a, vs, rfl, ?_⟩
      rcases h1 with h1 | h1
      · exact .inl ⟨h1, (post_tup rs h2 p).2⟩
      · refine .inr ⟨h1.sq, ?_⟩
        unfold mkTup at p
        split at p
        · exact p ι H (.refl ι H) rs _ (.tup h1 h2)
        · exact p.elim
    · exact p.elim
  · exact p.elim
noncomputable def bools : List D → Option (List Bool)
  | [] => some []
  | .bl b :: ds => (bools ds).map (b :: ·)
  | _ => none
noncomputable def lstD (d : D) (S : Sto) : Option (List D) := match d with
  | .rol ds => some ds
  | .ref n => match S[n]? with
    | some (.lst xs) => some xs
    | _ => none
  | _ => none
theorem lstD_is {M : Mo} {ι : List Addr} {H : Hp} {S : Sto} {v : V} {d : D} {ds : List D} (rs : RelS M ι H S) (r : RD M ι H v d) (e : lstD d S = some ds) : ∃ a vs, v = .ref a ∧ SqL M.K H a vs ∧ RDs M ι H vs ds := by
  cases r with
  | @rol a xs es h t => cases e; exact ⟨a, xs, rfl, h.sq, t⟩
  | @ref a n h =>
    unfold lstD at e
    dsimp only at e
    cases ho : S[n]? with
    | none => rw [ho] at e; cases e
    | some o =>
      rw [ho] at e
      cases o with
      | lst xs =>
        cases e
        obtain ⟨a', vs, e1, e2, e3, e4⟩ := RD.lst_inv rs (.ref h) ho
        cases e1
        exact ⟨_, vs, rfl, SqL.of e3, e4⟩
      | _ => cases e
  | _ => cases e
noncomputable def allD (k : Bool) (ds : List D) (S : Sto) : R D := match ds with
  | [d] => match lstD d S with
    | some xs => match bools xs with
      | some bs => .ok (.bl (if k then bs.all id else bs.any id)) S
      | none => .fail
    | none => .fail
  | _ => .fail
end
inductive Tyd where
  | b (n : String) | o (C : Str)
  deriving DecidableEq
structure Glo where
  con : Str → Option D
  own : Str → Bool
  cls : Str → Bool
  exc : Str → Bool
  sub : Tyd → D → Option Bool
  exm : Str → Str → Option Bool
  ins : Str → Bool := fun _ => false
  fld : Str → Str → Bool := fun _ _ => false
  mth : Str → Str → Option (Str × Nat) := fun _ _ => none
  ini : Str → Option (Option (Str × Nat)) := fun _ => none
  dfl : Str → List D := fun _ => []
noncomputable def tyVal (mg : Str → Option Value) : Tyd → Option Value
  | .b n => some (.type n)
  | .o C => mg C
noncomputable def clsOf (mg : Str → Option Value) : D → Option Value
  | .ty n => some (.type n)
  | .gl x => mg x
  | _ => none
structure Mk0 (K : PySem.W.Frag) (C : Addr) : Prop where
  makes : PySem.W.makesIn K C = true
  init : PySem.W.findIn K (.ref C) "__init__" = some (some (.builtin "object.__init__"))
  kp : PySem.W.keepIn K (.ref C) = true
structure ClsI (K : PySem.W.Frag) (C : Addr) : Prop where
  ha : PySem.W.findIn K (.ref C) "__class__" = some (some (.builtin "object.__class__"))
  hn : PySem.W.specialIn K (.builtin "object.__class__") "__get__" = some (some (.builtin "getset_descriptor.__get__"))
  htk : PySem.W.takesIn K (.builtin "object.__class__") = some true
  hm : PySem.W.mroIn K C (.type "object") = some true
structure GOk (M : Mo) (G : Glo) : Prop where
  con : ∀ x d, G.con x = some d → ∃ u v, M.mg x = some u ∧ RelV v u ∧ ∀ ι H, RD M ι H v d
  own : ∀ x, G.own x = true → M.mg x = none
  cls : ∀ x, G.cls x = true → ∃ a, M.mg x = some (.ref a)
  exc : ∀ x, G.exc x = true → ∃ C, M.mg x = some (.ref C) ∧ ExcC M.K C ∧ ExcI M.K C
  sub : ∀ t c b, G.sub t c = some b → ∀ tv cv, tyVal M.mg t = some tv → clsOf M.mg c = some cv → PySem.W.kitOne M.K tv cv = some b
  exm : ∀ x y b, G.exm x y = some b → ∀ a c, M.mg x = some (.ref a) → M.mg y = some c → PySem.W.exmOne M.K (.ref a) c = some b
  ins : ∀ C, G.ins C = true → ∃ a, M.mg C = some (.ref a) ∧ Cls M.K a ∧ ClsI M.K a
  fld : ∀ C f, G.fld C f = true → ∀ a, M.mg C = some (.ref a) → NoAttr M.K a f
  ini0 : ∀ C, G.ini C = some none → ∃ a, M.mg C = some (.ref a) ∧ Mk0 M.K a
noncomputable def tyD (d : D) (S : Sto) : Option Tyd := match d with
  | .non => some (.b "NoneType")
  | .bl _ => some (.b "bool")
  | .int _ => some (.b "int")
  | .str _ => some (.b "str")
  | .tup _ => some (.b "tuple")
  | .rol _ => some (.b "list")
  | .ref n => match S[n]? with
    | some (.lst _) => some (.b "list")
    | some (.exc C) => some (.o C)
    | some (.ins C _) => some (.o C)
    | some (.dic _) => some (.b "dict")
    | some (.dit _) => some (.b "dict")
    | some (.fdt _) => none
    | none => none
  | _ => none
noncomputable def subL : List (String × String × Bool) := [("NoneType", "int", false), ("NoneType", "bool", false), ("NoneType", "str", false), ("NoneType", "tuple", false), ("NoneType", "list", false), ("NoneType", "dict", false), ("bool", "int", true), ("bool", "bool", true), ("bool", "str", false), ("bool", "tuple", false), ("bool", "list", false), ("bool", "dict", false), ("int", "int", true), ("int", "bool", false), ("int", "str", false), ("int", "tuple", false), ("int", "list", false), ("int", "dict", false), ("str", "int", false), ("str", "bool", false), ("str", "str", true), ("str", "tuple", false), ("str", "list", false), ("str", "dict", false), ("tuple", "int", false), ("tuple", "bool", false), ("tuple", "str", false), ("tuple", "tuple", true), ("tuple", "list", false), ("tuple", "dict", false), ("list", "int", false), ("list", "bool", false), ("list", "str", false), ("list", "tuple", false), ("list", "list", true), ("list", "dict", false), ("dict", "int", false), ("dict", "bool", false), ("dict", "str", false), ("dict", "tuple", false), ("dict", "list", false), ("dict", "dict", true)]
noncomputable def lk3 (a b : String) : List (String × String × Bool) → Option Bool
  | [] => none
  | p :: r => if p.1 = a ∧ p.2.1 = b then some p.2.2 else lk3 a b r
noncomputable def subB (a b : String) : Option Bool := lk3 a b subL
theorem lk3_is {a b : String} {r : Bool} {P : String → String → Bool → Prop} : ∀ {l : List (String × String × Bool)}, (∀ p ∈ l, P p.1 p.2.1 p.2.2) → lk3 a b l = some r → P a b r
  | [], _, h => nomatch h
  | p :: l, g, h => by
    unfold lk3 at h
    split at h
    · rename_i e
      cases h
      have := g p List.mem_cons_self
      rwa [e.1, e.2] at this
    · exact lk3_is (fun q hq => g q (List.mem_cons_of_mem _ hq)) h
theorem subB_is {K : PySem.W.Frag} {a b : String} {r : Bool} (h : subB a b = some r) : PySem.W.kitOne K (.type a) (.type b) = some r :=
  lk3_is (P := fun a b r => PySem.W.kitOne K (.type a) (.type b) = some r) (List.forall_mem_cons.mpr ⟨rfl, (List.forall_mem_cons.mpr ⟨rfl, (List.forall_mem_cons.mpr ⟨rfl, (List.forall_mem_cons.mpr ⟨rfl, (List.forall_mem_cons.mpr ⟨rfl, (List.forall_mem_cons.mpr ⟨rfl, (List.forall_mem_cons.mpr ⟨rfl, (List.forall_mem_cons.mpr ⟨rfl, (List.forall_mem_cons.mpr ⟨rfl, (List.forall_mem_cons.mpr ⟨rfl, (List.forall_mem_cons.mpr ⟨rfl, (List.forall_mem_cons.mpr ⟨rfl, (List.forall_mem_cons.mpr ⟨rfl, (List.forall_mem_cons.mpr ⟨rfl, (List.forall_mem_cons.mpr ⟨rfl, (List.forall_mem_cons.mpr ⟨rfl, (List.forall_mem_cons.mpr ⟨rfl, (List.forall_mem_cons.mpr ⟨rfl, (List.forall_mem_cons.mpr ⟨rfl, (List.forall_mem_cons.mpr ⟨rfl, (List.forall_mem_cons.mpr ⟨rfl, (List.forall_mem_cons.mpr ⟨rfl, (List.forall_mem_cons.mpr ⟨rfl, (List.forall_mem_cons.mpr ⟨rfl, (List.forall_mem_cons.mpr ⟨rfl, (List.forall_mem_cons.mpr ⟨rfl, (List.forall_mem_cons.mpr ⟨rfl, (List.forall_mem_cons.mpr ⟨rfl, (List.forall_mem_cons.mpr ⟨rfl, (List.forall_mem_cons.mpr ⟨rfl, (List.forall_mem_cons.mpr ⟨rfl, (List.forall_mem_cons.mpr ⟨rfl, (List.forall_mem_cons.mpr ⟨rfl, (List.forall_mem_cons.mpr ⟨rfl, (List.forall_mem_cons.mpr ⟨rfl, (List.forall_mem_cons.mpr ⟨rfl, (List.forall_mem_cons.mpr ⟨rfl, (List.forall_mem_cons.mpr ⟨rfl, (List.forall_mem_cons.mpr ⟨rfl, (List.forall_mem_cons.mpr ⟨rfl, (List.forall_mem_cons.mpr ⟨rfl, (List.forall_mem_cons.mpr ⟨rfl, List.forall_mem_nil _⟩)⟩)⟩)⟩)⟩)⟩)⟩)⟩)⟩)⟩)⟩)⟩)⟩)⟩)⟩)⟩)⟩)⟩)⟩)⟩)⟩)⟩)⟩)⟩)⟩)⟩)⟩)⟩)⟩)⟩)⟩)⟩)⟩)⟩)⟩)⟩)⟩)⟩)⟩)⟩)⟩)⟩) h
noncomputable def subOf (G : Glo) (t : Tyd) (c : D) : Option Bool := match t, c with
  | .b a, .ty b => subB a b
  | t, c => G.sub t c
theorem subOf_is {M : Mo} {G : Glo} (g : GOk M G) {t : Tyd} {c : D} {b : Bool} (h : subOf G t c = some b) {tv cv : Value} (h1 : tyVal M.mg t = some tv) (h2 : clsOf M.mg c = some cv) : PySem.W.kitOne M.K tv cv = some b := by
  unfold subOf at h
  split at h
  · cases h1; cases h2
    exact subB_is h
  · exact g.sub _ _ _ h _ _ h1 h2
noncomputable def anySub (G : Glo) (t : Tyd) : List D → Option Bool
  | [] => some false
  | c :: r => match subOf G t c with
    | some true => some true
    | some false => anySub G t r
    | none => none
noncomputable def okTD (G : Glo) (d : D) (S : Sto) : Bool := match d with
  | .ref n => match S[n]? with
    | some (.exc C) => G.exc C
    | some (.ins C _) => G.ins C
    | _ => true
  | _ => true
noncomputable def isInst (G : Glo) (ds : List D) (S : Sto) : R D := match ds with
  | [x, c] => match tyD x S with
    | some t => if okTD G x S = true then (match c with
        | .tup cs => match anySub G t cs with
          | some b => .ok (.bl b) S
          | none => .fail
        | c => match subOf G t c with
          | some b => .ok (.bl b) S
          | none => .fail) else .fail
    | none => .fail
  | _ => .fail
section
variable {X : Cx} {G : Glo}
theorem tyD_is (g : GOk X.mo G) {ι : List Addr} {H : Hp} {S : Sto} {v : V} {d : D} {t : Tyd} (rs : RelS X.mo ι H S) (r : RD X.mo ι H v d) (h : tyD d S = some t) (he : okTD G d S = true) : ∃ tv, tyVal X.mg t = some tv ∧ TyE X.K H v tv := by
  cases r with
  | non => cases h; exact ⟨_, rfl, .of .non⟩
  | bl b => cases h; exact ⟨_, rfl, .of (.bl b)⟩
  | int i => cases h; exact ⟨_, rfl, .of (.int i)⟩
  | str x => cases h; exact ⟨_, rfl, .of (.str x)⟩
  | ty n => cases h
  | gl h' => cases h
  | tup h1 h2 => cases h; exact ⟨_, rfl, .tup h1.sq⟩
  | rol h1 h2 => cases h; exact ⟨_, rfl, .lst h1.sq⟩
  | @ref a n h1 =>
    obtain ⟨o, ho, ro⟩ := rs.there h1
    unfold tyD at h
    unfold okTD at he
    dsimp only at h he
    rw [ho] at h he
    cases o with
    | lst xs => cases h; obtain ⟨vs, h2, _⟩ := ro; exact ⟨_, rfl, .lst (SqL.of h2)⟩
    | exc C =>
      cases h
      obtain ⟨Ca, h2, h3⟩ := ro
      obtain ⟨Cb, h4, h5, h6⟩ := g.exc C he
      rw [h2] at h4
      cases h4
      exact ⟨_, h2, .exc h3 h6⟩
    | dic _ => cases h; obtain ⟨ks, h2, _⟩ := ro; exact ⟨_, rfl, .of (.dK h2)⟩
    | dit _ => cases h; obtain ⟨ks, h2, _⟩ := ro; exact ⟨_, rfl, .of (.dT h2)⟩
    | fdt _ => cases h
    | ins C fs =>
      cases h
      obtain ⟨Ca, dx, vs, h2, h3, _⟩ := ro
      obtain ⟨Cb, h4, h5, h6⟩ := g.ins C he
      rw [h2] at h4
      cases h4
      exact ⟨_, h2, .of (.ins h3 h5 h6.ha h6.hn h6.htk h6.hm)⟩
theorem clsV_of {M : Mo} {ι : List Addr} {H : Hp} {v : V} {c : D} {cv : Value} (r : RD M ι H v c) (h : clsOf M.mg c = some cv) : clsV v = some cv := by
  cases r with
  | ty n => cases h; rfl
  | gl q =>
    have h' : M.mg _ = some cv := h
    rw [q] at h'
    cases h'
    rfl
  | _ => cases h
noncomputable def isCls : D → Bool
  | .ty _ => true
  | .gl _ => true
  | _ => false
theorem isCls_some {M : Mo} {ι : List Addr} {H : Hp} {v : V} {c : D} (r : RD M ι H v c) (h : isCls c = true) : ∃ cv, clsOf M.mg c = some cv := by
  cases r with
  | ty n => exact ⟨_, rfl⟩
  | gl q => exact ⟨_, q⟩
  | _ => cases h
theorem anySub_is (g : GOk X.mo G) {t : Tyd} {tv : Value} (ht : tyVal X.mg t = some tv) : ∀ {vs : List V} {cs : List D} {b : Bool} {ι : List Addr} {H : Hp}, RDs X.mo ι H vs cs → cs.all isCls = true → anySub G t cs = some b → ∃ cvs, clsVs vs = some cvs ∧ PySem.W.kitAny X.K tv cvs = some b
  | _, _, _, _, _, .nil, _, e => by cases e; exact ⟨[], rfl, rfl⟩
  | _, _, b, _, _, .cons (v := v) (vs := vs) (d := d) (ds := ds) h r, hc, e => by
    rw [List.all_cons, Bool.and_eq_true] at hc
    obtain ⟨cv, hcv⟩ := isCls_some h hc.1
    have all : ∃ cvs, clsVs vs = some cvs := by
      clear e
      have key : ∀ {ι : List Addr} {H : Hp} {vs : List V} {ds : List D}, RDs X.mo ι H vs ds → ds.all isCls = true → ∃ cvs, clsVs vs = some cvs := by
        intro ι H vs ds r hc
        induction ds generalizing vs with
        | nil => cases r; exact ⟨[], rfl⟩
        | cons d ds ih =>
          cases r with
          | cons h r =>
            rw [List.all_cons, Bool.and_eq_true] at hc
            obtain ⟨cv, hcv⟩ := isCls_some h hc.1
            obtain ⟨cvs, h2⟩ := ih r hc.2
            exact ⟨cv :: cvs, by unfold clsVs; rw [clsV_of h hcv, h2]⟩
      exact key r hc.2
    unfold anySub at e
    cases hs : subOf G t d with
    | none => rw [hs] at e; cases e
    | some k =>
      have hk := subOf_is g hs ht hcv
      rw [hs] at e
      cases k with
      | true =>
        cases e
        obtain ⟨cvs, h2⟩ := all
        exact ⟨cv :: cvs, by unfold clsVs; rw [clsV_of h hcv, h2], by unfold PySem.W.kitAny; rw [hk]⟩
      | false =>
        obtain ⟨cvs, h2, h3⟩ := anySub_is g ht r hc.2 e
        exact ⟨cv :: cvs, by unfold clsVs; rw [clsV_of h hcv, h2], by unfold PySem.W.kitAny; rw [hk]; exact h3⟩
noncomputable def instD (G : Glo) (ds : List D) (S : Sto) : R D := match ds with
  | [x, .tup cs] => if cs.all isCls = true then isInst G [x, .tup cs] S else .fail
  | [x, c] => if isCls c = true then isInst G [x, c] S else .fail
  | _ => .fail
theorem p_inst (g : GOk X.mo G) : PrimA X (fun xs H Q => rIsI X.K xs H Q ∨ rIsT X.K xs H Q) (instD G) := by
  intro ι H S xs ds Q E rs rv p
  unfold instD at p
  split at p
  · rename_i x cs
    obtain ⟨v, u, rfl, r1, r2⟩ := rv.two
    split at p
    · rename_i hc
      unfold isInst at p
      dsimp only at p
      split at p
      · rename_i t ht
        split at p
        · rename_i hk
          split at p
          · rename_i b hb
            obtain ⟨tv, h1, h2⟩ := tyD_is g rs r1 ht hk
            cases r2 with
            | @tup a us _ h3 h4 =>
              obtain ⟨cvs, h5, h6⟩ := anySub_is g h1 h4 hc hb
              exact .inr ⟨v, a, us, cvs, tv, b, rfl, h3.sq, h5, h2, h6, p ι H (.refl ι H) rs _ (.bl b)⟩
          · exact p.elim
        · exact p.elim
      · exact p.elim
    · exact p.elim
  · rename_i x c _
    obtain ⟨v, u, rfl, r1, r2⟩ := rv.two
    split at p
    · rename_i hc
      obtain ⟨cv, hcv⟩ := isCls_some r2 hc
      unfold isInst at p
      dsimp only at p
      split at p
      · rename_i t ht
        split at p
        · rename_i hk
          split at p
          · cases hc
          · split at p
            · rename_i b hb
              obtain ⟨tv, h1, h2⟩ := tyD_is g rs r1 ht hk
              exact .inl ⟨v, u, cv, tv, b, rfl, clsV_of r2 hcv, h2, subOf_is g hb h1 hcv, p ι H (.refl ι H) rs _ (.bl b)⟩
            · exact p.elim
        · exact p.elim
      · exact p.elim
    · exact p.elim
  · exact p.elim
noncomputable def sRaise (C : Str) (f : Fa) : Fs := fun δ S => (f δ S).toS δ fun ds S1 => if ds.length ≤ lim then .exc C δ S1 else .fail
noncomputable def sTry (G : Glo) (C : Str) (i : Nat) (fb fh : Fs) : Fs := fun δ S => match fb δ S with
  | .exc C' δ1 S1 => match G.exm C' C with
    | some true => match noxS (fh (δ1.set i (some (.ref S1.length))) (S1 ++ [.exc C'])) with
      | .next δ2 S2 => .next (δ2.set i none) S2
      | .brk δ2 S2 => .brk (δ2.set i none) S2
      | .cnt δ2 S2 => .cnt (δ2.set i none) S2
      | r => r
    | _ => .fail
  | r => r
end
section
variable {X : Cx} {E : St → XK} {pos : Pos} {e o i : Expr} {es : List Expr} {fe fo fi : Fd} {fa : Fa}
noncomputable def stoD (o i d : D) (S : Sto) : Option Sto := match o, i with
  | .ref n, .int k => match S[n]? with
    | some (.lst xs) => (ixN xs.length k).map fun j => S.set n (.lst (xs.set j d))
    | _ => none
  | _, _ => none
noncomputable def sSto (fo fi fe : Fd) : Fs := fun δ S => (fe δ S).toS δ fun d S1 => (fo δ S1).toS δ fun o S2 => (fi δ S2).toS δ fun i S3 => match stoD o i d S3 with
  | some S4 => .next δ S4
  | none => .fail
theorem RDs.setAt {M : Mo} {ι : List Addr} {H : Hp} {v : V} {d : D} (r : RD M ι H v d) : ∀ {vs : List V} {ds : List D} (j : Nat), RDs M ι H vs ds → RDs M ι H (vs.set j v) (ds.set j d)
  | _, _, _, .nil => .nil
  | _, _, 0, .cons _ t => .cons r t
  | _, _, j + 1, .cons h t => .cons h (RDs.setAt r j t)
theorem RelS.lst {M : Mo} {ι : List Addr} {H : Hp} {S : Sto} {n : Nat} {a : Addr} {xs : List D} (h : RelS M ι H S) (ha : ι[n]? = some a) (e : S[n]? = some (.lst xs)) : ∃ vs, H a = some (.lst vs) ∧ RDs M ι H vs xs := h.obj n a _ ha e
theorem RelS.lput {M : Mo} {ι : List Addr} {H : Hp} {S : Sto} {n : Nat} {a : Addr} {vs us : List V} {ys : List D} (h : RelS M ι H S) (ha : ι[n]? = some a) (hl : H a = some (.lst vs)) (r : RDs M ι H us ys) :
    Ext ι H ι (upd H a (.lst us)) ∧ RelS M ι (upd H a (.lst us)) (S.set n (.lst ys)) := by
  have mu : Mut (H a) := by rw [hl]; trivial
  exact ⟨Ext.set mu, h.set ha mu ⟨us, upd_same, r.ext (Ext.set mu)⟩⟩
noncomputable def setAll : List Nat → List D → Dv → Dv
  | i :: is, d :: ds, δ => setAll is ds (δ.set i (some d))
  | _, _, δ => δ
noncomputable def gNames (is : List Nat) : Fg := fun d δ _ => match d with
  | .tup ds => if ds.length = is.length then some (setAll is ds δ) else none
  | _ => none
noncomputable def NamesAt (X : Cx) : List Expr → List Nat → Prop
  | [], [] => True
  | .Name x _ :: es, i :: is => (X.N[i]? = some x ∧ Loc X.env.scope x ∧ (X.fn x = true ∨ X.env.scope.names.lookup x = some .local)) ∧ NamesAt X es is
  | _, _ => False
theorem PGs.weak {ts : List Expr} {t t' : TGs} (h : PGs X ts t) (w : ∀ v σ H Q, t' v σ H Q → t v σ H Q) : PGs X ts t' := fun pins s σ H x u Q I r q => h pins s σ H x u Q I r (w x σ H Q q)
noncomputable def gsOf (M : Mo) (n : Nat) (is : List Nat) : TGs := fun vs σ H Q => ∃ ι δ S ds, RelS M ι H S ∧ RelE M ι H n σ δ ∧ RDs M ι H vs ds ∧ ds.length = is.length ∧ ∀ σ', RelE M ι H n σ' (setAll is ds δ) → Q σ' H
theorem names_cons : ∀ {e : Expr} {es : List Expr} {is : List Nat}, NamesAt X (e :: es) is → ∃ x p i js, e = .Name x p ∧ is = i :: js ∧ (X.N[i]? = some x ∧ Loc X.env.scope x ∧ (X.fn x = true ∨ X.env.scope.names.lookup x = some .local)) ∧ NamesAt X es js := by
  intro e es is h
  cases is with
  | nil => cases e <;> exact h.elim
  | cons i js =>
    cases e with
    | Name x p => exact ⟨x, p, i, js, rfl, rfl, h.1, h.2⟩
    | _ => exact h.elim
theorem names_nil : ∀ {is : List Nat}, NamesAt X [] is → is = [] := by
  intro is h
  cases is with
  | nil => rfl
  | cons i js => exact h.elim
theorem pgs_names (hN : X.N.Nodup) {es : List Expr} : ∀ {is : List Nat}, NamesAt X es is → PGs X es (gsOf X.mo X.N.length is) := by
  induction es with
  | nil =>
    intro is h
    have z := names_nil h
    subst z
    refine pgs_nil.weak fun vs σ H Q hh => ?_
    obtain ⟨ι, δ, S, ds, rs, re, rv, hl, q⟩ := hh
    have e : ds = [] := List.length_eq_zero_iff.mp hl
    subst e
    cases rv
    exact ⟨rfl, q σ re⟩
  | cons e es ih =>
    intro is h
    obtain ⟨x, p, i, js, rfl, rfl, ⟨h1, h2, h3⟩, h⟩ := names_cons h
    refine (pgs_cons (pg_name (pos := p) hN h1 h2 h3) (ih h) rfl).weak fun vs σ H Q hh => ?_
    obtain ⟨ι, δ, S, ds, rs, re, rv, hl, q⟩ := hh
    cases rv with
    | nil => cases hl
    | @cons v vs d ds r t => exact ⟨v, vs, rfl, ι, δ.set i (some d), S, ds, rs, re.set (List.getElem?_eq_some_iff.mp h1).1 r, t, Nat.succ.inj hl, q⟩
theorem names_each {env : Env} {es : List Expr} : ∀ {is : List Nat}, NamesAt X es is → (assignEach es env).length = is.length ∧ (assignEach es env).findIdx? (·.1) = none := by
  induction es with
  | nil =>
    intro is h
    have z := names_nil h
    subst z
    exact ⟨rfl, rfl⟩
  | cons e es ih =>
    intro is h
    obtain ⟨x, p, i, js, rfl, rfl, _, h⟩ := names_cons h
    obtain ⟨h1, h2⟩ := ih h
    have e : assignEach (.Name x p :: es) env = (false, assign (.Name x p) env) :: assignEach es env := rfl
    rw [e]
    refine ⟨by simp [h1], ?_⟩
    rw [List.findIdx?_cons]
    simp [h2]
theorem dg_names {is : List Nat} {k : Nat} (hc : X.calm = true) (hN : X.N.Nodup) (h : NamesAt X es is) : DG X (.Tuple es k pos) (gNames is) :=
  (pg_tup hc (pgs_names hN h) (names_each h).1 (names_each h).2).weak fun v σ H Q ⟨ι, δ, S, d, rs, re, rv, δ', ed, q⟩ => by
    unfold gNames at ed
    split at ed
    · rename_i ds
      split at ed
      · rename_i hl
        cases ed
        cases rv with
        | @tup a xs _ h1 h2 => exact ⟨a, xs, rfl, h1.sq, by rw [h2.length]; exact hl, ι, δ, S, ds, rs, re, h2, hl, q⟩
      · cases ed
    · cases ed
noncomputable def sAsg (fe : Fd) (g : Fg) : Fs := fun δ S => (fe δ S).toS δ fun d S1 => match g d δ S1 with
  | some δ1 => .next δ1 S1
  | none => .fail
theorem ds_asg {tg : Expr} {g : Fg} (he : DE X E e fe) (hg : DG X tg g) (hs : swapsWithSole [tg] e pos.line X.env = pure false) (hw : swappedStores [tg] e X.env = pure none) (h1 : (assignEach [tg] X.env).map (·.2) = [assign tg X.env]) : DS X E (.Assign [tg] e pos) (sAsg fe g) :=
  (ps_asg he hg hs hw h1).weak fun D σ H ⟨ι, δ, S, rs, re, q⟩ => tOf.step rs re (PostS.toS q re) fun ι1 H1 S1 d v x1 r1 re1 p1 rv1 => by
    cases ed : g d δ S1 with
    | none => rw [ed] at p1; exact p1.elim
    | some δ1 =>
      rw [ed] at p1
      exact ⟨ι1, δ, S1, d, r1, re1, rv1, δ1, ed, fun σ' r => p1 ι1 H1 σ' (.refl _ _) r1 r⟩
theorem pe_callS0 {k : Nat} {ps : List Str} {sp : Sp} {x : Str} {p : Pos} (h : Has X.prog X.w X.K X.mg X.base k x ps sp) (hr : Room k X.A) (hg : Gl X x) (hx : PassS (CXE X.prog X.w) X E) (hdb : (x == ("__debug__" : Str)) = false) : PE X (.Call (.Name x p) [] [] pos) (tCallS sp [] E tNil) := by
  obtain ⟨f, fd, h1, h2, h3, h4⟩ := h
  intro pins s σ H Q I h
  refine wpAny_Call_Name_kw (ld_glob I hg h1 ?_ hdb)
  exact PySem.W.callWith_K0 I.kIn h2 (run_fnS (us := []) h4 hr h3 .nil hx I .nil h)
theorem de_call0 {k : Nat} {x : Str} {p : Pos} {F : List D → Sto → R D} (h : Has X.prog X.w X.K X.mg X.base k x [] (spOf X.mo 0 F)) (hr : Room k X.A) (hg : Gl X x) (hx : PassS (CXE X.prog X.w) X E) (hdb : (x == ("__debug__" : Str)) = false) :
    DE X E (.Call (.Name x p) [] [] pos) (fCall F aNil) :=
  (pe_callS0 h hr hg hx hdb).weak fun σ H Q ⟨ι, δ, S, rs, re, q⟩ => ⟨rfl, ι, [], S, rs, .nil, q⟩
inductive Mt where
  | append | clear | pop | reverse | extend
noncomputable def isLstR (o : D) (S : Sto) : Bool := match o with
  | .ref n => match S[n]? with
    | some (.lst _) => true
    | _ => false
  | _ => false
noncomputable def mtD (m : Mt) (o : D) (ds : List D) (S : Sto) : R D := match o with
  | .ref n => match S[n]? with
    | some (.lst xs) => match m, ds with
      | .append, [d] => if xs.length < lim then .ok .non (S.set n (.lst (xs ++ [d]))) else .fail
      | .clear, [] => .ok .non (S.set n (.lst []))
      | .reverse, [] => .ok .non (S.set n (.lst xs.reverse))
      | .pop, [] => match xs[xs.length - 1]? with
        | some y => .ok y (S.set n (.lst xs.dropLast))
        | none => .fail
      | .pop, [.int i] => if -(2 ^ 63) ≤ i ∧ i < 2 ^ 63 then (match seqIndex? i xs.length with
        | some k => match xs[k]? with
          | some y => .ok y (S.set n (.lst (xs.eraseIdx k)))
          | none => .fail
        | none => .fail) else .fail
      | .extend, [.ref m] => match S[m]? with
        | some (.lst zs) => if xs.length + zs.length ≤ lim then .ok .non (S.set n (.lst (xs ++ zs))) else .fail
        | _ => .fail
      | _, _ => .fail
    | _ => .fail
  | _ => .fail
noncomputable def fMt (m : Mt) (fo : Fd) (fa : Fa) : Fd := fun δ S => (fo δ S).bind fun o S1 => if isLstR o S1 = true then (fa δ S1).bind fun ds S2 => mtD m o ds S2 else .fail
theorem RDs.reverse' {M : Mo} {ι : List Addr} {H : Hp} : ∀ {vs : List V} {ds : List D}, RDs M ι H vs ds → RDs M ι H vs.reverse ds.reverse
  | _, _, .nil => .nil
  | _, _, .cons h t => by
    rw [List.reverse_cons, List.reverse_cons]
    exact (RDs.reverse' t).append (.cons h .nil)
theorem RDs.dropLast' {M : Mo} {ι : List Addr} {H : Hp} : ∀ {vs : List V} {ds : List D}, RDs M ι H vs ds → RDs M ι H vs.dropLast ds.dropLast
  | _, _, .nil => .nil
  | _, _, .cons h .nil => .nil
  | _, _, .cons h (.cons h' t) => .cons h (RDs.dropLast' (.cons h' t))
theorem RDs.erase {M : Mo} {ι : List Addr} {H : Hp} : ∀ {vs : List V} {ds : List D} (k : Nat), RDs M ι H vs ds → RDs M ι H (vs.eraseIdx k) (ds.eraseIdx k)
  | _, _, _, .nil => by simp only [List.eraseIdx_nil]; exact .nil
  | _, _, 0, .cons h t => t
  | _, _, k + 1, .cons h t => .cons h (RDs.erase k t)
noncomputable def rMt : Mt → V → List V → Hp → VK → Prop
  | .append => rAppend
  | .clear => rClear
  | .reverse => rReverse
  | .pop => fun x xs H Q => rPop x xs H Q ∨ rPopAt x xs H Q
  | .extend => rExtend
theorem p_mt {m : Mt} {ι : List Addr} {H : Hp} {S : Sto} {od : D} {v : V} {vs : List V} {ds : List D} {Q : VK} {E' : Value → Hp → Prop} (rs : RelS X.mo ι H S) (ro : RD X.mo ι H v od) (rv : RDs X.mo ι H vs ds)
    (p : Post X.mo ι H (mtD m od ds S) (fun ι' H' _ d => ∀ v, RD X.mo ι' H' v d → Q v H') E') : rMt m v vs H Q := by
  unfold mtD at p
  split at p
  · rename_i n
    cases ro with
    | @ref a n ha =>
    split at p
    · rename_i xs hx
      obtain ⟨us, hl, rl⟩ := rs.lst ha hx
      have ln : us.length = xs.length := rl.length
      split at p
      · obtain ⟨y, rfl, ry⟩ := rv.one
        split at p
        · rename_i hz
          obtain ⟨e1, e2⟩ := rs.lput ha hl (rl.append (.cons ry .nil))
          exact ⟨a, us, y, rfl, rfl, hl, by rw [ln]; exact Nat.lt_of_lt_of_le hz lim_line, p ι _ e1 e2 _ .non⟩
        · exact p.elim
      · cases rv
        obtain ⟨e1, e2⟩ := rs.lput ha hl (RDs.nil)
        exact ⟨a, us, rfl, rfl, hl, p ι _ e1 e2 _ .non⟩
      · cases rv
        obtain ⟨e1, e2⟩ := rs.lput ha hl rl.reverse'
        exact ⟨a, us, rfl, rfl, hl, p ι _ e1 e2 _ .non⟩
      · cases rv
        split at p
        · rename_i y hy
          obtain ⟨u, h1, h2⟩ := rl.get hy
          obtain ⟨e1, e2⟩ := rs.lput ha hl rl.dropLast'
          exact .inl ⟨a, us, u, rfl, rfl, hl, by rw [ln]; exact h1, p ι _ e1 e2 _ (h2.ext e1)⟩
        · exact p.elim
      · obtain ⟨y, rfl, ry⟩ := rv.one
        cases ry
        split at p
        · rename_i hz
          split at p
          · rename_i k hk
            split at p
            · rename_i y hy
              obtain ⟨u, h1, h2⟩ := rl.get hy
              obtain ⟨e1, e2⟩ := rs.lput ha hl (RDs.erase k rl)
              exact .inr ⟨a, us, _, k, u, rfl, rfl, hl, hz.1, hz.2, by rw [ln]; exact hk, h1, p ι _ e1 e2 _ (h2.ext e1)⟩
            · exact p.elim
          · exact p.elim
        · exact p.elim
      · obtain ⟨y, rfl, ry⟩ := rv.one
        cases ry with
        | @ref b m hb =>
        split at p
        · rename_i zs hz
          split at p
          · rename_i hle
            obtain ⟨ws, hl2, rl2⟩ := rs.lst hb hz
            obtain ⟨e1, e2⟩ := rs.lput ha hl (rl.append rl2)
            exact ⟨a, b, us, ws, rfl, rfl, hl, hl2, by rw [ln, rl2.length]; exact Nat.le_trans hle lim_line, p ι _ e1 e2 _ .non⟩
          · exact p.elim
        · exact p.elim
      · exact p.elim
    · exact p.elim
  · exact p.elim
theorem isLstR_ty {ι : List Addr} {H : Hp} {S : Sto} {v : V} {d : D} (rs : RelS X.mo ι H S) (r : RD X.mo ι H v d) (h : isLstR d S = true) : tyV X.K "list" v H := by
  unfold isLstR at h
  split at h
  · rename_i n
    split at h
    · rename_i xs hx
      cases r with
      | @ref a n ha =>
        obtain ⟨vs, hl, _⟩ := rs.lst ha hx
        exact .inl ⟨rfl, vs, SqL.of hl⟩
    · cases h
  · cases h
theorem de_mt {m : Mt} {name : Str} {id : String} {apos cpos : Pos} (slot : Slot "list" name id) (hty : typeOf (.builtin id) = pure (.type "method_descriptor")) (hm : MtR X id (rMt m)) (ho : DE X E o fo) (ha : DA X E (e :: es) fa)
    (hbase : attributeBase o name X.env (eval o X.env) = eval o X.env)
    (hfew : ((backTo cpos (starEach (e :: es) X.env)).all (fun x => !x.1) && (backToKw cpos (keywordEach [] X.env)).all (fun x => x.1.isSome)
      && decide ((e :: es).length + ([] : List Keyword).length + (if ([] : List Keyword).isEmpty then 0 else 1) < 30)) = true)
    (hline : (apos.endLine == cpos.line) = true) (hs : starEach (e :: es) X.env = (false, eval e X.env) :: starEach es X.env) (hplain : (backTo cpos (starEach es X.env)).any (·.1) = false) :
    DE X E (.Call (.Attribute o name apos) (e :: es) [] cpos) (fMt m fo fa) :=
  (pe_bm PySem.F.plainAttrs_list slot hty hm ho ha hbase hfew hline hs hplain).weak fun σ H Q ⟨ι, δ, S, rs, re, q⟩ => tOf.step rs re (Post.bind q) fun ι1 H1 S1 d v x1 r1 re1 p1 rv1 => by
    by_cases hk : isLstR d S1 = true
    · rw [if_pos hk] at p1
      exact ⟨isLstR_ty r1 rv1 hk, aOf.step r1 re1 (Post.bind p1) fun ι2 H2 S2 ds vs x2 r2 re2 p2 rv2 => p_mt r2 (rv1.ext x2) rv2 p2⟩
    · rw [if_neg hk] at p1
      exact p1.elim
theorem de_mt0 {m : Mt} {name : Str} {id : String} {apos cpos : Pos} (slot : Slot "list" name id) (hty : typeOf (.builtin id) = pure (.type "method_descriptor")) (hm : MtR X id (rMt m)) (ho : DE X E o fo)
    (hbase : attributeBase o name X.env (eval o X.env) = eval o X.env) (hline : (apos.endLine == cpos.line) = true) : DE X E (.Call (.Attribute o name apos) [] [] cpos) (fMt m fo aNil) :=
  (pe_bm0 PySem.F.plainAttrs_list slot hty hm ho hbase hline).weak fun σ H Q ⟨ι, δ, S, rs, re, q⟩ => tOf.step rs re (Post.bind q) fun ι1 H1 S1 d v x1 r1 re1 p1 rv1 => by
    by_cases hk : isLstR d S1 = true
    · rw [if_pos hk] at p1
      exact ⟨isLstR_ty r1 rv1 hk, p_mt r1 rv1 .nil p1⟩
    · rw [if_neg hk] at p1
      exact p1.elim
theorem mt_popB : MtR X "list.pop" (rMt .pop) := MtR.or (r := rPop) (r' := rPopAt) mt_pop mt_popAt
end
section
variable {M : Mo} {ι : List Addr} {H : Hp} {S : Sto}
theorem RFs.lookup {f : Str} : ∀ {vs : List (Str × V)} {ds : List (Str × D)} {d : D}, RFs M ι H vs ds → ds.lookup f = some d → ∃ v, vs.lookup f = some v ∧ RD M ι H v d
  | _, _, _, .nil, h => by cases h
  | _, _, _, .cons (f := g) r t, h => by
    rw [List.lookup_cons] at h ⊢
    cases e : f == g with
    | true => rw [e] at h; cases h; exact ⟨_, rfl, r⟩
    | false => rw [e] at h; exact RFs.lookup t h
theorem RFs.lookup_none {f : Str} : ∀ {vs : List (Str × V)} {ds : List (Str × D)}, RFs M ι H vs ds → ds.lookup f = none → vs.lookup f = none
  | _, _, .nil, _ => rfl
  | _, _, .cons (f := g) r t, h => by
    rw [List.lookup_cons] at h ⊢
    cases e : f == g with
    | true => rw [e] at h; cases h
    | false => rw [e] at h; exact RFs.lookup_none t h
theorem RFs.length : ∀ {vs : List (Str × V)} {ds : List (Str × D)}, RFs M ι H vs ds → vs.length = ds.length
  | _, _, .nil => rfl
  | _, _, .cons _ t => congrArg (· + 1) t.length
noncomputable def putD (f : Str) (d : D) : List (Str × D) → List (Str × D)
  | [] => [(f, d)]
  | (g, x) :: r => if g = f then (g, d) :: r else (g, x) :: putD f d r
theorem RFs.put {f : Str} {v : V} {d : D} (r : RD M ι H v d) : ∀ {vs : List (Str × V)} {ds : List (Str × D)}, RFs M ι H vs ds → RFs M ι H (putF f v vs) (putD f d ds)
  | _, _, .nil => .cons r .nil
  | _, _, .cons (f := g) (v := x) (d := y) (vs := vs) (ds := ds) h t => by
    show RFs M ι H (if g = f then (g, v) :: vs else (g, x) :: putF f v vs) (if g = f then (g, d) :: ds else (g, y) :: putD f d ds)
    by_cases e : g = f
    · rw [if_pos e, if_pos e]
      exact .cons r t
    · rw [if_neg e, if_neg e]
      exact .cons h (RFs.put r t)
end
section
variable {X : Cx} {E : St → XK} {pos : Pos} {e o i : Expr} {es : List Expr} {fe fo fi : Fd} {fa : Fa} {G : Glo}
noncomputable def fldD (G : Glo) (f : Str) (o : D) (S : Sto) : R D := match o with
  | .ref n => match S[n]? with
    | some (.ins C fs) => if G.ins C = true ∧ G.fld C f = true then (match fs.lookup f with
      | some d => .ok d S
      | none => .fail) else .fail
    | _ => .fail
  | _ => .fail
noncomputable def fFld (G : Glo) (f : Str) (fo : Fd) : Fd := fun δ S => (fo δ S).bind fun o S1 => fldD G f o S1
theorem RelS.ins {M : Mo} {ι : List Addr} {H : Hp} {S : Sto} {n : Nat} {a : Addr} {C : Str} {fs : List (Str × D)} (h : RelS M ι H S) (ha : ι[n]? = some a) (e : S[n]? = some (.ins C fs)) : ∃ Ca dx vs, M.mg C = some (.ref Ca) ∧ H a = some (.ins Ca dx vs) ∧ RFs M ι H vs fs := h.obj n a _ ha e
noncomputable def setFD (G : Glo) (f : Str) (o d : D) (S : Sto) : Option Sto := match o with
  | .ref n => match S[n]? with
    | some (.ins C fs) => if G.ins C = true ∧ G.fld C f = true ∧ fs.length < 1000 then some (S.set n (.ins C (putD f d fs))) else none
    | _ => none
  | _ => none
noncomputable def sFldD (G : Glo) (f : Str) (fo fe : Fd) : Fs := fun δ S => (fe δ S).toS δ fun d S1 => (fo δ S1).toS δ fun o S2 => match setFD G f o d S2 with
  | some S3 => .next δ S3
  | none => .fail
end
noncomputable def noDot (x : Str) : Bool := !(x.cps.toList.contains 46)
structure AtG (M : Mo) (G : Glo) (x : Str) (f : Addr) : Prop where
  top : noDot x = true → M.mg x = some (.ref f)
  mth : ∀ C m k, G.mth C m = some (x, k) → ∃ Ca, M.mg C = some (.ref Ca) ∧ Meth M.K Ca m f
  ini : ∀ C k, G.ini C = some (some (x, k)) → ∃ Ca, M.mg C = some (.ref Ca) ∧ Mk M.K Ca f
noncomputable def BindsA (M : Mo) (fd : FuncData) (ps : List Str) (df : List D) : Prop := ∀ k, k ≤ df.length → ∃ (dvs : List V) (ds : List Value), Vals dvs ds ∧ (∀ ι H, RDs M ι H dvs (df.drop k)) ∧ Binds M.K fd ps ds
theorem BindsA.full {M : Mo} {fd : FuncData} {ps : List Str} {df : List D} (h : BindsA M fd ps df) : Binds M.K fd ps [] := by
  obtain ⟨dvs, ds, h1, h2, h3⟩ := h df.length (Nat.le_refl _)
  have r := h2 [] (fun _ => none)
  rw [List.drop_length] at r
  cases r
  cases h1
  exact h3
theorem BindsA.nil {M : Mo} {fd : FuncData} {ps : List Str} {df : List D} (h : Binds M.K fd ps []) (e : df = []) : BindsA M fd ps df := by
  subst e
  intro k hk
  exact ⟨[], [], .nil, fun ι H => by rw [List.drop_nil]; exact .nil, h⟩
noncomputable def HasA (P : Program) (w : World) (M : Mo) (G : Glo) (base : Heap) (k : Nat) (x : Str) (ps : List Str) (sp : Sp) : Prop :=
  ∃ f fd, AtG M G x f ∧ PySem.W.keepIn M.K (.ref f) = true ∧ BindsA M fd ps (G.dfl x) ∧ FnOk P w M.K M.mg base (CXE P w) k f fd ps sp
theorem HasA.top {P : Program} {w : World} {M : Mo} {G : Glo} {base : Heap} {k : Nat} {x : Str} {ps : List Str} {sp : Sp} (h : HasA P w M G base k x ps sp) (n : noDot x = true) : Has P w M.K M.mg base k x ps sp := by
  obtain ⟨f, fd, h1, h2, h3, h4⟩ := h
  exact ⟨f, fd, h1.top n, h2, h3.full, h4⟩
section
variable {X : Cx} {E : St → XK} {pos apos : Pos} {e o : Expr} {es : List Expr} {fo : Fd} {fa : Fa} {G : Glo} {Φ : Str → List D → Sto → R D}
noncomputable def tMethD (X : Cx) (m : Str) (E : St → XK) (ta : TE) (t : TA) : TE := fun σ H Q => ta σ H fun x H1 => ∃ a C dx fs k f fd ps sp, x = .ref a ∧ H1 a = some (.ins C dx fs) ∧ Cls X.K C ∧ Meth X.K C m f ∧ FnOk X.prog X.w X.K X.mg X.base (CXE X.prog X.w) k f fd ps sp ∧ Room k X.A ∧ Binds X.K fd ps [] ∧
  fs.lookup m = none ∧ t σ H1 fun vs H2 => sp (x :: vs) H2 Q (E σ)
theorem pe_methD {m : Str} {ta : TE} {t : TA} {pl : Sem Bool} (he : PE X o ta) (hx : PassS (CXE X.prog X.w) X E) (ha : PA X (e :: es) t)
    (hst : starEach (e :: es) X.env = (false, eval e X.env) :: starEach es X.env) (hpl : (backTo pos (starEach es X.env)).any (·.1) = false)
    (ht : eval (.Call (.Attribute o m apos) (e :: es) [] pos) X.env = (do
      let ov ← eval o X.env
      standAt apos.atName
      let (f, first) ← holding [ov] (getMethod ov m pl)
      callWith pos f first (backTo pos (starEach (e :: es) X.env)) (backToKw pos (keywordEach [] X.env)))) :
    PE X (.Call (.Attribute o m apos) (e :: es) [] pos) (tMethD X m E ta t) := by
  intro pins s σ H Q I h
  refine PySem.W.methodCall_KW (pl := pl) (thn (he pins s σ H _ I h) fun u s1 hh => ?_) ht
  obtain ⟨x, H1, I1, rx, a, C, dx, fs, k, f, fd, ps, sp, ex, ea, c, hm, F, hr, hb, l, q⟩ := hh
  subst ex
  obtain rfl : u = Value.ref a := rx
  refine getmeth_ok I1 ea c hm l ?_
  refine PySem.W.callWith_K (first := [.ref a]) (h₀ := X.base) I.ok.mod.kin hm.kp (thn (ha pos pins s1 σ H1 _ I1 q) fun us s2 ⟨vs, H2, I2, r, q2⟩ => ⟨I2.kIn, ?_⟩) hst hpl
  exact run_fnS (us := .ref a :: us) (vs := .ref a :: vs) F hr hb .nil hx I2 (.cons rfl r) (by rw [List.append_nil]; exact q2)
theorem pe_methD0 {m : Str} {ta : TE} {pl : Sem Bool} (he : PE X o ta) (hx : PassS (CXE X.prog X.w) X E)
    (ht : eval (.Call (.Attribute o m apos) [] [] pos) X.env = (do
      let ov ← eval o X.env
      standAt apos.atName
      let (f, first) ← holding [ov] (getMethod ov m pl)
      callWith pos f first (backTo pos (starEach [] X.env)) (backToKw pos (keywordEach [] X.env)))) :
    PE X (.Call (.Attribute o m apos) [] [] pos) (tMethD X m E ta tNil) := by
  intro pins s σ H Q I h
  refine PySem.W.methodCall_KW (pl := pl) (thn (he pins s σ H _ I h) fun u s1 hh => ?_) ht
  obtain ⟨x, H1, I1, rx, a, C, dx, fs, k, f, fd, ps, sp, ex, ea, c, hm, F, hr, hb, l, q⟩ := hh
  subst ex
  obtain rfl : u = Value.ref a := rx
  refine getmeth_ok I1 ea c hm l ?_
  exact PySem.W.callWith_K0 (first := [.ref a]) I1.kIn hm.kp (run_fnS (us := [.ref a]) (vs := [.ref a]) F hr hb .nil hx I1 (.cons rfl .nil) q)
noncomputable def fMeth (G : Glo) (Φ : Str → List D → Sto → R D) (m : Str) (fo : Fd) (fa : Fa) : Fd := fun δ S => (fo δ S).bind fun o S1 => match o with
  | .ref n => match S1[n]? with
    | some (.ins C fs) => match G.mth C m with
      | some (x, k) => if G.ins C = true ∧ fs.lookup m = none then (fa δ S1).bind fun ds S2 => if ds.length + 1 = k then Φ x (o :: ds) S2 else .fail else .fail
      | none => .fail
    | _ => .fail
  | _ => .fail
theorem meth_of {m : Str} {ι : List Addr} {H : Hp} {S : Sto} {δ : Dv} {σ : St} {d : D} {v : V} {Q : VK} {t : TA} (g : GOk X.mo G) (hΦ : ∀ C m x k, G.mth C m = some (x, k) → ∃ ps n, ps.length = k ∧ HasA X.prog X.w X.mo G X.base n x ps (spOf X.mo k (Φ x)) ∧ Room n X.A)
    (rs : RelS X.mo ι H S) (re : RelE X.mo ι H X.N.length σ δ) (rv : RD X.mo ι H v d) (ht : ∀ {σ H Q}, aOf X.mo X.N.length E fa σ H Q → t σ H Q)
    (p : Post X.mo ι H (match d with
      | .ref n => match S[n]? with
        | some (.ins C fs) => match G.mth C m with
          | some (x, k) => if G.ins C = true ∧ fs.lookup m = none then (fa δ S).bind fun ds S2 => if ds.length + 1 = k then Φ x (d :: ds) S2 else .fail else .fail
          | none => .fail
        | _ => .fail
      | _ => .fail) (fun ι' H' _ d => ∀ v, RD X.mo ι' H' v d → Q v H') (fun C H' => E σ C none H')) :
    ∃ a C dx fs k f fd ps sp, v = .ref a ∧ H a = some (.ins C dx fs) ∧ Cls X.K C ∧ Meth X.K C m f ∧ FnOk X.prog X.w X.K X.mg X.base (CXE X.prog X.w) k f fd ps sp ∧ Room k X.A ∧ Binds X.K fd ps [] ∧ fs.lookup m = none ∧ t σ H fun vs H2 => sp (v :: vs) H2 Q (E σ) := by
  split at p
  · rename_i n
    split at p
    · rename_i C fs hx
      split at p
      · rename_i x k hm
        split at p
        · rename_i hk
          cases rv with
          | @ref a n ha =>
            obtain ⟨Ca, dx, vs, mm, hi, rf⟩ := rs.ins ha hx
            obtain ⟨Cb, m', c, _⟩ := g.ins C hk.1
            cases mm.symm.trans m'
            obtain ⟨ps, j, hl, ⟨f, fd, h1, h2, h3, h4⟩, hr⟩ := hΦ C m x k hm
            obtain ⟨Cc, m'', me⟩ := h1.mth C m k hm
            cases mm.symm.trans m''
            refine ⟨a, Ca, dx, vs, j, f, fd, ps, _, rfl, hi, c, me, h4, hr, h3.full, rf.lookup_none hk.2, ht ?_⟩
            refine aOf.step rs re (Post.bind p) fun ι1 H1 S1 ds us x1 r1 re1 p1 rv1 => ?_
            split at p1
            · rename_i hlen
              exact ⟨by show us.length + 1 = k; rw [rv1.length]; exact hlen, ι1, .ref n :: ds, S1, r1, .cons (.ref (x1.pre _ _ ha)) rv1, p1⟩
            · exact p1.elim
        · exact p.elim
      · exact p.elim
    · exact p.elim
  · exact p.elim
theorem de_meth {m : Str} {pl : Sem Bool} (g : GOk X.mo G) (hΦ : ∀ C m x k, G.mth C m = some (x, k) → ∃ ps n, ps.length = k ∧ HasA X.prog X.w X.mo G X.base n x ps (spOf X.mo k (Φ x)) ∧ Room n X.A) (hx : PassS (CXE X.prog X.w) X E) (ho : DE X E o fo) (ha : DA X E (e :: es) fa)
    (hst : starEach (e :: es) X.env = (false, eval e X.env) :: starEach es X.env) (hpl : (backTo pos (starEach es X.env)).any (·.1) = false)
    (ht : eval (.Call (.Attribute o m apos) (e :: es) [] pos) X.env = (do
      let ov ← eval o X.env
      standAt apos.atName
      let (f, first) ← holding [ov] (getMethod ov m pl)
      callWith pos f first (backTo pos (starEach (e :: es) X.env)) (backToKw pos (keywordEach [] X.env)))) : DE X E (.Call (.Attribute o m apos) (e :: es) [] pos) (fMeth G Φ m fo fa) :=
  (pe_methD ho hx ha hst hpl ht).weak fun σ H Q ⟨ι, δ, S, rs, re, q⟩ => tOf.step rs re (Post.bind q) fun ι1 H1 S1 d v x1 r1 re1 p1 rv1 => meth_of g hΦ r1 re1 rv1 (fun z => z) p1
theorem de_meth0 {m : Str} {pl : Sem Bool} (g : GOk X.mo G) (hΦ : ∀ C m x k, G.mth C m = some (x, k) → ∃ ps n, ps.length = k ∧ HasA X.prog X.w X.mo G X.base n x ps (spOf X.mo k (Φ x)) ∧ Room n X.A) (hx : PassS (CXE X.prog X.w) X E) (ho : DE X E o fo)
    (ht : eval (.Call (.Attribute o m apos) [] [] pos) X.env = (do
      let ov ← eval o X.env
      standAt apos.atName
      let (f, first) ← holding [ov] (getMethod ov m pl)
      callWith pos f first (backTo pos (starEach [] X.env)) (backToKw pos (keywordEach [] X.env)))) : DE X E (.Call (.Attribute o m apos) [] [] pos) (fMeth G Φ m fo aNil) :=
  (pe_methD0 ho hx ht).weak fun σ H Q ⟨ι, δ, S, rs, re, q⟩ => tOf.step rs re (Post.bind q) fun ι1 H1 S1 d v x1 r1 re1 p1 rv1 => meth_of g hΦ r1 re1 rv1 (fun ⟨ι, δ, S, rs, re, z⟩ => z ι _ (.refl _ _) rs _ .nil) p1
end
section
variable {X : Cx} {E : St → XK} {pos : Pos} {e : Expr} {es : List Expr} {fa : Fa} {G : Glo} {Φ : Str → List D → Sto → R D} {C f : Addr} {k : Nat} {fd : FuncData} {ps : List Str} {sp : Sp} {x : Str} {p : Pos} {t : TA}
noncomputable def tMakeS (C : Addr) (sp : Sp) (E : St → XK) (t : TA) : TE := fun σ H Q => t σ H fun vs H1 => ∀ x dx, H1 x = none → H1 dx = none → dx ≠ x →
  sp (.ref x :: vs) (upd (upd H1 dx (.own x)) x (.ins C dx [])) (fun v H2 => v = .non ∧ Q (.ref x) H2) (E σ)
theorem run_make0 {pins : List (Addr × Obj)} {σ : St} {H : Hp} {s : Shared} {Q : VK} (M : Mk0 X.K C) (I : Inv X pins σ H s)
    (h : ∀ x dx, H x = none → H dx = none → dx ≠ x → Q (.ref x) (upd (upd H dx (.own x)) x (.ins C dx []))) : wpAny (model X.prog X.w) X.A (call (.ref C) []) (EP X pins σ Q) X.xe s := by
  have hq := h (s.heap.objs.size + 1) s.heap.objs.size (I.hok.fresh (Nat.le_succ _)) (I.hok.fresh (Nat.le_refl _)) (Nat.ne_of_lt (Nat.lt_succ_self _))
  have I2 := Inv.made (C := C) I
  have Y := PySem.W.makes_of (M := model X.prog X.w) I.kIn M.makes
  have Li := PySem.W.looks_findIn (M := model X.prog X.w) I.kIn M.init
  obtain ⟨hh, g, d, tk, os⟩ := s
  have hx : ((hh.push PySem.W.emptyDict).push (PySem.W.instObj C hh.objs.size)).get? (hh.objs.size + 1) = some (PySem.W.instObj C hh.objs.size) := by
    have := Heap.get?_push_size (hh.push PySem.W.emptyDict) (o := PySem.W.instObj C hh.objs.size) rfl
    rwa [Heap.size_push] at this
  refine wpAny_call (PySem.W.make_core Y Li (fun self => PySem.W.Looks.of_pure (PySem.W.oi_bind self)) (.inr ⟨rfl, rfl⟩) ?_)
  have t1 : PySem.W.Looks (model X.prog X.w) ((hh.push PySem.W.emptyDict).push (PySem.W.instObj C hh.objs.size)) (typeOf (.ref (hh.objs.size + 1))) (.ref C) := (PySem.W.Looks.ld hx).andThen .now
  have t2 : PySem.W.Looks (model X.prog X.w) ((hh.push PySem.W.emptyDict).push (PySem.W.instObj C hh.objs.size)) (isInstance (.ref (hh.objs.size + 1)) (.type "object")) true := t1.andThen (Y.top.keeps fun b o e => Heap.get?_push_of_some _ (Heap.get?_push_of_some _ e))
  refine codeAny_call_builtin PySem.W.oi_plain PySem.W.entry_oi (@PySem.W.check_slot (model X.prog X.w) _ _ _ "object.__init__" "object" "__init__" (.ref (hh.objs.size + 1)) [] [] _ PySem.W.oi_kind PySem.W.oi_split t2 (PySem.W.oi_args (.ref (hh.objs.size + 1))) ?_)
  rw [PySem.W.oi_run]
  exact wpAny_pure (And.intro rfl ⟨V.ref (hh.objs.size + 1), _, I2, rfl, hq⟩)
theorem pe_makeN (M : Mk0 X.K C) (hg : Gl X x) (hm : X.mg x = some (.ref C)) (hdb : (x == ("__debug__" : Str)) = false) :
    PE X (.Call (.Name x p) [] [] pos) (fun _ H Q => ∀ x dx, H x = none → H dx = none → dx ≠ x → Q (.ref x) (upd (upd H dx (.own x)) x (.ins C dx []))) := by
  intro pins s σ H Q I h
  refine wpAny_Call_Name_kw (ld_glob I hg hm ?_ hdb)
  exact PySem.W.callWith_K0 I.kIn M.kp (run_make0 M I h)
theorem RelS.madeI {M : Mo} {ι : List Addr} {H : Hp} {S : Sto} {Cn : Str} {C x dx : Addr} (h : RelS M ι H S) (m : M.mg Cn = some (.ref C)) (hx : H x = none) (hd : H dx = none) (ne : dx ≠ x) :
    Ext ι H (ι ++ [x]) (upd (upd H dx (.own x)) x (.ins C dx [])) ∧ RelS M (ι ++ [x]) (upd (upd H dx (.own x)) x (.ins C dx [])) (S ++ [.ins Cn []]) := by
  have hx' : upd H dx (.own x) x = none := by rw [upd_ne (Ne.symm ne)]; exact hx
  have e1 : Ext ι H ι (upd H dx (.own x)) := Ext.laid hd
  exact ⟨e1.trans (Ext.made hx'), (h.laid hd).made hx' ⟨C, dx, [], m, upd_same, .nil⟩⟩
noncomputable def fMake (Φ : Str → List D → Sto → R D) (C : Str) (x : Str) (k : Nat) (fa : Fa) : Fd := fun δ S => (fa δ S).bind fun ds S1 => if ds.length + 1 = k then (Φ x (.ref S1.length :: ds) (S1 ++ [.ins C []])).bind fun r S2 => (match r with
  | .non => .ok (.ref S1.length) S2
  | _ => .fail) else .fail
noncomputable def fMake0 (C : Str) : Fd := fun _ S => .ok (.ref S.length) (S ++ [.ins C []])
theorem de_makeN {Cn : Str} {Ca : Addr} (m : X.mg Cn = some (.ref Ca)) (mk : Mk0 X.K Ca) (hg : Gl X Cn) (hdb : (Cn == ("__debug__" : Str)) = false) : DE X E (.Call (.Name Cn p) [] [] pos) (fMake0 Cn) :=
  (pe_makeN mk hg m hdb).weak fun σ H Q ⟨ι, δ, S, rs, re, q⟩ y dx hy hd ne => by
    obtain ⟨e1, r1⟩ := rs.madeI (Cn := Cn) m hy hd ne
    exact q _ _ e1 r1 _ (.ref (by rw [← rs.len]; exact getElem?_snoc ι y))
end
section
variable {X : Cx} {E : St → XK} {pos : Pos} {a b c d e : Expr} {fa fb fc fd : Fd}
noncomputable def fBad : Fd := fun _ _ => .fail
noncomputable def sBad : Fs := fun _ _ => .fail
theorem ds_bad {st : Stmt} : DS X E st sBad := fun _ _ _ _ _ _ ⟨_, _, _, _, _, p⟩ => p.elim
noncomputable def tChain3 (r r' r'' : R2) (ta tb tc td : TE) : TE := fun σ H Q => ta σ H fun x H1 => tb σ H1 fun y H2 => r x y H2 fun z H3 => ∃ k, z = .bl k ∧
  (if k = true then tc σ H3 fun w' H4 => r' y w' H4 fun z' H5 => ∃ k', z' = .bl k' ∧ (if k' = true then td σ H5 fun u' H6 => r'' w' u' H6 Q else Q (.bl false) H5) else Q (.bl false) H3)
noncomputable def fChain3 (g g' g'' : D → D → Sto → R D) (fa fb fc fd : Fd) : Fd := fun δ S => (fa δ S).bind fun x S1 => (fb δ S1).bind fun y S2 => (g x y S2).bind (isBl fun _ S3 k => if k = true then (fc δ S3).bind fun z S4 => (g' y z S4).bind (isBl fun _ S5 k' => if k' = true then (fd δ S5).bind fun w S6 => g'' z w S6 else .ok (.bl false) S5) else .ok (.bl false) S3)
noncomputable def cutD (xs : List D) (lo hi : Option Int) : List D := (xs.drop (HT.sIx xs.length 0 lo)).take (HT.sIx xs.length xs.length hi - HT.sIx xs.length 0 lo)
noncomputable abbrev rSlA (K : PySem.W.Frag) : V → Option Int → Option Int → Hp → VK → Prop := fun x lo hi H Q => rSlT K x lo hi H Q ∨ rSlL K x lo hi H Q
theorem sl_any : SlR X (rSlA X.K) := sl_tup.or sl_list
noncomputable def slD (lo hi : Option Int) (d : D) (S : Sto) : R D := match d with
  | .tup ds => if HT.sIx ds.length 0 lo = 0 ∧ HT.sIx ds.length ds.length hi = ds.length then .fail else mkTup (cutD ds lo hi) S
  | d => match lstD d S with
    | some ds => mkLst (cutD ds lo hi) S
    | none => .fail
theorem RDs.cut {M : Mo} {ι : List Addr} {H : Hp} {vs : List V} {ds : List D} (r : RDs M ι H vs ds) (lo hi : Option Int) : RDs M ι H (cutV vs lo hi) (cutD ds lo hi) := by
  unfold cutV cutD
  rw [r.length]
  exact (r.drop _).take _
theorem sl_of {lo hi : Option Int} {ι : List Addr} {H : Hp} {S : Sto} {v : V} {d : D} {Q : VK} {E' : Value → Hp → Prop} (rs : RelS X.mo ι H S) (r : RD X.mo ι H v d) (p : Post X.mo ι H (slD lo hi d S) (fun ι' H' _ d => ∀ v, RD X.mo ι' H' v d → Q v H') E') : rSlA X.K v lo hi H Q := by
  unfold slD at p
  split at p
  · split at p
    · exact p.elim
    · rename_i ds hn
      cases r with
      | @tup a vs _ h t => exact .inl ⟨a, vs, rfl, h.sq, by rw [t.length]; exact hn, (post_tup rs (t.cut lo hi) p).2⟩
  · split at p
    · rename_i ds hd
      obtain ⟨a, vs, rfl, h1, h2⟩ := lstD_is rs r hd
      exact .inr ⟨a, vs, rfl, h1, (post_lst rs (h2.cut lo hi) p).2⟩
    · exact p.elim
noncomputable def asI (f : Int → Sto → R α) (d : D) (S : Sto) : R α := match d with
  | .int i => f i S
  | _ => .fail
theorem Post.asI {α : Type} {M : Mo} {ι : List Addr} {H : Hp} {d : D} {v : V} {S : Sto} {f : Int → Sto → R α} {Q : List Addr → Hp → Sto → α → Prop} {E : Value → Hp → Prop} (p : Post M ι H (asI f d S) Q E) (r : RD M ι H v d) :
    ∃ i, v = .int i ∧ Post M ι H (f i S) Q E := by
  cases r with
  | int k => exact ⟨k, rfl, p⟩
  | _ => exact p.elim
noncomputable def fSlLo (fa fl : Fd) : Fd := fun δ S => (fa δ S).bind fun d S1 => (fl δ S1).bind (asI fun i S2 => slD (some i) none d S2)
noncomputable def fSlHi (fa fh : Fd) : Fd := fun δ S => (fa δ S).bind fun d S1 => (fh δ S1).bind (asI fun i S2 => slD none (some i) d S2)
noncomputable def fSl (fa fl fh : Fd) : Fd := fun δ S => (fa δ S).bind fun d S1 => (fl δ S1).bind (asI fun i S2 => (fh δ S2).bind (asI fun j S3 => slD (some i) (some j) d S3))
theorem de_slLo {p2 : Pos} (ha : DE X E a fa) (hb : DE X E b fb) : DE X E (.Subscript a (.Slice (some b) none none p2) pos) (fSlLo fa fb) :=
  (pe_slice sl_any ha (po_some hb) po_none).weak fun σ H Q ⟨ι, δ, S, rs, re, p⟩ => tOf.step rs re (Post.bind p) fun ι1 H1 S1 d v x1 r1 re1 p1 rv1 =>
    tOf.step r1 re1 (Post.bind p1) fun ι2 H2 S2 e u x2 r2 re2 p2 rv2 => by
      obtain ⟨i, rfl, q⟩ := Post.asI p2 rv2
      exact ⟨i, rfl, sl_of r2 (rv1.ext x2) q⟩
theorem de_slHi {p2 : Pos} (ha : DE X E a fa) (hb : DE X E b fb) : DE X E (.Subscript a (.Slice none (some b) none p2) pos) (fSlHi fa fb) :=
  (pe_slice sl_any ha po_none (po_some hb)).weak fun σ H Q ⟨ι, δ, S, rs, re, p⟩ => tOf.step rs re (Post.bind p) fun ι1 H1 S1 d v x1 r1 re1 p1 rv1 =>
    tOf.step r1 re1 (Post.bind p1) fun ι2 H2 S2 e u x2 r2 re2 p2 rv2 => by
      obtain ⟨i, rfl, q⟩ := Post.asI p2 rv2
      exact ⟨i, rfl, sl_of r2 (rv1.ext x2) q⟩
theorem de_sl {p2 : Pos} (ha : DE X E a fa) (hb : DE X E b fb) (hc : DE X E c fc) : DE X E (.Subscript a (.Slice (some b) (some c) none p2) pos) (fSl fa fb fc) :=
  (pe_slice sl_any ha (po_some hb) (po_some hc)).weak fun σ H Q ⟨ι, δ, S, rs, re, p⟩ => tOf.step rs re (Post.bind p) fun ι1 H1 S1 d v x1 r1 re1 p1 rv1 =>
    tOf.step r1 re1 (Post.bind p1) fun ι2 H2 S2 e u x2 r2 re2 p2 rv2 => by
      obtain ⟨i, rfl, q⟩ := Post.asI p2 rv2
      refine ⟨i, rfl, tOf.step r2 re2 (Post.bind q) fun ι3 H3 S3 e' u' x3 r3 re3 p3 rv3 => ?_⟩
      obtain ⟨j, rfl, q'⟩ := Post.asI p3 rv3
      exact ⟨j, rfl, sl_of r3 ((rv1.ext x2).ext x3) q'⟩
noncomputable def toV : D → V
  | .non => .non
  | .bl b => .bl b
  | .int i => .int i
  | .str x => .str x
  | _ => .non
noncomputable def flatD : D → Bool
  | .non => true
  | .bl _ => true
  | .int _ => true
  | .str _ => true
  | _ => false
noncomputable abbrev rInF (K : PySem.W.Frag) (neg : Bool) : R2 := rIn K neg
theorem op_inF (_ : X.A.units + 64 < cLine) : OpR X (compareOp .In) (rInF X.K false) := op_in_seq
theorem op_notInF (_ : X.A.units + 64 < cLine) : OpR X (compareOp .NotIn) (rInF X.K true) := op_notIn_seq
noncomputable def memD (neg : Bool) (x y : D) (S : Sto) : R D := match seqD y S with
  | some ds => if flatD x = true ∧ ds.all flatD = true then .ok (.bl (if neg then !inV (toV x) (ds.map toV) else inV (toV x) (ds.map toV))) S else
    .fail
  | none => .fail
theorem flat_is {M : Mo} {ι : List Addr} {H : Hp} {v : V} {d : D} (r : RD M ι H v d) (h : flatD d = true) : v = toV d ∧ flatV v = true := by
  cases r <;> first | exact ⟨rfl, rfl⟩ | cases h
theorem flats_is {M : Mo} {ι : List Addr} {H : Hp} : ∀ {vs : List V} {ds : List D}, RDs M ι H vs ds → ds.all flatD = true → vs = ds.map toV ∧ vs.all flatV = true
  | _, _, .nil, _ => ⟨rfl, rfl⟩
  | _, _, .cons r rs, h => by
    rw [List.all_cons, Bool.and_eq_true] at h
    obtain ⟨e1, f1⟩ := flat_is r h.1
    obtain ⟨e2, f2⟩ := flats_is rs h.2
    exact ⟨by rw [List.map_cons, ← e1, ← e2], by rw [List.all_cons, f1, f2]; rfl⟩
theorem p_mem {neg : Bool} : Prim2 X (rInF X.K neg) (memD neg) := by
  intro ι H S x y d e Q E rs rx ry p
  unfold memD at p
  split at p
  · rename_i ds hd
    split at p
    · rename_i hf
      obtain ⟨a, vs, rfl, h1, h2⟩ := seqD_is rs ry hd
      obtain ⟨e1, f1⟩ := flat_is rx hf.1
      obtain ⟨e2, f2⟩ := flats_is h2 hf.2
      refine ⟨a, vs, rfl, h1.imp id SqU.sq, f1, f2, ?_⟩
      rw [e1, e2]
      exact p ι H (.refl ι H) rs _ (.bl _)
    · exact p.elim
  · exact p.elim
noncomputable def isD (f : Bool → Bool) (x y : D) (S : Sto) : R D := match x, y with
  | .bl a, .bl b => .ok (.bl (f (a == b))) S
  | _, _ => .fail
noncomputable def rIsB (f : Bool → Bool) : R2 := fun x y H Q => ∃ a b, x = .bl a ∧ y = .bl b ∧ Q (.bl (f (a == b))) H
end
section
variable {prog : Program} {w : World} {A : Around} {E : Value → Shared → Prop} {s : Shared} {it d : Addr} {i ep : Nat} {od : Obj} {es : Array DictEntry} {Q : Option Value → Shared → Prop}
theorem raw_turn (calm : A.handled = none) (ki : s.heap.IsKeyIter it d i es.size ep) (dget : s.heap.get? d = some od) (ddat : od.data = .dict es ep)
    (item : ∀ (hi : i < es.size) (h' : Heap), h'.IsKeyIter it d (i + 1) es.size ep → Heap.SameBut it s.heap h' → Q (some es[i].key) { s with heap := h' })
    (stop : es.size ≤ i → ∀ h' : Heap, Heap.ExtBut it s.heap h' → Q none { s with heap := h' }) : wpAny (model prog w) A (pyNext (.ref it)) Q E s := by
  obtain ⟨io, iget, icls, idat⟩ := id ki
  have ty := ki.typeIs
  have tk := PySem.F.slot_dict_keyiterator_next
  have nn : ¬ ((i : Int) < 0) := by omega
  unfold pyNext
  refine wpAny_bind (wpAny_attempt (wpAny_callSpecial?_slot (name := Str.ofString "__next__") ty tk (wpAny_call_entry tk ty PySem.F.entry_dict_keyiterator_next ?_ (PySem.F.args_dict_keyiterator_next_1 _))))
  refine wpAny_bind (wpAny_pure (wpAny_bind (wpAny_bind ?_)))
  first | refine wpAny_bind (wpAny_typeNameOfWhole_keyiter ty (wpAny_pure (wpAny_bind (wpAny_fieldsOf iget idat ?_)))) | refine wpAny_bind (wpAny_typeNameOf_keyiter ty (wpAny_pure (wpAny_bind (wpAny_fieldsOf iget idat ?_))))
  simp only [show Builtin.Dict_items.ownsTuple "dict_keyiterator" = false from by decide, Bool.false_eq_true, if_false]; show wpAny _ _ (if (Value.ref d == Value.none) = true then _ else _) _ _ s
  rw [if_neg (show ¬ (Value.ref d == Value.none) = true from Bool.false_ne_true)]; refine wpAny_bind (wpAny_pure (wpAny_bind (wpAny_dictEntries dget ddat ?_)))
  rw [if_neg (show ¬ _ by simp)]; refine wpAny_bind (wpAny_pure (wpAny_bind (wpAny_dictEpoch dget ddat ?_)))
  rw [if_neg (show ¬ _ by simp)]; refine wpAny_pure ?_
  by_cases hi : i < es.size
  · simp only [nn, if_false, Int.toNat_natCast, Array.getElem?_eq_getElem hi]
    refine wpAny_bind ?_
    first | refine wpAny_bind (wpAny_typeNameOfWhole_keyiter ty (wpAny_pure (wpAny_bind (wpAny_isOneOf_keyiter ty ?_)))) | refine wpAny_bind (wpAny_typeNameOf_keyiter ty (wpAny_pure (wpAny_bind (wpAny_isOneOf_keyiter ty ?_))))
    show wpAny _ _ (setField (.ref it) 1 (rawInt ((i : Int) + 1)) >>= _) _ _ s; refine wpAny_bind (wpAny_setField iget idat (by simp) ?_)
    have nx : (s.heap.update it (Obj.mapFields (·.setIfInBounds 1 (rawInt ((i : Int) + 1))))).IsKeyIter it d (i + 1) es.size ep := ⟨_, Heap.get?_update_self _ iget (Obj.isFreed_of_fields (Obj.data_mapFields idat _)), (Obj.cls_mapFields ..).trans icls, by rw [Obj.data_mapFields idat]; simp [rawInt]⟩
    refine wpAny_bind (wpAny_holding (wpAny_bind (wpAny_isOneOf_keyiter (s := { s with heap := s.heap.update it (Obj.mapFields (·.setIfInBounds 1 (rawInt ((i : Int) + 1)))) }) nx.typeIs ?_)))
    show wpAny _ _ (pure es[i].key) _ _ _; exact wpAny_pure (wpAny_pure ⟨_, rfl, wpAny_pure (item hi _ nx (Heap.SameBut.update ..))⟩)
  · have hg : es.size ≤ i := Nat.le_of_not_lt hi
    simp only [nn, if_false, Int.toNat_natCast, Array.getElem?_eq_none hg]
    refine wpAny_bind ?_
    first | refine wpAny_bind (wpAny_typeNameOfWhole_keyiter ty (wpAny_pure ?_)) | refine wpAny_bind (wpAny_typeNameOf_keyiter ty (wpAny_pure ?_))
    show wpAny _ _ (setField (.ref it) 0 .none >>= _) _ _ s; refine wpAny_bind (wpAny_setField iget idat (by simp) ?_); show wpAny _ _ (newExc (.type "StopIteration") [] >>= _) _ _ _; refine wpAny_bind ?_
    simp only [newExc, newTuple]
    refine wpAny_bind (wpAny_newObj_type (wpAny_bind (m := firstArgMember _ _) (wpAny_of_eq (a := Value.none) (by first | rfl | (simp only [firstArgMember]; rfl)) (wpAny_newObj_type ?_ (by size_fits)))) (by size_fits))
    simp only [raiseNew]
    refine wpAny_bind (wpAny_handled ?_); rw [show A.in1.handled = none from calm]; refine wpAny_bind (wpAny_pure (wpAny_throw ?_))
    refine wpAny_bind (wpAny_isInstance (T := "StopIteration") (b := true) ⟨_, Heap.get?_push_size _ rfl, rfl⟩ isSubtype_stop ?_); exact wpAny_pure (stop hg _ (((Heap.SameBut.update ..).extBut.push _).push _))
theorem raw_iter {Q : Value → Shared → Prop} (nm : (d == sysModules) = false) (dget : s.heap.get? d = some od) (dc : od.ExactDict) (ddat : od.data = .dict es ep)
    (go : Q (.ref s.heap.objs.size) { s with heap := s.heap.push { cls := .type "dict_keyiterator", data := .fields #[.ref d, .int 0 0, .int es.size 0, .int ep 0] } }) : wpAny (model prog w) A (pyIter (.ref d)) Q E s := by
  have ty : s.TypeIs (.ref d) "dict" := ⟨od, dget, dc.1⟩
  refine wpAny_pyIter_slot ty PySem.F.slot_dict_iter (wpAny_call_entry PySem.F.slot_dict_iter ty PySem.F.entry_dict_iter ?_ (PySem.F.args_dict_iter_1 _))
  unfold Builtin.«dict.__iter__»
  refine wpAny_bind ?_; unfold Builtin.Dict.dictSlotNone; refine wpAny_bind (wpAny_notOrdered_dict ty ?_)
  show wpAny _ _ (pure (Value.ref d)) _ _ s; refine wpAny_pure ?_; show wpAny _ _ (Builtin.Dict.showsAll d >>= _) _ _ s
  unfold Builtin.Dict.showsAll
  rw [if_neg (show ¬ (d == sysModules) = true by rw [nm]; decide)]; refine wpAny_bind (wpAny_pure (wpAny_bind (wpAny_dictEntries dget ddat (wpAny_bind (wpAny_dictEpoch dget ddat ?_)))))
  refine wpAny_bind (wpAny_newObj_type (wpAny_pure ⟨_, rfl, "dict_keyiterator", _, ⟨_, Heap.get?_push_size _ rfl, rfl⟩, PySem.F.slot_dict_keyiterator_next.lookup, ?_⟩)); simpa [rawInt] using go
end
section
variable {X : Cx} {pins : List (Addr × Obj)} {σ : St} {H : Hp} {s : Shared} {a b : Addr} {kvs : List (List Key × V)} {k : List Key} {v : V} {A : Around} {E : Value → Shared → Prop}
theorem key_sq (I : Inv X pins σ H s) (h : SqT X.K H b (k.map kV)) : (tupleKind (mixKind X.prog X.w)).is s.heap k b := by
  obtain ⟨its, rv, ⟨o, ho, hc, n, hd⟩, _⟩ := I.tuple h
  exact ⟨o, its.toArray, n, ho, hc, hd, by simpa using items_are rv⟩
theorem t_item {Q : Value → Shared → Prop} (hu : A.units + 1 < cLine) (I : Inv X pins σ H s) (e : Rd H a (.dT kvs)) (hb : SqT X.K H b (k.map kV)) (l : valV kvs k = some v) (h : ∀ w' s', Inv X pins σ H s' → RelV v w' → Q w' s') :
    wpAny (model X.prog X.w) A (getItem (.ref a) (.ref b)) Q E s := by
  obtain ⟨z, nm, xs, rel, dd⟩ := dt_rd I.hok e
  obtain ⟨w', hw, rw'⟩ := RelO.some_of (v := v) (o := (atKey xs k).map (·.2)) (by rw [← l]; exact rel.val k)
  obtain ⟨p, hp, hp2⟩ := Option.map_eq_some_iff.mp hw
  refine wpAny_getItem_heap (tupleKind_room_in1 hu) (key_sq I hb) dd hp ?_
  rw [hp2]
  exact h w' _ (I.tok _) rw'
theorem t_in {Q : Value → Shared → Prop} (hu : A.units + 1 < cLine) (I : Inv X pins σ H s) (e : Rd H a (.dT kvs)) (hb : SqT X.K H b (k.map kV)) (h : ∀ s', Inv X pins σ H s' → Q (.bool (valV kvs k).isSome) s') : wpAny (model X.prog X.w) A (compareOp .In (.ref b) (.ref a)) Q E s := by
  obtain ⟨z, nm, xs, rel, dd⟩ := dt_rd I.hok e
  refine wpAny_in_heap (tupleKind_room_in1 hu) (key_sq I hb) nm dd ?_
  have q := (rel.val k).isSome_eq
  rw [Option.isSome_map] at q
  rw [← q]
  exact h _ (I.tok _)
theorem t_nin {Q : Value → Shared → Prop} (hu : A.units + 1 < cLine) (I : Inv X pins σ H s) (e : Rd H a (.dT kvs)) (hb : SqT X.K H b (k.map kV)) (h : ∀ s', Inv X pins σ H s' → Q (.bool (!(valV kvs k).isSome)) s') : wpAny (model X.prog X.w) A (compareOp .NotIn (.ref b) (.ref a)) Q E s := by
  obtain ⟨z, nm, xs, rel, dd⟩ := dt_rd I.hok e
  refine wpAny_notIn_heap (tupleKind_room_in1 hu) (key_sq I hb) nm dd ?_
  have q := (rel.val k).isSome_eq
  rw [Option.isSome_map] at q
  rw [← q]
  exact h _ (I.tok _)
theorem KT.keys {H : Hp} {kvs : List (List Key × V)} {xs : List (List Key × Addr × Value)} (r : KT H kvs xs) : kvs.map (·.1) = xs.map (·.1) := by
  induction r with
  | nil => rfl
  | cons r t ih => rw [List.map_cons, List.map_cons, ih, r.1]
theorem KT.without {H : Hp} {k : List Key} {p : Addr × Value} : ∀ {kvs : List (List Key × V)} {xs : List (List Key × Addr × Value)} {j : Nat}, KT H kvs xs → (xs.map (·.1)).Nodup → xs[j]? = some (k, p) → KT H (dropK kvs k) (xs.eraseIdx j)
  | _, _, _, .nil, _, h => by simp at h
  | x :: kvs, y :: xs, 0, .cons r t, n, h => by
    rw [List.map_cons, List.nodup_cons] at n
    simp at h
    have ek : y.1 = k := by rw [h]
    have e1 : dropK (x :: kvs) k = kvs := by
      unfold dropK
      rw [List.filter_cons_of_neg (by simp [r.1, ek]), List.filter_eq_self]
      intro z hz
      have : z.1 ∈ xs.map (·.1) := by rw [← KT.keys t]; exact List.mem_map_of_mem hz
      simp only [ne_eq, decide_not, Bool.not_eq_true', decide_eq_false_iff_not]
      intro zk
      exact n.1 (by rw [ek, ← zk]; exact this)
    rw [e1]
    exact t
  | x :: kvs, y :: xs, j + 1, .cons r t, n, h => by
    rw [List.map_cons, List.nodup_cons] at n
    rw [List.getElem?_cons_succ] at h
    have nk : ¬ x.1 = k := fun z => n.1 (by rw [← r.1, z]; exact List.mem_map.mpr ⟨_, List.mem_of_getElem? h, rfl⟩)
    rw [List.eraseIdx_cons_succ, show dropK (x :: kvs) k = x :: dropK kvs k from by unfold dropK; rw [List.filter_cons_of_pos (by simp [nk])]]
    exact .cons r (KT.without t n.2 h)
theorem map_erase {α β : Type} (f : α → β) : ∀ (l : List α) (j : Nat), (l.eraseIdx j).map f = (l.map f).eraseIdx j
  | [], _ => rfl
  | _ :: _, 0 => rfl
  | x :: l, j + 1 => by rw [List.eraseIdx_cons_succ, List.map_cons, List.map_cons, List.eraseIdx_cons_succ, map_erase f l j]
theorem dropK_len {k : List Key} (kvs : List (List Key × V)) : (dropK kvs k).length ≤ kvs.length := by
  unfold dropK
  exact List.length_filter_le _ _
theorem t_pop {Q : Value → Shared → Prop} (hu : A.units + 1 < cLine) (I : Inv X pins σ H s) (e : H a = some (.dT kvs)) (hb : SqT X.K H b (k.map kV)) (l : valV kvs k = some v) (h : ∀ w' s', Inv X pins σ (upd H a (.dT (dropK kvs k))) s' → RelV v w' → Q w' s') :
    wpAny (model X.prog X.w) A (call (.builtin "dict.pop") [.ref a, .ref b]) Q E s := by
  have hkey := key_sq I hb
  obtain ⟨z, nm, xs, rel, dd⟩ := dt_of I.hok e
  obtain ⟨o, es, ep, og, oc, odt, oe, ois, on⟩ := id dd
  have room := tupleKind_room_in1 (knd := mixKind X.prog X.w) hu
  have ty := dd.typeIs
  refine call_meetsIn (S := fun A' R s' => A' = A ∧ R = wants Q E ∧ s' = s) PySem.F.slot_dict_pop ty PySem.F.entry_dict_pop (PySem.F.args_dict_pop_2 _ _) (MeetsIn.of_wp fun A' R s' hs => ?_) ⟨rfl, rfl, rfl⟩
  obtain ⟨rfl, rfl, rfl⟩ := hs
  unfold Builtin.«dict.pop»
  refine wpAny_bind ?_; unfold Builtin.Dict.keyAndDefault; refine wpAny_bind (wpAny_notOrdered_dict ty ?_)
  show wpAny _ _ (pure (a, Value.ref b, none)) _ _ s'; refine wpAny_pure ?_
  dsimp only
  rw [show (keyPart (Value.ref b)).isSome = false from rfl]
  simp only [Bool.false_eq_true, if_false]
  have hx : ∃ (j : Nat) (p : Addr × Value), xs[j]? = some (k, p) := by
    have q := (rel.val k).isSome_eq
    rw [l, Option.isSome_map] at q
    obtain ⟨p, hp⟩ := Option.isSome_iff_exists.mp q.symm
    unfold atKey at hp
    obtain ⟨y, hy, rfl⟩ := Option.map_eq_some_iff.mp hp
    obtain ⟨j, hj⟩ := List.getElem?_of_mem (List.mem_of_find?_eq_some hy)
    have yk : y.1 = k := by simpa using List.find?_some hy
    exact ⟨j, y.2, by rw [hj, ← yk]⟩
  obtain ⟨j, p, hj⟩ := hx
  have hne : es.isEmpty = false := by
    have sz := size_of_entries oe
    have lt := (List.getElem?_eq_some_iff.mp hj).1
    have : es.size ≠ 0 := by omega
    simp [Array.isEmpty, this]
  refine wpAny_bind (wpAny_dictEntries og odt (wpAny_bind (wpAny_pure ?_)))
  rw [hne]
  simp only [Bool.false_eq_true, if_false]
  refine wpAny_bind ?_
  unfold Builtin.Dict.takeOut
  try with_reducible refine wpAny_holding ?_
  refine wpAny_bind ((tupleKind (mixKind X.prog X.w)).pyHash room hkey (wpAny_bind (wpAny_dictFind_heap (s := { s' with toks := s'.toks + (tupleKind (mixKind X.prog X.w)).draws k }) room hkey og odt oe ois on (fun no => absurd hj (no j p)) fun j' p' hj' => ?_)))
  obtain rfl := idxH_unique on hj hj'
  rw [hj] at hj'
  cases hj'
  have sz := size_of_entries oe
  have lz := Paired.length rel
  refine wpAny_bind (wpAny_dictEntries (s := { s' with toks := s'.toks + (tupleKind (mixKind X.prog X.w)).draws k }) og odt ?_)
  rw [entry_at oe j, hj]
  refine wpAny_bind (wpAny_updateDictKeys (hz := by omega) (s := { s' with toks := s'.toks + (tupleKind (mixKind X.prog X.w)).draws k }) og odt (wpAny_pure ?_))
  simp only [Option.map_some, Option.isNone_some, Bool.false_eq_true, if_false]
  have mt : ∀ c ys, H c = some (.tup ys) → upd H a (.dT (dropK kvs k)) c = some (.tup ys) := fun c ys q => by rw [upd_ne (by rintro rfl; rw [e] at q; cases q)]; exact q
  refine wpAny_bind (wpAny_letGo (wpAny_pure ⟨_, rfl, h _ _ (d_write I (by rw [e]; trivial) (Heap.SameBut.update ..) ⟨_, Heap.get?_update_self _ og (Obj.isFreed_of_dict (Obj.data_mapDictKeys odt _))⟩ ⟨Nat.le_trans (dropK_len kvs) z, nm, xs.eraseIdx j, (KT.without rel on hj).keeps mt, _, _, ep + 1, Heap.get?_update_self _ og (Obj.isFreed_of_dict (Obj.data_mapDictKeys odt _)), oc.mapDictKeys _, Obj.data_mapDictKeys odt _, ?_, ?_⟩) ?_⟩))
  · rw [map_erase, ← oe]
    obtain ⟨le⟩ := es
    simp
  · rw [map_erase]
    exact on.sublist (List.eraseIdx_sublist ..)
  · have q := rel.val k
    rw [l, atKey_of_get on hj] at q
    exact q
theorem t_clear {Q : Value → Shared → Prop} (I : Inv X pins σ H s) (e : H a = some (.dT kvs)) (h : ∀ s', Inv X pins σ (upd H a (.dT [])) s' → Q .none s') : wpAny (model X.prog X.w) A (call (.builtin "dict.clear") [.ref a]) Q E s := by
  obtain ⟨z, nm, xs, rel, dd⟩ := dt_of I.hok e
  obtain ⟨o, es, ep, og, oc, odt, oe, ois, on⟩ := id dd
  have ty := dd.typeIs
  have sz := size_of_entries oe
  have lz := Paired.length rel
  refine call_meetsIn (S := fun A' R s' => A' = A ∧ R = wants Q E ∧ s' = s) PySem.F.slot_dict_clear ty PySem.F.entry_dict_clear (PySem.F.args_dict_clear_1 _) (MeetsIn.of_wp fun A' R s' hs => ?_) ⟨rfl, rfl, rfl⟩
  obtain ⟨rfl, rfl, rfl⟩ := hs
  unfold Builtin.«dict.clear»
  refine wpAny_bind ?_; unfold Builtin.Dict.noArgs; refine wpAny_bind (wpAny_notOrdered_dict ty ?_); show wpAny _ _ (pure a) _ _ s'; refine wpAny_pure (wpAny_bind (wpAny_dictEntries og odt (wpAny_bind ?_)))
  unfold bearsInstanceDictMark
  refine wpAny_bind (wpAny_load og (wpAny_pure (wpAny_bind (wpAny_updateDictKeys (hz := by omega) og odt ?_))))
  have fin : wants Q E (.ok (.ret .none)) { s' with heap := s'.heap.update a (Obj.mapDictKeys fun _ => #[]) } :=
    h _ (d_write (t' := s'.toks) I (by rw [e]; trivial) (Heap.SameBut.update ..) ⟨_, Heap.get?_update_self _ og (Obj.isFreed_of_dict (Obj.data_mapDictKeys odt _))⟩ ⟨Nat.zero_le _, nm, [], .nil, _, _, ep + 1, Heap.get?_update_self _ og (Obj.isFreed_of_dict (Obj.data_mapDictKeys odt _)), oc.mapDictKeys _, Obj.data_mapDictKeys odt _, rfl, List.nodup_nil⟩)
  split
  · exact wpAny_bind (wpAny_letGo (wpAny_pure ⟨Value.none, rfl, fin⟩))
  · exact wpAny_bind (wpAny_pure (wpAny_pure ⟨Value.none, rfl, fin⟩))
end
noncomputable abbrev TK (P : Program) (w : World) := tupleKind (mixKind P w)
noncomputable abbrev Ent := List Key × Addr × Value
section
variable {prog : Program} {w : World} {A : Around} {E : Value → Shared → Prop} {s : Shared} {a b : Addr} {xa xb xs : List Ent}
inductive Hits (A : Around) (s : Shared) (xb : List Ent) : List Ent → Bool → Prop
  | nil : Hits A s xb [] true
  | miss {k : List Key} {p : Addr × Value} {r : List Ent} : atKey xb k = none → Hits A s xb ((k, p) :: r) false
  | hit {k : List Key} {p q : Addr × Value} {r : List Ent} {e c : Bool} : atKey xb k = some q → SeqAt.EqAt A s p.2 q.2 e → Hits A s xb r c → Hits A s xb ((k, p) :: r) (e && c)
theorem Hits.inv {k : List Key} {p : Addr × Value} {r : List Ent} {c : Bool} (h : Hits A s xb ((k, p) :: r) c) :
    (atKey xb k = none ∧ c = false) ∨ ∃ q e c', atKey xb k = some q ∧ SeqAt.EqAt A s p.2 q.2 e ∧ Hits A s xb r c' ∧ c = (e && c') := by
  cases h with
  | miss q => exact .inl ⟨q, rfl⟩
  | hit q e r => exact .inr ⟨_, _, _, q, e, r, rfl⟩
theorem h_same {nm : String} {r : Bool} {Q : Bool → Shared → Prop} (na : (a == sysModules) = false) (nb : (b == sysModules) = false) (hu : (TK prog w).room A)
    (da : s.heap.DictOfH (TK prog w) a xa) (db : s.heap.DictOfH (TK prog w) b xb) (hits : xa.length = xb.length → Hits A s xb xa r) (h : Q (xa.length == xb.length && r) s) :
    wpAny (model prog w) A (Builtin.Dict.samePairs nm a b) Q E s := by
  obtain ⟨oa, es, ep, hoa, _, hda, hea, ia, _⟩ := da
  obtain ⟨ob, fs, fp, hob, _, hdb, heb, ib, db'⟩ := db
  have la := size_of_entries hea
  have lb := size_of_entries heb
  rw [← la, ← lb] at h hits
  unfold Builtin.Dict.samePairs Builtin.Dict.showsAll
  rw [if_neg (by rw [na]; decide), if_neg (by rw [nb]; decide)]
  refine wpAny_bind (wpAny_pure (wpAny_bind (wpAny_pure (wpAny_bind (wpAny_dictEntries hoa hda ?_)))))
  dsimp only
  refine wpAny_bind (wpAny_dictEntries hob hdb ?_)
  by_cases hs : es.size = fs.size
  · have h' : Q r s := by simpa [hs] using h
    have hits' := hits hs
    rw [if_neg (by rw [hs]; simp)]
    refine wpAny_bind (wpAny_dictEpoch hoa hda (wpAny_bind ?_))
    rw [Std.Legacy.Range.forIn_eq_forIn_range']; simp only [Std.Legacy.Range.size, Nat.sub_zero, Nat.add_sub_cancel, Nat.div_one]
    refine wpAny_forIn_list _ (fun rest q s' => s' = s ∧ q = (none, ()) ∧ ∃ i, rest = List.range' i (es.size - i) ∧ i ≤ es.size ∧ Hits A s xb (xa.drop i) r) _ ?_ ?_ _ _ ⟨rfl, rfl, 0, by simp, Nat.zero_le _, hits'⟩
    · rintro x rest q s' ⟨rfl, rfl, i, hr, hi, pre⟩
      have hlt : i < es.size := by
        rcases Nat.lt_or_ge i es.size with z | z
        · exact z
        · rw [Nat.sub_eq_zero_of_le z] at hr; cases hr
      obtain ⟨rfl, hrest⟩ : x = i ∧ rest = List.range' (i + 1) (es.size - (i + 1)) := by
        rw [show es.size - i = (es.size - (i + 1)) + 1 by omega, List.range'_succ] at hr
        exact ⟨(List.cons.inj hr).1, (List.cons.inj hr).2⟩
      have hx : x < xa.length := by omega
      obtain ⟨k, p, hkp⟩ : ∃ k p, xa[x] = (k, p) := ⟨_, _, rfl⟩
      have hg : xa[x]? = some (k, p) := by rw [List.getElem?_eq_getElem hx, hkp]
      refine wpAny_bind (wpAny_dictEntries hoa hda ?_)
      rw [entry_at hea x, hg]
      rw [show xa.drop x = (k, p) :: xa.drop (x + 1) by rw [← hkp]; exact List.drop_eq_getElem_cons hx] at pre
      show wpAny _ _ (holding [Value.ref p.1, p.2] _ >>= _) _ _ _
      refine wpAny_bind (wpAny_holding (wpAny_bind (wpAny_dictFind_heap hu (ia _ (List.mem_of_getElem? hg)) hob hdb heb ib db' (fun no => ?_) fun j q hj => ?_)))
      · rcases pre.inv with ⟨_, er⟩ | ⟨q, _, _, hq, _⟩
        · rw [er] at h'
          refine wpAny_pure ?_
          show wpAny _ _ (if (!false) = true then _ else _) _ _ _
          rw [if_pos (by decide)]; exact wpAny_pure (wpAny_pure h')
        · rw [atKey_none_of_get no] at hq; cases hq
      · refine wpAny_bind (wpAny_dictEntries hob hdb ?_)
        rw [entry_at heb j, hj]
        rcases pre.inv with ⟨hn, _⟩ | ⟨q', e, c, hq, he, hrr, er⟩
        · rw [atKey_of_get db' hj] at hn; cases hn
        · obtain rfl : q = q' := Option.some.inj ((atKey_of_get db' hj).symm.trans hq)
          refine wpAny_holding (he prog w _ _ ?_)
          cases e with
          | false =>
            rw [er] at h'
            show wpAny _ _ (if (!false) = true then _ else _) _ _ _
            rw [if_pos (by decide)]; exact wpAny_pure (wpAny_pure h')
          | true =>
            show wpAny _ _ (if (!true) = true then _ else _) _ _ _
            rw [if_neg (by decide)]
            refine wpAny_bind (wpAny_dictEpoch hoa hda ?_)
            rw [if_neg (by simp)]
            refine wpAny_pure ⟨rfl, rfl, x + 1, hrest, hlt, ?_⟩
            rw [er]; exact hrr
    · rintro q s' ⟨rfl, rfl, i, hr, hi, pre⟩
      have hin : i = es.size := by
        rcases Nat.lt_or_ge i es.size with z | z
        · rw [show es.size - i = (es.size - (i + 1)) + 1 by omega, List.range'_succ] at hr; cases hr
        · exact Nat.le_antisymm hi z
      rw [hin, la, List.drop_length] at pre
      cases pre
      exact wpAny_pure h'
  · rw [if_pos (by simpa using hs)]
    have hf : (es.size == fs.size) = false := by simpa using hs
    rw [hf] at h
    exact wpAny_bind (wpAny_rule (wpAny_pure h))
theorem h_eq {r : Bool} {Q : Value → Shared → Prop} (na : (a == sysModules) = false) (nb : (b == sysModules) = false) (hu : A.units + 1 < cLine)
    (da : s.heap.DictOfH (TK prog w) a xa) (db : s.heap.DictOfH (TK prog w) b xb) (hits : xa.length = xb.length → Hits A.in1 s xb xa r) (h : Q (.bool (xa.length == xb.length && r)) s) :
    wpAny (model prog w) A (compareOp .Eq (.ref a) (.ref b)) Q E s := by
  refine wpAny_richCompare_same_room (op := .Eq) da.typeIs db.typeIs PySem.F.slot_dict_eq (wpAny_call_entry PySem.F.slot_dict_eq da.typeIs PySem.F.entry_dict_eq ?_ (PySem.F.args_dict_eq_2 _ _)) (by omega)
  show wpAny _ _ (Builtin.Dict.dictSlotArgs "__eq__" ⟨[.ref a, .ref b], []⟩ >>= _) _ _ s; refine wpAny_bind ?_; unfold Builtin.Dict.dictSlotArgs
  refine wpAny_bind (wpAny_notOrdered_dict da.typeIs ?_); show wpAny _ _ (pure (Value.ref a, Value.ref b)) _ _ s; refine wpAny_pure (wpAny_bind (wpAny_isInstance (T := "dict") db.typeIs PySem.F.sub_dict_dict ?_))
  simp only [Bool.not_true, Bool.false_eq_true, if_false]; refine wpAny_bind (wpAny_pure (wpAny_bind (wpAny_pure (wpAny_bind (h_same na nb (tupleKind_room_in1 hu) da db hits (wpAny_pure ⟨_, rfl, (fun x => nomatch x), ?_⟩))))))
  simpa using h
theorem h_ne {r : Bool} {Q : Value → Shared → Prop} (na : (a == sysModules) = false) (nb : (b == sysModules) = false) (hu : A.units + 1 < cLine)
    (da : s.heap.DictOfH (TK prog w) a xa) (db : s.heap.DictOfH (TK prog w) b xb) (hits : xa.length = xb.length → Hits A.in1 s xb xa r) (h : Q (.bool (!(xa.length == xb.length && r))) s) :
    wpAny (model prog w) A (compareOp .NotEq (.ref a) (.ref b)) Q E s := by
  refine wpAny_richCompare_same_room (op := .NotEq) da.typeIs db.typeIs PySem.F.slot_dict_ne (wpAny_call_entry PySem.F.slot_dict_ne da.typeIs PySem.F.entry_dict_ne ?_ (PySem.F.args_dict_ne_2 _ _)) (by omega)
  show wpAny _ _ (Builtin.Dict.dictSlotArgs "__ne__" ⟨[.ref a, .ref b], []⟩ >>= _) _ _ s; refine wpAny_bind ?_; unfold Builtin.Dict.dictSlotArgs
  refine wpAny_bind (wpAny_notOrdered_dict da.typeIs ?_); show wpAny _ _ (pure (Value.ref a, Value.ref b)) _ _ s; refine wpAny_pure (wpAny_bind (wpAny_isInstance (T := "dict") db.typeIs PySem.F.sub_dict_dict ?_))
  simp only [Bool.not_true, Bool.false_eq_true, if_false]; refine wpAny_bind (wpAny_pure (wpAny_bind (wpAny_pure (wpAny_bind (h_same na nb (tupleKind_room_in1 hu) da db hits (wpAny_pure ⟨_, rfl, (fun x => nomatch x), ?_⟩))))))
  simpa using h
theorem filt_one {α : Type} (f : α → Int) (c : Int) : ∀ l : List α, (l.map f).Nodup → (l.filter fun y => f y == c).length ≤ 1
  | [], _ => Nat.zero_le _
  | y :: l, h => by
    rw [List.map_cons, List.nodup_cons] at h
    by_cases e : f y = c
    · rw [List.filter_cons_of_pos (by simpa using e), List.filter_eq_nil_iff.mpr fun z hz q => h.1 (by rw [e, ← eq_of_beq q]; exact List.mem_map_of_mem hz)]
      exact Nat.le_refl _
    · rw [List.filter_cons_of_neg (by simpa using e)]
      exact filt_one f c l h.2
theorem h_quiet {id : String} {o : Obj} {es : Array DictEntry} {ep : Nat} {Q : Array DictEntry → Shared → Prop} (ho : s.heap.get? a = some o) (hd : o.data = .dict es ep) (he : es.toList = xs.map (entryOfKey (TK prog w)))
    (is : ∀ x ∈ xs, (TK prog w).is s.heap x.1 x.2.1) (hh : (xs.map fun x => (TK prog w).hash x.1).Nodup) (h : Q es s) : wpAny (model prog w) A (Builtin.Dict.entriesForEmpty id a) Q E s := by
  unfold Builtin.Dict.entriesForEmpty
  refine wpAny_bind (wpAny_dictEntries ho hd (wpAny_bind ?_))
  rw [← Array.forIn_toList]
  refine wpAny_forIn_list _ (fun rest _ s' => s' = s ∧ ∀ e ∈ rest, e ∈ es.toList) _ ?_ ?_ _ _ ⟨rfl, fun _ q => q⟩
  · rintro e rest q s' ⟨rfl, hin⟩
    obtain ⟨x, hx, rfl⟩ := List.mem_map.mp (he ▸ hin e List.mem_cons_self)
    show wpAny _ _ (Builtin.Dict.quietEq (.ref x.2.1) >>= _) _ _ _
    refine wpAny_bind ?_
    unfold Builtin.Dict.quietEq
    refine wpAny_bind (wpAny_specialOf (IsTupleKey.typeIs (is x hx)) PySem.F.slot_tuple_eq.lookup (wpAny_pure ?_))
    rw [if_pos (by decide), if_neg (by
      have e1 : (es.filter fun z => z.hash == (entryOfKey (TK prog w) x).hash).size = (xs.filter fun z => (TK prog w).hash z.1 == (TK prog w).hash x.1).length := by
        rw [← Array.length_toList, Array.toList_filter, he, List.filter_map, List.length_map]
        rfl
      have e2 := filt_one (fun z : Ent => (TK prog w).hash z.1) ((TK prog w).hash x.1) xs hh
      omega)]
    exact wpAny_pure ⟨rfl, fun e q => hin e (List.mem_cons_of_mem _ q)⟩
  · rintro q s' ⟨rfl, _⟩
    exact wpAny_pure h
theorem h_merge {nm : String} {Q : Unit → Shared → Prop} (hab : a ≠ b) (nb : (b == sysModules) = false) (hd : s.heap.DictOfH (TK prog w) a []) (ho : s.heap.DictOfH (TK prog w) b xs) (hh : (xs.map fun x => (TK prog w).hash x.1).Nodup) (sz : xs.length ≤ sizeLine)
    (hQ : ∀ h', h'.DictOfH (TK prog w) a xs → Heap.SameBut a s.heap h' → Q () { s with heap := h' }) : wpAny (model prog w) A (Builtin.Dict.mergeDict nm a b) Q E s := by
  obtain ⟨oa, es, ep, ga, ca, da, ea, ia, _⟩ := id hd
  obtain ⟨ob, fs, fp, gb, cb, db, eb, ib, nd⟩ := id ho
  have lb := size_of_entries eb
  have e0 : es = #[] := by simpa using ea
  subst e0
  unfold Builtin.Dict.mergeDict
  rw [if_neg (by simpa using hab)]
  unfold Builtin.Dict.showsAll
  rw [if_neg (by rw [nb]; decide)]
  refine wpAny_bind (wpAny_pure (wpAny_bind (wpAny_dictEntries gb db ?_)))
  dsimp only
  cases xs with
  | nil =>
    have e1 : fs = #[] := by simpa using eb
    subst e1
    rw [if_neg (by simp)]
    refine wpAny_bind (wpAny_dictEpoch gb db (wpAny_bind (wpAny_dictEntries gb db (wpAny_bind ?_))))
    rw [Std.Legacy.Range.forIn_eq_forIn_range']
    exact wpAny_pure (wpAny_pure (hQ _ hd (Heap.SameBut.refl _ _)))
  | cons x xs =>
    have few : (decide (fs.size ≤ 8) && fs.all fun e => (keyPart e.key).isSome) = false := by
      rw [← Array.all_toList, eb, List.map_cons, List.all_cons]
      simp [entryOfKey, keyPart]
    rw [few]
    have ne : fs.isEmpty = false := by
      have : fs.size ≠ 0 := by rw [lb]; simp
      simp [Array.isEmpty, this]
    rw [if_pos (by decide)]
    refine wpAny_bind (wpAny_dictEntries ga da ?_)
    rw [if_pos (by rfl)]
    refine wpAny_bind (h_quiet gb db eb ib hh ?_)
    rw [ne, if_pos (by decide)]
    refine wpAny_bind (wpAny_updateDictKeysTo ga da (wpAny_pure (hQ _ ⟨_, _, ep + 1, Heap.get?_update_self _ ga (Obj.isFreed_of_dict (Obj.data_mapDictKeys da _)), ca.mapDictKeys _, Obj.data_mapDictKeys da _, eb, fun y hy => ?_, nd⟩ (Heap.SameBut.update ..))) (by rw [lb]; omega))
    exact (TK prog w).keeps (ib y hy) ga da (Heap.SameBut.update ..)
theorem h_copy {Q : Value → Shared → Prop} (nb : (b == sysModules) = false) (ho : s.heap.DictOfH (TK prog w) b xs) (hh : (xs.map fun x => (TK prog w).hash x.1).Nodup) (sz : xs.length ≤ sizeLine)
    (h : ∀ h', h'.DictOfH (TK prog w) s.heap.objs.size xs → Heap.SameBut s.heap.objs.size (s.heap.push { cls := .type "dict", data := .dict #[] }) h' → Q (.ref s.heap.objs.size) { s with heap := h' }) :
    wpAny (model prog w) A (call (.type "dict") [.ref b]) Q E s := by
  refine callType_codes (Q₁ := fun obj s₁ => obj = .ref s.heap.objs.size ∧ s₁ = { s with heap := s.heap.push { cls := .type "dict", data := .dict #[] } }) PySem.F.kt_called_dict (PySem.F.kt_typeCall_dict_1 _) PySem.F.entry_dict_init (kt_code_dict_new _ ⟨rfl, rfl⟩) ?_
  rintro obj s₁ ⟨rfl, rfl⟩
  have hnew : (s.heap.push { cls := .type "dict", data := .dict #[] }).DictOfH (TK prog w) s.heap.objs.size [] := Heap.DictOfH.new s.heap
  obtain ⟨ob, fs, fp, gb, cb, db, eb, ib, nd⟩ := id ho
  have ho' : (s.heap.push { cls := .type "dict", data := .dict #[] }).DictOfH (TK prog w) b xs :=
    ⟨ob, fs, fp, Heap.get?_push_of_some _ gb, cb, db, eb, fun x hx => let ⟨o, its, n, z1, z2⟩ := ib x hx; ⟨o, its, n, Heap.get?_push_of_some _ z1, z2⟩, nd⟩
  have hne : s.heap.objs.size ≠ b := fun e => absurd (Heap.lt_size gb) (by rw [e]; exact Nat.lt_irrefl _)
  refine ⟨hnew.typeIs, PySem.F.args_dict_init_2 _ _, ?_⟩
  unfold Builtin.«dict.__init__»; refine wpAny_bind ?_; unfold Builtin.Dict.selfAndRest
  refine wpAny_bind (wpAny_notOrdered_dict hnew.typeIs ?_); show wpAny _ _ (pure (s.heap.objs.size, [Value.ref b])) _ _ _; refine wpAny_pure ?_
  show wpAny _ _ (Builtin.Dict.updateFrom "dict.__init__" s.heap.objs.size (.ref b) [] .none) _ _ _
  unfold Builtin.Dict.updateFrom; refine wpAny_bind (wpAny_typeOf ho'.typeIs ?_)
  rw [if_neg (by decide)]; refine wpAny_bind ?_; unfold Builtin.Dict.merge; refine wpAny_bind ?_; unfold Builtin.Dict.readDirectly
  refine wpAny_bind (wpAny_isInstance ho'.typeIs isSubtype_dict_dict ?_); simp only [Bool.not_true, Bool.false_eq_true, if_false]
  refine wpAny_bind (wpAny_specialOf ho'.typeIs PySem.F.slot_dict_iter.lookup (wpAny_pure ?_)); simp only [beq_self_eq_true, if_true]
  refine wpAny_bind (wpAny_pure (h_merge hne nb hnew ho' hh sz fun h' hd' hs' => ?_))
  show wpAny _ _ (Builtin.Dict.addKeywords s.heap.objs.size [] >>= _) _ _ _; exact wpAny_bind (wpAny_pure (wpAny_pure ⟨rfl, h h' hd' hs'⟩))
end
section
variable {X : Cx} {pins : List (Addr × Obj)} {σ : St} {H : Hp} {s : Shared} {a b : Addr} {kvs : List (List Key × V)} {k : List Key} {v : V} {A : Around} {E : Value → Shared → Prop}
theorem t_copy {Q : Value → Shared → Prop} (I : Inv X pins σ H s) (e : Rd H a (.dT kvs)) (hh : (kvs.map fun kv => (TK X.prog X.w).hash kv.1).Nodup) (h : ∀ p s', H p = none → Inv X pins σ (upd H p (.dT kvs)) s' → Q (.ref p) s') :
    wpAny (model X.prog X.w) A (call (.type "dict") [.ref a]) Q E s := by
  obtain ⟨z, nm, xs, rel, dd⟩ := dt_rd I.hok e
  have lz := Paired.length rel
  have ek : xs.map (fun x => (TK X.prog X.w).hash x.1) = kvs.map fun kv => (TK X.prog X.w).hash kv.1 := by
    have := congrArg (List.map (TK X.prog X.w).hash) (KT.keys rel)
    rw [List.map_map, List.map_map] at this
    exact this.symm
  refine h_copy nm dd (by rw [ek]; exact hh) (by omega) fun h' dd' hs => ?_
  have fr := I.hok.fresh (Nat.le_refl s.heap.objs.size)
  obtain ⟨q, es, ep, hq, h2, h3, h4, _, h5⟩ := dd'
  refine h _ _ fr (I.laid (a := s.heap.objs.size) (o := .dT kvs) (t' := s.toks) (fun c u hc => ?_) (Nat.le_refl _) ⟨z, beq_eq_false_iff_ne.mpr (Ne.symm (Nat.ne_of_lt I.big)), xs, rel.keeps fun c ys hc => ?_, q, es, ep, hq, h2, h3, h4, h5⟩)
  · exact (hs.2 c (Nat.ne_of_lt (Heap.lt_size hc))).trans (Heap.get?_push_of_some _ hc)
  · rw [upd_ne (ne_of_none hc fr)]; exact hc
theorem t_get {Q : Value → Shared → Prop} (hu : A.units + 1 < cLine) (I : Inv X pins σ H s) (e : Rd H a (.dT kvs)) (hb : SqT X.K H b (k.map kV)) (h : ∀ w' s', Inv X pins σ H s' → RelV ((valV kvs k).getD .non) w' → Q w' s') :
    wpAny (model X.prog X.w) A (call (.builtin "dict.get") [.ref a, .ref b]) Q E s := by
  obtain ⟨z, nm, xs, rel, dd⟩ := dt_rd I.hok e
  exact call_meetsIn PySem.F.slot_dict_get dd.typeIs PySem.F.entry_dict_get (PySem.F.args_dict_get_2 _ _) (meetsH_dict_get (TK X.prog X.w) a b nm) ⟨tupleKind_room_in1 hu, k, xs, key_sq I hb, dd, h _ _ (I.tok _) ((rel.val k).getD rfl)⟩
theorem t_get2 {y : V} {r : Value} {Q : Value → Shared → Prop} (hu : A.units + 1 < cLine) (I : Inv X pins σ H s) (e : Rd H a (.dT kvs)) (hb : SqT X.K H b (k.map kV)) (ry : RelV y r) (h : ∀ w' s', Inv X pins σ H s' → RelV ((valV kvs k).getD y) w' → Q w' s') :
    wpAny (model X.prog X.w) A (call (.builtin "dict.get") [.ref a, .ref b, r]) Q E s := by
  obtain ⟨z, nm, xs, rel, dd⟩ := dt_rd I.hok e
  exact call_meetsIn PySem.F.slot_dict_get dd.typeIs PySem.F.entry_dict_get (PySem.F.args_dict_get_3 _ _ _) (meetsH_dict_get_default (TK X.prog X.w) a b nm r) ⟨tupleKind_room_in1 hu, k, xs, key_sq I hb, dd, h _ _ (I.tok _) ((rel.val k).getD ry)⟩
theorem t_pop2 {y : V} {r : Value} {Q : Value → Shared → Prop} (hu : A.units + 1 < cLine) (I : Inv X pins σ H s) (e : H a = some (.dT kvs)) (hb : SqT X.K H b (k.map kV)) (ry : RelV y r)
    (h : ∀ w' s', Inv X pins σ (upd H a (.dT (dropK kvs k))) s' → RelV ((valV kvs k).getD y) w' → Q w' s') :
    wpAny (model X.prog X.w) A (call (.builtin "dict.pop") [.ref a, .ref b, r]) Q E s := by
  have hkey := key_sq I hb
  obtain ⟨z, nm, xs, rel, dd⟩ := dt_of I.hok e
  obtain ⟨o, es, ep, og, oc, odt, oe, ois, on⟩ := id dd
  have room := tupleKind_room_in1 (knd := mixKind X.prog X.w) hu
  have ty := dd.typeIs
  have sz := size_of_entries oe
  have lz := Paired.length rel
  refine call_meetsIn (S := fun A' R s' => A' = A ∧ R = wants Q E ∧ s' = s) PySem.F.slot_dict_pop ty PySem.F.entry_dict_pop (PySem.F.args_dict_pop_3 _ _ _) (MeetsIn.of_wp fun A' R s' hs => ?_) ⟨rfl, rfl, rfl⟩
  obtain ⟨rfl, rfl, rfl⟩ := hs
  have gone : ∀ t, valV kvs k = none → wants Q E (.ok (.ret r)) { s' with toks := t } := fun t hn => by
    have e1 : dropK kvs k = kvs := by
      unfold dropK
      rw [List.filter_eq_self]
      intro kv hm
      have := valV_any k kvs
      rw [hn, Option.isSome_none, List.any_eq_false] at this
      simpa using this kv hm
    have h1 := h r { s' with toks := t }
    rw [e1, hn] at h1
    have eH : upd H a (.dT kvs) = H := by
      funext c
      by_cases hc : c = a
      · subst hc; rw [upd_same, e]
      · rw [upd_ne hc]
    rw [eH] at h1
    exact h1 (I.tok _) ry
  unfold Builtin.«dict.pop»
  refine wpAny_bind ?_; unfold Builtin.Dict.keyAndDefault; refine wpAny_bind (wpAny_notOrdered_dict ty ?_); show wpAny _ _ (pure (a, Value.ref b, some r)) _ _ s'; refine wpAny_pure ?_
  dsimp only
  rw [show (keyPart (Value.ref b)).isSome = false from rfl]
  simp only [Bool.false_eq_true, if_false]
  refine wpAny_bind (wpAny_dictEntries og odt (wpAny_bind (wpAny_pure ?_)))
  cases he : es.isEmpty with
  | true =>
    have hx : xs = [] := by
      have : es.size = 0 := by simpa [Array.isEmpty] using he
      exact List.length_eq_zero_iff.mp (by omega)
    subst hx
    cases rel
    simp only [if_true]
    refine wpAny_bind (wpAny_rule (wpAny_bind (wpAny_pure ?_)))
    simp only [Option.isNone_none, if_true]
    exact wpAny_bind (wpAny_missedRemoval_other nm (wpAny_bind (wpAny_rule (wpAny_pure ⟨_, rfl, gone _ rfl⟩))))
  | false =>
    simp only [Bool.false_eq_true, if_false]
    refine wpAny_bind ?_
    unfold Builtin.Dict.takeOut
    try with_reducible refine wpAny_holding ?_
    refine wpAny_bind ((TK X.prog X.w).pyHash room hkey (wpAny_bind (wpAny_dictFind_heap (s := { s' with toks := s'.toks + (TK X.prog X.w).draws k }) room hkey og odt oe ois on (fun no => ?_) fun j p hj => ?_)))
    · refine wpAny_pure ?_
      simp only [Option.isNone_none, if_true]
      have hn : valV kvs k = none := by
        have q := (rel.val k).isSome_eq
        rw [atKey_none_of_get no] at q
        simpa using q
      exact wpAny_bind (wpAny_missedRemoval_other nm (wpAny_bind (wpAny_rule (wpAny_pure ⟨_, rfl, gone _ hn⟩))))
    · refine wpAny_bind (wpAny_dictEntries (s := { s' with toks := s'.toks + (TK X.prog X.w).draws k }) og odt ?_)
      rw [entry_at oe j, hj]
      refine wpAny_bind (wpAny_updateDictKeys (hz := by omega) (s := { s' with toks := s'.toks + (TK X.prog X.w).draws k }) og odt (wpAny_pure ?_))
      simp only [Option.map_some, Option.isNone_some, Bool.false_eq_true, if_false]
      have mt : ∀ c ys, H c = some (.tup ys) → upd H a (.dT (dropK kvs k)) c = some (.tup ys) := fun c ys q => by rw [upd_ne (by rintro rfl; rw [e] at q; cases q)]; exact q
      refine wpAny_bind (wpAny_letGo (wpAny_pure ⟨_, rfl, h _ _ (d_write I (by rw [e]; trivial) (Heap.SameBut.update ..) ⟨_, Heap.get?_update_self _ og (Obj.isFreed_of_dict (Obj.data_mapDictKeys odt _))⟩ ⟨Nat.le_trans (dropK_len kvs) z, nm, xs.eraseIdx j, (KT.without rel on hj).keeps mt, _, _, ep + 1, Heap.get?_update_self _ og (Obj.isFreed_of_dict (Obj.data_mapDictKeys odt _)), oc.mapDictKeys _, Obj.data_mapDictKeys odt _, ?_, ?_⟩) ?_⟩))
      · rw [map_erase, ← oe]
        obtain ⟨le⟩ := es
        simp
      · rw [map_erase]
        exact on.sublist (List.eraseIdx_sublist ..)
      · have q := rel.val k
        rw [atKey_of_get on hj] at q
        exact q.getD (u := some p.2) (d' := r) ry
end
section
variable {M : Mo} {ι : List Addr} {H : Hp}
noncomputable def dkey : D → Option Key
  | .int i => some (.inl i)
  | .str x => some (.inr x)
  | _ => none
theorem dkey_keyD (k : Key) : dkey (keyD k) = some k := by cases k <;> rfl
theorem dkey_is {v : V} {d : D} {k : Key} (r : RD M ι H v d) (h : dkey d = some k) : v = kV k := by
  cases r <;> cases h <;> rfl
noncomputable def refN : D → Nat
  | .ref n => n
  | _ => 0
theorem rd_key (k : Key) : RD M ι H (kV k) (keyD k) := by
  cases k with
  | inl i => exact .int i
  | inr x => exact .str x
end
section
variable {X : Cx} {E : St → XK} {e : Expr}
noncomputable def rSetD : TSet := fun o i v H Q => ∃ a H', o = .ref a ∧ DPut H a i v H' ∧ Q H'
theorem set_dict (hu : X.A.units + 1 < cLine) : PSet X rSetD := by
  intro pins s σ H o i v ov iv u Q I ro ri rv h
  obtain ⟨a, H', rfl, g, q⟩ := h
  cases ro
  exact d_setItem hu I g ri rv fun s' I' => ⟨H', I', q⟩
theorem de_two {f f1 f2 : Fd} (h1 : DE X E e f1) (h2 : DE X E e f2) (w : ∀ δ S, f δ S = f1 δ S ∨ f δ S = f2 δ S) : DE X E e f := by
  intro pins s σ H Q I h
  obtain ⟨ι, δ, S, rs, re, p⟩ := h
  rcases w δ S with q | q
  · rw [q] at p
    exact h1 pins s σ H Q I ⟨ι, δ, S, rs, re, p⟩
  · rw [q] at p
    exact h2 pins s σ H Q I ⟨ι, δ, S, rs, re, p⟩
end
section
variable {M : Mo} {ι : List Addr} {H : Hp}
noncomputable def tkeys : List D → Option (List Key)
  | [] => some []
  | d :: ds => match dkey d, tkeys ds with
    | some k, some ks => some (k :: ks)
    | _, _ => none
noncomputable def tkey : D → Option (List Key)
  | .tup ds => tkeys ds
  | _ => none
theorem tkeys_keyD : ∀ k : List Key, tkeys (k.map keyD) = some k
  | [] => rfl
  | x :: k => by
    rw [List.map_cons]
    unfold tkeys
    rw [dkey_keyD, tkeys_keyD k]
theorem tkey_keyD (k : List Key) : tkey (.tup (k.map keyD)) = some k := tkeys_keyD k
theorem tkeys_is : ∀ {vs : List V} {ds : List D} {k : List Key}, RDs M ι H vs ds → tkeys ds = some k → vs = k.map kV
  | _, [], _, .nil, h => by cases h; rfl
  | _, d :: ds, k, .cons r t, h => by
    unfold tkeys at h
    split at h
    · rename_i a b h1 h2
      cases h
      rw [List.map_cons, ← dkey_is r h1, ← tkeys_is t h2]
    · cases h
theorem tkey_is {v : V} {d : D} {k : List Key} (r : RD M ι H v d) (h : tkey d = some k) : ∃ b, v = .ref b ∧ SqT M.K H b (k.map kV) := by
  cases r with
  | @tup a xs ds s t =>
    have e := tkeys_is t h
    subst e
    exact ⟨a, rfl, s.sq⟩
  | _ => cases h
noncomputable def lkT (kvs : List (D × D)) (k : List Key) : Option D := (kvs.find? fun kv => decide (tkey kv.1 = some k)).map (·.2)
noncomputable def putT (kvs : List (D × D)) (k : List Key) (d : D) : List (D × D) :=
  if (kvs.any fun kv => decide (tkey kv.1 = some k)) = true then kvs.map (fun kv => if tkey kv.1 = some k then (kv.1, d) else kv) else kvs ++ [(.tup (k.map keyD), d)]
noncomputable def dropT (kvs : List (D × D)) (k : List Key) : List (D × D) := kvs.filter fun kv => decide (tkey kv.1 ≠ some k)
theorem RTs.length {ks : List (List Key × V)} {kvs : List (D × D)} (r : RTs M ι H ks kvs) : ks.length = kvs.length := by
  induction r with
  | nil => rfl
  | cons _ _ ih => simp [ih]
theorem RTs.val {ks : List (List Key × V)} {kvs : List (D × D)} {k : List Key} (r : RTs M ι H ks kvs) : (∀ d, lkT kvs k = some d → ∃ v, valV ks k = some v ∧ RD M ι H v d) ∧ (lkT kvs k = none → valV ks k = none) := by
  induction r with
  | nil => exact ⟨fun _ e => (nomatch e), fun _ => rfl⟩
  | @cons k0 v0 d0 vs ds h t ih =>
    by_cases c : k0 = k
    · subst c
      have : lkT ((.tup (k0.map keyD), d0) :: ds) k0 = some d0 := by simp [lkT, List.find?_cons, tkey_keyD]
      rw [this]
      exact ⟨fun d e => ⟨v0, valV_pos rfl, Option.some.inj e ▸ h⟩, fun e => nomatch e⟩
    · have : lkT ((.tup (k0.map keyD), d0) :: ds) k = lkT ds k := by simp [lkT, List.find?_cons, tkey_keyD, c]
      rw [this, valV_neg c]
      exact ih
theorem RTs.isSome {ks : List (List Key × V)} {kvs : List (D × D)} {k : List Key} (r : RTs M ι H ks kvs) : (valV ks k).isSome = (lkT kvs k).isSome := by
  obtain ⟨h1, h2⟩ := r.val (k := k)
  cases e : lkT kvs k with
  | none => rw [h2 e]; rfl
  | some d =>
    obtain ⟨v, q, _⟩ := h1 d e
    rw [q]
    rfl
theorem RTs.any {ks : List (List Key × V)} {kvs : List (D × D)} {k : List Key} (r : RTs M ι H ks kvs) : (ks.any fun kv => decide (kv.1 = k)) = kvs.any fun kv => decide (tkey kv.1 = some k) := by
  induction r with
  | nil => rfl
  | @cons k0 v0 d0 vs ds h t ih => rw [List.any_cons, List.any_cons, ih, tkey_keyD]; simp
theorem RTs.app {ks ks' : List (List Key × V)} {kvs kvs' : List (D × D)} (r : RTs M ι H ks kvs) (r' : RTs M ι H ks' kvs') : RTs M ι H (ks ++ ks') (kvs ++ kvs') := by
  induction r with
  | nil => exact r'
  | cons h t ih => exact .cons h ih
theorem RTs.put {ks : List (List Key × V)} {kvs : List (D × D)} {k : List Key} {v : V} {d : D} (r : RTs M ι H ks kvs) (h : RD M ι H v d) : RTs M ι H (putK ks k v) (putT kvs k d) := by
  unfold putK putT
  rw [r.any]
  split
  · rename_i c
    clear c
    induction r with
    | nil => exact .nil
    | @cons k0 v0 d0 vs ds h0 t ih =>
      rw [List.map_cons, List.map_cons]
      by_cases c : k0 = k
      · rw [if_pos (show (k0, v0).1 = k from c), if_pos (show tkey (D.tup (k0.map keyD), d0).1 = some k by rw [tkey_keyD, c])]
        exact .cons h ih
      · rw [if_neg (show ¬ (k0, v0).1 = k from c), if_neg (show ¬ tkey (D.tup (k0.map keyD), d0).1 = some k by rw [tkey_keyD]; exact fun z => c (Option.some.inj z))]
        exact .cons h0 ih
  · exact r.app (.cons h .nil)
theorem RTs.drop {ks : List (List Key × V)} {kvs : List (D × D)} {k : List Key} (r : RTs M ι H ks kvs) : RTs M ι H (dropK ks k) (dropT kvs k) := by
  unfold dropK dropT
  induction r with
  | nil => exact .nil
  | @cons k0 v0 d0 vs ds h0 t ih =>
    by_cases c : k0 = k
    · rw [List.filter_cons_of_neg (by simp [c]), List.filter_cons_of_neg (by simp [tkey_keyD, c])]
      exact ih
    · rw [List.filter_cons_of_pos (by simp [c]), List.filter_cons_of_pos (by simp [tkey_keyD, c])]
      exact .cons h0 ih
theorem RTs.keys {ks : List (List Key × V)} {kvs : List (D × D)} {vs : List V} (r : RTs M ι H ks kvs) : Paired (fun (kv : List Key × V) (v : V) => ∃ b, v = .ref b ∧ H b = some (.tup (kv.1.map kV))) ks vs → RDs M ι H vs (kvs.map (·.1)) := by
  induction r generalizing vs with
  | nil => intro p; cases p; exact .nil
  | @cons k0 v0 d0 us ds h0 t ih =>
    intro p
    cases p with
    | cons q p =>
      obtain ⟨b, rfl, hb⟩ := q
      refine .cons (.tup (SqU.of hb) ?_) (ih p)
      show RDs M ι H (k0.map kV) (k0.map keyD)
      clear hb
      induction k0 with
      | nil => exact .nil
      | cons x k i => exact .cons (rd_key _) i
theorem RelS.tput {S : Sto} {n : Nat} {a : Addr} {ks ks' : List (List Key × V)} {kvs : List (D × D)} (h : RelS M ι H S) (ha : ι[n]? = some a) (hl : H a = some (.dT ks)) (r : RTs M ι H ks' kvs) :
    Ext ι H ι (upd H a (.dT ks')) ∧ RelS M ι (upd H a (.dT ks')) (S.set n (.dit kvs)) := by
  have mu : Mut (H a) := by rw [hl]; trivial
  have x : Ext ι H ι (upd H a (.dT ks')) := Ext.set mu
  exact ⟨x, h.set ha mu ⟨ks', upd_same, r.mono x.pre x.ts⟩⟩
end
section
variable {X : Cx} {E : St → XK} {pos : Pos} {a b c d e o : Expr} {es : List Expr} {fa fb fc fd fo : Fd}
noncomputable def ditD (o : D) (S : Sto) : Option (List (D × D)) := match o with
  | .ref n => match S[n]? with
    | some (.dit kvs) => some kvs
    | _ => none
  | _ => none
theorem ditD_is {M : Mo} {ι : List Addr} {H : Hp} {S : Sto} {v : V} {o : D} {kvs : List (D × D)} (rs : RelS M ι H S) (r : RD M ι H v o) (h : ditD o S = some kvs) : ∃ n p ks, o = .ref n ∧ v = .ref p ∧ ι[n]? = some p ∧ S[n]? = some (.dit kvs) ∧ H p = some (.dT ks) ∧ RTs M ι H ks kvs := by
  unfold ditD at h
  split at h
  · rename_i n
    split at h
    · rename_i kvs' hs
      cases h
      cases r with
      | @ref p _ hp =>
        obtain ⟨ks, h1, h2⟩ := rs.obj n p _ hp hs
        exact ⟨n, p, ks, rfl, rfl, hp, hs, h1, h2⟩
    · cases h
  · cases h
noncomputable def dtR (o : D) (S : Sto) : Option (List (D × D)) := match o with
  | .ref n => match S[n]? with
    | some (.dit kvs) => some kvs
    | some (.fdt kvs) => some kvs
    | _ => none
  | _ => none
theorem dtR_is {M : Mo} {ι : List Addr} {H : Hp} {S : Sto} {v : V} {o : D} {kvs : List (D × D)} (rs : RelS M ι H S) (r : RD M ι H v o) (h : dtR o S = some kvs) : ∃ p ks, v = .ref p ∧ Rd H p (.dT ks) ∧ RTs M ι H ks kvs := by
  unfold dtR at h
  split at h
  · rename_i n
    cases r with
    | @ref p _ hp =>
      split at h
      · rename_i kvs' hs
        cases h
        obtain ⟨ks, h1, h2⟩ := rs.obj n p _ hp hs
        exact ⟨p, ks, rfl, .inl h1, h2⟩
      · rename_i kvs' hs
        cases h
        obtain ⟨o, ks, h1, h2⟩ := rs.obj n p _ hp hs
        exact ⟨p, ks, rfl, .inr ⟨o, h1⟩, h2⟩
      · cases h
  · cases h
theorem dT_ty {pins : List (Addr × Obj)} {s : Shared} {σ : St} {H : Hp} {p : Addr} {kvs : List (List Key × V)} (I : Inv X pins σ H s) (e : Rd H p (.dT kvs)) : s.TypeIs (.ref p) "dict" := by
  obtain ⟨_, _, xs, _, dd⟩ := dt_rd I.hok e
  exact dd.typeIs
noncomputable def idxB (d e : D) (S : Sto) : R D := match dtR d S with
  | some kvs => (match tkey e with
    | some k => (match lkT kvs k with
      | some x => .ok x S
      | none => .fail)
    | none => .fail)
  | none => idxD d e S
noncomputable def rIxK (K : PySem.W.Frag) : R2 := fun x y H Q => ∃ a b kvs k v, x = .ref a ∧ y = .ref b ∧ Rd H a (.dT kvs) ∧ SqT K H b (k.map kV) ∧ valV kvs k = some v ∧ Q v H
theorem ix_tk (hu : X.A.units + 1 < cLine) : IxR X (rIxK X.K) := by
  intro value slice pins s σ H x y v u Q I rx ry h hs
  obtain ⟨p, b, kvs, k, z, rfl, rfl, hp, hb, hv, q⟩ := h
  cases rx
  cases ry
  exact tail_any (dT_ty I hp) PySem.F.slot_dict_getitem.lookup (t_item hu I hp hb hv fun w' s' I' rw' => ⟨z, H, I', rw', q⟩) hs
theorem p_idxB : Prim2 X (fun x y H Q => rIx X.K x y H Q ∨ rIxK X.K x y H Q) idxB := by
  intro ι H S x y d e Q E rs rx ry p
  unfold idxB at p
  split at p
  · rename_i kvs h1
    split at p
    · rename_i k h2
      split at p
      · rename_i z hz
        obtain ⟨a, ks, rfl, hH, rk⟩ := dtR_is rs rx h1
        obtain ⟨v, e1, e2⟩ := rk.val.1 _ hz
        obtain ⟨b, rfl, hb⟩ := tkey_is ry h2
        exact .inr ⟨a, b, ks, k, v, rfl, rfl, hH, hb, e1, p ι H (.refl ι H) rs v e2⟩
      · exact p.elim
    · exact p.elim
  · exact .inl (p_idx ι H S x y d e Q E rs rx ry p)
noncomputable def memB (neg : Bool) (x y : D) (S : Sto) : R D := match dtR y S with
  | some kvs => (match tkey x with
    | some k => .ok (.bl (if neg then !(lkT kvs k).isSome else (lkT kvs k).isSome)) S
    | none => .fail)
  | none => memD neg x y S
noncomputable def rInK (K : PySem.W.Frag) (neg : Bool) : R2 := fun y x H Q => ∃ a b kvs k, x = .ref a ∧ y = .ref b ∧ Rd H a (.dT kvs) ∧ SqT K H b (k.map kV) ∧ Q (.bl (if neg then !(valV kvs k).isSome else (valV kvs k).isSome)) H
theorem op_inK (hu : X.A.units + 1 < cLine) : OpR X (compareOp .In) (rInK X.K false) := by
  intro pins s σ H x y v u Q I rx ry h
  obtain ⟨p, b, kvs, k, rfl, rfl, hp, hb, q⟩ := h
  cases ry
  cases rx
  exact t_in hu I hp hb fun s' I' => ⟨.bl _, H, I', rfl, q⟩
theorem op_notInK (hu : X.A.units + 1 < cLine) : OpR X (compareOp .NotIn) (rInK X.K true) := by
  intro pins s σ H x y v u Q I rx ry h
  obtain ⟨p, b, kvs, k, rfl, rfl, hp, hb, q⟩ := h
  cases ry
  cases rx
  exact t_nin hu I hp hb fun s' I' => ⟨.bl _, H, I', rfl, q⟩
theorem p_memB {neg : Bool} : Prim2 X (fun x y H Q => rInF X.K neg x y H Q ∨ rInK X.K neg x y H Q) (memB neg) := by
  intro ι H S x y d e Q E rs rx ry p
  unfold memB at p
  split at p
  · rename_i kvs h1
    split at p
    · rename_i k h2
      obtain ⟨a, ks, rfl, hH, rk⟩ := dtR_is rs ry h1
      obtain ⟨b, rfl, hb⟩ := tkey_is rx h2
      refine .inr ⟨a, b, ks, k, rfl, rfl, hH, hb, ?_⟩
      rw [rk.isSome]
      exact p ι H (.refl ι H) rs _ (.bl _)
    · exact p.elim
  · exact .inl (p_mem ι H S x y d e Q E rs rx ry p)
noncomputable def fDnewT : Fd := fun _ S => .ok (.ref S.length) (S ++ [.dit []])
theorem de_dnewT : DE X E (.Dict [] [] pos) fDnewT := pe_dnewT.weak fun σ H Q ⟨ι, δ, S, rs, re, p⟩ q hq => by
  refine p _ _ (Ext.made hq) (rs.made hq ⟨[], upd_same, .nil⟩) _ (.ref ?_)
  rw [← rs.len]
  exact getElem?_snoc ι q
noncomputable def tmtD (m : Mt) (o : D) (ds : List D) (S : Sto) : R D := match m, ds with
  | .pop, [e] => (match ditD o S, tkey e with
    | some kvs, some k => (match lkT kvs k with
      | some x => .ok x (S.set (refN o) (.dit (dropT kvs k)))
      | none => .fail)
    | _, _ => .fail)
  | .clear, [] => (match ditD o S with
    | some _ => .ok .non (S.set (refN o) (.dit []))
    | none => .fail)
  | .pop, [e, z] => (match ditD o S, tkey e with
    | some kvs, some k => .ok ((lkT kvs k).getD z) (S.set (refN o) (.dit (dropT kvs k)))
    | _, _ => .fail)
  | _, _ => .fail
noncomputable def fTmt (m : Mt) (fo : Fd) (fa : Fa) : Fd := fun δ S => (fo δ S).bind fun o S1 => if (ditD o S1).isSome = true then (fa δ S1).bind fun ds S2 => tmtD m o ds S2 else .fail
noncomputable def fMtB (m : Mt) (fo : Fd) (fa : Fa) : Fd := fun δ S => (fo δ S).bind fun o S1 => if (ditD o S1).isSome = true then (fa δ S1).bind fun ds S2 => tmtD m o ds S2 else
  if isLstR o S1 = true then (fa δ S1).bind fun ds S2 => mtD m o ds S2 else .fail
theorem fMtB_or {m : Mt} {fa : Fa} (δ : Dv) (S : Sto) : fMtB m fo fa δ S = fMt m fo fa δ S ∨ fMtB m fo fa δ S = fTmt m fo fa δ S := by
  unfold fMt fMtB fTmt
  cases h : fo δ S with
  | ok d S1 =>
    dsimp only [R.bind]
    by_cases c : (ditD d S1).isSome = true
    · right
      rw [if_pos c, if_pos c]
    · left
      rw [if_neg c]
  | exc C S1 => exact .inl rfl
  | fail => exact .inl rfl
noncomputable def rTpop (K : PySem.W.Frag) : V → List V → Hp → VK → Prop := fun x xs H Q => ∃ a b ks k, x = .ref a ∧ H a = some (.dT ks) ∧ SqT K H b (k.map kV) ∧ ((∃ v, xs = [.ref b] ∧ valV ks k = some v ∧ Q v (upd H a (.dT (dropK ks k)))) ∨ ∃ y, xs = [.ref b, y] ∧ Q ((valV ks k).getD y) (upd H a (.dT (dropK ks k))))
noncomputable def rTclear : V → List V → Hp → VK → Prop := fun x xs H Q => ∃ a ks, x = .ref a ∧ xs = [] ∧ H a = some (.dT ks) ∧ Q .non (upd H a (.dT []))
theorem mt_tpop (hu : X.A.units + 1 < cLine) : MtR X "dict.pop" (rTpop X.K) := by
  intro pins s σ H x xs v us Q I rx rs q
  obtain ⟨a, b, ks, k, rfl, hH, hb, ⟨z, rfl, hv, q⟩ | ⟨y, rfl, q⟩⟩ := q
  · cases rx
    obtain ⟨u, rfl, ru⟩ := vals1 rs
    cases ru
    exact t_pop hu I hH hb hv fun w' s' I' rw' => ⟨z, _, I', rw', q⟩
  · cases rx
    cases rs with
    | cons r1 r2 =>
      obtain ⟨u, rfl, ru⟩ := vals1 r2
      cases r1
      exact t_pop2 hu I hH hb ru fun w' s' I' rw' => ⟨_, _, I', rw', q⟩
theorem RTs.getD {M : Mo} {ι : List Addr} {H : Hp} {ks : List (List Key × V)} {kvs : List (D × D)} {k : List Key} {y : V} {z : D} (r : RTs M ι H ks kvs) (h : RD M ι H y z) : RD M ι H ((valV ks k).getD y) ((lkT kvs k).getD z) := by
  obtain ⟨h1, h2⟩ := r.val (k := k)
  cases e : lkT kvs k with
  | none => rw [h2 e]; exact h
  | some d =>
    obtain ⟨v, q, rd⟩ := h1 d e
    rw [q]
    exact rd
theorem mt_tclear : MtR X "dict.clear" rTclear := by
  intro pins s σ H x xs v us Q I rx rs q
  obtain ⟨a, ks, rfl, rfl, hH, q⟩ := q
  cases rx
  cases rs
  exact t_clear I hH fun s' I' => ⟨.non, _, I', rfl, q⟩
theorem dit_ty {ι : List Addr} {H : Hp} {S : Sto} {v : V} {d : D} (rs : RelS X.mo ι H S) (r : RD X.mo ι H v d) (h : (ditD d S).isSome = true) : tyV X.K "dict" v H := by
  obtain ⟨kvs, hk⟩ := Option.isSome_iff_exists.mp h
  obtain ⟨n, p, ks, rfl, rfl, _, _, hH, _⟩ := ditD_is rs r hk
  exact .inr (.inr (.inl ⟨rfl, .inr ⟨ks, hH⟩⟩))
theorem p_tpop {ι : List Addr} {H : Hp} {S : Sto} {v : V} {d : D} {vs : List V} {ds : List D} {Q : VK} {E' : Value → Hp → Prop} (rs : RelS X.mo ι H S) (ro : RD X.mo ι H v d) (rv : RDs X.mo ι H vs ds)
    (p : Post X.mo ι H (tmtD .pop d ds S) (fun ι' H' _ d => ∀ v, RD X.mo ι' H' v d → Q v H') E') : rTpop X.K v vs H Q := by
  unfold tmtD at p
  split at p
  · rename_i e _
    obtain ⟨y, rfl, ry⟩ := rv.one
    split at p
    · rename_i kvs k h1 h2
      split at p
      · rename_i z hz
        obtain ⟨n, a, ks, rfl, rfl, hι, hS, hH, rk⟩ := ditD_is rs ro h1
        obtain ⟨w, e1, e2⟩ := rk.val.1 _ hz
        obtain ⟨b, rfl, hb⟩ := tkey_is ry h2
        obtain ⟨x1, x2⟩ := rs.tput hι hH (rk.drop (k := k))
        exact ⟨a, b, ks, k, rfl, hH, hb, .inl ⟨w, rfl, e1, p ι _ x1 x2 w (e2.ext x1)⟩⟩
      · exact p.elim
    · exact p.elim
  · rename_i hq
    cases hq
  · obtain ⟨y, u, rfl, ry, ru⟩ := rv.two
    split at p
    · rename_i kvs k h1 h2
      obtain ⟨n, a, ks, rfl, rfl, hι, hS, hH, rk⟩ := ditD_is rs ro h1
      obtain ⟨b, rfl, hb⟩ := tkey_is ry h2
      obtain ⟨x1, x2⟩ := rs.tput hι hH (rk.drop (k := k))
      exact ⟨a, b, ks, k, rfl, hH, hb, .inr ⟨u, rfl, p ι _ x1 x2 _ ((rk.getD ru).ext x1)⟩⟩
    · exact p.elim
  · exact p.elim
theorem p_tclear {ι : List Addr} {H : Hp} {S : Sto} {v : V} {d : D} {vs : List V} {ds : List D} {Q : VK} {E' : Value → Hp → Prop} (rs : RelS X.mo ι H S) (ro : RD X.mo ι H v d) (rv : RDs X.mo ι H vs ds)
    (p : Post X.mo ι H (tmtD .clear d ds S) (fun ι' H' _ d => ∀ v, RD X.mo ι' H' v d → Q v H') E') : rTclear v vs H Q := by
  cases rv with
  | nil =>
    replace p : Post X.mo ι H (match ditD d S with | some _ => R.ok .non (S.set (refN d) (.dit [])) | none => .fail) (fun ι' H' _ d => ∀ v, RD X.mo ι' H' v d → Q v H') E' := p
    split at p
    · rename_i kvs h1
      obtain ⟨n, a, ks, rfl, rfl, hι, hS, hH, rk⟩ := ditD_is rs ro h1
      obtain ⟨x1, x2⟩ := rs.tput hι hH (ks' := []) (kvs := []) .nil
      exact ⟨a, ks, rfl, rfl, hH, p ι _ x1 x2 _ .non⟩
    · exact p.elim
  | cons r t => exact p.elim
theorem de_tpop {apos cpos : Pos} {fa : Fa} (hu : X.A.units + 1 < cLine) (ho : DE X E o fo) (ha : DA X E (e :: es) fa)
    (hbase : attributeBase o "pop" X.env (eval o X.env) = eval o X.env)
    (hfew : ((backTo cpos (starEach (e :: es) X.env)).all (fun x => !x.1) && (backToKw cpos (keywordEach [] X.env)).all (fun x => x.1.isSome)
      && decide ((e :: es).length + ([] : List Keyword).length + (if ([] : List Keyword).isEmpty then 0 else 1) < 30)) = true)
    (hline : (apos.endLine == cpos.line) = true) (hs : starEach (e :: es) X.env = (false, eval e X.env) :: starEach es X.env) (hplain : (backTo cpos (starEach es X.env)).any (·.1) = false) :
    DE X E (.Call (.Attribute o "pop" apos) (e :: es) [] cpos) (fTmt .pop fo fa) :=
  (pe_bm PySem.F.plainAttrs_dict PySem.F.slot_dict_pop PySem.F.type_dict_pop (mt_tpop hu) ho ha hbase hfew hline hs hplain).weak fun σ H Q ⟨ι, δ, S, rs, re, q⟩ => tOf.step rs re (Post.bind q) fun ι1 H1 S1 d v x1 r1 re1 p1 rv1 => by
    by_cases hk : (ditD d S1).isSome = true
    · rw [if_pos hk] at p1
      exact ⟨dit_ty r1 rv1 hk, aOf.step r1 re1 (Post.bind p1) fun ι2 H2 S2 ds vs x2 r2 re2 p2 rv2 => p_tpop r2 (rv1.ext x2) rv2 p2⟩
    · rw [if_neg hk] at p1
      exact p1.elim
theorem de_tclear {apos cpos : Pos} (ho : DE X E o fo) (hbase : attributeBase o "clear" X.env (eval o X.env) = eval o X.env) (hline : (apos.endLine == cpos.line) = true) : DE X E (.Call (.Attribute o "clear" apos) [] [] cpos) (fTmt .clear fo aNil) :=
  (pe_bm0 PySem.F.plainAttrs_dict PySem.F.slot_dict_clear PySem.F.type_dict_clear mt_tclear ho hbase hline).weak fun σ H Q ⟨ι, δ, S, rs, re, q⟩ => tOf.step rs re (Post.bind q) fun ι1 H1 S1 d v x1 r1 re1 p1 rv1 => by
    by_cases hk : (ditD d S1).isSome = true
    · rw [if_pos hk] at p1
      exact ⟨dit_ty r1 rv1 hk, p_tclear r1 rv1 .nil p1⟩
    · rw [if_neg hk] at p1
      exact p1.elim
noncomputable def listB (ds : List D) (S : Sto) : R D := match ds with
  | [o] => match ditD o S with
    | some kvs => mkLst (kvs.map (·.1)) S
    | none => listD [o] S
  | _ => .fail
noncomputable def tputD (o : D) (is : List D) (d : D) (S : Sto) : Option Sto := match ditD o S, tkeys is with
  | some kvs, some k => if kvs.length < lim ∧ is.length ≤ lim then some (S.set (refN o) (.dit (putT kvs k d))) else none
  | _, _ => none
noncomputable def sStoT (fo : Fd) (fi : Fa) (fe : Fd) : Fs := fun δ S => (fe δ S).toS δ fun d S1 => (fo δ S1).toS δ fun o S2 => (fi δ S2).toS δ fun is S3 => match tputD o is d S3 with
  | some S4 => .next δ S4
  | none => .fail
theorem ds_stoT {p p' : Pos} {k' : Nat} {o e : Expr} {is : List Expr} {fo fe : Fd} {fi : Fa} (hu : X.A.units + 1 < cLine) (ho : DE X E o fo) (hi : DA X E is fi) (he : DE X E e fe) (hs : swapsWithSole [.Subscript o (.Tuple is k' p') p] e pos.line X.env = pure false) (hw : swappedStores [.Subscript o (.Tuple is k' p') p] e X.env = pure none)
    (ha : ∀ v, assign (.Subscript o (.Tuple is k' p') p) X.env v = (do
      let ov ← holding [v] (eval o X.env)
      let iv ← holding [v, ov] (eval (.Tuple is k' p') X.env)
      standAt p
      holding [v, ov, iv] (setItem ov iv v)
      release [v, ov, iv] [])) : DS X E (.Assign [.Subscript o (.Tuple is k' p') p] e pos) (sStoT fo fi fe) :=
  (ps_asg he (pg_sub ho (pe_tup hi) (set_dict hu) ha) hs hw rfl).weak fun D σ H ⟨ι, δ, S, rs, re, q⟩ => tOf.step rs re (PostS.toS q re) fun ι1 H1 S1 d v x1 r1 re1 p1 rv1 =>
    tOf.step r1 re1 (PostS.toS p1 re1) fun ι2 H2 S2 od vo x2 r2 re2 p2 rv2 => aOf.step r2 re2 (PostS.toS p2 re2) fun ι3 H3 S3 ids vis x3 r3 re3 p3 rv3 => by
      have rv := (rv1.ext x2).ext x3
      have rvo := rv2.ext x3
      cases hd : tputD od ids d S3 with
      | none => rw [hd] at p3; exact p3.elim
      | some S4 =>
        rw [hd] at p3
        unfold tputD at hd
        split at hd
        · rename_i kvs k h1 h2
          split at hd
          · rename_i hlt
            cases hd
            obtain ⟨n', a, ks, rfl, rfl, hι, hS, hH, rk⟩ := ditD_is r3 rvo h1
            have ev := tkeys_is rv3 h2
            subst ev
            refine ⟨by rw [rv3.length]; exact Nat.le_trans hlt.2 lim_line, fun b hb => ?_⟩
            have xb : Ext ι3 H3 ι3 (upd H3 b (.tup (k.map kV))) := Ext.laid hb
            have r3' := r3.laid (u := .tup (k.map kV)) hb
            have hab : a ≠ b := by rintro rfl; rw [hH] at hb; cases hb
            have hH' : upd H3 b (.tup (k.map kV)) a = some (.dT ks) := by rw [upd_ne hab]; exact hH
            obtain ⟨e1, e2⟩ := r3'.tput hι hH' ((rk.mono xb.pre xb.ts).put (k := k) (rv.ext xb))
            exact ⟨a, _, rfl, DPut.t hH' upd_same (by rw [rk.length]; exact Nat.lt_of_lt_of_le hlt.1 lim_line), p3 ι3 _ _ (xb.trans e1) e2 (re3.ext (xb.trans e1))⟩
          · cases hd
        · cases hd
end
noncomputable def trDict (ks : List (Option Expr)) (vs : List Expr) : Option Unit := match ks, vs with
  | [], [] => some ()
  | _, _ => none
noncomputable def fMtX : Mt → Fd → Fa → Fd
  | .pop => fMtB .pop
  | .clear => fMtB .clear
  | m => fMt m
noncomputable def Dk : HO → Prop
  | .dK _ => True
  | .dT _ => True
  | _ => False
section
variable {X : Cx} {pins : List (Addr × Obj)} {σ : St} {H : Hp} {s : Shared} {a : Addr} {u : HO}
theorem Dk.nt (d : Dk u) : (∀ xs, HO.tup xs ≠ u) ∧ (∀ ps, HO.tbl ps ≠ u) ∧ ∀ x, HO.own x ≠ u := ⟨fun _ z => by subst z; exact d, fun _ z => by subst z; exact d, fun _ z => by subst z; exact d⟩
theorem Dk.mu (d : Dk u) : Mut (some u) := by cases u <;> first | trivial | exact False.elim d
theorem Inv.ghost {w u : HO} (I : Inv X pins σ H s) (h : H a = some w) (ht : ∀ xs, HO.tup xs ≠ w) (hf : ∀ o v, X.H₀ a ≠ some (.frz o v)) (hb : ∀ ps, HO.tbl ps ≠ w) (ho : ∀ x, HO.own x ≠ w)
    (new : ObjOk X.prog X.w (upd H a u) s.heap a u) : Inv X pins σ (upd H a u) s := by
  have ne : ∀ b v, H b = some v → v ≠ w → b ≠ a := by
    rintro b v q n rfl
    rw [h] at q
    exact n (Option.some.inj q).symm
  refine ⟨I.ok, I.os, I.bare, ⟨I.base.keep, I.base.slot, fun b ob q n hx => ?_, I.base.there, fun b xs q => ?_, fun b ob v q => ?_, fun b ps q => ?_⟩, I.loc, I.cell, ?_, fun x c e => ?_, fun p hq => ?_, fun b v e => ?_, I.len⟩
  · have z := I.base.free b ob q n hx
    rw [upd_ne (by rintro rfl; rw [h] at z; cases z)]; exact z
  · have z := I.base.tups b xs q
    rw [upd_ne (ne b _ z (ht xs))]; exact z
  · have z := I.base.frzs b ob v q
    rw [upd_ne (by rintro rfl; exact hf _ _ q)]; exact z
  · obtain ⟨more, z⟩ := I.base.tbls b ps q
    exact ⟨more, by rw [upd_ne (ne b _ z (hb _))]; exact z⟩
  · rw [upd_ne (by intro e; have z := I.free; rw [e, h] at z; cases z)]; exact I.free
  · rw [upd_ne (by intro e'; have z := I.freeC x c e; rw [e', h] at z; cases z)]; exact I.freeC x c e
  · obtain ⟨z1, z2, z3⟩ := I.pin p hq
    exact ⟨z1, by rw [upd_ne (by intro e; rw [e, h] at z2; cases z2)]; exact z2, z3⟩
  · by_cases hba : b = a
    · subst hba; rw [upd_same] at e; cases e; exact new
    · rw [upd_ne hba] at e
      exact (I.hok b v e).stay (fun _ _ _ q => q) (fun c q => by rw [upd_ne (ne c _ q (ho _))]; exact q) fun c xs q => by rw [upd_ne (ne c _ q (ht xs))]; exact q
theorem Inv.freeze {o : Obj} (d : Dk u) (I : Inv X pins σ H s) (h : H a = some u) (e : s.heap.get? a = some o) : (∀ o v, X.H₀ a ≠ some (.frz o v)) ∧ Inv X pins σ (upd H a (.frz o u)) s := by
  obtain ⟨n1, n2, n3⟩ := d.nt
  have hf : ∀ o v, X.H₀ a ≠ some (.frz o v) := fun o v q => by
    have z := I.base.frzs a o v q
    rw [h] at z
    cases z
    exact d
  exact ⟨hf, I.ghost h n1 hf n2 n3 ⟨e, (I.hok a _ h).stay (fun _ _ _ q => q) (fun c q => by rw [upd_ne (by rintro rfl; rw [h] at q; exact n3 _ (Option.some.inj q).symm)]; exact q) fun c xs q => by rw [upd_ne (by rintro rfl; rw [h] at q; exact n1 _ (Option.some.inj q).symm)]; exact q⟩⟩
theorem Inv.thaw {o : Obj} (I : Inv X pins σ H s) (h : H a = some (.frz o u)) (hf : ∀ o v, X.H₀ a ≠ some (.frz o v)) : Inv X pins σ (upd H a u) s :=
  I.ghost h (fun _ z => by cases z) hf (fun _ z => by cases z) (fun _ z => by cases z)
    ((show ObjOk X.prog X.w H s.heap a u from (I.hok a _ h).2).stay (fun _ _ _ z => z) (fun c z => by rw [upd_ne (by rintro rfl; rw [h] at z; cases z)]; exact z) fun c xs z => by rw [upd_ne (by rintro rfl; rw [h] at z; cases z)]; exact z)
noncomputable def Itd (a : Addr) (o : Obj) (ks : List (List Key × V)) : It :=
  ⟨fun i H => H a = some (.frz o (.dT ks)) ∧ i < ks.length, fun i H x H' => H' = H ∧ ∃ kv b, ks[i]? = some kv ∧ x = .ref b ∧ H b = some (.tup (kv.1.map kV)), fun i H => H a = some (.frz o (.dT ks)) ∧ ks.length ≤ i⟩
theorem KT.at {H : Hp} : ∀ {ks : List (List Key × V)} {xs : List Ent} {i : Nat} {x : Ent}, KT H ks xs → xs[i]? = some x → ∃ kv, ks[i]? = some kv ∧ H x.2.1 = some (.tup (kv.1.map kV))
  | _, _, _, _, .nil, h => by simp at h
  | kv :: _, _, 0, _, .cons r _, h => by simp at h; subst h; exact ⟨kv, rfl, r.2.1⟩
  | _, _, i + 1, _, .cons _ t, h => by
    obtain ⟨kv, e1, e2⟩ := KT.at (i := i) t (by simpa using h)
    exact ⟨kv, by simpa using e1, e2⟩
theorem turn_dict {P : Program} {w : World} {K : PySem.W.Frag} {tg : Expr} {a it : Addr} {o : Obj} {ks : List (List Key × V)} {es : Array DictEntry} {ep : Nat} (dd : o.data = .dict es ep) (hl : es.size = ks.length) (hne : a ≠ it) :
    Turn P w K tg (Itd a o ks) [it] it (fun i h => h.IsKeyIter it a i es.size ep) where
  mem := by simp
  obj := fun i h st b hb => by
    have e : b = it := by simpa using hb
    subst e
    obtain ⟨o, e, c, d⟩ := st
    exact ⟨o, e, fun v z => by rw [d] at z; cases z⟩
  keep := fun i h h' st k => st.at fun o e => k it (by simp) o e
  item := by
    intro X hP hw hK hc i pins s σ H E I hf st hg
    subst hP hw hK
    obtain ⟨hH, hi⟩ := hg
    obtain ⟨f0, f1, f2, f3, f4, f5⟩ := hf it (by simp)
    obtain ⟨ha, z, nm, xs, rel, o', es', ep', g', c', d', e', n'⟩ := (show s.heap.get? a = some o ∧ ObjOk X.prog X.w H s.heap a (.dT ks) from I.hok a _ hH)
    rw [ha] at g'
    cases g'
    rw [dd] at d'
    cases d'
    refine raw_turn (I.ok.hd hc) st ha dd (fun hi' h' nx sb => ?_) (fun hg => absurd hi (by omega))
    have I1 : Inv X pins σ H { s with heap := h' } := I.turned (t' := s.toks) (fun b o hb e => (sb.2 b (by simpa using hb)).trans e) f0 f1 f3 f4 f5
    obtain ⟨ob, e1, e2, e3⟩ := id nx
    have en := entry_at e' i
    rw [Array.getElem?_eq_getElem hi'] at en
    cases hx : xs[i]? with
    | none => rw [hx] at en; cases en
    | some x =>
      rw [hx] at en
      have ek : es[i].key = .ref x.2.1 := by rw [Option.some.inj en]; rfl
      obtain ⟨kv, k1, k2⟩ := KT.at rel hx
      rw [ek]
      exact ⟨_, rfl, go_of (s := { s with heap := h' }) e1 e2 e3 (by decide) ⟨.ref x.2.1, H, I1, rfl, ⟨rfl, kv, x.2.1, k1, rfl, k2⟩, nx, fun b hb => (hf b hb).1⟩⟩
  done := by
    intro X hP hw hK hc i pins s σ H E I hf st hg
    subst hP hw hK
    obtain ⟨hH, hi⟩ := hg
    obtain ⟨f0, f1, f2, f3, f4, f5⟩ := hf it (by simp)
    have ha : s.heap.get? a = some o := (I.hok a _ hH).1
    exact raw_turn (I.ok.hd hc) st ha dd (fun hi' => absurd hi' (by omega)) fun _ h' he' => ⟨rfl, I.turned (t' := s.toks) (fun b o hb e => he' b o hb e) f0 f1 f3 f4 f5⟩
  self := fun _ _ _ _ _ st h => wpAny_pyIter_keyiter st h
noncomputable def iDct (X : Cx) (tl : TE) : TI := fun σ H R => tl σ H fun x H1 => ∃ a ks, x = .ref a ∧ H1 a = some (.dT ks) ∧ ∀ o, (∀ o v, X.H₀ a ≠ some (.frz o v)) → R (Itd a o ks) (upd H1 a (.frz o (.dT ks)))
theorem pi_dct {tg l : Expr} {tl : TE} (hl : PE X l tl) : PI X tg l (iDct X tl) := by
  intro pins s σ H R I h
  refine thn (hl pins s σ H _ I h) fun v s1 ⟨x, H1, I1, r1, q1⟩ => ?_
  obtain ⟨a, ks, e, hH, q⟩ := q1
  subst e
  cases r1
  obtain ⟨z, nm, xs, rel, o, es, ep, ho, dc, dd, de, _, _⟩ := dt_of I1.hok hH
  obtain ⟨hf, J⟩ := I1.freeze (u := .dT ks) trivial hH ho
  refine raw_iter nm ho dc dd ?_
  have hne : a ≠ s1.heap.objs.size := Nat.ne_of_lt (Heap.lt_size ho)
  refine ⟨s1.heap.objs.size, [s1.heap.objs.size], _, _, upd H1 a (.frz o (.dT ks)), rfl, J.kept (t' := s1.toks) fun b o e => Heap.get?_push_of_some _ e, turn_dict dd (by rw [size_of_entries de, ← Paired.length rel]) hne, ⟨_, Heap.get?_push_size _ rfl, rfl, rfl⟩, fun b hb => ?_, q o hf⟩
  have e : b = s1.heap.objs.size := by simpa using hb
  subst e
  exact J.fpOk (Nat.le_refl _) (J.hok.fresh (Nat.le_refl _))
noncomputable def thawX (X : Cx) (P : Hp → Prop) (H : Hp) : Prop := P H ∨ ∃ a o u, H a = some (.frz o u) ∧ (∀ o v, X.H₀ a ≠ some (.frz o v)) ∧ P (upd H a u)
noncomputable def thawE (X : Cx) (D : Ends) : Ends where
  nx := fun σ => thawX X (D.nx σ)
  rt := fun v => thawX X (D.rt v)
  bk := fun σ => thawX X (D.bk σ)
  ct := fun σ => thawX X (D.ct σ)
theorem ps_thaw {st : Stmt} {t : TS} (h : PS X st t) : PS X st (fun D σ H => t (thawE X D) σ H) := by
  intro pins s σ H D I q
  refine thn (h pins s σ H _ I q) fun f s1 h1 => ?_
  cases f with
  | ret u =>
    obtain ⟨v, σ', H', I', r, q | ⟨a, o, ks, e1, e2, q⟩⟩ := h1
    · exact ⟨v, σ', H', I', r, q⟩
    · exact ⟨v, σ', _, I'.thaw e1 e2, r, q⟩
  | _ =>
    obtain ⟨σ', H', I', q | ⟨a, o, ks, e1, e2, q⟩⟩ := h1
    · exact ⟨σ', H', I', q⟩
    · exact ⟨σ', _, I'.thaw e1 e2, q⟩
end
section
variable {M : Mo} {ι ι' : List Addr} {H H' : Hp} {S : Sto}
theorem Ext.thaw {p : Addr} {u u' : HO} (m : Mut (H p)) (x : Ext ι (upd H p u) ι' H') : Ext ι H ι' (upd H' p u') := by
  have nt : ∀ {w : HO}, H p = some w → ¬ Mut (some w) → False := fun e n => n (e ▸ m)
  have go : ∀ {a : Addr} {w : HO}, H a = some w → ¬ Mut (some w) → (upd H p u a = some w → H' a = some w) → upd H' p u' a = some w := fun {a w} e n k => by
    have ne : a ≠ p := by rintro rfl; exact nt e n
    rw [upd_ne ne]
    exact k (by rw [upd_ne ne]; exact e)
  refine ⟨x.pre, ⟨fun a xs h => ?_,
    fun a xs h => go h id fun z => x.ts.tp a xs z,
    fun a ob xs h => go h id fun z => x.fz a ob _ z⟩, fun a ob w h => go h id fun z => x.fz a ob w z⟩
  have ne : a ≠ p := by
    rintro rfl
    rcases h with h | ⟨_, h⟩
    · exact nt h id
    · exact nt h id
  have h3 := x.ts.tup a xs (by unfold Rd; rw [upd_ne ne]; exact h)
  unfold Rd at h3 ⊢
  rw [upd_ne ne]
  exact h3
theorem TSm.unfz {p : Addr} {o : Obj} {u : HO} (d : Dk u) (h : H p = some (.frz o u)) : TSm H (upd H p u) := by
  obtain ⟨n1, n2, n3⟩ := d.nt
  refine TSm.of_keep upd_keep (fun xs r => ?_) (fun o xs r => ?_)
  · rcases r with r | ⟨_, r⟩ <;> rw [h] at r <;> cases r
    exact d
  · rw [h] at r
    cases r
    exact d
theorem RelS.thaw {n : Nat} {p : Addr} {o : Obj} {ks : List (List Key × V)} {kvs : List (D × D)} (h : RelS M ι H S) (hn : ι[n]? = some p) (hp : H p = some (.frz o (.dT ks))) (r : RTs M ι H ks kvs) : RelS M ι (upd H p (.dT ks)) (S.set n (.dit kvs)) := by
  have ts := TSm.unfz (u := .dT ks) trivial hp
  refine ⟨by rw [List.length_set]; exact h.len, h.nd, fun m a o' h1 h2 => ?_⟩
  by_cases hm : m = n
  · subst hm
    rw [hn] at h1; cases h1
    have hl : m < S.length := by rw [← h.len]; exact (List.getElem?_eq_some_iff.mp hn).1
    rw [List.getElem?_set_self hl] at h2
    cases h2
    exact ⟨ks, upd_same, r.mono (fun _ _ q => q) ts⟩
  · rw [List.getElem?_set_ne (Ne.symm hm)] at h2
    have hne : a ≠ p := fun e => by
      subst e
      exact hm (nodup_at h.nd h1 hn)
    refine (h.obj m a o' h1 h2).keep (fun _ _ q => q) ts fun b w q hb => ?_
    have nb : b ≠ p := by
      rintro rfl
      rcases hb with z | ⟨x, z⟩
      · exact hne z.symm
      · subst z
        rw [hp] at q
        cases q
    rw [upd_ne nb]; exact q
theorem RelE.unfz {n : Nat} {σ : St} {δ : Dv} {p : Addr} {o : Obj} {u : HO} (h : RelE M ι H n σ δ) (d : Dk u) (hp : H p = some (.frz o u)) : RelE M ι (upd H p u) n σ δ :=
  ⟨h.len, h.dl, fun i d' q => let ⟨v, h1, h2⟩ := h.get i d' q; ⟨v, h1, h2.mono (fun _ _ q => q) (TSm.unfz d hp)⟩⟩
theorem rds_key (k : List Key) : RDs M ι H (k.map kV) (k.map keyD) := by
  induction k with
  | nil => exact .nil
  | cons x k i => exact .cons (rd_key _) i
theorem RTs.keyAt {ks : List (List Key × V)} {kvs : List (D × D)} (r : RTs M ι H ks kvs) : kvs.map (·.1) = ks.map fun kv => D.tup (kv.1.map keyD) := by
  induction r with
  | nil => rfl
  | cons h t ih => rw [List.map_cons, List.map_cons, ih]
theorem JOk.dct {a : Addr} {o : Obj} {ks : List (List Key × V)} {kvs : List (D × D)} (hH : H a = some (.frz o (.dT ks))) (rk : RTs M ι H ks kvs) : JOk M ι H (Itd a o ks) (.its (kvs.map (·.1))) := by
  intro ι' H' S' x rs ds hc i
  cases hc
  have e := x.fz a o _ hH
  rw [rk.keyAt]
  refine ⟨fun d hd => ?_, fun hl => ⟨e, by simpa using hl⟩⟩
  rw [List.getElem?_map] at hd
  obtain ⟨kv, h1, rfl⟩ := Option.map_eq_some_iff.mp hd
  refine ⟨⟨e, (List.getElem?_eq_some_iff.mp h1).1⟩, fun y H'' hy => ?_⟩
  obtain ⟨e1, kv', b, e2, e3, e4⟩ := hy
  subst e1 e3
  rw [h1] at e2
  cases e2
  exact ⟨.refl _ _, rs, .tup (SqU.of e4) (rds_key _)⟩
noncomputable def thawS (n : Nat) (kvs : List (D × D)) : RS → RS
  | .next δ S => .next δ (S.set n (.dit kvs))
  | .ret d S => .ret d (S.set n (.dit kvs))
  | .brk δ S => .brk δ (S.set n (.dit kvs))
  | .cnt δ S => .cnt δ (S.set n (.dit kvs))
  | .exc C δ S => .exc C δ S
  | .fail => .fail
theorem thaw_post {X : Cx} {N n : Nat} {E : St → XK} {r : RS} {Dn : Ends} {a : Addr} {o : Obj} {ks : List (List Key × V)} {kvs : List (D × D)} (ha : ι[n]? = some a) (hH : H a = some (.dT ks)) (rk : RTs M ι H ks kvs) (hf : ∀ o v, X.H₀ a ≠ some (.frz o v))
    (p : PostS M N ι H (thawS n kvs r) Dn E) : PostS M N ι (upd H a (.frz o (.dT ks))) r (thawE X Dn) E := by
  have mu : Mut (H a) := by rw [hH]; trivial
  have dk : Dk (.dT ks) := trivial
  have rk' : ∀ {ι' H'}, Ext ι (upd H a (.frz o (.dT ks))) ι' H' → RTs M ι' H' ks kvs := fun x => rk.mono ((Ext.set mu).trans x).pre ((Ext.set mu).trans x).ts
  have fz : ∀ {ι' H'}, Ext ι (upd H a (.frz o (.dT ks))) ι' H' → H' a = some (.frz o (.dT ks)) := fun x => x.fz a o _ upd_same
  cases r with
  | next δ S => exact fun ι' H' σ' x r' re' => .inr ⟨a, o, _, fz x, hf, p ι' _ σ' (Ext.thaw mu x) (r'.thaw (x.pre _ _ ha) (fz x) (rk' x)) (re'.unfz dk (fz x))⟩
  | ret d S => exact fun ι' H' v x r' rv => .inr ⟨a, o, _, fz x, hf, p ι' _ v (Ext.thaw mu x) (r'.thaw (x.pre _ _ ha) (fz x) (rk' x)) (rv.mono (fun _ _ q => q) (TSm.unfz dk (fz x)))⟩
  | brk δ S => exact fun ι' H' σ' x r' re' => .inr ⟨a, o, _, fz x, hf, p ι' _ σ' (Ext.thaw mu x) (r'.thaw (x.pre _ _ ha) (fz x) (rk' x)) (re'.unfz dk (fz x))⟩
  | cnt δ S => exact fun ι' H' σ' x r' re' => .inr ⟨a, o, _, fz x, hf, p ι' _ σ' (Ext.thaw mu x) (r'.thaw (x.pre _ _ ha) (fz x) (rk' x)) (re'.unfz dk (fz x))⟩
  | exc C δ S => exact fun ι' H' σ' Ca x r' re' m => p ι' H' σ' Ca ((Ext.set mu).trans x) r' re' m
  | fail => exact p
end
section
variable {X : Cx} {E : St → XK} {pos : Pos} {tg : Expr}
noncomputable def sForK (fe : Fd) (g : Fg) (b : Fs) (B : Nat) : Fs := fun δ S => (noxR (fe δ S)).toS δ fun d S1 => match d with
  | .ref n => match S1[n]? with
    | some (.dit kvs) => thawS n kvs (forD (.its (kvs.map (·.1))) g b B 0 δ (S1.set n (.fdt kvs)))
    | _ => .fail
  | _ => .fail
theorem ds_forK {iter : Expr} {body : List Stmt} {fe : Fd} {g : Fg} {fb : Fs} (B : Nat) (hc : X.calm = true) (he : DE X.nox En iter fe) (hg : DG X.nox tg g) (hb : DSs X.nox En body fb) (hs : ∀ x, foldedSetIterable iter X.env x = pure x) :
    DS X E (.For tg iter body [] pos) (sForK fe g fb B) :=
  (PS.nox (ps_thaw (ps_for (X := X.nox) PassesOwn.never hc (pi_dct he) hg hb hs))).weak fun D σ H ⟨ι, δ, S, rs, re, p⟩ => by
    refine tOf.step (M := X.mo) (n := X.N.length) (E := En) rs re (noxR_toS p re) fun ι1 H1 S1 d v x1 r1 re1 p1 rv1 => ?_
    split at p1
    · rename_i n
      split at p1
      · rename_i kvs hk
        cases rv1 with
        | @ref a n ha =>
          obtain ⟨ks, hH, rk⟩ := r1.obj n a _ ha hk
          refine ⟨a, ks, rfl, hH, fun o hf => ?_⟩
          have mu : Mut (H1 a) := by rw [hH]; trivial
          have x2 : Ext ι1 H1 ι1 (upd H1 a (.frz o (.dT ks))) := Ext.set mu
          have r2 : RelS X.mo ι1 (upd H1 a (.frz o (.dT ks))) (S1.set n (.fdt kvs)) := r1.set ha mu ⟨o, ks, upd_same, rk.mono x2.pre x2.ts⟩
          exact for_core (X := X.nox) (JOk.dct upd_same (rk.mono x2.pre x2.ts)) r2 (re1.ext x2) (thaw_post (X := X.nox) ha hH rk hf p1)
      · exact p1.elim
    · exact p1.elim
noncomputable def isDic (d : D) (S : Sto) : Bool := (ditD d S).isSome
noncomputable def sForA (fe : Fd) (g : Fg) (b : Fs) (B : Nat) : Fs := fun δ S => match fe δ S with
  | .ok d S1 => if isDic d S1 = true then sForK fe g b B δ S else sFor (iVal fe) g b B δ S
  | _ => sFor (iVal fe) g b B δ S
theorem ds_two {st : Stmt} {f f1 f2 : Fs} (h1 : DS X E st f1) (h2 : DS X E st f2) (w : ∀ δ S, f δ S = f1 δ S ∨ f δ S = f2 δ S) : DS X E st f := by
  intro pins s σ H D I h
  obtain ⟨ι, δ, S, rs, re, p⟩ := h
  rcases w δ S with q | q
  · rw [q] at p
    exact h1 pins s σ H D I ⟨ι, δ, S, rs, re, p⟩
  · rw [q] at p
    exact h2 pins s σ H D I ⟨ι, δ, S, rs, re, p⟩
theorem sForA_or {fe : Fd} {g : Fg} {b : Fs} {B : Nat} (δ : Dv) (S : Sto) : sForA fe g b B δ S = sForK fe g b B δ S ∨ sForA fe g b B δ S = sFor (iVal fe) g b B δ S := by
  unfold sForA
  split
  · split
    · exact .inl rfl
    · exact .inr rfl
  · exact .inr rfl
noncomputable def sForX (fv : Option Fd) (fi : Fi) (g : Fg) (b : Fs) (B : Nat) : Fs := match fv with
  | some fe => sForA fe g b B
  | none => sFor fi g b B
end
section
variable {X : Cx} {E : St → XK} {pos : Pos} {o : Expr} {fo : Fd} {fa : Fa}
theorem tkey_tup {M : Mo} {ι : List Addr} {H : Hp} {v : V} {d : D} {k : List Key} (r : RD M ι H v d) (h : tkey d = some k) : ∃ b, v = .ref b ∧ H b = some (.tup (k.map kV)) := by
  cases r with
  | @tup a xs ds s t =>
    have e := tkeys_is t h
    subst e
    exact ⟨a, rfl, s⟩
  | _ => cases h
noncomputable def stoB (o i d : D) (S : Sto) : Option Sto := match ditD o S with
  | some kvs => (match tkey i with
    | some k => if kvs.length < lim then some (S.set (refN o) (.dit (putT kvs k d))) else none
    | none => none)
  | none => stoD o i d S
theorem PSet.or {t t' : TSet} (h : PSet X t) (h' : PSet X t') : PSet X (fun o i v H Q => t o i v H Q ∨ t' o i v H Q) := by
  intro pins s σ H o i v ov iv u Q I ro ri rv q
  rcases q with q | q
  · exact h pins s σ H o i v ov iv u Q I ro ri rv q
  · exact h' pins s σ H o i v ov iv u Q I ro ri rv q
noncomputable def sStoB (fo fi fe : Fd) : Fs := fun δ S => (fe δ S).toS δ fun d S1 => (fo δ S1).toS δ fun o S2 => (fi δ S2).toS δ fun i S3 => match stoB o i d S3 with
  | some S4 => .next δ S4
  | none => .fail
theorem ds_stoB {p : Pos} {o i e : Expr} {fo fi fe : Fd} (hu : X.A.units + 1 < cLine) (ho : DE X E o fo) (hi : DE X E i fi) (he : DE X E e fe) (hs : swapsWithSole [.Subscript o i p] e pos.line X.env = pure false) (hw : swappedStores [.Subscript o i p] e X.env = pure none)
    (ha : ∀ v, assign (.Subscript o i p) X.env v = (do
      let ov ← holding [v] (eval o X.env)
      let iv ← holding [v, ov] (eval i X.env)
      standAt p
      holding [v, ov, iv] (setItem ov iv v)
      release [v, ov, iv] [])) : DS X E (.Assign [.Subscript o i p] e pos) (sStoB fo fi fe) :=
  (ps_asg he (pg_sub ho hi (set_list.or (set_dict hu)) ha) hs hw rfl).weak fun D σ H ⟨ι, δ, S, rs, re, q⟩ => tOf.step rs re (PostS.toS q re) fun ι1 H1 S1 d v x1 r1 re1 p1 rv1 =>
    tOf.step r1 re1 (PostS.toS p1 re1) fun ι2 H2 S2 od vo x2 r2 re2 p2 rv2 => tOf.step r2 re2 (PostS.toS p2 re2) fun ι3 H3 S3 id vi x3 r3 re3 p3 rv3 => by
      have rv := (rv1.ext x2).ext x3
      have rvo := rv2.ext x3
      cases hd : stoB od id d S3 with
      | none => rw [hd] at p3; exact p3.elim
      | some S4 =>
        rw [hd] at p3
        unfold stoB at hd
        split at hd
        · rename_i kvs h1
          split at hd
          · rename_i k h2
            split at hd
            · rename_i hlt
              cases hd
              obtain ⟨n', a, ks, rfl, rfl, hι, hS, hH, rk⟩ := ditD_is r3 rvo h1
              obtain ⟨b, rfl, hb⟩ := tkey_tup rv3 h2
              obtain ⟨e1, e2⟩ := r3.tput hι hH (rk.put (k := k) rv)
              exact .inr ⟨a, _, rfl, DPut.t hH hb (by rw [rk.length]; exact Nat.lt_of_lt_of_le hlt lim_line), p3 ι3 _ _ e1 e2 (re3.ext e1)⟩
            · cases hd
          · cases hd
        · unfold stoD at hd
          split at hd
          · rename_i n k _
            split at hd
            · rename_i xs hx
              obtain ⟨j, hj, rfl⟩ := Option.map_eq_some_iff.mp hd
              cases rvo with
              | @ref a n ha =>
                cases rv3
                obtain ⟨vs, hl, rl⟩ := r3.lst ha hx
                obtain ⟨e1, e2⟩ := r3.lput ha hl (RDs.setAt rv j rl)
                exact .inl ⟨a, vs, _, j, rfl, rfl, hl, by rw [rl.length]; exact hj, p3 ι3 _ _ e1 e2 (re3.ext e1)⟩
            · cases hd
          · cases hd
noncomputable def dgetT (o : D) (ds : List D) (S : Sto) : R D := match ditD o S with
  | some kvs => (match ds with
    | [e] => (match tkey e with
      | some k => .ok ((lkT kvs k).getD .non) S
      | none => .fail)
    | [e, x] => (match tkey e with
      | some k => .ok ((lkT kvs k).getD x) S
      | none => .fail)
    | _ => .fail)
  | none => .fail
noncomputable def fDget (fo : Fd) (fa : Fa) : Fd := fun δ S => (fo δ S).bind fun o S1 => if (ditD o S1).isSome = true then (fa δ S1).bind fun ds S2 => dgetT o ds S2 else .fail
noncomputable def rTget (K : PySem.W.Frag) : V → List V → Hp → VK → Prop := fun x xs H Q => ∃ a b ks k, x = .ref a ∧ Rd H a (.dT ks) ∧ SqT K H b (k.map kV) ∧ ((xs = [.ref b] ∧ Q ((valV ks k).getD .non) H) ∨ ∃ y, xs = [.ref b, y] ∧ Q ((valV ks k).getD y) H)
theorem mt_tget (hu : X.A.units + 1 < cLine) : MtR X "dict.get" (rTget X.K) := by
  intro pins s σ H x xs v us Q I rx rs q
  obtain ⟨a, b, ks, k, rfl, hH, hb, ⟨rfl, q⟩ | ⟨y, rfl, q⟩⟩ := q
  · cases rx
    obtain ⟨u, rfl, ru⟩ := vals1 rs
    cases ru
    exact t_get hu I hH hb fun w' s' I' rw' => ⟨_, _, I', rw', q⟩
  · cases rx
    cases rs with
    | cons r1 r2 =>
      obtain ⟨u, rfl, ru⟩ := vals1 r2
      cases r1
      exact t_get2 hu I hH hb ru fun w' s' I' rw' => ⟨_, _, I', rw', q⟩
theorem p_tget {ι : List Addr} {H : Hp} {S : Sto} {v : V} {d : D} {vs : List V} {ds : List D} {Q : VK} {E' : Value → Hp → Prop} (rs : RelS X.mo ι H S) (ro : RD X.mo ι H v d) (rv : RDs X.mo ι H vs ds)
    (p : Post X.mo ι H (dgetT d ds S) (fun ι' H' _ d => ∀ v, RD X.mo ι' H' v d → Q v H') E') : rTget X.K v vs H Q := by
  unfold dgetT at p
  split at p
  · rename_i kvs h1
    obtain ⟨n, a, ks, rfl, rfl, hι, hS, hH, rk⟩ := ditD_is rs ro h1
    split at p
    · obtain ⟨y, rfl, ry⟩ := rv.one
      split at p
      · rename_i k h2
        obtain ⟨b, rfl, hb⟩ := tkey_is ry h2
        exact ⟨a, b, ks, k, rfl, .inl hH, hb, .inl ⟨rfl, p ι H (.refl ι H) rs _ (rk.getD .non)⟩⟩
      · exact p.elim
    · obtain ⟨y, z, rfl, ry, rz⟩ := rv.two
      split at p
      · rename_i k h2
        obtain ⟨b, rfl, hb⟩ := tkey_is ry h2
        exact ⟨a, b, ks, k, rfl, .inl hH, hb, .inr ⟨z, rfl, p ι H (.refl ι H) rs _ (rk.getD rz)⟩⟩
      · exact p.elim
    · exact p.elim
  · exact p.elim
theorem de_tget {apos cpos : Pos} {e : Expr} {es : List Expr} (hu : X.A.units + 1 < cLine) (ho : DE X E o fo) (ha : DA X E (e :: es) fa)
    (hbase : attributeBase o "get" X.env (eval o X.env) = eval o X.env)
    (hfew : ((backTo cpos (starEach (e :: es) X.env)).all (fun x => !x.1) && (backToKw cpos (keywordEach [] X.env)).all (fun x => x.1.isSome)
      && decide ((e :: es).length + ([] : List Keyword).length + (if ([] : List Keyword).isEmpty then 0 else 1) < 30)) = true)
    (hline : (apos.endLine == cpos.line) = true) (hs : starEach (e :: es) X.env = (false, eval e X.env) :: starEach es X.env) (hplain : (backTo cpos (starEach es X.env)).any (·.1) = false) :
    DE X E (.Call (.Attribute o "get" apos) (e :: es) [] cpos) (fDget fo fa) :=
  (pe_bm PySem.F.plainAttrs_dict PySem.F.slot_dict_get PySem.F.type_dict_get (mt_tget hu) ho ha hbase hfew hline hs hplain).weak fun σ H Q ⟨ι, δ, S, rs, re, q⟩ => tOf.step rs re (Post.bind q) fun ι1 H1 S1 d v x1 r1 re1 p1 rv1 => by
    by_cases hk : (ditD d S1).isSome = true
    · rw [if_pos hk] at p1
      exact ⟨dit_ty r1 rv1 hk, aOf.step r1 re1 (Post.bind p1) fun ι2 H2 S2 ds vs x2 r2 re2 p2 rv2 => p_tget r2 (rv1.ext x2) rv2 p2⟩
    · rw [if_neg hk] at p1
      exact p1.elim
noncomputable def cellK : List Key → Bool
  | [.inl x, .inl y] => decide (0 ≤ x) && decide (x < 12) && decide (0 ≤ y) && decide (y < 12)
  | _ => false
theorem cellK_is {k : List Key} (h : cellK k = true) : ∃ x y : Nat, x < 12 ∧ y < 12 ∧ k = [.inl x, .inl y] := by
  unfold cellK at h
  split at h
  · rename_i x y
    simp only [Bool.and_eq_true, decide_eq_true_eq] at h
    refine ⟨x.toNat, y.toNat, by omega, by omega, ?_⟩
    rw [Int.toNat_of_nonneg (by omega), Int.toNat_of_nonneg (by omega)]
  · cases h
noncomputable def cHash (p : Nat × Nat) : Int := reduceHash (Builtin.Tuple.tupleHashOf [hashInt (p.1 : Int), hashInt (p.2 : Int)])
noncomputable def cells12 : List (Nat × Nat) := (List.range 12).flatMap fun x => (List.range 12).map fun y => (x, y)
theorem cHash_nd : (cells12.map cHash).Nodup := by decide +kernel
theorem inj_on {α β : Type} {f : α → β} : ∀ {l : List α}, (l.map f).Nodup → ∀ {a b : α}, a ∈ l → b ∈ l → f a = f b → a = b
  | [], _, _, _, h, _, _ => nomatch h
  | x :: l, n, a, b, ha, hb, e => by
    rw [List.map_cons, List.nodup_cons] at n
    rcases List.mem_cons.mp ha with a1 | a1 <;> rcases List.mem_cons.mp hb with b1 | b1
    · rw [a1, b1]
    · exact absurd (by rw [← a1, e]; exact List.mem_map_of_mem b1) n.1
    · exact absurd (by rw [← b1, ← e]; exact List.mem_map_of_mem a1) n.1
    · exact inj_on n.2 a1 b1 e
theorem hash_cells {P : Program} {w : World} : ∀ {ks : List (List Key)}, ks.Nodup → (∀ k ∈ ks, cellK k = true) → (ks.map (TK P w).hash).Nodup
  | [], _, _ => List.nodup_nil
  | k :: ks, n, h => by
    rw [List.nodup_cons] at n
    rw [List.map_cons, List.nodup_cons]
    refine ⟨fun z => ?_, hash_cells n.2 fun k' h' => h k' (List.mem_cons_of_mem _ h')⟩
    obtain ⟨k', h1, h2⟩ := List.mem_map.mp z
    obtain ⟨x, y, hx, hy, rfl⟩ := cellK_is (h k List.mem_cons_self)
    obtain ⟨x', y', hx', hy', rfl⟩ := cellK_is (h k' (List.mem_cons_of_mem _ h1))
    have e : cHash (x', y') = cHash (x, y) := h2
    have m : ∀ {x y : Nat}, x < 12 → y < 12 → (x, y) ∈ cells12 := fun hx hy => List.mem_flatMap.mpr ⟨_, List.mem_range.mpr hx, List.mem_map.mpr ⟨_, List.mem_range.mpr hy, rfl⟩⟩
    have := inj_on cHash_nd (m hx' hy') (m hx hy) e
    cases this
    exact n.1 h1
theorem call_dictT : CallR X (.type "dict") (fun xs H Q => ∃ p ks, xs = [.ref p] ∧ H p = some (.dT ks) ∧ (∀ kv ∈ ks, cellK kv.1 = true) ∧ ∀ l, H l = none → Q (.ref l) (upd H l (.dT ks))) := by
  intro pins s σ H xs us Q I r h
  obtain ⟨p, ks, rfl, hp, hc, q⟩ := h
  obtain ⟨u, rfl, rx⟩ := vals1 r
  cases rx
  refine t_copy I (.inl hp) ?_ fun l s' hl I' => ⟨.ref l, _, I', rfl, q l hl⟩
  obtain ⟨_, _, xs, rel, _, _, _, _, _, _, _, _, on⟩ := dt_of I.hok hp
  rw [← KT.keys rel] at on
  have := hash_cells (P := X.prog) (w := X.w) on fun k hk => by
    obtain ⟨kv, h1, rfl⟩ := List.mem_map.mp hk
    exact hc kv h1
  rw [List.map_map] at this
  exact this
noncomputable def cellsK (kvs : List (D × D)) : Bool := kvs.all fun kv => match tkey kv.1 with
  | some k => cellK k
  | none => false
theorem RTs.cells {M : Mo} {ι : List Addr} {H : Hp} {ks : List (List Key × V)} {kvs : List (D × D)} (r : RTs M ι H ks kvs) (h : cellsK kvs = true) : ∀ kv ∈ ks, cellK kv.1 = true := by
  induction r with
  | nil => exact fun _ z => nomatch z
  | @cons k v d vs ds h0 t ih =>
    unfold cellsK at h
    rw [List.all_cons, Bool.and_eq_true] at h
    intro kv hk
    rcases List.mem_cons.mp hk with rfl | hk
    · have := h.1
      dsimp only at this
      rw [tkey_keyD] at this
      exact this
    · exact ih h.2 kv hk
noncomputable def dictB (ds : List D) (S : Sto) : R D := match ds with
  | [o] => match ditD o S with
    | some kvs => if cellsK kvs = true then .ok (.ref S.length) (S ++ [.dit kvs]) else .fail
    | none => .fail
  | _ => .fail
theorem p_dictB : PrimA X (fun xs H Q => ∃ p ks, xs = [.ref p] ∧ H p = some (.dT ks) ∧ (∀ kv ∈ ks, cellK kv.1 = true) ∧ ∀ l, H l = none → Q (.ref l) (upd H l (.dT ks))) dictB := by
  intro ι H S xs ds Q E rs rv p
  unfold dictB at p
  split at p
  · rename_i d
    obtain ⟨v, rfl, r⟩ := rv.one
    split at p
    · rename_i kvs hk
      split at p
      · rename_i hc
        obtain ⟨n, a, ks, rfl, rfl, ha, hS, hH, rk⟩ := ditD_is rs r hk
        refine ⟨a, ks, rfl, hH, rk.cells hc, fun l hl => ?_⟩
        have x : Ext ι H (ι ++ [l]) (upd H l (.dT ks)) := Ext.made hl
        refine p _ _ x (rs.made hl ⟨ks, upd_same, rk.mono x.pre x.ts⟩) _ (.ref ?_)
        rw [← rs.len]
        exact getElem?_snoc ι l
      · exact p.elim
    · exact p.elim
  · exact p.elim
noncomputable def hitT (kb : List (List Key × V)) (kv : List Key × V) : Bool := match valV kb kv.1 with
  | some y => eqV kv.2 y
  | none => false
noncomputable def eqT (ka kb : List (List Key × V)) : Bool := ka.length == kb.length && ka.all (hitT kb)
noncomputable def flatT (ka : List (List Key × V)) : Bool := ka.all fun kv => flatV kv.2
theorem hits_of {A : Around} {s : Shared} {H : Hp} {kb : List (List Key × V)} {xb : List Ent} (rb : KT H kb xb) (fb : flatT kb = true) : ∀ {ka : List (List Key × V)} {xa : List Ent}, KT H ka xa → flatT ka = true → Hits A s xb xa (ka.all (hitT kb)) := by
  intro ka xa r
  induction r with
  | nil => intro _; exact .nil
  | @cons p q ps qs h t ih =>
    intro f
    unfold flatT at f
    rw [List.all_cons, Bool.and_eq_true] at f
    obtain ⟨k, v⟩ := p
    obtain ⟨k', u⟩ := q
    obtain ⟨e1, _, e2⟩ := h
    dsimp only at e1 e2 f
    subst e1
    rw [List.all_cons]
    have rv := rb.val k
    cases hv : valV kb k with
    | none =>
      rw [hv] at rv
      have e : hitT kb (k, v) = false := by unfold hitT; rw [hv]
      rw [e, Bool.false_and]
      exact .miss (Option.map_eq_none_iff.mp rv.none_of)
    | some y =>
      rw [hv] at rv
      obtain ⟨w, hw, rw'⟩ := rv.some_of
      obtain ⟨q, hq, rfl⟩ := Option.map_eq_some_iff.mp hw
      have e : hitT kb (k, v) = eqV v y := by unfold hitT; rw [hv]
      rw [e]
      have fy : flatV y = true := by
        obtain ⟨kv, hm, hk⟩ := Option.map_eq_some_iff.mp (show (kb.find? fun kv => decide (kv.1 = k)).map (·.2) = some y from hv)
        rw [← hk]
        exact List.all_eq_true.mp fb kv (List.mem_of_find?_eq_some hm)
      exact .hit hq (eqAt_V e2 rw' f.1 fy) (ih f.2)
noncomputable def rEqT (f : Bool → Bool) : R2 := fun x y H Q => ∃ a b ka kb, x = .ref a ∧ y = .ref b ∧ H a = some (.dT ka) ∧ H b = some (.dT kb) ∧ flatT ka = true ∧ flatT kb = true ∧ Q (.bl (f (eqT ka kb))) H
theorem op_eqT (hu : X.A.units + 1 < cLine) : OpR X (compareOp .Eq) (rEqT id) := by
  intro pins s σ H x y v u Q I rx ry h
  obtain ⟨a, b, ka, kb, rfl, rfl, ha, hb, fa, fb, q⟩ := h
  cases rx
  cases ry
  obtain ⟨za, na, va, ra, da⟩ := dt_of I.hok ha
  obtain ⟨zb, nb, vb, rb, db⟩ := dt_of I.hok hb
  refine h_eq na nb hu da db (fun _ => hits_of rb fb ra fa) ⟨.bl _, H, I, ?_, q⟩
  unfold eqT
  rw [Paired.length ra, Paired.length rb]
  rfl
theorem op_neT (hu : X.A.units + 1 < cLine) : OpR X (compareOp .NotEq) (rEqT not) := by
  intro pins s σ H x y v u Q I rx ry h
  obtain ⟨a, b, ka, kb, rfl, rfl, ha, hb, fa, fb, q⟩ := h
  cases rx
  cases ry
  obtain ⟨za, na, va, ra, da⟩ := dt_of I.hok ha
  obtain ⟨zb, nb, vb, rb, db⟩ := dt_of I.hok hb
  refine h_ne na nb hu da db (fun _ => hits_of rb fb ra fa) ⟨.bl _, H, I, ?_, q⟩
  unfold eqT
  rw [Paired.length ra, Paired.length rb]
  rfl
noncomputable def hitDt (kb : List (D × D)) (kv : D × D) : Bool := match tkey kv.1 with
  | some k => (match lkT kb k with
    | some y => eqV (toV kv.2) (toV y)
    | none => false)
  | none => false
noncomputable def eqDt (ka kb : List (D × D)) : Bool := ka.length == kb.length && ka.all (hitDt kb)
noncomputable def flatDt (ka : List (D × D)) : Bool := ka.all fun kv => flatD kv.2
theorem flatDt_is {M : Mo} {ι : List Addr} {H : Hp} {ks : List (List Key × V)} {kvs : List (D × D)} (r : RTs M ι H ks kvs) (f : flatDt kvs = true) : flatT ks = true := by
  induction r with
  | nil => rfl
  | @cons k v d vs ds h t ih =>
    unfold flatDt at f
    rw [List.all_cons, Bool.and_eq_true] at f
    unfold flatT
    rw [List.all_cons, Bool.and_eq_true]
    exact ⟨(flat_is h f.1).2, ih f.2⟩
theorem hitDt_is {M : Mo} {ι : List Addr} {H : Hp} {kb : List (List Key × V)} {db : List (D × D)} (rb : RTs M ι H kb db) (fb : flatDt db = true) {ks : List (List Key × V)} {kvs : List (D × D)} (r : RTs M ι H ks kvs) : flatDt kvs = true → ks.all (hitT kb) = kvs.all (hitDt db) := by
  induction r with
  | nil => intro _; rfl
  | @cons k v d vs ds h t ih =>
    intro f
    unfold flatDt at f
    rw [List.all_cons, Bool.and_eq_true] at f
    rw [List.all_cons, List.all_cons, ih f.2]
    congr 1
    obtain ⟨e1, f1⟩ := flat_is h f.1
    unfold hitT hitDt
    dsimp only
    rw [tkey_keyD]
    dsimp only
    obtain ⟨g1, g2⟩ := rb.val (k := k)
    cases hz : lkT db k with
    | none => rw [g2 hz]
    | some z =>
      obtain ⟨w, w1, w2⟩ := g1 z hz
      rw [w1]
      dsimp only
      have fz : flatD z = true := by
        obtain ⟨kv, hm, hk⟩ := Option.map_eq_some_iff.mp (show (db.find? fun kv => decide (tkey kv.1 = some k)).map (·.2) = some z from hz)
        rw [← hk]
        exact List.all_eq_true.mp fb kv (List.mem_of_find?_eq_some hm)
      rw [(flat_is w2 fz).1, e1]
noncomputable def eqB (f : Bool → Bool) (d e : D) (S : Sto) : R D := match ditD d S, ditD e S with
  | some a, some b => if flatDt a = true ∧ flatDt b = true then .ok (.bl (f (eqDt a b))) S else .fail
  | _, _ => eqR f d e S
theorem p_eqB {f : Bool → Bool} : Prim2 X (fun x y H Q => rEqD X.K f x y H Q ∨ rEqT f x y H Q) (eqB f) := by
  intro ι H S x y d e Q E rs rx ry p
  unfold eqB at p
  split at p
  · rename_i ka kb h1 h2
    split at p
    · rename_i hf
      obtain ⟨n, a, ks, rfl, rfl, hι, hS, hH, rk⟩ := ditD_is rs rx h1
      obtain ⟨n', a', ks', rfl, rfl, hι', hS', hH', rk'⟩ := ditD_is rs ry h2
      refine .inr ⟨a, a', ks, ks', rfl, rfl, hH, hH', flatDt_is rk hf.1, flatDt_is rk' hf.2, ?_⟩
      have e : eqT ks ks' = eqDt ka kb := by
        unfold eqT eqDt
        rw [rk.length, rk'.length, hitDt_is rk' hf.2 rk hf.1]
      rw [e]
      exact p ι H (.refl ι H) rs _ (.bl _)
    · exact p.elim
  · exact .inl (p_eq ι H S x y d e Q E rs rx ry p)
end
set_option genInjectivity false
set_option genSizeOfSpec false
inductive Bo where
  | add | sub | mul | fdiv | mod | pow
inductive Co where
  | eq | ne | lt | le | gt | ge | isin | notin | is_ | isnt
inductive Bf where
  | len | abs | min | max | inst | list | tuple | all | any
  | dict
mutual
inductive Ex where
  | k (d : D)
  | v (i : Nat)
  | bin (o : Bo) (a b : Ex)
  | neg (a : Ex)
  | not (a : Ex)
  | and (a b : Ex)
  | or (a b : Ex)
  | cmp (o : Co) (a b : Ex)
  | isN (a : Ex)
  | notN (a : Ex)
  | chain (o o' : Co) (a b c : Ex)
  | slLo (a l : Ex)
  | slHi (a h : Ex)
  | sl (a l h : Ex)
  | ite (t a b : Ex)
  | tup (es : List Ex)
  | lst (es : List Ex)
  | idx (a b : Ex)
  | call (f : Str) (es : List Ex)
  | bf (f : Bf) (es : List Ex)
  | gc (a : Ex)
  | comp (i k : Nat) (e : Ex) (it : Ix)
  | compIf (i k : Nat) (e : Ex) (it : Ix) (t : Ex)
  | mt (m : Mt) (o : Ex) (es : List Ex)
  | meth (m : Str) (o : Ex) (es : List Ex)
  | make0 (C : Str)
  | dget (o : Ex) (es : List Ex)
  | dnewT
inductive Ix where
  | val (e : Ex)
  | rg1 (a : Ex)
end
noncomputable def bigB : Nat := 2 ^ 20000
noncomputable def binD : Bo → D → D → Sto → R D
  | .add => addD
  | .sub => subD
  | .mul => mulD
  | .fdiv => fdivD
  | .mod => modD
  | .pow => powD
noncomputable def cmpD : Co → D → D → Sto → R D
  | .eq => eqB id
  | .ne => eqB not
  | .lt => ltD
  | .le => leD
  | .gt => gtD
  | .ge => geD
  | .isin => memB false
  | .notin => memB true
  | .is_ => isD id
  | .isnt => isD not
noncomputable def bfD (G : Glo) : Bf → List D → Sto → R D
  | .len => lenD
  | .abs => absD
  | .min => minD
  | .max => maxD
  | .inst => instD G
  | .list => listB
  | .tuple => tupleD
  | .all => allD true
  | .any => allD false
  | .dict => dictB
noncomputable abbrev Phi := Str → List D → Sto → R D
noncomputable abbrev idxF : D → D → Sto → R D := idxB
mutual
noncomputable def ev (G : Glo) (Φ : Phi) : Ex → Fd
  | .k d => okD d
  | .v i => getV i
  | .bin o a b => f2 (binD o) (ev G Φ a) (ev G Φ b)
  | .neg a => f1 negD (ev G Φ a)
  | .not a => fNot (ev G Φ a)
  | .and a b => fAnd (ev G Φ a) (ev G Φ b)
  | .or a b => fOr (ev G Φ a) (ev G Φ b)
  | .cmp o a b => f2 (cmpD o) (ev G Φ a) (ev G Φ b)
  | .isN a => fIsN (ev G Φ a)
  | .notN a => fNotN (ev G Φ a)
  | .chain o o' a b c => fChain (cmpD o) (cmpD o') (ev G Φ a) (ev G Φ b) (ev G Φ c)
  | .slLo a l => fSlLo (ev G Φ a) (ev G Φ l)
  | .slHi a h => fSlHi (ev G Φ a) (ev G Φ h)
  | .sl a l h => fSl (ev G Φ a) (ev G Φ l) (ev G Φ h)
  | .ite t a b => fIf (bVal (ev G Φ t)) (ev G Φ a) (ev G Φ b)
  | .tup es => fTup (evs G Φ es)
  | .lst es => fLst (evs G Φ es)
  | .idx a b => f2 idxF (ev G Φ a) (ev G Φ b)
  | .call f es => fCall (Φ f) (evs G Φ es)
  | .bf f es => fCall (bfD G f) (evs G Φ es)
  | .gc a => fGc (ev G Φ a)
  | .comp i k e it => fComp (evI G Φ it) [i] k (gSet i) none (ev G Φ e) bigB
  | .compIf i k e it t => fComp (evI G Φ it) [i] k (gSet i) (some (bVal (ev G Φ t))) (ev G Φ e) bigB
  | .mt m o es => fMtX m (ev G Φ o) (evs G Φ es)
  | .meth m o es => fMeth G Φ m (ev G Φ o) (evs G Φ es)
  | .make0 C => fMake0 C
  | .dget o es => fDget (ev G Φ o) (evs G Φ es)
  | .dnewT => fDnewT
noncomputable def evI (G : Glo) (Φ : Phi) : Ix → Fi
  | .val e => iVal (ev G Φ e)
  | .rg1 a => iRg1 (aCons (ev G Φ a) aNil)
noncomputable def evs (G : Glo) (Φ : Phi) : List Ex → Fa
  | [] => aNil
  | e :: es => aCons (ev G Φ e) (evs G Φ es)
end
noncomputable def evV (G : Glo) (Φ : Phi) : Ix → Option Fd
  | .val e => some (ev G Φ e)
  | _ => none
theorem evs_len {G : Glo} {Φ : Phi} : ∀ {es : List Ex} {δ : Dv} {S S' : Sto} {ds : List D}, evs G Φ es δ S = .ok ds S' → ds.length = es.length
  | [], δ, S, S', ds, h => by
    unfold evs aNil at h
    cases h
    rfl
  | e :: es, δ, S, S', ds, h => by
    unfold evs aCons at h
    cases h1 : ev G Φ e δ S with
    | ok d S1 =>
      rw [h1] at h
      dsimp only [R.bind] at h
      cases h2 : evs G Φ es δ S1 with
      | ok ds' S2 =>
        rw [h2] at h
        dsimp only at h
        cases h
        simp [evs_len h2]
      | exc C S2 => rw [h2] at h; cases h
      | fail => rw [h2] at h; cases h
    | exc C S1 => rw [h1] at h; cases h
    | fail => rw [h1] at h; cases h
structure Tc where
  N : List Str
  sc : Scope
  calm : Bool
  rse : Bool
  try' : Bool
  st : Bool
  G : Glo
  fn : Str → Option Nat
structure Gd (X : Cx) (E : St → XK) (Φ : Phi) (C : Tc) : Prop where
  N : X.N = C.N
  nd : C.N.Nodup
  sc : X.env.scope = C.sc
  calm : C.calm = true → X.calm = true
  g : GOk X.mo C.G
  fn : C.calm = true → ∀ x k, C.fn x = some k → ∃ ps n, ps.length = k ∧ HasA X.prog X.w X.mo C.G X.base n x ps (spOf X.mo k (Φ x)) ∧ Room (n + 1) X.A
  un : X.A.units + 64 < cLine
  pass : PassS (CXE X.prog X.w) X E
  loc : C.st = true → ∀ x, X.fn x = true ∨ C.sc.names.lookup x ≠ some .cell
  rse : C.rse = true → ∃ Ec, Lifts X Ec ∧ (∀ σ, E σ = Ec) ∧ X.A.handled = none
  try' : C.try' = true → X.stack = X.env :: X.outer ∧ X.env.frame = some X.env.locals ∧ X.ex = []
  mth : ∀ D m x k, C.G.mth D m = some (x, k) → C.fn x = some k
  ini : ∀ D x k, C.G.ini D = some (some (x, k)) → C.fn x = some k
noncomputable def ixOf (x : Str) : List Str → Option Nat
  | [] => none
  | y :: ys => if y = x then some 0 else (ixOf x ys).map (· + 1)
theorem ixOf_is {x : Str} : ∀ {N : List Str} {i : Nat}, ixOf x N = some i → N[i]? = some x
  | [], _, h => by cases h
  | y :: ys, i, h => by
    unfold ixOf at h
    split at h
    · rename_i e
      cases h
      rw [e]
      rfl
    · obtain ⟨j, h1, rfl⟩ := Option.map_eq_some_iff.mp h
      have := ixOf_is h1
      simpa using this
noncomputable def nameOk (x : Str) : Bool := !(x == ("__debug__" : Str)) && !(x == ("__classdict__" : Str)) && !(x == ("__name__" : Str))
theorem nameOk_is {x : Str} (h : nameOk x = true) : (x == ("__debug__" : Str)) = false ∧ (x == ("__classdict__" : Str)) = false ∧ x ≠ "__name__" := by
  unfold nameOk at h
  simp only [Bool.and_eq_true, Bool.not_eq_true'] at h
  refine ⟨h.1.1, h.1.2, fun e => ?_⟩
  have := h.2
  rw [e] at this
  simp at this
noncomputable def tyN (x : Str) : Option String :=
  if x = "int" then some "int" else if x = "bool" then some "bool" else if x = "str" then some "str" else if x = "tuple" then some "tuple" else if x = "list" then some "list" else if x = "dict" then some "dict"
  else if x = "ValueError" then some "ValueError" else none
theorem tyN_is {x : Str} {n : String} (h : tyN x = some n) : bootBuiltins x = some (.type n) := by
  unfold tyN at h
  repeat (split at h; · rename_i e; subst e; cases h; first | exact Boot.«int» | exact Boot.«bool» | exact Boot.«str» | exact Boot.«tuple» | exact Boot.«list» | exact Boot.«dict» | exact Boot.«ValueError»)
  cases h
noncomputable def isLoc : Option NameKind → Bool
  | some .local => true
  | some .cell => true
  | some .free => true
  | _ => false
noncomputable def isGl : Option NameKind → Bool
  | some .globalImplicit => true
  | _ => false
theorem isLoc_vis {sc : Scope} {x : Str} (h : isLoc (sc.names.lookup x) = true) : Vis sc x := by
  unfold isLoc at h
  split at h
  · rename_i e; exact .inl e
  · rename_i e; exact .inr (.inl e)
  · rename_i e; exact .inr (.inr e)
  · cases h
theorem isGl_gl {X : Cx} {x : Str} (h : isGl (X.env.scope.names.lookup x) = true) : Gl X x := by
  unfold isGl at h
  split at h
  · rename_i e; exact e
  · cases h
noncomputable def trN (C : Tc) (x : Str) : Option Ex :=
  if nameOk x = true then
    if isLoc (C.sc.names.lookup x) = true then (ixOf x C.N).map .v
    else if isGl (C.sc.names.lookup x) = true then
      match C.G.con x with
      | some d => some (.k d)
      | none => if C.G.cls x = true then some (.k (.gl x)) else match tyN x with
        | some n => if C.G.own x = true then some (.k (.ty n)) else none
        | none => none
    else none
  else none
noncomputable def boOf : Operator → Option Bo
  | .Add => some .add
  | .Sub => some .sub
  | .Mult => some .mul
  | .FloorDiv => some .fdiv
  | .Mod => some .mod
  | .Pow => some .pow
  | _ => none
noncomputable def coOf : CmpOp → Option Co
  | .Eq => some .eq
  | .NotEq => some .ne
  | .Lt => some .lt
  | .LtE => some .le
  | .Gt => some .gt
  | .GtE => some .ge
  | .In => some .isin
  | .NotIn => some .notin
  | _ => none
noncomputable def bfOf (x : Str) (k : Nat) : Option Bf :=
  if x = "len" then some .len else
  if x = "abs" then some .abs else
  if x = "isinstance" then some .inst else
  if x = "tuple" then some .tuple else
  if x = "dict" then some .dict else
  none
noncomputable def loudF (f : Str) : Bool := f == "min" || f == "max" || f == "all" || f == "any"
  || f == "list" || f == "sorted"
noncomputable def isLst : Expr → Bool
  | .List _ _ => true
  | _ => false
noncomputable def trC (C : Tc) (f : Str) (k : Nat) (es : List Ex) : Option Ex :=
  if nameOk f = true ∧ isGl (C.sc.names.lookup f) = true ∧ C.calm = true then
    match C.fn f with
    | some j => if j = k ∧ noDot f = true then some (.call f es) else
      none
    | none => match C.G.ini f with
      | some (some _) => none
      | _ => if C.G.own f = true then (bfOf f k).map fun b => .bf b es else none
  else if nameOk f = true ∧ isGl (C.sc.names.lookup f) = true ∧ C.fn f = none ∧ C.G.own f = true ∧ loudF f = false then (bfOf f k).map fun b => .bf b es
  else none
noncomputable def trC0 (C : Tc) (f : Str) : Option Ex :=
  if nameOk f = true ∧ isGl (C.sc.names.lookup f) = true ∧ C.calm = true then
    match C.fn f with
    | some 0 => if noDot f = true then some (.call f []) else none
    | _ => match C.G.ini f with
      | some (some _) => none
      | some none => some (.make0 f)
      | none => none
  else none
noncomputable def mtOf (m : Str) (k : Nat) : Option Mt :=
  if m = "append" then (if k = 1 then some .append else none) else if m = "clear" then (if k = 0 then some .clear else none) else if m = "reverse" then some .reverse
  else if m = "pop" then some .pop else if m = "extend" then some .extend else
  none
theorem mtOf_is {m : Str} {k : Nat} {q : Mt} (h : mtOf m k = some q) : ∃ id, Slot "list" m id ∧ typeOf (.builtin id) = pure (.type "method_descriptor") ∧ ∀ X : Cx, MtR X id (rMt q) := by
  unfold mtOf at h
  split at h
  · rename_i e
    subst e
    split at h
    · cases h
      exact ⟨_, PySem.F.slot_list_append, PySem.F.type_list_append, fun X => mt_append⟩
    · cases h
  split at h
  · rename_i e
    subst e
    split at h
    · cases h; exact ⟨_, PySem.F.slot_list_clear, PySem.F.type_list_clear, fun X => mt_clear⟩
    · cases h
  split at h
  · rename_i e; subst e; cases h; exact ⟨_, PySem.F.slot_list_reverse, PySem.F.type_list_reverse, fun X => mt_reverse⟩
  split at h
  · rename_i e; subst e; cases h; exact ⟨_, PySem.F.slot_list_pop, PySem.F.type_list_pop, fun X => mt_popB⟩
  split at h
  · rename_i e; subst e; cases h; exact ⟨_, PySem.F.slot_list_extend, PySem.F.type_list_extend, fun X => mt_extend⟩
  · cases h
noncomputable def isNameE : Expr → Bool
  | .Name _ _ => true
  | _ => false
noncomputable def isCall : Expr → Bool
  | .Call f es _ _ => isNameE f && es.isEmpty
  | _ => false
noncomputable def okT1 (t : Expr → Bool) : Expr → Bool
  | .IfExp _ _ _ _ => false
  | .UnaryOp .Not a _ => t a
  | .BoolOp _ es _ => es.all t
  | _ => true
noncomputable def okTn : Nat → Expr → Bool
  | 0, _ => false
  | n + 1, e => okT1 (okTn n) e
noncomputable def okT (e : Expr) : Bool := okTn 12 e
noncomputable def relabelS (scope sc : Scope) : Scope :=
  { scope with names := scope.names.map fun (n, k) => if (k == .free && sc.kind == .function && sc.names.lookup n == some .cell) then (n, .cell) else (n, k) }
noncomputable def inP (N : List Str) (x : Str) : Nat × List Str := match ixOf x N with
  | some i => (i, [])
  | none => (N.length, [x])
noncomputable def inC (C : Tc) (x : Str) (scope : Scope) : Tc := ⟨C.N ++ (inP C.N x).2, relabelS scope C.sc, C.calm, false, false, false, C.G, C.fn⟩
noncomputable def compOk (C : Tc) (x : Str) (scope : Scope) : Bool :=
  C.calm && decide (scope.kind = .function) && decide (scope.names.lookup x = some .local)
    && scope.names.all (fun y => decide (y.2 ≠ .cell) && (decide (y.2 ≠ .local) || decide (scope.names.lookup y.1 = some .local)) && (decide (y.2 ≠ .free) || decide (C.sc.names.lookup y.1 = some .cell) || decide (C.sc.names.lookup y.1 = some .free)))
    && C.N.all (fun y => decide (y = x) || decide (scope.names.lookup y ≠ some .local))
noncomputable def isComp : Expr → Bool
  | .ListComp _ _ _ _ => true
  | _ => false
noncomputable def trI (C : Tc) (t : Tc → Expr → Option Ex) : Expr → Option Ix
  | .Call (.Name f p) [a] [] pos => if f = "range" ∧ isGl (C.sc.names.lookup f) = true ∧ C.G.own f = true then (t C a).map .rg1 else
    if f = "range" then none else (t C (.Call (.Name f p) [a] [] pos)).map .val
  | e => (t C e).map .val
noncomputable def trIT (C : Tc) (t : Tc → Expr → Option Ex) (e : Expr) : Option Ix := trI C t e
noncomputable def trL (C : Tc) (t : Tc → Expr → Option Ex) (elt : Expr) (x : Str) (iter : Expr) (ifs : List Expr) (scope : Scope) : Option Ex :=
  if compOk C x scope = true then
    match trI { C with rse := false } t iter, t (inC C x scope) elt with
    | some it, some e => match ifs with
      | [] => some (.comp (inP C.N x).1 (inP C.N x).2.length e it)
      | [c] => match t (inC C x scope) c with
        | some c' => if okT c = true then some (.compIf (inP C.N x).1 (inP C.N x).2.length e it c') else none
        | none => none
      | _ => none
    | _, _ => none
  else none
noncomputable def trK : Const → Option Ex
  | .int i => some (.k (.int i))
  | .bool i => some (.k (.bl i))
  | .none => some (.k .non)
  | .str i => some (.k (.str i))
  | _ => none
noncomputable def trU (t : Expr → Option Ex) (a : Expr) : UnaryOp → Option Ex
  | .USub => (t a).map .neg
  | .Not => (t a).map .not
  | _ => none
noncomputable def boE : BoolOp → Ex → Ex → Ex
  | .And => .and
  | .Or => .or
noncomputable def trB (t : Expr → Option Ex) (op : BoolOp) (p : Pos) : List Expr → Option Ex
  | [] => none
  | [a] => t a
  | a :: b :: r => match t a, t (.BoolOp op (b :: r) p) with
    | some a, some b => some (boE op a b)
    | _, _ => none
noncomputable def isNoneE : Expr → Bool
  | .Constant k _ _ => (match k with | .none => true | _ => false)
  | _ => false
theorem isNoneE_is {e : Expr} (h : isNoneE e = true) : ∃ k p, e = .Constant .none k p := by
  cases e with
  | Constant c k p => cases c <;> first | exact ⟨k, p, rfl⟩ | cases h
  | _ => cases h
noncomputable def isIs : CmpOp → Option Bool
  | .Is => some true
  | .IsNot => some false
  | _ => none
theorem isIs_is {op : CmpOp} {k : Bool} (h : isIs op = some k) : op = if k then .Is else .IsNot := by
  cases op <;> cases h <;> rfl
noncomputable def coIs : CmpOp → Option Co
  | .Is => some .is_
  | .IsNot => some .isnt
  | _ => none
noncomputable def trCp1 (t : Expr → Option Ex) (a : Expr) (op : CmpOp) (b : Expr) : Option Ex :=
  match isIs op with
  | some k => if isNoneE b = true then (t a).map (if k then .isN else .notN) else (match coIs op, t a, t b with
    | _, _, _ => none)
  | none => match coOf op, t a, t b with
    | some o, some a, some b => some (.cmp o a b)
    | _, _, _ => none
noncomputable def trCp2 (t : Expr → Option Ex) (a : Expr) (op op' : CmpOp) (b c : Expr) : Option Ex :=
  match coOf op, coOf op', t a, t b, t c with
  | some o, some o', some a, some b, some c => some (.chain o o' a b c)
  | _, _, _, _, _ => none
noncomputable def trCp (t : Expr → Option Ex) (a : Expr) : List CmpOp → List Expr → Option Ex
  | [op], [b] => trCp1 t a op b
  | [op, op'], [b, c] => trCp2 t a op op' b c
  | _, _ => none
noncomputable def sliceOf : Expr → Option (Option Expr × Option Expr × Option Expr)
  | .Slice l h st _ => some (l, h, st)
  | _ => none
theorem sliceOf_is {e : Expr} {l h st : Option Expr} (q : sliceOf e = some (l, h, st)) : ∃ p, e = .Slice l h st p := by
  cases e <;> first | (cases q; exact ⟨_, rfl⟩) | cases q
noncomputable def trSl (t : Expr → Option Ex) (a : Ex) : Option Expr → Option Expr → Option Expr → Option Ex
  | some l, none, none => (t l).map (.slLo a)
  | none, some h, none => (t h).map (.slHi a)
  | some l, some h, none => match t l, t h with
    | some l, some h => some (.sl a l h)
    | _, _ => none
  | _, _, _ => none
noncomputable def trSub (t : Expr → Option Ex) (a b : Expr) : Option Ex :=
  match sliceOf b with
  | some (l, h, st) => (match t a with
    | some a' => trSl t a' l h st
    | none => none)
  | none =>
    match t a, t b with
    | some a', some b' => if isLst a = true then some (.gc (.idx a' b')) else some (.idx a' b')
    | _, _ => none
noncomputable def trCm (C : Tc) (t : Expr → Option Ex) (o : Expr) (m : Str) (ap cp : Pos) (es : List Expr) : Option Ex := match t o, allO t es with
  | some o', some cs => if isCall o = false then (
    if m = "get" ∧ es.isEmpty = false ∧ es.length < 20 ∧ (ap.endLine == cp.line) = true then some (.dget o' cs) else
    match mtOf m es.length with
    | some q => if es.length < 20 ∧ (ap.endLine == cp.line) = true then some (.mt q o' cs) else none
    | none => if C.calm = true ∧ es.length < 20 ∧ (ap.endLine == cp.line) = true then some (.meth m o' cs) else none) else none
  | _, _ => none
noncomputable def trCn (C : Tc) (t : Expr → Option Ex) (f : Str) : List Expr → Option Ex
  | [] => trC0 C f
  | e :: es => match allO t (e :: es) with
    | some cs => trC C f (e :: es).length cs
    | none => none
noncomputable def trCa (C : Tc) (t : Expr → Option Ex) (es : List Expr) (cp : Pos) : Expr → List Keyword → Option Ex
  | .Name f _, [] => trCn C t f es
  | .Attribute o m ap, [] => trCm C t o m ap cp es
  | _, _ => none
noncomputable def trLc (C : Tc) (t1 : Tc → Expr → Option Ex) (elt : Expr) (scope : Scope) : List Comprehension → Option Ex
  | [⟨.Name x _, iter, ifs, 0⟩] => trL C t1 elt x iter ifs scope
  | _ => none
noncomputable def trE1 (C : Tc) (t1 : Tc → Expr → Option Ex) (t : Expr → Option Ex) : Expr → Option Ex
  | .Constant k _ _ => trK k
  | .Name x _ => trN C x
  | .BinOp a op b _ => match boOf op, t a, t b with
    | some o, some a, some b => some (.bin o a b)
    | _, _, _ => none
  | .UnaryOp op a _ => trU t a op
  | .BoolOp op es p => trB t op p es
  | .Compare a ops bs _ => trCp t a ops bs
  | .IfExp c a b _ => match t c, t a, t b with
    | some c', some a, some b => if okT c = true then some (.ite c' a b) else none
    | _, _, _ => none
  | .Tuple es _ _ => (allO t es).map .tup
  | .List es _ => (allO t es).map .lst
  | .Subscript a b _ => trSub t a b
  | .Call f es ks cp => trCa C t es cp f ks
  | .ListComp elt gs scope _ => trLc C t1 elt scope gs
  | .Dict ks vs _ => (trDict ks vs).map fun _ => .dnewT
  | _ => none
noncomputable def trE : Tc → Nat → Expr → Option Ex
  | _, 0, _ => none
  | C, n + 1, e => trE1 C (fun C' => trE C' n) (trE C n) e
noncomputable def okE : Expr → Bool
  | .Constant _ _ _ => true
  | .Name _ _ => true
  | .BinOp _ _ _ _ => true
  | .UnaryOp _ _ _ => true
  | .BoolOp _ _ _ => true
  | .Compare _ _ _ _ => true
  | .IfExp _ _ _ _ => true
  | .Tuple _ _ _ => true
  | .List _ _ => true
  | .Subscript _ _ _ => true
  | .Call _ _ _ _ => true
  | .Attribute _ _ _ => true
  | .ListComp _ _ _ _ => true
  | .Dict _ _ _ => true
  | _ => false
theorem tr_ok {C : Tc} {n : Nat} {e : Expr} {c : Ex} (h : trE C n e = some c) : okE e = true := by
  cases n with
  | zero => cases h
  | succ n => cases e <;> first | rfl | exact nomatch (show (none : Option Ex) = some c from h)
theorem tr_star {C : Tc} {n : Nat} {e : Expr} {c : Ex} (h : trE C n e = some c) (es : List Expr) (env : Env) : starEach (e :: es) env = (false, eval e env) :: starEach es env := by
  have k := tr_ok h
  clear h
  cases e <;> first | rfl | cases k
theorem allO_star {C : Tc} {n : Nat} : ∀ {es : List Expr} {cs : List Ex}, allO (trE C n) es = some cs → ∀ (pos : Pos) (env : Env), (backTo pos (starEach es env)).any (·.1) = false
  | [], _, _, _, _ => rfl
  | e :: es, cs, h, pos, env => by
    unfold allO at h
    split at h
    · rename_i p ps h1 h2
      rw [tr_star h1]
      show (false || (backTo pos (starEach es env)).any (·.1)) = false
      rw [allO_star h2 pos env]
      rfl
    · cases h
theorem allO_length {α β : Type} {f : α → Option β} : ∀ {l : List α} {r : List β}, allO f l = some r → r.length = l.length
  | [], _, h => by cases h; rfl
  | a :: l, r, h => by
    unfold allO at h
    split at h
    · rename_i p ps h1 h2
      cases h
      simp [allO_length h2]
    · cases h
theorem tr_marks {C : Tc} {n : Nat} {e : Expr} {c : Ex} (h : trE C n e = some c) (op : CmpOp) : behindInMarks op e = false := by
  have k := tr_ok h
  clear h
  cases e <;> first | rfl | cases k
theorem tr_ix {C : Tc} {n : Nat} {e : Expr} {c : Ex} (h : trE C n e = some c) : PlainIx e := by
  have k := tr_ok h
  clear h
  cases e <;> first | (intro _ _; rfl) | cases k
theorem tr_swaps {C : Tc} {n : Nat} {e : Expr} {c : Ex} (h : trE C n e = some c) (hk : isComp e = false) (t : Option Expr) (l : Nat) (env : Env) : swapsWith e t l env = pure false := by
  have k := tr_ok h
  clear h
  cases e <;> first | rfl | (cases hk; done) | cases k
theorem tr_folded {C : Tc} {n : Nat} {e : Expr} {c : Ex} (h : trE C n e = some c) (env : Env) (x : Value) : foldedSetIterable e env x = pure x := by
  have k := tr_ok h
  clear h
  cases e <;> first | rfl | cases k
section
variable {X : Cx} {E : St → XK} {Φ : Phi} {C : Tc}
theorem op_co (hu : X.A.units + 64 < cLine) {op : CmpOp} {o : Co} (h : coOf op = some o) : ∃ r, OpR X (compareOp op) r ∧ Prim2 X r (cmpD o) := by
  cases op <;> cases h
  · exact ⟨_, (op_eqD hu).or (op_eqT (by omega)), p_eqB⟩
  · exact ⟨_, (op_neD hu).or (op_neT (by omega)), p_eqB⟩
  · exact ⟨_, op_lt, p_lt⟩
  · exact ⟨_, op_le, p_le⟩
  · exact ⟨_, op_gt, p_gt⟩
  · exact ⟨_, op_ge, p_ge⟩
  · exact ⟨_, (op_inF hu).or (op_inK (by omega)), p_memB⟩
  · exact ⟨_, (op_notInF hu).or (op_notInK (by omega)), p_memB⟩
theorem op_bo {op : Operator} {o : Bo} (h : boOf op = some o) : ∃ r, OpR X (binaryOp op) r ∧ Prim2 X r (binD o) := by
  cases op <;> cases h
  · exact ⟨_, op_addA, p_add⟩
  · exact ⟨_, op_sub, p_sub⟩
  · exact ⟨_, op_mulA, p_mul⟩
  · exact ⟨_, op_modN, p_mod⟩
  · exact ⟨_, op_pow, p_pow⟩
  · exact ⟨_, op_fdivB, p_fdiv⟩
theorem tr_name (gd : Gd X E Φ C) {x : Str} {c : Ex} {pos : Pos} (h : trN C x = some c) : DE X E (.Name x pos) (ev C.G Φ c) := by
  unfold trN at h
  split at h
  · rename_i hn
    obtain ⟨n1, n2, n3⟩ := nameOk_is hn
    split at h
    · rename_i hl
      obtain ⟨i, h1, rfl⟩ := Option.map_eq_some_iff.mp h
      rw [ev]
      exact de_var (by rw [gd.N]; exact ixOf_is h1) (by rw [gd.sc]; exact isLoc_vis hl) n1 n2
    · split at h
      · rename_i hgl
        have hg : Gl X x := isGl_gl (by rw [gd.sc]; exact hgl)
        split at h
        · rename_i d hd
          cases h
          obtain ⟨u, v, h1, h2, h3⟩ := gd.g.con x d hd
          rw [ev]
          exact de_glob hg h1 h2 h3 n1
        · split at h
          · rename_i hc
            cases h
            obtain ⟨a, ha⟩ := gd.g.cls x hc
            rw [ev]
            exact de_cls hg ha n1
          · split at h
            · rename_i t ht
              split at h
              · rename_i ho
                cases h
                rw [ev]
                exact de_ty hg (gd.g.own x ho) (tyN_is ht) n3 n1
              · cases h
            · cases h
      · cases h
  · cases h
theorem tr_args (gd : Gd X E Φ C) {n : Nat} (ih : ∀ e c, trE C n e = some c → DE X E e (ev C.G Φ c)) : ∀ {es : List Expr} {cs : List Ex}, allO (trE C n) es = some cs → DA X E es (evs C.G Φ cs)
  | [], _, h => by cases h; rw [evs]; exact da_nil
  | e :: es, cs, h => by
    unfold allO at h
    split at h
    · rename_i p ps h1 h2
      cases h
      rw [evs]
      exact da_cons (ih e p h1) (tr_args gd ih h2) (tr_star h1 es X.env)
    · cases h
theorem tr_bf (gd : Gd X E Φ C) {f : Str} {b : Bf} {e : Expr} {es : List Expr} {cs : List Ex} {n : Nat} {p pos : Pos} (hn : nameOk f = true) (hgl : isGl (C.sc.names.lookup f) = true) (ho : C.G.own f = true) (hc : C.calm = true ∨ loudF f = false)
    (hb : bfOf f (e :: es).length = some b) (hcs : allO (trE C n) (e :: es) = some cs) (da : DA X E (e :: es) (evs C.G Φ cs)) : DE X E (.Call (.Name f p) (e :: es) [] pos) (ev C.G Φ (.bf b cs)) := by
  obtain ⟨n1, n2, n3⟩ := nameOk_is hn
  have hg : Gl X f := isGl_gl (by rw [gd.sc]; exact hgl)
  have hm := gd.g.own f ho
  have st : starEach (e :: es) X.env = (false, eval e X.env) :: starEach es X.env ∧ (backTo pos (starEach es X.env)).any (·.1) = false := by
    unfold allO at hcs
    split at hcs
    · rename_i p' ps h1 h2
      exact ⟨tr_star h1 es X.env, allO_star h2 pos X.env⟩
    · cases hcs
  rw [ev]
  unfold bfOf at hb
  split at hb
  · rename_i e1; subst e1; cases hb; exact de_callB call_len p_len hg hm Boot.«len» da n3 n1 st.1 st.2
  split at hb
  · rename_i e1; subst e1; cases hb; exact de_callB call_abs p_abs hg hm Boot.«abs» da n3 n1 st.1 st.2
  split at hb
  · rename_i e1; subst e1; cases hb; exact de_callB (call_isinst.or call_isinstT) (p_inst gd.g) hg hm Boot.«isinstance» da n3 n1 st.1 st.2
  split at hb
  · rename_i e1; subst e1; cases hb; exact de_callTy call_tuple_of p_tuple hg hm Boot.«tuple» da n3 n1 st.1 st.2
  split at hb
  · rename_i e1; subst e1; cases hb; exact de_callTy call_dictT p_dictB hg hm Boot.«dict» da n3 n1 st.1 st.2
  · cases hb
theorem tr_call (gd : Gd X E Φ C) {f : Str} {c : Ex} {e : Expr} {es : List Expr} {cs : List Ex} {n : Nat} {p pos : Pos} (h : trC C f (e :: es).length cs = some c) (hcs : allO (trE C n) (e :: es) = some cs) (da : DA X E (e :: es) (evs C.G Φ cs)) :
    DE X E (.Call (.Name f p) (e :: es) [] pos) (ev C.G Φ c) := by
  have st : starEach (e :: es) X.env = (false, eval e X.env) :: starEach es X.env ∧ (backTo pos (starEach es X.env)).any (·.1) = false := by
    have hcs' := hcs
    unfold allO at hcs'
    split at hcs'
    · rename_i p' ps h1 h2
      exact ⟨tr_star h1 es X.env, allO_star h2 pos X.env⟩
    · cases hcs'
  unfold trC at h
  split at h
  · rename_i hc
    obtain ⟨n1, n2, n3⟩ := nameOk_is hc.1
    split at h
    · rename_i j hj
      split at h
      · rename_i ej
        cases h
        obtain ⟨ej, nd⟩ := ej
        subst ej
        obtain ⟨ps, k, h1, h2, h3⟩ := gd.fn hc.2.2 f _ hj
        rw [ev]
        rw [← h1] at h2
        exact de_call (h2.top nd) h1.symm (h3.mono (Nat.le_succ _)) (isGl_gl (by rw [gd.sc]; exact hc.2.1)) gd.pass da (fun δ S ds S' q => (evs_len q).trans (allO_length hcs)) n1 st.1 st.2
      · cases h
    · split at h
      · cases h
      · split at h
        · rename_i ho
          obtain ⟨b, hb, rfl⟩ := Option.map_eq_some_iff.mp h
          exact tr_bf gd hc.1 hc.2.1 ho (.inl hc.2.2) hb hcs da
        · cases h
  · split at h
    · rename_i hc
      obtain ⟨b, hb, rfl⟩ := Option.map_eq_some_iff.mp h
      exact tr_bf gd hc.1 hc.2.1 hc.2.2.2.1 (.inr hc.2.2.2.2) hb hcs da
    · cases h
theorem tr_call0 (gd : Gd X E Φ C) {f : Str} {c : Ex} {p pos : Pos} (h : trC0 C f = some c) : DE X E (.Call (.Name f p) [] [] pos) (ev C.G Φ c) := by
  unfold trC0 at h
  split at h
  · rename_i hc
    obtain ⟨n1, n2, n3⟩ := nameOk_is hc.1
    split at h
    · rename_i hj
      split at h
      · rename_i nd
        cases h
        obtain ⟨ps, k, h1, h2, h3⟩ := gd.fn hc.2.2 f _ hj
        have e := List.length_eq_zero_iff.mp h1
        subst e
        rw [ev, evs]
        exact de_call0 (h2.top nd) (h3.mono (Nat.le_succ _)) (isGl_gl (by rw [gd.sc]; exact hc.2.1)) gd.pass n1
      · cases h
    · split at h
      · cases h
      · rename_i hi
        cases h
        obtain ⟨a, m, mk⟩ := gd.g.ini0 f hi
        rw [ev]
        exact de_makeN m mk (isGl_gl (by rw [gd.sc]; exact hc.2.1)) n1
      · cases h
  · cases h
theorem all_of_any {l : List (Bool × Sem Value)} (h : l.any (·.1) = false) : l.all (fun x => !x.1) = true := by
  rw [List.all_eq_not_any_not]
  simp only [Bool.not_not, h]
  rfl
theorem base_plain {o : Expr} {m : Str} {env : Env} (h : isCall o = false) : attributeBase o m env (eval o env) = eval o env := by
  cases o with
  | Call f es ks p =>
    cases es with
    | nil => cases f <;> first | rfl | (cases h; done)
    | cons a r => cases f <;> rfl
  | _ => rfl
theorem tr_mt (gd : Gd X E Φ C) {m : Str} {q : Mt} {o : Expr} {fo : Fd} {es : List Expr} {cs : List Ex} {n : Nat} {ap cp : Pos} (hq : mtOf m es.length = some q) (ho : DE X E o fo) (hcs : allO (trE C n) es = some cs) (da : DA X E es (evs C.G Φ cs))
    (hb : isCall o = false) (hl : es.length < 20) (hp : (ap.endLine == cp.line) = true) : DE X E (.Call (.Attribute o m ap) es [] cp) (fMt q fo (evs C.G Φ cs)) := by
  obtain ⟨id, s1, s2, s3⟩ := mtOf_is hq
  cases es with
  | nil =>
    cases hcs
    rw [evs]
    exact de_mt0 s1 s2 (s3 X) ho (base_plain hb) hp
  | cons e es =>
    have hcs' := hcs
    unfold allO at hcs'
    split at hcs'
    · rename_i q1 q2
      refine de_mt s1 s2 (s3 X) ho da (base_plain hb) ?_ hp (tr_star q1 es X.env) (allO_star q2 cp X.env)
      rw [all_of_any (allO_star hcs cp X.env)]
      show (true && true && decide ((e :: es).length + 0 + 0 < 30)) = true
      rw [decide_eq_true (by omega)]
      rfl
    · cases hcs'
theorem mtOf_pop {m : Str} {k : Nat} {q : Mt} (h : mtOf m k = some q) : (q = .pop → m = "pop") ∧ (q = .clear → m = "clear" ∧ k = 0) := by
  unfold mtOf at h
  split at h
  · split at h
    · cases h
      exact ⟨fun z => (nomatch z), fun z => (nomatch z)⟩
    · cases h
  split at h
  · rename_i e
    split at h
    · rename_i e0
      cases h
      exact ⟨fun z => (nomatch z), fun _ => ⟨e, e0⟩⟩
    · cases h
  split at h
  · cases h; exact ⟨fun z => (nomatch z), fun z => (nomatch z)⟩
  split at h
  · rename_i e; cases h; exact ⟨fun _ => e, fun z => (nomatch z)⟩
  split at h
  · cases h; exact ⟨fun z => (nomatch z), fun z => (nomatch z)⟩
  · cases h
theorem tr_mtX (gd : Gd X E Φ C) {m : Str} {q : Mt} {o : Expr} {fo : Fd} {es : List Expr} {cs : List Ex} {n : Nat} {ap cp : Pos} (hq : mtOf m es.length = some q) (ho : DE X E o fo) (hcs : allO (trE C n) es = some cs) (da : DA X E es (evs C.G Φ cs))
    (hb : isCall o = false) (hl : es.length < 20) (hp : (ap.endLine == cp.line) = true) : DE X E (.Call (.Attribute o m ap) es [] cp) (fMtX q fo (evs C.G Φ cs)) := by
  have base := tr_mt gd hq ho hcs da hb hl hp
  have hu : X.A.units + 1 < cLine := by have := gd.un; omega
  obtain ⟨k1, k2⟩ := mtOf_pop hq
  cases q with
  | pop =>
    have e := k1 rfl
    subst e
    show DE X E _ (fMtB .pop fo (evs C.G Φ cs))
    cases es with
    | nil =>
      cases hcs
      rw [evs]
      refine (pe_bm0 PySem.F.plainAttrs_list PySem.F.slot_list_pop PySem.F.type_list_pop mt_popB ho (base_plain hb) hp).weak fun σ H Q hh => ?_
      obtain ⟨ι, δ, S, rs, re, q⟩ := hh
      refine tOf.step rs re (Post.bind q) fun ι1 H1 S1 d v x1 r1 re1 p1 rv1 => ?_
      by_cases hk0 : (ditD d S1).isSome = true
      · rw [if_pos hk0] at p1
        exact p1.elim
      rw [if_neg hk0] at p1
      by_cases hk : False
      · exact hk.elim
      · skip
        by_cases hk' : isLstR d S1 = true
        · rw [if_pos hk'] at p1
          exact ⟨isLstR_ty r1 rv1 hk', p_mt r1 rv1 .nil p1⟩
        · rw [if_neg hk'] at p1
          exact p1.elim
    | cons e es =>
      have hcs' := hcs
      unfold allO at hcs'
      split at hcs'
      · rename_i q1 q2
        have few : ((backTo cp (starEach (e :: es) X.env)).all (fun x => !x.1) && (backToKw cp (keywordEach [] X.env)).all (fun x => x.1.isSome) && decide ((e :: es).length + ([] : List Keyword).length + (if ([] : List Keyword).isEmpty then 0 else 1) < 30)) = true := by
          rw [all_of_any (allO_star hcs cp X.env)]
          show (true && true && decide ((e :: es).length + 0 + 0 < 30)) = true
          rw [decide_eq_true (by omega)]
          rfl
        have two := base
        exact de_two two (de_tpop hu ho da (base_plain hb) few hp (tr_star q1 es X.env) (allO_star q2 cp X.env)) fMtB_or
      · cases hcs'
  | clear =>
    obtain ⟨e, e0⟩ := k2 rfl
    subst e
    have e1 := List.length_eq_zero_iff.mp e0
    subst e1
    cases hcs
    show DE X E _ (fMtB .clear fo (evs C.G Φ []))
    rw [evs] at base ⊢
    have two := base
    exact de_two two (de_tclear ho (base_plain hb) hp) fMtB_or
  | append => exact base
  | reverse => exact base
  | extend => exact base
theorem few_args {C : Tc} {n : Nat} {e : Expr} {es : List Expr} {cs : List Ex} {cp : Pos} {env : Env} (h : allO (trE C n) (e :: es) = some cs) (hl : (e :: es).length < 20) : ((backTo cp (starEach (e :: es) env)).all (fun x => !x.1) && (backToKw cp (keywordEach [] env)).all (fun x => x.1.isSome) && decide ((e :: es).length + ([] : List Keyword).length + (if ([] : List Keyword).isEmpty then 0 else 1) < 30)) = true := by
  rw [all_of_any (allO_star h cp env)]
  show (true && true && decide ((e :: es).length + 0 + 0 < 30)) = true
  rw [decide_eq_true (by omega)]
  rfl
theorem form_few {es : List Expr} {cp : Pos} {env : Env} (h : (backTo cp (starEach es env)).any (·.1) = false) (hl : es.length < 20) : methodCallForm (es.length + ([] : List Keyword).length) (backTo cp (starEach es env)) (backToKw cp (keywordEach [] env)) = true := by
  unfold methodCallForm
  rw [all_of_any h]
  show (true && true && decide (es.length + 0 + 0 < 30)) = true
  rw [decide_eq_true (by omega)]
  rfl
theorem meth_eval {o : Expr} {m : Str} {ap cp : Pos} {es : List Expr} {env : Env} (h : isCall o = false) (hf : methodCallForm (es.length + ([] : List Keyword).length) (backTo cp (starEach es env)) (backToKw cp (keywordEach [] env)) = true) (hl : (ap.endLine == cp.line) = true) :
    eval (.Call (.Attribute o m ap) es [] cp) env = (do
      let ov ← eval o env
      standAt ap.atName
      let (f, first) ← holding [ov] (getMethod ov m (do return (← importBound o env).getD true))
      callWith cp f first (backTo cp (starEach es env)) (backToKw cp (keywordEach [] env))) := by
  rw [arm_eval_Call, base_plain h]
  unfold methodCall calleeOf methodCallPos
  simp only [hf, hl, Bool.not_true, Bool.false_or, if_true]
  rfl
theorem tr_meth (gd : Gd X E Φ C) {m : Str} {o : Expr} {fo : Fd} {es : List Expr} {cs : List Ex} {n : Nat} {ap cp : Pos} (hc : C.calm = true) (ho : DE X E o fo) (hcs : allO (trE C n) es = some cs) (da : DA X E es (evs C.G Φ cs))
    (hb : isCall o = false) (hl : es.length < 20) (hp : (ap.endLine == cp.line) = true) : DE X E (.Call (.Attribute o m ap) es [] cp) (fMeth C.G Φ m fo (evs C.G Φ cs)) := by
  have hΦ : ∀ D m x k, C.G.mth D m = some (x, k) → ∃ ps n, ps.length = k ∧ HasA X.prog X.w X.mo C.G X.base n x ps (spOf X.mo k (Φ x)) ∧ Room n X.A := fun D m x k h => by
    obtain ⟨ps, n, h1, h2, h3⟩ := gd.fn hc x k (gd.mth D m x k h)
    exact ⟨ps, n, h1, h2, h3.mono (Nat.le_succ _)⟩
  cases es with
  | nil =>
    cases hcs
    rw [evs]
    exact de_meth0 gd.g hΦ gd.pass ho (meth_eval hb (form_few rfl (by decide)) hp)
  | cons e es =>
    have ff := form_few (allO_star hcs cp X.env) hl
    have hcs' := hcs
    unfold allO at hcs'
    split at hcs'
    · rename_i q1 q2
      exact de_meth gd.g hΦ gd.pass ho da (tr_star q1 es X.env) (allO_star q2 cp X.env) (meth_eval hb ff hp)
    · cases hcs'
theorem fChain_of {fa fb fc : Fd} {r r' : R2} {g g' : D → D → Sto → R D} (hr : Prim2 X r g) (hr' : Prim2 X r' g') {σ : St} {H : Hp} {Q : VK} (h : tOf X.mo X.N.length E (fChain g g' fa fb fc) σ H Q) :
    tChain r r' (tOf X.mo X.N.length E fa) (tOf X.mo X.N.length E fb) (tOf X.mo X.N.length E fc) σ H Q := by
  obtain ⟨ι, δ, S, rs, re, p⟩ := h
  refine tOf.step rs re (Post.bind p) fun ι1 H1 S1 d v x1 r1 re1 p1 rv1 => ?_
  refine tOf.step r1 re1 (Post.bind p1) fun ι2 H2 S2 e u x2 r2 re2 p2 rv2 => ?_
  refine hr ι2 H2 S2 v u d e _ (fun C H' => E σ C none H') r2 (rv1.ext x2) rv2 (Post.mono (Post.bind p2) (fun ι3 H3 S3 z x3 r3 p3 w rw' => ?_) fun _ _ q => q)
  obtain ⟨k, rfl, rfl, q⟩ := Post.isBl p3 rw'
  refine ⟨k, rfl, ?_⟩
  cases k with
  | false => exact iteF (q ι3 H3 (.refl ι3 H3) r3 _ (.bl _))
  | true =>
    refine iteT (tOf.step r3 (re2.ext x3) (Post.bind (r := fc δ S3) (f := fun z S4 => g' e z S4) q) fun ι4 H4 S4 y w' x4 r4 re4 p4 rv4 => ?_)
    exact hr' ι4 H4 S4 u w' e y Q _ r4 ((rv2.ext x3).ext x4) rv4 p4
theorem bVal_not (fa : Fd) : bVal (fNot fa) = bNot (bVal fa) := by
  funext δ S
  simp only [bVal, fNot, bNot]
  cases fa δ S with
  | ok d S1 => cases d <;> rfl
  | _ => rfl
theorem bVal_and (fa fb : Fd) : bVal (fAnd fa fb) = bAnd (bVal fa) (bVal fb) := by
  funext δ S
  simp only [bVal, fAnd, bAnd]
  cases fa δ S with
  | ok d S1 =>
    cases d with
    | bl k => cases k <;> rfl
    | _ => rfl
  | _ => rfl
theorem bVal_or (fa fb : Fd) : bVal (fOr fa fb) = bOr (bVal fa) (bVal fb) := by
  funext δ S
  simp only [bVal, fOr, bOr]
  cases fa δ S with
  | ok d S1 =>
    cases d with
    | bl k => cases k <;> rfl
    | _ => rfl
  | _ => rfl
noncomputable abbrev SoE (Φ : Phi) (n : Nat) : Prop := ∀ (C : Tc) (e : Expr) (c : Ex), trE C n e = some c → ∀ {X : Cx} {E : St → XK}, Gd X E Φ C → DE X E e (ev C.G Φ c)
noncomputable abbrev SoT (Φ : Phi) (n : Nat) : Prop := ∀ (C : Tc) (m : Nat) (e : Expr) (c : Ex), trE C n e = some c → okTn m e = true → ∀ {X : Cx} {E : St → XK}, Gd X E Φ C → DT X E e (bVal (ev C.G Φ c))
noncomputable abbrev SoW (Φ : Phi) (n : Nat) : Prop := ∀ (C : Tc) (m : Nat) (op : BoolOp) (es : List Expr) (p : Pos) (c : Ex), trE C n (.BoolOp op es p) = some c → es.all (okTn m) = true → ∀ {X : Cx} {E : St → XK}, Gd X E Φ C → DW X E (.BoolOp op es p) (bVal (ev C.G Φ c))
theorem Gd.nox (g : Gd X E Φ C) : Gd X.nox En Φ { C with rse := false } :=
  ⟨g.N, g.nd, g.sc, g.calm, g.g, g.fn, g.un, passSN, g.loc, (fun h => nomatch h), g.try', g.mth, g.ini
  ⟩
theorem ixOf_none {x : Str} : ∀ {N : List Str}, ixOf x N = none → x ∉ N
  | [], _ => by simp
  | y :: ys, h => by
    unfold ixOf at h
    split at h
    · cases h
    · rename_i e
      have := ixOf_none (Option.map_eq_none_iff.mp h)
      simp [this, Ne.symm e]
theorem inP_at (N : List Str) (x : Str) : (N ++ (inP N x).2)[(inP N x).1]? = some x := by
  unfold inP
  split
  · rename_i i h
    rw [List.append_nil]
    exact ixOf_is h
  · simp
theorem inP_nd {N : List Str} {x : Str} (h : N.Nodup) : (N ++ (inP N x).2).Nodup := by
  unfold inP
  split
  · rw [List.append_nil]
    exact h
  · rename_i e
    rw [List.nodup_append]
    refine ⟨h, by simp, fun a ha b hb z => ?_⟩
    rw [List.mem_singleton] at hb
    exact ixOf_none e (hb ▸ z ▸ ha)
theorem inP_mem {N : List Str} {x y : Str} (h : y ∈ (inP N x).2) : y = x := by
  unfold inP at h
  split at h
  · simp at h
  · simpa using h
theorem comp_sc (gd : Gd X E Φ C) {x : Str} {scope : Scope} (h : compOk C x scope = true) : C.calm = true ∧ scope.names.lookup x = some .local ∧ CompSc X (C.N ++ (inP C.N x).2) (inP C.N x).2 [(inP C.N x).1] scope := by
  unfold compOk at h
  simp only [Bool.and_eq_true, decide_eq_true_eq, List.all_eq_true, Bool.or_eq_true] at h
  obtain ⟨⟨⟨⟨h1, h2⟩, h3⟩, h4⟩, h5⟩ := h
  refine ⟨h1, h3, ⟨h2, fun y hy => (h4 y hy).1.1, fun y hy e => ?_, fun y hy e => ?_, by rw [gd.N], fun j y e hl => ?_, fun y hy => ?_⟩⟩
  · rcases (h4 y hy).1.2 with z | z
    · exact absurd e z
    · exact z
  · have hk : X.env.kindOf y.1 = C.sc.names.lookup y.1 := by rw [← gd.sc]; rfl
    rw [hk]
    rcases (h4 y hy).2 with (z | z) | z
    · exact absurd e z
    · exact .inl z
    · exact .inr z
  · have hy : y = x := by
      have hm := List.mem_of_getElem? e
      rcases List.mem_append.mp hm with z | z
      · rcases h5 y z with z | z
        · exact z
        · exact absurd hl z
      · exact inP_mem z
    subst hy
    simp only [List.mem_singleton]
    exact nodup_at (inP_nd gd.nd) e (inP_at C.N y)
  · rw [inP_mem hy]
    exact h3
theorem Gd.inC (gd : Gd X E Φ C) (x : Str) (scope : Scope) (cl : List (Str × Addr)) (Ca : Addr) (s₃ : Shared) (H₃ : Hp) (ex : List Addr) : Gd (compX X (C.N ++ (inP C.N x).2) scope cl Ca s₃ H₃ ex) En Φ (inC C x scope) :=
  ⟨rfl, inP_nd gd.nd, (by show relabelS scope X.env.scope = relabelS scope C.sc; rw [gd.sc]), gd.calm, gd.g, gd.fn, gd.un, passSN, (fun h => nomatch h), (fun h => nomatch h), (fun h => nomatch h), gd.mth, gd.ini
  ⟩
theorem tr_iter1 {n : Nat} (snd : SoE Φ n) (g : Gd X E Φ C) {tg it : Expr} {c : Ix} (h : trI C (fun C' => trE C' n) it = some c) : DI X E tg it (evI C.G Φ c) ∧ ∀ x, foldedSetIterable it X.env x = pure x := by
  have plain : ∀ {e : Expr} {c : Ix}, (trE C n e).map Ix.val = some c → DI X E tg e (evI C.G Φ c) ∧ ∀ x, foldedSetIterable e X.env x = pure x := fun {e c} h => by
    obtain ⟨a, h1, rfl⟩ := Option.map_eq_some_iff.mp h
    rw [evI]
    exact ⟨di_val (snd C _ _ h1 g), fun x => tr_folded h1 X.env x⟩
  unfold trI at h
  split at h
  · split at h
    · rename_i hc
      obtain ⟨a', h1, rfl⟩ := Option.map_eq_some_iff.mp h
      obtain ⟨e1, e2, e3⟩ := hc
      subst e1
      refine ⟨di_range1 (isGl_gl (by rw [g.sc]; exact e2)) (g.g.own _ e3) ?_ (tr_star h1 [] X.env), fun _ => rfl⟩
      exact da_cons (snd C _ _ h1 g) da_nil (tr_star h1 [] X.env)
    · split at h
      · cases h
      · exact plain h
  · exact plain h
theorem tr_ival {n : Nat} (snd : SoE Φ n) (g : Gd X E Φ C) {it : Expr} {e : Ex} (h : trI C (fun C' => trE C' n) it = some (.val e)) : DE X E it (ev C.G Φ e) := by
  have plain : ∀ {e' : Expr}, (trE C n e').map Ix.val = some (.val e) → DE X E e' (ev C.G Φ e) := fun {e'} h => by
    obtain ⟨a, h1, h2⟩ := Option.map_eq_some_iff.mp h
    cases h2
    exact snd C _ _ h1 g
  unfold trI at h
  split at h
  · split at h
    · obtain ⟨a, _, h2⟩ := Option.map_eq_some_iff.mp h
      cases h2
    · split at h
      · cases h
      · exact plain h
  · exact plain h
structure CompP (X : Cx) (elt te iter : Expr) (ifs : List Expr) (scope : Scope) (N' more : List Str) (is : List Nat) (g : Fg) (fi : Fi) (c : Option Fb) (f : Fd) : Prop where
  calm : X.calm = true
  sc : CompSc X N' more is scope
  it : DI X.nox En te iter fi
  fs : ∀ y, foldedSetIterable iter X.env y = pure y
  tg : ∀ cl C s₃ H₃ ex, DG (compX X N' scope cl C s₃ H₃ ex) te g
  ifs : ∀ cl C s₃ H₃ ex, PTs (compX X N' scope cl C s₃ H₃ ex) ifs (bOf X.mo N'.length En (optT c))
  elt : ∀ cl C s₃ H₃ ex, DE (compX X N' scope cl C s₃ H₃ ex) En elt f
  keep : ∀ (d : D) (δ δ1 : Dv) (S : Sto), g d δ S = some δ1 → (∀ j ∈ is, ∀ d', δ[j]? ≠ some (some d')) → ∀ (j : Nat) d', δ[j]? = some (some d') → δ1[j]? = some (some d')
theorem gSet_keep {i : Nat} (d : D) (δ δ1 : Dv) (S : Sto) (h : gSet i d δ S = some δ1) (hm : ∀ j ∈ [i], ∀ d', δ[j]? ≠ some (some d')) (j : Nat) (d' : D) (e : δ[j]? = some (some d')) : δ1[j]? = some (some d') := by
  cases h
  have ne : i ≠ j := by
    intro z
    subst z
    exact hm i (by simp) d' e
  exact (List.getElem?_set_ne ne).trans e
theorem tr_compP {n : Nat} (snd : SoE Φ n) (tst : SoT Φ n) {elt iter : Expr} {x : Str} {ifs : List Expr} {scope : Scope} {p : Pos} {c : Ex} (h : trL C (fun C' => trE C' n) elt x iter ifs scope = some c) (gd : Gd X E Φ C) :
    ∃ N' more is g fi t f, ev C.G Φ c = fComp fi is more.length g t f bigB ∧ CompP X elt (.Name x p) iter ifs scope N' more is g fi t f := by
  unfold trL at h
  split at h
  · rename_i hk
    obtain ⟨k1, k2, k3⟩ := comp_sc gd hk
    split at h
    · rename_i it e h1 h2
      have i1 := tr_iter1 (tg := .Name x p) snd gd.nox h1
      have tg : ∀ cl Ca s₃ H₃ ex, DG (compX X (C.N ++ (inP C.N x).2) scope cl Ca s₃ H₃ ex) (.Name x p) (gSet (inP C.N x).1) := fun cl Ca s₃ H₃ ex =>
        have hl : (relabel scope X.env).names.lookup x = some .local := lookup_relabel_local k2
        dg_name (inP_nd gd.nd) (inP_at C.N x) (.inl hl) (.inr hl)
      have el : ∀ cl Ca s₃ H₃ ex, DE (compX X (C.N ++ (inP C.N x).2) scope cl Ca s₃ H₃ ex) En elt (ev C.G Φ e) := fun cl Ca s₃ H₃ ex => snd _ _ _ h2 (gd.inC x scope cl Ca s₃ H₃ ex)
      split at h
      · cases h
        exact ⟨_, _, _, _, _, none, _, by rw [ev], gd.calm k1, k3, i1.1, i1.2, tg, fun cl Ca s₃ H₃ ex => pts_nil, el, gSet_keep⟩
      · split at h
        · rename_i c' h3
          split at h
          · rename_i ok
            cases h
            exact ⟨_, _, _, _, _, some _, _, by rw [ev]; rfl, gd.calm k1, k3, i1.1, i1.2, tg, fun cl Ca s₃ H₃ ex => pts_one (tst _ 12 _ _ h3 ok (gd.inC x scope cl Ca s₃ H₃ ex)), el, gSet_keep⟩
          · cases h
        · cases h
      · cases h
    · cases h
  · cases h
theorem tr_compG {n : Nat} (snd : SoE Φ n) (tst : SoT Φ n) {elt : Expr} {gs : List Comprehension} {scope : Scope} {c : Ex} (h : trLc C (fun C' => trE C' n) elt scope gs = some c) (gd : Gd X E Φ C) :
    ∃ te iter ifs N' more is g fi t f, gs = [⟨te, iter, ifs, 0⟩] ∧ ev C.G Φ c = fComp fi is more.length g t f bigB ∧ CompP X elt te iter ifs scope N' more is g fi t f := by
  unfold trLc at h
  split at h
  · obtain ⟨N', more, is, g, fi, t, f, e, q⟩ := tr_compP snd tst h gd
    exact ⟨_, _, _, N', more, is, g, fi, t, f, rfl, e, q⟩
  · cases h
theorem tr_comp {n : Nat} (snd : SoE Φ n) (tst : SoT Φ n) {elt : Expr} {gs : List Comprehension} {scope : Scope} {pos : Pos} {c : Ex} (h : trLc C (fun C' => trE C' n) elt scope gs = some c) (gd : Gd X E Φ C) :
    DE X E (.ListComp elt gs scope pos) (ev C.G Φ c) := by
  obtain ⟨te, iter, ifs, N', more, is, g, fi, t, f, rfl, e, q⟩ := tr_compG snd tst h gd
  rw [e]
  exact de_comp bigB q.calm q.sc q.it q.fs q.tg q.ifs q.elt q.keep
theorem so_e {n : Nat} (snd : SoE Φ n) (tst : SoT Φ n) : SoE Φ (n + 1) := by
  intro C e c h X E gd
  have ih : ∀ e c, trE C n e = some c → DE X E e (ev C.G Φ c) := fun e c h => snd C e c h gd
  cases e with
  | Constant k a p =>
    replace h : trK k = some c := h
    cases k <;> cases h <;> rw [ev]
    · exact de_non
    · exact de_bl
    · exact de_int
    · exact de_str
  | Name x p => exact tr_name gd h
  | BinOp a op b p =>
    replace h : (match boOf op, trE C n a, trE C n b with | some o, some a, some b => some (Ex.bin o a b) | _, _, _ => none) = some c := h
    split at h
    · rename_i h1 h2 h3
      cases h
      obtain ⟨r, o1, o2⟩ := op_bo (X := X) h1
      rw [ev]
      exact de_op o1 o2 (ih _ _ h2) (ih _ _ h3)
    · cases h
  | UnaryOp op a p =>
    replace h : trU (trE C n) a op = some c := h
    cases op <;> first | (cases h; done) | skip
    · obtain ⟨a', h1, rfl⟩ := Option.map_eq_some_iff.mp h
      rw [ev]
      exact de_not (ih _ _ h1)
    · obtain ⟨a', h1, rfl⟩ := Option.map_eq_some_iff.mp h
      rw [ev]
      exact de_un un_neg p_neg (ih _ _ h1)
  | BoolOp op es p =>
    replace h : trB (trE C n) op p es = some c := h
    unfold trB at h
    split at h
    · cases h
    · cases op <;> exact de_one (ih _ _ h)
    · split at h
      · rename_i h1 h2
        cases h
        cases op
        · show DE X E _ (ev C.G Φ (.and _ _))
          rw [ev]
          exact de_and (ih _ _ h1) (ih _ _ h2)
        · show DE X E _ (ev C.G Φ (.or _ _))
          rw [ev]
          exact de_or (ih _ _ h1) (ih _ _ h2)
      · cases h
  | Compare a ops bs p =>
    replace h : trCp (trE C n) a ops bs = some c := h
    unfold trCp at h
    split at h
    · unfold trCp1 at h
      split at h
      · rename_i k hk
        have hk2 := isIs_is hk
        clear hk
        subst hk2
        split at h
        · rename_i hb
          obtain ⟨k1, p1, rfl⟩ := isNoneE_is hb
          obtain ⟨a', h1, rfl⟩ := Option.map_eq_some_iff.mp h
          cases k
          · show DE X E _ (ev C.G Φ (.notN _))
            rw [ev]
            exact de_pc (pc_notN (ih _ _ h1)) tNotN_of rfl
          · show DE X E _ (ev C.G Φ (.isN _))
            rw [ev]
            exact de_pc (pc_isN (ih _ _ h1)) tIsN_of rfl
        · split at h
          · cases h
      · split at h
        · rename_i h1 h2 h3
          cases h
          obtain ⟨r, o1, o2⟩ := op_co (X := X) gd.un h1
          rw [ev]
          exact de_cmp o1 o2 (tr_marks h3 _) (ih _ _ h2) (ih _ _ h3)
        · cases h
    · unfold trCp2 at h
      split at h
      · rename_i h1 h2 h3 h4 h5
        cases h
        obtain ⟨r, o1, o2⟩ := op_co (X := X) gd.un h1
        obtain ⟨r', o1', o2'⟩ := op_co (X := X) gd.un h2
        rw [ev]
        exact (pe_chain o1 o1' (ih _ _ h3) (ih _ _ h4) (ih _ _ h5) (tr_marks h5 _)).weak fun σ H Q q => fChain_of o2 o2' q
      · cases h
    · cases h
  | IfExp t a b p =>
    replace h : (match trE C n t, trE C n a, trE C n b with | some c', some a, some b => if okT t = true then some (Ex.ite c' a b) else none | _, _, _ => none) = some c := h
    split at h
    · rename_i h1 h2 h3
      split at h
      · rename_i hk
        cases h
        rw [ev]
        exact de_ifExp (tst C 12 _ _ h1 hk gd) (ih _ _ h2) (ih _ _ h3)
      · cases h
    · cases h
  | Tuple es k p =>
    obtain ⟨a', h1, rfl⟩ := Option.map_eq_some_iff.mp (show (allO (trE C n) es).map Ex.tup = some c from h)
    rw [ev]
    exact de_tup (tr_args gd ih h1)
  | List es p =>
    obtain ⟨a', h1, rfl⟩ := Option.map_eq_some_iff.mp (show (allO (trE C n) es).map Ex.lst = some c from h)
    rw [ev]
    exact de_lst (tr_args gd ih h1)
  | Subscript a b p =>
    replace h : trSub (trE C n) a b = some c := h
    unfold trSub at h
    split at h
    · rename_i hs
      obtain ⟨p2, rfl⟩ := sliceOf_is hs
      split at h
      · rename_i h1
        unfold trSl at h
        split at h
        · obtain ⟨l', h2, rfl⟩ := Option.map_eq_some_iff.mp h
          rw [ev]
          exact de_slLo (ih _ _ h1) (ih _ _ h2)
        · obtain ⟨l', h2, rfl⟩ := Option.map_eq_some_iff.mp h
          rw [ev]
          exact de_slHi (ih _ _ h1) (ih _ _ h2)
        · split at h
          · rename_i h2 h3
            cases h
            rw [ev]
            exact de_sl (ih _ _ h1) (ih _ _ h2) (ih _ _ h3)
          · cases h
        · cases h
      · cases h
    split at h
    · rename_i h1 h2
      have k := fun pos => de_ix (pos := pos) (ix_seq.or (ix_tk (by have := gd.un; omega))) p_idxB (tr_ix h2) (ih _ _ h1) (ih _ _ h2)
      split at h
      · cases h
        rw [ev, ev]
        exact de_gc (k _)
      · cases h
        rw [ev]
        exact k _
    · cases h
  | Call f es ks cp =>
    replace h : trCa C (trE C n) es cp f ks = some c := h
    unfold trCa at h
    split at h
    · unfold trCn at h
      split at h
      · exact tr_call0 gd h
      · split at h
        · rename_i hcs
          exact tr_call gd h hcs (tr_args gd ih hcs)
        · cases h
    · unfold trCm at h
      split at h
      · rename_i o' cs h2 h3
        split at h
        · rename_i hb
          split at h
          · rename_i hu
            cases h
            obtain ⟨rfl, he, hl, hp⟩ := hu
            rw [ev]
            cases es with
            | nil => cases he
            | cons e es =>
              have h3' := h3
              unfold allO at h3'
              split at h3'
              · rename_i q1 q2
                exact de_tget (by have := gd.un; omega) (ih _ _ h2) (tr_args gd ih h3) (base_plain hb) (few_args h3 hl) hp (tr_star q1 es X.env) (allO_star q2 cp X.env)
              · cases h3'
          split at h
          · rename_i q h1
            split at h
            · rename_i hk
              cases h
              rw [ev]
              exact tr_mtX gd h1 (ih _ _ h2) h3 (tr_args gd ih h3) hb hk.1 hk.2
            · cases h
          · split at h
            · rename_i hc
              cases h
              rw [ev]
              exact tr_meth gd hc.1 (ih _ _ h2) h3 (tr_args gd ih h3) hb hc.2.1 hc.2.2
            · cases h
        · cases h
      · cases h
    · cases h
  | ListComp elt gs scope p =>
    exact tr_comp snd tst (show trLc C (fun C' => trE C' n) elt scope gs = some c from h) gd
  | Dict ks vs p =>
    obtain ⟨o, h1, rfl⟩ := Option.map_eq_some_iff.mp (show (trDict ks vs).map (fun _ => Ex.dnewT) = some c from h)
    unfold trDict at h1
    split at h1
    · cases h1
      show DE X E _ (ev C.G Φ .dnewT)
      rw [ev]
      exact de_dnewT
    · cases h1
  | _ => exact nomatch (show (none : Option Ex) = some c from h)
theorem so_w {n : Nat} (tst : SoT Φ n) (sw : SoW Φ n) : SoW Φ (n + 1) := by
  intro C m op es p c h hk X E gd
  replace h : trB (trE C n) op p es = some c := h
  cases es with
  | nil => cases h
  | cons a r =>
    rw [List.all_cons, Bool.and_eq_true] at hk
    cases r with
    | nil =>
      cases op with
      | And => exact dw_and1 (tst C m a c h hk.1 gd)
      | Or => exact dw_or1 (tst C m a c h hk.1 gd)
    | cons b r =>
      replace h : (match trE C n a, trE C n (.BoolOp op (b :: r) p) with | some a, some b => some (boE op a b) | _, _ => none) = some c := h
      split at h
      · rename_i a' b' h1 h2
        cases h
        cases op with
        | And =>
          show DW X E _ (bVal (ev C.G Φ (.and _ _)))
          rw [ev, bVal_and]
          exact dw_and (tst C m a a' h1 hk.1 gd) (sw C m .And (b :: r) p b' h2 hk.2 gd)
        | Or =>
          show DW X E _ (bVal (ev C.G Φ (.or _ _)))
          rw [ev, bVal_or]
          exact dw_or (tst C m a a' h1 hk.1 gd) (sw C m .Or (b :: r) p b' h2 hk.2 gd)
      · cases h
theorem so_t {n : Nat} (snd : SoE Φ n) (tst : SoT Φ n) (snd1 : SoE Φ (n + 1)) (sw1 : SoW Φ (n + 1)) : SoT Φ (n + 1) := by
  intro C m e c h hk X E gd
  cases m with
  | zero => cases hk
  | succ m =>
    have base := snd1 C e c h gd
    cases e with
    | IfExp _ _ _ _ => cases hk
    | BoolOp op es p => exact (sw1 C m op es p c h hk gd).pt
    | UnaryOp op a p =>
      cases op with
      | Not =>
        obtain ⟨a', h1, rfl⟩ := Option.map_eq_some_iff.mp (show (trE C n a).map Ex.not = some c from h)
        rw [ev, bVal_not]
        exact dt_not (tst C m a a' h1 hk gd)
      | _ => exact dt_val base fun _ => rfl
    | Compare a ops bs p =>
      have ih : ∀ e c, trE C n e = some c → DE X E e (ev C.G Φ c) := fun e c h => snd C e c h gd
      replace h : trCp (trE C n) a ops bs = some c := h
      unfold trCp at h
      split at h
      · unfold trCp1 at h
        split at h
        · rename_i k hk'
          have hk2 := isIs_is hk'
          clear hk'
          subst hk2
          split at h
          · rename_i hb
            obtain ⟨k1, p1, rfl⟩ := isNoneE_is hb
            obtain ⟨a', h1, rfl⟩ := Option.map_eq_some_iff.mp h
            cases k
            · show DT X E _ (bVal (ev C.G Φ (.notN _)))
              rw [ev]
              exact dt_pc (pc_notN (ih _ _ h1)) tNotN_of rfl
            · show DT X E _ (bVal (ev C.G Φ (.isN _)))
              rw [ev]
              exact dt_pc (pc_isN (ih _ _ h1)) tIsN_of rfl
          · split at h
            · cases h
        · split at h
          · rename_i h1 h2 h3
            cases h
            obtain ⟨r, o1, o2⟩ := op_co (X := X) gd.un h1
            rw [ev]
            exact dt_cmp o1 o2 (tr_marks h3 _) (ih _ _ h2) (ih _ _ h3)
          · cases h
      · unfold trCp2 at h
        split at h
        · rename_i h1 h2 h3 h4 h5
          cases h
          obtain ⟨r, o1, o2⟩ := op_co (X := X) gd.un h1
          obtain ⟨r', o1', o2'⟩ := op_co (X := X) gd.un h2
          rw [ev]
          exact (pt_chain o1 o1' (ih _ _ h3) (ih _ _ h4) (ih _ _ h5) (tr_marks h5 _)).weak (bOf_tB fun σ H Q q => fChain_of o2 o2' q)
        · cases h
      · cases h
    | _ => exact dt_val base fun _ => rfl
theorem so_all : ∀ n : Nat, SoE Φ n ∧ SoT Φ n ∧ SoW Φ n
  | 0 => ⟨fun _ _ _ h => (by cases h), ⟨fun _ _ _ _ h => (by cases h), fun _ _ _ _ _ _ h => (by cases h)⟩⟩
  | n + 1 => by
    obtain ⟨h1, h2, h3⟩ := so_all n
    have a := so_e h1 h2
    have b := so_w h2 h3
    exact ⟨a, so_t h1 h2 a b, b⟩
theorem tr_sound {n : Nat} {e : Expr} {c : Ex} (h : trE C n e = some c) (gd : Gd X E Φ C) : DE X E e (ev C.G Φ c) := (so_all n).1 C e c h gd
theorem tr_test {n : Nat} {e : Expr} {c : Ex} (h : trE C n e = some c) (hk : okT e = true) (gd : Gd X E Φ C) : DT X E e (bVal (ev C.G Φ c)) := (so_all n).2.1 C 12 e c h hk gd
end
set_option genInjectivity false
set_option genSizeOfSpec false
inductive Sx where
  | set (i : Nat) (e : Ex)
  | ret (e : Ex)
  | retN
  | expr (e : Ex)
  | pass
  | brk
  | cnt
  | ite (t : Ex) (a b : List Sx)
  | for_ (i : Nat) (it : Ix) (b : List Sx)
  | sto (o i e : Ex)
  | stoT (o : Ex) (is : List Ex) (e : Ex)
  | asg (is : List Nat) (e : Ex)
  | bad
mutual
noncomputable def exS (G : Glo) (Φ : Phi) : Sx → Fs
  | .set i e => sSet i (ev G Φ e)
  | .ret e => sRet (ev G Φ e)
  | .retN => fun _ S => .ret .non S
  | .expr e => sExpr (ev G Φ e)
  | .pass => sNext
  | .brk => fun δ S => .brk δ S
  | .cnt => fun δ S => .cnt δ S
  | .ite t a b => sIf (bVal (ev G Φ t)) (exSs G Φ a) (exSs G Φ b)
  | .for_ i it b => sForX (evV G Φ it) (evI G Φ it) (gSet i) (exSs G Φ b) bigB
  | .sto o i e => sStoB (ev G Φ o) (ev G Φ i) (ev G Φ e)
  | .stoT o is e => sStoT (ev G Φ o) (evs G Φ is) (ev G Φ e)
  | .asg is e => sAsg (ev G Φ e) (gNames is)
  | .bad => sBad
noncomputable def exSs (G : Glo) (Φ : Phi) : List Sx → Fs
  | [] => sNext
  | s :: ss => sSeq (exS G Φ s) (exSs G Φ ss)
end
noncomputable def dep : Nat := 24
noncomputable def isL : Option NameKind → Bool
  | some .local => true
  | _ => false
noncomputable def isStar : Expr → Bool
  | .Starred _ _ => true
  | _ => false
noncomputable def constK (k : Nat) (e : Expr) : Bool := constantsAlone k e
noncomputable def nameAt (C : Tc) : Expr → Option Nat
  | .Name x _ => if isL (C.sc.names.lookup x) = true ∨ C.sc.names.lookup x = some .cell then ixOf x C.N else none
  | _ => none
noncomputable def isTupE : Expr → Bool
  | .Tuple _ _ _ => true
  | _ => false
noncomputable def early (C : Tc) (y : Str) (py : Pos) (scope : Scope) (vpos : Pos) : Bool :=
  (ScopeKind.function == ScopeKind.function) && C.sc.names.lookup y == some .local && py.line == vpos.line && !(scope.names.any fun (n, k) => n == y && (k == .local || k == .cell))
noncomputable def setOk (C : Tc) (y : Str) (py : Pos) : Expr → Pos → Bool
  | .ListComp _ _ _ _, _ => false
  | _, _ => true
noncomputable def par2 : List Expr → Expr → Option (Str × Pos × Str × Pos × Expr × Expr)
  | [.Name x p, .Name y q], .Tuple [a, b] _ _ => some (x, p, y, q, a, b)
  | _, _ => none
noncomputable def trAs1 (C : Tc) (pos : Pos) (e : Expr) : Expr → Option Sx
  | .Name x px => match ixOf x C.N, trE C dep e with
    | some i, some c => if (isL (C.sc.names.lookup x) = true ∨ C.sc.names.lookup x = some .cell) ∧ C.st = true ∧ setOk C x px e pos = true then some (.set i c) else none
    | _, _ => none
  | .Subscript o (.Tuple is _ _) _ => match trE C dep o, allO (trE C dep) is, trE C dep e with
    | some o', some is', some e' => some (.stoT o' is' e')
    | _, _, _ => none
  | .Subscript o i _ => match trE C dep o, trE C dep i, trE C dep e with
    | some o', some i', some e' => some (.sto o' i' e')
    | _, _, _ => none
  | .Tuple ts _ _ => match par2 ts e with
    | some _ => none
    | none => match allO (nameAt C) ts, trE C dep e with
      | some is, some e' => if C.calm = true ∧ C.st = true ∧ isTupE e = false then some (.asg is e') else none
      | _, _ => none
  | _ => none
noncomputable def trAs (C : Tc) (pos : Pos) (e : Expr) : List Expr → Option Sx
  | [t] => trAs1 C pos e t
  | _ => none
noncomputable def trRet (C : Tc) : Option Expr → Option Sx
  | some e => (trE C dep e).map .ret
  | none => some .retN
noncomputable def trFo1 (C : Tc) (t : Tc → List Stmt → Option (List Sx)) (it : Expr) (b : List Stmt) : Expr → Option Sx
  | .Name x _ => match ixOf x C.N, trI { C with rse := false } (fun C' => trE C' dep) it, t { C with rse := false } b with
    | some i, some it', some b => if (isL (C.sc.names.lookup x) = true ∨ C.sc.names.lookup x = some .cell) ∧ C.calm = true ∧ C.st = true then some (.for_ i it' b) else none
    | _, _, _ => none
  | _ => none
noncomputable def trFo (C : Tc) (t : Tc → List Stmt → Option (List Sx)) (it : Expr) (b : List Stmt) (tg : Expr) : List Stmt → Option Sx
  | [] => trFo1 C t it b tg
  | _ => none
noncomputable def trS1 (C : Tc) (t : Tc → List Stmt → Option (List Sx)) : Stmt → Option Sx
  | .Assign ts e pos => trAs C pos e ts
  | .Return o _ => trRet C o
  | .Expr e _ => if isComp e = false then (trE C dep e).map .expr else none
  | .Pass _ => some .pass
  | .Break _ => some .brk
  | .Continue _ => some .cnt
  | .If c a b _ => match trE C dep c, t C a, t C b with
    | some c', some a, some b => if okT c = true then some (.ite c' a b) else none
    | _, _, _ => none
  | .For tg it b els _ => trFo C t it b tg els
  | _ => none
noncomputable def trS : Nat → Tc → List Stmt → Option (List Sx)
  | 0, _, _ => none
  | _ + 1, _, [] => some []
  | n + 1, C, s :: ss => match trS n C ss with
    | some cs => some ((trS1 C (trS n) s).getD .bad :: cs)
    | none => none
section
variable {X : Cx} {E : St → XK} {Φ : Phi} {C : Tc}
theorem Gd.tryX (g : Gd X E Φ C) (pn : List (Addr × Obj)) (E' : St → XK) : Gd (tryX X pn E') E' Φ { C with rse := false } :=
  ⟨g.N, g.nd, g.sc, g.calm, g.g, g.fn, g.un, passS_try, g.loc, (fun h => nomatch h), g.try', g.mth, g.ini
  ⟩
theorem Gd.handX (g : Gd X E Φ C) (ea : Addr) : Gd (handX X ea) En Φ { C with rse := false, try' := false, calm := false } :=
  ⟨g.N, g.nd, g.sc, (fun h => nomatch h), g.g, (fun h => nomatch h), g.un, passSN, g.loc, (fun h => nomatch h), (fun h => nomatch h), g.mth, g.ini
  ⟩
theorem isL_is {o : Option NameKind} (h : isL o = true) : o = some .local := by
  unfold isL at h
  split at h
  · rfl
  · cases h
theorem tr_iter (g : Gd X E Φ C) {tg it : Expr} {c : Ix} (h : trI C (fun C' => trE C' dep) it = some c) : DI X E tg it (evI C.G Φ c) ∧ ∀ x, foldedSetIterable it X.env x = pure x := tr_iter1 (so_all dep).1 g h
theorem loc_of {C : Tc} {x : Str} (h : isL (C.sc.names.lookup x) = true ∨ C.sc.names.lookup x = some .cell) : Loc C.sc x := by
  rcases h with h | h
  · exact .inl (isL_is h)
  · exact .inr h
theorem Gd.hst (g : Gd X E Φ C) (hs : C.st = true) {x : Str} (h : isL (C.sc.names.lookup x) = true ∨ C.sc.names.lookup x = some .cell) : X.fn x = true ∨ X.env.scope.names.lookup x = some .local := by
  rcases h with h | h
  · exact .inr (by rw [g.sc]; exact isL_is h)
  · rcases g.loc hs x with z | z
    · exact .inl z
    · exact absurd h z
theorem tr_set {i : Nat} {x : Str} {px pos : Pos} {e : Expr} {c : Ex} (h : trE C dep e = some c) (hok : setOk C x px e pos = true) (hi : C.N[i]? = some x) (hk : isL (C.sc.names.lookup x) = true ∨ C.sc.names.lookup x = some .cell) (hst : C.st = true) (g : Gd X E Φ C) :
    DS X E (.Assign [.Name x px] e pos) (sSet i (ev C.G Φ c)) := by
  have nd : X.N.Nodup := by rw [g.N]; exact g.nd
  have hi' : X.N[i]? = some x := by rw [g.N]; exact hi
  have hl : Loc X.env.scope x := by rw [g.sc]; exact loc_of hk
  by_cases hc : isComp e = false
  · exact ds_set nd hi' hl (tr_sound h g) (tr_swaps h hc _ _ _) (g.hst hst hk)
  · cases e <;> first | exact absurd rfl hc | cases hok
theorem swapsS_sub {o i : Expr} {p : Pos} (e : Expr) (l : Nat) (env : Env) : swapsWithSole [.Subscript o i p] e l env = pure false := by
  cases e <;> rfl
theorem swaps_sub {o i : Expr} {p : Pos} (e : Expr) (env : Env) : swappedStores [.Subscript o i p] e env = pure none := by
  cases e <;> rfl
theorem swapsS_tup {ts : List Expr} {k : Nat} {p : Pos} (e : Expr) (l : Nat) (env : Env) : swapsWithSole [.Tuple ts k p] e l env = pure false := by
  cases e <;> rfl
theorem swaps_tup {ts : List Expr} {k : Nat} {p : Pos} {e : Expr} (env : Env) (h : isTupE e = false) : swappedStores [.Tuple ts k p] e env = pure none := by
  cases e <;> first | rfl | (cases h; done)
noncomputable def isSlice : Expr → Bool
  | .Slice _ _ _ _ => true
  | _ => false
theorem tr_notSlice {n : Nat} {e : Expr} {c : Ex} (h : trE C n e = some c) : isSlice e = false := by
  have k := tr_ok h
  clear h
  cases e <;> first | rfl | cases k
theorem sub_assign {o i : Expr} {p : Pos} {env : Env} (h : isSlice i = false) (v : Value) : assign (.Subscript o i p) env v = (do
      let ov ← holding [v] (eval o env)
      let iv ← holding [v, ov] (eval i env)
      standAt p
      holding [v, ov, iv] (setItem ov iv v)
      release [v, ov, iv] []) := by
  cases i <;> first | rfl | (cases h; done)
theorem names_at (g : Gd X E Φ C) (hs : C.st = true) : ∀ {ts : List Expr} {is : List Nat}, allO (nameAt C) ts = some is → NamesAt X ts is
  | [], _, h => by cases h; trivial
  | t :: ts, is, h => by
    unfold allO at h
    split at h
    · rename_i i js h1 h2
      cases h
      unfold nameAt at h1
      split at h1
      · split at h1
        · rename_i hk
          exact ⟨⟨by rw [g.N]; exact ixOf_is h1, by rw [g.sc]; exact loc_of hk, g.hst hs hk⟩, names_at g hs h2⟩
        · cases h1
      · cases h1
    · cases h
theorem tr_as {e : Expr} {ts : List Expr} {pos : Pos} {c : Sx} (h : trAs C pos e ts = some c) (g : Gd X E Φ C) : DS X E (.Assign ts e pos) (exS C.G Φ c) := by
  unfold trAs at h
  split at h
  · unfold trAs1 at h
    split at h
    · split at h
      · rename_i h1 h2
        split at h
        · rename_i hk
          cases h
          obtain ⟨hk, hst, hok⟩ := hk
          rw [exS]
          exact tr_set h2 hok (ixOf_is h1) hk hst g
        · cases h
      · cases h
    · split at h
      · rename_i h1 h2 h3
        cases h
        rw [exS]
        exact ds_stoT (by have := g.un; omega) (tr_sound h1 g) (tr_args g (fun _ _ q => tr_sound q g) h2) (tr_sound h3 g) (swapsS_sub _ _ _) (swaps_sub _ _) (sub_assign rfl)
      · cases h
    · split at h
      · rename_i h1 h2 h3
        cases h
        rw [exS]
        exact ds_stoB (by have := g.un; omega) (tr_sound h1 g) (tr_sound h2 g) (tr_sound h3 g) (swapsS_sub _ _ _) (swaps_sub _ _) (sub_assign (tr_notSlice h2))
      · cases h
    · split at h
      · cases h
      · split at h
        · rename_i h1 h2
          split at h
          · rename_i hk
            cases h
            rw [exS]
            exact ds_asg (tr_sound h2 g) (dg_names (g.calm hk.1) (by rw [g.N]; exact g.nd) (names_at g hk.2.1 h1)) (swapsS_tup _ _ _) (swaps_tup _ hk.2.2) rfl
          · cases h
        · cases h
    · cases h
  · cases h
theorem tr_for {t : Tc → List Stmt → Option (List Sx)} (ih : ∀ (C : Tc) ss cs, t C ss = some cs → ∀ {X : Cx} {E : St → XK}, Gd X E Φ C → DSs X E ss (exSs C.G Φ cs)) {tg it : Expr} {b els : List Stmt} {pos : Pos} {c : Sx} (h : trFo C t it b tg els = some c) (g : Gd X E Φ C) : DS X E (.For tg it b els pos) (exS C.G Φ c) := by
  unfold trFo at h
  split at h
  · unfold trFo1 at h
    split at h
    · split at h
      · rename_i h1 h2 h3
        split at h
        · rename_i hk
          cases h
          obtain ⟨i1, i2⟩ := tr_iter (tg := .Name _ _) g.nox h2
          rw [exS]
          have dg := fun p => dg_name (X := X.nox) (pos := p) (by show X.N.Nodup; rw [g.N]; exact g.nd) (by show X.N[_]? = _; rw [g.N]; exact ixOf_is h1) (by show Loc X.env.scope _; rw [g.sc]; exact loc_of hk.1) (g.hst hk.2.2 hk.1)
          rename_i it' b'
          cases it' with
          | val e' =>
            have i3 := tr_ival (so_all dep).1 g.nox h2
            rw [evI] at i1 ⊢
            exact ds_two (ds_forK bigB (g.calm hk.2.1) i3 (dg _) (ih _ _ _ h3 g.nox) i2) (ds_for bigB (g.calm hk.2.1) i1 (dg _) (ih _ _ _ h3 g.nox) i2) sForA_or
          | _ => exact ds_for bigB (g.calm hk.2.1) i1 (dg _) (ih _ _ _ h3 g.nox) i2
        · cases h
      · cases h
    · cases h
  · cases h
theorem tr_stmt {t : Tc → List Stmt → Option (List Sx)} (ih : ∀ (C : Tc) ss cs, t C ss = some cs → ∀ {X : Cx} {E : St → XK}, Gd X E Φ C → DSs X E ss (exSs C.G Φ cs)) {s : Stmt} {c : Sx} (h : trS1 C t s = some c) (g : Gd X E Φ C) : DS X E s (exS C.G Φ c) := by
  cases s with
  | Assign ts e pos => exact tr_as h g
  | Return o pos =>
    replace h : trRet C o = some c := h
    cases o with
    | none => cases h; rw [exS]; exact ds_retN
    | some e =>
      obtain ⟨c', h1, rfl⟩ := Option.map_eq_some_iff.mp h
      rw [exS]
      exact ds_ret (tr_sound h1 g)
  | Expr e pos =>
    replace h : (if isComp e = false then (trE C dep e).map Sx.expr else none) = some c := h
    split at h
    · rename_i hk
      obtain ⟨c', h1, rfl⟩ := Option.map_eq_some_iff.mp h
      rw [exS]
      exact ds_expr (tr_sound h1 g) (tr_swaps h1 hk _ _ _)
    · cases h
  | Pass pos => cases h; rw [exS]; exact ds_pass
  | Break pos => cases h; rw [exS]; exact ds_break
  | Continue pos => cases h; rw [exS]; exact ds_continue
  | If t' a b pos =>
    replace h : (match trE C dep t', t C a, t C b with | some c', some a, some b => if okT t' = true then some (Sx.ite c' a b) else none | _, _, _ => none) = some c := h
    split at h
    · rename_i h1 h2 h3
      split at h
      · rename_i hk
        cases h
        rw [exS]
        exact ds_if (tr_test h1 hk g) (ih C _ _ h2 g) (ih C _ _ h3 g)
      · cases h
    · cases h
  | For tg it b els pos => exact tr_for ih h g
  | _ => exact nomatch (show (none : Option Sx) = some c from h)
theorem tr_stmts : ∀ (n : Nat) (C : Tc) (ss : List Stmt) (cs : List Sx), trS n C ss = some cs → ∀ {X : Cx} {E : St → XK}, Gd X E Φ C → DSs X E ss (exSs C.G Φ cs)
  | 0, _, _, _, h, _, _, _ => by cases h
  | n + 1, C, [], cs, h, _, _, _ => by
    cases h
    rw [exSs]
    exact dss_nil
  | n + 1, C, s :: ss, cs, h, X, E, g => by
    unfold trS at h
    split at h
    · rename_i cs' h2
      cases h
      rw [exSs]
      refine dss_cons ?_ (tr_stmts n C ss cs' h2 g)
      cases h1 : trS1 C (trS n) s with
      | none =>
        show DS X E s (exS C.G Φ .bad)
        rw [exS]
        exact ds_bad
      | some c => exact tr_stmt (fun C ss cs h => tr_stmts n C ss cs h) h1 g
    · cases h
end
structure Df where
  N : List Str
  ps : List Str
  st : Stmt
  code : List Sx
noncomputable def startD (N : List Str) (ds : List D) : Dv := ds.map some ++ List.replicate (N.length - ds.length) none
noncomputable def endR : RS → R D
  | .ret d S => .ok d S
  | .next _ S => .ok .non S
  | .exc C _ S => .exc C S
  | _ => .fail
noncomputable def callD (G : Glo) (T : Str → Option Df) : Nat → Phi
  | 0 => fun _ _ _ => .fail
  | n + 1 => fun x ds S => match T x with
    | some f => if ds.length = f.ps.length then gc S (endR (exSs G (callD G T n) f.code (startD f.N ds) S)) else .fail
    | none => .fail
noncomputable def arOf (T : Str → Option Df) (x : Str) : Option Nat := (T x).map fun f => f.ps.length
noncomputable def tcOf (G : Glo) (T : Str → Option Df) (f : Df) : Tc := ⟨f.N, defScope f.st, true, true, true, true, G, arOf T⟩
structure GT (G : Glo) (T : Str → Option Df) : Prop where
  mth : ∀ D m x k, G.mth D m = some (x, k) → arOf T x = some k
  ini : ∀ D x k, G.ini D = some (some (x, k)) → arOf T x = some k
structure DfOk (M : Mo) (G : Glo) (T : Str → Option Df) (x : Str) (f : Df) : Prop where
  at' : ∃ a fd nm, AtG M G x a ∧ FunG M.K nm x f.st a fd ∧ BindsA M fd f.ps (G.dfl x)
  sc : FnScope f.N f.ps (defScope f.st)
  tr : trS 40 (tcOf G T f) (defBody f.st) = some f.code
theorem relE_start {M : Mo} {ι : List Addr} {H : Hp} {N : List Str} {vs : List V} {ds : List D} (r : RDs M ι H vs ds) (hl : vs.length ≤ N.length) : RelE M ι H N.length (start N vs) (startD N ds) := by
  refine ⟨by unfold start; simp; omega, by have := r.length; unfold startD; simp; omega, fun i d h => ?_⟩
  unfold startD at h
  by_cases hi : i < ds.length
  · rw [List.getElem?_append_left (by simpa using hi), List.getElem?_map] at h
    cases e : ds[i]? with
    | none => rw [e] at h; cases h
    | some d' =>
      rw [e] at h
      cases h
      obtain ⟨v, h1, h2⟩ := r.get e
      refine ⟨v, ?_, h2⟩
      unfold start
      rw [List.getElem?_append_left (by rw [List.length_map, r.length]; exact hi), List.getElem?_map, h1]
      rfl
  · rw [List.getElem?_append_right (by simpa using hi), List.getElem?_replicate] at h
    split at h <;> cases h
section
variable {P : Program} {w : World} {M : Mo} {base : Heap} {G : Glo} {T : Str → Option Df}
theorem callD_fn (g : GOk M G) (gt : GT G T) {n : Nat} {x nm : Str} {f : Df} (hx : T x = some f) (d : DfOk M G T x f) (ih : ∀ y fy, T y = some fy → HasA P w M G base (2 * n) y fy.ps (spOf M fy.ps.length (callD G T n y)))
    {fa : Addr} {fd : FuncData} (hf : FunG M.K nm x f.st fa fd) :
    FnOk P w M.K M.mg base (CXE P w) (2 * (n + 1)) fa fd f.ps (spOf M f.ps.length (callD G T (n + 1) x)) := by
  refine FunG.okE (k := 2 * n + 1) hf d.sc (fun vs H Q E h => h.1) (fun cdv A outer s H vs Q E hr h => ?_)
  obtain ⟨hl, ι, ds, S, rs, rv, p⟩ := h
  have gd : Gd (cxOf (CXE P w) P w M.K M.mg base f.N x (defScope f.st) fa cdv A outer s H E) (fun _ => E) (callD G T n) (tcOf G T f) := by
    refine ⟨rfl, d.sc.nd, rfl, fun _ => rfl, g, fun _ y k hy => ?_, hr.units, passS_def, fun _ _ => .inl rfl, fun _ => ⟨E, lifts_def, fun _ => rfl, hr.hd⟩, fun _ => ⟨rfl, rfl, rfl⟩, gt.mth, gt.ini
    ⟩
    obtain ⟨fy, h1, h2⟩ := Option.map_eq_some_iff.mp (show (T y).map (fun f => f.ps.length) = some k from hy)
    subst h2
    exact ⟨fy.ps, 2 * n, rfl, ih y fy h1, hr⟩
  refine ⟨_, tr_stmts 40 _ _ _ d.tr gd, ι, startD f.N ds, S, rs, relE_start rv ?_, ?_⟩
  · have := congrArg List.length d.sc.pre
    rw [List.length_take] at this
    show vs.length ≤ f.N.length
    omega
  · have hlen : ds.length = f.ps.length := by rw [← rv.length]; exact hl
    unfold callD at p
    rw [hx] at p
    dsimp only at p
    rw [if_pos hlen] at p
    have p' := Post.gc rs p
    show PostS M f.N.length ι H (exSs G (callD G T n) f.code (startD f.N ds) S) _ (fun _ => E)
    cases er : exSs G (callD G T n) f.code (startD f.N ds) S with
    | next δ1 S1 => rw [er] at p'; exact fun ι' H' σ' x r _ => p' ι' H' x r _ .non
    | ret d S1 => rw [er] at p'; exact fun ι' H' v x r rv => p' ι' H' x r v rv
    | brk δ1 S1 => rw [er] at p'; exact p'.elim
    | cnt δ1 S1 => rw [er] at p'; exact p'.elim
    | exc C δ1 S1 => rw [er] at p'; exact fun ι' H' σ' Ca x r _ m => p' ι' H' Ca x r m
    | fail => rw [er] at p'; exact p'.elim
theorem callD_ok (g : GOk M G) (gt : GT G T) (ok : ∀ x f, T x = some f → DfOk M G T x f) : ∀ (n : Nat) (x : Str) (f : Df), T x = some f → HasA P w M G base (2 * n) x f.ps (spOf M f.ps.length (callD G T n x))
  | 0, x, f, hx => by
    obtain ⟨a, fd, nm, h1, h2, h3⟩ := (ok x f hx).at'
    exact ⟨a, fd, h1, h2.kp, h3, ⟨fun vs H Q E h => h.1, fun A outer s H args us vs Q E _ _ _ _ h => by obtain ⟨_, _, _, _, _, _, p⟩ := h; exact p.elim⟩⟩
  | n + 1, x, f, hx => by
    obtain ⟨a, fd, nm, h1, h2, h3⟩ := (ok x f hx).at'
    exact ⟨a, fd, h1, h2.kp, h3, callD_fn g gt hx (ok x f hx) (callD_ok g gt ok n)
      h2⟩
end
noncomputable def LawOk (G : Glo) (T : Str → Option Df) (k : Nat) : Prop := ∀ ns : List Int, ns.length ≤ 63 → ∃ S, callD G T k "law" [.rol (ns.map D.int)] [] = .ok (.bl true) S
theorem only_fz {K : PySem.W.Frag} {H : Hp} {a : Addr} {xs : List V} (hO : Only H) (h : SqL K H a xs) : FzL K H a xs := by
  rcases h with h | h
  · rcases hO a with z | ⟨o, ys, z⟩
    · rcases h with h | ⟨_, h⟩ <;> rw [z] at h <;> cases h
    · rcases h with h | ⟨o', h⟩
      · rw [z] at h; cases h
      · exact .inl ⟨o', h⟩
  · exact .inr h
noncomputable def spLaw (K : PySem.W.Frag) : Sp := fun vs H Q _ => vs.length = 1 ∧ ∃ (a : Addr) (ns : List Int), vs = [.ref a] ∧ ns.length ≤ 63 ∧ Only H ∧ SqL K H a (ns.map V.int) ∧ ∀ H', Q (.bl true) H'
theorem law_walk {l : PySem.W.OpenLaw} {k : Nat} {q : Program} {loose : List Str} {XP : (Str → Option Value) → Heap → Prop} {YP : World → Heap → Prop} {d : DefRec} {K : Params → PySem.W.Frag} {x : Str} {N : List Str} {st : Stmt} {cs : List Sx}
    {G : Glo} {T : Str → Option Df} (hn : l.most = some 63) (hdf : d.params.defaults = []) (hnm : d.name = "law") (hr : Room (2 * (k + 1)) callerA) (gt : GT G T)
    (hY : ∀ (w : World) (h : Heap), YP w h → (K w.params).In h) (hT : T "law" = some ⟨N, [x], st, cs⟩) (hl : LawOk G T (k + 1))
    (F : ∀ (w : World) (mg : Str → Option Value) (h : Heap), (K w.params).In h → h.Ns mainGlobals mg →
      GOk ⟨K w.params, mg⟩ G ∧ (∀ x f, T x = some f → DfOk ⟨K w.params, mg⟩ G T x f) ∧
        ∃ f fd, mg "law" = some (.ref f) ∧ (∀ (s : Shared) (u : Value), BindsTo s fd ⟨[u], []⟩ [(x, u)]) ∧ Fun (K w.params) "law" "law" st f fd) :
    PySem.W.WalkO q loose XP YP l.row.toRowW d [] (fun f vs => PySem.call f vs) := by
  refine walk_of (K := K) (x := x) (CX := fun w => CXE l.prog w) (sp := fun w => spLaw (K w.params)) hn (by decide) hdf hr hY ?_ ?_ ?_
  · intro w mg fa h KX G0 hmg
    rw [hnm] at hmg
    obtain ⟨g, ok, f, fd, h1, h2, h3⟩ := F w mg h KX G0
    rw [hmg] at h1
    cases h1
    refine ⟨fd, h2, fun base kb nb => ?_⟩
    refine (callD_fn (P := l.prog) (w := w) (base := base) g gt hT (ok _ _ hT) (callD_ok g gt ok k)
      h3.g).imp fun vs H Q E hs => ?_
    obtain ⟨e, a, ns, rfl, hlen, hO, hS, q⟩ := hs
    refine ⟨e, [], [.rol (ns.map D.int)], [], ⟨rfl, List.nodup_nil, fun n a o z => by simp at z⟩, .cons (.rol (only_fz hO hS) (RDs.ints ns)) .nil, ?_⟩
    obtain ⟨S, eS⟩ := hl ns hlen
    rw [eS]
    intro ι' H' _ _ v rv
    cases rv
    exact q H'
  · intro w H a ns hlen hO hS
    exact ⟨rfl, a, ns, rfl, hlen, hO, hS, fun _ => rfl⟩
  · rintro w H s e s' ⟨_, _, _, _, _, h⟩
    exact h.elim
noncomputable def inCls (s : Stmt) (j : Nat) : Stmt := match s with
  | .ClassDef _ _ _ b _ _ _ _ _ _ _ => b.getD j (.Pass ⟨0, 0, 0, 0⟩)
  | _ => s
noncomputable def tabOf : List (Str × Df) → Str → Option Df
  | [], _ => none
  | (y, f) :: r, x => if y = x then some f else tabOf r x
theorem tab_mem : ∀ {l : List (Str × Df)} {x : Str} {f : Df}, tabOf l x = some f → (x, f) ∈ l
  | [], _, _, h => by cases h
  | (y, g) :: r, x, f, h => by
    unfold tabOf at h
    split at h
    · rename_i e; subst e; cases h; exact List.mem_cons_self
    · exact List.mem_cons_of_mem _ (tab_mem h)
noncomputable def lkS {β γ : Type} [DecidableEq β] : List (Str × β × γ) → Str → β → Option γ
  | [], _, _ => none
  | (a, b, c) :: r, x, y => if a = x ∧ b = y then some c else lkS r x y
theorem lk_mem {β γ : Type} [DecidableEq β] : ∀ {l : List (Str × β × γ)} {x : Str} {y : β} {c : γ}, lkS l x y = some c → (x, y, c) ∈ l
  | [], _, _, _, h => by cases h
  | (a, b, d) :: r, x, y, c, h => by
    unfold lkS at h
    split at h
    · rename_i e; obtain ⟨e1, e2⟩ := e; subst e1 e2; cases h; exact List.mem_cons_self
    · exact List.mem_cons_of_mem _ (lk_mem h)
noncomputable def conOf : List (Str × D) → Str → Option D
  | [], _ => none
  | (y, d) :: r, x => if y = x then some d else conOf r x
theorem con_mem : ∀ {l : List (Str × D)} {x : Str} {f : D}, conOf l x = some f → (x, f) ∈ l
  | [], _, _, h => by cases h
  | (y, g) :: r, x, f, h => by
    unfold conOf at h
    split at h
    · rename_i e; subst e; cases h; exact List.mem_cons_self
    · exact List.mem_cons_of_mem _ (con_mem h)
noncomputable def lkM : List (Str × Str × Str × Nat) → Str → Str → Option (Str × Nat)
  | [], _, _ => none
  | p :: r, C, m => if p.1 = C ∧ p.2.1 = m then some p.2.2 else lkM r C m
theorem lkM_mem : ∀ {l : List (Str × Str × Str × Nat)} {C m x : Str} {k : Nat}, lkM l C m = some (x, k) → (C, m, x, k) ∈ l
  | [], _, _, _, _, h => by cases h
  | p :: r, C, m, x, k, h => by
    unfold lkM at h
    split at h
    · rename_i e
      obtain ⟨a, b, c, d⟩ := p
      obtain ⟨e1, e2⟩ := e
      cases h
      dsimp only at e1 e2
      subst e1 e2
      exact List.mem_cons_self
    · exact List.mem_cons_of_mem _ (lkM_mem h)
noncomputable def lkI : List (Str × Option (Str × Nat)) → Str → Option (Option (Str × Nat))
  | [], _ => none
  | p :: r, C => if p.1 = C then some p.2 else lkI r C
theorem lkI_mem : ∀ {l : List (Str × Option (Str × Nat))} {C : Str} {o : Option (Str × Nat)}, lkI l C = some o → (C, o) ∈ l
  | [], _, _, h => by cases h
  | p :: r, C, o, h => by
    unfold lkI at h
    split at h
    · rename_i e
      obtain ⟨a, b⟩ := p
      cases h
      dsimp only at e
      subst e
      exact List.mem_cons_self
    · exact List.mem_cons_of_mem _ (lkI_mem h)
theorem fc {α : Type} {p : α → Prop} {a : α} {l : List α} (h : p a) (t : ∀ x ∈ l, p x) : ∀ x ∈ a :: l, p x := List.forall_mem_cons.mpr ⟨h, t⟩
theorem f0 {α : Type} {p : α → Prop} : ∀ x ∈ ([] : List α), p x := List.forall_mem_nil _
theorem fsc {N ps : List Str} {sc : Scope} (a : sc.kind = .function := by rfl) (b : sc.isCoroutine = false := by rfl) (c : sc.isGenerator = false := by rfl) (d : N.Nodup := by decide +kernel) (e : N.take ps.length = ps := by rfl)
    (f : ∀ x ∈ ps, sc.names.lookup x = some .local ∨ sc.names.lookup x = some .cell := by decide +kernel) (g : ∀ y ∈ sc.names, y.2 ≠ .free := by decide +kernel) : FnScope N ps sc := ⟨a, b, c, d, e, f, g⟩
structure Gl' where
  con : List (Str × D)
  own : List Str
  cls : List Str
  exc : List Str
  subG : List (Str × Str × Bool)
  subT : List (Str × String × Bool)
  exm : List (Str × Str × Bool)
  ins : List Str := []
  fld : List (Str × Str) := []
  mth : List (Str × Str × Str × Nat) := []
  ini : List (Str × Option (Str × Nat)) := []
  dfl : List (Str × List D) := []
noncomputable def dflOf : List (Str × List D) → Str → List D
  | [], _ => []
  | p :: r, x => if p.1 = x then p.2 else dflOf r x
noncomputable def Gl'.glo (g : Gl') : Glo where
  con := conOf g.con
  own := g.own.contains
  cls := g.cls.contains
  exc := g.exc.contains
  sub := fun t c => match t, c with
    | .o x, .gl y => lkS g.subG x y
    | .o x, .ty y => lkS g.subT x y
    | _, _ => none
  exm := lkS g.exm
  ins := g.ins.contains
  fld := fun C f => g.fld.contains (C, f)
  mth := lkM g.mth
  ini := lkI g.ini
  dfl := dflOf g.dfl
theorem glo_ok {M : Mo} {g : Gl'} (con : ∀ p ∈ g.con, ∃ u v, M.mg p.1 = some u ∧ RelV v u ∧ ∀ ι H, RD M ι H v p.2) (own : ∀ x ∈ g.own, M.mg x = none) (cls : ∀ x ∈ g.cls, ∃ a, M.mg x = some (.ref a))
    (exc : ∀ x ∈ g.exc, ∃ C, M.mg x = some (.ref C) ∧ ExcC M.K C ∧ ExcI M.K C) (subG : ∀ p ∈ g.subG, ∀ tv cv, M.mg p.1 = some tv → M.mg p.2.1 = some cv → PySem.W.kitOne M.K tv cv = some p.2.2)
    (subT : ∀ p ∈ g.subT, ∀ tv, M.mg p.1 = some tv → PySem.W.kitOne M.K tv (.type p.2.1) = some p.2.2) (exm : ∀ p ∈ g.exm, ∀ a c, M.mg p.1 = some (.ref a) → M.mg p.2.1 = some c → PySem.W.exmOne M.K (.ref a) c = some p.2.2)
    (ins : ∀ C ∈ g.ins, ∃ a, M.mg C = some (.ref a) ∧ Cls M.K a ∧ ClsI M.K a) (fld : ∀ p ∈ g.fld, ∀ a, M.mg p.1 = some (.ref a) → NoAttr M.K a p.2) (ini0 : ∀ p ∈ g.ini, p.2 = none → ∃ a, M.mg p.1 = some (.ref a) ∧ Mk0 M.K a) : GOk M g.glo where
  con := fun x d h => con (x, d) (con_mem h)
  own := fun x h => own x (List.contains_iff_mem.mp h)
  cls := fun x h => cls x (List.contains_iff_mem.mp h)
  exc := fun x h => exc x (List.contains_iff_mem.mp h)
  sub := fun t c b h tv cv h1 h2 => by
    unfold Gl'.glo at h
    dsimp only at h
    split at h
    · exact subG _ (lk_mem h) tv cv h1 h2
    · cases h2
      exact subT _ (lk_mem h) tv h1
    · cases h
  exm := fun x y b h a c h1 h2 => exm (x, y, b) (lk_mem h) a c h1 h2
  ins := fun C h => ins C (List.contains_iff_mem.mp h)
  fld := fun C f h => fld (C, f) (List.contains_iff_mem.mp h)
  ini0 := fun C h => ini0 (C, none) (lkI_mem h) rfl
theorem def_mk {K : PySem.W.Frag} {h : Heap} {mg : Str → Option Value} {x : Str} {st : Stmt} {ps : List Str} {f : Addr} {oc : Value} {od an : Option Addr} {osl : Array (Option Value)} {kV doc pm cdv ct : Value} (X : K.In h) (G : h.Ns mainGlobals mg)
    (a : PySem.W.nsIn K mainGlobals x = some (some (.ref f))) (l : K.lookup f = some ⟨oc, od, .func (PySem.W.fnOf x x (defArgs st) (defBody st) (defScope st) .none kV doc pm an cdv ct), osl⟩)
    (c : PySem.W.codeIn K cdv x = true) (k : PySem.W.keepIn K (.ref f) = true)
    (b : ∀ (kV doc pm : Value) (an : Option Addr) (cdv ct : Value) (us : List Value), us.length = ps.length → bindArgs (PySem.W.fnOf x x (defArgs st) (defBody st) (defScope st) .none kV doc pm an cdv ct) ⟨us, []⟩ = pure (ps.zip us)) : DefAt K mg x st ps :=
  ⟨f, _, PySem.W.mg_of X G a, fun_mk l c k, (fun_mk l c k).binds b⟩
noncomputable def dots (g : Gl') : Bool := g.mth.all (fun p => !noDot p.2.2.1) && g.ini.all (fun p => match p.2 with | some q => !noDot q.1 | none => true)
theorem top_at {M : Mo} {g : Gl'} {x : Str} {st : Stmt} {ps : List Str} (D : DefAt M.K M.mg x st ps) (hd : dots g = true := by kernel_rfl) (n : noDot x = true := by kernel_rfl) (dn : g.glo.dfl x = [] := by kernel_rfl) : ∃ a fd nm, AtG M g.glo x a ∧ FunG M.K nm x st a fd ∧ BindsA M fd ps (g.glo.dfl x) := by
  unfold dots at hd
  rw [Bool.and_eq_true, List.all_eq_true, List.all_eq_true] at hd
  obtain ⟨f, fd, h1, h2, h3⟩ := D
  refine ⟨f, fd, x, ⟨fun _ => h1, fun C m k h => ?_, fun C k h => ?_⟩, h2.g, .nil h3 dn⟩
  · have z := hd.1 _ (lkM_mem h)
    dsimp only at z
    rw [n] at z
    cases z
  · have z := hd.2 _ (lkI_mem h)
    dsimp only at z
    rw [n] at z
    cases z
noncomputable def gtOk (g : Gl') (T : Str → Option Df) : Bool := g.mth.all (fun p => decide (arOf T p.2.2.1 = some p.2.2.2)) && g.ini.all (fun p => match p.2 with | some q => decide (arOf T q.1 = some q.2) | none => true)
theorem gt_ok {g : Gl'} {T : Str → Option Df} (h : gtOk g T = true) : GT g.glo T := by
  unfold gtOk at h
  rw [Bool.and_eq_true, List.all_eq_true, List.all_eq_true] at h
  exact ⟨fun D m x k e => of_decide_eq_true (h.1 _ (lkM_mem e)), fun D x k e => of_decide_eq_true (h.2 _ (lkI_mem e))⟩
noncomputable abbrev adr {mg : Str → Option Value} {x : Str} {a : Addr} (_ : mg x = some (.ref a)) : Addr := a
noncomputable abbrev adf {K : PySem.W.Frag} {C : Value} {x : Str} {a : Addr} (_ : PySem.W.findIn K C x = some (some (.ref a))) : Addr := a
theorem callD_eq {G : Glo} {T : Str → Option Df} {x : Str} {f : Df} (h : T x = some f) (n : Nat) (ds : List D) (S : Sto) :
    callD G T (n + 1) x ds S = if ds.length = f.ps.length then gc S (endR (exSs G (callD G T n) f.code (startD f.N ds) S)) else .fail := by
  show (match T x with | some f => if ds.length = f.ps.length then gc S (endR (exSs G (callD G T n) f.code (startD f.N ds) S)) else .fail | none => .fail) = _
  rw [h]
theorem gc_same {S : Sto} {d : D} : gc S (.ok d S) = .ok d S := by
  unfold gc
  split <;> simp_all
theorem gc_more {S J : Sto} {d : D} (h : noRef d = true) : gc S (.ok d (S ++ J)) = .ok d S := by
  unfold gc
  simp [h]
theorem call_ret {G : Glo} {T : Str → Option Df} {x : Str} {f : Df} {n : Nat} {ds : List D} {S J : Sto} {d : D} (h : T x = some f) (hl : ds.length = f.ps.length) (hd : noRef d = true) (hr : exSs G (callD G T n) f.code (startD f.N ds) S = .ret d (S ++ J)) :
    callD G T (n + 1) x ds S = .ok d S := by
  rw [callD_eq h, if_pos hl, hr]
  exact gc_more hd
theorem call_ret0 {G : Glo} {T : Str → Option Df} {x : Str} {f : Df} {n : Nat} {ds : List D} {S : Sto} {d : D} (h : T x = some f) (hl : ds.length = f.ps.length) (hr : exSs G (callD G T n) f.code (startD f.N ds) S = .ret d S) :
    callD G T (n + 1) x ds S = .ok d S := by
  rw [callD_eq h, if_pos hl, hr]
  exact gc_same
section
variable {G : Glo} {S : Sto}
theorem i_int_int (i : Int) : instD G [.int i, .ty "int"] S = .ok (.bl true) S := rfl
theorem i_int_bool (i : Int) : instD G [.int i, .ty "bool"] S = .ok (.bl false) S := rfl
theorem i_int_str (i : Int) : instD G [.int i, .ty "str"] S = .ok (.bl false) S := rfl
theorem i_int_tup (i : Int) : instD G [.int i, .ty "tuple"] S = .ok (.bl false) S := rfl
theorem i_bl_int (i : Bool) : instD G [.bl i, .ty "int"] S = .ok (.bl true) S := rfl
theorem i_bl_bool (i : Bool) : instD G [.bl i, .ty "bool"] S = .ok (.bl true) S := rfl
theorem i_bl_str (i : Bool) : instD G [.bl i, .ty "str"] S = .ok (.bl false) S := rfl
theorem i_str_int (i : Str) : instD G [.str i, .ty "int"] S = .ok (.bl false) S := rfl
theorem i_str_bool (i : Str) : instD G [.str i, .ty "bool"] S = .ok (.bl false) S := rfl
theorem i_str_str (i : Str) : instD G [.str i, .ty "str"] S = .ok (.bl true) S := rfl
theorem i_non_int : instD G [.non, .ty "int"] S = .ok (.bl false) S := rfl
theorem i_non_bool : instD G [.non, .ty "bool"] S = .ok (.bl false) S := rfl
theorem i_non_str : instD G [.non, .ty "str"] S = .ok (.bl false) S := rfl
theorem i_non_tup : instD G [.non, .ty "tuple"] S = .ok (.bl false) S := rfl
theorem i_tup_tup (ds : List D) : instD G [.tup ds, .ty "tuple"] S = .ok (.bl true) S := rfl
theorem i_tup_int (ds : List D) : instD G [.tup ds, .ty "int"] S = .ok (.bl false) S := rfl
theorem i_tup_bool (ds : List D) : instD G [.tup ds, .ty "bool"] S = .ok (.bl false) S := rfl
theorem i_tup_str (ds : List D) : instD G [.tup ds, .ty "str"] S = .ok (.bl false) S := rfl
end
theorem mul_ok {S : Sto} {i j : Int} (h : MulOk i j) : mulD (.int i) (.int j) S = .ok (.int (i * j)) S := by
  unfold mulD
  exact if_pos h
theorem mul_l {S : Sto} {i j : Int} (h1 : -(2 ^ 64) < i) (h2 : i < 2 ^ 64) : mulD (.int i) (.int j) S = .ok (.int (i * j)) S := mul_ok (.inl (.inl ⟨h1, h2⟩))
theorem mul_r {S : Sto} {i j : Int} (h1 : -(2 ^ 64) < j) (h2 : j < 2 ^ 64) : mulD (.int i) (.int j) S = .ok (.int (i * j)) S := mul_ok (.inl (.inr ⟨h1, h2⟩))
theorem sm_of_lt {n : Nat} {i : Int} (h1 : -(2 ^ n) < i) (h2 : i < 2 ^ n) : Sm n i := by
  unfold Sm
  have e : ((2 ^ n : Nat) : Int) = 2 ^ n := by simp
  omega
theorem fdiv_ok {S : Sto} {i j : Int} (h0 : j ≠ 0) {n : Nat} (h : Sm n j) (e : n ≤ 9000) : fdivD (.int i) (.int j) S = .ok (.int (i.fdiv j)) S := by
  unfold fdivD cInt
  exact if_pos ⟨h0, n, h, e⟩
theorem fdiv_pos {S : Sto} {i j : Int} (h0 : 0 < j) (h1 : j < 2 ^ 8000) : fdivD (.int i) (.int j) S = .ok (.int (i / j)) S := by
  rw [fdiv_ok (n := 8000) (by omega) (sm_of_lt (by have : (0 : Int) < 2 ^ 8000 := by decide +kernel
                                                   omega) h1) (by decide), Int.fdiv_eq_ediv_of_nonneg i (by omega)]
theorem mod_ok {S : Sto} {i j : Int} (h0 : j ≠ 0) : modD (.int i) (.int j) S = .ok (.int (i.fmod j)) S := by
  unfold modD cInt
  exact if_pos h0
theorem mod_pos {S : Sto} {i j : Int} (h0 : 0 < j) : modD (.int i) (.int j) S = .ok (.int (i % j)) S := by
  rw [mod_ok (by omega), Int.fmod_eq_emod_of_nonneg i (by omega)]
theorem pow_ok {S : Sto} {i j : Int} (h : CPow i j) : powD (.int i) (.int j) S = .ok (.int (i ^ j.toNat)) S := by
  unfold powD cInt
  exact if_pos h
theorem pow10 {S : Sto} {j : Int} (h : 0 ≤ j) (h2 : j ≤ 1000) : powD (.int 10) (.int j) S = .ok (.int (10 ^ j.toNat)) S := pow_ok ⟨h, by omega, by decide⟩
theorem eq_int {S : Sto} {f : Bool → Bool} {i j : Int} : eqR f (.int i) (.int j) S = .ok (.bl (f (i == j))) S := by
  unfold eqR eqD toPy
  simp [SeqAt.shaped, PyData.canLay0, PyData.depth, PyData.eqv]
section
variable {α β : Type} {a : α} {S : Sto} {C : Str} {δ : Dv} {d : D}
theorem bind_ok {f : α → Sto → R β} : (R.ok a S).bind f = f a S := rfl
theorem bind_exc {f : α → Sto → R β} : (R.exc C S : R α).bind f = .exc C S := rfl
theorem toS_ok {f : α → Sto → RS} : (R.ok a S).toS δ f = f a S := rfl
theorem toS_exc {f : α → Sto → RS} : (R.exc C S : R α).toS δ f = .exc C δ S := rfl
theorem seq_next {f : Dv → Sto → RS} : (RS.next δ S).bind f = f δ S := rfl
theorem seq_ret {f : Dv → Sto → RS} : (RS.ret d S).bind f = .ret d S := rfl
theorem seq_brk {f : Dv → Sto → RS} : (RS.brk δ S).bind f = .brk δ S := rfl
theorem seq_cnt {f : Dv → Sto → RS} : (RS.cnt δ S).bind f = .cnt δ S := rfl
theorem seq_exc {f : Dv → Sto → RS} : (RS.exc C δ S).bind f = .exc C δ S := rfl
theorem isBl_bl {f : D → Sto → Bool → R β} {b : Bool} : isBl f (.bl b) S = f (.bl b) S b := rfl
theorem noxR_ok : noxR (R.ok a S) = .ok a S := rfl
theorem noxS_next : noxS (.next δ S) = .next δ S := rfl
theorem noxS_ret : noxS (.ret d S) = .ret d S := rfl
theorem noxS_brk : noxS (.brk δ S) = .brk δ S := rfl
theorem noxS_cnt : noxS (.cnt δ S) = .cnt δ S := rfl
theorem add_int' {i j : Int} : addD (.int i) (.int j) S = .ok (.int (i + j)) S := rfl
theorem sub_int' {i j : Int} : subD (.int i) (.int j) S = .ok (.int (i - j)) S := rfl
theorem lt_int' {i j : Int} : ltD (.int i) (.int j) S = .ok (.bl (decide (i < j))) S := rfl
theorem le_int' {i j : Int} : leD (.int i) (.int j) S = .ok (.bl (decide (i ≤ j))) S := rfl
theorem gt_int' {i j : Int} : gtD (.int i) (.int j) S = .ok (.bl (decide (j < i))) S := rfl
theorem ge_int' {i j : Int} : geD (.int i) (.int j) S = .ok (.bl (decide (j ≤ i))) S := rfl
theorem neg_int' {i : Int} : negD (.int i) S = .ok (.int (-i)) S := rfl
theorem abs_int' {i : Int} : absD [.int i] S = .ok (.int (if i < 0 then -i else i)) S := rfl
theorem min_int' {i j : Int} : minD [.int i, .int j] S = .ok (.int (if j < i then j else i)) S := rfl
theorem max_int' {i j : Int} : maxD [.int i, .int j] S = .ok (.int (if j > i then j else i)) S := rfl
theorem len_tup {ds : List D} : lenD [.tup ds] S = .ok (.int ds.length) S := rfl
theorem len_rol {ds : List D} : lenD [.rol ds] S = .ok (.int ds.length) S := rfl
theorem mkTup_ok {ds : List D} (h : ds.length ≤ 100000) : mkTup ds S = .ok (.tup ds) S := if_pos h
theorem mkLst_ok {ds : List D} (h : ds.length ≤ 100000) : mkLst ds S = .ok (.ref S.length) (S ++ [.lst ds]) := if_pos h
end
noncomputable def forL (g : Fg) (b : Fs) : List D → Fs
  | [] => fun δ S => .next δ S
  | d :: ds => fun δ S => match g d δ S with
    | none => .fail
    | some δ1 => match noxS (b δ1 S) with
      | .next δ2 S2 => forL g b ds δ2 S2
      | .cnt δ2 S2 => forL g b ds δ2 S2
      | .brk δ2 S2 => .next δ2 S2
      | r => r
theorem forD_drop {ds : List D} {g : Fg} {b : Fs} : ∀ (m i : Nat) (δ : Dv) (S : Sto), i ≤ ds.length → ds.length - i < m → forD (.its ds) g b m i δ S = forL g b (ds.drop i) δ S
  | 0, _, _, _, _, l => by omega
  | m + 1, i, δ, S, hi, l => by
    unfold forD
    dsimp only [cur]
    cases e : ds[i]? with
    | none =>
      have : ds.length ≤ i := List.getElem?_eq_none_iff.mp e
      rw [List.drop_eq_nil_of_le this]
      rfl
    | some d =>
      obtain ⟨hlt, e'⟩ := List.getElem?_eq_some_iff.mp e
      rw [List.drop_eq_getElem_cons hlt, e']
      unfold forL
      dsimp only
      cases g d δ S with
      | none => rfl
      | some δ1 =>
        dsimp only
        cases noxS (b δ1 S) with
        | next δ2 S2 => exact forD_drop m (i + 1) δ2 S2 (by omega) (by omega)
        | cnt δ2 S2 => exact forD_drop m (i + 1) δ2 S2 (by omega) (by omega)
        | _ => rfl
theorem forD_all {ds : List D} {g : Fg} {b : Fs} {m : Nat} {δ : Dv} {S : Sto} (h : ds.length < m) : forD (.its ds) g b m 0 δ S = forL g b ds δ S := forD_drop m 0 δ S (Nat.zero_le _) (by omega)
theorem big_lim {n : Nat} (h : n ≤ 100000) : n < bigB := Nat.lt_of_le_of_lt h (by decide +kernel)
theorem eq_pair {S : Sto} {f : Bool → Bool} {a b c d : Int} : eqR f (.tup [.int a, .int b]) (.tup [.int c, .int d]) S = .ok (.bl (f (a == c && b == d))) S := by
  unfold eqR eqD toPy
  simp [allO, toPy, SeqAt.shaped, PyData.canLay0, PyData.canLayAll0, PyData.depth, PyData.depthAll, PyData.eqv, PyData.eqvAll]
noncomputable def atR (ds : List D) (i : Int) (S : Sto) : R D := match atI ds i with
  | some x => .ok x S
  | none => .fail
section
variable {S : Sto} {ds : List D} {i : Int} {a b c d e f g h x : D}
theorem idx_tup' : idxF (.tup ds) (.int i) S = atR ds i S := rfl
theorem idx_rol' : idxF (.rol ds) (.int i) S = atR ds i S := rfl
theorem idx_ref' {n : Nat} (q : S[n]? = some (.lst ds)) : idxF (.ref n) (.int i) S = atR ds i S := by
  unfold idxF idxB idxD atR
  simp [seqD, dtR, q]
  try rfl
theorem idx_last' : idxF (.ref S.length) (.int i) (S ++ [.lst ds]) = atR ds i (S ++ [.lst ds]) := idx_ref' (getElem?_snoc S _)
theorem atR_nat {j : Nat} (q : ds[j]? = some x) : atR ds (j : Int) S = .ok x S := by
  unfold atR
  rw [atI_nat q]
theorem atR_0 : atR (a :: ds) 0 S = .ok a S := atR_nat (j := 0) rfl
theorem atR_1 : atR (a :: b :: ds) 1 S = .ok b S := atR_nat (j := 1) rfl
theorem atR_2 : atR (a :: b :: c :: ds) 2 S = .ok c S := atR_nat (j := 2) rfl
theorem atR_3 : atR (a :: b :: c :: d :: ds) 3 S = .ok d S := atR_nat (j := 3) rfl
theorem atR_4 : atR (a :: b :: c :: d :: e :: ds) 4 S = .ok e S := atR_nat (j := 4) rfl
theorem atR_5 : atR (a :: b :: c :: d :: e :: f :: ds) 5 S = .ok f S := atR_nat (j := 5) rfl
theorem atR_6 : atR (a :: b :: c :: d :: e :: f :: g :: ds) 6 S = .ok g S := atR_nat (j := 6) rfl
theorem atR_7 : atR (a :: b :: c :: d :: e :: f :: g :: h :: ds) 7 S = .ok h S := atR_nat (j := 7) rfl
theorem noRef_int {i : Int} : noRef (.int i) = true := rfl
theorem noRef_bl {i : Bool} : noRef (.bl i) = true := rfl
theorem noRef_str {i : Str} : noRef (.str i) = true := rfl
theorem noRef_non : noRef .non = true := rfl
theorem noRef_tup : noRef (.tup ds) = noRefs ds := by rw [noRef]
theorem noRefs_nil : noRefs [] = true := rfl
theorem noRefs_cons : noRefs (x :: ds) = (noRef x && noRefs ds) := by rw [noRefs]
end
theorem forD_big {ds : List D} {g : Fg} {b : Fs} {δ : Dv} {S : Sto} (h : ds.length ≤ 100000) : forD (.its ds) g b bigB 0 δ S = forL g b ds δ S := forD_all (big_lim h)
section
variable {S J : Sto}
theorem gc_int {i : Int} : gc S (.ok (.int i) (S ++ J)) = .ok (.int i) S := gc_more rfl
theorem gc_bl {i : Bool} : gc S (.ok (.bl i) (S ++ J)) = .ok (.bl i) S := gc_more rfl
theorem gc_str {i : Str} : gc S (.ok (.str i) (S ++ J)) = .ok (.str i) S := gc_more rfl
theorem gc_non : gc S (.ok .non (S ++ J)) = .ok .non S := gc_more rfl
theorem gc_pair {i j : Int} : gc S (.ok (.tup [.int i, .int j]) (S ++ J)) = .ok (.tup [.int i, .int j]) S := gc_more rfl
end
section
variable {G : Glo} {S : Sto} {C x : Str} {t : String} {n : Nat} {b : Bool} {cs : List D}
end
theorem exSs_app {G : Glo} {Φ : Phi} : ∀ {a b : List Sx} {δ : Dv} {S : Sto}, exSs G Φ (a ++ b) δ S = (exSs G Φ a δ S).bind (exSs G Φ b)
  | [], b, δ, S => by rw [List.nil_append, exSs, sNext]; rfl
  | s :: a, b, δ, S => by
    rw [List.cons_append, exSs, exSs, sSeq, sSeq]
    cases exS G Φ s δ S with
    | next δ1 S1 => exact exSs_app
    | _ => rfl
section
variable {t : Itb} {g : Fg} {c : Option Fb} {f : Fd} {ds : List D} {δ : Dv}
theorem comp_run' (I : Nat → Sto → List D → Prop) (hl : ds.length ≤ lim)
    (cu : ∀ i S ys, I i S ys → cur t S = some ds)
    (step : ∀ i S ys d, I i S ys → ds[i]? = some d → ∃ δ1, g d δ S = some δ1 ∧ ∃ k S1, optT c δ1 S = .ok k S1 ∧ ((k = true ∧ ∃ y S2, f δ1 S1 = .ok y S2 ∧ I (i + 1) S2 (ys ++ [y])) ∨ (k = false ∧ I (i + 1) S1 ys))) :
    ∀ (m i : Nat) (S : Sto) (ys : List D), i ≤ ds.length → ds.length - i < m → I i S ys → ∃ zs S', compD t g c f m i δ S = .ok zs S' ∧ I ds.length S' (ys ++ zs)
  | 0, _, _, _, _, l, _ => by omega
  | m + 1, i, S, ys, hi, l, h => by
    unfold compD
    rw [cu i S ys h]
    dsimp only
    cases e : ds[i]? with
    | none =>
      have : ds.length ≤ i := List.getElem?_eq_none_iff.mp e
      refine ⟨[], S, rfl, ?_⟩
      rw [List.append_nil, show ds.length = i by omega]
      exact h
    | some d =>
      obtain ⟨hlt, _⟩ := List.getElem?_eq_some_iff.mp e
      obtain ⟨δ1, e1, k, S1, e2, h3⟩ := step i S ys d h e
      dsimp only
      rw [if_pos (Nat.lt_of_lt_of_le hlt hl), e1]
      dsimp only
      rw [e2]
      rcases h3 with ⟨rfl, y, S2, e3, h4⟩ | ⟨rfl, h4⟩
      · obtain ⟨zs, S', e5, h5⟩ := comp_run' I hl cu step m (i + 1) S2 (ys ++ [y]) hlt (by omega) h4
        refine ⟨y :: zs, S', ?_, by simpa using h5⟩
        rw [bind_ok, if_pos rfl, e3, bind_ok, e5, bind_ok]
      · obtain ⟨zs, S', e5, h5⟩ := comp_run' I hl cu step m (i + 1) S1 ys hlt (by omega) h4
        refine ⟨zs, S', ?_, h5⟩
        rw [bind_ok, if_neg (by decide), e5]
theorem comp_flat {fi : Fi} {S S0 : Sto} {n i : Nat} (p : D → Bool) (h : D → D) (e : fi δ S = .ok t S0) (hc : cur t S0 = some ds) (hl : ds.length ≤ lim)
    (step : ∀ d ∈ ds, ∃ δ1, g d (maskL [i] (δ ++ List.replicate n none)) S0 = some δ1 ∧ optT c δ1 S0 = .ok (p d) S0 ∧ (p d = true → f δ1 S0 = .ok (h d) S0)) :
    fComp fi [i] n g c f bigB δ S = .ok (.ref S0.length) (S0 ++ [.lst ((ds.filter p).map h)]) := by
  obtain ⟨zs, S', e1, e2, e3⟩ := comp_run' (t := t) (g := g) (c := c) (f := f) (ds := ds) (δ := maskL [i] (δ ++ List.replicate n none)) (fun i S ys => S = S0 ∧ ys = ((ds.take i).filter p).map h) hl (fun i S ys q => by rw [q.1]; exact hc)
    (fun i S ys d q hd => by
      obtain ⟨rfl, rfl⟩ := q
      have hm := List.mem_of_getElem? hd
      obtain ⟨δ1, s1, s2, s3⟩ := step d hm
      refine ⟨δ1, s1, p d, S, s2, ?_⟩
      have ht : ds.take (i + 1) = ds.take i ++ [d] := by
        rw [List.take_add_one, hd]
        rfl
      cases hp : p d with
      | true => exact .inl ⟨rfl, h d, S, s3 hp, rfl, by rw [ht]; simp [List.filter_append, hp]⟩
      | false => exact .inr ⟨rfl, rfl, by rw [ht]; simp [List.filter_append, hp]⟩) bigB 0 S0 [] (Nat.zero_le _) (by have := big_lim hl; omega) ⟨rfl, rfl⟩
  subst e2
  rw [List.nil_append, List.take_length] at e3
  unfold fComp
  rw [e, bind_ok, e1, bind_ok, e3]
  have hz : ((ds.filter p).map h).length ≤ lim := by
    rw [List.length_map]
    exact Nat.le_trans (List.length_filter_le _ _) hl
  unfold mkLst
  rw [if_pos hz]
  rfl
end
theorem it_rg1 {f : Fd} {δ : Dv} {S S1 : Sto} {n : Nat} (e : f δ S = .ok (.int (n : Int)) S1) (h : n < 2 ^ 62) : iRg1 (aCons f aNil) δ S = .ok (.its ((List.range n).map fun i => D.int (0 + (i : Nat)))) S1 := by
  have h' : -(2 ^ 62) ≤ (n : Int) ∧ (n : Int) < 2 ^ 62 := ⟨by omega, by omega⟩
  have e1 : aCons f aNil δ S = .ok [.int (n : Int)] S1 := by
    unfold aCons aNil
    rw [e]
    rfl
  have e2 : rng1 [.int (n : Int)] S1 = .ok (.its ((List.range n).map fun i => D.int (0 + (i : Nat)))) S1 := by
    unfold rng1
    simp only [h', and_self, if_true, Int.toNat_natCast]
  unfold iRg1
  rw [e1, bind_ok, e2]
theorem call_ref {G : Glo} {T : Str → Option Df} {x : Str} {f : Df} {n : Nat} {ds : List D} {S S' : Sto} {d : D} (h : T x = some f) (hl : ds.length = f.ps.length) (hd : noRef d = false) (hr : exSs G (callD G T n) f.code (startD f.N ds) S = .ret d S') :
    callD G T (n + 1) x ds S = .ok d S' := by
  rw [callD_eq h, if_pos hl, hr]
  show gc S (.ok d S') = _
  unfold gc
  simp [hd]
section
variable {S : Sto} {f : Bool → Bool} {d e : D} {p : PyData}
end
section
variable {t : Itb} {g : Fg} {b : Fs} {ds : List D}
theorem for_run (I : Nat → Dv → Sto → Prop) (Q : D → Sto → Prop) (cu : ∀ i δ S, I i δ S → cur t S = some ds)
    (step : ∀ i δ S d, I i δ S → ds[i]? = some d → ∃ δ1, g d δ S = some δ1 ∧ ((∃ δ2 S2, (b δ1 S = .next δ2 S2 ∨ b δ1 S = .cnt δ2 S2) ∧ I (i + 1) δ2 S2) ∨ ∃ r S2, b δ1 S = .ret r S2 ∧ Q r S2)) :
    ∀ (m i : Nat) (δ : Dv) (S : Sto), i ≤ ds.length → ds.length - i < m → I i δ S → (∃ δ' S', forD t g b m i δ S = .next δ' S' ∧ I ds.length δ' S') ∨ ∃ r S', forD t g b m i δ S = .ret r S' ∧ Q r S'
  | 0, _, _, _, _, l, _ => by omega
  | m + 1, i, δ, S, hi, l, h => by
    unfold forD
    rw [cu i δ S h]
    dsimp only
    cases e : ds[i]? with
    | none =>
      have : ds.length ≤ i := List.getElem?_eq_none_iff.mp e
      refine .inl ⟨δ, S, rfl, ?_⟩
      rw [show ds.length = i by omega]
      exact h
    | some d =>
      obtain ⟨hlt, _⟩ := List.getElem?_eq_some_iff.mp e
      obtain ⟨δ1, e1, q⟩ := step i δ S d h e
      dsimp only
      rw [e1]
      dsimp only
      rcases q with ⟨δ2, S2, e2, h2⟩ | ⟨r, S2, e2, q⟩
      · have ih := for_run I Q cu step m (i + 1) δ2 S2 hlt (by omega) h2
        rcases e2 with e2 | e2 <;> (rw [e2]; exact ih)
      · rw [e2]
        exact .inr ⟨r, S2, rfl, q⟩
end
theorem isLstR_ref {S : Sto} {n : Nat} {xs : List D} (h : S[n]? = some (.lst xs)) : isLstR (.ref n) S = true := by
  simp [isLstR, h]
end L2
namespace L2.Gz
theorem gcd_pos {t b : Int} (hb : b ≠ 0) : 0 < (Int.gcd t b : Int) := by
  have := Int.gcd_pos_of_ne_zero_right t hb
  omega
theorem fdiv_of {t d q : Int} (hd : d ≠ 0) (h : t = d * q) : Int.fdiv t d = q := by
  rw [h]; exact Int.mul_fdiv_cancel_left q hd
theorem low_num {t b : Int} (hb : b ≠ 0) : Int.fdiv t (if b < 0 then -(Int.gcd t b : Int) else (Int.gcd t b : Int)) = (Rat.divInt t b).num := by
  rw [Rat.num_divInt, Int.gcd_comm b t]
  have hp := gcd_pos (t := t) hb
  obtain ⟨q, hq⟩ : (Int.gcd t b : Int) ∣ t := Int.gcd_dvd_left _ _
  generalize (Int.gcd t b : Int) = g at *
  by_cases h : b < 0
  · rw [if_pos h, Int.sign_eq_neg_one_of_neg h, fdiv_of (q := -q) (by omega) (by rw [hq]; grind)]
    rw [hq]
    have : -1 * (g * q) = g * (-q) := by grind
    rw [this, Int.mul_ediv_cancel_left _ (by omega)]
  · rw [if_neg h, Int.sign_eq_one_of_pos (by omega), fdiv_of (q := q) (by omega) hq]
    rw [hq, Int.one_mul, Int.mul_ediv_cancel_left _ (by omega)]
theorem add_rat (a b : Rat) : Rat.divInt (a.num * (b.den : Int) + b.num * (a.den : Int)) ((a.den : Int) * (b.den : Int)) = a + b := by
  rw [Rat.add_def']
  have : ((a.den : Int) * (b.den : Int)) = ((a.den * b.den : Nat) : Int) := by simp
  rw [this, Rat.divInt_ofNat]
theorem sub_rat (a b : Rat) : Rat.divInt (a.num * (b.den : Int) - b.num * (a.den : Int)) ((a.den : Int) * (b.den : Int)) = a - b := by
  rw [Rat.sub_def']
  have : ((a.den : Int) * (b.den : Int)) = ((a.den * b.den : Nat) : Int) := by simp
  rw [this, Rat.divInt_ofNat]
theorem mul_rat (a b : Rat) : Rat.divInt (a.num * b.num) ((a.den : Int) * (b.den : Int)) = a * b := by
  rw [Rat.mul_def']
  have : ((a.den : Int) * (b.den : Int)) = ((a.den * b.den : Nat) : Int) := by simp
  rw [this, Rat.divInt_ofNat]
theorem num_le {t b : Int} (hb : b ≠ 0) : (Rat.divInt t b).num.natAbs ≤ t.natAbs := by
  rw [← low_num (t := t) hb]
  have hp := gcd_pos (t := t) hb
  obtain ⟨q, hq⟩ : (Int.gcd t b : Int) ∣ t := Int.gcd_dvd_left _ _
  have e : ∀ d : Int, (d = (Int.gcd t b : Int) ∨ d = -(Int.gcd t b : Int)) → (Int.fdiv t d).natAbs ≤ t.natAbs := by
    intro d hd
    have hg : 1 ≤ Int.gcd t b := by omega
    have hm : t.natAbs = Int.gcd t b * q.natAbs := by
      have h := congrArg Int.natAbs hq
      rw [Int.natAbs_mul] at h
      simpa using h
    have hle : q.natAbs ≤ t.natAbs := by
      rw [hm]
      exact Nat.le_mul_of_pos_left _ hg
    rcases hd with rfl | rfl
    · rw [fdiv_of (q := q) (by omega) hq]; exact hle
    · rw [fdiv_of (q := -q) (by omega) (by rw [Int.neg_mul_neg]; exact hq), Int.natAbs_neg]; exact hle
  split
  · exact e _ (.inr rfl)
  · exact e _ (.inl rfl)
theorem den_le {t b : Int} (hb : b ≠ 0) : ((Rat.divInt t b).den : Int).natAbs ≤ b.natAbs := by
  rw [Rat.den_divInt, if_neg hb]
  simp only [Int.natAbs_natCast]
  exact Nat.div_le_self _ _
noncomputable def Sz (n : Nat) (r : Rat) : Prop := Sm n r.num ∧ Sm n r.den
theorem Sz.mono {m n : Nat} {r : Rat} (h : Sz m r) (e : m ≤ n) : Sz n r := ⟨h.1.mono e, h.2.mono e⟩
theorem sz_divInt {n : Nat} {t b : Int} (ht : Sm n t) (hb : Sm n b) (h0 : b ≠ 0) : Sz n (Rat.divInt t b) := ⟨ht.of_le (num_le h0), hb.of_le (den_le h0)⟩
theorem den_ne (r : Rat) : (r.den : Int) ≠ 0 := by
  have := r.den_pos
  omega
theorem den_mul_ne (r s : Rat) : (r.den : Int) * (s.den : Int) ≠ 0 := Int.mul_ne_zero (den_ne r) (den_ne s)
theorem Sz.add {m n : Nat} {a b : Rat} (h : Sz m a) (k : Sz n b) : Sz (m + n + 1) (a + b) := by
  rw [← add_rat]
  refine sz_divInt ?_ ((h.2.mul k.2).mono (by omega)) (den_mul_ne a b)
  have := (h.1.mul k.2).add (k.1.mul h.2)
  exact this.mono (by omega)
theorem Sz.sub {m n : Nat} {a b : Rat} (h : Sz m a) (k : Sz n b) : Sz (m + n + 1) (a - b) := by
  rw [← sub_rat]
  refine sz_divInt ?_ ((h.2.mul k.2).mono (by omega)) (den_mul_ne a b)
  have := (h.1.mul k.2).sub (k.1.mul h.2)
  exact this.mono (by omega)
theorem Sz.mul {m n : Nat} {a b : Rat} (h : Sz m a) (k : Sz n b) : Sz (m + n) (a * b) := by
  rw [← mul_rat]
  exact sz_divInt (h.1.mul k.1) (h.2.mul k.2) (den_mul_ne a b)
end L2.Gz
namespace L2
open PySem PySem.Spec PyProof.Rows
section
variable {t : Itb} {g : Fg} {b : Fs} {ds : List D}
end
theorem cur_lref {n : Nat} {S : Sto} {ds : List D} (h : S[n]? = some (.lst ds)) : cur (.lref n) S = some ds := by
  show (match S[n]? with | some (.lst xs) => some xs | _ => none) = _
  rw [h]
theorem iVal_ref {f : Fd} {δ : Dv} {S S1 : Sto} {n : Nat} {ds : List D} (e : f δ S = .ok (.ref n) S1) (h : S1[n]? = some (.lst ds)) : iVal f δ S = .ok (.lref n) S1 := by
  unfold iVal
  rw [e, bind_ok]
  simp [itD, h]
section
variable {G : Glo} {Φ : Phi} {i : Nat} {it : Ix} {b : List Sx} {t : Itb} {ds : List D} {δ : Dv} {S S0 : Sto}
theorem for_eq {g : Fg} {bb : Fs} {B : Nat} (e : evI G Φ it δ S = .ok t S0) : sForX (evV G Φ it) (evI G Φ it) g bb B δ S = sFor (evI G Φ it) g bb B δ S := by
  cases it with
  | val x =>
    rw [evI] at e ⊢
    show sForA (ev G Φ x) g bb B δ S = _
    unfold sForA
    unfold iVal at e
    cases hx : ev G Φ x δ S with
    | ok d S1 =>
      rw [hx, bind_ok] at e
      dsimp only
      rw [if_neg]
      intro c
      unfold isDic ditD at c
      unfold itD at e
      cases d with
      | ref n =>
        dsimp only at c e
        cases hn : S1[n]? with
        | none => rw [hn] at c; cases c
        | some o => rw [hn] at c e; cases o <;> first | (cases c; done) | (cases e; done)
      | _ => cases c
    | _ => rfl
  | _ => rfl
end
section
variable {S : Sto} {a b c d e x : D} {xs : List D}
end
section
variable {G : Glo} {Φ : Phi} {i : Nat} {it : Ix} {b : List Sx} {t : Itb} {ds : List D} {δ : Dv} {S S0 : Sto}
theorem ex_forX (P : Dv → Sto → Prop) (e : evI G Φ it δ S = .ok t S0) (hl : ds.length ≤ lim) (hc : ∀ δ S, P δ S → cur t S = some ds) (h0 : P δ S0)
    (step : ∀ δ S d, P δ S → d ∈ ds → ∃ δ2 S2, exSs G Φ b (δ.set i (some d)) S = .next δ2 S2 ∧ P δ2 S2) : ∃ δ' S', exSs G Φ [.for_ i it b] δ S = .next δ' S' ∧ P δ' S' := by
  have key := for_run (t := t) (g := gSet i) (b := exSs G Φ b) (ds := ds) (fun _ δ S => P δ S) (fun _ _ => False) (fun i δ S q => hc δ S q)
    (fun i δ S d q hd => by
      obtain ⟨δ2, S2, h1, h2⟩ := step δ S d q (List.mem_of_getElem? hd)
      exact ⟨_, rfl, .inl ⟨δ2, S2, .inl h1, h2⟩⟩) bigB 0 δ S0 (Nat.zero_le _) (by have := big_lim hl; omega) h0
  rcases key with ⟨δ', S', k, q⟩ | ⟨r, S', _, q⟩
  · refine ⟨δ', S', ?_, q⟩
    rw [exSs, exS, sSeq, for_eq e, sFor, e]
    show (forD _ _ _ _ _ _ _).bind _ = _
    rw [k, seq_next, exSs]
    rfl
  · exact q.elim
end
section
variable {G : Glo} {Φ : Phi} {v : Nat} {it : Ix} {b : List Sx} {t : Itb} {ds : List D} {δ : Dv} {S S0 : Sto}
theorem ex_forI (P : Nat → Dv → Sto → Prop) (e : evI G Φ it δ S = .ok t S0) (hl : ds.length ≤ lim) (hc : ∀ i δ S, P i δ S → cur t S = some ds) (h0 : P 0 δ S0)
    (step : ∀ i δ S d, P i δ S → ds[i]? = some d → ∃ δ2 S2, exSs G Φ b (δ.set v (some d)) S = .next δ2 S2 ∧ P (i + 1) δ2 S2) : ∃ δ' S', exSs G Φ [.for_ v it b] δ S = .next δ' S' ∧ P ds.length δ' S' := by
  have key := for_run (t := t) (g := gSet v) (b := exSs G Φ b) (ds := ds) P (fun _ _ => False) (fun i δ S q => hc i δ S q)
    (fun i δ S d q hd => by
      obtain ⟨δ2, S2, h1, h2⟩ := step i δ S d q hd
      exact ⟨_, rfl, .inl ⟨δ2, S2, .inl h1, h2⟩⟩) bigB 0 δ S0 (Nat.zero_le _) (by have := big_lim hl; omega) h0
  rcases key with ⟨δ', S', k, q⟩ | ⟨r, S', _, q⟩
  · refine ⟨δ', S', ?_, q⟩
    rw [exSs, exS, sSeq, for_eq e, sFor, e]
    show (forD _ _ _ _ _ _ _).bind _ = _
    rw [k, seq_next, exSs]
    rfl
  · exact q.elim
end
section
variable {G : Glo} {Φ : Phi} {S S1 S2 : Sto} {δ : Dv} {n k : Nat} {C m x : Str} {fo : Fd} {fa : Fa} {fs : List (Str × D)} {ds : List D} {b : Bool} {t : String}
theorem app_l {A : Sto} {j : Nat} {o : O} (h : S[j]? = some o) : (S ++ A)[j]? = some o := by
  have hj : j < S.length := (List.getElem?_eq_some_iff.mp h).1
  rw [List.getElem?_append_left hj]
  exact h
end
section
variable {G : Glo} {T : Str → Option Df} {x C f : Str} {fn : Df} {n : Nat} {ds : List D} {S S' S1 : Sto} {δ : Dv} {d : D} {fs : List (Str × D)} {fo : Fd}
theorem dit_at {kvs : List (D × D)} (h : S[n]? = some (.dit kvs)) : ditD (.ref n) S = some kvs := by
  show (match S[n]? with | some (.dit kvs) => some kvs | _ => none) = _
  rw [h]
end
section
variable {G : Glo} {Φ : Phi} {v n : Nat} {e : Ex} {b : List Sx} {kvs : List (D × D)} {δ : Dv} {S S0 : Sto}
theorem ex_forK (P : Nat → Dv → Sto → Prop) (he : ev G Φ e δ S = .ok (.ref n) S0) (hd : S0[n]? = some (.dit kvs)) (hl : kvs.length ≤ lim) (h0 : P 0 δ (S0.set n (.fdt kvs)))
    (step : ∀ j δ S d, P j δ S → (kvs.map (·.1))[j]? = some d → ∃ δ2 S2, exSs G Φ b (δ.set v (some d)) S = .next δ2 S2 ∧ P (j + 1) δ2 S2) : ∃ δ' S', exSs G Φ [.for_ v (.val e) b] δ S = .next δ' (S'.set n (.dit kvs)) ∧ P kvs.length δ' S' := by
  have hk : (kvs.map (·.1)).length = kvs.length := by rw [List.length_map]
  have key := for_run (t := .its (kvs.map (·.1))) (g := gSet v) (b := exSs G Φ b) (ds := kvs.map (·.1)) P (fun _ _ => False) (fun i δ S q => rfl)
    (fun i δ S d q hd => by
      obtain ⟨δ2, S2, h1, h2⟩ := step i δ S d q hd
      exact ⟨_, rfl, .inl ⟨δ2, S2, .inl h1, h2⟩⟩) bigB 0 δ (S0.set n (.fdt kvs)) (Nat.zero_le _) (by have := big_lim hl; rw [hk]; omega) h0
  rcases key with ⟨δ', S', k, q⟩ | ⟨r, S', _, q⟩
  · rw [hk] at q
    refine ⟨δ', S', ?_, q⟩
    have r1 : exS G Φ (.for_ v (.val e) b) δ S = .next δ' (S'.set n (.dit kvs)) := by
      rw [exS]
      show sForA (ev G Φ e) (gSet v) (exSs G Φ b) bigB δ S = _
      unfold sForA
      rw [he]
      dsimp only
      rw [if_pos (show isDic (.ref n) S0 = true by unfold isDic; rw [dit_at hd]; rfl)]
      unfold sForK
      rw [he]
      show (match S0[n]? with | some (.dit kvs) => thawS n kvs (forD (.its (kvs.map fun kv : D × D => kv.1)) (gSet v) (exSs G Φ b) bigB 0 δ (S0.set n (.fdt kvs))) | _ => .fail) = _
      rw [hd]
      dsimp only
      rw [k]
      rfl
    rw [exSs, sSeq, r1, seq_next, exSs]
    rfl
  · exact q.elim
end
end L2
namespace L2.Gz
open PySem PySem.Spec PyProof.Rows
noncomputable def top (i : Nat) : Stmt := PySem.Challenge.pw_glazehall_k65_stretches_moved.main.body.getD i (.Pass ⟨0, 0, 0, 0⟩)
noncomputable abbrev s_copied : Stmt := top 1
theorem sc_copied : FnScope ["thing"] ["thing"] (defScope s_copied) := fsc
noncomputable def c_copied : List Sx := [.ite (.bf .inst [(.v 0), (.k (.ty "list"))])
      [.ret (.comp 1 1 (.call "copied" [(.v 1)]) (.val (.v 0)))]
      [],
    .ite (.bf .inst [(.v 0), (.k (.ty "tuple"))])
      [.ret (.bf .tuple [(.comp 1 1 (.call "copied" [(.v 1)]) (.val (.v 0)))])]
      [],
    .ite (.bf .inst [(.v 0), (.k (.ty "dict"))])
      [.ret (.bf .dict [(.comp 1 1 (.tup [(.v 1), (.call "copied" [(.idx (.v 0) (.v 1))])]) (.val (.v 0)))])]
      [],
    .ret (.v 0)]
noncomputable abbrev f_copied : Df := ⟨["thing"], ["thing"], s_copied, c_copied⟩
noncomputable abbrev s_lies_in : Stmt := top 3
theorem sc_lies_in : FnScope ["cell", "stretch"] ["cell", "stretch"] (defScope s_lies_in) := fsc
noncomputable def c_lies_in : List Sx := [.ret (.and (.chain .le .lt (.k (.int 0)) (.bin .sub (.idx (.v 0) (.k (.int 0))) (.idx (.v 1) (.k (.int 0)))) (.idx (.v 1) (.k (.int 2)))) (.chain .le .lt (.k (.int 0)) (.bin .sub (.idx (.v 0) (.k (.int 1))) (.idx (.v 1) (.k (.int 1)))) (.idx (.v 1) (.k (.int 3)))))]
noncomputable abbrev f_lies_in : Df := ⟨["cell", "stretch"], ["cell", "stretch"], s_lies_in, c_lies_in⟩
noncomputable abbrev s_cells_of : Stmt := top 4
theorem sc_cells_of : FnScope ["size", "cells", "y"] ["size"] (defScope s_cells_of) := fsc
noncomputable def c_cells_of : List Sx := [.set 1 (.lst []),
    .for_ 2 (.rg1 (.idx (.v 0) (.k (.int 1)))) [.expr (.mt .extend (.v 1) [(.comp 3 1 (.tup [(.v 3), (.v 2)]) (.rg1 (.idx (.v 0) (.k (.int 0)))))])],
    .ret (.v 1)]
noncomputable abbrev f_cells_of : Df := ⟨["size", "cells", "y"], ["size"], s_cells_of, c_cells_of⟩
noncomputable abbrev s_moved : Stmt := top 5
theorem sc_moved : FnScope ["cells", "size", "stretch", "across", "down", "told", "cell", "goal"] ["cells", "size", "stretch", "across", "down"] (defScope s_moved) := fsc
noncomputable def c_moved : List Sx := [.set 5 .dnewT,
    .for_ 6 (.val (.v 0)) [.ite (.not (.call "lies_in" [(.v 6), (.v 2)]))
      [.sto (.v 5) (.v 6) (.call "copied" [(.idx (.v 0) (.v 6))])]
      []],
    .for_ 6 (.val (.call "cells_of" [(.v 1)])) [.set 7 (.tup [(.bin .add (.idx (.v 6) (.k (.int 0))) (.v 3)), (.bin .add (.idx (.v 6) (.k (.int 1))) (.v 4))]),
    .ite (.and (.call "lies_in" [(.v 6), (.v 2)]) (.call "lies_in" [(.v 7), (.tup [(.k (.int 0)), (.k (.int 0)), (.idx (.v 1) (.k (.int 0))), (.idx (.v 1) (.k (.int 1)))])]))
      [.ite (.cmp .isin (.v 6) (.v 0))
      [.sto (.v 5) (.v 7) (.call "copied" [(.idx (.v 0) (.v 6))])]
      [.expr (.mt .pop (.v 5) [(.v 7), (.k .non)])]]
      []],
    .ret (.v 5)]
noncomputable abbrev f_moved : Df := ⟨["cells", "size", "stretch", "across", "down", "told", "cell", "goal"], ["cells", "size", "stretch", "across", "down"], s_moved, c_moved⟩
noncomputable abbrev s__law_cell_at : Stmt := top 7
theorem sc__law_cell_at : FnScope ["_law_script", "_law_k"] ["_law_script", "_law_k"] (defScope s__law_cell_at) := fsc
noncomputable def c__law_cell_at : List Sx := [.ite (.cmp .lt (.v 1) (.bf .len [(.v 0)]))
      [.ret (.idx (.v 0) (.v 1))]
      [],
    .ret (.k (.int 0))]
noncomputable abbrev f__law_cell_at : Df := ⟨["_law_script", "_law_k"], ["_law_script", "_law_k"], s__law_cell_at, c__law_cell_at⟩
noncomputable abbrev s__law_cells : Stmt := top 8
theorem sc__law_cells : FnScope ["_law_script", "_law_wide", "_law_high", "_law_found", "_law_cell"] ["_law_script", "_law_wide", "_law_high"] (defScope s__law_cells) := fsc
noncomputable def c__law_cells : List Sx := [.set 3 .dnewT,
    .for_ 4 (.val (.sl (.v 0) (.k (.int 4)) (.k (.int 44)))) [.stoT (.v 3) [(.bin .mod (.v 4) (.v 1)), (.bin .mod (.bin .fdiv (.v 4) (.k (.int 12))) (.v 2))] (.bin .mod (.bin .fdiv (.v 4) (.k (.int 144))) (.bin .pow (.k (.int 10)) (.k (.int 6))))],
    .ret (.v 3)]
noncomputable abbrev f__law_cells : Df := ⟨["_law_script", "_law_wide", "_law_high", "_law_found", "_law_cell"], ["_law_script", "_law_wide", "_law_high"], s__law_cells, c__law_cells⟩
noncomputable abbrev s__law_within : Stmt := top 9
theorem sc__law_within : FnScope ["_law_cell", "_law_stretch", "_law_x", "_law_y", "_law_wide", "_law_high"] ["_law_cell", "_law_stretch"] (defScope s__law_within) := fsc
noncomputable def c__law_within : List Sx := [.asg [2, 3, 4, 5] (.v 1),
    .ret (.and (.chain .le .lt (.v 2) (.idx (.v 0) (.k (.int 0))) (.bin .add (.v 2) (.v 4))) (.chain .le .lt (.v 3) (.idx (.v 0) (.k (.int 1))) (.bin .add (.v 3) (.v 5))))]
noncomputable abbrev f__law_within : Df := ⟨["_law_cell", "_law_stretch", "_law_x", "_law_y", "_law_wide", "_law_high"], ["_law_cell", "_law_stretch"], s__law_within, c__law_within⟩
noncomputable abbrev s__law_due : Stmt := top 10
theorem sc__law_due : FnScope ["_law_cells_here", "_law_size", "_law_stretch", "_law_across", "_law_down", "_law_found", "_law_x", "_law_y", "_law_back", "_law_thing"] ["_law_cells_here", "_law_size", "_law_stretch", "_law_across", "_law_down"] (defScope s__law_due) := fsc
noncomputable def c__law_due : List Sx := [.set 5 .dnewT,
    .for_ 6 (.rg1 (.idx (.v 1) (.k (.int 0)))) [.for_ 7 (.rg1 (.idx (.v 1) (.k (.int 1)))) [.set 8 (.tup [(.bin .sub (.v 6) (.v 3)), (.bin .sub (.v 7) (.v 4))]),
    .set 9 (.dget (.v 0) [(.tup [(.v 6), (.v 7)])]),
    .ite (.call "_law_within" [(.tup [(.v 6), (.v 7)]), (.v 2)])
      [.set 9 (.k .non)]
      [],
    .ite (.and (.call "_law_within" [(.v 8), (.v 2)]) (.call "_law_within" [(.v 8), (.bin .add (.tup [(.k (.int 0)), (.k (.int 0))]) (.v 1))]))
      [.set 9 (.dget (.v 0) [(.v 8)])]
      [],
    .ite (.notN (.v 9))
      [.stoT (.v 5) [(.v 6), (.v 7)] (.v 9)]
      []]],
    .ret (.v 5)]
noncomputable abbrev f__law_due : Df := ⟨["_law_cells_here", "_law_size", "_law_stretch", "_law_across", "_law_down", "_law_found", "_law_x", "_law_y", "_law_back", "_law_thing"], ["_law_cells_here", "_law_size", "_law_stretch", "_law_across", "_law_down"], s__law_due, c__law_due⟩
noncomputable abbrev s_law : Stmt := top 11
theorem sc_law : FnScope ["_law_script", "_law_cell", "_law_size", "_law_cells_here", "_law_stretch", "_law_across", "_law_down", "_law_handed", "_law_due_here", "_law_turn", "_law_found"] ["_law_script"] (defScope s_law) := fsc
noncomputable def c_law : List Sx := [.set 1 (.call "_law_cell_at" [(.v 0), (.k (.int 0))]),
    .set 2 (.tup [(.bin .add (.k (.int 1)) (.bin .mod (.v 1) (.k (.int 12)))), (.bin .add (.k (.int 1)) (.bin .mod (.bin .fdiv (.v 1) (.k (.int 12))) (.k (.int 12))))]),
    .set 3 (.call "_law_cells" [(.v 0), (.idx (.v 2) (.k (.int 0))), (.idx (.v 2) (.k (.int 1)))]),
    .set 1 (.call "_law_cell_at" [(.v 0), (.k (.int 1))]),
    .set 4 (.tup [(.bin .sub (.bin .mod (.v 1) (.k (.int 20))) (.k (.int 5))), (.bin .sub (.bin .mod (.bin .fdiv (.v 1) (.k (.int 20))) (.k (.int 20))) (.k (.int 5))), (.bin .add (.k (.int 1)) (.bin .mod (.bin .fdiv (.v 1) (.k (.int 400))) (.k (.int 16)))), (.bin .add (.k (.int 1)) (.bin .mod (.bin .fdiv (.v 1) (.k (.int 6400))) (.k (.int 16))))]),
    .set 5 (.bin .sub (.bin .mod (.call "_law_cell_at" [(.v 0), (.k (.int 2))]) (.k (.int 29))) (.k (.int 14))),
    .set 6 (.bin .sub (.bin .mod (.call "_law_cell_at" [(.v 0), (.k (.int 3))]) (.k (.int 29))) (.k (.int 14))),
    .set 7 (.bf .dict [(.v 3)]),
    .set 8 (.call "_law_due" [(.v 3), (.v 2), (.v 4), (.v 5), (.v 6)]),
    .for_ 9 (.rg1 (.k (.int 2))) [.set 10 (.call "moved" [(.v 7), (.v 2), (.v 4), (.v 5), (.v 6)]),
    .ite (.or (.not (.bf .inst [(.v 10), (.k (.ty "dict"))])) (.or (.cmp .ne (.v 10) (.v 8)) (.cmp .ne (.v 7) (.v 3))))
      [.ret (.k (.bl false))]
      [],
    .stoT (.v 10) [(.k (.int 0)), (.k (.int 0))] (.k (.str "more"))],
    .ret (.k (.bl true))]
noncomputable abbrev f_law : Df := ⟨["_law_script", "_law_cell", "_law_size", "_law_cells_here", "_law_stretch", "_law_across", "_law_down", "_law_handed", "_law_due_here", "_law_turn", "_law_found"], ["_law_script"], s_law, c_law⟩
noncomputable def tab : List (Str × Df) := [(("copied" : Str), f_copied), (("lies_in" : Str), f_lies_in), (("cells_of" : Str), f_cells_of), (("moved" : Str), f_moved), (("_law_cell_at" : Str), f__law_cell_at), (("_law_cells" : Str), f__law_cells), (("_law_within" : Str), f__law_within), (("_law_due" : Str), f__law_due), (("law" : Str), f_law)]
noncomputable abbrev T : Str → Option Df := tabOf tab
noncomputable def gl : Gl' where
  con := []
  own := ["isinstance", "tuple", "list", "dict", "len", "range"]
  cls := []
  exc := []
  subG := []
  subT := []
  exm := []
noncomputable abbrev G : Glo := gl.glo
theorem tr_copied : trS 40 (tcOf G T f_copied) (defBody s_copied) = some c_copied := by kernel_rfl
theorem T_copied : T "copied" = some f_copied := by kernel_rfl
theorem tr_lies_in : trS 40 (tcOf G T f_lies_in) (defBody s_lies_in) = some c_lies_in := by kernel_rfl
theorem T_lies_in : T "lies_in" = some f_lies_in := by kernel_rfl
theorem tr_cells_of : trS 40 (tcOf G T f_cells_of) (defBody s_cells_of) = some c_cells_of := by kernel_rfl
theorem T_cells_of : T "cells_of" = some f_cells_of := by kernel_rfl
theorem tr_moved : trS 40 (tcOf G T f_moved) (defBody s_moved) = some c_moved := by kernel_rfl
theorem T_moved : T "moved" = some f_moved := by kernel_rfl
theorem tr__law_cell_at : trS 40 (tcOf G T f__law_cell_at) (defBody s__law_cell_at) = some c__law_cell_at := by kernel_rfl
theorem T__law_cell_at : T "_law_cell_at" = some f__law_cell_at := by kernel_rfl
theorem tr__law_cells : trS 40 (tcOf G T f__law_cells) (defBody s__law_cells) = some c__law_cells := by kernel_rfl
theorem T__law_cells : T "_law_cells" = some f__law_cells := by kernel_rfl
theorem tr__law_within : trS 40 (tcOf G T f__law_within) (defBody s__law_within) = some c__law_within := by kernel_rfl
theorem T__law_within : T "_law_within" = some f__law_within := by kernel_rfl
theorem tr__law_due : trS 40 (tcOf G T f__law_due) (defBody s__law_due) = some c__law_due := by kernel_rfl
theorem T__law_due : T "_law_due" = some f__law_due := by kernel_rfl
theorem tr_law : trS 40 (tcOf G T f_law) (defBody s_law) = some c_law := by kernel_rfl
theorem T_law : T "law" = some f_law := by kernel_rfl
end L2.Gz
namespace L2.Gz
open PySem PySem.Spec PyProof.Rows
local macro_rules | `(tactic| walk_at "ex") => `(tactic| simp (disch := first | (simp only [List.length_cons, List.length_nil]; omega) | omega | decide | (simp only [noRef_int, noRef_bl, noRef_str, noRef_non, noRef_tup, noRefs_nil, noRefs_cons, Bool.and_self]; done)) only [exSs, exS, ev, evs, sSeq, sSet, sRet, sExpr, sIf, sPar, sRaise, sNext, f2, f1, fNot, fAnd, fOr, fIf, fIsN, fNotN, fTup, fLst, fCall, fChain, fChain3, sFldD, aNil, aCons, okD, getV, bVal,
  bind_ok, bind_exc, toS_ok, toS_exc, seq_next, seq_ret, seq_brk, seq_cnt, seq_exc, isBl_bl, noxR_ok, noxS_next, noxS_ret, noxS_brk, noxS_cnt, add_int', sub_int', lt_int', le_int', gt_int', ge_int', neg_int', abs_int', min_int', max_int', len_tup, len_rol, mkTup_ok, fGc, idx_tup', idx_rol', idx_last', atR_0, atR_1, atR_2, atR_3, atR_4, atR_5, atR_6, atR_7, mkLst_ok, gc_same, gc_int, gc_bl, gc_str, gc_non, gc_pair, fdiv_pos, mod_pos, pow10,
  binD, cmpD, bfD, startD, endR, List.getElem?_cons_zero, List.getElem?_cons_succ, List.set_cons_zero, List.set_cons_succ, List.map_cons, List.map_nil, List.length_cons, List.length_nil, List.replicate, List.cons_append, List.nil_append,
  i_int_int, i_int_bool, i_int_str, i_int_tup, i_bl_int, i_bl_bool, i_bl_str, i_str_int, i_str_bool, i_str_str, i_non_int, i_non_bool, i_non_str, i_non_tup, i_tup_tup, i_tup_int, i_tup_bool, i_tup_str, if_true, Bool.false_eq_true, if_false, Bool.not_true, Bool.not_false, eq_int, Nat.reduceSub, Nat.reduceAdd, Bool.and_self, Bool.true_and, Bool.and_true, Bool.false_and, Bool.and_false, evI, sFor, iVal, itD, forD_big, forL, gSet, eq_pair, sAsg, gNames, setAll, sSto, sStoT, sStoB, fDget, Option.isSome_some, fMt, mul_l, mul_r, eq_self, id])
local macro_rules | `(tactic| walk_at "exh") => `(tactic| simp (disch := first | (simp only [List.length_cons, List.length_nil]; omega) | omega | decide | (simp only [noRef_int, noRef_bl, noRef_str, noRef_non, noRef_tup, noRefs_nil, noRefs_cons, Bool.and_self]; done)) only [exSs, exS, ev, evs, sSeq, sSet, sRet, sExpr, sIf, sPar, sRaise, sNext, f2, f1, fNot, fAnd, fOr, fIf, fIsN, fNotN, fTup, fLst, fCall, fChain, fChain3, sFldD, aNil, aCons, okD, getV, bVal,
  bind_ok, bind_exc, toS_ok, toS_exc, seq_next, seq_ret, seq_brk, seq_cnt, seq_exc, isBl_bl, noxR_ok, noxS_next, noxS_ret, noxS_brk, noxS_cnt, add_int', sub_int', lt_int', le_int', gt_int', ge_int', neg_int', abs_int', min_int', max_int', len_tup, len_rol, mkTup_ok, fGc, idx_tup', idx_rol', idx_last', atR_0, atR_1, atR_2, atR_3, atR_4, atR_5, atR_6, atR_7, mkLst_ok, gc_same, gc_int, gc_bl, gc_str, gc_non, gc_pair, fdiv_pos, mod_pos, pow10,
  binD, cmpD, bfD, startD, endR, List.getElem?_cons_zero, List.getElem?_cons_succ, List.set_cons_zero, List.set_cons_succ, List.map_cons, List.map_nil, List.length_cons, List.length_nil, List.replicate, List.cons_append, List.nil_append,
  i_int_int, i_int_bool, i_int_str, i_int_tup, i_bl_int, i_bl_bool, i_bl_str, i_str_int, i_str_bool, i_str_str, i_non_int, i_non_bool, i_non_str, i_non_tup, i_tup_tup, i_tup_int, i_tup_bool, i_tup_str, if_true, Bool.false_eq_true, if_false, Bool.not_true, Bool.not_false, eq_int, Nat.reduceSub, Nat.reduceAdd, Bool.and_self, Bool.true_and, Bool.and_true, Bool.false_and, Bool.and_false, evI, sFor, iVal, itD, forD_big, forL, gSet, eq_pair, sAsg, gNames, setAll, sSto, sStoT, sStoB, fDget, Option.isSome_some, fMt, mul_l, mul_r, eq_self, id, beq_self_eq_true, decide_true, decide_false, *])
theorem r_cell_at (n : Nat) (S : Sto) (ns : List Int) {k : Int} (hk : 0 ≤ k) : callD G T (n + 1) "_law_cell_at" [.rol (ns.map D.int), .int k] S = .ok (.int (ns.getD k.toNat 0)) S := by
  refine call_ret0 T__law_cell_at rfl ?_
  unfold f__law_cell_at c__law_cell_at
  by_cases c : k.toNat < ns.length
  · have e1 : decide (k < ((ns.map D.int).length : Int)) = true := by simp; omega
    have e2 : atI (ns.map D.int) k = some (.int (ns.getD k.toNat 0)) := by
      have e : k = ((k.toNat : Nat) : Int) := by omega
      have := atI_nat (xs := ns.map D.int) (j := k.toNat) (v := .int (ns.getD k.toNat 0)) (by rw [List.getElem?_map, List.getElem?_eq_getElem c]; simp [c])
      rw [← e] at this
      exact this
    have e3 : atR (ns.map D.int) k S = .ok (.int (ns.getD k.toNat 0)) S := by unfold atR; rw [e2]
    clear c hk
    walk_at "exh"
  · have e1 : decide (k < ((ns.map D.int).length : Int)) = false := by simp; omega
    have e2 : ns.getD k.toNat 0 = 0 := by
      rw [List.getD_eq_getElem?_getD, List.getElem?_eq_none (by omega)]
      rfl
    clear c hk
    walk_at "exh"
noncomputable abbrev Cm := List ((Int × Int) × V)
noncomputable def kd (p : Int × Int) : D := .tup [.int p.1, .int p.2]
noncomputable def kc (p : Int × Int) : List Key := [.inl p.1, .inl p.2]
noncomputable def vD : V → D
  | .int i => .int i
  | _ => .non
noncomputable def cD (m : Cm) : List (D × D) := m.map fun t => (kd t.1, vD t.2)
theorem tkey_kd (p : Int × Int) : tkey (kd p) = some (kc p) := rfl
theorem kc_iff {p q : Int × Int} : (tkey (kd p) = some (kc q)) ↔ p = q := by
  rw [tkey_kd]
  constructor
  · intro z
    have := Option.some.inj z
    unfold kc at this
    simp at this
    exact Prod.ext this.1 this.2
  · rintro rfl
    rfl
theorem cD_len (m : Cm) : (cD m).length = m.length := List.length_map _
theorem lk_cD (m : Cm) (q : Int × Int) : lkT (cD m) (kc q) = (valV m q).map vD := by
  induction m with
  | nil => rfl
  | cons t m ih =>
    by_cases c : t.1 = q
    · rw [valV_pos c]
      simp [lkT, cD, List.find?_cons, kc_iff, c]
    · rw [valV_neg c, ← ih]
      simp [lkT, cD, List.find?_cons, kc_iff, c]
theorem put_cD (m : Cm) (q : Int × Int) (v : V) : putT (cD m) (kc q) (vD v) = cD (putK m q v) := by
  have any : ((cD m).any fun kv => decide (tkey kv.1 = some (kc q))) = m.any fun kv => decide (kv.1 = q) := by
    unfold cD
    rw [List.any_map]
    congr 1
    funext t
    simp [kc_iff]
  unfold putT putK
  rw [any]
  split
  · unfold cD
    rw [List.map_map, List.map_map]
    congr 1
    funext t
    by_cases c : t.1 = q
    · simp [kc_iff, c]
    · simp [kc_iff, c]
  · simp [cD, kd, kc, keyD]
theorem drop_cD (m : Cm) (q : Int × Int) : dropT (cD m) (kc q) = cD (dropK m q) := by
  unfold dropT dropK cD
  rw [List.filter_map]
  congr 1
  refine List.filter_congr fun t _ => ?_
  simp [kc_iff]
theorem valV_filter (m : Cm) (p : Int × Int → Bool) (j : Int × Int) : valV (m.filter fun kv => p kv.1) j = if p j = true then valV m j else none := by
  induction m with
  | nil => simp [valV]
  | cons t m ih =>
    by_cases c : p t.1 = true
    · rw [List.filter_cons_of_pos (p := fun kv : (Int × Int) × V => p kv.1) (a := t) c]
      by_cases e : t.1 = j
      · rw [valV_pos e, valV_pos e, if_pos (e ▸ c)]
      · rw [valV_neg e, valV_neg e, ih]
    · rw [List.filter_cons_of_neg (p := fun kv : (Int × Int) × V => p kv.1) (a := t) c, ih]
      by_cases e : t.1 = j
      · rw [if_neg (e ▸ c), if_neg (e ▸ c)]
      · rw [valV_neg e]
theorem valV_drop (m : Cm) (k j : Int × Int) : valV (dropK m k) j = if j = k then none else valV m j := by
  have := valV_filter m (fun p => decide (p ≠ k)) j
  unfold dropK
  rw [this]
  by_cases e : j = k
  · simp [e]
  · simp [e]
noncomputable def Nd (m : Cm) : Prop := (m.map (·.1)).Nodup
theorem nd_put {m : Cm} (h : Nd m) (k : Int × Int) (v : V) : Nd (putK m k v) := by
  unfold putK Nd
  split
  · have : (m.map fun kv => if kv.1 = k then (kv.1, v) else kv).map (·.1) = m.map (·.1) := by
      rw [List.map_map]
      congr 1
      funext t
      simp only [Function.comp]
      split <;> rfl
    rw [this]
    exact h
  · rename_i c
    rw [List.map_append, List.nodup_append]
    refine ⟨h, by simp, fun a ha b hb e => ?_⟩
    simp at hb
    subst hb e
    obtain ⟨t, ht, q⟩ := List.mem_map.mp ha
    exact c (List.any_eq_true.mpr ⟨t, ht, by simpa using q⟩)
theorem nd_filter {m : Cm} (h : Nd m) (p : (Int × Int) × V → Bool) : Nd (m.filter p) := h.sublist ((List.filter_sublist).map _)
theorem key_iff {m : Cm} {k : Int × Int} : k ∈ m.map (·.1) ↔ (valV m k).isSome = true := by
  rw [← valV_any, List.any_eq_true, List.mem_map]
  constructor
  · rintro ⟨t, h1, h2⟩
    exact ⟨t, h1, by simpa using h2⟩
  · rintro ⟨t, h1, h2⟩
    exact ⟨t, h1, by simpa using h2⟩
theorem nd_val : ∀ {m : Cm} {t : (Int × Int) × V}, Nd m → t ∈ m → valV m t.1 = some t.2
  | [], _, _, h => nomatch h
  | x :: m, t, n, h => by
    unfold Nd at n
    rw [List.map_cons, List.nodup_cons] at n
    rcases List.mem_cons.mp h with rfl | h
    · exact valV_pos rfl
    · rw [valV_neg (fun e => n.1 (by rw [e]; exact List.mem_map_of_mem h))]
      exact nd_val n.2 h
theorem nd_len {α : Type} [DecidableEq α] : ∀ {l m : List α}, l.Nodup → (∀ a ∈ l, a ∈ m) → l.length ≤ m.length
  | [], _, _, _ => Nat.zero_le _
  | x :: l, m, n, h => by
    rw [List.nodup_cons] at n
    have hx := h x List.mem_cons_self
    have := nd_len (l := l) (m := m.erase x) n.2 fun a ha => (List.mem_erase_of_ne (fun e : a = x => n.1 (by rw [← e]; exact ha))).mpr (h a (List.mem_cons_of_mem _ ha))
    rw [List.length_erase_of_mem hx] at this
    have := List.length_pos_of_mem hx
    rw [List.length_cons]
    omega
theorem flat_cD (m : Cm) : flatDt (cD m) = true := by
  unfold flatDt
  refine List.all_eq_true.mpr fun kv hk => ?_
  obtain ⟨t, _, rfl⟩ := List.mem_map.mp hk
  show flatD (vD t.2) = true
  cases t.2 <;> rfl
theorem eq_cD {a b : Cm} (na : Nd a) (nb : Nd b) (e : ∀ k, valV a k = valV b k) : eqDt (cD a) (cD b) = true := by
  have l1 : a.length = b.length := by
    have h1 := nd_len na fun k hk => key_iff.mpr ((e k) ▸ key_iff.mp hk)
    have h2 := nd_len nb fun k hk => key_iff.mpr ((e k).symm ▸ key_iff.mp hk)
    rw [List.length_map, List.length_map] at h1 h2
    omega
  unfold eqDt
  rw [Bool.and_eq_true]
  refine ⟨by simp [cD, l1], List.all_eq_true.mpr fun kv hk => ?_⟩
  obtain ⟨t, ht, rfl⟩ := List.mem_map.mp hk
  unfold hitDt
  dsimp only
  rw [tkey_kd]
  dsimp only
  rw [lk_cD, ← e, nd_val na ht]
  show eqV (toV (vD t.2)) (toV (vD t.2)) = true
  cases t.2 <;> simp [vD, toV, eqV]
noncomputable def inR (a b w h : Int) (p : Int × Int) : Bool := (decide (0 ≤ p.1 - a) && decide (p.1 - a < w)) && (decide (0 ≤ p.2 - b) && decide (p.2 - b < h))
theorem inR_iff {a b w h : Int} {p : Int × Int} : inR a b w h p = true ↔ (a ≤ p.1 ∧ p.1 < a + w) ∧ b ≤ p.2 ∧ p.2 < b + h := by
  unfold inR
  simp only [Bool.and_eq_true, decide_eq_true_eq]
  omega
structure Mv where
  m : Cm
  w : Nat
  h : Nat
  a : Int
  b : Int
  u : Int
  v : Int
  x : Int
  y : Int
noncomputable def Mv.st (M : Mv) : Int × Int → Bool := inR M.a M.b M.u M.v
noncomputable def Mv.pic (M : Mv) : Int × Int → Bool := inR 0 0 M.w M.h
noncomputable def Mv.to (M : Mv) (p : Int × Int) : Int × Int := (p.1 + M.x, p.2 + M.y)
noncomputable def Mv.fro (M : Mv) (p : Int × Int) : Int × Int := (p.1 - M.x, p.2 - M.y)
noncomputable def Mv.step (M : Mv) (t : Cm) (c : Int × Int) : Cm := if (M.st c && M.pic (M.to c)) = true then (match valV M.m c with
  | some z => putK t (M.to c) z
  | none => dropK t (M.to c)) else t
noncomputable def Mv.lift (M : Mv) : Cm := M.m.filter fun kv => !M.st kv.1
theorem Mv.to_fro (M : Mv) {p q : Int × Int} : M.to p = q ↔ p = M.fro q := by
  unfold Mv.to Mv.fro
  constructor
  · rintro rfl
    exact Prod.ext (by show p.1 = p.1 + M.x - M.x; omega) (by show p.2 = p.2 + M.y - M.y; omega)
  · rintro rfl
    exact Prod.ext (by show q.1 - M.x + M.x = q.1; omega) (by show q.2 - M.y + M.y = q.2; omega)
theorem Mv.step_nd (M : Mv) {t : Cm} (h : Nd t) (c : Int × Int) : Nd (M.step t c) := by
  unfold Mv.step
  split
  · split
    · exact nd_put h _ _
    · exact nd_filter h _
  · exact h
theorem Mv.step_val (M : Mv) (t : Cm) (c k : Int × Int) : valV (M.step t c) k = if c = M.fro k ∧ (M.st c && M.pic k) = true then valV M.m c else valV t k := by
  unfold Mv.step
  by_cases e : M.to c = k
  · have e' := M.to_fro.mp e
    rw [e]
    by_cases q : (M.st c && M.pic k) = true
    · rw [if_pos q, if_pos ⟨e', q⟩]
      cases hv : valV M.m c with
      | some z => rw [valV_put, if_pos rfl]
      | none => rw [valV_drop, if_pos rfl]
    · rw [if_neg q, if_neg (fun z => q z.2)]
  · rw [if_neg (show ¬ (c = M.fro k ∧ _) from fun z => e (M.to_fro.mpr z.1))]
    split
    · split
      · rw [valV_put, if_neg (fun z => e z.symm)]
      · rw [valV_drop, if_neg (fun z => e z.symm)]
    · rfl
theorem Mv.fold_val (M : Mv) : ∀ (l : List (Int × Int)) (t : Cm) (k : Int × Int), valV (l.foldl M.step t) k = if M.fro k ∈ l ∧ (M.st (M.fro k) && M.pic k) = true then valV M.m (M.fro k) else valV t k
  | [], t, k => by rw [if_neg (fun z => nomatch z.1)]; rfl
  | c :: l, t, k => by
    rw [List.foldl_cons, Mv.fold_val M l, M.step_val]
    by_cases q : (M.st (M.fro k) && M.pic k) = true
    · by_cases m : M.fro k ∈ l
      · rw [if_pos ⟨m, q⟩, if_pos ⟨List.mem_cons_of_mem _ m, q⟩]
      · rw [if_neg (fun z => m z.1)]
        by_cases e : c = M.fro k
        · subst e
          rw [if_pos ⟨rfl, q⟩, if_pos ⟨List.mem_cons_self, q⟩]
        · rw [if_neg (fun z => e z.1), if_neg (fun z => (List.mem_cons.mp z.1).elim (fun z => e z.symm) m)]
    · rw [if_neg (fun z => q z.2), if_neg (show ¬ (c = M.fro k ∧ (M.st c && M.pic k) = true) from fun z => q (by rw [← z.1]; exact z.2)), if_neg (fun z => q z.2)]
theorem Mv.fold_nd (M : Mv) : ∀ (l : List (Int × Int)) {t : Cm}, Nd t → Nd (l.foldl M.step t)
  | [], _, h => h
  | c :: l, t, h => by rw [List.foldl_cons]; exact Mv.fold_nd M l (M.step_nd h c)
noncomputable def Mv.due (M : Mv) (p : Int × Int) : Option V := if (M.st (M.fro p) && M.pic (M.fro p)) = true then valV M.m (M.fro p) else if M.st p = true then none else valV M.m p
noncomputable def Mv.put (M : Mv) (t : Cm) (c : Int × Int) : Cm := match M.due c with
  | some z => putK t c z
  | none => t
theorem Mv.put_nd (M : Mv) : ∀ (l : List (Int × Int)) {t : Cm}, Nd t → Nd (l.foldl M.put t)
  | [], _, h => h
  | c :: l, t, h => by
    rw [List.foldl_cons]
    refine Mv.put_nd M l ?_
    unfold Mv.put
    split
    · exact nd_put h _ _
    · exact h
theorem Mv.put_val (M : Mv) : ∀ (l : List (Int × Int)) (t : Cm) (k : Int × Int), valV (l.foldl M.put t) k = if k ∈ l then (M.due k).or (valV t k) else valV t k
  | [], t, k => by rw [if_neg (fun z => nomatch z)]; rfl
  | c :: l, t, k => by
    rw [List.foldl_cons, Mv.put_val M l]
    have e1 : valV (M.put t c) k = if k = c then (M.due k).or (valV t k) else valV t k := by
      unfold Mv.put
      by_cases e : k = c
      · subst e
        rw [if_pos rfl]
        cases hd : M.due k with
        | some z => rw [valV_put, if_pos rfl]; rfl
        | none => rfl
      · rw [if_neg e]
        split
        · rw [valV_put, if_neg e]
        · rfl
    rw [e1]
    by_cases e : k = c
    · rw [if_pos e, if_pos (show k ∈ c :: l from e ▸ List.mem_cons_self)]
      split
      · cases M.due k <;> rfl
      · rfl
    · rw [if_neg e]
      by_cases m : k ∈ l
      · rw [if_pos m, if_pos (List.mem_cons_of_mem _ m)]
      · rw [if_neg m, if_neg (fun z => (List.mem_cons.mp z).elim e m)]
noncomputable def cellsP (w h : Nat) : List (Int × Int) := (List.range h).flatMap fun y : Nat => (List.range w).map fun x : Nat => ((x : Int), (y : Int))
noncomputable def cellsQ (w h : Nat) : List (Int × Int) := (List.range w).flatMap fun x : Nat => (List.range h).map fun y : Nat => ((x : Int), (y : Int))
theorem pic_iff {w h : Nat} {p : Int × Int} : inR 0 0 w h p = true ↔ ∃ x y : Nat, x < w ∧ y < h ∧ p = ((x : Int), (y : Int)) := by
  rw [inR_iff]
  constructor
  · intro z
    exact ⟨p.1.toNat, p.2.toNat, by omega, by omega, Prod.ext (by show p.1 = _; omega) (by show p.2 = _; omega)⟩
  · rintro ⟨x, y, hx, hy, rfl⟩
    dsimp only
    omega
theorem mem_P {w h : Nat} {p : Int × Int} : p ∈ cellsP w h ↔ inR 0 0 w h p = true := by
  rw [pic_iff]
  unfold cellsP
  simp only [List.mem_flatMap, List.mem_map, List.mem_range]
  constructor
  · rintro ⟨y, hy, x, hx, rfl⟩
    exact ⟨x, y, hx, hy, rfl⟩
  · rintro ⟨x, y, hx, hy, rfl⟩
    exact ⟨y, hy, x, hx, rfl⟩
theorem mem_Q {w h : Nat} {p : Int × Int} : p ∈ cellsQ w h ↔ inR 0 0 w h p = true := by
  rw [pic_iff]
  unfold cellsQ
  simp only [List.mem_flatMap, List.mem_map, List.mem_range]
  constructor
  · rintro ⟨x, hx, y, hy, rfl⟩
    exact ⟨x, y, hx, hy, rfl⟩
  · rintro ⟨x, y, hx, hy, rfl⟩
    exact ⟨x, hx, y, hy, rfl⟩
theorem Mv.same (M : Mv) (hk : ∀ k, (valV M.m k).isSome = true → M.pic k = true) (k : Int × Int) : valV ((cellsP M.w M.h).foldl M.step M.lift) k = valV ((cellsQ M.w M.h).foldl M.put []) k := by
  rw [M.fold_val, M.put_val]
  have e0 : valV M.lift k = if M.st k = true then none else valV M.m k := by
    unfold Mv.lift
    rw [valV_filter M.m (fun p => !M.st p) k]
    cases M.st k <;> rfl
  have en : valV ([] : Cm) k = none := rfl
  rw [e0, en]
  have m1 : M.fro k ∈ cellsP M.w M.h ↔ M.pic (M.fro k) = true := mem_P
  have m2 : k ∈ cellsQ M.w M.h ↔ M.pic k = true := mem_Q
  unfold Mv.due
  by_cases p2 : M.pic k = true
  · rw [if_pos (m2.mpr p2), p2, Bool.and_true]
    by_cases p1 : M.pic (M.fro k) = true
    · by_cases p3 : M.st (M.fro k) = true
      · rw [if_pos ⟨m1.mpr p1, p3⟩, p1, p3, if_pos (by rfl)]
        cases valV M.m (M.fro k) <;> rfl
      · rw [if_neg (fun z => p3 z.2), if_neg (show ¬ (M.st (M.fro k) && M.pic (M.fro k)) = true by simp [p3])]
        split
        · rfl
        · cases valV M.m k <;> rfl
    · rw [if_neg (fun z => p1 (m1.mp z.1)), if_neg (show ¬ (M.st (M.fro k) && M.pic (M.fro k)) = true by simp [p1])]
      split
      · rfl
      · cases valV M.m k <;> rfl
  · rw [if_neg (fun z => p2 (m2.mp z)), if_neg (show ¬ (_ ∧ (M.st (M.fro k) && M.pic k) = true) from fun z => p2 ((Bool.and_eq_true _ _).mp z.2).2)]
    split
    · rfl
    · cases hv : valV M.m k with
      | none => rfl
      | some z => exact absurd (hk k (by rw [hv]; rfl)) p2
theorem i_int_list {S : Sto} (i : Int) : instD G [.int i, .ty "list"] S = .ok (.bl false) S := rfl
theorem i_int_dict {S : Sto} (i : Int) : instD G [.int i, .ty "dict"] S = .ok (.bl false) S := rfl
theorem i_dit_dict {S : Sto} {n : Nat} {kvs : List (D × D)} (h : S[n]? = some (.dit kvs)) : instD G [.ref n, .ty "dict"] S = .ok (.bl true) S := by
  simp [instD, isCls, isInst, tyD, okTD, h, subOf, subB, subL, lk3]
theorem r_copied_int (n : Nat) (S : Sto) (i : Int) : callD G T (n + 1) "copied" [.int i] S = .ok (.int i) S := by
  refine call_ret0 T_copied rfl ?_
  unfold f_copied c_copied
  have e1 := i_int_list (S := S) i
  have e2 := i_int_dict (S := S) i
  walk_at "exh"
theorem r_lies (n : Nat) (S : Sto) (p : Int × Int) (a b w h : Int) : callD G T (n + 1) "lies_in" [kd p, .tup [.int a, .int b, .int w, .int h]] S = .ok (.bl (inR a b w h p)) S := by
  refine call_ret0 T_lies_in rfl ?_
  unfold f_lies_in c_lies_in kd inR
  cases e1 : decide (0 ≤ p.1 - a) <;> cases e2 : decide (p.1 - a < w) <;> cases e3 : decide (0 ≤ p.2 - b) <;> cases e4 : decide (p.2 - b < h) <;> walk_at "exh"
theorem r_within (n : Nat) (S : Sto) (p : Int × Int) (a b w h : Int) : callD G T (n + 1) "_law_within" [kd p, .tup [.int a, .int b, .int w, .int h]] S = .ok (.bl (inR a b w h p)) S := by
  have e : inR a b w h p = ((decide (a ≤ p.1) && decide (p.1 < a + w)) && (decide (b ≤ p.2) && decide (p.2 < b + h))) := by
    rw [Bool.eq_iff_iff, inR_iff]
    simp only [Bool.and_eq_true, decide_eq_true_eq]
  rw [e]
  refine call_ret0 T__law_within rfl ?_
  unfold f__law_within c__law_within kd
  clear e
  cases e1 : decide (a ≤ p.1) <;> cases e2 : decide (p.1 < a + w) <;> cases e3 : decide (b ≤ p.2) <;> cases e4 : decide (p.2 < b + h) <;> walk_at "exh"
section
variable {S : Sto} {n : Nat} {m : Cm} {p : Int × Int} {kvs : List (D × D)}
theorem dtR_at (h : S[n]? = some (.dit kvs)) : dtR (.ref n) S = some kvs := by
  unfold dtR
  dsimp only
  rw [h]
theorem dtR_fz (h : S[n]? = some (.fdt kvs)) : dtR (.ref n) S = some kvs := by
  unfold dtR
  dsimp only
  rw [h]
theorem cget {z : V} (h : dtR (.ref n) S = some (cD m)) (hv : valV m p = some z) : idxF (.ref n) (kd p) S = .ok (vD z) S := by
  show idxB (.ref n) (kd p) S = _
  unfold idxB
  rw [h]
  dsimp only
  rw [tkey_kd]
  dsimp only
  rw [lk_cD, hv]
  rfl
theorem cin (h : dtR (.ref n) S = some (cD m)) : memB false (kd p) (.ref n) S = .ok (.bl (valV m p).isSome) S := by
  unfold memB
  rw [h]
  dsimp only
  rw [tkey_kd]
  dsimp only
  rw [lk_cD, Option.isSome_map]
  rfl
theorem cput (h : S[n]? = some (.dit (cD m))) (hl : m.length < lim) (z : V) : stoB (.ref n) (kd p) (vD z) S = some (S.set n (.dit (cD (putK m p z)))) := by
  unfold stoB
  rw [dit_at h]
  dsimp only
  rw [tkey_kd]
  dsimp only
  rw [if_pos (by rw [cD_len]; exact hl), put_cD]
  rfl
theorem cputT (h : S[n]? = some (.dit (cD m))) (hl : m.length < lim) (z : V) : tputD (.ref n) [.int p.1, .int p.2] (vD z) S = some (S.set n (.dit (cD (putK m p z)))) := by
  unfold tputD
  rw [dit_at h, show tkeys [.int p.1, .int p.2] = some (kc p) from rfl]
  dsimp only
  rw [if_pos ⟨by rw [cD_len]; exact hl, show 2 ≤ lim by decide⟩, put_cD]
  rfl
theorem cgetN (h : S[n]? = some (.dit (cD m))) : dgetT (.ref n) [kd p] S = .ok (((valV m p).map vD).getD .non) S := by
  unfold dgetT
  rw [dit_at h]
  dsimp only
  rw [tkey_kd]
  dsimp only
  rw [lk_cD]
theorem cpop (h : S[n]? = some (.dit (cD m))) : tmtD .pop (.ref n) [kd p, .non] S = .ok (((valV m p).map vD).getD .non) (S.set n (.dit (cD (dropK m p)))) := by
  show (match ditD (.ref n) S, tkey (kd p) with | some kvs, some k => R.ok ((lkT kvs k).getD .non) (S.set n (.dit (dropT kvs k))) | _, _ => .fail) = _
  rw [dit_at h, tkey_kd]
  dsimp only
  rw [lk_cD, drop_cD]
theorem mtX_pop2 {fo : Fd} {fa : Fa} {S1 S2 : Sto} {δ : Dv} {es : List D} (e : fo δ S = .ok (.ref n) S1) (h : S1[n]? = some (.dit kvs)) (ea : fa δ S1 = .ok es S2) : fMtX .pop fo fa δ S = tmtD .pop (.ref n) es S2 := by
  show fMtB .pop fo fa δ S = _
  unfold fMtB
  rw [e, bind_ok, dit_at h, if_pos (show (some kvs).isSome = true from rfl), ea, bind_ok]
theorem set_self {o : O} (h : S[n]? = some o) : S.set n o = S := by
  obtain ⟨hl, e⟩ := List.getElem?_eq_some_iff.mp h
  rw [← e]
  exact List.set_getElem_self hl
theorem set_left {A B : Sto} {o : O} (h : n < A.length) : (A ++ B).set n o = A.set n o ++ B := by rw [List.set_append, if_pos h]
theorem set_mid {A B : Sto} {o o' : O} : (A ++ o :: B).set A.length o' = A ++ o' :: B := by simp [List.set_append]
theorem get_mid {A B : Sto} {o : O} : (A ++ o :: B)[A.length]? = some o := by rw [List.getElem?_append_right (Nat.le_refl _)]; simp
end
noncomputable def Iv (m : Cm) : Prop := ∀ k z, valV m k = some z → ∃ i, z = V.int i
noncomputable def szD (M : Mv) : D := .tup [.int (M.w : Int), .int (M.h : Int)]
noncomputable def stD (M : Mv) : D := .tup [.int M.a, .int M.b, .int M.u, .int M.v]
theorem fresh_at {m : Cm} {i : Nat} {kv : (Int × Int) × V} (nd : Nd m) (h : m[i]? = some kv) (p : (Int × Int) × V → Bool) : valV ((m.take i).filter p) kv.1 = none := by
  cases e : valV ((m.take i).filter p) kv.1 with
  | none => rfl
  | some z =>
    have k := key_iff.mpr (show (valV ((m.take i).filter p) kv.1).isSome = true by rw [e]; rfl)
    obtain ⟨t, h1, h2⟩ := List.mem_map.mp k
    obtain ⟨j, hj, ej⟩ := List.mem_iff_getElem.mp (List.mem_filter.mp h1).1
    have hj' : j < i := by rw [List.length_take] at hj; omega
    have e1 : m[j]? = some t := by
      rw [List.getElem_take] at ej
      rw [← ej]
      exact List.getElem?_eq_getElem _
    have := nodup_at nd (i := j) (j := i) (x := kv.1) (by rw [List.getElem?_map, e1, ← h2]; rfl) (by rw [List.getElem?_map, h]; rfl)
    omega
theorem mv_lift (n : Nat) {S : Sto} {c : Nat} (M : Mv) (hc : S[c]? = some (.dit (cD M.m))) (nd : Nd M.m) (iv : Iv M.m) (hl : M.m.length ≤ 100) :
    ∃ z6, exSs G (callD G T (n + 1)) [.for_ 6 (.val (.v 0)) [.ite (.not (.call "lies_in" [(.v 6), (.v 2)])) [.sto (.v 5) (.v 6) (.call "copied" [(.idx (.v 0) (.v 6))])] []]] [some (.ref c), some (szD M), some (stD M), some (.int M.x), some (.int M.y), some (.ref S.length), none, none] (S ++ [O.dit []]) =
      .next [some (.ref c), some (szD M), some (stD M), some (.int M.x), some (.int M.y), some (.ref S.length), z6, none] (S ++ [O.dit (cD M.lift)]) := by
  have cl := (List.getElem?_eq_some_iff.mp hc).1
  have lp := ex_forK (G := G) (Φ := callD G T (n + 1)) (v := 6) (e := .v 0) (n := c) (b := [.ite (.not (.call "lies_in" [(.v 6), (.v 2)])) [.sto (.v 5) (.v 6) (.call "copied" [(.idx (.v 0) (.v 6))])] []]) (kvs := cD M.m) (δ := [some (.ref c), some (szD M), some (stD M), some (.int M.x), some (.int M.y), some (.ref S.length), none, none]) (S := S ++ [O.dit []]) (S0 := S ++ [O.dit []])
    (fun i δ' S' => ∃ z6, δ' = [some (.ref c), some (szD M), some (stD M), some (.int M.x), some (.int M.y), some (.ref S.length), z6, none] ∧ S' = S.set c (.fdt (cD M.m)) ++ [O.dit (cD ((M.m.take i).filter fun kv : (Int × Int) × V => !M.st kv.1))]) (by rw [ev]; rfl) (app_l hc) (by rw [cD_len]; exact Nat.le_trans hl (by decide)) ⟨none, rfl, by rw [set_left cl]; rfl⟩ (fun i δ' S' d q hd => by
      obtain ⟨z6, rfl, rfl⟩ := q
      unfold cD at hd
      rw [List.map_map, List.getElem?_map] at hd
      obtain ⟨kv, hm, rfl⟩ := Option.map_eq_some_iff.mp hd
      have hv := nd_val nd (List.mem_of_getElem? hm)
      obtain ⟨zi, hz⟩ := iv _ _ hv
      have ht : M.m.take (i + 1) = M.m.take i ++ [kv] := by rw [List.take_add_one, hm]; rfl
      have fr := fresh_at nd hm fun kv => !M.st kv.1
      have sl : (S.set c (.fdt (cD M.m))).length = S.length := List.length_set
      have tl : ((M.m.take i).filter fun kv : (Int × Int) × V => !M.st kv.1).length < lim := Nat.lt_of_le_of_lt (List.length_filter_le _ _) (by rw [List.length_take]; exact Nat.lt_of_le_of_lt (Nat.min_le_right _ _) (Nat.lt_of_le_of_lt hl (by decide)))
      have g1 : (S.set c (.fdt (cD M.m)) ++ [O.dit (cD ((M.m.take i).filter fun kv : (Int × Int) × V => !M.st kv.1))])[S.length]? = some (.dit (cD ((M.m.take i).filter fun kv : (Int × Int) × V => !M.st kv.1))) := by
        have := getElem?_snoc (S.set c (.fdt (cD M.m))) (O.dit (cD ((M.m.take i).filter fun kv : (Int × Int) × V => !M.st kv.1)))
        rw [sl] at this
        exact this
      have g2 : (S.set c (.fdt (cD M.m)) ++ [O.dit (cD ((M.m.take i).filter fun kv : (Int × Int) × V => !M.st kv.1))])[c]? = some (.fdt (cD M.m)) := app_l (List.getElem?_set_self cl)
      have ix := cget (dtR_fz g2) hv
      have st := cput (p := kv.1) g1 tl kv.2
      rw [putK_new _ fr] at st
      have es : (S.set c (.fdt (cD M.m)) ++ [O.dit (cD ((M.m.take i).filter fun kv : (Int × Int) × V => !M.st kv.1))]).set S.length (.dit (cD ((M.m.take i).filter (fun kv : (Int × Int) × V => !M.st kv.1) ++ [(kv.1, kv.2)]))) = S.set c (.fdt (cD M.m)) ++ [O.dit (cD ((M.m.take i).filter (fun kv : (Int × Int) × V => !M.st kv.1) ++ [kv]))] := by
        have := set_mid (A := S.set c (.fdt (cD M.m))) (B := []) (o := .dit (cD ((M.m.take i).filter fun kv : (Int × Int) × V => !M.st kv.1))) (o' := .dit (cD ((M.m.take i).filter (fun kv : (Int × Int) × V => !M.st kv.1) ++ [(kv.1, kv.2)])))
        rw [sl] at this
        exact this
      rw [es] at st
      have li := r_lies n (S.set c (.fdt (cD M.m)) ++ [O.dit (cD ((M.m.take i).filter fun kv : (Int × Int) × V => !M.st kv.1))]) kv.1 M.a M.b M.u M.v
      have li' : inR M.a M.b M.u M.v kv.1 = M.st kv.1 := rfl
      rw [li'] at li
      have co := r_copied_int n (S.set c (.fdt (cD M.m)) ++ [O.dit (cD ((M.m.take i).filter fun kv : (Int × Int) × V => !M.st kv.1))]) zi
      rw [hz] at ix
      have vz : vD kv.2 = .int zi := by rw [hz]; rfl
      rw [vz] at st
      have vz' : vD (.int zi) = .int zi := rfl
      rw [vz'] at ix
      refine ⟨[some (.ref c), some (szD M), some (stD M), some (.int M.x), some (.int M.y), some (.ref S.length), some (kd kv.1), none], _, ?_, some (kd kv.1), rfl, rfl⟩
      rw [ht, List.filter_append]
      show exSs G (callD G T (n + 1)) [_] [some (.ref c), some (szD M), some (.tup [.int M.a, .int M.b, .int M.u, .int M.v]), some (.int M.x), some (.int M.y), some (.ref S.length), some (kd kv.1), none] _ = _
      unfold stD
      cases hs : M.st kv.1 with
      | true =>
        rw [List.filter_cons_of_neg (by rw [hs]; decide), List.filter_nil, List.append_nil]
        rw [hs] at li
        clear st es g1 g2 ix co vz vz' hz hv fr tl hd hm ht sl cl hc nd iv hl hs li'
        generalize S.set c (.fdt (cD M.m)) ++ [O.dit (cD ((M.m.take i).filter fun kv : (Int × Int) × V => !M.st kv.1))] = S1 at *
        generalize szD M = sz
        walk_at "exh"
      | false =>
        rw [List.filter_cons_of_pos (by rw [hs]; rfl), List.filter_nil]
        rw [hs] at li
        clear es g1 g2 vz vz' hz hv fr tl hd hm ht sl cl hc nd iv hl hs li'
        generalize S.set c (.fdt (cD M.m)) ++ [O.dit (cD ((M.m.take i).filter (fun kv : (Int × Int) × V => !M.st kv.1) ++ [kv]))] = S2 at *
        generalize S.set c (.fdt (cD M.m)) ++ [O.dit (cD ((M.m.take i).filter fun kv : (Int × Int) × V => !M.st kv.1))] = S1 at *
        generalize szD M = sz
        generalize kd kv.1 = dk at *
        walk_at "exh")
  obtain ⟨δ', S', lp, z6, rfl, rfl⟩ := lp
  refine ⟨z6, ?_⟩
  rw [lp, cD_len, List.take_length, set_left (by rw [List.length_set]; exact cl), List.set_set, set_self hc]
  rfl
theorem fMt_extend {δ : Dv} {S S1 S2 : Sto} {n m : Nat} {fo : Fd} {fa : Fa} {xs zs : List D} (e : fo δ S = .ok (.ref n) S1) (h : S1[n]? = some (.lst xs)) (ea : fa δ S1 = .ok [.ref m] S2) (h2 : S2[n]? = some (.lst xs)) (h3 : S2[m]? = some (.lst zs)) (hl : xs.length + zs.length ≤ lim) : fMt .extend fo fa δ S = .ok .non (S2.set n (.lst (xs ++ zs))) := by
  unfold fMt
  rw [e, bind_ok, isLstR_ref h, if_pos rfl, ea, bind_ok]
  show (match S2[n]? with | some (.lst xs) => (match S2[m]? with | some (.lst zs) => (if xs.length + zs.length ≤ lim then R.ok D.non (S2.set n (O.lst (xs ++ zs))) else .fail) | _ => .fail) | _ => .fail) = _
  rw [h2]
  dsimp only
  rw [h3]
  exact if_pos hl
theorem cells_take (w i : Nat) : (cellsP w (i + 1)).map kd = (cellsP w i).map kd ++ ((List.range w).map fun x : Nat => kd ((x : Int), (i : Int))) := by
  unfold cellsP
  rw [List.range_succ, List.flatMap_append, List.map_append]
  congr 1
  simp
theorem cells_len (w h : Nat) : (cellsP w h).length = h * w := by
  unfold cellsP
  induction h with
  | zero => simp
  | succ h ih =>
    rw [List.range_succ, List.flatMap_append, List.length_append, ih]
    simp [Nat.succ_mul]
theorem r_cells_of (n : Nat) (S : Sto) {w h : Nat} (hw : w ≤ 12) (hh : h ≤ 12) : ∃ J, callD G T (n + 1) "cells_of" [.tup [.int (w : Int), .int (h : Int)]] S = .ok (.ref S.length) (S ++ .lst ((cellsP w h).map kd) :: J) := by
  have lp := ex_forI (G := G) (Φ := callD G T n) (v := 2) (it := .rg1 (.idx (.v 0) (.k (.int 1)))) (b := [.expr (.mt .extend (.v 1) [(.comp 3 1 (.tup [(.v 3), (.v 2)]) (.rg1 (.idx (.v 0) (.k (.int 0)))))])]) (t := .its ((List.range h).map fun i => D.int (0 + (i : Nat)))) (ds := (List.range h).map fun i => D.int (0 + (i : Nat))) (δ := [some (.tup [.int (w : Int), .int (h : Int)]), some (.ref S.length), none]) (S := S ++ [.lst []]) (S0 := S ++ [.lst []])
    (fun i δ' S' => i ≤ h ∧ ∃ z2 J, δ' = [some (.tup [.int (w : Int), .int (h : Int)]), some (.ref S.length), z2] ∧ S' = S ++ .lst ((cellsP w i).map kd) :: J) (by
      rw [evI]
      refine it_rg1 (n := h) ?_ (by omega)
      walk_at "ex") (by rw [List.length_map, List.length_range]; exact Nat.le_trans hh (by decide)) (fun _ _ _ _ => rfl) ⟨Nat.zero_le _, none, [], rfl, rfl⟩ (fun i δ' S' d q hd => by
      obtain ⟨hi, z2, J, rfl, rfl⟩ := q
      rw [List.getElem?_map] at hd
      obtain ⟨i', hi', rfl⟩ := Option.map_eq_some_iff.mp hd
      have hlt : i < h := by simpa using (List.getElem?_eq_some_iff.mp hi').1
      rw [List.getElem?_range hlt] at hi'
      cases hi'
      have cf := comp_flat (t := .its ((List.range w).map fun i => D.int (0 + (i : Nat)))) (ds := (List.range w).map fun i => D.int (0 + (i : Nat))) (fi := evI G (callD G T n) (.rg1 (.idx (.v 0) (.k (.int 0))))) (δ := [some (.tup [.int (w : Int), .int (h : Int)]), some (.ref S.length), some (.int (0 + (i : Nat)))]) (S := S ++ .lst ((cellsP w i).map kd) :: J) (S0 := S ++ .lst ((cellsP w i).map kd) :: J) (n := 1) (i := 3) (g := gSet 3) (c := none) (f := ev G (callD G T n) (.tup [(.v 3), (.v 2)]))
        (fun _ => true) (fun d => .tup [d, .int (0 + (i : Nat))]) (by
          rw [evI]
          refine it_rg1 (n := w) ?_ (by omega)
          generalize S ++ .lst ((cellsP w i).map kd) :: J = S1
          walk_at "ex") rfl (by rw [List.length_map, List.length_range]; exact Nat.le_trans hw (by decide)) (fun d hd => by
          refine ⟨[some (.tup [.int (w : Int), .int (h : Int)]), some (.ref S.length), some (.int (0 + (i : Nat))), some d], rfl, rfl, fun _ => ?_⟩
          generalize S ++ .lst ((cellsP w i).map kd) :: J = S1
          walk_at "ex")
      rw [List.filter_eq_self.mpr (fun _ _ => rfl), List.map_map] at cf
      have er : ((List.range w).map ((fun d => D.tup [d, .int (0 + (i : Nat))]) ∘ fun i => D.int (0 + (i : Nat)))) = (List.range w).map fun x : Nat => kd ((x : Int), (i : Int)) := by
        apply List.map_congr_left
        intro x _
        show D.tup [.int (0 + (x : Int)), .int (0 + (i : Int))] = .tup [.int (x : Int), .int (i : Int)]
        rw [Int.zero_add, Int.zero_add]
      rw [er] at cf
      have ln : ((cellsP w i).map kd).length + ((List.range w).map fun x : Nat => kd ((x : Int), (i : Int))).length ≤ lim := by
        rw [List.length_map, cells_len, List.length_map, List.length_range]
        have : i * w ≤ 12 * 12 := Nat.mul_le_mul (by omega) hw
        exact Nat.le_trans (show i * w + w ≤ 1000 by omega) (by decide)
      have ext := fMt_extend (δ := [some (.tup [.int (w : Int), .int (h : Int)]), some (.ref S.length), some (.int (0 + (i : Nat)))]) (S := S ++ .lst ((cellsP w i).map kd) :: J) (fo := ev G (callD G T n) (.v 1)) (fa := evs G (callD G T n) [(.comp 3 1 (.tup [(.v 3), (.v 2)]) (.rg1 (.idx (.v 0) (.k (.int 0)))))]) (n := S.length) (m := (S ++ .lst ((cellsP w i).map kd) :: J).length) (xs := (cellsP w i).map kd) (zs := (List.range w).map fun x : Nat => kd ((x : Int), (i : Int))) (by rw [ev]; rfl) get_mid (by
          rw [evs, evs, ev]
          unfold aCons aNil
          rw [cf]
          rfl) (app_l get_mid) (getElem?_snoc _ _) ln
      refine ⟨[some (.tup [.int (w : Int), .int (h : Int)]), some (.ref S.length), some (.int (0 + (i : Nat)))], _, ?_, by omega, some (.int (0 + (i : Nat))), J ++ [.lst ((List.range w).map fun x : Nat => kd ((x : Int), (i : Int)))], rfl, rfl⟩
      show exSs G (callD G T n) [.expr (.mt .extend _ _)] _ _ = _
      rw [exSs, exS, sSeq, sExpr, ev]
      show ((fMt .extend _ _ [some (.tup [.int (w : Int), .int (h : Int)]), some (.ref S.length), some (.int (0 + (i : Nat)))] (S ++ .lst ((cellsP w i).map kd) :: J)).toS _ _).bind _ = _
      rw [ext, cells_take]
      show RS.next _ _ = _
      refine congrArg (RS.next _) ?_
      rw [List.append_assoc, List.cons_append, set_mid])
  obtain ⟨δ', S', lp, _, z2, J, rfl, rfl⟩ := lp
  rw [List.length_map, List.length_range] at lp
  refine ⟨J, call_ref T_cells_of rfl rfl ?_⟩
  have ec : c_cells_of = [.set 1 (.lst [])] ++ ([.for_ 2 (.rg1 (.idx (.v 0) (.k (.int 1)))) [.expr (.mt .extend (.v 1) [(.comp 3 1 (.tup [(.v 3), (.v 2)]) (.rg1 (.idx (.v 0) (.k (.int 0)))))])]] ++ [.ret (.v 1)]) := rfl
  show exSs G (callD G T n) c_cells_of [some (.tup [.int (w : Int), .int (h : Int)]), none, none] S = _
  rw [ec]
  have a : exSs G (callD G T n) [.set 1 (.lst [])] [some (.tup [.int (w : Int), .int (h : Int)]), none, none] S = .next [some (.tup [.int (w : Int), .int (h : Int)]), some (.ref S.length), none] (S ++ [.lst []]) := by walk_at "ex"
  rw [exSs_app, a, seq_next, exSs_app, lp, seq_next]
  generalize S ++ .lst ((cellsP w h).map kd) :: J = S1
  walk_at "ex"
theorem step_len (M : Mv) (t : Cm) (c : Int × Int) : (M.step t c).length ≤ t.length + 1 := by
  unfold Mv.step
  split
  · split
    · exact length_putK _ _ _
    · exact Nat.le_trans (List.length_filter_le _ _) (Nat.le_succ _)
  · exact Nat.le_succ _
noncomputable def setB : Sx := .set 7 (.tup [(.bin .add (.idx (.v 6) (.k (.int 0))) (.v 3)), (.bin .add (.idx (.v 6) (.k (.int 1))) (.v 4))])
noncomputable def putB : Sx := .ite (.and (.call "lies_in" [(.v 6), (.v 2)]) (.call "lies_in" [(.v 7), (.tup [(.k (.int 0)), (.k (.int 0)), (.idx (.v 1) (.k (.int 0))), (.idx (.v 1) (.k (.int 1)))])])) [.ite (.cmp .isin (.v 6) (.v 0)) [.sto (.v 5) (.v 7) (.call "copied" [(.idx (.v 0) (.v 6))])] [.expr (.mt .pop (.v 5) [(.v 7), (.k .non)])]] []
section
variable {Φ : Phi} {S S2 : Sto} {c n : Nat} {dq dg st x y : D} {w h zi : Int}
theorem puts_set {q : Int × Int} {a b z : Option D} {i j : Int} {r : D} : exSs G Φ [setB] [a, b, some st, some (.int i), some (.int j), some r, some (kd q), z] S = .next [a, b, some st, some (.int i), some (.int j), some r, some (kd q), some (kd (q.1 + i, q.2 + j))] S := by
  unfold setB kd
  walk_at "ex"
theorem puts_no1 {a b : Option D} (l1 : Φ "lies_in" [dq, st] S = .ok (.bl false) S) : exSs G Φ [putB] [a, b, some st, some x, some y, some (.ref n), some dq, some dg] S = .next [a, b, some st, some x, some y, some (.ref n), some dq, some dg] S := by
  unfold putB
  walk_at "exh"
theorem puts_no2 {a : Option D} (l1 : Φ "lies_in" [dq, st] S = .ok (.bl true) S) (l2 : Φ "lies_in" [dg, .tup [.int 0, .int 0, .int w, .int h]] S = .ok (.bl false) S) : exSs G Φ [putB] [a, some (.tup [.int w, .int h]), some st, some x, some y, some (.ref n), some dq, some dg] S = .next [a, some (.tup [.int w, .int h]), some st, some x, some y, some (.ref n), some dq, some dg] S := by
  unfold putB
  walk_at "exh"
theorem puts_in (l1 : Φ "lies_in" [dq, st] S = .ok (.bl true) S) (l2 : Φ "lies_in" [dg, .tup [.int 0, .int 0, .int w, .int h]] S = .ok (.bl true) S) (im : memB false dq (.ref c) S = .ok (.bl true) S) (ix : idxF (.ref c) dq S = .ok (.int zi) S) (co : Φ "copied" [.int zi] S = .ok (.int zi) S) (so : stoB (.ref n) dg (.int zi) S = some S2) :
    exSs G Φ [putB] [some (.ref c), some (.tup [.int w, .int h]), some st, some x, some y, some (.ref n), some dq, some dg] S = .next [some (.ref c), some (.tup [.int w, .int h]), some st, some x, some y, some (.ref n), some dq, some dg] S2 := by
  unfold putB
  walk_at "exh"
theorem puts_out {kvs : List (D × D)} {v : D} (l1 : Φ "lies_in" [dq, st] S = .ok (.bl true) S) (l2 : Φ "lies_in" [dg, .tup [.int 0, .int 0, .int w, .int h]] S = .ok (.bl true) S) (im : memB false dq (.ref c) S = .ok (.bl false) S) (g1 : S[n]? = some (.dit kvs)) (pp : tmtD .pop (.ref n) [dg, .non] S = .ok v S2) :
    exSs G Φ [putB] [some (.ref c), some (.tup [.int w, .int h]), some st, some x, some y, some (.ref n), some dq, some dg] S = .next [some (.ref c), some (.tup [.int w, .int h]), some st, some x, some y, some (.ref n), some dq, some dg] S2 := by
  have px : exSs G Φ [.expr (.mt .pop (.v 5) [(.v 7), (.k .non)])] [some (.ref c), some (.tup [.int w, .int h]), some st, some x, some y, some (.ref n), some dq, some dg] S = .next [some (.ref c), some (.tup [.int w, .int h]), some st, some x, some y, some (.ref n), some dq, some dg] S2 := by
    rw [exSs, exS, sSeq, sExpr, ev]
    rw [mtX_pop2 (n := n) (kvs := kvs) (S1 := S) (S2 := S) (es := [dg, .non]) (by rw [ev]; rfl) g1 (by rw [evs, evs, evs, ev, ev]; rfl), pp]
    rfl
  unfold putB
  generalize [Sx.expr (.mt .pop (.v 5) [(.v 7), (.k .non)])] = B at *
  clear g1 pp
  walk_at "exh"
end
theorem puts_step (n : Nat) {S R : Sto} {c : Nat} (M : Mv) {t : Cm} (hc : S[c]? = some (.dit (cD M.m))) (iv : Iv M.m) (ht : t.length < lim) (q : Int × Int) (z7 : Option D) :
    exSs G (callD G T (n + 1)) [setB, putB] [some (.ref c), some (szD M), some (stD M), some (.int M.x), some (.int M.y), some (.ref S.length), some (kd q), z7] (S ++ O.dit (cD t) :: R) =
      .next [some (.ref c), some (szD M), some (stD M), some (.int M.x), some (.int M.y), some (.ref S.length), some (kd q), some (kd (M.to q))] (S ++ O.dit (cD (M.step t q)) :: R) := by
  have g1 : (S ++ O.dit (cD t) :: R)[S.length]? = some (.dit (cD t)) := get_mid
  have g2 : (S ++ O.dit (cD t) :: R)[c]? = some (.dit (cD M.m)) := app_l hc
  have l1 := r_lies n (S ++ O.dit (cD t) :: R) q M.a M.b M.u M.v
  have l2 := r_lies n (S ++ O.dit (cD t) :: R) (M.to q) 0 0 M.w M.h
  rw [show inR M.a M.b M.u M.v q = M.st q from rfl] at l1
  rw [show inR 0 0 M.w M.h (M.to q) = M.pic (M.to q) from rfl] at l2
  have im := cin (p := q) (dtR_at g2)
  show exSs G (callD G T (n + 1)) ([setB] ++ [putB]) _ _ = _
  rw [exSs_app, puts_set, seq_next]
  unfold Mv.step
  cases h1 : M.st q with
  | false =>
    rw [h1] at l1
    rw [if_neg (by simp)]
    exact puts_no1 l1
  | true =>
    rw [h1] at l1
    cases h2 : M.pic (M.to q) with
    | false =>
      rw [h2] at l2
      rw [if_neg (by simp)]
      exact puts_no2 l1 l2
    | true =>
      rw [h2] at l2
      rw [if_pos (by simp)]
      cases hv : valV M.m q with
      | some z =>
        obtain ⟨zi, rfl⟩ := iv _ _ hv
        rw [hv] at im
        refine puts_in (zi := zi) l1 l2 im (cget (dtR_at g2) hv) (r_copied_int n _ zi) ?_
        have s1 := cput (p := M.to q) g1 ht (.int zi)
        rw [set_mid] at s1
        exact s1
      | none =>
        rw [hv] at im
        have pp := cpop (p := M.to q) g1
        rw [set_mid] at pp
        exact puts_out l1 l2 im g1 pp
theorem puts_loop {Φ : Phi} {S J : Sto} {c : Nat} (M : Mv) {t : Cm} (hw : M.w ≤ 12) (hh : M.h ≤ 12) (ht : t.length ≤ 100) (z6 : Option D) (cs : Φ "cells_of" [szD M] (S ++ [O.dit (cD t)]) = .ok (.ref (S.length + 1)) (S ++ O.dit (cD t) :: .lst ((cellsP M.w M.h).map kd) :: J))
    (step : ∀ (t : Cm) (q : Int × Int) (z7 : Option D), t.length < lim → exSs G Φ [setB, putB] [some (.ref c), some (szD M), some (stD M), some (.int M.x), some (.int M.y), some (.ref S.length), some (kd q), z7] (S ++ O.dit (cD t) :: .lst ((cellsP M.w M.h).map kd) :: J) =
      .next [some (.ref c), some (szD M), some (stD M), some (.int M.x), some (.int M.y), some (.ref S.length), some (kd q), some (kd (M.to q))] (S ++ O.dit (cD (M.step t q)) :: .lst ((cellsP M.w M.h).map kd) :: J)) :
    ∃ y6 y7 R, exSs G Φ [.for_ 6 (.val (.call "cells_of" [(.v 1)])) [setB, putB]]
      [some (.ref c), some (szD M), some (stD M), some (.int M.x), some (.int M.y), some (.ref S.length), z6, none] (S ++ [O.dit (cD t)]) =
      .next [some (.ref c), some (szD M), some (stD M), some (.int M.x), some (.int M.y), some (.ref S.length), y6, y7] (S ++ O.dit (cD ((cellsP M.w M.h).foldl M.step t)) :: R) := by
  have rg : ∀ X : O, (S ++ X :: .lst ((cellsP M.w M.h).map kd) :: J)[S.length + 1]? = some (.lst ((cellsP M.w M.h).map kd)) := fun X => by
    rw [List.getElem?_append_right (by omega)]
    simp
  have lp := ex_forI (G := G) (Φ := Φ) (v := 6) (it := .val (.call "cells_of" [(.v 1)])) (b := [setB, putB]) (t := .lref (S.length + 1)) (ds := (cellsP M.w M.h).map kd) (δ := [some (.ref c), some (szD M), some (stD M), some (.int M.x), some (.int M.y), some (.ref S.length), z6, none]) (S := S ++ [O.dit (cD t)]) (S0 := S ++ O.dit (cD t) :: .lst ((cellsP M.w M.h).map kd) :: J)
    (fun i δ' S' => (((cellsP M.w M.h).take i).foldl M.step t).length ≤ t.length + i ∧ ∃ z6 z7, δ' = [some (.ref c), some (szD M), some (stD M), some (.int M.x), some (.int M.y), some (.ref S.length), z6, z7] ∧ S' = S ++ O.dit (cD (((cellsP M.w M.h).take i).foldl M.step t)) :: .lst ((cellsP M.w M.h).map kd) :: J) (by
      rw [evI]
      refine iVal_ref (ds := (cellsP M.w M.h).map kd) ?_ (rg _)
      rw [ev, evs, evs, ev]
      unfold fCall aCons aNil getV
      simp only [List.getElem?_cons_succ, List.getElem?_cons_zero, bind_ok]
      exact cs) (by rw [List.length_map, cells_len]; exact Nat.le_trans (Nat.mul_le_mul hh hw) (by decide)) (fun i δ' S' q => by obtain ⟨_, _, _, _, rfl⟩ := q; exact cur_lref (rg _)) ⟨by simp, z6, none, rfl, rfl⟩ (fun i δ' S' d q hd => by
      obtain ⟨hlen, z6, z7, rfl, rfl⟩ := q
      rw [List.getElem?_map] at hd
      obtain ⟨q, hq, rfl⟩ := Option.map_eq_some_iff.mp hd
      have hi : i < 144 := by
        have := (List.getElem?_eq_some_iff.mp hq).1
        rw [cells_len] at this
        have : M.h * M.w ≤ 12 * 12 := Nat.mul_le_mul hh hw
        omega
      have tk : (cellsP M.w M.h).take (i + 1) = (cellsP M.w M.h).take i ++ [q] := by rw [List.take_add_one, hq]; rfl
      rw [tk, List.foldl_append, List.foldl_cons, List.foldl_nil]
      exact ⟨_, _, step _ q z7 (Nat.lt_of_le_of_lt (show _ ≤ 1000 by omega) (by decide)), Nat.le_trans (step_len M _ q) (by omega), _, _, rfl, rfl⟩)
  obtain ⟨δ', S', lp, _, y6, y7, rfl, rfl⟩ := lp
  rw [List.length_map, List.take_length] at lp
  exact ⟨y6, y7, _, lp⟩
theorem mv_puts (n : Nat) {S : Sto} {c : Nat} (M : Mv) {t : Cm} (hc : S[c]? = some (.dit (cD M.m))) (iv : Iv M.m) (hw : M.w ≤ 12) (hh : M.h ≤ 12) (ht : t.length ≤ 100) (z6 : Option D) :
    ∃ y6 y7 R, exSs G (callD G T (n + 1)) [.for_ 6 (.val (.call "cells_of" [(.v 1)])) [setB, putB]]
      [some (.ref c), some (szD M), some (stD M), some (.int M.x), some (.int M.y), some (.ref S.length), z6, none] (S ++ [O.dit (cD t)]) =
      .next [some (.ref c), some (szD M), some (stD M), some (.int M.x), some (.int M.y), some (.ref S.length), y6, y7] (S ++ O.dit (cD ((cellsP M.w M.h).foldl M.step t)) :: R) := by
  obtain ⟨J, cs⟩ := r_cells_of n (S ++ [O.dit (cD t)]) hw hh
  have sl : (S ++ [O.dit (cD t)]).length = S.length + 1 := by simp
  have e1 : S ++ [O.dit (cD t)] ++ .lst ((cellsP M.w M.h).map kd) :: J = S ++ O.dit (cD t) :: .lst ((cellsP M.w M.h).map kd) :: J := by simp
  rw [sl, e1] at cs
  exact puts_loop M hw hh ht z6 cs fun t q z7 h => puts_step n M hc iv h q z7
theorem r_moved (n : Nat) {S : Sto} {c : Nat} (M : Mv) (hc : S[c]? = some (.dit (cD M.m))) (nd : Nd M.m) (iv : Iv M.m) (hl : M.m.length ≤ 100) (hw : M.w ≤ 12) (hh : M.h ≤ 12) :
    ∃ R, callD G T (n + 2) "moved" [.ref c, szD M, stD M, .int M.x, .int M.y] S = .ok (.ref S.length) (S ++ .dit (cD ((cellsP M.w M.h).foldl M.step M.lift)) :: R) := by
  obtain ⟨z6, a⟩ := mv_lift n M hc nd iv hl
  obtain ⟨y6, y7, R, b⟩ := mv_puts n M (t := M.lift) hc iv hw hh (Nat.le_trans (List.length_filter_le _ _) hl) z6
  refine ⟨R, call_ref T_moved rfl rfl ?_⟩
  show exSs G (callD G T (n + 1)) ([.set 5 .dnewT] ++ ([.for_ 6 (.val (.v 0)) [.ite (.not (.call "lies_in" [(.v 6), (.v 2)])) [.sto (.v 5) (.v 6) (.call "copied" [(.idx (.v 0) (.v 6))])] []]] ++ ([.for_ 6 (.val (.call "cells_of" [(.v 1)])) [setB, putB]] ++ [.ret (.v 5)]))) [some (.ref c), some (szD M), some (stD M), some (.int M.x), some (.int M.y), none, none, none] S = _
  have a0 : exSs G (callD G T (n + 1)) [.set 5 .dnewT] [some (.ref c), some (szD M), some (stD M), some (.int M.x), some (.int M.y), none, none, none] S = .next [some (.ref c), some (szD M), some (stD M), some (.int M.x), some (.int M.y), some (.ref S.length), none, none] (S ++ [O.dit []]) := by
    rw [exSs, exS, sSeq, ev]
    rfl
  rw [exSs_app, a0, seq_next, exSs_app, a, seq_next, exSs_app, b, seq_next]
  rw [exSs, exS, sSeq, ev]
  rfl
theorem r_lcells (n : Nat) (ns : List Int) (hns : ns.length ≤ 63) {w h : Nat} (hw : 0 < w) (hh : 0 < h) : ∃ m J, callD G T (n + 1) "_law_cells" [.rol (ns.map D.int), .int (w : Int), .int (h : Int)] [] = .ok (.ref 0) (.dit (cD m) :: J) ∧ Nd m ∧ Iv m ∧ m.length ≤ 100 ∧ ∀ k, (valV m k).isSome = true → inR 0 0 w h k = true := by
  obtain ⟨cut, hcut⟩ : ∃ cut, cut = cutD (ns.map D.int) (some 4) (some 44) := ⟨_, rfl⟩
  have cl : cut.length ≤ 63 := by
    rw [hcut]
    unfold cutD
    rw [List.length_take, List.length_drop, List.length_map]
    omega
  have ci : ∀ d ∈ cut, ∃ v, d = .int v := fun d hd => by
    rw [hcut] at hd
    unfold cutD at hd
    obtain ⟨v, _, rfl⟩ := List.mem_map.mp (List.mem_of_mem_drop (List.mem_of_mem_take hd))
    exact ⟨v, rfl⟩
  have sl : slD (some 4) (some 44) (.rol (ns.map D.int)) [.dit []] = .ok (.ref 1) [.dit [], .lst cut] := by
    show mkLst (cutD (ns.map D.int) (some 4) (some 44)) [.dit []] = _
    rw [← hcut]
    exact if_pos (Nat.le_trans cl (by decide))
  generalize ns.map D.int = L at *
  clear hcut hns
  have p6 : (10 : Int) ^ (6 : Int).toNat = 1000000 := by decide
  have lp := ex_forI (G := G) (Φ := callD G T n) (v := 4) (it := .val (.sl (.v 0) (.k (.int 4)) (.k (.int 44)))) (b := [.stoT (.v 3) [(.bin .mod (.v 4) (.v 1)), (.bin .mod (.bin .fdiv (.v 4) (.k (.int 12))) (.v 2))] (.bin .mod (.bin .fdiv (.v 4) (.k (.int 144))) (.bin .pow (.k (.int 10)) (.k (.int 6))))]) (t := .lref 1) (ds := cut) (δ := [some (.rol L), some (.int (w : Int)), some (.int (h : Int)), some (.ref 0), none]) (S := [.dit []]) (S0 := [.dit [], .lst cut])
    (fun i δ' S' => ∃ z4 m, δ' = [some (.rol L), some (.int (w : Int)), some (.int (h : Int)), some (.ref 0), z4] ∧ S' = [.dit (cD m), .lst cut] ∧ Nd m ∧ Iv m ∧ m.length ≤ i ∧ ∀ k, (valV m k).isSome = true → inR 0 0 w h k = true) (by
      rw [evI]
      exact iVal_ref (ds := cut) (by rw [ev]; exact sl) rfl) (Nat.le_trans cl (by decide)) (fun i δ' S' q => by obtain ⟨_, _, _, rfl, _⟩ := q; rfl) ⟨none, [], rfl, rfl, List.nodup_nil, (fun _ _ z => nomatch z), Nat.le_refl _, (fun _ z => nomatch z)⟩ (fun i δ' S' d q hd => by
      obtain ⟨z4, m, rfl, rfl, nd, iv, ml, mk⟩ := q
      obtain ⟨v, rfl⟩ := ci d (List.mem_of_getElem? hd)
      have hi := (List.getElem?_eq_some_iff.mp hd).1
      have tp : tputD (.ref 0) [.int (v % (w : Int)), .int (v / 12 % (h : Int))] (.int (v / 144 % 1000000)) [.dit (cD m), .lst cut] = some [.dit (cD (putK m (v % (w : Int), v / 12 % (h : Int)) (.int (v / 144 % 1000000)))), .lst cut] := cputT (S := [.dit (cD m), .lst cut]) (n := 0) (p := (v % (w : Int), v / 12 % (h : Int))) rfl (Nat.lt_of_le_of_lt (show m.length ≤ 1000 by omega) (by decide)) (.int (v / 144 % 1000000))
      have w' : 0 < (w : Int) := by omega
      have h' : 0 < (h : Int) := by omega
      refine ⟨[some (.rol L), some (.int (w : Int)), some (.int (h : Int)), some (.ref 0), some (.int v)], _, ?_, some (.int v), putK m (v % (w : Int), v / 12 % (h : Int)) (.int (v / 144 % 1000000)), rfl, rfl, nd_put nd _ _, fun k z hz => ?_, Nat.le_trans (length_putK _ _ _) (by omega), fun k hk => ?_⟩
      · show exSs G (callD G T n) [_] [some (.rol L), some (.int (w : Int)), some (.int (h : Int)), some (.ref 0), some (.int v)] _ = _
        clear sl ci cl hd hi nd iv ml mk hw hh
        generalize (w : Int) = wi at *
        generalize (h : Int) = hi at *
        walk_at "exh"
      · rw [valV_put] at hz
        split at hz
        · exact ⟨_, (Option.some.inj hz).symm⟩
        · exact iv k z hz
      · rw [valV_put] at hk
        split at hk
        · rename_i e
          subst e
          rw [inR_iff]
          have a1 := Int.emod_nonneg v (show (w : Int) ≠ 0 by omega)
          have a2 := Int.emod_lt_of_pos v w'
          have b1 := Int.emod_nonneg (v / 12) (show (h : Int) ≠ 0 by omega)
          have b2 := Int.emod_lt_of_pos (v / 12) h'
          dsimp only
          omega
        · exact mk k hk)
  obtain ⟨δ', S', lp, z4, m, rfl, rfl, nd, iv, ml, mk⟩ := lp
  refine ⟨m, [.lst cut], call_ref T__law_cells rfl rfl ?_, nd, iv, by omega, mk⟩
  show exSs G (callD G T n) ([.set 3 .dnewT] ++ ([.for_ 4 (.val (.sl (.v 0) (.k (.int 4)) (.k (.int 44)))) [.stoT (.v 3) [(.bin .mod (.v 4) (.v 1)), (.bin .mod (.bin .fdiv (.v 4) (.k (.int 12))) (.v 2))] (.bin .mod (.bin .fdiv (.v 4) (.k (.int 144))) (.bin .pow (.k (.int 10)) (.k (.int 6))))]] ++ [.ret (.v 3)])) [some (.rol L), some (.int (w : Int)), some (.int (h : Int)), none, none] [] = _
  have a0 : exSs G (callD G T n) [.set 3 .dnewT] [some (.rol L), some (.int (w : Int)), some (.int (h : Int)), none, none] [] = .next [some (.rol L), some (.int (w : Int)), some (.int (h : Int)), some (.ref 0), none] [.dit []] := by
    rw [exSs, exS, sSeq, ev]
    rfl
  rw [exSs_app, a0, seq_next, exSs_app, lp, seq_next, exSs, exS, sSeq, ev]
  rfl
noncomputable def dueA : List Sx := [.set 8 (.tup [(.bin .sub (.v 6) (.v 3)), (.bin .sub (.v 7) (.v 4))]), .set 9 (.dget (.v 0) [(.tup [(.v 6), (.v 7)])]), .ite (.call "_law_within" [(.tup [(.v 6), (.v 7)]), (.v 2)]) [.set 9 (.k .non)] [], .ite (.and (.call "_law_within" [(.v 8), (.v 2)]) (.call "_law_within" [(.v 8), (.bin .add (.tup [(.k (.int 0)), (.k (.int 0))]) (.v 1))])) [.set 9 (.dget (.v 0) [(.v 8)])] []]
noncomputable def dueZ : Sx := .ite (.notN (.v 9)) [.stoT (.v 5) [(.v 6), (.v 7)] (.v 9)] []
noncomputable def optD (o : Option V) : D := (o.map vD).getD .non
theorem due_a (n : Nat) {S : Sto} {c : Nat} (M : Mv) (hc : S[c]? = some (.dit (cD M.m))) (q : Int × Int) (r : D) (z8 z9 : Option D) :
    exSs G (callD G T (n + 1)) dueA
      [some (.ref c), some (szD M), some (stD M), some (.int M.x), some (.int M.y), some r, some (.int q.1), some (.int q.2), z8, z9] S =
      .next [some (.ref c), some (szD M), some (stD M), some (.int M.x), some (.int M.y), some r, some (.int q.1), some (.int q.2), some (kd (M.fro q)), some (optD (M.due q))] S := by
  have w1 := r_within n S q M.a M.b M.u M.v
  have w2 := r_within n S (M.fro q) M.a M.b M.u M.v
  have w3 := r_within n S (M.fro q) 0 0 M.w M.h
  rw [show inR M.a M.b M.u M.v q = M.st q from rfl] at w1
  rw [show inR M.a M.b M.u M.v (M.fro q) = M.st (M.fro q) from rfl] at w2
  rw [show inR 0 0 M.w M.h (M.fro q) = M.pic (M.fro q) from rfl] at w3
  have g1 := cgetN (p := q) hc
  have g2 := cgetN (p := M.fro q) hc
  have dd := dit_at hc
  have ad : addD (.tup [.int 0, .int 0]) (.tup [.int (M.w : Int), .int (M.h : Int)]) S = .ok (.tup [.int 0, .int 0, .int (M.w : Int), .int (M.h : Int)]) S := by
    unfold addD
    exact if_pos (show 4 ≤ lim by decide)
  have ef : kd (M.fro q) = .tup [.int (q.1 - M.x), .int (q.2 - M.y)] := rfl
  have eq : kd q = .tup [.int q.1, .int q.2] := rfl
  have e1 : ((valV M.m q).map vD).getD .non = optD (valV M.m q) := rfl
  have e2 : ((valV M.m (M.fro q)).map vD).getD .non = optD (valV M.m (M.fro q)) := rfl
  rw [e1] at g1
  rw [e2] at g2
  rw [ef] at w2 w3 g2
  rw [eq] at w1 g1
  unfold Mv.due szD stD dueA
  rw [ef]
  have en : optD none = .non := rfl
  clear e1 e2 ef eq hc
  cases s2 : M.st (M.fro q) <;> cases s3 : M.pic (M.fro q) <;> cases s1 : M.st q <;> rw [s1] at w1 <;> rw [s2] at w2 <;> rw [s3] at w3 <;> simp only [Bool.and_true, Bool.and_false, Bool.false_eq_true, if_true, if_false] <;> (try rw [en]) <;> generalize optD (valV M.m q) = o1 at * <;> generalize optD (valV M.m (M.fro q)) = o2 at * <;> clear s1 s2 s3 en <;> walk_at "exh"
theorem due_b (n : Nat) {S : Sto} (M : Mv) {t : Cm} (q : Int × Int) (iv : Iv M.m) (ht : t.length < lim) (a b d e f h : Option D) :
    exSs G (callD G T (n + 1)) [dueZ] [a, b, d, e, f, some (.ref S.length), some (.int q.1), some (.int q.2), h, some (optD (M.due q))] (S ++ [O.dit (cD t)]) =
      .next [a, b, d, e, f, some (.ref S.length), some (.int q.1), some (.int q.2), h, some (optD (M.due q))] (S ++ [O.dit (cD (M.put t q))]) := by
  have iv' : ∀ z, M.due q = some z → ∃ i, z = V.int i := fun z hz => by
    unfold Mv.due at hz
    split at hz
    · exact iv _ z hz
    · split at hz
      · cases hz
      · exact iv _ z hz
  unfold Mv.put dueZ
  cases hd : M.due q with
  | none =>
    have en : optD none = .non := rfl
    rw [en]
    dsimp only
    clear iv' hd en
    generalize S ++ [O.dit (cD t)] = S1
    walk_at "ex"
    rfl
  | some z =>
    obtain ⟨i, rfl⟩ := iv' z hd
    have en : optD (some (.int i)) = .int i := rfl
    rw [en]
    dsimp only
    have tp := cputT (p := q) (getElem?_snoc S (.dit (cD t))) ht (.int i)
    rw [set_mid (B := [])] at tp
    rw [show vD (.int i) = .int i from rfl] at tp
    clear iv' hd en iv ht
    generalize S ++ [O.dit (cD t)] = S1 at *
    generalize S ++ [O.dit (cD (putK t q (.int i)))] = S2 at *
    walk_at "exh"
    rfl
theorem put_len (M : Mv) : ∀ (l : List (Int × Int)) (t : Cm), (l.foldl M.put t).length ≤ t.length + l.length
  | [], _ => Nat.le_refl _
  | c :: l, t => by
    rw [List.foldl_cons, List.length_cons]
    have h1 := put_len M l (M.put t c)
    have h2 : (M.put t c).length ≤ t.length + 1 := by
      unfold Mv.put
      split
      · exact length_putK _ _ _
      · exact Nat.le_succ _
    omega
theorem due_in (n : Nat) {S : Sto} {c i : Nat} (M : Mv) {t : Cm} (hc : S[c]? = some (.dit (cD M.m))) (iv : Iv M.m) (hh : M.h ≤ 12) (ht : t.length ≤ 200) (z7 z8 z9 : Option D) :
    ∃ y7 y8 y9, exSs G (callD G T (n + 1)) [.for_ 7 (.rg1 (.idx (.v 1) (.k (.int 1)))) (dueA ++ [dueZ])]
      [some (.ref c), some (szD M), some (stD M), some (.int M.x), some (.int M.y), some (.ref S.length), some (.int (0 + (i : Nat))), z7, z8, z9] (S ++ [O.dit (cD t)]) =
      .next [some (.ref c), some (szD M), some (stD M), some (.int M.x), some (.int M.y), some (.ref S.length), some (.int (0 + (i : Nat))), y7, y8, y9] (S ++ [O.dit (cD (((List.range M.h).map fun y : Nat => ((i : Int), (y : Int))).foldl M.put t))]) := by
  have lp := ex_forI (G := G) (Φ := callD G T (n + 1)) (v := 7) (it := .rg1 (.idx (.v 1) (.k (.int 1)))) (b := (dueA ++ [dueZ])) (t := .its ((List.range M.h).map fun i => D.int (0 + (i : Nat)))) (ds := (List.range M.h).map fun i => D.int (0 + (i : Nat))) (δ := [some (.ref c), some (szD M), some (stD M), some (.int M.x), some (.int M.y), some (.ref S.length), some (.int (0 + (i : Nat))), z7, z8, z9]) (S := S ++ [O.dit (cD t)]) (S0 := S ++ [O.dit (cD t)])
    (fun j δ' S' => ∃ z7 z8 z9, δ' = [some (.ref c), some (szD M), some (stD M), some (.int M.x), some (.int M.y), some (.ref S.length), some (.int (0 + (i : Nat))), z7, z8, z9] ∧ S' = S ++ [O.dit (cD (((List.range j).map fun y : Nat => ((i : Int), (y : Int))).foldl M.put t))]) (by
      rw [evI]
      refine it_rg1 (n := M.h) ?_ (by omega)
      unfold szD
      generalize S ++ [O.dit (cD t)] = S1
      generalize stD M = sd
      walk_at "ex") (by rw [List.length_map, List.length_range]; exact Nat.le_trans hh (by decide)) (fun _ _ _ _ => rfl) ⟨z7, z8, z9, rfl, rfl⟩ (fun j δ' S' d q hd => by
      obtain ⟨z7, z8, z9, rfl, rfl⟩ := q
      rw [List.getElem?_map] at hd
      obtain ⟨j', hj', rfl⟩ := Option.map_eq_some_iff.mp hd
      have hlt : j < M.h := by simpa using (List.getElem?_eq_some_iff.mp hj').1
      rw [List.getElem?_range hlt] at hj'
      cases hj'
      have ll := put_len M ((List.range j).map fun y : Nat => ((i : Int), (y : Int))) t
      rw [List.length_map, List.length_range] at ll
      rw [List.range_succ, List.map_append, List.foldl_append]
      show ∃ δ2 S2, _ ∧ ∃ y7 y8 y9, _ ∧ S2 = S ++ [O.dit (cD (M.put _ ((i : Int), (j : Int))))]
      generalize ((List.range j).map fun y : Nat => ((i : Int), (y : Int))).foldl M.put t = t1 at *
      have a := due_a n M (app_l (A := [.dit (cD t1)]) hc) ((i : Int), (j : Int)) (.ref S.length) z8 z9
      have b := due_b n (S := S) M (t := t1) ((i : Int), (j : Int)) iv (Nat.lt_of_le_of_lt (show t1.length ≤ 1000 by omega) (by decide)) (some (.ref c)) (some (szD M)) (some (stD M)) (some (.int M.x)) (some (.int M.y)) (some (kd (M.fro ((i : Int), (j : Int)))))
      rw [Int.zero_add, Int.zero_add]
      refine ⟨[some (.ref c), some (szD M), some (stD M), some (.int M.x), some (.int M.y), some (.ref S.length), some (.int (i : Int)), some (.int (j : Int)), some (kd (M.fro ((i : Int), (j : Int)))), some (optD (M.due ((i : Int), (j : Int))))], S ++ [O.dit (cD (M.put t1 ((i : Int), (j : Int))))], ?_, _, _, _, rfl, rfl⟩
      show exSs G (callD G T (n + 1)) (dueA ++ [dueZ]) [some (.ref c), some (szD M), some (stD M), some (.int M.x), some (.int M.y), some (.ref S.length), some (.int (i : Int)), some (.int (j : Int)), z8, z9] _ = _
      rw [exSs_app, a, seq_next, b])
  obtain ⟨δ', S', lp, y7, y8, y9, rfl, rfl⟩ := lp
  rw [List.length_map, List.length_range] at lp
  exact ⟨y7, y8, y9, lp⟩
theorem Q_succ (i h : Nat) : cellsQ (i + 1) h = cellsQ i h ++ (List.range h).map fun y : Nat => ((i : Int), (y : Int)) := by
  unfold cellsQ
  rw [List.range_succ, List.flatMap_append]
  simp
theorem Q_len (w h : Nat) : (cellsQ w h).length = w * h := by
  unfold cellsQ
  induction w with
  | zero => simp
  | succ w ih =>
    rw [List.range_succ, List.flatMap_append, List.length_append, ih]
    simp [Nat.succ_mul]
theorem r_due (n : Nat) {S : Sto} {c : Nat} (M : Mv) (hc : S[c]? = some (.dit (cD M.m))) (iv : Iv M.m) (hw : M.w ≤ 12) (hh : M.h ≤ 12) :
    callD G T (n + 2) "_law_due" [.ref c, szD M, stD M, .int M.x, .int M.y] S = .ok (.ref S.length) (S ++ [O.dit (cD ((cellsQ M.w M.h).foldl M.put []))]) := by
  have lp := ex_forI (G := G) (Φ := callD G T (n + 1)) (v := 6) (it := .rg1 (.idx (.v 1) (.k (.int 0)))) (b := [.for_ 7 (.rg1 (.idx (.v 1) (.k (.int 1)))) (dueA ++ [dueZ])]) (t := .its ((List.range M.w).map fun i => D.int (0 + (i : Nat)))) (ds := (List.range M.w).map fun i => D.int (0 + (i : Nat))) (δ := [some (.ref c), some (szD M), some (stD M), some (.int M.x), some (.int M.y), some (.ref S.length), none, none, none, none]) (S := S ++ [O.dit []]) (S0 := S ++ [O.dit []])
    (fun i δ' S' => ∃ z6 z7 z8 z9, δ' = [some (.ref c), some (szD M), some (stD M), some (.int M.x), some (.int M.y), some (.ref S.length), z6, z7, z8, z9] ∧ S' = S ++ [O.dit (cD ((cellsQ i M.h).foldl M.put []))]) (by
      rw [evI]
      refine it_rg1 (n := M.w) ?_ (by omega)
      unfold szD
      generalize S ++ [O.dit []] = S1
      generalize stD M = sd
      walk_at "ex") (by rw [List.length_map, List.length_range]; exact Nat.le_trans hw (by decide)) (fun _ _ _ _ => rfl) ⟨none, none, none, none, rfl, rfl⟩ (fun i δ' S' d q hd => by
      obtain ⟨z6, z7, z8, z9, rfl, rfl⟩ := q
      rw [List.getElem?_map] at hd
      obtain ⟨i', hi', rfl⟩ := Option.map_eq_some_iff.mp hd
      have hlt : i < M.w := by simpa using (List.getElem?_eq_some_iff.mp hi').1
      rw [List.getElem?_range hlt] at hi'
      cases hi'
      have ll := put_len M (cellsQ i M.h) []
      rw [Q_len] at ll
      have : i * M.h ≤ 12 * 12 := Nat.mul_le_mul (by omega) hh
      obtain ⟨y7, y8, y9, st⟩ := due_in n (i := i) M (t := (cellsQ i M.h).foldl M.put []) hc iv hh (by rw [List.length_nil] at ll; omega) z7 z8 z9
      refine ⟨_, _, st, _, y7, y8, y9, rfl, ?_⟩
      rw [Q_succ, List.foldl_append])
  obtain ⟨δ', S', lp, y6, y7, y8, y9, rfl, rfl⟩ := lp
  rw [List.length_map, List.length_range] at lp
  refine call_ref T__law_due rfl rfl ?_
  have ec : c__law_due = [.set 5 .dnewT] ++ ([.for_ 6 (.rg1 (.idx (.v 1) (.k (.int 0)))) [.for_ 7 (.rg1 (.idx (.v 1) (.k (.int 1)))) (dueA ++ [dueZ])]] ++ [.ret (.v 5)]) := rfl
  show exSs G (callD G T (n + 1)) c__law_due [some (.ref c), some (szD M), some (stD M), some (.int M.x), some (.int M.y), none, none, none, none, none] S = _
  rw [ec]
  have a0 : exSs G (callD G T (n + 1)) [.set 5 .dnewT] [some (.ref c), some (szD M), some (stD M), some (.int M.x), some (.int M.y), none, none, none, none, none] S = .next [some (.ref c), some (szD M), some (stD M), some (.int M.x), some (.int M.y), some (.ref S.length), none, none, none, none] (S ++ [O.dit []]) := by
    rw [exSs, exS, sSeq, ev]
    rfl
  rw [exSs_app, a0, seq_next, exSs_app, lp, seq_next, exSs, exS, sSeq, ev]
  rfl
theorem eqB_run {S : Sto} {a b : Nat} {x y : Cm} {g : Bool → Bool} (ha : S[a]? = some (.dit (cD x))) (hb : S[b]? = some (.dit (cD y))) (e : eqDt (cD x) (cD y) = true) : eqB g (.ref a) (.ref b) S = .ok (.bl (g true)) S := by
  unfold eqB
  rw [dit_at ha, dit_at hb]
  dsimp only
  rw [if_pos ⟨flat_cD _, flat_cD _⟩, e]
theorem cells_cD {m : Cm} {w h : Nat} (hw : w ≤ 12) (hh : h ≤ 12) (hk : ∀ k, (valV m k).isSome = true → inR 0 0 w h k = true) : cellsK (cD m) = true := by
  unfold cellsK
  refine List.all_eq_true.mpr fun kv hm => ?_
  obtain ⟨t, ht, rfl⟩ := List.mem_map.mp hm
  have := hk t.1 (key_iff.mp (List.mem_map_of_mem ht))
  rw [inR_iff] at this
  show cellK (kc t.1) = true
  unfold kc cellK
  simp only [Bool.and_eq_true, decide_eq_true_eq]
  omega
theorem dict_run {S : Sto} {n : Nat} {m : Cm} (h : S[n]? = some (.dit (cD m))) (hc : cellsK (cD m) = true) : dictB [.ref n] S = .ok (.ref S.length) (S ++ [O.dit (cD m)]) := by
  unfold dictB
  dsimp only
  rw [dit_at h]
  exact if_pos hc
theorem law_a (L : D) (n0 : Int) (w h : Nat) (hw : (w : Int) = 1 + n0 % 12) (hh : (h : Int) = 1 + n0 / 12 % 12) (c0 : callD G T 29 "_law_cell_at" [L, .int 0] [] = .ok (.int n0) []) :
    exSs G (callD G T 29) (c_law.take 2) [some L, none, none, none, none, none, none, none, none, none, none] [] = .next [some L, some (.int n0), some (.tup [.int (w : Int), .int (h : Int)]), none, none, none, none, none, none, none, none] [] := by
  rw [hw, hh]
  show exSs G (callD G T 29) [_, _] _ _ = _
  clear hw hh
  walk_at "exh"
theorem law_b {L : D} {n0 : Int} {w h : Nat} {S : Sto} (c : callD G T 29 "_law_cells" [L, .int (w : Int), .int (h : Int)] [] = .ok (.ref 0) S) :
    exSs G (callD G T 29) ((c_law.drop 2).take 1) [some L, some (.int n0), some (.tup [.int (w : Int), .int (h : Int)]), none, none, none, none, none, none, none, none] [] = .next [some L, some (.int n0), some (.tup [.int (w : Int), .int (h : Int)]), some (.ref 0), none, none, none, none, none, none, none] S := by
  show exSs G (callD G T 29) [_] _ _ = _
  walk_at "exh"
theorem law_c {L sz : D} {n0 n1 n2 n3 : Int} {S : Sto} (c1 : callD G T 29 "_law_cell_at" [L, .int 1] S = .ok (.int n1) S) (c2 : callD G T 29 "_law_cell_at" [L, .int 2] S = .ok (.int n2) S) (c3 : callD G T 29 "_law_cell_at" [L, .int 3] S = .ok (.int n3) S) :
    exSs G (callD G T 29) ((c_law.drop 3).take 4) [some L, some (.int n0), some sz, some (.ref 0), none, none, none, none, none, none, none] S = .next [some L, some (.int n1), some sz, some (.ref 0), some (.tup [.int (n1 % 20 - 5), .int (n1 / 20 % 20 - 5), .int (1 + n1 / 400 % 16), .int (1 + n1 / 6400 % 16)]), some (.int (n2 % 29 - 14)), some (.int (n3 % 29 - 14)), none, none, none, none] S := by
  show exSs G (callD G T 29) [_, _, _, _] _ _ = _
  walk_at "exh"
theorem law_d {a b c d e f : Option D} {r q u : Nat} {S1 S2 S3 : Sto} {s t x y : D} (h7 : dictB [.ref r] S1 = .ok (.ref q) S2) (h8 : callD G T 29 "_law_due" [.ref r, s, t, x, y] S2 = .ok (.ref u) S3) :
    exSs G (callD G T 29) ((c_law.drop 7).take 2) [a, b, some s, some (.ref r), some t, some x, some y, none, none, none, none] S1 = .next [a, b, some s, some (.ref r), some t, some x, some y, some (.ref q), some (.ref u), none, none] S3 := by
  show exSs G (callD G T 29) [_, _] _ _ = _
  walk_at "exh"
theorem law_turn {S : Sto} {a b z9 z10 : Option D} {q u : Nat} (M : Mv) (nd : Nd M.m) (iv : Iv M.m) (hl : M.m.length ≤ 100) (hw : M.w ≤ 12) (hh : M.h ≤ 12) (hk : ∀ k, (valV M.m k).isSome = true → M.pic k = true)
    (h0 : S[0]? = some (.dit (cD M.m))) (hq : S[q]? = some (.dit (cD M.m))) (hu : S[u]? = some (.dit (cD ((cellsQ M.w M.h).foldl M.put [])))) :
    ∃ y10 K, exSs G (callD G T 29) [.set 10 (.call "moved" [(.v 7), (.v 2), (.v 4), (.v 5), (.v 6)]), .ite (.or (.not (.bf .inst [(.v 10), (.k (.ty "dict"))])) (.or (.cmp .ne (.v 10) (.v 8)) (.cmp .ne (.v 7) (.v 3)))) [.ret (.k (.bl false))] [], .stoT (.v 10) [(.k (.int 0)), (.k (.int 0))] (.k (.str "more"))]
      [a, b, some (szD M), some (.ref 0), some (stD M), some (.int M.x), some (.int M.y), some (.ref q), some (.ref u), z9, z10] S =
      .next [a, b, some (szD M), some (.ref 0), some (stD M), some (.int M.x), some (.int M.y), some (.ref q), some (.ref u), z9, y10] (S ++ K) := by
  obtain ⟨R, mv⟩ := r_moved 27 M hq nd iv hl hw hh
  have gm : (S ++ .dit (cD ((cellsP M.w M.h).foldl M.step M.lift)) :: R)[S.length]? = some (.dit (cD ((cellsP M.w M.h).foldl M.step M.lift))) := get_mid
  have i1 := i_dit_dict gm
  have q1 := eqB_run (g := not) gm (app_l hu) (eq_cD (M.fold_nd _ (nd_filter nd _)) (M.put_nd _ List.nodup_nil) (M.same hk))
  have q2 := eqB_run (S := S ++ .dit (cD ((cellsP M.w M.h).foldl M.step M.lift)) :: R) (g := not) (app_l hq) (app_l h0) (eq_cD nd nd fun _ => rfl)
  have fl : ((cellsP M.w M.h).foldl M.step M.lift).length < lim := by
    have : ∀ (l : List (Int × Int)) (t : Cm), (l.foldl M.step t).length ≤ t.length + l.length := by
      intro l
      induction l with
      | nil => intro t; exact Nat.le_refl _
      | cons c l ih =>
        intro t
        have h1 := ih (M.step t c)
        have h2 := step_len M t c
        rw [List.foldl_cons, List.length_cons]
        omega
    have k := this (cellsP M.w M.h) M.lift
    have k2 : M.lift.length ≤ 100 := Nat.le_trans (List.length_filter_le _ _) hl
    rw [cells_len] at k
    have : M.h * M.w ≤ 12 * 12 := Nat.mul_le_mul hh hw
    exact Nat.lt_of_le_of_lt (show _ ≤ 1000 by omega) (by decide)
  have tp : tputD (.ref S.length) [.int 0, .int 0] (.str "more") (S ++ .dit (cD ((cellsP M.w M.h).foldl M.step M.lift)) :: R) = some (S ++ .dit (putT (cD ((cellsP M.w M.h).foldl M.step M.lift)) [.inl 0, .inl 0] (.str "more")) :: R) := by
    unfold tputD
    rw [dit_at gm, show tkeys [.int 0, .int 0] = some [.inl 0, .inl 0] from rfl]
    dsimp only
    rw [if_pos ⟨by rw [cD_len]; exact fl, by decide⟩]
    show some ((S ++ _ :: R).set S.length _) = _
    rw [set_mid]
  refine ⟨some (.ref S.length), .dit (putT (cD ((cellsP M.w M.h).foldl M.step M.lift)) [.inl 0, .inl 0] (.str "more")) :: R, ?_⟩
  clear gm fl nd iv hl hw hh hk h0 hq hu
  generalize S ++ .dit (putT (cD ((cellsP M.w M.h).foldl M.step M.lift)) [.inl 0, .inl 0] (.str "more")) :: R = S2 at *
  generalize S ++ .dit (cD ((cellsP M.w M.h).foldl M.step M.lift)) :: R = S1 at *
  generalize szD M = sz at *
  generalize stD M = sd at *
  walk_at "exh"
theorem law_e {S : Sto} {a b : Option D} {q u : Nat} (M : Mv) (nd : Nd M.m) (iv : Iv M.m) (hl : M.m.length ≤ 100) (hw : M.w ≤ 12) (hh : M.h ≤ 12) (hk : ∀ k, (valV M.m k).isSome = true → M.pic k = true)
    (h0 : S[0]? = some (.dit (cD M.m))) (hq : S[q]? = some (.dit (cD M.m))) (hu : S[u]? = some (.dit (cD ((cellsQ M.w M.h).foldl M.put [])))) :
    ∃ K, exSs G (callD G T 29) (c_law.drop 9) [a, b, some (szD M), some (.ref 0), some (stD M), some (.int M.x), some (.int M.y), some (.ref q), some (.ref u), none, none] S = .ret (.bl true) (S ++ K) := by
  have lp := ex_forX (G := G) (Φ := callD G T 29) (i := 9) (it := .rg1 (.k (.int 2))) (b := [.set 10 (.call "moved" [(.v 7), (.v 2), (.v 4), (.v 5), (.v 6)]), .ite (.or (.not (.bf .inst [(.v 10), (.k (.ty "dict"))])) (.or (.cmp .ne (.v 10) (.v 8)) (.cmp .ne (.v 7) (.v 3)))) [.ret (.k (.bl false))] [], .stoT (.v 10) [(.k (.int 0)), (.k (.int 0))] (.k (.str "more"))]) (t := .its ((List.range 2).map fun i => D.int (0 + (i : Nat)))) (ds := (List.range 2).map fun i => D.int (0 + (i : Nat))) (δ := [a, b, some (szD M), some (.ref 0), some (stD M), some (.int M.x), some (.int M.y), some (.ref q), some (.ref u), none, none]) (S := S) (S0 := S)
    (fun δ' S' => ∃ z9 z10 K, δ' = [a, b, some (szD M), some (.ref 0), some (stD M), some (.int M.x), some (.int M.y), some (.ref q), some (.ref u), z9, z10] ∧ S' = S ++ K) (by rw [evI]; exact it_rg1 (n := 2) (by rw [ev]; rfl) (by decide)) (by decide) (fun _ _ _ => rfl) ⟨none, none, [], rfl, by simp⟩ (fun δ' S' d k hd => by
      obtain ⟨z9, z10, K, rfl, rfl⟩ := k
      obtain ⟨y10, K', t⟩ := law_turn (S := S ++ K) (a := a) (b := b) (z9 := some d) (z10 := z10) M nd iv hl hw hh hk (app_l h0) (app_l hq) (app_l hu)
      exact ⟨_, _, t, some d, y10, K ++ K', rfl, by rw [List.append_assoc]⟩)
  obtain ⟨δ', S', lp, z9, z10, K, rfl, rfl⟩ := lp
  refine ⟨K, ?_⟩
  show exSs G (callD G T 29) ([.for_ 9 (.rg1 (.k (.int 2))) [.set 10 (.call "moved" [(.v 7), (.v 2), (.v 4), (.v 5), (.v 6)]), .ite (.or (.not (.bf .inst [(.v 10), (.k (.ty "dict"))])) (.or (.cmp .ne (.v 10) (.v 8)) (.cmp .ne (.v 7) (.v 3)))) [.ret (.k (.bl false))] [], .stoT (.v 10) [(.k (.int 0)), (.k (.int 0))] (.k (.str "more"))]] ++ [.ret (.k (.bl true))]) _ _ = _
  rw [exSs_app, lp, seq_next, exSs, exS, sSeq, ev]
  rfl
theorem lawOk : LawOk G T 30 := by
  intro ns hns
  have c0 := r_cell_at 28 [] ns (k := 0) (by decide)
  obtain ⟨w, hw⟩ : ∃ w : Nat, (w : Int) = 1 + ns.getD (0 : Int).toNat 0 % 12 := ⟨(1 + ns.getD (0 : Int).toNat 0 % 12).toNat, by omega⟩
  obtain ⟨h, hh⟩ : ∃ h : Nat, (h : Int) = 1 + ns.getD (0 : Int).toNat 0 / 12 % 12 := ⟨(1 + ns.getD (0 : Int).toNat 0 / 12 % 12).toNat, by omega⟩
  have a := law_a (.rol (ns.map D.int)) _ w h hw hh c0
  obtain ⟨m, J, lc, nd, iv, ml, mk⟩ := r_lcells 28 ns hns (w := w) (h := h) (by omega) (by omega)
  have b := law_b (n0 := ns.getD (0 : Int).toNat 0) lc
  have c1 := r_cell_at 28 (.dit (cD m) :: J) ns (k := 1) (by decide)
  have c2 := r_cell_at 28 (.dit (cD m) :: J) ns (k := 2) (by decide)
  have c3 := r_cell_at 28 (.dit (cD m) :: J) ns (k := 3) (by decide)
  have w12 : w ≤ 12 := by omega
  have h12 : h ≤ 12 := by omega
  clear hw hh
  generalize ns.getD (0 : Int).toNat 0 = n0 at *
  generalize ns.getD (1 : Int).toNat 0 = n1 at *
  generalize ns.getD (2 : Int).toNat 0 = n2 at *
  generalize ns.getD (3 : Int).toNat 0 = n3 at *
  have c := law_c (n0 := n0) (sz := .tup [.int (w : Int), .int (h : Int)]) c1 c2 c3
  let M : Mv := ⟨m, w, h, n1 % 20 - 5, n1 / 20 % 20 - 5, 1 + n1 / 400 % 16, 1 + n1 / 6400 % 16, n2 % 29 - 14, n3 % 29 - 14⟩
  have g0 : (O.dit (cD m) :: J)[0]? = some (.dit (cD M.m)) := rfl
  have dr := dict_run (S := .dit (cD m) :: J) (n := 0) (m := m) rfl (cells_cD w12 h12 mk)
  have du := r_due 27 (S := (O.dit (cD m) :: J) ++ [O.dit (cD m)]) (c := 0) M rfl iv w12 h12
  have d := law_d (a := some (.rol (ns.map D.int))) (b := some (.int n1)) (c := none) (d := none) (e := none) (f := none) dr du
  obtain ⟨K, e⟩ := law_e (S := (O.dit (cD m) :: J) ++ [O.dit (cD m)] ++ [O.dit (cD ((cellsQ M.w M.h).foldl M.put []))]) (a := some (.rol (ns.map D.int))) (b := some (.int n1)) (q := (O.dit (cD m) :: J).length) (u := ((O.dit (cD m) :: J) ++ [O.dit (cD m)]).length) M nd iv ml w12 h12 mk rfl (app_l (getElem?_snoc _ _)) (getElem?_snoc _ _)
  refine ⟨[], call_ret (J := (O.dit (cD m) :: J) ++ [O.dit (cD m)] ++ [O.dit (cD ((cellsQ M.w M.h).foldl M.put []))] ++ K) T_law rfl rfl ?_⟩
  show exSs G (callD G T 29) (c_law.take 2 ++ ((c_law.drop 2).take 1 ++ ((c_law.drop 3).take 4 ++ ((c_law.drop 7).take 2 ++ c_law.drop 9)))) [some (.rol (ns.map D.int)), none, none, none, none, none, none, none, none, none, none] [] = _
  rw [exSs_app, a, seq_next, exSs_app, b, seq_next, exSs_app, c, seq_next, exSs_app]
  erw [d]
  rw [seq_next]
  exact e
end L2.Gz
open PySem PySem.W PyProof.Rows
set_option maxRecDepth 100000 in
set_option maxHeartbeats 0 in
theorem PySem.Challenge.cw_glazehall_k65_stretches_moved_holds : PySem.Challenge.rw_glazehall_k65_stretches_moved.Holds := by
  w_on; o_law; k_head; (case hw => w_witness2)
  k_fill
  refine L2.law_walk (l := PySem.Challenge.rw_glazehall_k65_stretches_moved) (k := 29) (x := "_law_script") (G := L2.Gz.G) (T := L2.Gz.T) rfl rfl rfl ⟨rfl, by decide, by decide⟩ (L2.gt_ok (by kernel_rfl)) (fun w h Y => PySem.W.kIn_of Y) L2.Gz.T_law L2.Gz.lawOk ?F
  case F =>
    intro w mg h KX G
    have D_copied : L2.DefAt (L2.KOf KX) mg "copied" L2.Gz.s_copied ["thing"] := by
      dsimp only [L2.KOf]
      refine' L2.def_mk KX G ?a ?l ?c ?k ?b
      (case a => k_is); (case l => k_is); (case c => k_is); (case k => k_is)
      (case b => exact fun _ _ _ _ _ _ us hl => match us, hl with | [_], _ => rfl)
    have D_lies_in : L2.DefAt (L2.KOf KX) mg "lies_in" L2.Gz.s_lies_in ["cell", "stretch"] := by
      dsimp only [L2.KOf]
      refine' L2.def_mk KX G ?a ?l ?c ?k ?b
      (case a => k_is); (case l => k_is); (case c => k_is); (case k => k_is)
      (case b => exact fun _ _ _ _ _ _ us hl => match us, hl with | [_, _], _ => rfl)
    have D_cells_of : L2.DefAt (L2.KOf KX) mg "cells_of" L2.Gz.s_cells_of ["size"] := by
      dsimp only [L2.KOf]
      refine' L2.def_mk KX G ?a ?l ?c ?k ?b
      (case a => k_is); (case l => k_is); (case c => k_is); (case k => k_is)
      (case b => exact fun _ _ _ _ _ _ us hl => match us, hl with | [_], _ => rfl)
    have D_moved : L2.DefAt (L2.KOf KX) mg "moved" L2.Gz.s_moved ["cells", "size", "stretch", "across", "down"] := by
      dsimp only [L2.KOf]
      refine' L2.def_mk KX G ?a ?l ?c ?k ?b
      (case a => k_is); (case l => k_is); (case c => k_is); (case k => k_is)
      (case b => exact fun _ _ _ _ _ _ us hl => match us, hl with | [_, _, _, _, _], _ => rfl)
    have D__law_cell_at : L2.DefAt (L2.KOf KX) mg "_law_cell_at" L2.Gz.s__law_cell_at ["_law_script", "_law_k"] := by
      dsimp only [L2.KOf]
      refine' L2.def_mk KX G ?a ?l ?c ?k ?b
      (case a => k_is); (case l => k_is); (case c => k_is); (case k => k_is)
      (case b => exact fun _ _ _ _ _ _ us hl => match us, hl with | [_, _], _ => rfl)
    have D__law_cells : L2.DefAt (L2.KOf KX) mg "_law_cells" L2.Gz.s__law_cells ["_law_script", "_law_wide", "_law_high"] := by
      dsimp only [L2.KOf]
      refine' L2.def_mk KX G ?a ?l ?c ?k ?b
      (case a => k_is); (case l => k_is); (case c => k_is); (case k => k_is)
      (case b => exact fun _ _ _ _ _ _ us hl => match us, hl with | [_, _, _], _ => rfl)
    have D__law_within : L2.DefAt (L2.KOf KX) mg "_law_within" L2.Gz.s__law_within ["_law_cell", "_law_stretch"] := by
      dsimp only [L2.KOf]
      refine' L2.def_mk KX G ?a ?l ?c ?k ?b
      (case a => k_is); (case l => k_is); (case c => k_is); (case k => k_is)
      (case b => exact fun _ _ _ _ _ _ us hl => match us, hl with | [_, _], _ => rfl)
    have D__law_due : L2.DefAt (L2.KOf KX) mg "_law_due" L2.Gz.s__law_due ["_law_cells_here", "_law_size", "_law_stretch", "_law_across", "_law_down"] := by
      dsimp only [L2.KOf]
      refine' L2.def_mk KX G ?a ?l ?c ?k ?b
      (case a => k_is); (case l => k_is); (case c => k_is); (case k => k_is)
      (case b => exact fun _ _ _ _ _ _ us hl => match us, hl with | [_, _, _, _, _], _ => rfl)
    have D_law : L2.DefAt (L2.KOf KX) mg "law" L2.Gz.s_law ["_law_script"] := by
      dsimp only [L2.KOf]
      refine' L2.def_mk KX G ?a ?l ?c ?k ?b
      (case a => k_is); (case l => k_is); (case c => k_is); (case k => k_is)
      (case b => exact fun _ _ _ _ _ _ us hl => match us, hl with | [_], _ => rfl)
    have O_0 : mg "isinstance" = none := by
      refine' PySem.W.mg_none_of KX G ?t
      (case t => k_is)
    have O_1 : mg "tuple" = none := by
      refine' PySem.W.mg_none_of KX G ?t
      (case t => k_is)
    have O_2 : mg "list" = none := by
      refine' PySem.W.mg_none_of KX G ?t
      (case t => k_is)
    have O_3 : mg "dict" = none := by
      refine' PySem.W.mg_none_of KX G ?t
      (case t => k_is)
    have O_4 : mg "len" = none := by
      refine' PySem.W.mg_none_of KX G ?t
      (case t => k_is)
    have O_5 : mg "range" = none := by
      refine' PySem.W.mg_none_of KX G ?t
      (case t => k_is)
    refine ⟨L2.glo_ok L2.f0 (L2.fc O_0 (L2.fc O_1 (L2.fc O_2 (L2.fc O_3 (L2.fc O_4 (L2.fc O_5 L2.f0)))))) L2.f0 L2.f0 L2.f0 L2.f0 L2.f0 L2.f0 L2.f0 L2.f0, fun x f hx => ?_, ?_⟩
    · exact (show ∀ p ∈ L2.Gz.tab, L2.DfOk ⟨L2.KOf KX, mg⟩ L2.Gz.G L2.Gz.T p.1 p.2 from (L2.fc ⟨L2.top_at D_copied, L2.Gz.sc_copied, L2.Gz.tr_copied⟩ (L2.fc ⟨L2.top_at D_lies_in, L2.Gz.sc_lies_in, L2.Gz.tr_lies_in⟩ (L2.fc ⟨L2.top_at D_cells_of, L2.Gz.sc_cells_of, L2.Gz.tr_cells_of⟩ (L2.fc ⟨L2.top_at D_moved, L2.Gz.sc_moved, L2.Gz.tr_moved⟩ (L2.fc ⟨L2.top_at D__law_cell_at, L2.Gz.sc__law_cell_at, L2.Gz.tr__law_cell_at⟩ (L2.fc ⟨L2.top_at D__law_cells, L2.Gz.sc__law_cells, L2.Gz.tr__law_cells⟩ (L2.fc ⟨L2.top_at D__law_within, L2.Gz.sc__law_within, L2.Gz.tr__law_within⟩ (L2.fc ⟨L2.top_at D__law_due, L2.Gz.sc__law_due, L2.Gz.tr__law_due⟩ (L2.fc ⟨L2.top_at D_law, L2.Gz.sc_law, L2.Gz.tr_law⟩ L2.f0)))))))))) _ (L2.tab_mem hx)
    · refine' ⟨_, _, PySem.W.mg_of KX G ?a, ?b, L2.fun_mk ?l ?c ?k⟩
      (case a => k_is); (case l => k_is); (case c => k_is); (case k => k_is)
      (case b => exact fun s u => .of_eq rfl)