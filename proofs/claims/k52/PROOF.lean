import PyProof.Rows.All
import Wide.All
import OpenK.AllK
import Wide.FinOn
import Lean
import PyProof.EqAt
import PyProof.EqKinds
import PyProof.TupleCall
import KE.KEqDict
import PySem.Challenge.RW_glazehall_k52_how_many_products
set_option Elab.async false
set_option linter.all false
set_option maxRecDepth 100000
namespace L2
open PySem PySem.Spec PyProof.Rows
noncomputable abbrev Key := Sum Int Str
noncomputable def keyIs : Key → Value → Bool
  | .inl k, v => Value.isInt k v
  | .inr x, v => Value.isStrOf x v
noncomputable def keyH (w : World) : Key → Int
  | .inl k => hashInt k
  | .inr x => hashStr w x
theorem keyIs_shape : ∀ {k : Key} {v : Value}, keyIs k v = true → (∃ i t, k = Sum.inl i ∧ v = Value.int i t) ∨ (∃ x t, k = Sum.inr x ∧ v = Value.str x t)
  | .inl i, v, h => by
    obtain ⟨t, e⟩ := Value.isInt_shape (k := i) (v := v) h
    exact .inl ⟨i, t, rfl, e⟩
  | .inr x, v, h => by
    obtain ⟨t, e⟩ := Value.isStrOf_shape (x := x) (v := v) h
    exact .inr ⟨x, t, rfl, e⟩
theorem keyIs_int (i : Int) (t : Tok) : keyIs (.inl i) (.int i t) = true := by simp [keyIs, Value.isInt]
theorem keyIs_str (x : Str) (t : Tok) : keyIs (.inr x) (.str x t) = true := by simp [keyIs, Value.isStrOf]
theorem key_ll (a b : Int) : decide ((Sum.inl a : Key) = Sum.inl b) = (a == b) := by
  by_cases e : a = b
  · subst e; simp
  · have h : ¬ (Sum.inl a : Key) = Sum.inl b := fun q => e (Sum.inl.inj q)
    rw [decide_eq_false h]
    exact (beq_eq_false_iff_ne.mpr e).symm
theorem key_rr (a b : Str) : decide ((Sum.inr a : Key) = Sum.inr b) = decide (a = b) := by
  by_cases e : a = b
  · subst e; simp
  · have h : ¬ (Sum.inr a : Key) = Sum.inr b := fun q => e (Sum.inr.inj q)
    rw [decide_eq_false h, decide_eq_false e]
theorem key_lr (a : Int) (b : Str) : decide ((Sum.inl a : Key) = Sum.inr b) = false := decide_eq_false (fun q => nomatch q)
theorem key_rl (a : Str) (b : Int) : decide ((Sum.inr a : Key) = Sum.inl b) = false := decide_eq_false (fun q => nomatch q)
noncomputable def mixKind (prog : Program) (w : World) : PySem.KeyKind prog w Key where
  is := keyIs
  hash := keyH w
  inj := fun v a b ha hb => by
    rcases keyIs_shape ha with ⟨i, t, rfl, rfl⟩ | ⟨x, t, rfl, rfl⟩
    · rcases keyIs_shape hb with ⟨j, u, rfl, e⟩ | ⟨y, u, rfl, e⟩
      · injection e with e1 _; rw [e1]
      · exact nomatch e
    · rcases keyIs_shape hb with ⟨j, u, rfl, e⟩ | ⟨y, u, rfl, e⟩
      · exact nomatch e
      · injection e with e1 _; rw [e1]
  byValue := fun k v h => by
    rcases keyIs_shape h with ⟨i, t, rfl, rfl⟩ | ⟨x, t, rfl, rfl⟩ <;> rfl
  pyHash := fun hv h => by
    rcases keyIs_shape hv with ⟨i, t, rfl, rfl⟩ | ⟨x, t, rfl, rfl⟩
    · exact wpAny_pyHash_int h
    · exact wpAny_pyHash_str h
  eqBool := fun hu hv h => by
    rcases keyIs_shape hu with ⟨i, t, rfl, rfl⟩ | ⟨x, t, rfl, rfl⟩
    · rcases keyIs_shape hv with ⟨j, u, rfl, rfl⟩ | ⟨y, u, rfl, rfl⟩
      · rw [key_ll] at h; exact wpAny_eqBool_int h
      · rw [key_lr] at h; exact SeqAt.EqAt.int_str i t y u _ _ _ _ h
    · rcases keyIs_shape hv with ⟨j, u, rfl, rfl⟩ | ⟨y, u, rfl, rfl⟩
      · rw [key_rl] at h; exact SeqAt.EqAt.str_int x t j u _ _ _ _ h
      · rw [key_rr] at h; exact wpAny_eqBool_str h
  «strs» := fun k x t v h => by
    rcases keyIs_shape h with ⟨i, u, rfl, e⟩ | ⟨y, u, rfl, e⟩
    · exact nomatch e
    · injection e with e1 _
      subst e1
      cases v <;> rfl
theorem mixKind_int (prog : Program) (w : World) (i : Int) (t : Tok) : (mixKind prog w).is (.inl i) (.int i t) = true := keyIs_int i t
theorem mixKind_str (prog : Program) (w : World) (x : Str) (t : Tok) : (mixKind prog w).is (.inr x) (.str x t) = true := keyIs_str x t
inductive V where
  | non | bl (b : Bool) | int (i : Int) | str (x : Str) | byt (b : Array UInt8) | flt (b : UInt64) | ref (a : Addr) | ty (n : String)
  deriving DecidableEq
noncomputable def RelV : V → Value → Prop
  | .non, u => u = Value.none
  | .bl b, u => u = Value.bool b
  | .int i, u => ∃ t, u = Value.int i t
  | .str x, u => ∃ t, u = Value.str x t
  | .byt b, u => ∃ t, u = Value.bytes b t
  | .flt b, u => ∃ t, u = Value.float b t
  | .ref a, u => u = Value.ref a
  | .ty n, u => u = Value.type n
noncomputable abbrev Vals : List V → List Value → Prop := Paired RelV
theorem Vals.length {xs : List V} {us : List Value} (r : Vals xs us) : xs.length = us.length := Paired.length r
theorem Vals.get : ∀ {xs : List V} {us : List Value} {i : Nat} {x : V}, Vals xs us → xs[i]? = some x → ∃ u, us[i]? = some u ∧ RelV x u
  | _, _, _, _, .nil, e => by simp at e
  | _, _, 0, _, .cons r _, e => by simp at e; subst e; exact ⟨_, rfl, r⟩
  | _, _, i + 1, x, .cons _ t, e => by
    obtain ⟨u, h1, h2⟩ := Vals.get (i := i) (x := x) t (by simpa using e)
    exact ⟨u, by simpa using h1, h2⟩
theorem Vals.set {x : V} {u : Value} (r : RelV x u) : ∀ {xs : List V} {us : List Value} (i : Nat), Vals xs us → Vals (xs.set i x) (us.set i u)
  | _, _, _, .nil => .nil
  | _, _, 0, .cons _ t => .cons r t
  | _, _, i + 1, .cons q t => .cons q (Vals.set r i t)
theorem Vals.append : ∀ {xs ys : List V} {us ws : List Value}, Vals xs us → Vals ys ws → Vals (xs ++ ys) (us ++ ws)
  | _, _, _, _, .nil, s => s
  | _, _, _, _, .cons r t, s => .cons r (Vals.append t s)
theorem Vals.take : ∀ {xs : List V} {us : List Value} (n : Nat), Vals xs us → Vals (xs.take n) (us.take n)
  | _, _, 0, _ => .nil
  | _, _, _ + 1, .nil => .nil
  | _, _, n + 1, .cons r t => .cons r (Vals.take n t)
theorem Vals.drop : ∀ {xs : List V} {us : List Value} (n : Nat), Vals xs us → Vals (xs.drop n) (us.drop n)
  | _, _, 0, r => r
  | _, _, _ + 1, .nil => .nil
  | _, _, n + 1, .cons _ t => Vals.drop n t
theorem Vals.none_of : ∀ {xs : List V} {us : List Value} {i : Nat}, Vals xs us → xs[i]? = none → us[i]? = none := fun {xs us i} r e => by
  have h1 := r.length
  have h2 : xs.length ≤ i := List.getElem?_eq_none_iff.mp e
  exact List.getElem?_eq_none_iff.mpr (by omega)
noncomputable def RelO : Option V → Option Value → Prop
  | some v, some u => RelV v u
  | none, none => True
  | _, _ => False
noncomputable def KV {κ : Type} : List (κ × V) → List (κ × Value) → Prop := Paired fun (p : κ × V) (q : κ × Value) => p.1 = q.1 ∧ RelV p.2 q.2
noncomputable def kV : Key → V
  | .inl i => .int i
  | .inr x => .str x
inductive HO where
  | lst (xs : List V)
  | tup (xs : List V)
  | dK (kvs : List (Key × V)) | dT (kvs : List (List Key × V))
  | set (S : Int → Bool) (n : Nat)
  | ins (C dx : Addr) (fs : List (Str × V))
  | own (x : Addr)
  | xd (fs : List (Str × V))
  | met (f x : Addr)
  | rng (lo hi : Int)
  | frz (o : Obj) (u : HO)
  | tbl (ps : Array Value)
  | ext (φ : Heap → Prop)
noncomputable abbrev Hp := Addr → Option HO
noncomputable def upd (H : Hp) (a : Addr) (o : HO) : Hp := fun b => if b = a then some o else H b
theorem upd_same {H : Hp} {a : Addr} {o : HO} : upd H a o a = some o := by unfold upd; rw [if_pos rfl]
theorem upd_ne {H : Hp} {a b : Addr} {o : HO} (h : b ≠ a) : upd H a o b = H b := by unfold upd; rw [if_neg h]
theorem ne_of {H : Hp} {a b : Addr} {o u : HO} (h : H a = some o) (h' : H b = some u) (d : o ≠ u) : a ≠ b := by
  intro e; subst e; rw [h] at h'; exact d (Option.some.inj h')
theorem ne_of_none {H : Hp} {a b : Addr} {o : HO} (h : H a = some o) (h' : H b = none) : a ≠ b := by
  intro e; subst e; rw [h] at h'; cases h'
section
variable (P : Program) (w : World)
noncomputable def ObjOk (H : Hp) (h : Heap) (a : Addr) : HO → Prop
  | .lst xs => xs.length ≤ sizeLine ∧ ∃ (its : List Value) (n : Nat), Vals xs its ∧ h.get? a = some { cls := .type "list", data := .seq its.toArray n }
  | .tup xs => xs.length ≤ sizeLine ∧ ∃ its : List Value, Vals xs its ∧ IsTup h a its.toArray
  | .dK kvs => kvs.length ≤ sizeLine ∧ (a == sysModules) = false ∧ ∃ vs, KV kvs vs ∧ h.DictOf (mixKind P w) a vs
  | .dT kvs => kvs.length ≤ sizeLine ∧ (a == sysModules) = false ∧ ∃ xs : List (List Key × Addr × Value),
      Paired (fun (p : List Key × V) (q : List Key × Addr × Value) => p.1 = q.1 ∧ H q.2.1 = some (.tup (p.1.map kV)) ∧ RelV p.2 q.2.2) kvs xs ∧
      ∃ o es ep, h.get? a = some o ∧ o.ExactDict ∧ o.data = .dict es ep ∧ es.toList = xs.map (entryOfKey (tupleKind (mixKind P w))) ∧ (xs.map (·.1)).Nodup
  | .set S n => h.SetOf (intKind P w) a S n
  | .ins C dx fs => H dx = some (.own a) ∧ fs.length ≤ 1000 ∧ dx ≠ a ∧ h.get? a = some (PySem.W.instObj C dx) ∧
      ∃ mA, h.Ns1 dx mA ∧ (∀ f, RelO (fs.lookup f) (mA f)) ∧ PySem.Within mA (fs.map (·.1))
  | .own _ => ∃ o, h.get? a = some o
  | .xd fs => ∃ mA, h.Ns1 a mA ∧ ∀ f, RelO (fs.lookup f) (mA f)
  | .rng lo hi => ∃ t u v, h.get? a = some { cls := .type "range", data := .fields #[.int lo t, .int hi u, .int 1 v] }
  | .frz o u => h.get? a = some o ∧ ObjOk H h a u
  | .tbl ps => h.get? a = some { cls := .none, data := .fields ps }
  | .met f x => h.get? a = some (PySem.W.methodObj (.ref f) (.ref x))
  | .ext φ => φ h ∧ (∃ o, h.get? a = some o) ∧ ∀ h1 h2 : Heap, φ h1 → (∀ o, h1.get? a = some o → h2.get? a = some o) → φ h2
noncomputable def HOk (H : Hp) (h : Heap) : Prop := ∀ a o, H a = some o → ObjOk P w H h a o
end
section
variable {P : Program} {w : World} {H H' : Hp} {h h' : Heap} {a : Addr} {o : HO}
theorem ObjOk.lt (x : ObjOk P w H h a o) : a < h.objs.size := by
  cases o with
  | lst xs => obtain ⟨_, _, _, _, e⟩ := x; exact Heap.lt_size e
  | tup xs => obtain ⟨_, _, _, p⟩ := x; exact p.lt
  | dK kvs => obtain ⟨_, _, _, _, o, _, _, e, _⟩ := x; exact Heap.lt_size e
  | dT kvs => obtain ⟨_, _, _, _, o, _, _, e, _⟩ := x; exact Heap.lt_size e
  | set S n => obtain ⟨o, _, _, _, e, _⟩ := x; exact Heap.lt_size e
  | ins C dx fs => obtain ⟨_, _, _, e, _⟩ := x; exact Heap.lt_size e
  | own y => obtain ⟨_, e⟩ := x; exact Heap.lt_size e
  | xd fs => obtain ⟨_, ⟨_, _, _, e, _⟩, _⟩ := x; exact Heap.lt_size e
  | rng lo hi => obtain ⟨_, _, _, e⟩ := x; exact Heap.lt_size e
  | frz ob u => obtain ⟨e, _⟩ := x; exact Heap.lt_size e
  | tbl ps => exact Heap.lt_size (show h.get? a = some _ from x)
  | met f y => exact Heap.lt_size (show h.get? a = some _ from x)
  | ext φ => obtain ⟨_, ⟨_, e⟩, _⟩ := x; exact Heap.lt_size e
theorem Paired.mapP {α β : Type} {F G : α → β → Prop} : ∀ {l₁ : List α} {l₂ : List β}, Paired F l₁ l₂ → (∀ a b, F a b → G a b) → Paired G l₁ l₂
  | _, _, .nil, _ => .nil
  | _, _, .cons r t, f => .cons (f _ _ r) (Paired.mapP t f)
theorem ObjOk.stay (x : ObjOk P w H h a o) (k : ∀ b u, (b = a ∨ H b = some (.own a)) → h.get? b = some u → h'.get? b = some u)
    (ho : ∀ b, H b = some (.own a) → H' b = some (.own a)) (ht : ∀ b xs, H b = some (.tup xs) → H' b = some (.tup xs)) : ObjOk P w H' h' a o := by
  induction o with
  | lst xs => obtain ⟨z, its, n, r, e⟩ := x; exact ⟨z, its, n, r, k _ _ (.inl rfl) e⟩
  | tup xs => obtain ⟨z, its, r, ob, e, c⟩ := x; exact ⟨z, its, r, ob, k _ _ (.inl rfl) e, c⟩
  | dK kvs => obtain ⟨z, y, vs, r, ob, es, ep, e, c⟩ := x; exact ⟨z, y, vs, r, ob, es, ep, k _ _ (.inl rfl) e, c⟩
  | dT kvs =>
    obtain ⟨z, y, xs, r, ob, es, ep, e, c⟩ := x
    exact ⟨z, y, xs, Paired.mapP r fun p q z => ⟨z.1, ht _ _ z.2.1, z.2.2⟩, ob, es, ep, k _ _ (.inl rfl) e, c⟩
  | set S n => obtain ⟨ob, es, ep, t, e, c⟩ := x; exact ⟨ob, es, ep, t, k _ _ (.inl rfl) e, c⟩
  | ins C dx fs =>
    obtain ⟨d, z, ne, e, mA, ⟨od, es, ep, e2, c⟩, r⟩ := x
    exact ⟨ho _ d, z, ne, k _ _ (.inl rfl) e, mA, ⟨od, es, ep, k _ _ (.inr d) e2, c⟩, r⟩
  | own y => obtain ⟨ob, e⟩ := x; exact ⟨ob, k _ _ (.inl rfl) e⟩
  | xd fs => obtain ⟨mA, ⟨od, es, ep, e, c⟩, r⟩ := x; exact ⟨mA, ⟨od, es, ep, k _ _ (.inl rfl) e, c⟩, r⟩
  | rng lo hi => obtain ⟨t, u, v, e⟩ := x; exact ⟨t, u, v, k _ _ (.inl rfl) e⟩
  | frz ob u ih => obtain ⟨e, q⟩ := x; exact ⟨k _ _ (.inl rfl) e, ih q⟩
  | tbl ps =>
    have e : h.get? a = some { cls := .none, data := .fields ps } := x
    show h'.get? a = some { cls := .none, data := .fields ps }
    exact k a _ (.inl rfl) e
  | met f y =>
    have e : h.get? a = some (PySem.W.methodObj (.ref f) (.ref y)) := x
    show h'.get? a = some (PySem.W.methodObj (.ref f) (.ref y))
    exact k a _ (.inl rfl) e
  | ext φ => obtain ⟨p, ⟨o, e⟩, st⟩ := x; exact ⟨st _ _ p fun o q => k _ _ (.inl rfl) q, ⟨o, k _ _ (.inl rfl) e⟩, st⟩
theorem HOk.lt (x : HOk P w H h) (e : H a = some o) : a < h.objs.size := (x a o e).lt
theorem HOk.fresh (x : HOk P w H h) (e : h.objs.size ≤ a) : H a = none := by
  cases q : H a with
  | none => rfl
  | some u => exact absurd (Nat.lt_of_lt_of_le (x.lt q) e) (Nat.lt_irrefl _)
theorem HOk.kept (x : HOk P w H h) (k : ∀ b u, h.get? b = some u → h'.get? b = some u) : HOk P w H h' := fun a o e =>
  (x a o e).stay (fun b u _ q => k b u q) (fun _ q => q) fun _ _ q => q
theorem HOk.laid (x : HOk P w H h) (k : ∀ b u, h.get? b = some u → h'.get? b = some u) (hp : h.objs.size ≤ a) (new : ObjOk P w (upd H a o) h' a o) : HOk P w (upd H a o) h' := fun b u e => by
  have hn := x.fresh hp
  by_cases hb : b = a
  · subst hb; rw [upd_same] at e; cases e; exact new
  · rw [upd_ne hb] at e
    exact (x b u e).stay (fun c v _ q => k c v q) (fun c q => by rw [upd_ne (ne_of_none q hn)]; exact q) fun c xs q => by rw [upd_ne (ne_of_none q hn)]; exact q
end
noncomputable def Rd (H : Hp) (a : Addr) (u : HO) : Prop := H a = some u ∨ ∃ o, H a = some (.frz o u)
theorem Rd.of {H : Hp} {a : Addr} {u : HO} (h : H a = some u) : Rd H a u := .inl h
theorem Rd.ok {P : Program} {w : World} {H : Hp} {h : Heap} {a : Addr} {u : HO} (r : Rd H a u) (x : HOk P w H h) : ObjOk P w H h a u := by
  rcases r with r | ⟨o, r⟩
  · exact x a u r
  · obtain ⟨_, q⟩ := x a _ r
    exact q
noncomputable def Mut : Option HO → Prop
  | some (.lst _) => True
  | some (.dK _) => True
  | some (.dT _) => True
  | some (.set _ _) => True
  | some (.ins _ _ _) => True
  | some (.ext _) => True
  | _ => False
section
variable {P : Program} {w : World} {H : Hp} {h h' : Heap} {x e : Addr} {o' : HO}
theorem HOk.write (ok : HOk P w H h) (mu : Mut (H x)) (he : e = x ∨ H e = some (.own x)) (k : ∀ b u, b ≠ e → h.get? b = some u → h'.get? b = some u) (heo : ∃ u, h'.get? e = some u)
    (new : ObjOk P w (upd H x o') h' x o') : HOk P w (upd H x o') h' := fun b u q => by
  have nown : ∀ c y, H c = some (.own y) → c ≠ x := fun c y r z => by subst z; rw [r] at mu; exact mu
  have ntup : ∀ c xs, H c = some (.tup xs) → c ≠ x := fun c xs r z => by subst z; rw [r] at mu; exact mu
  by_cases hb : b = x
  · subst hb; rw [upd_same] at q; cases q; exact new
  · rw [upd_ne hb] at q
    by_cases hbe : b = e
    · have q' : H b = some (.own x) := by
        rcases he with z | z
        · exact absurd (hbe.trans z) hb
        · rw [hbe]; exact z
      rw [q] at q'; cases q'
      obtain ⟨v, hv⟩ := heo
      exact ⟨v, by rw [hbe]; exact hv⟩
    · refine (ok b u q).stay (fun c v hc r => k c v ?_ r) (fun c r => by rw [upd_ne (nown c b r)]; exact r) fun c xs r => by rw [upd_ne (ntup c xs r)]; exact r
      rcases hc with rfl | hc
      · exact hbe
      · rintro rfl
        rcases he with z | z
        · exact nown c b hc z
        · rw [hc] at z; cases z; exact hb rfl
end
structure Un (fs ex : List Addr) (H H' : Hp) (h h' : Heap) : Prop where
  keep : ∀ b o, h.get? b = some o → H b = none → b ∉ fs → b ∉ ex → h'.get? b = some o
  slot : ∀ b o, h.get? b = some o → H b = none → b ∈ fs → b ∉ ex → ∃ sl, h'.get? b = some { o with slots := sl }
  free : ∀ b o, h.get? b = some o → H b = none → b ∉ ex → H' b = none
  there : ∀ b o, h.get? b = some o → b ∉ ex → ∃ o', h'.get? b = some o'
  tups : ∀ b xs, H b = some (.tup xs) → H' b = some (.tup xs)
  frzs : ∀ b o u, H b = some (.frz o u) → H' b = some (.frz o u)
  tbls : ∀ b ps, H b = some (.tbl ps) → ∃ more, H' b = some (.tbl (ps ++ more))
section
variable {fs fs' ex ex' : List Addr} {H H1 H2 : Hp} {h h1 h2 h' : Heap} {a x e : Addr} {o : HO}
theorem Un.any (u : Un fs ex H H1 h h1) {b : Addr} {ob : Obj} (q : h.get? b = some ob) (n : H b = none) (hx : b ∉ ex) : ∃ sl, h1.get? b = some { ob with slots := sl } := by
  by_cases hb : b ∈ fs
  · exact u.slot b ob q n hb hx
  · exact ⟨ob.slots, u.keep b ob q n hb hx⟩
theorem Un.trans (a : Un fs ex H H1 h h1) (b : Un fs ex H1 H2 h1 h2) : Un fs ex H H2 h h2 where
  keep := fun c ob q n hc hx => b.keep c ob (a.keep c ob q n hc hx) (a.free c ob q n hx) hc hx
  slot := fun c ob q n hc hx => by
    obtain ⟨sl, e1⟩ := a.slot c ob q n hc hx
    obtain ⟨sl', e2⟩ := b.slot c _ e1 (a.free c ob q n hx) hc hx
    exact ⟨sl', e2⟩
  free := fun c ob q n hx => by
    obtain ⟨o', e1⟩ := a.there c ob q hx
    exact b.free c o' e1 (a.free c ob q n hx) hx
  there := fun c ob q hx => by
    obtain ⟨o', e1⟩ := a.there c ob q hx
    exact b.there c o' e1 hx
  tups := fun c xs q => b.tups c xs (a.tups c xs q)
  frzs := fun c ob xs q => b.frzs c ob xs (a.frzs c ob xs q)
  tbls := fun c ps q => by
    obtain ⟨m1, e1⟩ := a.tbls c ps q
    obtain ⟨m2, e2⟩ := b.tbls c _ e1
    exact ⟨m1 ++ m2, by rw [e2, Array.append_assoc]⟩
theorem Un.kept (k : ∀ b u, h.get? b = some u → h'.get? b = some u) : Un fs ex H H h h' :=
  ⟨fun b ob q _ _ _ => k b ob q, fun b ob q _ _ _ => ⟨ob.slots, k b ob q⟩, fun _ _ _ n _ => n, fun b ob q _ => ⟨ob, k b ob q⟩, fun _ _ q => q, fun _ _ _ q => q, fun _ ps q => ⟨#[], by rw [q]; simp⟩⟩
theorem Un.refl : Un fs ex H H h h := Un.kept fun _ _ q => q
theorem Un.laid (k : ∀ b u, h.get? b = some u → h'.get? b = some u) (hp : h.objs.size ≤ a) (hn : H a = none) : Un fs ex H (upd H a o) h h' where
  keep := fun b u q _ _ _ => k b u q
  slot := fun b u q _ _ _ => ⟨u.slots, k b u q⟩
  free := fun b u q n _ => by rw [upd_ne (Nat.ne_of_lt (Nat.lt_of_lt_of_le (Heap.lt_size q) hp))]; exact n
  there := fun b u q _ => ⟨u, k b u q⟩
  tups := fun b xs q => by rw [upd_ne (ne_of_none q hn)]; exact q
  frzs := fun b u xs q => by rw [upd_ne (ne_of_none q hn)]; exact q
  tbls := fun b ps q => ⟨#[], by rw [upd_ne (ne_of_none q hn), q]; simp⟩
theorem Un.write (mu : Mut (H x)) (he : e = x ∨ H e = some (.own x)) (k : ∀ b u, b ≠ e → h.get? b = some u → h'.get? b = some u) (heo : ∃ u, h'.get? e = some u) : Un fs ex H (upd H x o) h h' := by
  have hx : ∀ b, H b = none → b ≠ x := fun b n z => by subst z; rw [n] at mu; exact mu
  have hb : ∀ b, H b = none → b ≠ e := fun b n z => by
    subst z
    rcases he with r | r
    · exact hx b n r
    · rw [n] at r; cases r
  have hm : ∀ b u, H b = some u → ¬ Mut (some u) → b ≠ x := fun b u q nm z => by subst z; rw [q] at mu; exact nm mu
  refine ⟨fun b u q n _ _ => k b u (hb b n) q, fun b u q n _ _ => ⟨u.slots, k b u (hb b n) q⟩, fun b u q n _ => by rw [upd_ne (hx b n)]; exact n, fun b u q _ => ?_,
    fun b xs q => by rw [upd_ne (hm b _ q fun z => z)]; exact q, fun b u xs q => by rw [upd_ne (hm b _ q fun z => z)]; exact q, fun b ps q => ⟨#[], by rw [upd_ne (hm b _ q fun z => z), q]; simp⟩⟩
  by_cases hbe : b = e
  · subst hbe; exact heo
  · exact ⟨u, k b u hbe q⟩
theorem Un.mono (u : Un fs ex H H1 h h1) (hs : ∀ b ∈ fs, b ∈ fs') (hx : ∀ b ∈ ex, b ∈ ex') : Un fs' ex' H H1 h h1 :=
  ⟨fun b ob q n hb he => u.keep b ob q n (fun z => hb (hs b z)) fun z => he (hx b z), fun _ _ q n _ he => u.any q n fun z => he (hx _ z), fun b ob q n he => u.free b ob q n fun z => he (hx b z), fun b ob q he => u.there b ob q fun z => he (hx b z), u.tups, u.frzs, u.tbls⟩
end
noncomputable def trk (h : Heap) (H : Hp) : List Addr := (List.range h.objs.size).filter fun a => (H a).isSome
noncomputable def hidT (h : Heap) (H : Hp) : Heap := PySem.W.hideAll h (trk h H)
theorem hidT_size (h : Heap) (H : Hp) : (hidT h H).objs.size = h.objs.size := PySem.W.hideAll_size _ _
theorem hidT_get {h : Heap} {H : Hp} {b : Addr} {o : Obj} (e : h.get? b = some o) (n : H b = none) : (hidT h H).get? b = some o :=
  PySem.W.hideAll_get _ e fun hm => by
    have q : (H b).isSome = true := (List.mem_filter.mp hm).2
    rw [n] at q; simp at q
theorem of_hidT {h : Heap} {H : Hp} {b : Addr} {o : Obj} (e : (hidT h H).get? b = some o) : h.get? b = some o ∧ H b = none := by
  have e' : h.get? b = some o := PySem.W.of_hideAll (trk h H) e
  refine ⟨e', ?_⟩
  cases q : H b with
  | none => rfl
  | some x =>
    have hm : b ∈ trk h H := List.mem_filter.mpr ⟨List.mem_range.mpr (Heap.lt_size e'), by simp [q]⟩
    have z : (hidT h H).get? b = none := PySem.W.hideAll_none (trk h H) hm
    rw [z] at e; cases e
noncomputable def allNews (g h : Heap) (L : Addr) : List (Addr × Obj) := (List.range h.objs.size).filterMap fun a => if a = L ∨ (g.get? a).isSome = true then none else (h.get? a).map fun o => (a, o)
noncomputable def rest (g h : Heap) (L d : Addr) : List (Addr × Obj) := (allNews g h L).filter fun p => decide (p.1 ≠ d)
structure Mod (K : PySem.W.Frag) (mg : Str → Option Value) (base : Heap) : Prop where
  kin : K.In base
  glob : base.Ns mainGlobals mg
  blt : ∃ mb, base.Ns builtinsNs mb ∧ ∀ x : Str, x ≠ "__name__" → mb x = bootBuiltins x
  nolimit : base.NoLimit
structure Cx where
  prog : Program
  w : World
  K : PySem.W.Frag
  mg : Str → Option Value
  base : Heap
  A : Around
  N : List Str
  s₀ : Shared
  H₀ : Hp
  env : Env
  outer : List Env
  stack : List Env
  ex : List Addr
  fn : Str → Bool
  calm : Bool
  pn : List (Addr × Obj)
  xe : Value → Shared → Prop
noncomputable def frs (l : List Env) : List Addr := l.filterMap (·.frame)
noncomputable abbrev Cx.fs (X : Cx) : List Addr := frs X.outer
noncomputable def Vis (sc : Scope) (x : Str) : Prop := sc.names.lookup x = some .local ∨ sc.names.lookup x = some .cell ∨ sc.names.lookup x = some .free
noncomputable def Loc (sc : Scope) (x : Str) : Prop := sc.names.lookup x = some .local ∨ sc.names.lookup x = some .cell
noncomputable def Look (env : Env) (h : Heap) (m : Str → Option Value) (x : Str) (u : Value) : Prop :=
  (env.kindOf x = some .local ∧ m x = some u) ∨ ((env.kindOf x = some .cell ∨ env.kindOf x = some .free) ∧ ∃ c, env.cells.lookup x = some c ∧ h.IsCell c (some u))
structure Cx.Ok (X : Cx) : Prop where
  mod : Mod X.K X.mg X.base
  kind : X.env.scope.kind = .function
  glob : X.env.globals = mainGlobals
  blt : X.env.builtins = builtinsNs
  above : X.s₀.heap.objs.size ≤ X.env.locals
  inj : ∀ x y c, X.env.cells.lookup x = some c → X.env.cells.lookup y = some c → x = y
  has : ∀ x, (X.env.kindOf x = some .cell ∨ X.env.kindOf x = some .free) → ∃ c, X.env.cells.lookup x = some c
  cab : ∀ x c, X.fn x = true → X.env.cells.lookup x = some c → X.s₀.heap.objs.size ≤ c
  hd : X.calm = true → X.A.handled = none
  frames : X.A.frames = some X.stack
  stk : X.stack = X.outer ∨ (X.stack = X.env :: X.outer ∧ X.env.frame = some X.env.locals)
  exf : ∀ b ∈ X.ex, b ≠ X.env.locals ∧ ∀ x c, X.env.cells.lookup x = some c → c ≠ b
  bs : ∀ b o, X.base.get? b = some o → X.s₀.heap.get? b = some o ∧ X.H₀ b = none
  bsz : X.base.objs.size ≤ X.s₀.heap.objs.size
  noex : ∀ b o, X.base.get? b = some o → b ∉ X.ex
  exfs : ∀ b ∈ X.ex, b ∉ X.fs
  funs : X.s₀.heap.FunFrames X.base X.outer
  frf : ∀ b ∈ X.fs, X.H₀ b = none
structure Inv (X : Cx) (pins : List (Addr × Obj)) (σ : List (Option V)) (H : Hp) (s : Shared) : Prop where
  ok : X.Ok
  os : s.os = X.s₀.os
  bare : AllBare s.gens
  base : Un X.fs X.ex X.H₀ H X.s₀.heap s.heap
  loc : ∃ m, s.heap.Ns X.env.locals m ∧ ∀ (i : Nat) (x : Str) (v : V), X.N[i]? = some x → σ[i]? = some (some v) → Vis X.env.scope x → ∃ u, RelV v u ∧ Look X.env s.heap m x u
  cell : ∀ x c, X.env.cells.lookup x = some c → ∃ v, s.heap.IsCell c v
  free : H X.env.locals = none
  freeC : ∀ x c, X.env.cells.lookup x = some c → H c = none
  pin : ∀ p ∈ X.pn ++ pins, s.heap.get? p.1 = some p.2 ∧ H p.1 = none ∧ p.1 ≠ X.env.locals ∧ p.1 ∉ X.fs ∧ ∀ v, p.2.data ≠ .cell v
  hok : HOk X.prog X.w H s.heap
  len : σ.length = X.N.length
section
variable {X : Cx} {pins : List (Addr × Obj)} {σ : List (Option V)} {H H' : Hp} {s : Shared} {h' : Heap}
theorem Cx.Ok.nofr (ok : X.Ok) {b : Addr} {o : Obj} (e : X.base.get? b = some o) : b ∉ X.fs := fun hb => by
  have := (ok.funs.mem hb).1
  rw [e] at this; cases this
theorem Inv.bs (I : Inv X pins σ H s) : ∀ b o, X.base.get? b = some o → s.heap.get? b = some o ∧ H b = none := fun b o e =>
  ⟨I.base.keep b o (I.ok.bs b o e).1 (I.ok.bs b o e).2 (I.ok.nofr e) (I.ok.noex b o e), I.base.free b o (I.ok.bs b o e).1 (I.ok.bs b o e).2 (I.ok.noex b o e)⟩
theorem Inv.bk (I : Inv X pins σ H s) : ∀ b o, X.base.get? b = some o → s.heap.get? b = some o := fun b o e => (I.bs b o e).1
theorem Inv.mod (I : Inv X pins σ H s) : Mod X.K X.mg X.base := I.ok.mod
theorem Inv.kIn (I : Inv X pins σ H s) : X.K.In s.heap := I.ok.mod.kin.keeps I.bk
theorem Inv.nolimit (I : Inv X pins σ H s) : s.heap.NoLimit := I.ok.mod.nolimit.keeps I.bk
theorem Inv.fr (I : Inv X pins σ H s) : ∃ m, Fr X.base X.env.locals s.heap m :=
  let ⟨m, hn, _⟩ := I.loc
  ⟨m, hn, I.bk, Nat.le_trans I.ok.bsz I.ok.above⟩
theorem Inv.lt (I : Inv X pins σ H s) : X.env.locals < s.heap.objs.size := let ⟨_, hn, _⟩ := I.loc; hn.lt
theorem Inv.sz (I : Inv X pins σ H s) : X.s₀.heap.objs.size ≤ s.heap.objs.size := Nat.le_trans I.ok.above (Nat.le_of_lt I.lt)
theorem Inv.nofs (I : Inv X pins σ H s) {a : Addr} (h : s.heap.objs.size ≤ a) : a ∉ X.fs := fun hb => by
  obtain ⟨_, o, ho, _⟩ := I.ok.funs.mem hb
  exact absurd (Nat.lt_of_lt_of_le (Heap.lt_size ho) (Nat.le_trans I.sz h)) (Nat.lt_irrefl _)
theorem Inv.cne (I : Inv X pins σ H s) : ∀ x c, X.env.cells.lookup x = some c → c ≠ X.env.locals := fun x c e z => by
  obtain ⟨v, o, ho, hd⟩ := I.cell x c e
  obtain ⟨m, ⟨o', es, ep, ho', hd', _⟩, _⟩ := I.loc
  rw [z, ho'] at ho; cases ho; rw [hd'] at hd; cases hd
theorem Inv.funs (I : Inv X pins σ H s) : s.heap.FunFrames X.base X.outer := by
  have all : ∀ (l : List Env), (∀ b ∈ frs l, b ∈ X.fs) → X.s₀.heap.FunFrames X.base l → s.heap.FunFrames X.base l := by
    intro l
    induction l with
    | nil => intro _ _; trivial
    | cons env r ih =>
      intro hs hl
      obtain ⟨hk, ⟨L, o, hf, hn, ho, hd⟩, hr⟩ := hl
      have hL : L ∈ X.fs := hs L (by unfold frs; rw [List.filterMap_cons, hf]; exact List.mem_cons_self)
      obtain ⟨sl, e⟩ := I.base.slot L o ho (I.ok.frf L hL) hL fun z => I.ok.exfs L z hL
      exact ⟨hk, ⟨L, _, hf, hn, e, hd⟩, ih (fun b hb => hs b (by unfold frs; rw [List.filterMap_cons, hf]; exact List.mem_cons_of_mem _ hb)) hr⟩
  exact all X.outer (fun _ hb => hb) I.ok.funs
theorem Inv.stack (I : Inv X pins σ H s) : s.heap.FunFrames X.base X.stack := by
  rcases I.ok.stk with e | ⟨e, hf⟩
  · rw [e]; exact I.funs
  · rw [e]
    obtain ⟨m, hn, _⟩ := I.loc
    refine .cons (by rw [I.ok.kind]; decide) hf hn ?_ I.funs
    exact Heap.get?_none_of_le (Nat.le_trans I.ok.bsz I.ok.above)
theorem Inv.stkSub (I : Inv X pins σ H s) : ∀ b ∈ frs X.stack, b ∈ X.env.locals :: X.fs := fun b hb => by
  rcases I.ok.stk with e | ⟨e, hf⟩
  · rw [e] at hb; exact List.mem_cons_of_mem _ hb
  · rw [e] at hb
    unfold frs at hb
    rw [List.filterMap_cons, hf] at hb
    exact hb
theorem Inv.stkFree (I : Inv X pins σ H s) : ∀ b ∈ frs X.stack, H b = none := fun b hb => by
  rcases List.mem_cons.mp (I.stkSub b hb) with e | hb
  · rw [e]; exact I.free
  · obtain ⟨_, o, ho, _⟩ := I.ok.funs.mem hb
    exact I.base.free b o ho (I.ok.frf b hb) fun z => I.ok.exfs b z hb
theorem Inv.step {g' : Array GenState} {t' : Nat} {d' : Drawn} {ch : List Addr} (I : Inv X pins σ H s)
    (hch : ∀ b ∈ ch, (b ∈ X.ex ∨ X.s₀.heap.objs.size ≤ b) ∧ b ≠ X.env.locals ∧ (∀ x c, X.env.cells.lookup x = some c → c ≠ b) ∧ ∀ p ∈ X.pn ++ pins, p.1 ≠ b)
    (keep : ∀ b o, b ≠ X.env.locals → b ∉ X.fs → b ∉ ch → s.heap.get? b = some o → H b = none → h'.get? b = some o)
    (slot : ∀ b o, b ≠ X.env.locals → b ∈ X.fs → b ∉ ch → s.heap.get? b = some o → H b = none → ∃ sl, h'.get? b = some { o with slots := sl }) (free : ∀ b o, b ∉ ch → s.heap.get? b = some o → H b = none → H' b = none)
    (there : ∀ b o, b ∉ ch → s.heap.get? b = some o → ∃ o', h'.get? b = some o')
    (tups : ∀ b xs, H b = some (.tup xs) → H' b = some (.tup xs)) (frzs : ∀ b o u, H b = some (.frz o u) → H' b = some (.frz o u)) (tbls : ∀ b ps, H b = some (.tbl ps) → ∃ more, H' b = some (.tbl (ps ++ more)))
    (ns : ∀ m, s.heap.Ns X.env.locals m → h'.Ns X.env.locals m) (hok : HOk X.prog X.w H' h') (hg : AllBare g') :
    Inv X pins σ H' { s with heap := h', gens := g', drawn := d', toks := t' } := by
  have neL : ∀ b o, X.s₀.heap.get? b = some o → b ≠ X.env.locals := fun b o e => Nat.ne_of_lt (Nat.lt_of_lt_of_le (Heap.lt_size e) I.ok.above)
  have neC : ∀ b o, X.s₀.heap.get? b = some o → b ∉ X.ex → b ∉ ch := fun b o e hx hb => by
    rcases (hch b hb).1 with z | z
    · exact hx z
    · exact absurd (Nat.lt_of_lt_of_le (Heap.lt_size e) z) (Nat.lt_irrefl _)
  have cellK : ∀ x c, X.env.cells.lookup x = some c → ∀ v, s.heap.IsCell c v → h'.IsCell c v := fun x c e v ⟨o, ho, hd⟩ => by
    have nch : c ∉ ch := fun z => (hch c z).2.2.1 x c e rfl
    by_cases hc : c ∈ X.fs
    · obtain ⟨sl, q⟩ := slot c o (I.cne x c e) hc nch ho (I.freeC x c e)
      exact ⟨_, q, hd⟩
    · exact ⟨o, keep c o (I.cne x c e) hc nch ho (I.freeC x c e), hd⟩
  refine ⟨I.ok, I.os, hg, ⟨fun b o e n hb hx => ?_, fun b o e n hb hx => ?_, fun b o e n hx => ?_, fun b o e hx => ?_, fun b xs e => tups b xs (I.base.tups b xs e), fun b o xs e => frzs b o xs (I.base.frzs b o xs e), fun b ps e => ?_⟩, ?_, fun x c e => ?_, ?_, fun x c e => ?_, fun p hp => ?_, hok, I.len⟩
  · exact keep b o (neL b o e) hb (neC b o e hx) (I.base.keep b o e n hb hx) (I.base.free b o e n hx)
  · obtain ⟨sl, e1⟩ := I.base.slot b o e n hb hx
    obtain ⟨sl', e2⟩ := slot b _ (neL b o e) hb (neC b o e hx) e1 (I.base.free b o e n hx)
    exact ⟨sl', e2⟩
  · obtain ⟨o', e1⟩ := I.base.there b o e hx
    exact free b o' (neC b o e hx) e1 (I.base.free b o e n hx)
  · obtain ⟨o', e1⟩ := I.base.there b o e hx
    exact there b o' (neC b o e hx) e1
  · obtain ⟨m1, e1⟩ := I.base.tbls b ps e
    obtain ⟨m2, e2⟩ := tbls b _ e1
    exact ⟨m1 ++ m2, by rw [e2, Array.append_assoc]⟩
  · obtain ⟨m, hn, hl⟩ := I.loc
    refine ⟨m, ns m hn, fun i x v e1 e2 e3 => ?_⟩
    obtain ⟨u, r, l⟩ := hl i x v e1 e2 e3
    refine ⟨u, r, ?_⟩
    rcases l with l | ⟨k, c, e, z⟩
    · exact .inl l
    · exact .inr ⟨k, c, e, cellK x c e _ z⟩
  · obtain ⟨v, z⟩ := I.cell x c e
    exact ⟨v, cellK x c e v z⟩
  · obtain ⟨m, ⟨o, _, _, ho, _⟩, _⟩ := I.loc
    exact free _ o (fun z => (hch _ z).2.1 rfl) ho I.free
  · obtain ⟨v, o, ho, hd⟩ := I.cell x c e
    exact free c o (fun z => (hch c z).2.2.1 x c e rfl) ho (I.freeC x c e)
  · obtain ⟨e, n, ne, nf, d⟩ := I.pin p hp
    have nch : p.1 ∉ ch := fun z => (hch p.1 z).2.2.2 p hp rfl
    exact ⟨keep p.1 p.2 ne nf nch e n, free p.1 p.2 nch e n, ne, nf, d⟩
theorem Inv.un {t' : Nat} (I : Inv X pins σ H s) (u : Un X.fs [] H H' s.heap h') (hok : HOk X.prog X.w H' h') : Inv X pins σ H' { s with heap := h', toks := t' } := by
  obtain ⟨m, ⟨o, es, ep, ho, r⟩, _⟩ := id I.loc
  obtain ⟨sl, hL⟩ := u.any ho I.free (by simp)
  exact I.step (g' := s.gens) (d' := s.drawn) (ch := []) (fun _ z => nomatch z) (fun b o _ hb _ e n => u.keep b o e n hb (by simp)) (fun b o _ hb _ e n => u.slot b o e n hb (by simp)) (fun b o _ e n => u.free b o e n (by simp)) (fun b o _ e => u.there b o e (by simp)) u.tups u.frzs u.tbls (fun m' hm => by
    obtain ⟨o', es', ep', ho', r'⟩ := hm
    rw [ho] at ho'; cases ho'
    exact ⟨_, es', ep', hL, r'⟩) hok I.bare
theorem Inv.call {g' : Array GenState} {t' : Nat} {d' : Drawn} {ch : List Addr} (I : Inv X pins σ H s) (u : Un (frs X.stack) ch H H' s.heap h') (hok : HOk X.prog X.w H' h') (hg : AllBare g')
    (hch : ∀ b ∈ ch, (b ∈ X.ex ∨ X.s₀.heap.objs.size ≤ b) ∧ b ≠ X.env.locals ∧ (∀ x c, X.env.cells.lookup x = some c → c ≠ b) ∧ ∀ p ∈ X.pn ++ pins, p.1 ≠ b) :
    Inv X pins σ H' { s with heap := h', gens := g', drawn := d', toks := t' } := by
  obtain ⟨m, ⟨o, es, ep, ho, r⟩, _⟩ := id I.loc
  obtain ⟨sl, hL⟩ := u.any ho I.free fun z => (hch _ z).2.1 rfl
  exact I.step (ch := ch) hch (fun b o hL hb hc e n => u.keep b o e n (fun z => (List.mem_cons.mp (I.stkSub b z)).elim hL hb) hc) (fun b o _ _ hc e n => u.any e n hc) (fun b o hc e n => u.free b o e n hc) (fun b o hc e => u.there b o e hc) u.tups u.frzs u.tbls (fun m' hm => by
    obtain ⟨o', es', ep', ho', r'⟩ := hm
    rw [ho] at ho'; cases ho'
    exact ⟨_, es', ep', hL, r'⟩) hok hg
theorem Inv.turned {t' : Nat} {it : Addr} (I : Inv X pins σ H s) (k : ∀ b o, b ≠ it → s.heap.get? b = some o → h'.get? b = some o) (hn : H it = none) (hL : it ≠ X.env.locals)
    (h1 : it ∈ X.ex ∨ X.s₀.heap.objs.size ≤ it) (h2 : ∀ x c, X.env.cells.lookup x = some c → c ≠ it) (h3 : ∀ p ∈ X.pn ++ pins, p.1 ≠ it) : Inv X pins σ H { s with heap := h', toks := t' } := by
  have nit : ∀ b u, H b = some u → b ≠ it := fun b u e z => by rw [z, hn] at e; cases e
  refine I.step (g' := s.gens) (d' := s.drawn) (ch := [it]) (fun b hb => ?_) (fun b o _ _ hc e _ => k b o (fun z => hc (by simp [z])) e) (fun b o _ _ hc e _ => ⟨o.slots, k b o (fun z => hc (by simp [z])) e⟩) (fun _ _ _ _ n => n)
    (fun b o hc e => ⟨o, k b o (fun z => hc (by simp [z])) e⟩) (fun _ _ e => e) (fun _ _ _ e => e) (fun b ps e => ⟨#[], by rw [e]; simp⟩) (fun m hm => ?_) (fun b u e => ?_) I.bare
  · have e : b = it := by simpa using hb
    subst e
    exact ⟨h1, hL, h2, h3⟩
  · obtain ⟨o, es, ep, ho, r⟩ := hm
    exact ⟨o, es, ep, k _ o (Ne.symm hL) ho, r⟩
  · refine (I.hok b u e).stay (fun c v hc q => k c v ?_ q) (fun _ q => q) fun _ _ q => q
    rcases hc with z | z
    · rw [z]; exact nit b u e
    · exact nit c _ z
theorem Inv.tok (I : Inv X pins σ H s) (t : Nat) : Inv X pins σ H { s with toks := t } := I.un (h' := s.heap) (t' := t) Un.refl I.hok
theorem Inv.kept {t' : Nat} (I : Inv X pins σ H s) (k : ∀ b u, s.heap.get? b = some u → h'.get? b = some u) : Inv X pins σ H { s with heap := h', toks := t' } := I.un (Un.kept k) (I.hok.kept k)
theorem Inv.laid {a : Addr} {o : HO} {t' : Nat} (I : Inv X pins σ H s) (k : ∀ b u, s.heap.get? b = some u → h'.get? b = some u) (hp : s.heap.objs.size ≤ a) (new : ObjOk X.prog X.w (upd H a o) h' a o) :
    Inv X pins σ (upd H a o) { s with heap := h', toks := t' } := I.un (Un.laid k hp (I.hok.fresh hp)) (I.hok.laid k hp new)
theorem Inv.write {x e : Addr} {o : HO} {t' : Nat} (I : Inv X pins σ H s) (mu : Mut (H x)) (he : e = x ∨ H e = some (.own x)) (k : ∀ b u, b ≠ e → s.heap.get? b = some u → h'.get? b = some u) (heo : ∃ u, h'.get? e = some u)
    (new : ObjOk X.prog X.w (upd H x o) h' x o) : Inv X pins σ (upd H x o) { s with heap := h', toks := t' } := I.un (Un.write mu he k heo) (I.hok.write mu he k heo new)
theorem Inv.weak {σ' : List (Option V)} (I : Inv X pins σ H s) (hl : σ'.length = σ.length) (w : ∀ (i : Nat) v, σ'[i]? = some (some v) → σ[i]? = some (some v)) : Inv X pins σ' H s :=
  ⟨I.ok, I.os, I.bare, I.base, let ⟨m, hn, hl'⟩ := I.loc; ⟨m, hn, fun i x v e1 e2 e3 => hl' i x v e1 (w i v e2) e3⟩, I.cell, I.free, I.freeC, I.pin, I.hok, hl.trans I.len⟩
theorem Inv.pins_of {pins' : List (Addr × Obj)} (I : Inv X pins σ H s) (h : ∀ p ∈ pins', s.heap.get? p.1 = some p.2 ∧ H p.1 = none ∧ p.1 ≠ X.env.locals ∧ p.1 ∉ X.fs ∧ ∀ v, p.2.data ≠ .cell v) : Inv X pins' σ H s :=
  ⟨I.ok, I.os, I.bare, I.base, I.loc, I.cell, I.free, I.freeC, fun p hp => (List.mem_append.mp hp).elim (fun z => I.pin p (List.mem_append_left _ z)) (h p), I.hok, I.len⟩
theorem nodup_ix {N : List Str} (hN : N.Nodup) {i j : Nat} {x : Str} (a : N[i]? = some x) (b : N[j]? = some x) : i = j := by
  obtain ⟨h1, e1⟩ := List.getElem?_eq_some_iff.mp a
  obtain ⟨h2, e2⟩ := List.getElem?_eq_some_iff.mp b
  exact (List.getElem_inj hN).mp (e1.trans e2.symm)
theorem store_ok2 {M : Model} {A : Around} {E : Value → Shared → Prop} {i : Nat} {x : Str} {v : V} {u : Value} {Q : Unit → Shared → Prop} (I : Inv X pins σ H s) (hN : X.N.Nodup) (hi : X.N[i]? = some x) (hx : Loc X.env.scope x) (r : RelV v u)
    (h : ∀ s', Inv X pins (σ.set i (some v)) H s' → (∃ a, Heap.SameBut a s.heap s'.heap ∧ (a = X.env.locals ∨ X.env.cells.lookup x = some a)) → Q () s') (hf : X.fn x = true ∨ X.env.scope.names.lookup x = some .local := by first | exact .inl rfl | exact .inr rfl | assumption) : wpAny M A (storeName X.env x u) Q E s := by
  obtain ⟨m, hn, hl⟩ := id I.loc
  have hcls : (X.env.scope.kind == .class || (X.env.scope.kind == .module && X.env.locals != X.env.globals)) = false := by rw [I.ok.kind]; rfl
  have hiσ : i < σ.length := by rw [I.len]; exact (List.getElem?_eq_some_iff.mp hi).1
  have cne := I.cne
  have tracked : ∀ {a : Addr} {h' : Heap}, (∃ o, s.heap.get? a = some o ∧ H a = none) → Heap.SameBut a s.heap h' → HOk X.prog X.w H h' := fun {a h'} ha hs b ob e => by
    obtain ⟨_, _, hfree⟩ := ha
    refine (I.hok b ob e).stay (fun c w' hc q => (hs.2 c ?_).trans q) (fun _ q => q) fun _ _ q => q
    rintro rfl
    rcases hc with rfl | hc
    · rw [hfree] at e; cases e
    · rw [hfree] at hc; cases hc
  rcases hx with hk | hk
  · refine wpAny_storeName_local hk hn (fun h' hn' hs => ?_) hcls
    obtain ⟨oL, _, _, hoL, _⟩ := id hn
    refine h _ ⟨I.ok, I.os, I.bare, ⟨fun b o e n hb hx => ?_, fun b o e n hb hx => ?_, I.base.free, fun b o e hx => ?_, I.base.tups, I.base.frzs, I.base.tbls⟩, ⟨_, hn', fun j y v' e1 e2 e3 => ?_⟩, fun y c e => ?_, I.free, I.freeC, fun p hp => ?_, tracked ⟨oL, hoL, I.free⟩ hs, by simpa using I.len⟩ ⟨_, hs, .inl rfl⟩
    · exact (hs.2 b (Nat.ne_of_lt (Nat.lt_of_lt_of_le (Heap.lt_size e) I.ok.above))).trans (I.base.keep b o e n hb hx)
    · obtain ⟨sl, e1⟩ := I.base.slot b o e n hb hx
      exact ⟨sl, (hs.2 b (Nat.ne_of_lt (Nat.lt_of_lt_of_le (Heap.lt_size e) I.ok.above))).trans e1⟩
    · obtain ⟨o', e1⟩ := I.base.there b o e hx
      exact ⟨o', (hs.2 b (Nat.ne_of_lt (Nat.lt_of_lt_of_le (Heap.lt_size e) I.ok.above))).trans e1⟩
    · by_cases hj : j = i
      · subst hj
        rw [hi] at e1; cases e1
        rw [List.getElem?_set_self hiσ] at e2
        cases e2
        exact ⟨u, r, .inl ⟨hk, by simp⟩⟩
      · rw [List.getElem?_set_ne (Ne.symm hj)] at e2
        obtain ⟨u', r', q⟩ := hl j y v' e1 e2 e3
        refine ⟨u', r', ?_⟩
        rcases q with ⟨k, e⟩ | ⟨k, c, e, z⟩
        · refine .inl ⟨k, ?_⟩
          have : y ≠ x := fun e => hj (nodup_ix hN e1 (e ▸ hi))
          simp [this, e]
        · exact .inr ⟨k, c, e, z.sameBut hs (cne y c e)⟩
    · obtain ⟨w', z⟩ := I.cell y c e
      exact ⟨w', z.sameBut hs (cne y c e)⟩
    · obtain ⟨e, n, ne, nf, d⟩ := I.pin p hp
      exact ⟨(hs.2 p.1 ne).trans e, n, ne, nf, d⟩
  · have hfn : X.fn x = true := by
      rcases hf with z | z
      · exact z
      · rw [z] at hk; cases hk
    obtain ⟨c, hc⟩ := I.ok.has x (.inl hk)
    obtain ⟨w', z⟩ := I.cell x c hc
    refine wpAny_storeName_cell I.ok.kind hk hc z (fun h' hc' hs => ?_)
    obtain ⟨oc, hoc, hocd⟩ := id z
    refine h { s with heap := h' } ⟨I.ok, I.os, I.bare, ⟨fun b o e n hb hx => ?_, fun b o e n hb hx => ?_, I.base.free, fun b o e hx => ?_, I.base.tups, I.base.frzs, I.base.tbls⟩, ⟨m, hn.sameBut hs (Ne.symm (cne x c hc)), fun j y v' e1 e2 e3 => ?_⟩, fun y c' e => ?_, I.free, I.freeC, fun p hp => ?_, tracked ⟨oc, hoc, I.freeC x c hc⟩ hs, by simpa using I.len⟩ ⟨c, hs, .inr hc⟩
    · exact (hs.2 b (Nat.ne_of_lt (Nat.lt_of_lt_of_le (Heap.lt_size e) (I.ok.cab x c hfn hc)))).trans (I.base.keep b o e n hb hx)
    · obtain ⟨sl, e1⟩ := I.base.slot b o e n hb hx
      exact ⟨sl, (hs.2 b (Nat.ne_of_lt (Nat.lt_of_lt_of_le (Heap.lt_size e) (I.ok.cab x c hfn hc)))).trans e1⟩
    · obtain ⟨o', e1⟩ := I.base.there b o e hx
      exact ⟨o', (hs.2 b (Nat.ne_of_lt (Nat.lt_of_lt_of_le (Heap.lt_size e) (I.ok.cab x c hfn hc)))).trans e1⟩
    · by_cases hj : j = i
      · subst hj
        rw [hi] at e1; cases e1
        rw [List.getElem?_set_self hiσ] at e2
        cases e2
        exact ⟨u, r, .inr ⟨.inl hk, c, hc, hc'⟩⟩
      · rw [List.getElem?_set_ne (Ne.symm hj)] at e2
        obtain ⟨u', r', q⟩ := hl j y v' e1 e2 e3
        refine ⟨u', r', ?_⟩
        rcases q with q | ⟨k, c', e, z'⟩
        · exact .inl q
        · refine .inr ⟨k, c', e, z'.sameBut hs ?_⟩
          rintro rfl
          exact hj (nodup_ix hN e1 (I.ok.inj _ _ _ e hc ▸ hi))
    · by_cases hcc : c' = c
      · subst hcc; exact ⟨_, hc'⟩
      · obtain ⟨w2, z2⟩ := I.cell y c' e
        exact ⟨w2, z2.sameBut hs hcc⟩
    · obtain ⟨e, n, ne, nf, d⟩ := I.pin p hp
      refine ⟨(hs.2 p.1 ?_).trans e, n, ne, nf, d⟩
      intro q
      rw [q, hoc] at e
      have q' : oc = p.2 := Option.some.inj e
      exact d w' (by rw [← q']; exact hocd)
theorem store_ok {M : Model} {A : Around} {E : Value → Shared → Prop} {i : Nat} {x : Str} {v : V} {u : Value} {Q : Unit → Shared → Prop} (I : Inv X pins σ H s) (hN : X.N.Nodup) (hi : X.N[i]? = some x) (hx : Loc X.env.scope x) (r : RelV v u)
    (h : ∀ s', Inv X pins (σ.set i (some v)) H s' → Q () s') (hf : X.fn x = true ∨ X.env.scope.names.lookup x = some .local := by first | exact .inl rfl | exact .inr rfl | assumption) : wpAny M A (storeName X.env x u) Q E s :=
  store_ok2 I hN hi hx r (fun s' I' _ => h s' I') hf
theorem Inv.call' {s' : Shared} {ch : List Addr} (I : Inv X pins σ H s) (ho : s'.os = s.os) (u : Un (frs X.stack) ch H H' s.heap s'.heap) (hok : HOk X.prog X.w H' s'.heap) (hg : AllBare s'.gens)
    (hch : ∀ b ∈ ch, (b ∈ X.ex ∨ X.s₀.heap.objs.size ≤ b) ∧ b ≠ X.env.locals ∧ (∀ x c, X.env.cells.lookup x = some c → c ≠ b) ∧ ∀ p ∈ X.pn ++ pins, p.1 ≠ b) : Inv X pins σ H' s' := by
  obtain ⟨h', g', d', t', o'⟩ := s'
  have e : o' = s.os := ho
  subst e
  exact I.call (g' := g') (t' := t') (d' := d') u hok hg hch
end
noncomputable abbrev XK := Value → Option Addr → Hp → Prop
noncomputable abbrev St := List (Option V)
noncomputable abbrev VK := V → Hp → Prop
noncomputable abbrev TE := St → Hp → VK → Prop
noncomputable abbrev TT := St → Hp → (Bool → Hp → Prop) → Prop
noncomputable abbrev TA := St → Hp → (List V → Hp → Prop) → Prop
structure Ends where
  nx : St → Hp → Prop
  rt : VK
  bk : St → Hp → Prop := fun _ _ => False
  ct : St → Hp → Prop := fun _ _ => False
noncomputable abbrev TS := Ends → St → Hp → Prop
noncomputable def EP (X : Cx) (pins : List (Addr × Obj)) (σ : St) (Q : VK) (u : Value) (s' : Shared) : Prop := ∃ v H', Inv X pins σ H' s' ∧ RelV v u ∧ Q v H'
noncomputable def TP (X : Cx) (pins : List (Addr × Obj)) (σ : St) (Q : Bool → Hp → Prop) (b : Bool) (s' : Shared) : Prop := ∃ H', Inv X pins σ H' s' ∧ Q b H'
noncomputable def AP (X : Cx) (pins : List (Addr × Obj)) (σ : St) (Q : List V → Hp → Prop) (us : List Value) (s' : Shared) : Prop := ∃ vs H', Inv X pins σ H' s' ∧ Vals vs us ∧ Q vs H'
noncomputable def SP (X : Cx) (pins : List (Addr × Obj)) (D : Ends) (f : Flow) (s' : Shared) : Prop :=
  match f with
  | .next => ∃ σ' H', Inv X pins σ' H' s' ∧ D.nx σ' H'
  | .brk => ∃ σ' H', Inv X pins σ' H' s' ∧ D.bk σ' H'
  | .cont => ∃ σ' H', Inv X pins σ' H' s' ∧ D.ct σ' H'
  | .ret u => ∃ v σ' H', Inv X pins σ' H' s' ∧ RelV v u ∧ D.rt v H'
noncomputable def PE (X : Cx) (e : Expr) (t : TE) : Prop :=
  ∀ (pins : List (Addr × Obj)) (s : Shared) (σ : St) (H : Hp) (Q : VK), Inv X pins σ H s → t σ H Q → wpAny (model X.prog X.w) X.A (eval e X.env) (EP X pins σ Q) X.xe s
noncomputable def PT (X : Cx) (e : Expr) (t : TT) : Prop :=
  ∀ (pins : List (Addr × Obj)) (s : Shared) (σ : St) (H : Hp) (Q : Bool → Hp → Prop), Inv X pins σ H s → t σ H Q → wpAny (model X.prog X.w) X.A (isTrue e X.env (eval e X.env)) (TP X pins σ Q) X.xe s
noncomputable def PW (X : Cx) (e : Expr) (t : TT) : Prop :=
  ∀ (whole : Sem Value) (pins : List (Addr × Obj)) (s : Shared) (σ : St) (H : Hp) (Q : Bool → Hp → Prop), Inv X pins σ H s → t σ H Q → wpAny (model X.prog X.w) X.A (isTrue e X.env whole) (TP X pins σ Q) X.xe s
theorem PW.pt {X : Cx} {e : Expr} {t : TT} (h : PW X e t) : PT X e t := h _
noncomputable def PA (X : Cx) (es : List Expr) (t : TA) : Prop :=
  ∀ (pos : Pos) (pins : List (Addr × Obj)) (s : Shared) (σ : St) (H : Hp) (Q : List V → Hp → Prop), Inv X pins σ H s → t σ H Q → wpAny (model X.prog X.w) X.A (spliced (backTo pos (starEach es X.env))) (AP X pins σ Q) X.xe s
noncomputable def PS (X : Cx) (st : Stmt) (t : TS) : Prop :=
  ∀ (pins : List (Addr × Obj)) (s : Shared) (σ : St) (H : Hp) (D : Ends), Inv X pins σ H s → t D σ H → wpAny (model X.prog X.w) X.A (exec st X.env) (SP X pins D) X.xe s
noncomputable def PSs (X : Cx) (st : List Stmt) (t : TS) : Prop :=
  ∀ (pins : List (Addr × Obj)) (s : Shared) (σ : St) (H : Hp) (D : Ends), Inv X pins σ H s → t D σ H → wpAny (model X.prog X.w) X.A (execs st X.env) (SP X pins D) X.xe s
theorem thn {α : Type} {t : Sem α} {Q Q' : α → Shared → Prop} {M : Model} {A : Around} {E : Value → Shared → Prop} {s : Shared} (h : wpAny M A t Q E s) (hQ : ∀ a s, Q a s → Q' a s) : wpAny M A t Q' E s := wpAny_mono h hQ fun _ _ x => x
section
variable {X : Cx}
theorem bin {a b : Expr} {ta tb : TE} (ha : PE X a ta) (hb : PE X b tb) {pins : List (Addr × Obj)} {s : Shared} {σ : St} {H : Hp} {R : V → V → Hp → Prop} (I : Inv X pins σ H s) (h : ta σ H fun x H1 => tb σ H1 fun y H2 => R x y H2)
    {α : Type} {Q : α → Shared → Prop} {f : Value → Value → Sem α}
    (hf : ∀ v u s2 x y H2, Inv X pins σ H2 s2 → RelV x v → RelV y u → R x y H2 → wpAny (model X.prog X.w) X.A (f v u) Q X.xe s2) :
    wpAny (model X.prog X.w) X.A (eval a X.env) (fun v s₁ => wpAny (model X.prog X.w) X.A (eval b X.env) (fun u s₂ => wpAny (model X.prog X.w) X.A (f v u) Q X.xe s₂) X.xe s₁) X.xe s := by
  refine thn (ha pins s σ H _ I h) fun v s1 ⟨x, H1, I1, r1, q1⟩ => ?_
  refine thn (hb pins s1 σ H1 _ I1 q1) fun u s2 ⟨y, H2, I2, r2, q2⟩ => ?_
  exact hf v u s2 x y H2 I2 r1 r2 q2
noncomputable def tVar (i : Nat) : TE := fun σ H Q => ∃ v, σ[i]? = some (some v) ∧ Q v H
noncomputable def tC (v : V) : TE := fun _ H Q => Q v H
theorem pe_var {i : Nat} {x : Str} {pos : Pos} (hN : X.N[i]? = some x) (hv : Vis X.env.scope x) (hd : (x == ("__debug__" : Str)) = false := by decide) (hcd : (x == ("__classdict__" : Str)) = false := by decide) : PE X (.Name x pos) (tVar i) := by
  intro pins s σ H Q I h
  obtain ⟨v, e, h⟩ := h
  obtain ⟨m, hn, hl⟩ := I.loc
  obtain ⟨u, r, l⟩ := hl i x v hN e hv
  have fin : EP X pins σ Q u s := ⟨v, H, I, r, h⟩
  rcases l with ⟨hk, hm⟩ | ⟨hk, c, hc, hcell⟩
  · exact wpAny_Name (wpAny_loadName_local I.ok.kind hk hn hm fin) hd
  · rcases hk with hk | hk
    · exact wpAny_Name (wpAny_loadName_cell I.ok.kind hk hc hcell fin) hd
    · exact wpAny_Name (wpAny_loadName_free I.ok.kind hk hc hcell fin hcd) hd
theorem pe_int {i j pos} : PE X (.Constant (.int i) j pos) (tC (.int i)) := fun _ _ _ H _ I h => wpAny_Constant_int ⟨.int i, H, I.tok _, ⟨_, rfl⟩, h⟩
theorem pe_bl {b j pos} : PE X (.Constant (.bool b) j pos) (tC (.bl b)) := fun _ _ _ H _ I h => Constant_bool ⟨.bl b, H, I, rfl, h⟩
theorem pe_non {j pos} : PE X (.Constant .none j pos) (tC .non) := fun _ _ _ H _ I h => Constant_none ⟨.non, H, I, rfl, h⟩
theorem pe_str {x j pos} : PE X (.Constant (.str x) j pos) (tC (.str x)) := fun _ _ _ H _ I h => Calls.Constant_str ⟨.str x, H, I.tok _, ⟨_, rfl⟩, h⟩
noncomputable def Gl (X : Cx) (x : Str) : Prop := X.env.kindOf x = some .globalImplicit
theorem ld_glob {E : Value → Shared → Prop} {pins : List (Addr × Obj)} {s : Shared} {σ : St} {H : Hp} {x : Str} {u : Value} {pos : Pos} {Q : Value → Shared → Prop} (I : Inv X pins σ H s) (hg : Gl X x) (hm : X.mg x = some u) (h : Q u s)
    (hd : (x == ("__debug__" : Str)) = false := by decide) : wpAny (model X.prog X.w) X.A (eval (.Name x pos) X.env) Q E s :=
  Calls.Name_function_global I.ok.kind hg (Calls.loadGlobal_global (by rw [I.ok.glob]; exact I.mod.glob.keeps I.bk) hm h) hd
theorem ld_blt {E : Value → Shared → Prop} {pins : List (Addr × Obj)} {s : Shared} {σ : St} {H : Hp} {x : Str} {u : Value} {pos : Pos} {Q : Value → Shared → Prop} (I : Inv X pins σ H s) (hg : Gl X x) (hm : X.mg x = none) (hv : bootBuiltins x = some u) (h : Q u s)
    (hn : x ≠ "__name__" := by decide) (hd : (x == ("__debug__" : Str)) = false := by decide) : wpAny (model X.prog X.w) X.A (eval (.Name x pos) X.env) Q E s := by
  obtain ⟨mb, h1, h2⟩ := I.mod.blt
  exact Calls.Name_function_global I.ok.kind hg (Calls.loadGlobal_builtin (by rw [I.ok.glob]; exact I.mod.glob.keeps I.bk) hm (by rw [I.ok.blt]; exact h1.keeps I.bk) ((h2 x hn).trans hv) h) hd
theorem pe_glob {x : Str} {v : V} {u : Value} {pos : Pos} (hg : Gl X x) (hm : X.mg x = some u) (r : RelV v u) (hd : (x == ("__debug__" : Str)) = false := by decide) : PE X (.Name x pos) (tC v) :=
  fun _ _ _ H _ I h => ld_glob I hg hm ⟨v, H, I, r, h⟩ hd
theorem pe_bltn {x : Str} {v : V} {u : Value} {pos : Pos} (hg : Gl X x) (hm : X.mg x = none) (hv : bootBuiltins x = some u) (r : RelV v u) (hn : x ≠ "__name__" := by decide) (hd : (x == ("__debug__" : Str)) = false := by decide) : PE X (.Name x pos) (tC v) :=
  fun _ _ _ H _ I h => ld_blt I hg hm hv ⟨v, H, I, r, h⟩ hn hd
noncomputable def t2I (ta tb : TE) (k : Int → Int → Hp → Prop) : St → Hp → Prop := fun σ H => ta σ H fun x H1 => tb σ H1 fun y H2 => ∃ i j, x = .int i ∧ y = .int j ∧ k i j H2
noncomputable def tAdd (ta tb : TE) : TE := fun σ H Q => t2I ta tb (fun i j H2 => Q (.int (i + j)) H2) σ H
noncomputable def tSub (ta tb : TE) : TE := fun σ H Q => t2I ta tb (fun i j H2 => Q (.int (i - j)) H2) σ H
noncomputable def tMul (ta tb : TE) : TE := fun σ H Q => t2I ta tb (fun i j H2 => (-(2 ^ 64) < i ∧ i < 2 ^ 64) ∧ Q (.int (i * j)) H2) σ H
variable {a b : Expr} {ta tb : TE} {pos : Pos}
noncomputable def PC (X : Cx) (op : CmpOp) (a b : Expr) (t : TE) : Prop :=
  ∀ (pins : List (Addr × Obj)) (s : Shared) (σ : St) (H : Hp) (Q : VK), Inv X pins σ H s → t σ H Q →
    wpAny (model X.prog X.w) X.A (eval a X.env) (fun v s₁ => wpAny (model X.prog X.w) X.A (eval b X.env) (fun u s₂ => wpAny (model X.prog X.w) X.A (compareOp op v u) (EP X pins σ Q) X.xe s₂) X.xe s₁) X.xe s
theorem nobehind (b : Expr) {op : CmpOp} (h : op ≠ .In) (h2 : op ≠ .NotIn) : behindInMarks op b = false := by
  have e1 : (op == CmpOp.In) = false := by cases op <;> first | rfl | exact absurd rfl h
  have e2 : (op == CmpOp.NotIn) = false := by cases op <;> first | rfl | exact absurd rfl h2
  cases b <;> simp [behindInMarks, e1, e2]
noncomputable def tCmp (p : Int → Int → Bool) (ta tb : TE) : TE := fun σ H Q => t2I ta tb (fun i j H2 => Q (.bl (p i j)) H2) σ H
noncomputable abbrev tLt : TE → TE → TE := tCmp fun i j => decide (i < j)
noncomputable abbrev tLe : TE → TE → TE := tCmp fun i j => decide (i ≤ j)
noncomputable abbrev tGt : TE → TE → TE := tCmp fun i j => decide (j < i)
noncomputable abbrev tGe : TE → TE → TE := tCmp fun i j => decide (j ≤ i)
noncomputable abbrev tEqI : TE → TE → TE := tCmp fun i j => decide (i = j)
noncomputable abbrev tNeI : TE → TE → TE := tCmp fun i j => !decide (i = j)
noncomputable def tIsN (ta : TE) : TE := fun σ H Q => ta σ H fun x H1 => Q (.bl (decide (x = .non))) H1
noncomputable def tNotN (ta : TE) : TE := fun σ H Q => ta σ H fun x H1 => Q (.bl (!decide (x = .non))) H1
theorem RelV.none_iff {x : V} {v : Value} (r : RelV x v) : (v == Value.none) = decide (x = .non) := by
  cases x with
  | non => cases r; rfl
  | bl _ => cases r; rfl
  | int _ => obtain ⟨t, rfl⟩ := r; rfl
  | str _ => obtain ⟨t, rfl⟩ := r; rfl
  | byt _ => obtain ⟨t, rfl⟩ := r; rfl
  | flt _ => obtain ⟨t, rfl⟩ := r; rfl
  | ref _ => cases r; rfl
  | ty _ => cases r; rfl
theorem pc_isN {j pos'} (ha : PE X a ta) : PC X .Is a (.Constant .none j pos') (tIsN ta) := by
  intro pins s σ H Q I h
  refine thn (ha pins s σ H _ I h) fun v s1 ⟨x, H1, I1, r1, q1⟩ => ?_
  exact Constant_none (is_none_gen ⟨.bl _, H1, I1, by rw [r1.none_iff]; rfl, q1⟩)
theorem pc_notN {j pos'} (ha : PE X a ta) : PC X .IsNot a (.Constant .none j pos') (tNotN ta) := by
  intro pins s σ H Q I h
  refine thn (ha pins s σ H _ I h) fun v s1 ⟨x, H1, I1, r1, q1⟩ => ?_
  exact Constant_none (isnot_none_gen ⟨.bl _, H1, I1, by rw [r1.none_iff]; rfl, q1⟩)
noncomputable def tB (t : TE) : TT := fun σ H Q => t σ H fun x H1 => ∃ c, x = .bl c ∧ Q c H1
theorem pe_cmp {op : CmpOp} {t : TE} (h : PC X op a b t) (h1 : behindInMarks op b = false := by first | exact nobehind _ (by decide) (by decide) | rfl) : PE X (.Compare a [op] [b] pos) t := fun pins s σ H Q I hw => wpAny_Compare1 (h pins s σ H Q I hw) h1
theorem pt_cmp {op : CmpOp} {t : TE} (h : PC X op a b t) (h1 : behindInMarks op b = false := by first | exact nobehind _ (by decide) (by decide) | rfl) : PT X (.Compare a [op] [b] pos) (tB t) := by
  intro pins s σ H Q I hw
  refine wpAny_isTrue_Compare1 (thn (h pins s σ H _ I hw) fun v s1 h1 => thn h1 fun u s2 h2 => thn h2 fun c s3 ⟨x, H1, I1, r1, q1⟩ => ?_) h1
  obtain ⟨d, rfl, q⟩ := q1
  cases r1
  exact wpAny_truthy_bool ⟨H1, I1, q⟩
theorem pt_val {e : Expr} {t : TE} (h : PE X e t) (he : ∀ whole, isTrue e X.env whole = (do let v ← whole; standAt e.pos; holding [v] (truthy v)) := by intro _; rfl) : PT X e (tB t) := by
  intro pins s σ H Q I hw
  refine isTrue_plain (thn (h pins s σ H _ I hw) fun v s1 ⟨x, H1, I1, r1, q1⟩ => ?_) (he _)
  obtain ⟨d, rfl, q⟩ := q1
  cases r1
  exact wpAny_truthy_bool ⟨H1, I1, q⟩
variable {tA tB' : TT} {rest : List Expr}
noncomputable def tAnd (t u : TT) : TT := fun σ H Q => t σ H fun c H1 => if c = true then u σ H1 Q else Q false H1
noncomputable def tOr (t u : TT) : TT := fun σ H Q => t σ H fun c H1 => if c = true then Q true H1 else u σ H1 Q
noncomputable def tNot (t : TT) : TT := fun σ H Q => t σ H fun c H1 => Q (!c) H1
theorem pw_and1 (ha : PT X a tA) : PW X (.BoolOp .And [a] pos) tA := by
  intro wh pins s σ H Q I h
  refine isTrue_and (thn (ha pins s σ H Q I h) fun c s1 e => ?_)
  cases c with
  | true => exact isTrue_and_nil e
  | false => exact e
theorem pw_or1 (ha : PT X a tA) : PW X (.BoolOp .Or [a] pos) tA := by
  intro wh pins s σ H Q I h
  refine isTrue_or (thn (ha pins s σ H Q I h) fun c s1 e => ?_)
  cases c with
  | false => exact isTrue_or_nil e
  | true => exact e
theorem pw_and (ha : PT X a tA) (hb : PW X (.BoolOp .And (b :: rest) pos) tB') : PW X (.BoolOp .And (a :: b :: rest) pos) (tAnd tA tB') := by
  intro wh pins s σ H Q I h
  refine isTrue_and (thn (ha pins s σ H _ I h) fun c s1 ⟨H1, I1, q1⟩ => ?_)
  cases c with
  | true => exact hb wh pins s1 σ H1 Q I1 q1
  | false => exact ⟨H1, I1, q1⟩
theorem pw_or (ha : PT X a tA) (hb : PW X (.BoolOp .Or (b :: rest) pos) tB') : PW X (.BoolOp .Or (a :: b :: rest) pos) (tOr tA tB') := by
  intro wh pins s σ H Q I h
  refine isTrue_or (thn (ha pins s σ H _ I h) fun c s1 ⟨H1, I1, q1⟩ => ?_)
  cases c with
  | true => exact ⟨H1, I1, q1⟩
  | false => exact hb wh pins s1 σ H1 Q I1 q1
theorem pt_not (ha : PT X a tA) : PT X (.UnaryOp .Not a pos) (tNot tA) := by
  intro pins s σ H Q I h
  exact isTrue_not (ha pins s σ H (fun c H1 => Q (!c) H1) I h)
noncomputable def tAndV (ta tb : TE) : TE := fun σ H Q => ta σ H fun x H1 => ∃ c, x = .bl c ∧ if c = true then tb σ H1 Q else Q (.bl false) H1
noncomputable def tOrV (ta tb : TE) : TE := fun σ H Q => ta σ H fun x H1 => ∃ c, x = .bl c ∧ if c = true then Q (.bl true) H1 else tb σ H1 Q
noncomputable def tNotV (ta : TE) : TE := fun σ H Q => ta σ H fun x H1 => ∃ c, x = .bl c ∧ Q (.bl (!c)) H1
theorem pe_one {op} {t : TE} (h : PE X a t) : PE X (.BoolOp op [a] pos) t := fun pins s σ H Q I hw => BoolOp_one (h pins s σ H Q I hw)
theorem pe_and (ha : PE X a ta) (hb : PE X (.BoolOp .And (b :: rest) pos) tb) : PE X (.BoolOp .And (a :: b :: rest) pos) (tAndV ta tb) := by
  intro pins s σ H Q I h
  refine BoolOp_and (thn (ha pins s σ H _ I h) fun v s1 ⟨x, H1, I1, r1, q1⟩ => ?_)
  obtain ⟨c, rfl, q1⟩ := q1
  cases r1
  refine wpAny_truthy_bool ?_
  cases c with
  | true => exact hb pins s1 σ H1 Q I1 q1
  | false => exact ⟨.bl false, H1, I1, rfl, q1⟩
theorem pe_or (ha : PE X a ta) (hb : PE X (.BoolOp .Or (b :: rest) pos) tb) : PE X (.BoolOp .Or (a :: b :: rest) pos) (tOrV ta tb) := by
  intro pins s σ H Q I h
  refine BoolOp_or (thn (ha pins s σ H _ I h) fun v s1 ⟨x, H1, I1, r1, q1⟩ => ?_)
  obtain ⟨c, rfl, q1⟩ := q1
  cases r1
  refine wpAny_truthy_bool ?_
  cases c with
  | false => exact hb pins s1 σ H1 Q I1 q1
  | true => exact ⟨.bl true, H1, I1, rfl, q1⟩
theorem pe_not (ha : PE X a ta) : PE X (.UnaryOp .Not a pos) (tNotV ta) := by
  intro pins s σ H Q I h
  refine UnaryOp_ (thn (ha pins s σ H _ I h) fun v s1 ⟨x, H1, I1, r1, q1⟩ => ?_)
  obtain ⟨c, rfl, q1⟩ := q1
  cases r1
  exact not_of (wpAny_truthy_bool ⟨.bl (!c), H1, I1, rfl, q1⟩)
noncomputable def tIf (t : TT) (ta tb : TE) : TE := fun σ H Q => t σ H fun c H1 => if c = true then ta σ H1 Q else tb σ H1 Q
theorem pe_ifExp {c : Expr} (hc : PT X c tA) (ha : PE X a ta) (hb : PE X b tb) : PE X (.IfExp c a b pos) (tIf tA ta tb) := by
  intro pins s σ H Q I h
  refine wpAny_IfExp (thn (hc pins s σ H _ I h) fun d s1 ⟨H1, I1, q1⟩ => ?_)
  cases d with
  | true => exact ha pins s1 σ H1 Q I1 q1
  | false => exact hb pins s1 σ H1 Q I1 q1
end
noncomputable def SqL (K : PySem.W.Frag) (H : Hp) (a : Addr) (xs : List V) : Prop :=
  Rd H a (.lst xs) ∨
    ∃ (o : Obj) (its : Array Value) (n : Nat), K.lookup a = some o ∧ o.cls = .type "list" ∧ o.dict = none ∧ o.data = .seq its n ∧ its.size ≤ sizeLine ∧ Vals xs its.toList
noncomputable def SqT (K : PySem.W.Frag) (H : Hp) (a : Addr) (xs : List V) : Prop :=
  Rd H a (.tup xs) ∨
    ∃ (o : Obj) (its : Array Value) (n : Nat), K.lookup a = some o ∧ o.cls = .type "tuple" ∧ o.data = .seq its n ∧ its.size ≤ sizeLine ∧ Vals xs its.toList
noncomputable def absV : Value → Option V
  | .none => some .non
  | .bool b => some (.bl b)
  | .int i _ => some (.int i)
  | .str x _ => some (.str x)
  | .bytes b _ => some (.byt b)
  | .float b _ => some (.flt b)
  | .ref a => some (.ref a)
  | .type n => some (.ty n)
  | _ => none
theorem RelV.abs {x : V} {u : Value} (r : RelV x u) : absV u = some x := by
  cases x with
  | non => cases r; rfl
  | bl _ => cases r; rfl
  | int _ => obtain ⟨t, rfl⟩ := r; rfl
  | str _ => obtain ⟨t, rfl⟩ := r; rfl
  | byt _ => obtain ⟨t, rfl⟩ := r; rfl
  | flt _ => obtain ⟨t, rfl⟩ := r; rfl
  | ref _ => cases r; rfl
  | ty _ => cases r; rfl
theorem RelV.inj {x y : V} {u : Value} (r : RelV x u) (q : RelV y u) : x = y := Option.some.inj (r.abs.symm.trans q.abs)
theorem Vals.inj : ∀ {xs ys : List V} {us : List Value}, Vals xs us → Vals ys us → xs = ys
  | _, _, _, .nil, .nil => rfl
  | _, _, _, .cons r t, .cons r' t' => by rw [r.inj r', Vals.inj t t']
section
variable {X : Cx} {pins : List (Addr × Obj)} {σ : St} {H : Hp} {s : Shared} {a : Addr} {xs ys : List V}
theorem SqL.of {K : PySem.W.Frag} (h : H a = some (.lst xs)) : SqL K H a xs := .inl (.inl h)
theorem SqT.of {K : PySem.W.Frag} (h : H a = some (.tup xs)) : SqT K H a xs := .inl (.inl h)
theorem Inv.list (I : Inv X pins σ H s) (h : SqL X.K H a xs) : ∃ its : List Value, Vals xs its ∧ PlainL s.heap a its.toArray ∧ xs.length ≤ sizeLine := by
  rcases h with h | ⟨o, its, n, hk, hc, hd, hs, hz, r⟩
  · obtain ⟨z, its, n, r, e⟩ := h.ok I.hok
    exact ⟨its, r, ⟨_, n, e, rfl, rfl, rfl⟩, z⟩
  · refine ⟨its.toList, r, ⟨o, n, I.kIn a o hk, hc, hd, by simpa using hs⟩, ?_⟩
    have e := r.length
    simp only [Array.length_toList] at e
    omega
theorem Inv.tuple (I : Inv X pins σ H s) (h : SqT X.K H a xs) : ∃ its : List Value, Vals xs its ∧ IsTup s.heap a its.toArray ∧ xs.length ≤ sizeLine := by
  rcases h with h | ⟨o, its, n, hk, hc, hs, hz, r⟩
  · obtain ⟨z, its, r, p⟩ := h.ok I.hok
    exact ⟨its, r, p, z⟩
  · refine ⟨its.toList, r, ⟨o, I.kIn a o hk, hc, n, by simpa using hs⟩, ?_⟩
    have e := r.length
    simp only [Array.length_toList] at e
    omega
theorem Inv.list_inj (I : Inv X pins σ H s) (h : SqL X.K H a xs) (h' : SqL X.K H a ys) : xs = ys := by
  obtain ⟨its, r, ⟨o, n, e, _, _, d⟩, _⟩ := I.list h
  obtain ⟨its', r', ⟨o', n', e', _, _, d'⟩, _⟩ := I.list h'
  rw [e] at e'; cases e'
  rw [d] at d'
  injection d' with d1 _
  have : its = its' := by simpa using congrArg Array.toList d1
  subst this
  exact r.inj r'
theorem Inv.tuple_inj (I : Inv X pins σ H s) (h : SqT X.K H a xs) (h' : SqT X.K H a ys) : xs = ys := by
  obtain ⟨its, r, ⟨o, e, _, n, d⟩, _⟩ := I.tuple h
  obtain ⟨its', r', ⟨o', e', _, n', d'⟩, _⟩ := I.tuple h'
  rw [e] at e'; cases e'
  rw [d] at d'
  injection d' with d1 _
  have : its = its' := by simpa using congrArg Array.toList d1
  subst this
  exact r.inj r'
end
noncomputable abbrev Cx.wish (X : Cx) (E : Value → Shared → Prop) : Cx := { X with xe := E }
noncomputable abbrev Cx.nox (X : Cx) : Cx := X.wish fun _ _ => False
theorem Cx.Ok.wish {X : Cx} (ok : X.Ok) (E : Value → Shared → Prop) : (X.wish E).Ok :=
  ⟨ok.mod, ok.kind, ok.glob, ok.blt, ok.above, ok.inj, ok.has, ok.cab, ok.hd, ok.frames, ok.stk, ok.exf, ok.bs, ok.bsz, ok.noex, ok.exfs, ok.funs, ok.frf⟩
theorem Cx.Ok.unwish {X : Cx} {E : Value → Shared → Prop} (ok : (X.wish E).Ok) : X.Ok :=
  ⟨ok.mod, ok.kind, ok.glob, ok.blt, ok.above, ok.inj, ok.has, ok.cab, ok.hd, ok.frames, ok.stk, ok.exf, ok.bs, ok.bsz, ok.noex, ok.exfs, ok.funs, ok.frf⟩
section
variable {X : Cx} {pins : List (Addr × Obj)} {σ : St} {H : Hp} {s : Shared} {E : Value → Shared → Prop}
theorem Inv.wish (I : Inv X pins σ H s) (E : Value → Shared → Prop) : Inv (X.wish E) pins σ H s := ⟨I.ok.wish E, I.os, I.bare, I.base, I.loc, I.cell, I.free, I.freeC, I.pin, I.hok, I.len⟩
theorem Inv.unwish (I : Inv (X.wish E) pins σ H s) : Inv X pins σ H s := ⟨I.ok.unwish, I.os, I.bare, I.base, I.loc, I.cell, I.free, I.freeC, I.pin, I.hok, I.len⟩
theorem SP.unwish {D : Ends} {f : Flow} {s' : Shared} (h : SP (X.wish E) pins D f s') : SP X pins D f s' := by
  cases f with
  | next => obtain ⟨σ', H', I, q⟩ := h; exact ⟨σ', H', I.unwish, q⟩
  | brk => obtain ⟨σ', H', I, q⟩ := h; exact ⟨σ', H', I.unwish, q⟩
  | cont => obtain ⟨σ', H', I, q⟩ := h; exact ⟨σ', H', I.unwish, q⟩
  | ret u => obtain ⟨v, σ', H', I, r, q⟩ := h; exact ⟨v, σ', H', I.unwish, r, q⟩
theorem PE.nox {e : Expr} {t : TE} (h : PE X.nox e t) : PE X e t := fun pins s σ H Q I hw =>
  wpAny_mono (h pins s σ H Q (I.wish _) hw) (fun _ _ ⟨v, H', I', r, q⟩ => ⟨v, H', I'.unwish, r, q⟩) fun _ _ z => False.elim z
theorem PT.nox {e : Expr} {t : TT} (h : PT X.nox e t) : PT X e t := fun pins s σ H Q I hw =>
  wpAny_mono (h pins s σ H Q (I.wish _) hw) (fun _ _ ⟨H', I', q⟩ => ⟨H', I'.unwish, q⟩) fun _ _ z => False.elim z
theorem PSs.nox {st : List Stmt} {t : TS} (h : PSs X.nox st t) : PSs X st t := fun pins s σ H D I hw =>
  wpAny_mono (h pins s σ H D (I.wish _) hw) (fun _ _ q => q.unwish) fun _ _ z => False.elim z
end
section
variable {X : Cx} {st : Stmt} {rest : List Stmt} {t u : TS} {e : Expr} {te : TE} {pos : Pos}
noncomputable def tNext : TS := fun D σ H => D.nx σ H
noncomputable def tSeq (t u : TS) : TS := fun D σ H => t { D with nx := u D } σ H
theorem pss_nil : PSs X [] tNext := fun _ _ σ H _ I h => wpAny_execs_nil ⟨σ, H, I, h⟩
theorem pss_cons (h1 : PS X st t) (h2 : PSs X rest u) : PSs X (st :: rest) (tSeq t u) := by
  intro pins s σ H D I h
  refine wpAny_execs_cons (thn (h1 pins s σ H { D with nx := u D } I h) fun f s1 q => ?_)
  cases f with
  | next =>
    obtain ⟨σ', H', I', q⟩ := q
    exact h2 pins s1 σ' H' D I' q
  | ret v => exact q
  | brk => exact q
  | cont => exact q
noncomputable def tBreak : TS := fun D σ H => D.bk σ H
noncomputable def tCont : TS := fun D σ H => D.ct σ H
theorem ps_pass : PS X (.Pass pos) tNext := fun _ _ σ H _ I h => wpAny_Pass ⟨σ, H, I, h⟩
theorem ps_break : PS X (.Break pos) tBreak := fun _ _ σ H _ I h => wpAny_Break ⟨σ, H, I, h⟩
theorem ps_continue : PS X (.Continue pos) tCont := fun _ _ σ H _ I h => wpAny_Continue ⟨σ, H, I, h⟩
theorem Inv.quiet {pins : List (Addr × Obj)} {σ : St} {H : Hp} {s : Shared} (I : Inv X pins σ H s) : interactive X.env = false := by simp [interactive, I.ok.kind]
noncomputable def tDrop (te : TE) : TS := fun D σ H => te σ H fun _ H1 => D.nx σ H1
theorem ps_expr (he : PE X e te) (hs : swapsWith e none pos.line X.env = pure false := by rfl) : PS X (.Expr e pos) (tDrop te) := by
  intro pins s σ H D I h
  exact wpAny_Expr_any (thn (he pins s σ H _ I h) fun v s1 ⟨x, H1, I1, r1, q1⟩ => ⟨σ, H1, I1, q1⟩) I.quiet hs
noncomputable def tRet (te : TE) : TS := fun D σ H => te σ H D.rt
theorem ps_ret (he : PE X e te) : PS X (.Return (some e) pos) (tRet te) := by
  intro pins s σ H D I h
  exact wpAny_Return_some (thn (he pins s σ H _ I h) fun v s1 ⟨x, H1, I1, r1, q1⟩ => ⟨x, σ, H1, I1, r1, q1⟩)
noncomputable def tRetN : TS := fun D _ H => D.rt .non H
theorem ps_retN : PS X (.Return none pos) tRetN := fun _ _ σ H _ I h => wpAny_Return_none ⟨.non, σ, H, I, rfl, h⟩
noncomputable def tIfS (c : TT) (t u : TS) : TS := fun D σ H => c σ H fun b H1 => if b = true then t D σ H1 else u D σ H1
theorem ps_if {c : Expr} {a b : List Stmt} {tc : TT} (hc : PT X c tc) (ha : PSs X a t) (hb : PSs X b u) : PS X (.If c a b pos) (tIfS tc t u) := by
  intro pins s σ H D I h
  refine wpAny_If (thn (hc pins s σ H _ I h) fun d s1 ⟨H1, I1, q1⟩ => ?_)
  cases d with
  | true => exact ha pins s1 σ H1 D I1 q1
  | false => exact hb pins s1 σ H1 D I1 q1
noncomputable def tNever : TS := fun _ _ _ => False
end
noncomputable abbrev TG := V → St → Hp → (St → Hp → Prop) → Prop
noncomputable abbrev TGs := List V → St → Hp → (St → Hp → Prop) → Prop
noncomputable def PG (X : Cx) (target : Expr) (t : TG) : Prop :=
  ∀ (pins : List (Addr × Obj)) (s : Shared) (σ : St) (H : Hp) (v : V) (u : Value) (Q : St → Hp → Prop), Inv X pins σ H s → RelV v u → t v σ H Q →
    wpAny (model X.prog X.w) X.A (assign target X.env u) (fun _ s' => ∃ σ' H', Inv X pins σ' H' s' ∧ Q σ' H') X.xe s
noncomputable def PGs (X : Cx) (ts : List Expr) (t : TGs) : Prop :=
  ∀ (pins : List (Addr × Obj)) (s : Shared) (σ : St) (H : Hp) (vs : List V) (us : List Value) (Q : St → Hp → Prop), Inv X pins σ H s → Vals vs us → t vs σ H Q →
    wpAny (model X.prog X.w) X.A (assignInOrder ((assignEach ts X.env).map (·.2)) us) (fun _ s' => ∃ σ' H', Inv X pins σ' H' s' ∧ Q σ' H') X.xe s
noncomputable abbrev TSet := V → V → V → Hp → (Hp → Prop) → Prop
noncomputable def PSet (X : Cx) (t : TSet) : Prop :=
  ∀ (pins : List (Addr × Obj)) (s : Shared) (σ : St) (H : Hp) (o i v : V) (ov iv u : Value) (Q : Hp → Prop), Inv X pins σ H s → RelV o ov → RelV i iv → RelV v u → t o i v H Q →
    wpAny (model X.prog X.w) X.A (setItem ov iv u) (fun _ s' => ∃ H', Inv X pins σ H' s' ∧ Q H') X.xe s
noncomputable abbrev TIp := V → V → Hp → VK → Prop
noncomputable def PIp (X : Cx) (op : Operator) (t : TIp) : Prop :=
  ∀ (pins : List (Addr × Obj)) (s : Shared) (σ : St) (H : Hp) (x y : V) (v u : Value) (Q : VK), Inv X pins σ H s → RelV x v → RelV y u → t x y H Q →
    wpAny (model X.prog X.w) X.A (inplaceOp op v u) (EP X pins σ Q) X.xe s
section
variable {X : Cx} {pos : Pos}
noncomputable def gName (i : Nat) : TG := fun v σ H Q => Q (σ.set i (some v)) H
theorem pg_name {i : Nat} {x : Str} (hN : X.N.Nodup) (hi : X.N[i]? = some x) (hx : Loc X.env.scope x) (hf : X.fn x = true ∨ X.env.scope.names.lookup x = some .local := by first | exact .inl rfl | exact .inr rfl | assumption) : PG X (.Name x pos) (gName i) := by
  intro pins s σ H v u Q I r h
  exact wpAny_assign_Name (store_ok I hN hi hx r (fun s' I' => ⟨_, H, I', h⟩) hf)
noncomputable def gNil : TGs := fun vs σ H Q => vs = [] ∧ Q σ H
noncomputable def gCons (t : TG) (u : TGs) : TGs := fun vs σ H Q => ∃ v r, vs = v :: r ∧ t v σ H fun σ' H' => u r σ' H' Q
noncomputable def gTup (K : PySem.W.Frag) (n : Nat) (t : TGs) : TG := fun v σ H Q => ∃ a xs, v = .ref a ∧ SqT K H a xs ∧ xs.length = n ∧ t xs σ H Q
noncomputable def gSub (to ti : TE) (t : TSet) : TG := fun v σ H Q => to σ H fun o H1 => ti σ H1 fun i H2 => t o i v H2 fun H3 => Q σ H3
theorem pg_sub {o i : Expr} {to ti : TE} {t : TSet} (ho : PE X o to) (hi : PE X i ti) (hs : PSet X t)
    (ha : ∀ v, assign (.Subscript o i pos) X.env v = (do
      let ov ← holding [v] (eval o X.env)
      let iv ← holding [v, ov] (eval i X.env)
      standAt pos
      holding [v, ov, iv] (setItem ov iv v)
      release [v, ov, iv] []) := by intro _; rfl) : PG X (.Subscript o i pos) (gSub to ti t) := by
  intro pins s σ H v u Q I r h
  rw [ha]
  refine wpAny_bind (wpAny_holding (thn (ho pins s σ H _ I h) fun ov s1 ⟨x, H1, I1, r1, q1⟩ => ?_))
  refine wpAny_bind (wpAny_holding (thn (hi pins s1 σ H1 _ I1 q1) fun iv s2 ⟨y, H2, I2, r2, q2⟩ => ?_))
  refine wpAny_bind (wpAny_standAt (wpAny_bind (wpAny_holding (thn (hs pins s2 σ H2 x y v ov iv u _ I2 r1 r2 r q2) fun _ s3 ⟨H3, I3, q3⟩ => ?_))))
  exact wpAny_release ⟨σ, H3, I3, q3⟩
noncomputable def tAsg (te : TE) (g : TG) : TS := fun D σ H => te σ H fun x H1 => g x σ H1 D.nx
theorem ps_asg {tg e : Expr} {te : TE} {g : TG} (he : PE X e te) (hg : PG X tg g) (hs : swapsWithSole [tg] e pos.line X.env = pure false := by rfl) (hw : swappedStores [tg] e X.env = pure none := by rfl)
    (h1 : (assignEach [tg] X.env).map (·.2) = [assign tg X.env] := by rfl) : PS X (.Assign [tg] e pos) (tAsg te g) := by
  intro pins s σ H D I h
  refine wpAny_Assign_stores (thn (he pins s σ H _ I h) fun v s1 ⟨x, H1, I1, r1, q1⟩ => ?_) hs hw
  rw [h1]
  exact thn (hg pins s1 σ H1 x v _ I1 r1 q1) fun _ s2 q => q
theorem ps_set {i : Nat} {x : Str} {e : Expr} {te : TE} {pos' : Pos} (hN : X.N.Nodup) (hi : X.N[i]? = some x) (hx : Loc X.env.scope x) (he : PE X e te) (hs : swapsWith e (some (.Name x pos')) pos.line X.env = pure false := by rfl) (hf : X.fn x = true ∨ X.env.scope.names.lookup x = some .local := by first | exact .inl rfl | exact .inr rfl | assumption) :
    PS X (.Assign [.Name x pos'] e pos) (tAsg te (gName i)) := by
  intro pins s σ H D I h
  refine wpAny_Assign_Name (thn (he pins s σ H _ I h) fun v s1 ⟨y, H1, I1, r1, q1⟩ => ?_) hs
  exact store_ok I1 hN hi hx r1 (fun s2 I2 => ⟨_, H1, I2, q1⟩) hf
noncomputable def tPar (i j : Nat) (ta : TA) : TS := fun D σ H => ta σ H fun vs H1 => ∃ v w, vs = [v, w] ∧ D.nx ((σ.set i (some v)).set j (some w)) H1
theorem ps_par {i j : Nat} {x y : Str} {a b : Expr} {ta : TA} {px py pt : Pos} {kt k2 pt2} (hc : X.calm = true) (hN : X.N.Nodup) (hi : X.N[i]? = some x) (hj : X.N[j]? = some y) (hij : i ≠ j)
    (hx : X.env.scope.names.lookup x = some .local) (hy : X.env.scope.names.lookup y = some .local) (ha : PA X [a, b] ta)
    (hw : swappedStores [.Tuple [.Name x px, .Name y py] kt pt] (.Tuple [a, b] k2 pt2) X.env = pure (some [x, y]))
    (hs : swapsWithSole [.Tuple [.Name x px, .Name y py] kt pt] (.Tuple [a, b] k2 pt2) pos.line X.env = pure false := by rfl) :
    PS X (.Assign [.Tuple [.Name x px, .Name y py] kt pt] (.Tuple [a, b] k2 pt2) pos) (tPar i j ta) := by
  intro pins s σ H D I h
  rw [exec_Assign_arm]
  refine wpAny_bind (wpAny_standAt ?_)
  rw [hs]
  refine wpAny_bind (wpAny_pure ?_)
  rw [if_neg (by decide)]
  refine wpAny_bind (Tuple_ (thn (ha _ pins s σ H _ I h) fun us s1 ⟨vs, H1, I1, r1, q1⟩ => ?_))
  obtain ⟨v, w, e1, q1⟩ := q1
  subst e1
  obtain ⟨u1, u2, rfl, rv, rw'⟩ : ∃ u1 u2, us = [u1, u2] ∧ RelV v u1 ∧ RelV w u2 := by
    cases r1 with
    | cons p q =>
      cases q with
      | cons p' q' =>
        cases q'
        exact ⟨_, _, rfl, p, p'⟩
  refine wpAny_newObj_type ?_ (by show 2 ≤ sizeLine; decide)
  have I2 : Inv X pins σ H1 { s1 with heap := s1.heap.push { cls := .type "tuple", data := .seq [u1, u2].toArray } } := I1.kept (t' := s1.toks) fun b o e => Heap.get?_push_of_some _ e
  rw [hw]
  refine wpAny_bind (wpAny_pure ?_)
  show wpAny (model X.prog X.w) X.A (do rule "assign.swapped-stores"; let items ← unpackItems (.ref s1.heap.objs.size) 2 none; assignInOrder [fun v => bindName X.env y v, fun v => bindName X.env x v] items.reverse; pure Flow.next) _ _ _
  refine wpAny_bind (wpAny_rule (wpAny_bind (unpackItems_tuple (items := #[u1, u2]) (I.ok.hd hc) (IsTup.new s1.heap _) fun h' hx' => ?_)))
  have I3 := I2.kept (h' := h') (t' := s1.toks) fun b o e => hx' b o (Nat.ne_of_lt (Heap.lt_size e)) e
  show wpAny _ _ (assignInOrder [fun v => bindName X.env y v, fun v => bindName X.env x v] [u2, u1] >>= fun _ => pure Flow.next) _ _ _
  refine wpAny_bind (assignInOrder_cons (wpAny_bindName (store_ok I3 hN hj (.inl hy) rw' (fun s2 I4 => ?_) (.inr hy))))
  refine assignInOrder_cons (wpAny_bindName (store_ok I4 hN hi (.inl hx) rv (fun s3 I5 => assignInOrder_nil (wpAny_pure ?_)) (.inr hx)))
  rw [List.set_comm _ _ (Ne.symm hij)] at I5
  exact ⟨_, H1, I5, q1⟩
noncomputable def tAug (i : Nat) (te : TE) (ti : TIp) : TS := fun D σ H => ∃ x, σ[i]? = some (some x) ∧ te σ H fun y H1 => ti x y H1 fun z H2 => D.nx (σ.set i (some z)) H2
noncomputable def tAugS (to ti te : TE) (tget : V → V → Hp → VK → Prop) (tip : TIp) (tset : TSet) : TS := fun D σ H => to σ H fun o H1 => ti σ H1 fun i H2 => tget o i H2 fun x H3 => te σ H3 fun y H4 => tip x y H4 fun z H5 => tset o i z H5 fun H6 => D.nx σ H6
noncomputable def PGet (X : Cx) (t : V → V → Hp → VK → Prop) : Prop :=
  ∀ (pins : List (Addr × Obj)) (s : Shared) (σ : St) (H : Hp) (o i : V) (ov iv : Value) (Q : VK), Inv X pins σ H s → RelV o ov → RelV i iv → t o i H Q →
    wpAny (model X.prog X.w) X.A (getItem ov iv) (EP X pins σ Q) X.xe s
noncomputable def ipI (f : Int → Int → Int) : TIp := fun x y H Q => ∃ i j, x = .int i ∧ y = .int j ∧ Q (.int (f i j)) H
end
section
variable {X : Cx} {pos : Pos}
noncomputable def tWhile (c : TT) (tb : TS) : TS := fun D σ H => ∃ W : Nat → St → Hp → Prop, (∃ m, W m σ H) ∧ ∀ m σ H, W m σ H →
  c σ H fun b H1 => if b = true then ∃ N : St → Hp → Prop, (∀ σ' H', N σ' H' → ∃ m', m' < m ∧ W m' σ' H') ∧ tb { D with nx := N, ct := N, bk := D.nx } σ H1 else D.nx σ H1
theorem ps_while {c : Expr} {body : List Stmt} {tc : TT} {tb : TS} (hp : PassesOwn (model X.prog X.w) X.A X.env X.xe) (hc : PT X c tc) (hb : PSs X body tb) : PS X (.While c body [] pos) (tWhile tc tb) := by
  intro pins s σ H D I h
  obtain ⟨W, ⟨m0, w0⟩, turn⟩ := h
  refine wpAny_While (codeAny_whileLoop (fun n s' => ∃ σ' H', Inv X pins σ' H' s' ∧ W n σ' H') ?_ m0 ⟨σ, H, I, w0⟩)
  rintro n s1 ⟨σ1, H1, I1, w1⟩
  refine wpAny_passesOwn hp (thn (hc pins s1 σ1 H1 _ I1 (turn n σ1 H1 w1)) fun b s2 ⟨H2, I2, q2⟩ => ?_)
  cases b with
  | true =>
    obtain ⟨N, hN, q2⟩ := q2
    rw [if_pos rfl]
    refine wpAny_passesOwn hp (thn (hb pins s2 σ1 H2 _ I2 q2) fun f s3 q3 => ?_)
    cases f with
    | next =>
      obtain ⟨σ3, H3, I3, n3⟩ := q3
      obtain ⟨m', hm, w3⟩ := hN σ3 H3 n3
      exact ⟨m', hm, σ3, H3, I3, w3⟩
    | cont =>
      obtain ⟨σ3, H3, I3, n3⟩ := q3
      obtain ⟨m', hm, w3⟩ := hN σ3 H3 n3
      exact ⟨m', hm, σ3, H3, I3, w3⟩
    | brk => exact q3
    | ret v => exact q3
  | false =>
    rw [if_neg Bool.false_ne_true]
    exact wpAny_execs_nil ⟨σ1, H2, I2, q2⟩
end
structure It where
  go : Nat → Hp → Prop
  yld : Nat → Hp → V → Hp → Prop
  stop : Nat → Hp → Prop
noncomputable def FpOk (X : Cx) (pins : List (Addr × Obj)) (H : Hp) (b : Addr) : Prop :=
  H b = none ∧ b ≠ X.env.locals ∧ b ∉ X.fs ∧ (b ∈ X.ex ∨ X.s₀.heap.objs.size ≤ b) ∧ (∀ x c, X.env.cells.lookup x = some c → c ≠ b) ∧ ∀ p ∈ X.pn ++ pins, p.1 ≠ b
theorem Inv.fpOk {X : Cx} {pins : List (Addr × Obj)} {σ : St} {H H' : Hp} {s : Shared} {b : Addr} (I : Inv X pins σ H s) (hb : s.heap.objs.size ≤ b) (hn : H' b = none) : FpOk X pins H' b := by
  refine ⟨hn, Nat.ne_of_gt (Nat.lt_of_lt_of_le I.lt hb), I.nofs hb, .inr (Nat.le_trans I.sz hb), fun x c e z => ?_, fun p hp z => ?_⟩
  · obtain ⟨v, q⟩ := I.cell x c e
    exact absurd (Nat.lt_of_lt_of_le q.lt (by rw [z]; exact hb)) (Nat.lt_irrefl _)
  · exact absurd (Nat.lt_of_lt_of_le (Heap.lt_size (I.pin p hp).1) (by rw [z]; exact hb)) (Nat.lt_irrefl _)
structure Turn (P : Program) (w : World) (K : PySem.W.Frag) (tg : Expr) (J : It) (fp : List Addr) (it : Addr) (tn : Nat → Heap → Prop) : Prop where
  mem : it ∈ fp
  obj : ∀ i h, tn i h → ∀ b ∈ fp, ∃ o, h.get? b = some o ∧ ∀ v, o.data ≠ .cell v
  keep : ∀ i h h', tn i h → (∀ b ∈ fp, ∀ o, h.get? b = some o → h'.get? b = some o) → tn i h'
  item : ∀ (X : Cx), X.prog = P → X.w = w → X.K = K → X.calm = true → ∀ (i : Nat) (pins : List (Addr × Obj)) (s : Shared) (σ : St) (H : Hp) (E : Value → Shared → Prop), Inv X pins σ H s → (∀ b ∈ fp, FpOk X pins H b) → tn i s.heap → J.go i H →
    wpAny (model P w) X.A (pyNext (.ref it)) (fun r s1 => ∃ u, r = some u ∧
      wpAny (model P w) X.A (letOwnedTupleGo tg (.ref it) u) (fun _ s2 => ∃ x H', Inv X pins σ H' s2 ∧ RelV x u ∧ J.yld i H x H' ∧ tn (i + 1) s2.heap ∧ ∀ b ∈ fp, H' b = none) E s1) E s
  done : ∀ (X : Cx), X.prog = P → X.w = w → X.K = K → X.calm = true → ∀ (i : Nat) (pins : List (Addr × Obj)) (s : Shared) (σ : St) (H : Hp) (E : Value → Shared → Prop), Inv X pins σ H s → (∀ b ∈ fp, FpOk X pins H b) → tn i s.heap → J.stop i H →
    wpAny (model P w) X.A (pyNext (.ref it)) (fun r s1 => r = none ∧ Inv X pins σ H s1) E s
  self : ∀ (A : Around) (i : Nat) (s : Shared) (Q : Value → Shared → Prop) (E : Value → Shared → Prop), tn i s.heap → Q (.ref it) s → wpAny (model P w) A (pyIter (.ref it)) Q E s
noncomputable abbrev TI := St → Hp → (It → Hp → Prop) → Prop
noncomputable def PIE (X : Cx) (pins : List (Addr × Obj)) (σ : St) (tg : Expr) (R : It → Hp → Prop) (itv : Value) (s2 : Shared) : Prop :=
  ∃ (it : Addr) (fp : List Addr) (tn : Nat → Heap → Prop) (J : It) (H' : Hp), itv = .ref it ∧ Inv X pins σ H' s2 ∧ Turn X.prog X.w X.K tg J fp it tn ∧ tn 0 s2.heap ∧ (∀ b ∈ fp, FpOk X pins H' b) ∧ R J H'
noncomputable def PI (X : Cx) (tg iter : Expr) (wi : TI) : Prop :=
  ∀ (pins : List (Addr × Obj)) (s : Shared) (σ : St) (H : Hp) (R : It → Hp → Prop), Inv X pins σ H s → wi σ H R →
    wpAny (model X.prog X.w) X.A (eval iter X.env) (fun v s1 => wpAny (model X.prog X.w) X.A (pyIter v) (PIE X pins σ tg R) X.xe s1) X.xe s
theorem go_of {M : Model} {A : Around} {E : Value → Shared → Prop} {s : Shared} {tg : Expr} {it : Addr} {u : Value} {o : Obj} {n : String} {vs : Array Value} {Q : Unit → Shared → Prop} (ho : s.heap.get? it = some o) (hc : o.cls = .type n) (hd : o.data = .fields vs)
    (hn : ["enumerate", "zip", "dict_itemiterator", "dict_reverseitemiterator", "odict_iterator", "itertools.zip_longest", "itertools.pairwise"].contains n = false) (hQ : Q () s) : wpAny M A (letOwnedTupleGo tg (.ref it) u) Q E s := by
  unfold letOwnedTupleGo
  cases tg <;> first
    | exact wpAny_pure hQ
    | (cases u <;> first
        | exact wpAny_pure hQ
        | (refine wpAny_bind (wpAny_load ho ?_)
           rw [hc, hd]
           show wpAny M A (if (["enumerate", "zip", "dict_itemiterator", "dict_reverseitemiterator", "odict_iterator", "itertools.zip_longest", "itertools.pairwise"].contains n && vs[0]? == some (rawInt _)) = true then _ else _) Q E s
           rw [if_neg (by intro h; rw [hn, Bool.false_and] at h; cases h)]
           exact wpAny_pure hQ))
noncomputable def Itl (K : PySem.W.Frag) (a : Addr) : It :=
  ⟨fun i H => ∃ xs x, SqL K H a xs ∧ xs[i]? = some x, fun i H x H' => H' = H ∧ ∀ xs, SqL K H a xs → xs[i]? = some x, fun i H => ∃ xs, SqL K H a xs ∧ xs.length ≤ i⟩
noncomputable def Itt (K : PySem.W.Frag) (a : Addr) : It :=
  ⟨fun i H => ∃ xs x, SqT K H a xs ∧ xs[i]? = some x, fun i H x H' => H' = H ∧ ∀ xs, SqT K H a xs → xs[i]? = some x, fun i H => ∃ xs, SqT K H a xs ∧ xs.length ≤ i⟩
noncomputable def Itr (lo : Int) (n : Nat) : It := ⟨fun i _ => i < n, fun i H x H' => H' = H ∧ x = .int (lo + i), fun i _ => n ≤ i⟩
theorem turn_list {P : Program} {w : World} {K : PySem.W.Frag} {tg : Expr} (a it : Addr) : Turn P w K tg (Itl K a) [it] it (fun i h => h.IsListIter it a i) where
  mem := by simp
  obj := fun i h st b hb => by
    have e : b = it := by simpa using hb
    subst e
    obtain ⟨o, e, c, d⟩ := st
    exact ⟨o, e, fun v z => by rw [d] at z; cases z⟩
  keep := fun i h h' st k => st.at fun o e => k it (by simp) o e
  item := by
    intro X hP hw hK hc i pins s σ H E I hf st hg
    subst hP hw hK
    obtain ⟨xs, x, hq, hx⟩ := hg
    obtain ⟨its, rv, p, hz⟩ := I.list hq
    obtain ⟨u, hu, ru⟩ := rv.get hx
    obtain ⟨f0, f1, f2, f3, f4, f5⟩ := hf it (by simp)
    refine wpAny_pyNext_list_item st p.isList (x := u) (by simpa using hu) fun h' st' sb => ?_
    have I1 : Inv X pins σ H { s with heap := h' } := I.turned (t' := s.toks) (fun b o hb e => (sb.2 b hb).trans e) f0 f1 f3 f4 f5
    obtain ⟨o, e, c, d⟩ := id st'
    exact ⟨u, rfl, go_of (s := { s with heap := h' }) e c d (by decide) ⟨x, H, I1, ru, ⟨rfl, fun ys hy => by rw [I.list_inj hy hq]; exact hx⟩, st', fun b hb => (hf b hb).1⟩⟩
  done := by
    intro X hP hw hK hc i pins s σ H E I hf st hg
    subst hP hw hK
    obtain ⟨xs, hq, hx⟩ := hg
    obtain ⟨its, rv, p, hz⟩ := I.list hq
    obtain ⟨f0, f1, f2, f3, f4, f5⟩ := hf it (by simp)
    have hl := rv.length
    exact wpAny_pyNext_list_end (I.ok.hd hc) st p.isList (by simp; omega) fun h' eb => ⟨rfl, I.turned (t' := s.toks) (fun b o hb e => eb b o hb e) f0 f1 f3 f4 f5⟩
  self := fun _ _ _ _ _ st h => wpAny_pyIter_listiter st h
theorem turn_tuple {P : Program} {w : World} {K : PySem.W.Frag} {tg : Expr} (a it : Addr) : Turn P w K tg (Itt K a) [it] it (fun i h => h.IsTupleIter it a i) where
  mem := by simp
  obj := fun i h st b hb => by
    have e : b = it := by simpa using hb
    subst e
    obtain ⟨o, e, c, d⟩ := st
    exact ⟨o, e, fun v z => by rw [d] at z; cases z⟩
  keep := fun i h h' st k => st.at fun o e => k it (by simp) o e
  item := by
    intro X hP hw hK hc i pins s σ H E I hf st hg
    subst hP hw hK
    obtain ⟨xs, x, hq, hx⟩ := hg
    obtain ⟨its, rv, p, hz⟩ := I.tuple hq
    obtain ⟨u, hu, ru⟩ := rv.get hx
    obtain ⟨f0, f1, f2, f3, f4, f5⟩ := hf it (by simp)
    refine wpAny_pyNext_tuple_item st (show s.heap.IsTuple a its.toArray from p) (x := u) (by simpa using hu) fun h' st' sb => ?_
    have I1 : Inv X pins σ H { s with heap := h' } := I.turned (t' := s.toks) (fun b o hb e => (sb.2 b hb).trans e) f0 f1 f3 f4 f5
    obtain ⟨o, e, c, d⟩ := id st'
    exact ⟨u, rfl, go_of (s := { s with heap := h' }) e c d (by decide) ⟨x, H, I1, ru, ⟨rfl, fun ys hy => by rw [I.tuple_inj hy hq]; exact hx⟩, st', fun b hb => (hf b hb).1⟩⟩
  done := by
    intro X hP hw hK hc i pins s σ H E I hf st hg
    subst hP hw hK
    obtain ⟨xs, hq, hx⟩ := hg
    obtain ⟨its, rv, p, hz⟩ := I.tuple hq
    obtain ⟨f0, f1, f2, f3, f4, f5⟩ := hf it (by simp)
    have hl := rv.length
    exact wpAny_pyNext_tuple_end (I.ok.hd hc) st (show s.heap.IsTuple a its.toArray from p) (by simp; omega) fun h' eb => ⟨rfl, I.turned (t' := s.toks) (fun b o hb e => eb b o hb e) f0 f1 f3 f4 f5⟩
  self := fun _ _ _ _ _ st h => wpAny_pyIter_tupleiter st h
theorem turn_range {P : Program} {w : World} {K : PySem.W.Frag} {tg : Expr} (it : Addr) (lo : Int) (n : Nat) : Turn P w K tg (Itr lo n) [it] it (fun i h => IsRangeIter h it (lo + (i : Nat) * 1) ((n : Int) - (i : Nat)) 1) where
  mem := by simp
  obj := fun i h st b hb => by
    have e : b = it := by simpa using hb
    subst e
    exact ⟨_, st, fun v z => by
      have z' : Data.fields _ = Data.cell v := z
      cases z'⟩
  keep := fun i h h' st k => k it (by simp) _ st
  item := by
    intro X hP hw hK hc i pins s σ H E I hf st hg
    subst hP hw hK
    obtain ⟨f0, f1, f2, f3, f4, f5⟩ := hf it (by simp)
    have W := Walks.range (prog := X.prog) (w := X.w) (I.ok.hd hc) it lo 1 n
    refine W.item i s _ _ hg st fun v h' tk hv st' kk => ?_
    obtain ⟨t, rfl⟩ := hv
    have I1 : Inv X pins σ H { s with heap := h', toks := tk } := I.turned (fun b o hb e => kk b o (by simpa using hb) e) f0 f1 f3 f4 f5
    refine ⟨_, rfl, go_of (s := { s with heap := h', toks := tk }) (n := "range_iterator") st' rfl rfl (by decide) ⟨.int (lo + i), H, I1, ⟨t, ?_⟩, ⟨rfl, rfl⟩, st', fun b hb => (hf b hb).1⟩⟩
    rw [Int.mul_one]
  done := by
    intro X hP hw hK hc i pins s σ H E I hf st hg
    subst hP hw hK
    obtain ⟨f0, f1, f2, f3, f4, f5⟩ := hf it (by simp)
    exact wpAny_pyNext_range_end (I.ok.hd hc) st (by have : n ≤ i := hg; omega) fun h' eb => ⟨rfl, I.turned (t' := s.toks) (fun b o hb e => eb b o hb e) f0 f1 f3 f4 f5⟩
  self := fun _ _ _ _ _ st h => wpAny_pyIter_rangeiter st h
section
variable {X : Cx} {tg : Expr}
noncomputable def iList (K : PySem.W.Frag) (tl : TE) : TI := fun σ H R => tl σ H fun x H1 => ∃ a, x = .ref a ∧ (∃ xs, SqL K H1 a xs) ∧ R (Itl K a) H1
noncomputable def iTup (K : PySem.W.Frag) (tl : TE) : TI := fun σ H R => tl σ H fun x H1 => ∃ a, x = .ref a ∧ (∃ xs, SqT K H1 a xs) ∧ R (Itt K a) H1
theorem range_it {pins : List (Addr × Obj)} {σ : St} {H : Hp} {s : Shared} {R : It → Hp → Prop} {E : Value → Shared → Prop} {lo hi : Int} {t u v : Tok} {tk : Nat} (I : Inv X pins σ H s) (h1 : -(2 ^ 62) ≤ lo) (h2 : lo < 2 ^ 62) (h3 : -(2 ^ 62) ≤ hi) (h4 : hi < 2 ^ 62)
    (q : R (Itr lo (hi - lo).toNat) H) : wpAny (model X.prog X.w) X.A (pyIter (.ref s.heap.objs.size)) (PIE X pins σ tg R) E { s with heap := s.heap.push { cls := .type "range", data := .fields #[.int lo t, .int hi u, .int 1 v] }, toks := tk } := by
  refine wpAny_pyIter_range (IsRange.new ..) (small_one h1 h2 h3 h4) ?_
  have I1 : Inv X pins σ H { s with heap := s.heap.push { cls := .type "range", data := .fields #[.int lo t, .int hi u, .int 1 v] }, toks := tk } := I.kept fun b o e => Heap.get?_push_of_some _ e
  refine ⟨(s.heap.push { cls := .type "range", data := .fields #[.int lo t, .int hi u, .int 1 v] }).objs.size, [(s.heap.push { cls := .type "range", data := .fields #[.int lo t, .int hi u, .int 1 v] }).objs.size], _, _, H, rfl,
    I1.kept (t' := tk) fun b o e => Heap.get?_push_of_some _ e, turn_range _ lo (hi - lo).toNat, ?_, fun b hb => ?_, q⟩
  · have e1 : lo + ((0 : Nat) : Int) * 1 = lo := by simp
    have e2 : (((hi - lo).toNat : Nat) : Int) - ((0 : Nat) : Int) = Builtin.Range.rangeSize lo hi 1 := by rw [rangeSize_one]; split <;> omega
    show IsRangeIter _ _ (lo + ((0 : Nat) : Int) * 1) ((((hi - lo).toNat : Nat) : Int) - ((0 : Nat) : Int)) 1
    rw [e1, e2]
    exact Heap.get?_push_size _ rfl
  · have e : b = (s.heap.push { cls := .type "range", data := .fields #[.int lo t, .int hi u, .int 1 v] }).objs.size := by simpa using hb
    subst e
    exact I1.fpOk (Nat.le_refl _) (I1.hok.fresh (Nat.le_refl _))
noncomputable def iRng1 (ta : TA) : TI := fun σ H R => ta σ H fun vs H1 => ∃ j : Int, vs = [.int j] ∧ -(2 ^ 62) ≤ j ∧ j < 2 ^ 62 ∧ R (Itr 0 j.toNat) H1
noncomputable def iRng2 (ta : TA) : TI := fun σ H R => ta σ H fun vs H1 => ∃ i j : Int, vs = [.int i, .int j] ∧ (-(2 ^ 62) ≤ i ∧ i < 2 ^ 62 ∧ -(2 ^ 62) ≤ j ∧ j < 2 ^ 62) ∧ R (Itr i (j - i).toNat) H1
theorem pi_range1 {a : Expr} {ta : TA} {p pos : Pos} (hg : Gl X "range") (hm : X.mg "range" = none) (ha : PA X [a] ta) (hs : starEach [a] X.env = [(false, eval a X.env)] := by rfl) : PI X tg (.Call (.Name "range" p) [a] [] pos) (iRng1 ta) := by
  intro pins s σ H R I h
  refine Call_ (ld_blt I hg hm boot_range (PyProof.Rows.callWith_type1 (thn (ha pos pins s σ H _ I h) fun us s1 ⟨vs, H1, I1, r1, q1⟩ => ?_) hs rfl))
  obtain ⟨j, e, q1, q2, q⟩ := q1
  subst e
  cases r1 with
  | cons r rr =>
    cases rr
    obtain ⟨t, rfl⟩ := r
    exact call_range_1 (range_it I1 (by omega) (by omega) q1 q2 (by simpa using q))
noncomputable def tFor (wi : TI) (g : TG) (tb : TS) : TS := fun D σ H => wi σ H fun J H1 => ∃ W : Nat → Nat → St → Hp → Prop, (∃ m, W 0 m σ H1) ∧ ∀ i m σ H, W i m σ H →
  (J.stop i H ∧ D.nx σ H) ∨ (J.go i H ∧ ∃ N : St → Hp → Prop, (∀ σ' H', N σ' H' → ∃ m', m' < m ∧ W (i + 1) m' σ' H') ∧ ∀ x H', J.yld i H x H' → g x σ H' fun σ2 H2 => tb { D with nx := N, ct := N, bk := D.nx } σ2 H2)
noncomputable def pinsAt (fp : List Addr) (h : Heap) : List (Addr × Obj) := fp.filterMap fun b => (h.get? b).map fun o => (b, o)
theorem mem_pinsAt {fp : List Addr} {h : Heap} {b : Addr} {o : Obj} (hb : b ∈ fp) (e : h.get? b = some o) : (b, o) ∈ pinsAt fp h := List.mem_filterMap.mpr ⟨b, hb, by rw [e]; rfl⟩
theorem of_pinsAt {fp : List Addr} {h : Heap} {p : Addr × Obj} (hp : p ∈ pinsAt fp h) : p.1 ∈ fp ∧ h.get? p.1 = some p.2 := by
  obtain ⟨b, hb, e⟩ := List.mem_filterMap.mp hp
  cases q : h.get? b with
  | none => rw [q] at e; cases e
  | some o =>
    rw [q] at e
    have e' : (b, o) = p := Option.some.inj e
    subst e'
    exact ⟨hb, q⟩
theorem Inv.pinned {pins : List (Addr × Obj)} {σ : St} {H : Hp} {s : Shared} {fp : List Addr} (I : Inv X pins σ H s) (hf : ∀ b ∈ fp, FpOk X pins H b) (ho : ∀ b ∈ fp, ∃ o, s.heap.get? b = some o ∧ ∀ v, o.data ≠ .cell v) : Inv X (pins ++ pinsAt fp s.heap) σ H s :=
  I.pins_of fun p hp => (List.mem_append.mp hp).elim (fun z => I.pin p (List.mem_append_right _ z)) fun z => by
    obtain ⟨hb, e⟩ := of_pinsAt z
    obtain ⟨f0, f1, f2, _⟩ := hf p.1 hb
    obtain ⟨o, e', d⟩ := ho p.1 hb
    rw [e] at e'; cases e'
    exact ⟨e, f0, f1, f2, d⟩
theorem Inv.unpinned {pins pl : List (Addr × Obj)} {σ : St} {H : Hp} {s : Shared} (I : Inv X (pins ++ pl) σ H s) : Inv X pins σ H s := I.pins_of fun p hp => I.pin p (List.mem_append_right _ (List.mem_append_left _ hp))
theorem ps_for {iter : Expr} {body : List Stmt} {wi : TI} {g : TG} {tb : TS} {pos : Pos} (hp : PassesOwn (model X.prog X.w) X.A X.env X.xe) (hc : X.calm = true) (hi : PI X tg iter wi) (hg : PG X tg g) (hb : PSs X body tb)
    (hs : ∀ x, foldedSetIterable iter X.env x = pure x := by intro _; rfl) : PS X (.For tg iter body [] pos) (tFor wi g tb) := by
  intro pins s σ H D I h
  refine wpAny_For (thn (hi pins s σ H _ I h) fun v s1 h1 => thn h1 fun itv s2 h2 => ?_) hs
  obtain ⟨it, fp, tn, J, H2, e, I2, T, st2, f2, W, ⟨m0, w0⟩, turn⟩ := h2
  subst e
  have stat : ∀ {H' : Hp}, (∀ b ∈ fp, H' b = none) → ∀ b ∈ fp, FpOk X pins H' b := fun hn b hb => ⟨hn b hb, (f2 b hb).2⟩
  refine codeAny_forLoop_any (fun n s' => ∃ i σ' H', Inv X pins σ' H' s' ∧ tn i s'.heap ∧ (∀ b ∈ fp, H' b = none) ∧ W i n σ' H') ?_ m0 ⟨0, σ, H2, I2, st2, fun b hb => (f2 b hb).1, w0⟩
  rintro n s3 ⟨i, σ3, H3, I3, st3, fr3, w3⟩
  rcases turn i n σ3 H3 w3 with ⟨stop, qn⟩ | ⟨go, N, hN, step⟩
  · refine wpAny_passesOwn hp (thn (T.done X rfl rfl rfl hc i pins s3 σ3 H3 X.xe I3 (stat fr3) st3 stop) fun r s4 ⟨hr, I4⟩ => ?_)
    subst hr
    exact wpAny_execs_nil ⟨σ3, H3, I4, qn⟩
  · refine wpAny_passesOwn hp (thn (T.item X rfl rfl rfl hc i pins s3 σ3 H3 X.xe I3 (stat fr3) st3 go) fun r s4 ⟨u, hr, h4⟩ => ?_)
    subst hr
    refine wpAny_passesOwn hp (thn h4 fun _ s5 ⟨x, H5, I5, r5, y5, st5, fr5⟩ => ?_)
    have I5' := I5.pinned (stat fr5) (T.obj _ _ st5)
    refine wpAny_passesOwn hp (thn (hg _ s5 σ3 H5 x u _ I5' r5 (step x H5 y5)) fun _ s6 ⟨σ6, H6, I6, q6⟩ => ?_)
    refine wpAny_passesOwn hp (thn (hb _ s6 σ6 H6 _ I6 q6) fun f s7 q7 => ?_)
    have again : ∀ {σ7 : St} {H7 : Hp}, Inv X (pins ++ pinsAt fp s5.heap) σ7 H7 s7 → N σ7 H7 → ∃ m, m < n ∧ ∃ i σ' H', Inv X pins σ' H' s7 ∧ tn i s7.heap ∧ (∀ b ∈ fp, H' b = none) ∧ W i m σ' H' := fun {σ7 H7} I7 n7 => by
      obtain ⟨m', hm, w7⟩ := hN σ7 H7 n7
      refine ⟨m', hm, i + 1, σ7, H7, I7.unpinned, T.keep _ _ _ st5 fun b hb o e => (I7.pin (b, o) (List.mem_append_right _ (List.mem_append_right _ (mem_pinsAt hb e)))).1, fun b hb => ?_, w7⟩
      obtain ⟨o, e, d⟩ := T.obj _ _ st5 b hb
      exact (I7.pin (b, o) (List.mem_append_right _ (List.mem_append_right _ (mem_pinsAt hb e)))).2.1
    cases f with
    | next => obtain ⟨σ7, H7, I7, n7⟩ := q7; exact again I7 n7
    | cont => obtain ⟨σ7, H7, I7, n7⟩ := q7; exact again I7 n7
    | brk => obtain ⟨σ7, H7, I7, q7⟩ := q7; exact ⟨σ7, H7, I7.unpinned, q7⟩
    | ret v => obtain ⟨x7, σ7, H7, I7, r7, q7⟩ := q7; exact ⟨x7, σ7, H7, I7.unpinned, r7, q7⟩
end
noncomputable abbrev R2 := V → V → Hp → VK → Prop
noncomputable def OpR (X : Cx) (f : Value → Value → Sem Value) (r : R2) : Prop :=
  ∀ (pins : List (Addr × Obj)) (s : Shared) (σ : St) (H : Hp) (x y : V) (v u : Value) (Q : VK), Inv X pins σ H s → RelV x v → RelV y u → r x y H Q →
    wpAny (model X.prog X.w) X.A (f v u) (EP X pins σ Q) X.xe s
noncomputable def UnR (X : Cx) (f : Value → Sem Value) (r : V → Hp → VK → Prop) : Prop :=
  ∀ (pins : List (Addr × Obj)) (s : Shared) (σ : St) (H : Hp) (x : V) (v : Value) (Q : VK), Inv X pins σ H s → RelV x v → r x H Q →
    wpAny (model X.prog X.w) X.A (f v) (EP X pins σ Q) X.xe s
noncomputable def CallR (X : Cx) (f : Value) (r : List V → Hp → VK → Prop) : Prop :=
  ∀ (pins : List (Addr × Obj)) (s : Shared) (σ : St) (H : Hp) (xs : List V) (us : List Value) (Q : VK), Inv X pins σ H s → Vals xs us → r xs H Q →
    wpAny (model X.prog X.w) X.A (call f us) (EP X pins σ Q) X.xe s
noncomputable def TruR (X : Cx) (r : V → Hp → (Bool → Hp → Prop) → Prop) : Prop :=
  ∀ (pins : List (Addr × Obj)) (s : Shared) (σ : St) (H : Hp) (x : V) (v : Value) (Q : Bool → Hp → Prop), Inv X pins σ H s → RelV x v → r x H Q →
    wpAny (model X.prog X.w) X.A (truthy v) (TP X pins σ Q) X.xe s
noncomputable def tOp (r : R2) (ta tb : TE) : TE := fun σ H Q => ta σ H fun x H1 => tb σ H1 fun y H2 => r x y H2 Q
noncomputable def tUn (r : V → Hp → VK → Prop) (ta : TE) : TE := fun σ H Q => ta σ H fun x H1 => r x H1 Q
noncomputable def rI (C : Int → Int → Prop) (g : Int → Int → V) : R2 := fun x y H Q => ∃ i j, x = .int i ∧ y = .int j ∧ C i j ∧ Q (g i j) H
noncomputable def rI0 (g : Int → Int → V) : R2 := fun x y H Q => ∃ i j, x = .int i ∧ y = .int j ∧ Q (g i j) H
noncomputable def rU (g : Int → V) : V → Hp → VK → Prop := fun x H Q => ∃ i, x = .int i ∧ Q (g i) H
section
variable {X : Cx} {a b c : Expr} {ta tb tc : TE} {pos : Pos}
theorem binT (ha : PE X a ta) (hb : PE X b tb) {pins : List (Addr × Obj)} {s : Shared} {σ : St} {H : Hp} {R : V → V → Hp → Prop} (I : Inv X pins σ H s)
    (h : ta σ H fun x H1 => tb σ H1 fun y H2 => R x y H2) {Q : Value → Shared → Prop} {f : Value → Value → Sem Value}
    (hf : ∀ v u s2 x y H2, Inv X pins σ H2 s2 → RelV x v → RelV y u → R x y H2 → wpAny (model X.prog X.w) X.A (f v u) Q X.xe s2) :
    wpAny (model X.prog X.w) X.A (eval a X.env) (fun v s₁ => wpAny (model X.prog X.w) X.A (eval b X.env) (fun u s₂ => wpAny (model X.prog X.w) X.A (f v u) Q X.xe s₂) X.xe s₁) X.xe s := by
  refine thn (ha pins s σ H _ I h) fun v s1 ⟨x, H1, I1, r1, q1⟩ => ?_
  refine thn (hb pins s1 σ H1 _ I1 q1) fun u s2 ⟨y, H2, I2, r2, q2⟩ => ?_
  exact hf v u s2 x y H2 I2 r1 r2 q2
theorem pe_op {op : Operator} {r : R2} (ho : OpR X (binaryOp op) r) (ha : PE X a ta) (hb : PE X b tb) : PE X (.BinOp a op b pos) (tOp r ta tb) := by
  intro pins s σ H Q I h
  exact wpAny_BinOp (binT ha hb I h fun v u s2 x y H2 I2 rx ry q => ho pins s2 σ H2 x y v u Q I2 rx ry q)
theorem pe_un {op : UnaryOp} {r : V → Hp → VK → Prop} (ho : UnR X (unaryOp op) r) (ha : PE X a ta) : PE X (.UnaryOp op a pos) (tUn r ta) := by
  intro pins s σ H Q I h
  exact UnaryOp_ (thn (ha pins s σ H _ I h) fun v s1 ⟨x, H1, I1, r1, q1⟩ => ho pins s1 σ H1 x v Q I1 r1 q1)
theorem opI {f : Value → Value → Sem Value} {C : Int → Int → Prop} {g : Int → Int → Int}
    (rule : ∀ (i j : Int) (t u : Tok) (s : Shared) (Q : Value → Shared → Prop) (E : Value → Shared → Prop), C i j → Q (.int (g i j) s.toks) { s with toks := s.toks + 1 } → wpAny (model X.prog X.w) X.A (f (.int i t) (.int j u)) Q E s) :
    OpR X f (rI C fun i j => .int (g i j)) := by
  intro pins s σ H x y v u Q I rx ry h
  obtain ⟨i, j, rfl, rfl, hc, q⟩ := h
  obtain ⟨t, rfl⟩ := rx
  obtain ⟨t', rfl⟩ := ry
  exact rule i j t t' s _ _ hc ⟨.int (g i j), H, I.tok _, ⟨_, rfl⟩, q⟩
theorem opI0 {f : Value → Value → Sem Value} {g : Int → Int → Int}
    (rule : ∀ (i j : Int) (t u : Tok) (s : Shared) (Q : Value → Shared → Prop) (E : Value → Shared → Prop), Q (.int (g i j) s.toks) { s with toks := s.toks + 1 } → wpAny (model X.prog X.w) X.A (f (.int i t) (.int j u)) Q E s) :
    OpR X f (rI0 fun i j => .int (g i j)) := by
  intro pins s σ H x y v u Q I rx ry h
  obtain ⟨i, j, rfl, rfl, q⟩ := h
  obtain ⟨t, rfl⟩ := rx
  obtain ⟨t', rfl⟩ := ry
  exact rule i j t t' s _ _ ⟨.int (g i j), H, I.tok _, ⟨_, rfl⟩, q⟩
theorem opB0 {f : Value → Value → Sem Value} {g : Int → Int → Bool}
    (rule : ∀ (i j : Int) (t u : Tok) (s : Shared) (Q : Value → Shared → Prop) (E : Value → Shared → Prop), Q (.bool (g i j)) s → wpAny (model X.prog X.w) X.A (f (.int i t) (.int j u)) Q E s) :
    OpR X f (rI0 fun i j => .bl (g i j)) := by
  intro pins s σ H x y v u Q I rx ry h
  obtain ⟨i, j, rfl, rfl, q⟩ := h
  obtain ⟨t, rfl⟩ := rx
  obtain ⟨t', rfl⟩ := ry
  exact rule i j t t' s _ _ ⟨.bl (g i j), H, I, rfl, q⟩
noncomputable def CDiv (i j : Int) : Prop := 0 < j ∧ j < 1073741824
noncomputable def CDivN (i j : Int) : Prop := j ≠ 0 ∧ j.natAbs < 1073741824
noncomputable def CPow (i j : Int) : Prop := 0 ≤ j ∧ j ≤ 1000000 ∧ i.natAbs < 2 ^ 64
noncomputable def CMul (i j : Int) : Prop := (-(2 ^ 64) < i ∧ i < 2 ^ 64) ∨ (-(2 ^ 64) < j ∧ j < 2 ^ 64)
theorem CMul.ok {i j : Int} (h : CMul i j) : IntMulOk i j := by
  rcases h with ⟨h1, h2⟩ | ⟨h1, h2⟩
  · exact .of_left (intBits_le_64 h1 h2)
  · exact .of_right (intBits_le_64 h1 h2)
theorem op_add : OpR X (binaryOp .Add) (rI0 fun i j => .int (i + j)) := opI0 fun _ _ _ _ _ _ _ q => add_int q
theorem op_sub : OpR X (binaryOp .Sub) (rI0 fun i j => .int (i - j)) := opI0 fun _ _ _ _ _ _ _ q => sub_int q
theorem op_mul : OpR X (binaryOp .Mult) (rI CMul fun i j => .int (i * j)) := opI fun _ _ _ _ _ _ _ hc q => mul_int q hc.ok
theorem op_modN : OpR X (binaryOp .Mod) (rI (fun _ j => j ≠ 0) fun i j => .int (i.fmod j)) := opI fun _ _ _ _ _ _ _ hc q => mod_int' hc q
theorem op_pow : OpR X (binaryOp .Pow) (rI CPow fun i j => .int (i ^ j.toNat)) := opI fun _ _ _ _ _ _ _ hc q => pow_int_small hc.1 hc.2.1 hc.2.2 q
theorem op_and : OpR X (binaryOp .BitAnd) (rI0 fun i j => .int (Builtin.bitAnd i j)) := opI0 fun _ _ _ _ _ _ _ q => and_int q
theorem op_or : OpR X (binaryOp .BitOr) (rI0 fun i j => .int (Builtin.bitOr i j)) := opI0 fun _ _ _ _ _ _ _ q => or_int q
theorem unI {f : Value → Sem Value} {g : Int → Int}
    (rule : ∀ (i : Int) (t : Tok) (s : Shared) (Q : Value → Shared → Prop) (E : Value → Shared → Prop), Q (.int (g i) s.toks) { s with toks := s.toks + 1 } → wpAny (model X.prog X.w) X.A (f (.int i t)) Q E s) :
    UnR X f (rU fun i => .int (g i)) := by
  intro pins s σ H x v Q I rx h
  obtain ⟨i, rfl, q⟩ := h
  obtain ⟨t, rfl⟩ := rx
  exact rule i t s _ _ ⟨.int (g i), H, I.tok _, ⟨_, rfl⟩, q⟩
theorem un_neg : UnR X (unaryOp .USub) (rU fun i => .int (-i)) := unI fun _ _ _ _ _ q => neg_int q
end
noncomputable def scal : V → V → Bool
  | .non, .non => true | .non, .int _ => true | .int _, .non => true | .non, .bl _ => true | .bl _, .non => true | .non, .str _ => true | .str _, .non => true
  | .int _, .int _ => true | .bl _, .bl _ => true | .str _, .str _ => true | .byt _, .byt _ => true
  | .int _, .str _ => true | .str _, .int _ => true | .bl _, .str _ => true | .str _, .bl _ => true
  | _, _ => false
noncomputable def rEq : R2 := fun x y H Q => scal x y = true ∧ Q (.bl (decide (x = y))) H
noncomputable def rNe : R2 := fun x y H Q => scal x y = true ∧ Q (.bl (!decide (x = y))) H
section
variable {X : Cx} {a b c : Expr} {ta tb tc : TE} {pos : Pos}
theorem op_lt : OpR X (compareOp .Lt) (rI0 fun i j => .bl (decide (i < j))) := opB0 fun _ _ _ _ _ _ _ q => lt_int q
theorem op_le : OpR X (compareOp .LtE) (rI0 fun i j => .bl (decide (i ≤ j))) := opB0 fun _ _ _ _ _ _ _ q => le_int q
theorem op_gt : OpR X (compareOp .Gt) (rI0 fun i j => .bl (decide (j < i))) := opB0 fun _ _ _ _ _ _ _ q => gt_int q
theorem op_ge : OpR X (compareOp .GtE) (rI0 fun i j => .bl (decide (j ≤ i))) := opB0 fun _ _ _ _ _ _ _ q => ge_int q
noncomputable def isObj : HO → Bool
  | .lst _ => true
  | .ins _ _ _ => true
  | _ => false
theorem OpR.or {f : Value → Value → Sem Value} {r r' : R2} (h : OpR X f r) (h' : OpR X f r') : OpR X f (fun x y H Q => r x y H Q ∨ r' x y H Q) := by
  intro pins s σ H x y v u Q I rx ry q
  rcases q with q | q
  · exact h pins s σ H x y v u Q I rx ry q
  · exact h' pins s σ H x y v u Q I rx ry q
theorem nomark (b : Expr) {op : CmpOp} (h : op ≠ .In := by decide) (h2 : op ≠ .NotIn := by decide) : behindInMarks op b = false := by
  have e1 : (op == CmpOp.In) = false := by cases op <;> first | rfl | exact absurd rfl h
  have e2 : (op == CmpOp.NotIn) = false := by cases op <;> first | rfl | exact absurd rfl h2
  cases b <;> simp [behindInMarks, e1, e2]
theorem pe_cmpR {op : CmpOp} {r : R2} (ho : OpR X (compareOp op) r) (ha : PE X a ta) (hb : PE X b tb) (hm : behindInMarks op b = false) : PE X (.Compare a [op] [b] pos) (tOp r ta tb) := by
  intro pins s σ H Q I h
  exact wpAny_Compare1 (binT ha hb I h fun v u s2 x y H2 I2 rx ry q => ho pins s2 σ H2 x y v u Q I2 rx ry q) hm
noncomputable def tTest (t : TE) : TT := fun σ H Q => t σ H fun x H' => ∃ k, x = .bl k ∧ Q k H'
theorem pt_cmpR {op : CmpOp} {r : R2} (ho : OpR X (compareOp op) r) (ha : PE X a ta) (hb : PE X b tb) (hm : behindInMarks op b = false) : PT X (.Compare a [op] [b] pos) (tTest (tOp r ta tb)) := by
  intro pins s σ H Q I h
  refine wpAny_isTrue_Compare1 (thn (ha pins s σ H _ I h) fun v s1 ⟨x, H1, I1, r1, q1⟩ => thn (hb pins s1 σ H1 _ I1 q1) fun u s2 ⟨y, H2, I2, r2, q2⟩ =>
    thn (ho pins s2 σ H2 x y v u _ I2 r1 r2 q2) fun c s3 ⟨z, H3, I3, r3, k, e, q3⟩ => ?_) hm
  subst e
  cases r3
  exact wpAny_truthy_bool ⟨H3, I3, q3⟩
noncomputable def tChain (r r' : R2) (ta tb tc : TE) : TE := fun σ H Q => ta σ H fun x H1 => tb σ H1 fun y H2 => r x y H2 fun z H3 => ∃ k, z = .bl k ∧
  (if k = true then tc σ H3 fun w' H4 => r' y w' H4 Q else Q (.bl false) H3)
theorem pe_chain {op op' : CmpOp} {r r' : R2} (ho : OpR X (compareOp op) r) (ho' : OpR X (compareOp op') r') (ha : PE X a ta) (hb : PE X b tb) (hc : PE X c tc)
    (hm : lastMarks [op, op'] [b, c] = false := by with_unfolding_all rfl) : PE X (.Compare a [op, op'] [b, c] pos) (tChain r r' ta tb tc) := by
  intro pins s σ H Q I h
  refine Compare_chain (thn (ha pins s σ H _ I h) fun v s1 ⟨x, H1, I1, r1, q1⟩ => chain_link (thn (hb pins s1 σ H1 _ I1 q1) fun u s2 ⟨y, H2, I2, r2, q2⟩ =>
    thn (ho pins s2 σ H2 x y v u _ I2 r1 r2 q2) fun d s3 ⟨z, H3, I3, r3, k, e, q3⟩ => ?_)) hm
  subst e
  cases r3
  refine wpAny_truthy_bool ?_
  cases k with
  | false => exact ite_ff ⟨.bl false, H3, I3, rfl, q3⟩
  | true => exact ite_tt (chain_last (thn (hc pins s3 σ H3 _ I3 q3) fun w' s4 ⟨z', H4, I4, r4, q4⟩ => ho' pins s4 σ H4 y z' u w' Q I4 r2 r4 q4))
theorem pt_chain {op op' : CmpOp} {r r' : R2} (ho : OpR X (compareOp op) r) (ho' : OpR X (compareOp op') r') (ha : PE X a ta) (hb : PE X b tb) (hc : PE X c tc)
    (hm : lastMarks [op, op'] [b, c] = false := by with_unfolding_all rfl) : PT X (.Compare a [op, op'] [b, c] pos) (tTest (tChain r r' ta tb tc)) := by
  intro pins s σ H Q I h
  refine isTrue_chain (thn (ha pins s σ H _ I h) fun v s1 ⟨x, H1, I1, r1, q1⟩ => test_link (thn (hb pins s1 σ H1 _ I1 q1) fun u s2 ⟨y, H2, I2, r2, q2⟩ =>
    thn (ho pins s2 σ H2 x y v u _ I2 r1 r2 q2) fun d s3 ⟨z, H3, I3, r3, k, e, q3⟩ => ?_)) hm
  subst e
  cases r3
  refine wpAny_truthy_bool ?_
  cases k with
  | false =>
    obtain ⟨k', e', q'⟩ := q3
    cases e'
    exact ite_ff ⟨H3, I3, q'⟩
  | true =>
    refine ite_tt (test_last (thn (hc pins s3 σ H3 _ I3 q3) fun w' s4 ⟨z', H4, I4, r4, q4⟩ => thn (ho' pins s4 σ H4 y z' u w' _ I4 r2 r4 q4) fun d' s5 ⟨z2, H5, I5, r5, k2, e2, q5⟩ => ?_))
    subst e2
    cases r5
    exact wpAny_truthy_bool ⟨H5, I5, q5⟩
noncomputable def TruV (K : PySem.W.Frag) (x : V) (H : Hp) (k : Bool) : Prop :=
  match x with
  | .non => k = false
  | .bl b => k = b
  | .int i => k = (i != 0)
  | .str y => y.length ≤ sizeLine ∧ k = ((y.length : Int) != 0)
  | .byt y => y.size ≤ sizeLine ∧ k = ((y.size : Int) != 0)
  | .ref p => (∃ xs, SqL K H p xs ∧ k = !xs.isEmpty) ∨ (∃ xs, SqT K H p xs ∧ k = !xs.isEmpty) ∨ ∃ kvs, H p = some (.dK kvs) ∧ k = !kvs.isEmpty
  | _ => False
theorem line63 : (sizeLine : Nat) < 2 ^ 63 := by rw [sizeLine_eq]; decide
theorem op_add_str : OpR X (binaryOp .Add) (fun x y H Q => ∃ i j, x = .str i ∧ y = .str j ∧ i.length + j.length ≤ sizeLine ∧ Q (.str (i ++ j)) H) := by
  intro pins s σ H x y v u Q I rx ry h
  obtain ⟨i, j, rfl, rfl, hz, q⟩ := h
  obtain ⟨t, rfl⟩ := rx
  obtain ⟨t', rfl⟩ := ry
  exact add_str (fun t' tk => ⟨.str (i ++ j), H, I.tok _, ⟨_, rfl⟩, q⟩) hz
noncomputable def PlainIxT (b : Expr) : Prop := ∀ o i, subscripted b false o i = operate [o, i] (getItem o i)
theorem vals1 {x : V} {us : List Value} (r : Vals [x] us) : ∃ u, us = [u] ∧ RelV x u := by
  cases r with
  | cons r1 r2 => cases r2; exact ⟨_, rfl, r1⟩
theorem vals2 {x y : V} {us : List Value} (r : Vals [x, y] us) : ∃ u w', us = [u, w'] ∧ RelV x u ∧ RelV y w' := by
  cases r with
  | cons r1 r2 =>
    cases r2 with
    | cons r3 r4 => cases r4; exact ⟨_, _, rfl, r1, r3⟩
theorem call_abs : CallR X (.builtin "abs") (fun xs H Q => ∃ i, xs = [.int i] ∧ Q (.int (if i < 0 then -i else i)) H) := by
  intro pins s σ H xs us Q I r h
  obtain ⟨i, rfl, q⟩ := h
  obtain ⟨u, rfl, t, rfl⟩ := vals1 r
  exact call_abs_int fun u tk => ⟨.int (if i < 0 then -i else i), H, I.tok _, ⟨_, rfl⟩, q⟩
theorem call_max2 (hc : X.calm = true) : CallR X (.builtin "max") (fun xs H Q => ∃ i j, xs = [.int i, .int j] ∧ Q (.int (if j > i then j else i)) H) := by
  intro pins s σ H xs us Q I r h
  obtain ⟨i, j, rfl, q⟩ := h
  obtain ⟨u, w', rfl, ⟨t, rfl⟩, ⟨t', rfl⟩⟩ := vals2 r
  refine max_two_ints (I.ok.hd hc) fun h' tk k => ⟨_, H, I.kept k, ?_, q⟩
  by_cases hj : j > i
  · rw [if_pos hj, if_pos hj]; exact ⟨_, rfl⟩
  · rw [if_neg hj, if_neg hj]; exact ⟨_, rfl⟩
theorem call_min2 (hc : X.calm = true) : CallR X (.builtin "min") (fun xs H Q => ∃ i j, xs = [.int i, .int j] ∧ Q (.int (if j < i then j else i)) H) := by
  intro pins s σ H xs us Q I r h
  obtain ⟨i, j, rfl, q⟩ := h
  obtain ⟨u, w', rfl, ⟨t, rfl⟩, ⟨t', rfl⟩⟩ := vals2 r
  refine min_two_ints (I.ok.hd hc) fun h' tk k => ⟨_, H, I.kept k, ?_, q⟩
  by_cases hj : j < i
  · rw [if_pos hj, if_pos hj]; exact ⟨_, rfl⟩
  · rw [if_neg hj, if_neg hj]; exact ⟨_, rfl⟩
noncomputable def LenV (K : PySem.W.Frag) (x : V) (H : Hp) (n : Nat) : Prop :=
  match x with
  | .str y => y.length ≤ sizeLine ∧ n = y.length
  | .byt y => y.size ≤ sizeLine ∧ n = y.size
  | .ref p => (∃ xs, SqL K H p xs ∧ n = xs.length) ∨ ∃ xs, SqT K H p xs ∧ n = xs.length
  | _ => False
theorem call_len : CallR X (.builtin "len") (fun xs H Q => ∃ x n, xs = [x] ∧ LenV X.K x H n ∧ Q (.int n) H) := by
  intro pins s σ H xs us Q I r h
  obtain ⟨x, n, rfl, e, q⟩ := h
  obtain ⟨u, rfl, rx⟩ := vals1 r
  have hl := line63
  have hs : sizeLine = 16777216 := sizeLine_eq
  cases x with
  | str y =>
    obtain ⟨t, rfl⟩ := rx
    obtain ⟨hy, e'⟩ : y.length ≤ sizeLine ∧ n = y.length := e
    subst e'
    exact len_str (by omega) ⟨.int _, H, I.tok _, ⟨_, rfl⟩, q⟩
  | byt y =>
    obtain ⟨t, rfl⟩ := rx
    obtain ⟨hy, e'⟩ : y.size ≤ sizeLine ∧ n = y.size := e
    subst e'
    exact PySem.W.len_bytes (by omega) ⟨.int _, H, I.tok _, ⟨_, rfl⟩, q⟩
  | ref p =>
    cases rx
    have e' : (∃ xs, SqL X.K H p xs ∧ n = xs.length) ∨ ∃ xs, SqT X.K H p xs ∧ n = xs.length := e
    rcases e' with ⟨xs, hx, e'⟩ | ⟨xs, hx, e'⟩
    · subst e'
      obtain ⟨its, r', pl, hz⟩ := I.list hx
      have hlen := r'.length
      exact Calls.call_len_list pl.isList (by simp only [List.size_toArray]; omega) ⟨.int xs.length, H, I.tok _, ⟨_, by simp only [List.size_toArray]; rw [hlen]⟩, q⟩
    · subst e'
      obtain ⟨its, r', pl, hz⟩ := I.tuple hx
      have hlen := r'.length
      exact len_tuple pl (by simp only [List.size_toArray]; omega) ⟨.int xs.length, H, I.tok _, ⟨_, by simp only [List.size_toArray]; rw [hlen]⟩, q⟩
  | _ => exact (show False from e).elim
end
structure ObjM (h : Heap) (x dx C : Addr) (mA : Str → Option Value) : Prop where
  obj : h.get? x = some (PySem.W.instObj C dx)
  ns : h.Ns1 dx mA
  ne : dx ≠ x
theorem lookIn_ns {h : Heap} {dx : Addr} {mA : Str → Option Value} (n : h.Ns1 dx mA) : ∃ od, h.get? dx = some od ∧ ∀ name, PySem.W.lookIn name od = some (mA name) := by
  obtain ⟨o, es, ep, ho, hd, hk, _, hm⟩ := n
  refine ⟨o, ho, fun name => ?_⟩
  have e := hm name
  unfold nsFind findBy at e
  rw [← Array.find?_toList] at e
  unfold PySem.W.lookIn
  rw [hd]
  dsimp only
  split
  · rename_i y q
    rw [q] at e
    exact congrArg some e
  · rename_i q
    rw [q] at e
    have a : es.toList.any (·.refKey) = false := by
      rw [List.any_eq_false]
      intro y hy
      obtain ⟨z, t, hkey⟩ := hk y (Array.mem_toList_iff.mp hy)
      simp [DictEntry.refKey, hkey]
    have a' : ¬ es.toList.any (·.refKey) = true := by rw [a]; exact Bool.false_ne_true
    rw [if_neg a']
    exact congrArg some e
theorem ObjM.look {h : Heap} {x dx C : Addr} {mA : Str → Option Value} (I : ObjM h x dx C mA) : ∃ od, PySem.W.InstAt h x (PySem.W.instObj C dx) C (some od) ∧ ∀ name, PySem.W.lookIn name od = some (mA name) :=
  let ⟨od, ho, hl⟩ := lookIn_ns I.ns
  ⟨od, ⟨I.obj, rfl, rfl, ho⟩, hl⟩
section
variable {prog : Program} {w : World} {A : Around} {E : Value → Shared → Prop} {s : Shared} {K : PySem.W.Frag} {x dx C f : Addr} {mA : Str → Option Value} {name : Str} {v : Value}
theorem get_map {expr : Bool} {Q : Value → Shared → Prop} (X : K.In s.heap) (I : ObjM s.heap x dx C mA) (hg : PySem.W.plainGet K C name = true) (hh : PySem.W.hasDictIn K C = true)
    (ha : PySem.W.findIn K (.ref C) name = some none) (hv : mA name = some v) (hv' : PySem.W.handedIn v = true) (h : Q v { s with toks := s.toks + 1 }) :
    wpAny (model prog w) A (getAttr (.ref x) name expr) Q E s := by
  obtain ⟨od, J, hl⟩ := I.look
  exact PySem.W.get_value X J (PySem.W.plainGet_of hg).1 (PySem.W.findObj_own hh ha rfl (by rw [hl, hv])) hv' h
theorem get_meth {pl : Sem Bool} {Q : Value × List Value → Shared → Prop} (X : K.In s.heap) (I : ObjM s.heap x dx C mA) (hg : PySem.W.plainGet K C name = true)
    (hf : PySem.W.findIn K (.ref C) name = some (some (.ref f))) (ht : PySem.W.isFn K (.ref f) = true) (hv : mA name = none) (h : Q (.ref f, [.ref x]) s) :
    wpAny (model prog w) A (getMethod (.ref x) name pl) Q E s := by
  obtain ⟨od, J, hl⟩ := I.look
  exact PySem.W.method_fn X J (PySem.W.plainGet_of hg).1 (PySem.W.plainGet_of hg).2 hf (beq_iff_eq.mp ht) (by show (PySem.W.lookIn name od).map (·.isSome) = some false; rw [hl, hv]; rfl) h
theorem set_map {ns : List Str} {Q : Unit → Shared → Prop} (X : K.In s.heap) (I : ObjM s.heap x dx C mA)
    (hs : PySem.W.findIn K (.ref C) "__setattr__" = some (some (.builtin "object.__setattr__"))) (hp : PySem.W.plainOver K C = true) (ht : PySem.W.takerIn K C name = some none) (hh : PySem.W.hasDictIn K C = true)
    (hw : PySem.Within mA ns) (hsz : ns.length ≤ sizeLine)
    (h : ∀ h', ObjM h' x dx C (fun y => if y = name then some v else mA y) → Heap.SameBut dx s.heap h' → Q () { s with heap := h', toks := s.toks + 2 }) :
    wpAny (model prog w) A (setAttr (.ref x) name v) Q E s := by
  obtain ⟨od, J, hl⟩ := I.look
  refine PySem.W.set_plain X J hs (PySem.W.osa_open (s := { s with toks := s.toks + 1 }) (r := none) X J hp ht fun b => ?_)
  obtain ⟨cd, hc, hd'⟩ := PySem.W.any_some hh
  have hx : s.heap.get? x = some ⟨.ref C, some dx, .plain, #[]⟩ := I.obj
  refine wpAny_bind (wpAny_pure (wpAny_bind (wpAny_bind (wpAny_loadPart hx (wpAny_bind (PySem.W.Looks.here (s := { s with toks := s.toks + 1 }) (PySem.W.looks_clsIn X hc) ?_))))))
  rw [hd']
  refine wpAny_pure (a := some dx) (wpAny_bind (wpAny_pure (wpAny_bind ?_)))
  refine wpAny_nsSet1 (s := { s with toks := s.toks + 1 }) I.ns fun h' hn2 hs2 => ?_
  obtain ⟨oD, esD, epD, hoD, hdD, hcD⟩ := hn2.count (PySem.Within.cons name v hw)
  refine wpAny_bind (wpAny_lookBehind hoD (by rw [hdD]; exact pastItsLine_dict (Nat.le_trans hcD (by rw [List.length_cons]; omega))) ?_)
  exact wpAny_pure (h _ ⟨(hs2.2 _ (Ne.symm I.ne)).trans I.obj, hn2, I.ne⟩ hs2)
theorem make_map {R : Result → Shared → Prop} {vs : List Value} {kw : List (Str × Value)} (X : K.In s.heap) (hm : PySem.W.makesIn K C = true)
    (hi : PySem.W.findIn K (.ref C) "__init__" = some (some (.ref f))) (hf : PySem.W.typeIn K (.ref f) = some (.type "function"))
    (h : codeAny (model prog w) (A.under (.builtin "type.__call__" ⟨.ref C :: vs, kw⟩)) (.call (.ref f) ⟨.ref (s.heap.objs.size + 1) :: vs, kw⟩) (PySem.W.InitBack (s.heap.objs.size + 1) R)
      { s with heap := (s.heap.push PySem.W.emptyDict).push (PySem.W.instObj C s.heap.objs.size) }) :
    codeAny (model prog w) A (.call (.ref C) ⟨vs, kw⟩) R s := by
  obtain ⟨hh, g, d, t, os⟩ := s
  exact PySem.W.make_core (PySem.W.makes_of X hm) (PySem.W.looks_findIn X hi) (fun self => PySem.W.bind_fn X self hf) (.inl rfl) h
end
noncomputable def putF (f : Str) (v : V) : List (Str × V) → List (Str × V)
  | [] => [(f, v)]
  | (g, x) :: r => if g = f then (g, v) :: r else (g, x) :: putF f v r
theorem lookup_putF (f g : Str) (v : V) : ∀ fs : List (Str × V), (putF f v fs).lookup g = if g = f then some v else fs.lookup g
  | [] => by
    show List.lookup g [(f, v)] = _
    by_cases h : g = f
    · have hb : (g == f) = true := beq_iff_eq.mpr h
      simp only [List.lookup, hb, if_pos h]
    · have hb : (g == f) = false := beq_eq_false_iff_ne.mpr h
      simp only [List.lookup, hb, if_neg h]
  | (k, x) :: r => by
    have ih := lookup_putF f g v r
    rw [show putF f v ((k, x) :: r) = (if k = f then (k, v) :: r else (k, x) :: putF f v r) from rfl]
    by_cases hk : k = f
    · rw [if_pos hk]
      by_cases h : g = k
      · have hb : (g == k) = true := beq_iff_eq.mpr h
        simp only [List.lookup, hb, if_pos (h.trans hk)]
      · have hb : (g == k) = false := beq_eq_false_iff_ne.mpr h
        simp only [List.lookup, hb, if_neg (fun e : g = f => h (e.trans hk.symm))]
    · rw [if_neg hk]
      by_cases h : g = k
      · have hb : (g == k) = true := beq_iff_eq.mpr h
        simp only [List.lookup, hb, if_neg (fun e : g = f => hk (h.symm.trans e))]
      · have hb : (g == k) = false := beq_eq_false_iff_ne.mpr h
        simp only [List.lookup, hb]
        exact ih
theorem keys_putF (f : Str) (v : V) : ∀ fs : List (Str × V), f ∈ (putF f v fs).map (·.1) ∧ ∀ g, g ∈ fs.map (·.1) → g ∈ (putF f v fs).map (·.1)
  | [] => ⟨by simp [putF], fun g h => by simp at h⟩
  | (k, x) :: r => by
    obtain ⟨i1, i2⟩ := keys_putF f v r
    rw [show putF f v ((k, x) :: r) = (if k = f then (k, v) :: r else (k, x) :: putF f v r) from rfl]
    by_cases hk : k = f
    · rw [if_pos hk]
      subst hk
      exact ⟨by simp, fun g h => by simpa using h⟩
    · rw [if_neg hk]
      refine ⟨?_, fun g h => ?_⟩
      · rw [List.map_cons]
        exact List.mem_cons_of_mem _ i1
      · rw [List.map_cons] at h ⊢
        rcases List.mem_cons.mp h with e | e
        · exact List.mem_cons.mpr (.inl e)
        · exact List.mem_cons_of_mem _ (i2 g e)
theorem length_putF (f : Str) (v : V) : ∀ fs : List (Str × V), (putF f v fs).length ≤ fs.length + 1
  | [] => by simp [putF]
  | (k, x) :: r => by
    have ih := length_putF f v r
    rw [show putF f v ((k, x) :: r) = (if k = f then (k, v) :: r else (k, x) :: putF f v r) from rfl]
    by_cases hk : k = f
    · rw [if_pos hk, List.length_cons, List.length_cons]; omega
    · rw [if_neg hk, List.length_cons, List.length_cons]; omega
theorem RelO.some_of {v : V} {o : Option Value} (r : RelO (some v) o) : ∃ u, o = some u ∧ RelV v u := by
  cases o with
  | none => exact (show False from r).elim
  | some u => exact ⟨u, rfl, r⟩
theorem RelO.none_of {o : Option Value} (r : RelO none o) : o = none := by
  cases o with
  | none => rfl
  | some u => exact (show False from r).elim
theorem handed_of {v : V} {u : Value} (r : RelV v u) : PySem.W.handedIn u = true := by
  cases v with
  | non => cases (show u = Value.none from r); rfl
  | bl b => cases (show u = Value.bool b from r); rfl
  | int i => obtain ⟨t, e⟩ := (show ∃ t, u = Value.int i t from r); cases e; rfl
  | str x => obtain ⟨t, e⟩ := (show ∃ t, u = Value.str x t from r); cases e; rfl
  | byt b => obtain ⟨t, e⟩ := (show ∃ t, u = Value.bytes b t from r); cases e; rfl
  | flt b => obtain ⟨t, e⟩ := (show ∃ t, u = Value.float b t from r); cases e; rfl
  | ref a => cases (show u = Value.ref a from r); rfl
  | ty n => cases (show u = Value.type n from r); rfl
section
variable {P : Program} {w : World} {H H' : Hp} {h h' : Heap} {a C dx : Addr} {fs fs' : List (Str × V)}
theorem ins_get (hok : HOk P w H h) (e : H a = some (.ins C dx fs)) : ∃ mA, ObjM h a dx C mA ∧ (∀ f, RelO (fs.lookup f) (mA f)) ∧ PySem.Within mA (fs.map (·.1)) ∧ fs.length ≤ 1000 ∧ H dx = some (.own a) := by
  obtain ⟨d, z, ne, ob, mA, n, r, q⟩ := (show ObjOk P w H h a (.ins C dx fs) from hok a _ e)
  exact ⟨mA, ⟨ob, n, ne⟩, r, q, z, d⟩
end
structure Cls (K : PySem.W.Frag) (C : Addr) : Prop where
  pg : PySem.W.plainGet K C Str.empty = true
  hd : PySem.W.hasDictIn K C = true
  po : PySem.W.plainOver K C = true
  sa : PySem.W.findIn K (.ref C) "__setattr__" = some (some (.builtin "object.__setattr__"))
theorem Cls.get {K : PySem.W.Frag} {C : Addr} (c : Cls K C) (f : Str) : PySem.W.plainGet K C f = true := c.pg
noncomputable def NoAttr (K : PySem.W.Frag) (C : Addr) (f : Str) : Prop := PySem.W.findIn K (.ref C) f = some none
theorem NoAttr.taker {K : PySem.W.Frag} {C : Addr} {f : Str} (n : NoAttr K C f) : PySem.W.takerIn K C f = some none := by
  unfold PySem.W.takerIn
  rw [show PySem.W.findIn K (.ref C) f = some none from n]
  rfl
structure Con (K : PySem.W.Frag) (C : Addr) (f : Str) (v : V) (u : Value) : Prop where
  at_ : PySem.W.findIn K (.ref C) f = some (some u)
  rel : RelV v u
  get : PySem.W.specialIn K u "__get__" = some none
  cp : PySem.W.copiedNames.contains f = false
structure Meth (K : PySem.W.Frag) (C : Addr) (m : Str) (f : Addr) : Prop where
  at_ : PySem.W.findIn K (.ref C) m = some (some (.ref f))
  fn : PySem.W.isFn K (.ref f) = true
  kp : PySem.W.keepIn K (.ref f) = true
section
variable {X : Cx} {pins : List (Addr × Obj)} {σ : St} {H : Hp} {s : Shared} {a C dx : Addr} {fs : List (Str × V)} {f : Str} {v : V} {A : Around} {E : Value → Shared → Prop}
theorem getattr_ok {b : Bool} {Q : Value → Shared → Prop} (I : Inv X pins σ H s) (e : H a = some (.ins C dx fs)) (c : Cls X.K C) (n : NoAttr X.K C f) (l : fs.lookup f = some v)
    (h : ∀ u s', Inv X pins σ H s' → RelV v u → Q u s') : wpAny (model X.prog X.w) A (getAttr (.ref a) f b) Q E s := by
  obtain ⟨mA, O, r, _, _, _⟩ := ins_get I.hok e
  obtain ⟨u, hu, ru⟩ := RelO.some_of (v := v) (o := mA f) (by rw [← l]; exact r f)
  exact get_map I.kIn O (c.get f) c.hd n hu (handed_of ru) (h u _ (I.tok _) ru)
theorem getmeth_ok {m : Str} {g : Addr} {pl : Sem Bool} {Q : Value × List Value → Shared → Prop} (I : Inv X pins σ H s) (e : H a = some (.ins C dx fs)) (c : Cls X.K C) (k : Meth X.K C m g) (l : fs.lookup m = none)
    (h : Q (.ref g, [.ref a]) s) : wpAny (model X.prog X.w) A (getMethod (.ref a) m pl) Q E s := by
  obtain ⟨mA, O, r, _, _, _⟩ := ins_get I.hok e
  have hn : mA m = none := RelO.none_of (by rw [← l]; exact r m)
  exact get_meth I.kIn O (c.get m) k.at_ k.fn hn h
theorem setattr_ok {y : V} {u : Value} {Q : Unit → Shared → Prop} (I : Inv X pins σ H s) (e : H a = some (.ins C dx fs)) (c : Cls X.K C) (n : NoAttr X.K C f) (hl : fs.length < 1000) (ry : RelV y u)
    (h : ∀ s', Inv X pins σ (upd H a (.ins C dx (putF f y fs))) s' → Q () s') : wpAny (model X.prog X.w) A (setAttr (.ref a) f u) Q E s := by
  obtain ⟨mA, O, r, wi, _, ho⟩ := ins_get I.hok e
  have hz : (fs.map (·.1)).length ≤ sizeLine := by rw [List.length_map, sizeLine_eq]; omega
  refine set_map I.kIn O c.sa c.po n.taker c.hd wi hz fun h' O' sb => h _ ?_
  have hd : ∃ o, h'.get? dx = some o := let ⟨o, _, _, e', _⟩ := O'.ns; ⟨o, e'⟩
  refine I.write (x := a) (e := dx) (by rw [e]; exact True.intro) (.inr ho) (fun b q hb z => (sb.2 b hb).trans z) hd ?_
  refine ⟨by rw [upd_ne O.ne]; exact ho, ?_, O.ne, O'.obj, _, O'.ns, fun g => ?_, fun g hg => ?_⟩
  · have := length_putF f y fs; omega
  · show RelO ((putF f y fs).lookup g) (if g = f then some u else mA g)
    rw [lookup_putF]
    by_cases q : g = f
    · rw [if_pos q, if_pos q]; exact ry
    · rw [if_neg q, if_neg q]; exact r g
  · by_cases q : g = f
    · rw [q]; exact (keys_putF f y fs).1
    · refine (keys_putF f y fs).2 g (wi g fun z => hg ?_)
      show (if g = f then some u else mA g) = none
      rw [if_neg q]; exact z
theorem Inv.made (I : Inv X pins σ H s) : Inv X pins σ (upd (upd H s.heap.objs.size (.own (s.heap.objs.size + 1))) (s.heap.objs.size + 1) (.ins C s.heap.objs.size []))
    { s with heap := (s.heap.push PySem.W.emptyDict).push (PySem.W.instObj C s.heap.objs.size) } := by
  have e1 : (s.heap.push PySem.W.emptyDict).get? s.heap.objs.size = some PySem.W.emptyDict := Heap.get?_push_size s.heap rfl
  have e2 : ((s.heap.push PySem.W.emptyDict).push (PySem.W.instObj C s.heap.objs.size)).get? (s.heap.objs.size + 1) = some (PySem.W.instObj C s.heap.objs.size) := by
    have := Heap.get?_push_size (s.heap.push PySem.W.emptyDict) (o := PySem.W.instObj C s.heap.objs.size) rfl
    rwa [Heap.size_push] at this
  have e3 : (s.heap.push PySem.W.emptyDict).Ns s.heap.objs.size (fun _ => none) := ⟨PySem.W.emptyDict, #[], _, e1, rfl, (fun e he => absurd he (by simp)), fun _ => rfl⟩
  have I1 := I.laid (a := s.heap.objs.size) (o := .own (s.heap.objs.size + 1)) (h' := s.heap.push PySem.W.emptyDict) (t' := s.toks) (fun b u q => Heap.get?_push_of_some _ q) (Nat.le_refl _) ⟨_, e1⟩
  refine I1.laid (a := s.heap.objs.size + 1) (o := .ins C s.heap.objs.size []) (t' := s.toks) (fun b u q => Heap.get?_push_of_some _ q) (Nat.le_of_eq (Heap.size_push _ _)) ?_
  have ne : s.heap.objs.size ≠ s.heap.objs.size + 1 := Nat.ne_of_lt (Nat.lt_succ_self _)
  refine ⟨by rw [upd_ne ne, upd_same], Nat.zero_le _, ne, e2, fun _ => none, (Heap.Ns1.of_empty e3).at fun o q => Heap.get?_push_of_some _ q, fun _ => True.intro, fun y hy => absurd rfl hy⟩
theorem attr_of {prog : Program} {w : World} {env : Env} {e : Expr} {f : Str} {pos : Pos} {s : Shared} {Q : Value → Shared → Prop} (hb : attributeBase e f env (eval e env) = eval e env)
    (h : wpAny (model prog w) A (eval e env) (fun o s₁ => wpAny (model prog w) A (getAttr o f true) Q E s₁) E s) : wpAny (model prog w) A (eval (.Attribute e f pos) env) Q E s :=
  Attribute_any_ h (by rw [arm_eval_Attribute, hb])
end
noncomputable def tFld (K : PySem.W.Frag) (ta : TE) (f : Str) : TE := fun σ H Q => ta σ H fun x H1 => ∃ a C dx fs v, x = .ref a ∧ H1 a = some (.ins C dx fs) ∧ Cls K C ∧ NoAttr K C f ∧ fs.lookup f = some v ∧ Q v H1
noncomputable def tCon (K : PySem.W.Frag) (ta : TE) (f : Str) : TE := fun σ H Q => ta σ H fun x H1 => ∃ a C dx fs v u, x = .ref a ∧ H1 a = some (.ins C dx fs) ∧ Cls K C ∧ Con K C f v u ∧ fs.lookup f = none ∧ Q v H1
noncomputable def sFld (K : PySem.W.Frag) (ta tv : TE) (f : Str) : TS := fun D σ H => tv σ H fun y H1 => ta σ H1 fun x H2 => ∃ a C dx fs, x = .ref a ∧ H2 a = some (.ins C dx fs) ∧ Cls K C ∧ NoAttr K C f ∧ fs.length < 1000 ∧
  D.nx σ (upd H2 a (.ins C dx (putF f y fs)))
noncomputable def InOp (X : Cx) (op : Operator) (rd : V → V → Hp → VK → Prop) : Prop :=
  ∀ (pins : List (Addr × Obj)) (s : Shared) (σ : St) (H : Hp) (x y : V) (u v : Value) (Q : VK), Inv X pins σ H s → RelV x u → RelV y v → rd x y H Q → wpAny (model X.prog X.w) X.A (inplaceOp op u v) (EP X pins σ Q) X.xe s
noncomputable def sFldAug (K : PySem.W.Frag) (ta tv : TE) (rd : V → V → Hp → VK → Prop) (f : Str) : TS := fun D σ H => ta σ H fun x H1 => ∃ a C dx fs v, x = .ref a ∧ H1 a = some (.ins C dx fs) ∧ Cls K C ∧ NoAttr K C f ∧ fs.lookup f = some v ∧
  tv σ H1 fun y H2 => rd v y H2 fun z H3 => ∃ dx' fs', H3 a = some (.ins C dx' fs') ∧ fs'.length < 1000 ∧ D.nx σ (upd H3 a (.ins C dx' (putF f z fs')))
section
variable {X : Cx} {o e value : Expr} {f : Str} {pos pos' tpos : Pos} {ta tv : TE}
theorem pe_fld (he : PE X e ta) (hb : attributeBase e f X.env (eval e X.env) = eval e X.env) : PE X (.Attribute e f pos) (tFld X.K ta f) := by
  intro pins s σ H Q I h
  refine attr_of hb (thn (he pins s σ H _ I h) fun u s1 ⟨x, H1, I1, rx, a, C, dx, fs, v, ex, ea, c, n, l, q⟩ => ?_)
  subst ex
  obtain rfl : u = Value.ref a := rx
  exact getattr_ok I1 ea c n l fun u' s2 I2 ru => ⟨v, H1, I2, ru, q⟩
theorem ps_fld (ha : PE X o ta) (hv : PE X value tv) (hs : swapsWith value (some (.Attribute o f pos')) pos.line X.env = pure false) : PS X (.Assign [.Attribute o f pos'] value pos) (sFld X.K ta tv f) := by
  intro pins s σ H D I h
  refine plainObj_wpAny_Assign_Attribute (thn (hv pins s σ H _ I h) fun u s1 ⟨y, H1, I1, ry, q⟩ => thn (ha pins s1 σ H1 _ I1 q) fun ov s2 ⟨x, H2, I2, rx, a, C, dx, fs, ex, ea, c, n, l, q2⟩ => ?_) hs
  subst ex
  obtain rfl : ov = Value.ref a := rx
  exact setattr_ok I2 ea c n l ry fun s3 I3 => ⟨σ, _, I3, q2⟩
noncomputable def rAdd : V → V → Hp → VK → Prop := fun x y H Q => ∃ i j, x = .int i ∧ y = .int j ∧ Q (.int (i + j)) H
noncomputable def rSub : V → V → Hp → VK → Prop := fun x y H Q => ∃ i j, x = .int i ∧ y = .int j ∧ Q (.int (i - j)) H
end
section
variable {X : Cx} {pins : List (Addr × Obj)} {σ : St} {H : Hp} {s : Shared} {A : Around} {E : Value → Shared → Prop} {Q : Value → Shared → Prop} {c : Value} {b : Bool}
inductive TyOf (K : PySem.W.Frag) (H : Hp) : V → Value → Prop where
  | non : TyOf K H .non (.type "NoneType")
  | bl (x : Bool) : TyOf K H (.bl x) (.type "bool")
  | int (i : Int) : TyOf K H (.int i) (.type "int")
  | str (x : Str) : TyOf K H (.str x) (.type "str")
  | flt (x : UInt64) : TyOf K H (.flt x) (.type "float")
  | lst {a : Addr} {xs : List V} (e : H a = some (.lst xs)) : TyOf K H (.ref a) (.type "list")
  | frz {a : Addr} {o : Obj} {xs : List V} (e : H a = some (.frz o (.lst xs))) : TyOf K H (.ref a) (.type "list")
  | tup {a : Addr} {xs : List V} (e : H a = some (.tup xs)) : TyOf K H (.ref a) (.type "tuple")
  | dK {a : Addr} {kvs : List (Key × V)} (e : H a = some (.dK kvs)) : TyOf K H (.ref a) (.type "dict")
  | dT {a : Addr} {kvs : List (List Key × V)} (e : H a = some (.dT kvs)) : TyOf K H (.ref a) (.type "dict")
  | ins {a C dx : Addr} {fs : List (Str × V)} (e : H a = some (.ins C dx fs)) (cl : Cls K C) (ha : PySem.W.findIn K (.ref C) "__class__" = some (some (.builtin "object.__class__")))
      (hn : PySem.W.specialIn K (.builtin "object.__class__") "__get__" = some (some (.builtin "getset_descriptor.__get__"))) (htk : PySem.W.takesIn K (.builtin "object.__class__") = some true)
      (hm : PySem.W.mroIn K C (.type "object") = some true) : TyOf K H (.ref a) (.ref C)
end
structure Room (k : Nat) (A : Around) : Prop where
  hd : A.handled = none
  dp : A.depth + 3 * k + 5 < recursionLimit
  un : A.units + 16 * k + 200 < cLine
theorem Room.mono {j k : Nat} {A : Around} (r : Room k A) (h : j ≤ k) : Room j A := ⟨r.hd, by have := r.dp; omega, by have := r.un; omega⟩
theorem Room.deeper {k : Nat} {A : Around} (r : Room (k + 1) A) (env : Env) : Room k (A.deeper env) :=
  ⟨r.hd, by have := r.dp; show A.depth + 1 + 3 * k + 5 < _; omega, by have := r.un; show A.units + 3 + 16 * k + 200 < _; omega⟩
theorem Room.in1 {k : Nat} {A : Around} (r : Room (k + 1) A) : Room k A.in1 :=
  ⟨r.hd, by have := r.dp; show A.depth + 3 * k + 5 < _; omega, by have := r.un; show A.units + 1 + 16 * k + 200 < _; omega⟩
theorem make_depth {A : Around} {C : Addr} {us : List Value} {kw : List (Str × Value)} : (A.under (.builtin "type.__call__" ⟨.ref C :: us, kw⟩)).depth = A.depth + 1 := by
  first | rfl | simp [Around.under, Code.weight, Code.isCreation, Code.isGuard, Code.isCaller, Code.frames, Code.isFrame, guardIds]
theorem make_units {A : Around} {C : Addr} {us : List Value} {kw : List (Str × Value)} : (A.under (.builtin "type.__call__" ⟨.ref C :: us, kw⟩)).units = A.units + 1 := by
  first | rfl | simp [Around.under, Code.cUnits, Code.frames, Code.isFrame]
theorem Room.make {k : Nat} {A : Around} (r : Room (k + 1) A) (C : Addr) (us : List Value) (kw : List (Str × Value)) : Room k (A.under (.builtin "type.__call__" ⟨.ref C :: us, kw⟩)) :=
  ⟨r.hd, by have := r.dp; rw [make_depth]; omega, by have := r.un; rw [make_units]; omega⟩
theorem Room.depth {k : Nat} {A : Around} (r : Room k A) : A.depth < recursionLimit := by have := r.dp; omega
theorem Room.units {k : Nat} {A : Around} (r : Room k A) : A.units + 64 < cLine := by have := r.un; omega
noncomputable def tNil : TA := fun _ H Q => Q [] H
noncomputable def tCons (ta : TE) (tr : TA) : TA := fun σ H Q => ta σ H fun x H1 => tr σ H1 fun xs H2 => Q (x :: xs) H2
section
variable {X : Cx} {e : Expr} {es : List Expr} {te : TE} {t : TA} {pos : Pos}
theorem pa_nil : PA X [] tNil := fun _ _ _ _ H Q I h => Calls.spliced_nil ⟨[], H, I, .nil, h⟩
theorem pa_cons (ha : PE X e te) (hr : PA X es t) (hs : starEach (e :: es) X.env = (false, eval e X.env) :: starEach es X.env := by rfl) : PA X (e :: es) (tCons te t) := by
  intro pos pins s σ H Q I h
  rw [hs]
  show wpAny _ _ (spliced ((false, eval e X.env) :: backTo pos (starEach es X.env))) _ _ s
  refine Calls.spliced_cons (thn (ha pins s σ H _ I h) fun u s1 ⟨x, H1, I1, r1, q1⟩ => ?_)
  exact thn (hr pos pins s1 σ H1 _ I1 q1) fun us s2 ⟨xs, H2, I2, r2, q2⟩ => ⟨x :: xs, H2, I2, .cons r1 r2, q2⟩
noncomputable def tTup (t : TA) : TE := fun σ H Q => t σ H fun xs H1 => xs.length ≤ sizeLine ∧ ∀ p, H1 p = none → Q (.ref p) (upd H1 p (.tup xs))
noncomputable def tLst (t : TA) : TE := fun σ H Q => t σ H fun xs H1 => xs.length ≤ sizeLine ∧ ∀ p, H1 p = none → Q (.ref p) (upd H1 p (.lst xs))
theorem pe_tup {x1} (h : PA X es t) : PE X (.Tuple es x1 pos) (tTup t) := by
  intro pins s σ H Q I hq
  refine wpAny_Tuple_spliced (thn (h pos pins s σ H _ I hq) fun us s1 ⟨xs, H1, I1, r, z, q⟩ => ⟨by rw [← r.length]; exact z, ?_⟩)
  have hf : H1 s1.heap.objs.size = none := I1.hok.fresh (Nat.le_refl _)
  refine ⟨.ref s1.heap.objs.size, upd H1 s1.heap.objs.size (.tup xs), I1.laid (t' := s1.toks) (fun b u e => Heap.get?_push_of_some _ e) (Nat.le_refl _) ?_, rfl, q _ hf⟩
  exact ⟨z, us, r, ⟨_, Heap.get?_push_size _ rfl, rfl, _, rfl⟩⟩
theorem pe_lst (h : PA X es t) : PE X (.List es pos) (tLst t) := by
  intro pins s σ H Q I hq
  refine wpAny_List_spliced (thn (h pos pins s σ H _ I hq) fun us s1 ⟨xs, H1, I1, r, z, q⟩ => ⟨by rw [← r.length]; exact z, ?_⟩)
  have hf : H1 s1.heap.objs.size = none := I1.hok.fresh (Nat.le_refl _)
  refine ⟨.ref s1.heap.objs.size, upd H1 s1.heap.objs.size (.lst xs), I1.laid (t' := s1.toks) (fun b u e => Heap.get?_push_of_some _ e) (Nat.le_refl _) ?_, rfl, q _ hf⟩
  exact ⟨z, us, 0, r, Heap.get?_push_size _ rfl⟩
end
noncomputable abbrev Sp := List V → Hp → VK → XK → Prop
noncomputable abbrev CXT := List Env → Hp → Shared → XK → Value → Shared → Prop
structure Env0 (P : Program) (w : World) (K : PySem.W.Frag) (mg : Str → Option Value) (base : Heap) (A : Around) (outer : List Env) (s : Shared) (H : Hp) : Prop where
  frames : A.frames = some outer
  mod : Mod K mg base
  bs : ∀ b o, base.get? b = some o → s.heap.get? b = some o ∧ H b = none
  bsz : base.objs.size ≤ s.heap.objs.size
  funs : s.heap.FunFrames base outer
  frf : ∀ b ∈ frs outer, H b = none
  hok : HOk P w H s.heap
  bare : AllBare s.gens
noncomputable def CE (outer : List Env) (P : Program) (w : World) (H : Hp) (s : Shared) (Q : VK) (u : Value) (s' : Shared) : Prop :=
  ∃ v H', s'.os = s.os ∧ AllBare s'.gens ∧ Un (frs outer) [] H H' s.heap s'.heap ∧ HOk P w H' s'.heap ∧ RelV v u ∧ Q v H'
noncomputable def CR (CX : CXT) (outer : List Env) (P : Program) (w : World) (H : Hp) (s : Shared) (Q : VK) (E : XK) (r : Result) (s' : Shared) : Prop :=
  match r with
  | .ok (.ret u) => CE outer P w H s Q u s'
  | .ok _ => False
  | .error e => CX outer H s E e s'
structure FnOk (P : Program) (w : World) (K : PySem.W.Frag) (mg : Str → Option Value) (base : Heap) (CX : CXT) (k : Nat) (f : Addr) (fd : FuncData) (ps : List Str) (sp : Sp) : Prop where
  len : ∀ vs H Q E, sp vs H Q E → vs.length = ps.length
  run : ∀ (A : Around) (outer : List Env) (s : Shared) (H : Hp) (args : Args) (us : List Value) (vs : List V) (Q : VK) (E : XK), Room k A → Env0 P w K mg base A outer s H → BindsTo s fd args (ps.zip us) → Vals vs us → sp vs H Q E →
    codeAny (model P w) A (.call (.ref f) args) (CR CX outer P w H s Q E) s
theorem FnOk.mono {P : Program} {w : World} {K : PySem.W.Frag} {mg : Str → Option Value} {base : Heap} {CX : CXT} {j k : Nat} {f : Addr} {fd : FuncData} {ps : List Str} {sp : Sp} (F : FnOk P w K mg base CX j f fd ps sp) (h : j ≤ k) :
    FnOk P w K mg base CX k f fd ps sp := ⟨F.len, fun A outer s H args us vs Q E hr => F.run A outer s H args us vs Q E (hr.mono h)⟩
theorem FnOk.imp {P : Program} {w : World} {K : PySem.W.Frag} {mg : Str → Option Value} {base : Heap} {CX : CXT} {k : Nat} {f : Addr} {fd : FuncData} {ps : List Str} {sp sp' : Sp} (F : FnOk P w K mg base CX k f fd ps sp)
    (h : ∀ vs H Q E, sp' vs H Q E → sp vs H Q E) : FnOk P w K mg base CX k f fd ps sp' :=
  ⟨fun vs H Q E q => F.len vs H Q E (h _ _ _ _ q), fun A outer s H args us vs Q E hr he hb hv hs => F.run A outer s H args us vs Q E hr he hb hv (h _ _ _ _ hs)⟩
theorem Env0.make {P : Program} {w : World} {K : PySem.W.Frag} {mg : Str → Option Value} {base : Heap} {A : Around} {outer : List Env} {s : Shared} {H : Hp} (e : Env0 P w K mg base A outer s H) (C : Addr) (us : List Value) (kw : List (Str × Value)) :
    Env0 P w K mg base (A.under (.builtin "type.__call__" ⟨.ref C :: us, kw⟩)) outer s H := ⟨by first | exact e.frames | (simpa [Around.under, Code.envs, Code.isFrame, pushEnvs] using e.frames), e.mod, e.bs, e.bsz, e.funs, e.frf, e.hok, e.bare⟩
theorem Env0.in1 {P : Program} {w : World} {K : PySem.W.Frag} {mg : Str → Option Value} {base : Heap} {A : Around} {outer : List Env} {s : Shared} {H : Hp} (e : Env0 P w K mg base A outer s H) :
    Env0 P w K mg base A.in1 outer s H := ⟨e.frames, e.mod, e.bs, e.bsz, e.funs, e.frf, e.hok, e.bare⟩
section
variable {X : Cx} {pins : List (Addr × Obj)} {σ : St} {H : Hp} {s s' : Shared}
theorem Inv.env0 (I : Inv X pins σ H s) : Env0 X.prog X.w X.K X.mg X.base X.A X.stack s H :=
  ⟨I.ok.frames, I.ok.mod, I.bs, Nat.le_trans I.ok.bsz I.sz, I.stack, I.stkFree, I.hok, I.bare⟩
theorem Inv.after {Q : VK} {u : Value} (I : Inv X pins σ H s) (h : CE X.stack X.prog X.w H s Q u s') : EP X pins σ Q u s' := by
  obtain ⟨v, H', os, bare, un, hok, r, q⟩ := h
  obtain ⟨hh, g, d, t, os'⟩ := s'
  obtain rfl : os' = s.os := os
  exact ⟨v, H', I.call (h' := hh) (g' := g) (d' := d) (t' := t) (ch := []) un hok bare (fun b z => absurd z (by simp)), r, q⟩
end
noncomputable def tCall (sp : Sp) (dvs : List V) (E : XK) (t : TA) : TE := fun σ H Q => t σ H fun vs H1 => sp (vs ++ dvs) H1 Q E
noncomputable def tMeth (C : Addr) (m : Str) (sp : Sp) (dvs : List V) (E : XK) (ta : TE) (t : TA) : TE := fun σ H Q => ta σ H fun x H1 => ∃ a dx fs, x = .ref a ∧ H1 a = some (.ins C dx fs) ∧ fs.lookup m = none ∧
  t σ H1 fun vs H2 => sp (x :: (vs ++ dvs)) H2 Q E
noncomputable def tMake (C : Addr) (sp : Sp) (dvs : List V) (E : XK) (t : TA) : TE := fun σ H Q => t σ H fun vs H1 => ∀ x dx, H1 x = none → H1 dx = none → dx ≠ x →
  sp (.ref x :: (vs ++ dvs)) (upd (upd H1 dx (.own x)) x (.ins C dx [])) (fun v H2 => v = .non ∧ Q (.ref x) H2) E
noncomputable def Binds (K : PySem.W.Frag) (fd : FuncData) (ps : List Str) (ds : List Value) : Prop :=
  ∀ (s : Shared) (us : List Value), K.In s.heap → (us ++ ds).length = ps.length → BindsTo s fd ⟨us, []⟩ (ps.zip (us ++ ds))
theorem Binds.all {K : PySem.W.Frag} {fd : FuncData} {ps : List Str} (h : ∀ us : List Value, us.length = ps.length → bindArgs fd ⟨us, []⟩ = pure (ps.zip us)) : Binds K fd ps [] := fun s us _ hl => by
  rw [List.append_nil] at hl ⊢
  exact .of_eq (h us hl)
noncomputable def Passes (CX : CXT) (X : Cx) (E : XK) : Prop := ∀ (pins : List (Addr × Obj)) (σ : St) (H : Hp) (s : Shared) (e : Value) (s' : Shared), Inv X pins σ H s → CX X.stack H s E e s' → X.xe e s'
section
variable {X : Cx} {CX : CXT} {k : Nat} {f C : Addr} {fd : FuncData} {ps : List Str} {sp : Sp} {dvs : List V} {ds : List Value} {E : XK} {x m : Str} {p pos apos : Pos} {e o : Expr} {es : List Expr} {ta : TE} {t : TA}
structure Mk (K : PySem.W.Frag) (C f : Addr) : Prop where
  makes : PySem.W.makesIn K C = true
  init : PySem.W.findIn K (.ref C) "__init__" = some (some (.ref f))
  fn : PySem.W.isFn K (.ref f) = true
  kp : PySem.W.keepIn K (.ref C) = true
end
noncomputable def PK (X : Cx) (kws : List Keyword) (t : TA) : Prop :=
  ∀ (pos : Pos) (pins : List (Addr × Obj)) (s : Shared) (σ : St) (H : Hp) (Q : List V → Hp → Prop), Inv X pins σ H s → t σ H Q → wpAny (model X.prog X.w) X.A (evalAll ((backToKw pos (keywordEach kws X.env)).map (·.2))) (AP X pins σ Q) X.xe s
section
variable {X : Cx} {CX : CXT} {k : Nat} {f C : Addr} {fd : FuncData} {ps ks : List Str} {sp : Sp} {E : XK} {x m : Str} {p pos apos kpos : Pos} {e o : Expr} {es : List Expr} {kws : List Keyword} {te ta : TE} {t tk : TA} {nm : Option Str}
structure KBinds (K : PySem.W.Frag) (fd : FuncData) (ps ks : List Str) (g : List Value → List Value → List Value) (gV : List V → List V → List V) : Prop where
  to : ∀ (s : Shared) (us ws : List Value), K.In s.heap → (g us ws).length = ps.length → BindsTo s fd ⟨us, ks.zip ws⟩ (ps.zip (g us ws))
  rel : ∀ {vs : List V} {us : List Value} {zs : List V} {ws : List Value}, Vals vs us → Vals zs ws → Vals (gV vs zs) (g us ws)
noncomputable def tCallK (sp : Sp) (gV : List V → List V → List V) (E : XK) (t tk : TA) : TE := fun σ H Q => t σ H fun vs H1 => tk σ H1 fun zs H2 => sp (gV vs zs) H2 Q E
variable {g : List Value → List Value → List Value} {gV : List V → List V → List V}
end
structure FnScope (N P : List Str) (sc : Scope) : Prop where
  kind : sc.kind = .function
  co : sc.isCoroutine = false
  gen : sc.isGenerator = false
  nd : N.Nodup
  pre : N.take P.length = P
  par : ∀ x ∈ P, sc.names.lookup x = some .local ∨ sc.names.lookup x = some .cell
  nofree : ∀ y ∈ sc.names, y.2 ≠ .free
theorem bindL_out {kindOf : Str → Option NameKind} {x : Str} : ∀ {binds : List (Str × Value)} {m : Str → Option Value}, (∀ v, (x, v) ∉ binds) → bindL kindOf binds m x = m x
  | [], _, _ => rfl
  | (n, v) :: r, m, h => by
    unfold bindL
    rw [bindL_out fun w hw => h w (List.mem_cons_of_mem _ hw)]
    split
    · have : x ≠ n := by rintro rfl; exact h v List.mem_cons_self
      simp [this]
    · rfl
theorem bindC_out {kindOf : Str → Option NameKind} {x : Str} : ∀ {binds : List (Str × Value)} {m : Str → Option Value}, (∀ v, (x, v) ∉ binds) → bindC kindOf binds m x = m x
  | [], _, _ => rfl
  | (n, v) :: r, m, h => by
    unfold bindC
    rw [bindC_out fun w hw => h w (List.mem_cons_of_mem _ hw)]
    split
    · rfl
    · have : x ≠ n := by rintro rfl; exact h v List.mem_cons_self
      simp [this]
theorem bindL_get {kindOf : Str → Option NameKind} {x : Str} {v : Value} : ∀ {P : List Str} {vs : List Value} {i : Nat} {m : Str → Option Value}, P.Nodup → P[i]? = some x → vs[i]? = some v → kindOf x = some .local →
    bindL kindOf (P.zip vs) m x = some v
  | [], _, _, _, _, h, _, _ => by simp at h
  | _ :: _, [], _, _, _, _, h, _ => by simp at h
  | p :: P, w :: vs, 0, m, nd, h1, h2, hk => by
    simp at h1 h2; subst h1; subst h2
    show bindL kindOf ((p, w) :: P.zip vs) m p = _
    unfold bindL
    rw [bindL_out fun v hv => (List.nodup_cons.mp nd).1 (List.of_mem_zip hv).1, if_pos hk]
    simp
  | p :: P, w :: vs, i + 1, m, nd, h1, h2, hk => by
    show bindL kindOf ((p, w) :: P.zip vs) m x = _
    unfold bindL
    exact bindL_get (i := i) (List.nodup_cons.mp nd).2 (by simpa using h1) (by simpa using h2) hk
theorem bindC_get {kindOf : Str → Option NameKind} {x : Str} {v : Value} : ∀ {P : List Str} {vs : List Value} {i : Nat} {m : Str → Option Value}, P.Nodup → P[i]? = some x → vs[i]? = some v → kindOf x ≠ some .local →
    bindC kindOf (P.zip vs) m x = some v
  | [], _, _, _, _, h, _, _ => by simp at h
  | _ :: _, [], _, _, _, _, h, _ => by simp at h
  | p :: P, w :: vs, 0, m, nd, h1, h2, hk => by
    simp at h1 h2; subst h1; subst h2
    show bindC kindOf ((p, w) :: P.zip vs) m p = _
    unfold bindC
    rw [bindC_out fun v hv => (List.nodup_cons.mp nd).1 (List.of_mem_zip hv).1, if_neg hk]
    simp
  | p :: P, w :: vs, i + 1, m, nd, h1, h2, hk => by
    show bindC kindOf ((p, w) :: P.zip vs) m x = _
    unfold bindC
    exact bindC_get (i := i) (List.nodup_cons.mp nd).2 (by simpa using h1) (by simpa using h2) hk
noncomputable def start (N : List Str) (vs : List V) : St := vs.map some ++ List.replicate (N.length - vs.length) none
noncomputable def cxOf (CX : CXT) (P : Program) (w : World) (K : PySem.W.Frag) (mg : Str → Option Value) (base : Heap) (N : List Str) (qual : Str) (scope : Scope) (f : Addr) (cd : Value) (A : Around) (outer : List Env) (s : Shared) (H : Hp) (E : XK) (c : Bool := true) : Cx where
  prog := P
  w := w
  K := K
  mg := mg
  base := base
  A := A.deeper (envOfC qual scope s.heap.objs.size f cd)
  N := N
  s₀ := s
  H₀ := H
  env := envOfC qual scope s.heap.objs.size f cd
  outer := outer
  stack := envOfC qual scope s.heap.objs.size f cd :: outer
  ex := []
  calm := c
  fn := fun _ => true
  pn := []
  xe := fun e s' => wpAny (model P w) (A.deeper (envOfC qual scope s.heap.objs.size f cd)) (leaving (envOfC qual scope s.heap.objs.size f cd) e) (fun _ s'' => CX outer H s E e s'') (fun e' s'' => CX outer H s E e' s'') s'
theorem cell_has {sc : Scope} {n : Nat} {x : Str} (h : sc.names.lookup x = some .cell) : ∃ c, (cellsFrom n sc.names []).lookup x = some c := by
  have q := PySem.W.cellsFrom_some sc.names n [] (.inl h)
  exact Option.isSome_iff_exists.mp q
theorem inv_start {CX : CXT} {P : Program} {w : World} {K : PySem.W.Frag} {mg : Str → Option Value} {base : Heap} {N ps : List Str} {qual : Str} {scope : Scope} {f : Addr} {cd : Value} {A : Around} {outer : List Env} {s s1 : Shared} {H : Hp} {E : XK} {us : List Value} {vs : List V}
    (S : FnScope N ps scope) {c : Bool} (hd : c = true → A.handled = none) (e0 : Env0 P w K mg base A outer s H) (hl : vs.length = ps.length) (r : Vals vs us)
    (x : InCallC s s.heap.objs.size (bindL (envOfC qual scope s.heap.objs.size f cd).kindOf (ps.zip us) fun _ => none) (cellsFrom (s.heap.objs.size + 1) scope.names []) (bindC (envOfC qual scope s.heap.objs.size f cd).kindOf (ps.zip us) fun _ => none) s1) :
    Inv (cxOf CX P w K mg base N qual scope f cd A outer s H E c) [] (start N vs) H s1 := by
  have hpl : ps.length ≤ N.length := by have := congrArg List.length S.pre; rw [List.length_take] at this; omega
  obtain ⟨h1, tk, rfl, hk⟩ := x.done
  have noA : ∀ b : Addr, b ∉ (cxOf CX P w K mg base N qual scope f cd A outer s H E c).ex := fun b z => absurd (show b ∈ ([] : List Addr) from z) (by simp)
  refine ⟨⟨e0.mod, S.kind, rfl, rfl, Nat.le_refl _, fun y z c h1 h2 => ?_, fun y hy => ?_, fun y c _ h => ?_, hd, Around.frames_deeper e0.frames, .inr ⟨rfl, rfl⟩, fun b z => absurd z (noA b), e0.bs, e0.bsz, fun b _ _ => noA b, fun b z => absurd z (noA b), e0.funs, e0.frf⟩,
    rfl, e0.bare, Un.kept hk, ⟨_, x.toInCall.ns, fun i y v h1 h2 h3 => ?_⟩, fun y c h => ⟨_, x.cell y c h⟩, e0.hok.fresh (Nat.le_refl _), fun y c h => ?_, fun p hp => absurd (show p ∈ ([] : List (Addr × Obj)) from hp) (by simp), e0.hok.kept hk, ?_⟩
  · exact name_of_addr x.apart (PySem.mem_of_lookup h1) (PySem.mem_of_lookup h2)
  · have hy : scope.names.lookup y = some .cell ∨ scope.names.lookup y = some .free := hy
    rcases hy with hy | hy
    · exact cell_has hy
    · exact absurd rfl (S.nofree _ (PySem.mem_of_lookup hy))
  · exact Nat.le_of_lt (x.above y c (PySem.mem_of_lookup h))
  · have hi : i < vs.length := by
      unfold start at h2
      by_cases hi : i < vs.length
      · exact hi
      · rw [List.getElem?_append_right (by simpa using hi)] at h2
        rw [List.getElem?_replicate] at h2
        split at h2 <;> cases h2
    have ha : vs[i]? = some v := by
      unfold start at h2
      rw [List.getElem?_append_left (by simpa using hi), List.getElem?_map] at h2
      cases e : vs[i]? with
      | none => rw [e] at h2; cases h2
      | some a => rw [e] at h2; cases h2; rfl
    obtain ⟨u, hu, rv⟩ := r.get ha
    have hp : ps[i]? = some y := by
      rw [← S.pre, List.getElem?_take_of_lt (by omega)]; exact h1
    have ndP : ps.Nodup := by rw [← S.pre]; exact S.nd.sublist (List.take_sublist _ _)
    refine ⟨u, rv, ?_⟩
    rcases S.par y (List.mem_of_getElem? hp) with k | k
    · exact .inl ⟨k, bindL_get ndP hp hu k⟩
    · obtain ⟨c, e⟩ := cell_has (n := s.heap.objs.size + 1) k
      refine .inr ⟨.inl k, c, e, ?_⟩
      have q := x.cell y c e
      rw [bindC_get ndP hp hu (by show scope.names.lookup y ≠ _; rw [k]; decide)] at q
      exact q
  · exact e0.hok.fresh (Nat.le_of_lt (x.above y c (PySem.mem_of_lookup h)))
  · unfold start
    show _ = N.length
    rw [List.length_append, List.length_map, List.length_replicate]
    omega
theorem fn_of {CX : CXT} {P : Program} {w : World} {K : PySem.W.Frag} {mg : Str → Option Value} {base : Heap} {k : Nat} {f : Addr} {name qual : Str} {params : Arguments} {body : List Stmt} {scope : Scope} {dV kV doc pm cdv ct oc : Value} {an od : Option Addr}
    {osl : Array (Option Value)} {N ps : List Str} {sp : Sp} (lk : K.lookup f = some ⟨oc, od, .func (PySem.W.fnOf name qual params body scope dV kV doc pm an cdv ct), osl⟩) (hcd : PySem.W.codeIn K cdv qual = true) (S : FnScope N ps scope)
    (len : ∀ vs H Q E, sp vs H Q E → vs.length = ps.length)
    (hbody : ∀ (A : Around) (outer : List Env) (s : Shared) (H : Hp) (vs : List V) (Q : VK) (E : XK), Room k (A.deeper (envOfC qual scope s.heap.objs.size f cdv)) → sp vs H Q E →
      ∃ t, PSs (cxOf CX P w K mg base N qual scope f cdv A outer s H E) body t ∧ t { nx := fun _ H' => Q .non H', rt := Q } (start N vs) H) :
    FnOk P w K mg base CX (k + 1) f (PySem.W.fnOf name qual params body scope dV kV doc pm an cdv ct) ps sp := by
  refine ⟨len, fun A outer s H args us vs Q E hr e0 hb r hsp => ?_⟩
  have hl := len _ _ _ _ hsp
  have KX : K.In s.heap := e0.mod.kin.keeps fun b o e => (e0.bs b o e).1
  have lim : s.heap.NoLimit := e0.mod.nolimit.keeps fun b o e => (e0.bs b o e).1
  have hkind : ∀ y ∈ ps.zip us, scope.names.lookup y.1 = some .local ∨ (scope.names.lookup y.1 = some .cell ∧ ((cellsFrom (s.heap.objs.size + 1) scope.names []).lookup y.1).isSome = true) := fun ⟨n, v⟩ hy => by
    rcases S.par n (List.of_mem_zip hy).1 with q | q
    · exact .inl q
    · exact .inr ⟨q, PySem.W.cellsFrom_some _ _ _ (.inl q)⟩
  refine codeAny_call_function hr.depth (KX _ _ lk) rfl S.co S.gen rfl (PySem.W.codeRec_of KX hcd) (hb _ _ _ _ ?_)
  refine wpAny_newFunctionEnv_cells S.kind hkind fun env he s1 x => ?_
  subst he
  refine ⟨lim.keeps x.toInCall.keep, codeAny_func ?_⟩
  obtain ⟨t, ht, hq⟩ := hbody A outer s H vs Q E (hr.deeper _) hsp
  have I : Inv (cxOf CX P w K mg base N qual scope f cdv A outer s H E) [] (start N vs) H s1 := inv_start S (fun _ => hr.hd) e0 hl r x
  refine wpAny_mono (ht [] s1 (start N vs) H _ I hq) (fun fl s' hs => ?_) fun e s' hs => hs
  have fin : ∀ {σ' : St} {H' : Hp} {v : V} {u : Value}, Inv (cxOf CX P w K mg base N qual scope f cdv A outer s H E) [] σ' H' s' → RelV v u → Q v H' → CE outer P w H s Q u s' :=
    fun {σ' H' v u} J rv q => ⟨v, H', J.os, J.bare, J.base, J.hok, rv, q⟩
  cases fl with
  | ret u =>
    obtain ⟨v, σ', H', J, rv, q⟩ := hs
    exact fin J rv q
  | next =>
    obtain ⟨σ', H', J, q⟩ := hs
    exact fin (v := V.non) (u := Value.none) J rfl q
  | brk =>
    obtain ⟨_, _, _, q⟩ := hs
    exact False.elim q
  | cont =>
    obtain ⟨_, _, _, q⟩ := hs
    exact False.elim q
structure RoomQ (k : Nat) (A : Around) : Prop where
  dp : A.depth + 3 * k + 5 < recursionLimit
  un : A.units + 16 * k + 200 < cLine
theorem Room.q {k : Nat} {A : Around} (r : Room k A) : RoomQ k A := ⟨r.dp, r.un⟩
theorem RoomQ.mono {j k : Nat} {A : Around} (r : RoomQ k A) (h : j ≤ k) : RoomQ j A := ⟨by have := r.dp; omega, by have := r.un; omega⟩
theorem RoomQ.deeper {k : Nat} {A : Around} (r : RoomQ (k + 1) A) (env : Env) : RoomQ k (A.deeper env) :=
  ⟨by have := r.dp; show A.depth + 1 + 3 * k + 5 < _; omega, by have := r.un; show A.units + 3 + 16 * k + 200 < _; omega⟩
theorem RoomQ.depth {k : Nat} {A : Around} (r : RoomQ k A) : A.depth < recursionLimit := by have := r.dp; omega
theorem RoomQ.units {k : Nat} {A : Around} (r : RoomQ k A) : A.units + 64 < cLine := by have := r.un; omega
structure FnOkQ (P : Program) (w : World) (K : PySem.W.Frag) (mg : Str → Option Value) (base : Heap) (CX : CXT) (k : Nat) (f : Addr) (fd : FuncData) (ps : List Str) (sp : Sp) : Prop where
  len : ∀ vs H Q E, sp vs H Q E → vs.length = ps.length
  run : ∀ (A : Around) (outer : List Env) (s : Shared) (H : Hp) (args : Args) (us : List Value) (vs : List V) (Q : VK) (E : XK), RoomQ k A → Env0 P w K mg base A outer s H → BindsTo s fd args (ps.zip us) → Vals vs us → sp vs H Q E →
    codeAny (model P w) A (.call (.ref f) args) (CR CX outer P w H s Q E) s
section
variable {X : Cx} {x : Str} {p pos : Pos} {e : Expr} {es : List Expr} {t : TA} {id T : String} {r : List V → Hp → VK → Prop}
noncomputable def tCB (r : List V → Hp → VK → Prop) (t : TA) : TE := fun σ H Q => t σ H fun vs H1 => r vs H1 Q
theorem pe_callB (hc : CallR X (.builtin id) r) (hg : Gl X x) (hm : X.mg x = none) (hv : bootBuiltins x = some (.builtin id)) (ha : PA X (e :: es) t) (hn : x ≠ "__name__" := by decide) (hdb : (x == ("__debug__" : Str)) = false := by decide)
    (he : starEach (e :: es) X.env = (false, eval e X.env) :: starEach es X.env := by rfl) (hpl : (backTo pos (starEach es X.env)).any (·.1) = false := by rfl) : PE X (.Call (.Name x p) (e :: es) [] pos) (tCB r t) := by
  intro pins s σ H Q I h
  refine wpAny_Call_Name_kw (ld_blt I hg hm hv ?_ hn hdb)
  exact PyProof.Rows.callWith_builtin1 (thn (ha pos pins s σ H _ I h) fun us s1 ⟨vs, H1, I1, r1, q1⟩ => hc pins s1 σ H1 vs us Q I1 r1 q1) he hpl
theorem pe_callTy (hc : CallR X (.type T) r) (hg : Gl X x) (hm : X.mg x = none) (hv : bootBuiltins x = some (.type T)) (ha : PA X (e :: es) t) (hn : x ≠ "__name__" := by decide) (hdb : (x == ("__debug__" : Str)) = false := by decide)
    (he : starEach (e :: es) X.env = (false, eval e X.env) :: starEach es X.env := by rfl) (hpl : (backTo pos (starEach es X.env)).any (·.1) = false := by rfl) : PE X (.Call (.Name x p) (e :: es) [] pos) (tCB r t) := by
  intro pins s σ H Q I h
  refine wpAny_Call_Name_kw (ld_blt I hg hm hv ?_ hn hdb)
  exact PyProof.Rows.callWith_type1 (thn (ha pos pins s σ H _ I h) fun us s1 ⟨vs, H1, I1, r1, q1⟩ => hc pins s1 σ H1 vs us Q I1 r1 q1) he hpl
end
end L2
namespace HT
open PySem PyProof.Rows
noncomputable def lexLt : List Int → List Int → Bool
  | [], [] => false
  | [], _ :: _ => true
  | _ :: _, [] => false
  | x :: xs, y :: ys => if x = y then lexLt xs ys else decide (x < y)
section
open PySem.SeqAt
open PySem.AutoSeq1 (wpAny_loadPart')
open PySem.MeetsSeq PySem.MeetsSeq2 PySem.MeetsSeq3
end
section
variable {prog : Program} {w : World} {A : Around} {E : Value → Shared → Prop} {s : Shared}
theorem cat_tup {t b : Addr} {vs ws : List Value} {Q : Value → Shared → Prop} (ht : IsTup s.heap t vs.toArray) (hb : IsTup s.heap b ws.toArray) (hv : vs ≠ [])
    (h1 : ws = [] → Q (.ref t) s) (h2 : ws ≠ [] → Q (.ref s.heap.objs.size) { s with heap := s.heap.push { cls := .type "tuple", data := .seq (vs ++ ws).toArray } })
    (hsz : vs.length + ws.length ≤ sizeLine) : wpAny (model prog w) A (binaryOp .Add (.ref t) (.ref b)) Q E s := by
  obtain ⟨⟨cls, dd, data, sl⟩, ho, hc, n, hd⟩ := id ht
  obtain ⟨⟨cls2, dd2, data2, sl2⟩, ho2, hc2, n2, hd2⟩ := id hb
  simp only at hc hd hc2 hd2
  subst hc hd hc2 hd2
  have e : vs.toArray ++ ws.toArray = (vs ++ ws).toArray := by simp
  by_cases hw : ws = []
  · exact concat_meets ⟨_, ho, rfl⟩ ⟨_, ho2, rfl⟩ noFill_tuple_add seq_tuple_add PySem.F.slot_tuple_add PySem.F.entry_tuple_add (PySem.F.args_tuple_add_2 _ _)
      (tuple_addW1 t b vs.toArray ws.toArray n n2 dd dd2 sl sl2 (by simpa using hv) (by simp [hw])) ⟨ho, ho2, h1 hw⟩
  · refine concat_meets ⟨_, ho, rfl⟩ ⟨_, ho2, rfl⟩ noFill_tuple_add seq_tuple_add PySem.F.slot_tuple_add PySem.F.entry_tuple_add (PySem.F.args_tuple_add_2 _ _)
      (tuple_addW2 t b vs.toArray ws.toArray n n2 dd dd2 sl sl2 (by simpa using hv) (by simpa using hw) (by rw [List.size_toArray, List.size_toArray]; exact hsz)) ⟨ho, ho2, ?_⟩
    rw [e]
    exact h2 hw
noncomputable def sIx (n d : Nat) : Option Int → Nat
  | none => d
  | some v => if v < 0 then (v + (n : Int)).toNat else min v.toNat n
theorem sIx_nat (n d k : Nat) : sIx n d (some (k : Int)) = min k n := by
  show (if (k : Int) < 0 then ((k : Int) + (n : Int)).toNat else min (k : Int).toNat n) = min k n
  rw [if_neg (by omega), Int.toNat_natCast]
theorem sIx_le (n d : Nat) (hd : d ≤ n) (o : Option Int) : sIx n d o ≤ n := by
  cases o with
  | none => exact hd
  | some v =>
    show (if v < 0 then (v + (n : Int)).toNat else min v.toNat n) ≤ n
    by_cases hv : v < 0
    · rw [if_pos hv]; omega
    · rw [if_neg hv]; exact Nat.min_le_right _ _
theorem clip_eq (v : Int) (n d : Nat) : (if v < 0 then max (v + (n : Int)) 0 else min v (n : Int)) = ((sIx n d (some v) : Nat) : Int) := by
  show (if v < 0 then max (v + (n : Int)) 0 else min v (n : Int)) = (((if v < 0 then (v + (n : Int)).toNat else min v.toNat n) : Nat) : Int)
  by_cases hv : v < 0
  · simp only [if_pos hv]; omega
  · simp only [if_neg hv]; omega
theorem adjust_gen (lo hi : Option Int) (n : Nat) : Builtin.Slice.sliceAdjust lo hi 1 (n : Int) = (((sIx n 0 lo : Nat) : Int), ((sIx n n hi : Nat) : Int)) := by
  have h1 : ¬ ((1 : Int) < 0) := by omega
  unfold Builtin.Slice.sliceAdjust
  simp only [h1, if_false]
  refine Prod.ext ?_ ?_
  · cases lo with
    | none => rfl
    | some v => exact clip_eq v n 0
  · cases hi with
    | none => rfl
    | some v => exact clip_eq v n n
theorem places_gen (i j : Nat) : Builtin.Slice.slicePlaces (i : Int) (j : Int) 1 = j - i := by
  unfold Builtin.Slice.slicePlaces
  have h1 : (1 : Int) > 0 := by omega
  simp only [h1, if_true, Int.ediv_one]
  split <;> omega
theorem slicePart_ {v : Value} {o : Option Int} {Q : Option Int → Shared → Prop} (p : IsPart v o) (h : Q o s) : wpAny (model prog w) A (Builtin.Slice.slicePartIndex v) Q E s := by
  cases p with
  | none => exact slicePart_none h
  | int i t => exact slicePart_int h
theorem sliceApplied_gen {sl : Addr} {vl vu : Value} {lo hi : Option Int} {n : Nat} {Q : Int × Int × Nat → Shared → Prop} (hs : s.heap.IsSliceOf sl vl vu .none) (pl : IsPart vl lo) (pu : IsPart vu hi)
    (h : Q (((sIx n 0 lo : Nat) : Int), 1, sIx n n hi - sIx n 0 lo) s) : wpAny (model prog w) A (Builtin.Slice.sliceApplied (.ref sl) (pure (n : Int))) Q E s := by
  obtain ⟨os, hos, hcs, hds⟩ := id hs
  unfold Builtin.Slice.sliceApplied Builtin.Slice.sliceFields
  refine wpAny_bind (wpAny_bind (wpAny_field hos hds (x := vl) rfl (wpAny_bind (wpAny_field hos hds (x := vu) rfl (wpAny_bind (wpAny_field hos hds (x := .none) rfl (wpAny_pure ?_)))))))
  refine wpAny_bind (slicePart_none ?_)
  show wpAny _ _ (if ((1 : Int) == 0) = true then _ else _) _ _ s
  rw [if_neg (by decide)]
  refine wpAny_bind (slicePart_ pl (wpAny_bind (slicePart_ pu (wpAny_bind (wpAny_pure ?_)))))
  show wpAny _ _ (match Builtin.Slice.sliceAdjust lo hi 1 (n : Int) with | (lo, hi) => pure (lo, (1 : Int), Builtin.Slice.slicePlaces lo hi 1)) _ _ s
  rw [adjust_gen lo hi n]
  show wpAny _ _ (pure (((sIx n 0 lo : Nat) : Int), (1 : Int), Builtin.Slice.slicePlaces ((sIx n 0 lo : Nat) : Int) ((sIx n n hi : Nat) : Int) 1)) _ _ s
  rw [places_gen]
  exact wpAny_pure h
theorem pick_gen (xs : Array Value) (i k : Nat) : ((List.range k).filterMap fun (m : Nat) => xs[((i : Int) + (m : Int) * 1).toNat]?).toArray = ((xs.toList.drop i).take k).toArray := by
  have e : (fun (m : Nat) => xs[((i : Int) + (m : Int) * 1).toNat]?) = fun m => xs[i + m]? := by
    funext m
    have : ((i : Int) + (m : Int) * 1).toNat = i + m := by omega
    rw [this]
  rw [e]
  have := pick_run xs i k
  rw [List.filterMap_map] at this
  have e2 : ((fun x => xs[x]?) ∘ fun x => i + x) = fun m => xs[i + m]? := rfl
  rw [e2] at this
  rw [this]
theorem getItem_tuple_cut {t sl : Addr} {items : Array Value} {vl vu : Value} {lo hi : Option Int} {Q : Value → Shared → Prop} (ht : IsTup s.heap t items) (hs : s.heap.IsSliceOf sl vl vu .none) (pl : IsPart vl lo) (pu : IsPart vu hi)
    (hw : ¬ (sIx items.size 0 lo = 0 ∧ sIx items.size items.size hi = items.size))
    (h : Q (.ref s.heap.objs.size) { s with heap := s.heap.push { cls := .type "tuple", data := .seq ((items.toList.drop (sIx items.size 0 lo)).take (sIx items.size items.size hi - sIx items.size 0 lo)).toArray } })
    (hsz : items.size ≤ sizeLine) : wpAny (model prog w) A (getItem (.ref t) (.ref sl)) Q E s := by
  have htake : sizeOk (.seq ((items.toList.drop (sIx items.size 0 lo)).take (sIx items.size items.size hi - sIx items.size 0 lo)).toArray) := by
    show ((items.toList.drop (sIx items.size 0 lo)).take (sIx items.size items.size hi - sIx items.size 0 lo)).toArray.size ≤ sizeLine
    rw [List.size_toArray, List.length_take, List.length_drop, Array.length_toList]
    omega
  have hj : sIx items.size items.size hi ≤ items.size := sIx_le _ _ (Nat.le_refl _) hi
  obtain ⟨os, hos, hcs, hds⟩ := id hs
  have hTs : s.TypeIs (.ref sl) "slice" := ⟨os, hos, hcs⟩
  unfold getItem
  try with_reducible refine wpAny_holding ?_
  first | refine wpAny_bind (wpAny_pure ?_) | skip
  refine wpAny_bind (wpAny_sequenceKey ht.typeIs (by decide) ?_)
  refine wpAny_bind (wpAny_callSpecial?_slot (name := Str.ofString "__getitem__") ht.typeIs PyProof.Rows.slot_tuple_getitem
    (wpAny_call_entry PyProof.Rows.slot_tuple_getitem ht.typeIs entry_tuple_getitem ?_ (args_tuple_getitem _ _)))
  show wpAny _ _ (Builtin.Tuple.tupleItemsOf (.ref t) >>= _) _ _ s
  refine wpAny_bind (tupleItemsOf_ ht ?_)
  refine wpAny_bind (wpAny_typeOf hTs ?_)
  rw [if_pos (by decide)]
  refine wpAny_bind (sliceApplied_gen hs pl pu ?_)
  have hno : ¬ ((((sIx items.size 0 lo : Nat) : Int) == 0 && (1 : Int) == 1 && (sIx items.size items.size hi - sIx items.size 0 lo) == items.size) = true) := by
    intro q
    rw [Bool.and_eq_true, Bool.and_eq_true] at q
    have q1 : ((sIx items.size 0 lo : Nat) : Int) = 0 := eq_of_beq q.1.1
    have q2 : sIx items.size items.size hi - sIx items.size 0 lo = items.size := eq_of_beq q.2
    exact hw ⟨by omega, by omega⟩
  show wpAny _ _ (if (((sIx items.size 0 lo : Nat) : Int) == 0 && (1 : Int) == 1 && (sIx items.size items.size hi - sIx items.size 0 lo) == items.size) = true then _ else _) _ _ s
  rw [if_neg hno, pick_gen]
  first
    | exact wpAny_bind (m := Builtin.Tuple.tupleExact _) (wpAny_newObj_type (wpAny_pure ⟨_, rfl, wpAny_pure h⟩) htake)
    | exact wpAny_bind (m := Builtin.Tuple.tupleExact _) (wpAny_newObj_type (wpAny_bind (wpAny_pure (wpAny_pure ⟨_, rfl, wpAny_pure h⟩))) htake)
    | exact wpAny_bind (wpAny_bind (m := Builtin.Tuple.tupleExact _) (wpAny_newObj_type (wpAny_pure (wpAny_pure ⟨_, rfl, wpAny_pure h⟩)) htake))
    | exact wpAny_bind (wpAny_bind (m := Builtin.Tuple.tupleExact _) (wpAny_newObj_type (wpAny_pure ⟨_, rfl, wpAny_pure h⟩) htake))
end
end HT
namespace L2
open PySem PySem.Spec PyProof.Rows
noncomputable abbrev TO := St → Hp → (Option Int → Hp → Prop) → Prop
noncomputable def PO (X : Cx) (e : Option Expr) (t : TO) : Prop :=
  ∀ (pins : List (Addr × Obj)) (s : Shared) (σ : St) (H : Hp) (Q : Option Int → Hp → Prop), Inv X pins σ H s → t σ H Q →
    wpAny (model X.prog X.w) X.A (evalPart e X.env) (fun u s' => ∃ o H', Inv X pins σ H' s' ∧ IsPart u o ∧ Q o H') X.xe s
noncomputable def tNoPart : TO := fun _ H Q => Q none H
noncomputable def tPart (t : TE) : TO := fun σ H Q => t σ H fun x H1 => ∃ i, x = .int i ∧ Q (some i) H1
section
variable {X : Cx} {e : Expr} {te : TE} {lo hi : Option Expr} {tl th : TO} {pos p2 : Pos}
theorem po_none : PO X none tNoPart := by
  intro pins s σ H Q I h
  rw [evalPart_none]
  exact wpAny_pure ⟨none, H, I, .none, h⟩
theorem po_some (h : PE X e te) : PO X (some e) (tPart te) := by
  intro pins s σ H Q I hw
  rw [evalPart_some]
  refine thn (h pins s σ H _ I hw) fun u s1 ⟨x, H1, I1, r1, q1⟩ => ?_
  obtain ⟨i, rfl, q⟩ := q1
  obtain ⟨t, rfl⟩ := r1
  exact ⟨some i, H1, I1, .int i t, q⟩
noncomputable def SlR (X : Cx) (r : V → Option Int → Option Int → Hp → VK → Prop) : Prop :=
  ∀ (pins : List (Addr × Obj)) (s : Shared) (σ : St) (H : Hp) (x : V) (v vl vu : Value) (lo hi : Option Int) (sl : Addr) (Q : VK), Inv X pins σ H s → RelV x v → s.heap.IsSliceOf sl vl vu .none → IsPart vl lo → IsPart vu hi → r x lo hi H Q →
    ∃ T id, typeLookup (.type T) "__getitem__" = pure (some (.builtin id)) ∧ s.TypeIs v T ∧ wpAny (model X.prog X.w) X.A (getItem v (.ref sl)) (EP X pins σ Q) X.xe s
theorem SlR.or {r r' : V → Option Int → Option Int → Hp → VK → Prop} (h : SlR X r) (h' : SlR X r') : SlR X (fun x lo hi H Q => r x lo hi H Q ∨ r' x lo hi H Q) := by
  intro pins s σ H x v vl vu lo hi sl Q I rx hs pl pu q
  rcases q with q | q
  · exact h pins s σ H x v vl vu lo hi sl Q I rx hs pl pu q
  · exact h' pins s σ H x v vl vu lo hi sl Q I rx hs pl pu q
noncomputable def tSl (r : V → Option Int → Option Int → Hp → VK → Prop) (te : TE) (tl th : TO) : TE := fun σ H Q => te σ H fun x H1 => tl σ H1 fun l H2 => th σ H2 fun u H3 => r x l u H3 Q
theorem pe_slice {r : V → Option Int → Option Int → Hp → VK → Prop} (hr : SlR X r) (he : PE X e te) (hl : PO X lo tl) (hu : PO X hi th) : PE X (.Subscript e (.Slice lo hi none p2) pos) (tSl r te tl th) := by
  intro pins s σ H Q I h
  refine Subscript_ (thn (he pins s σ H _ I h) fun v s1 ⟨x, H1, I1, r1, q1⟩ => ?_)
  refine wpAny_Slice (thn (hl pins s1 σ H1 _ I1 q1) fun vl s2 ⟨l, H2, I2, pl, q2⟩ => thn (hu pins s2 σ H2 _ I2 q2) fun vu s3 ⟨u, H3, I3, pu, q3⟩ => ?_)
  rw [evalPart_none]
  refine wpAny_pure ?_
  have I4 : Inv X pins σ H3 { s3 with heap := s3.heap.push { cls := .type "slice", data := .fields #[vl, vu, .none] } } := I3.kept (t' := s3.toks) fun b ob q => Heap.get?_push_of_some _ q
  obtain ⟨T, id, hT, ht, hg⟩ := hr pins { s3 with heap := s3.heap.push { cls := .type "slice", data := .fields #[vl, vu, .none] } } σ H3 x v vl vu l u s3.heap.objs.size Q I4 r1 (Heap.IsSliceOf.new ..) pl pu q3
  show wpAny (model X.prog X.w) X.A (subscriptTail e (.Slice lo hi none p2) v (.ref s3.heap.objs.size)) (EP X pins σ Q) X.xe { s3 with heap := s3.heap.push { cls := .type "slice", data := .fields #[vl, vu, .none] } }
  exact tail_any (ops := [.ref s3.heap.objs.size, v]) ht hT hg (by with_unfolding_all rfl)
noncomputable def cutV (xs : List V) (lo hi : Option Int) : List V := (xs.drop (HT.sIx xs.length 0 lo)).take (HT.sIx xs.length xs.length hi - HT.sIx xs.length 0 lo)
theorem cutV_length (xs : List V) (lo hi : Option Int) : (cutV xs lo hi).length ≤ xs.length := by
  unfold cutV
  rw [List.length_take, List.length_drop]
  omega
noncomputable def rSlT (K : PySem.W.Frag) : V → Option Int → Option Int → Hp → VK → Prop := fun x lo hi H Q => ∃ a xs, x = .ref a ∧ SqT K H a xs ∧
  ¬ (HT.sIx xs.length 0 lo = 0 ∧ HT.sIx xs.length xs.length hi = xs.length) ∧ ∀ p, H p = none → Q (.ref p) (upd H p (.tup (cutV xs lo hi)))
theorem sl_tup : SlR X (rSlT X.K) := by
  intro pins s σ H x v vl vu lo hi sl Q I rx hs pl pu h
  obtain ⟨a, xs, rfl, hx, hw, q⟩ := h
  cases rx
  obtain ⟨its, r, ht, hz⟩ := I.tuple hx
  have hlen : its.toArray.size = xs.length := by rw [List.size_toArray]; exact r.length.symm
  refine ⟨"tuple", _, PyProof.Rows.slot_tuple_getitem.lookup, ht.typeIs, ?_⟩
  refine HT.getItem_tuple_cut ht hs pl pu (by rw [hlen]; exact hw) ?_ (by rw [hlen]; exact hz)
  rw [hlen]
  refine ⟨.ref s.heap.objs.size, _, I.laid (t' := s.toks) (o := .tup (cutV xs lo hi)) (fun b ob q => Heap.get?_push_of_some _ q) (Nat.le_refl _) ?_, rfl, q _ (I.hok.fresh (Nat.le_refl _))⟩
  exact ⟨Nat.le_trans (cutV_length xs lo hi) hz, _, (r.drop (HT.sIx xs.length 0 lo)).take (HT.sIx xs.length xs.length hi - HT.sIx xs.length 0 lo), IsTup.new _ _⟩
noncomputable def rLtT (K : PySem.W.Frag) : R2 := fun x y H Q => ∃ a b ns ms, x = .ref a ∧ y = .ref b ∧ SqT K H a (ns.map V.int) ∧ SqT K H b (ms.map V.int) ∧ Q (.bl (HT.lexLt ns ms)) H
noncomputable def rCatT (K : PySem.W.Frag) : R2 := fun x y H Q => ∃ a b xs ys, x = .ref a ∧ y = .ref b ∧ SqT K H a xs ∧ SqT K H b ys ∧ xs ≠ [] ∧ xs.length + ys.length ≤ sizeLine ∧
  (ys = [] → Q (.ref a) H) ∧ (ys ≠ [] → ∀ p, H p = none → Q (.ref p) (upd H p (.tup (xs ++ ys))))
theorem Vals.nil_iff {xs : List V} {us : List Value} (r : Vals xs us) : us = [] ↔ xs = [] := by
  cases r with
  | nil => simp
  | cons _ _ => simp
theorem op_catT : OpR X (binaryOp .Add) (rCatT X.K) := by
  intro pins s σ H x y v u Q I rx ry h
  obtain ⟨a, b, xs, ys, rfl, rfl, ha, hb, hx, hz, q1, q2⟩ := h
  cases rx
  cases ry
  obtain ⟨its, r1, p1, _⟩ := I.tuple ha
  obtain ⟨its2, r2, p2, _⟩ := I.tuple hb
  refine HT.cat_tup p1 p2 (fun z => hx (r1.nil_iff.mp z)) (fun z => ⟨.ref a, H, I, rfl, q1 (r2.nil_iff.mp z)⟩) (fun z => ?_) (by rw [← r1.length, ← r2.length]; exact hz)
  refine ⟨.ref s.heap.objs.size, _, I.laid (t' := s.toks) (o := .tup (xs ++ ys)) (fun b ob q => Heap.get?_push_of_some _ q) (Nat.le_refl _) ?_, rfl, q2 (fun w => z (r2.nil_iff.mpr w)) _ (I.hok.fresh (Nat.le_refl _))⟩
  exact ⟨by rw [List.length_append]; exact hz, _, r1.append r2, IsTup.new _ _⟩
end
noncomputable def ixN (n : Nat) (i : Int) : Option Nat := if 0 ≤ i then (if i < n then some i.toNat else none) else if -(n : Int) ≤ i then some (i + n).toNat else none
noncomputable def atI {α : Type} (xs : List α) (i : Int) : Option α := (ixN xs.length i).bind fun j => xs[j]?
theorem ixN_seq {n : Nat} {i : Int} {j : Nat} (h : ixN n i = some j) : seqIndex? i n = some j ∧ j < n ∧ -(n : Int) ≤ i ∧ i < n := by
  unfold ixN at h
  by_cases h0 : 0 ≤ i
  · rw [if_pos h0] at h
    by_cases h1 : i < n
    · rw [if_pos h1] at h
      have e : i.toNat = j := Option.some.inj h
      exact ⟨by rw [seqIndex_of h0 h1, e], by omega, by omega, h1⟩
    · rw [if_neg h1] at h; cases h
  · rw [if_neg h0] at h
    by_cases h1 : -(n : Int) ≤ i
    · rw [if_pos h1] at h
      have e : (i + n).toNat = j := Option.some.inj h
      exact ⟨by rw [seqIndex_neg (by omega) h1, e], by omega, h1, by omega⟩
    · rw [if_neg h1] at h; cases h
theorem atI_get {α : Type} {xs : List α} {i : Int} {v : α} (h : atI xs i = some v) : ∃ j, seqIndex? i xs.length = some j ∧ xs[j]? = some v ∧ j < xs.length ∧ -(xs.length : Int) ≤ i ∧ i < xs.length := by
  unfold atI at h
  cases e : ixN xs.length i with
  | none => rw [e] at h; cases h
  | some j =>
    rw [e] at h
    obtain ⟨h1, h2, h3, h4⟩ := ixN_seq e
    exact ⟨j, h1, h, h2, h3, h4⟩
theorem atI_nat {α : Type} {xs : List α} {j : Nat} {v : α} (h : xs[j]? = some v) : atI xs (j : Int) = some v := by
  have hj : j < xs.length := (List.getElem?_eq_some_iff.mp h).1
  have e : ixN xs.length (j : Int) = some j := by
    unfold ixN
    rw [if_pos (by omega), if_pos (by omega)]; simp
  unfold atI; rw [e]; exact h
noncomputable def PlainIx (b : Expr) : Prop := ∀ o i, subscripted b false o i = operate [o, i] (getItem o i)
noncomputable def IxR (X : Cx) (r : R2) : Prop :=
  ∀ (value slice : Expr) (pins : List (Addr × Obj)) (s : Shared) (σ : St) (H : Hp) (x y : V) (v u : Value) (Q : VK), Inv X pins σ H s → RelV x v → RelV y u → r x y H Q →
    subscripted slice false v u = operate [v, u] (getItem v u) → wpAny (model X.prog X.w) X.A (subscriptTail value slice v u) (EP X pins σ Q) X.xe s
noncomputable def MtR (X : Cx) (id : String) (r : V → List V → Hp → VK → Prop) : Prop :=
  ∀ (pins : List (Addr × Obj)) (s : Shared) (σ : St) (H : Hp) (x : V) (xs : List V) (v : Value) (us : List Value) (Q : VK), Inv X pins σ H s → RelV x v → Vals xs us → r x xs H Q →
    wpAny (model X.prog X.w) X.A (call (.builtin id) (v :: us)) (EP X pins σ Q) X.xe s
section
variable {X : Cx} {a b : Expr} {ta tb : TE} {pos : Pos}
theorem IxR.or {r r' : R2} (h : IxR X r) (h' : IxR X r') : IxR X (fun x y H Q => r x y H Q ∨ r' x y H Q) := by
  intro value slice pins s σ H x y v u Q I rx ry q hs
  rcases q with q | q
  · exact h value slice pins s σ H x y v u Q I rx ry q hs
  · exact h' value slice pins s σ H x y v u Q I rx ry q hs
theorem MtR.or {id : String} {r r' : V → List V → Hp → VK → Prop} (h : MtR X id r) (h' : MtR X id r') : MtR X id (fun x xs H Q => r x xs H Q ∨ r' x xs H Q) := by
  intro pins s σ H x xs v us Q I rx rs q
  rcases q with q | q
  · exact h pins s σ H x xs v us Q I rx rs q
  · exact h' pins s σ H x xs v us Q I rx rs q
theorem pe_ix {r : R2} (hr : IxR X r) (ha : PE X a ta) (hb : PE X b tb) (hs : PlainIx b) : PE X (.Subscript a b pos) (tOp r ta tb) := by
  intro pins s σ H Q I h
  exact Subscript_ (binT ha hb I h fun v u s2 x y H2 I2 rx ry q => hr a b pins s2 σ H2 x y v u Q I2 rx ry q (hs _ _))
noncomputable def rIxL (K : PySem.W.Frag) : R2 := fun x y H Q => ∃ p xs i v, x = .ref p ∧ y = .int i ∧ SqL K H p xs ∧ atI xs i = some v ∧ Q v H
noncomputable def rIxT (K : PySem.W.Frag) : R2 := fun x y H Q => ∃ p xs i v, x = .ref p ∧ y = .int i ∧ SqT K H p xs ∧ atI xs i = some v ∧ Q v H
noncomputable def rIxS : R2 := fun x y H Q => ∃ z i c, x = .str z ∧ y = .int i ∧ z.length ≤ sizeLine ∧ atI z.cps.toList i = some c ∧ Q (.str ⟨#[c]⟩) H
theorem ix_list : IxR X (rIxL X.K) := by
  intro value slice pins s σ H x y v u Q I rx ry h hs
  obtain ⟨p, xs, i, z, rfl, rfl, hq, he, q⟩ := h
  cases rx
  obtain ⟨t, rfl⟩ := ry
  obtain ⟨its, r, pl, hz⟩ := I.list hq
  obtain ⟨j, h1, h2, h3, h4, h5⟩ := atI_get he
  obtain ⟨w, ew, rw'⟩ := r.get h2
  have hl := r.length
  have hn := line63
  have fin : EP X pins σ Q w s := ⟨z, H, I, rw', q⟩
  by_cases h0 : 0 ≤ i
  · have hj : i.toNat = j := by
      rw [seqIndex_of h0 h5] at h1
      exact Option.some.inj h1
    exact item_listR pl.isList h0 (by omega) (by rw [hj]; simpa using ew) fin hs
  · have hj : (i + (its.toArray.size : Int)).toNat = j := by
      rw [seqIndex_neg (by omega) h4] at h1
      rw [List.size_toArray, ← hl]
      exact Option.some.inj h1
    exact subscriptTail_builtinR (x := w) pl.isList.typeIs slot_list_getitem.lookup
      (wpAny_getItem_list_neg (Q := fun r s' => r = w ∧ EP X pins σ Q r s') pl.isList (by omega) (by rw [List.size_toArray] <;> omega) (by omega) (by rw [hj]; simpa using ew) ⟨rfl, fin⟩) hs
theorem ix_tup : IxR X (rIxT X.K) := by
  intro value slice pins s σ H x y v u Q I rx ry h hs
  obtain ⟨p, xs, i, z, rfl, rfl, hq, he, q⟩ := h
  cases rx
  obtain ⟨t, rfl⟩ := ry
  obtain ⟨its, r, pl, hz⟩ := I.tuple hq
  obtain ⟨j, h1, h2, h3, h4, h5⟩ := atI_get he
  obtain ⟨w, ew, rw'⟩ := r.get h2
  have hl := r.length
  have hn := line63
  have fin : EP X pins σ Q w s := ⟨z, H, I, rw', q⟩
  exact subscriptTail_builtinR (x := w) pl.typeIs slot_tuple_getitem.lookup
    (getItem_tuple (j := j) (Q := fun r s' => r = w ∧ EP X pins σ Q r s') pl (by omega) (by omega) (by rw [List.size_toArray, ← hl]; exact h1) (by simpa using ew) ⟨rfl, fin⟩) hs
theorem ix_str : IxR X rIxS := by
  intro value slice pins s σ H x y v u Q I rx ry h hs
  obtain ⟨z, i, c, rfl, rfl, hz, he, q⟩ := h
  obtain ⟨t, rfl⟩ := rx
  obtain ⟨t', rfl⟩ := ry
  obtain ⟨j, h1, h2, h3, h4, h5⟩ := atI_get he
  have hl : z.cps.toList.length = z.length := by simp [Str.length]
  rw [hl] at h1 h4 h5
  have hn := line63
  exact tail_any (typeIs_str s z t) slot_str_getitem.lookup (getItem_str (c := c) (by
    have e1 : decide (i < -(2 ^ 63 : Int)) = false := decide_eq_false (by omega)
    have e2 : decide (i ≥ 2 ^ 63) = false := decide_eq_false (by omega)
    rw [e1, e2, Bool.or_false]) (by rw [h1]; simpa using h2) ⟨.str ⟨#[c]⟩, H, I.tok _, ⟨_, rfl⟩, q⟩) hs
noncomputable def rIx (K : PySem.W.Frag) : R2 := fun x y H Q => rIxL K x y H Q ∨ rIxT K x y H Q ∨ rIxS x y H Q
theorem ix_seq : IxR X (rIx X.K) := ix_list.or (ix_tup.or ix_str)
theorem mapSeq_set (its : List Value) (n j : Nat) (u : Value) : Obj.mapSeq (·.setIfInBounds j u) { cls := .type "list", data := .seq its.toArray n } = { cls := .type "list", data := .seq (its.set j u).toArray n } := by
  simp [Obj.mapSeq]
theorem Inv.lst {pins : List (Addr × Obj)} {σ : St} {H : Hp} {s : Shared} {p : Addr} {xs : List V} (I : Inv X pins σ H s) (h : H p = some (.lst xs)) :
    ∃ (its : List Value) (n : Nat), Vals xs its ∧ s.heap.get? p = some { cls := .type "list", data := .seq its.toArray n } ∧ xs.length ≤ sizeLine := by
  obtain ⟨z, its, n, r, e⟩ := I.hok p _ h
  exact ⟨its, n, r, e, z⟩
theorem Inv.lstUpd {pins : List (Addr × Obj)} {σ : St} {H : Hp} {s : Shared} {p : Addr} {xs ys : List V} {its its' : List Value} {n n' : Nat} {f : Obj → Obj} (I : Inv X pins σ H s) (h : H p = some (.lst xs))
    (ho : s.heap.get? p = some { cls := .type "list", data := .seq its.toArray n }) (hf : f { cls := .type "list", data := .seq its.toArray n } = { cls := .type "list", data := .seq its'.toArray n' }) (r : Vals ys its') (hz : ys.length ≤ sizeLine) (t : Nat) :
    Inv X pins σ (upd H p (.lst ys)) { s with heap := s.heap.update p f, toks := t } := by
  have e : (s.heap.update p f).get? p = some { cls := .type "list", data := .seq its'.toArray n' } := by
    rw [Heap.get?_update_self f ho (by rw [hf] <;> rfl), hf]
  refine I.write (x := p) (e := p) (by rw [h]; trivial) (.inl rfl) (fun b u hb q => (Heap.get?_update_other _ _ (Ne.symm hb)).trans q) ⟨_, e⟩ ?_
  exact ⟨hz, its', n', r, e⟩
noncomputable def rSetL : V → V → V → Hp → (Hp → Prop) → Prop := fun o i v H Q => ∃ p xs k j, o = .ref p ∧ i = .int k ∧ H p = some (.lst xs) ∧ ixN xs.length k = some j ∧ Q (upd H p (.lst (xs.set j v)))
theorem set_list : PSet X rSetL := by
  intro pins s σ H o i v ov iv u Q I ro ri rv h
  obtain ⟨p, xs, k, j, rfl, rfl, hp, hj, q⟩ := h
  cases ro
  obtain ⟨t, rfl⟩ := ri
  obtain ⟨its, n, r, ho, hz⟩ := I.lst hp
  obtain ⟨h1, h2, h3, h4⟩ := ixN_seq hj
  have hl := r.length
  have hn := line63
  have I' : Inv X pins σ (upd H p (.lst (xs.set j v))) { s with heap := s.heap.update p (Obj.mapSeq (·.setIfInBounds j u)) } :=
    I.lstUpd hp ho (mapSeq_set its n j u) (r.set rv j) (by rw [List.length_set]; exact hz) s.toks
  by_cases h0 : 0 ≤ k
  · have hk : k.toNat = j := by
      rw [seqIndex_of h0 h4] at h1
      exact Option.some.inj h1
    exact PySem.W.ki_setAt ho h0 (by omega) (by rw [List.size_toArray, ← hl]; exact h4) (by rw [hk]; exact ⟨_, I', q⟩)
  · have hk : (k + (its.toArray.size : Int)).toNat = j := by
      rw [seqIndex_neg (by omega) h3] at h1
      rw [List.size_toArray, ← hl]
      exact Option.some.inj h1
    exact PySem.W.ki_setBack ho (by omega) (by rw [List.size_toArray, ← hl]; exact h3) (by omega) (by rw [hk]; exact ⟨_, I', q⟩)
theorem slice_bounds (lo hi : Option Int) (n : Nat) : (sliceBounds lo hi none n).1 = ((HT.sIx n 0 lo : Nat) : Int) ∧ (sliceBounds lo hi none n).2.1 = ((HT.sIx n n hi : Nat) : Int) ∧ (sliceBounds lo hi none n).2.2 = 1 := by
  refine ⟨?_, ?_, rfl⟩
  · cases lo with
    | none => simp [sliceBounds, HT.sIx]
    | some i =>
      simp only [sliceBounds, HT.sIx, Option.getD_none, show (1 : Int) > 0 by decide, if_true]
      by_cases h : i < 0
      · simp only [h, if_true] <;> omega
      · simp only [h, if_false] <;> omega
  · cases hi with
    | none => simp [sliceBounds, HT.sIx]
    | some i =>
      simp only [sliceBounds, HT.sIx, Option.getD_none, show (1 : Int) > 0 by decide, if_true]
      by_cases h : i < 0
      · simp only [h, if_true] <;> omega
      · simp only [h, if_false] <;> omega
theorem slicePick_cut (its : List Value) (lo hi : Option Int) : slicePick its.toArray lo hi none = ((its.drop (HT.sIx its.length 0 lo)).take (HT.sIx its.length its.length hi - HT.sIx its.length 0 lo)).toArray := by
  obtain ⟨h1, h2, h3⟩ := slice_bounds lo hi its.toArray.size
  unfold slicePick
  rw [h1, h2, h3]
  simp only [sliceRange_one, pick_run, List.size_toArray] <;> rfl
noncomputable def rSlL (K : PySem.W.Frag) : V → Option Int → Option Int → Hp → VK → Prop := fun x lo hi H Q => ∃ a xs, x = .ref a ∧ SqL K H a xs ∧ ∀ p, H p = none → Q (.ref p) (upd H p (.lst (cutV xs lo hi)))
theorem sl_list : SlR X (rSlL X.K) := by
  intro pins s σ H x v vl vu lo hi sl Q I rx hs pl pu h
  obtain ⟨a, xs, rfl, hx, q⟩ := h
  cases rx
  obtain ⟨its, r, ht, hz⟩ := I.list hx
  have hlen := r.length
  refine ⟨"list", _, slot_list_getitem.lookup, ht.isList.typeIs, ?_⟩
  refine wpAny_getItem_list_slice ht.isList hs pl pu .none (by simp) ?_ (by rw [List.size_toArray] <;> omega)
  rw [slicePick_cut, ← hlen]
  refine ⟨.ref s.heap.objs.size, _, I.laid (t' := s.toks) (o := .lst (cutV xs lo hi)) (fun b ob q => Heap.get?_push_of_some _ q) (Nat.le_refl _) ?_, rfl, q _ (I.hok.fresh (Nat.le_refl _))⟩
  exact ⟨Nat.le_trans (cutV_length xs lo hi) hz, _, 0, (r.drop (HT.sIx xs.length 0 lo)).take (HT.sIx xs.length xs.length hi - HT.sIx xs.length 0 lo), Heap.get?_push_size _ rfl⟩
noncomputable def flatV : V → Bool
  | .non => true
  | .bl _ => true
  | .int _ => true
  | .str _ => true
  | _ => false
noncomputable def eqV : V → V → Bool
  | .non, .non => true
  | .bl a, .bl b => a == b
  | .bl a, .int b => (if a then 1 else 0) == b
  | .int a, .bl b => a == (if b then 1 else 0)
  | .int a, .int b => a == b
  | .str a, .str b => a == b
  | _, _ => false
theorem eqAt_V {A : Around} {s : Shared} {y x : V} {u v : Value} (ry : RelV y u) (rx : RelV x v) (fy : flatV y = true) (fx : flatV x = true) : SeqAt.EqAt A s u v (eqV y x) := by
  cases y with
  | non =>
    cases ry
    cases x with
    | non => cases rx; exact SeqAt.EqAt.same _
    | bl b => cases rx; exact SeqAt.EqAt.none_bool b
    | int b => obtain ⟨t, rfl⟩ := rx; exact SeqAt.EqAt.none_int b t
    | str b => obtain ⟨t, rfl⟩ := rx; exact SeqAt.EqAt.none_str b t
    | _ => exact absurd (show false = true from fx) Bool.false_ne_true
  | bl a =>
    cases ry
    cases x with
    | non => cases rx; exact SeqAt.EqAt.bool_none a
    | bl b => cases rx; exact SeqAt.EqAt.bool_bool a b
    | int b => obtain ⟨t, rfl⟩ := rx; exact SeqAt.EqAt.bool_int a b t
    | str b => obtain ⟨t, rfl⟩ := rx; exact SeqAt.EqAt.bool_str a b t
    | _ => exact absurd (show false = true from fx) Bool.false_ne_true
  | int a =>
    obtain ⟨t', rfl⟩ := ry
    cases x with
    | non => cases rx; exact SeqAt.EqAt.int_none a t'
    | bl b => cases rx; exact SeqAt.EqAt.int_bool a t' b
    | int b => obtain ⟨t, rfl⟩ := rx; exact SeqAt.EqAt.int_int a t' b t
    | str b => obtain ⟨t, rfl⟩ := rx; exact SeqAt.EqAt.int_str a t' b t
    | _ => exact absurd (show false = true from fx) Bool.false_ne_true
  | str a =>
    obtain ⟨t', rfl⟩ := ry
    cases x with
    | non => cases rx; exact SeqAt.EqAt.str_none a t'
    | bl b => cases rx; exact SeqAt.EqAt.str_bool a t' b
    | int b => obtain ⟨t, rfl⟩ := rx; exact SeqAt.EqAt.str_int a t' b t
    | str b => obtain ⟨t, rfl⟩ := rx; exact SeqAt.EqAt.str_str a t' b t
    | _ => exact absurd (show false = true from fx) Bool.false_ne_true
  | _ => exact absurd (show false = true from fy) Bool.false_ne_true
noncomputable def eqU (x : V) (u : Value) : Bool := match u with
  | .none => eqV .non x
  | .bool b => eqV (.bl b) x
  | .int i _ => eqV (.int i) x
  | .str z _ => eqV (.str z) x
  | _ => false
theorem eqU_of {x y : V} {u : Value} (r : RelV y u) (f : flatV y = true) : eqU x u = eqV y x := by
  cases y with
  | non => cases r; rfl
  | bl b => cases r; rfl
  | int i => obtain ⟨t, rfl⟩ := r; rfl
  | str z => obtain ⟨t, rfl⟩ := r; rfl
  | _ => exact absurd (show false = true from f) Bool.false_ne_true
theorem any_eqU {x : V} : ∀ {xs : List V} {us : List Value}, Vals xs us → xs.all flatV = true → us.any (eqU x) = xs.any fun y => eqV y x
  | _, _, .nil, _ => rfl
  | y :: xs, u :: us, .cons r t, f => by
    rw [List.all_cons, Bool.and_eq_true] at f
    rw [List.any_cons, List.any_cons, eqU_of r f.1, any_eqU t f.2]
theorem mem_eqAt {A : Around} {s : Shared} {x : V} {v : Value} (rx : RelV x v) (fx : flatV x = true) : ∀ {xs : List V} {us : List Value}, Vals xs us → xs.all flatV = true → ∀ u ∈ us, SeqAt.EqAt A s u v (eqU x u)
  | _, _, .nil, _ => fun u hu => by cases hu
  | y :: xs, u :: us, .cons r t, f => fun u' hu => by
    rw [List.all_cons, Bool.and_eq_true] at f
    rcases List.mem_cons.mp hu with rfl | hu
    · rw [eqU_of r f.1]; exact eqAt_V r rx f.1 fx
    · exact mem_eqAt rx fx t f.2 u' hu
noncomputable def inV (x : V) (xs : List V) : Bool := xs.any fun y => eqV y x
noncomputable def rIn (K : PySem.W.Frag) (neg : Bool) : R2 := fun x y H Q => ∃ p xs, y = .ref p ∧ (SqL K H p xs ∨ SqT K H p xs) ∧ flatV x = true ∧ xs.all flatV = true ∧ Q (.bl (if neg then !inV x xs else inV x xs)) H
theorem op_in_seq : OpR X (compareOp .In) (rIn X.K false) := by
  intro pins s σ H x y v u Q I rx ry h
  obtain ⟨p, xs, rfl, hq, fx, fs, q⟩ := h
  cases ry
  rcases hq with hq | hq
  · obtain ⟨its, r, pl, hz⟩ := I.list hq
    refine SeqAt.in_listAt (eqU x) pl.isList (fun w hw => mem_eqAt rx fx r fs w (by simpa using hw)) ⟨.bl _, H, I, rfl, ?_⟩
    rw [show its.toArray.any (eqU x) = its.any (eqU x) by simp, any_eqU r fs]
    exact q
  · obtain ⟨its, r, pl, hz⟩ := I.tuple hq
    refine SeqAt.in_tupleAt (eqU x) pl (fun w hw => mem_eqAt rx fx r fs w (by simpa using hw)) ⟨.bl _, H, I, rfl, ?_⟩
    rw [show its.toArray.any (eqU x) = its.any (eqU x) by simp, any_eqU r fs]
    exact q
theorem op_notIn_seq : OpR X (compareOp .NotIn) (rIn X.K true) := by
  intro pins s σ H x y v u Q I rx ry h
  obtain ⟨p, xs, rfl, hq, fx, fs, q⟩ := h
  cases ry
  rcases hq with hq | hq
  · obtain ⟨its, r, pl, hz⟩ := I.list hq
    refine SeqAt.notIn_listAt (eqU x) pl.isList (fun w hw => mem_eqAt rx fx r fs w (by simpa using hw)) ⟨.bl _, H, I, rfl, ?_⟩
    rw [show its.toArray.any (eqU x) = its.any (eqU x) by simp, any_eqU r fs]
    exact q
  · obtain ⟨its, r, pl, hz⟩ := I.tuple hq
    refine SeqAt.notIn_tupleAt (eqU x) pl (fun w hw => mem_eqAt rx fx r fs w (by simpa using hw)) ⟨.bl _, H, I, rfl, ?_⟩
    rw [show its.toArray.any (eqU x) = its.any (eqU x) by simp, any_eqU r fs]
    exact q
theorem CallR.or {f : Value} {r r' : List V → Hp → VK → Prop} (h : CallR X f r) (h' : CallR X f r') : CallR X f (fun xs H Q => r xs H Q ∨ r' xs H Q) := by
  intro pins s σ H xs us Q I rs q
  rcases q with q | q
  · exact h pins s σ H xs us Q I rs q
  · exact h' pins s σ H xs us Q I rs q
theorem call_list_of : CallR X (.type "list") (fun xs H Q => ∃ p ys, xs = [.ref p] ∧ (SqL X.K H p ys ∨ SqT X.K H p ys) ∧ ∀ l, H l = none → Q (.ref l) (upd H l (.lst ys))) := by
  intro pins s σ H xs us Q I r h
  obtain ⟨p, ys, rfl, hq, q⟩ := h
  obtain ⟨u, rfl, rx⟩ := vals1 r
  cases rx
  have fin : ∀ (its : List Value), Vals ys its → ys.length ≤ sizeLine → ∀ (h' : Heap) (c' : Nat), (∀ b o', s.heap.get? b = some o' → h'.get? b = some o') →
      h'.get? s.heap.objs.size = some { cls := .type "list", dict := none, data := .seq its.toArray c', slots := #[] } → EP X pins σ Q (.ref s.heap.objs.size) { s with heap := h' } := fun its r' hz h' c' kp e =>
    ⟨.ref s.heap.objs.size, _, I.laid (t' := s.toks) kp (Nat.le_refl _) (show ObjOk X.prog X.w _ h' _ (.lst ys) from ⟨hz, its, c', r', e⟩), rfl, q _ (I.hok.fresh (Nat.le_refl _))⟩
  rcases hq with hq | hq
  · obtain ⟨its, r', pl, hz⟩ := I.list hq
    have hlen := r'.length
    obtain ⟨o, ho, hc, n, hd⟩ := pl.isList
    exact call_list_seq p (.inl rfl) ho hc hd (fun h' c' kp e => fin its r' hz h' c' kp e) (by simp only [List.size_toArray] <;> omega)
  · obtain ⟨its, r', pl, hz⟩ := I.tuple hq
    have hlen := r'.length
    obtain ⟨o, ho, hc, n, hd⟩ := pl
    exact call_list_seq p (.inr rfl) ho hc hd (fun h' c' kp e => fin its r' hz h' c' kp e) (by simp only [List.size_toArray] <;> omega)
theorem call_tuple_of : CallR X (.type "tuple") (fun xs H Q => ∃ p ys, xs = [.ref p] ∧ ((SqL X.K H p ys ∧ ∀ l, H l = none → Q (.ref l) (upd H l (.tup ys))) ∨ (SqT X.K H p ys ∧ Q (.ref p) H))) := by
  intro pins s σ H xs us Q I r h
  obtain ⟨p, ys, rfl, h⟩ := h
  obtain ⟨u, rfl, rx⟩ := vals1 r
  cases rx
  rcases h with ⟨hq, q⟩ | ⟨hq, q⟩
  · obtain ⟨its, r', pl, hz⟩ := I.list hq
    have hlen := r'.length
    refine call_tuple_list pl.isList (fun h' kp => ?_) (by simp only [List.size_toArray] <;> omega)
    have I1 : Inv X pins σ H { s with heap := h' } := I.kept (t' := s.toks) kp
    have I2 : Inv X pins σ (upd H h'.objs.size (.tup ys)) { s with heap := h'.push { cls := .type "tuple", data := .seq its.toArray } } :=
      I1.laid (t' := s.toks) (fun b o e => Heap.get?_push_of_some _ e) (Nat.le_refl _) (show ObjOk X.prog X.w _ _ _ (.tup ys) from ⟨hz, its, r', IsTup.new _ _⟩)
    exact ⟨.ref h'.objs.size, _, I2, rfl, q _ (I1.hok.fresh (Nat.le_refl _))⟩
  · obtain ⟨its, r', pl, hz⟩ := I.tuple hq
    exact call_tuple_same pl ⟨.ref p, H, I, rfl, q⟩
noncomputable def tyV (K : PySem.W.Frag) (T : String) (x : V) (H : Hp) : Prop := match x with
  | .str _ => T = "str"
  | .int _ => T = "int"
  | .ref p => (T = "list" ∧ ∃ xs, SqL K H p xs) ∨ (T = "tuple" ∧ ∃ o, K.lookup p = some o ∧ o.cls = .type "tuple" ∧ o.dict = none) ∨
      (T = "dict" ∧ ((∃ kvs, H p = some (.dK kvs)) ∨ ∃ kvs, H p = some (.dT kvs))) ∨ (T = "set" ∧ ∃ S n, H p = some (.set S n))
  | _ => False
theorem tyV_is {pins : List (Addr × Obj)} {σ : St} {H : Hp} {s : Shared} {T : String} {x : V} {v : Value} (I : Inv X pins σ H s) (r : RelV x v) (ty : tyV X.K T x H) :
    s.TypeIs v T ∧ ∀ a, v = .ref a → ∃ ob, s.heap.get? a = some ob ∧ ob.dict = none := by
  cases x with
  | str z =>
    obtain ⟨t, rfl⟩ := r
    cases (show T = "str" from ty)
    exact ⟨typeIs_str s z t, fun _ e => nomatch e⟩
  | int i =>
    obtain ⟨t, rfl⟩ := r
    cases (show T = "int" from ty)
    exact ⟨typeIs_int s i t, fun _ e => nomatch e⟩
  | ref p =>
    cases r
    rcases ty with ⟨rfl, xs, hq⟩ | ⟨rfl, o, hk, hc, hd⟩ | ⟨rfl, hk⟩ | ⟨rfl, S, n, hk⟩
    · obtain ⟨its, _, pl, _⟩ := I.list hq
      refine ⟨pl.isList.typeIs, fun a e => ?_⟩
      cases e
      obtain ⟨o, n, e, c, hd, _⟩ := pl
      exact ⟨o, e, hd⟩
    · refine ⟨⟨o, I.kIn p o hk, hc⟩, fun a e => ?_⟩
      cases e
      exact ⟨o, I.kIn _ o hk, hd⟩
    · have z : ∃ o, s.heap.get? p = some o ∧ o.ExactDict := by
        rcases hk with ⟨kvs, hk⟩ | ⟨kvs, hk⟩
        · obtain ⟨_, _, _, _, o, _, _, e, ex, _⟩ := I.hok p _ hk
          exact ⟨o, e, ex⟩
        · obtain ⟨_, _, _, _, o, _, _, e, ex, _⟩ := I.hok p _ hk
          exact ⟨o, e, ex⟩
      obtain ⟨o, e, ex⟩ := z
      refine ⟨⟨o, e, ex.1⟩, fun a e2 => ?_⟩
      cases e2
      exact ⟨o, e, ex.2.1⟩
    · obtain ⟨o, _, _, _, e, ex, _⟩ := I.hok p _ hk
      refine ⟨⟨o, e, ex.1⟩, fun a e2 => ?_⟩
      cases e2
      exact ⟨o, e, ex.2.1⟩
  | _ => exact False.elim ty
noncomputable def tBM0 (K : PySem.W.Frag) (T : String) (r : V → List V → Hp → VK → Prop) (to : TE) : TE := fun σ H Q => to σ H fun x H1 => tyV K T x H1 ∧ r x [] H1 Q
noncomputable def tBM (K : PySem.W.Frag) (T : String) (r : V → List V → Hp → VK → Prop) (to : TE) (t : TA) : TE := fun σ H Q => to σ H fun x H1 => tyV K T x H1 ∧ t σ H1 fun xs H2 => r x xs H2 Q
variable {o e : Expr} {es : List Expr} {to : TE} {t : TA} {name : Str} {apos cpos : Pos} {T id : String} {r : V → List V → Hp → VK → Prop}
theorem pe_bm0 (pa : PlainAttrs T) (slot : Slot T name id) (hty : typeOf (.builtin id) = pure (.type "method_descriptor")) (hm : MtR X id r) (ho : PE X o to)
    (hbase : attributeBase o name X.env (eval o X.env) = eval o X.env := by rfl) (hline : (apos.endLine == cpos.line) = true := by rfl) : PE X (.Call (.Attribute o name apos) [] [] cpos) (tBM0 X.K T r to) := by
  intro pins s σ H Q I h
  refine wpAny_Call_method0_late hbase hline (thn (ho pins s σ H _ I h) fun v s1 ⟨x, H1, I1, r1, ty, q1⟩ => ?_)
  obtain ⟨h1, h2⟩ := tyV_is I1 r1 ty
  exact ⟨T, id, pa, slot, hty, h1, h2, Calls.callWith_builtin rfl (PySem.evalArgs_none (hm pins s1 σ H1 x [] v [] Q I1 r1 .nil q1))⟩
theorem pe_bm (pa : PlainAttrs T) (slot : Slot T name id) (hty : typeOf (.builtin id) = pure (.type "method_descriptor")) (hm : MtR X id r) (ho : PE X o to) (ha : PA X (e :: es) t)
    (hbase : attributeBase o name X.env (eval o X.env) = eval o X.env := by rfl)
    (hfew : ((backTo cpos (starEach (e :: es) X.env)).all (fun x => !x.1) && (backToKw cpos (keywordEach [] X.env)).all (fun x => x.1.isSome)
      && decide ((e :: es).length + ([] : List Keyword).length + (if ([] : List Keyword).isEmpty then 0 else 1) < 30)) = true := by rfl)
    (hline : (apos.endLine == cpos.line) = true := by rfl) (hs : starEach (e :: es) X.env = (false, eval e X.env) :: starEach es X.env := by rfl) (hplain : (backTo cpos (starEach es X.env)).any (·.1) = false := by rfl) :
    PE X (.Call (.Attribute o name apos) (e :: es) [] cpos) (tBM X.K T r to t) := by
  intro pins s σ H Q I h
  refine wpAny_Call_method_late hbase hfew hline rfl (thn (ho pins s σ H _ I h) fun v s1 ⟨x, H1, I1, r1, ty, q1⟩ => ?_)
  obtain ⟨h1, h2⟩ := tyV_is I1 r1 ty
  refine ⟨T, id, pa, slot, hty, h1, h2, ?_⟩
  have hA := ha cpos pins s1 σ H1 _ I1 q1
  rw [hs] at hA ⊢
  refine Calls.callWith_builtin (by show (false || (backTo cpos (starEach es X.env)).any (·.1)) = false; rw [hplain] <;> rfl) (Calls.evalArgs_plain ?_)
  exact thn hA fun us s2 ⟨vs, H2, I2, r2, q2⟩ => hm pins s2 σ H2 x vs v us Q I2 r1 r2 q2
/- xs.append(e), list.index on a module's tuple .. are MtR facts of 06m -/
end
noncomputable def MtM (X : Cx) (id : String) (r : V → List V → Hp → VK → Prop) : Prop :=
  ∀ (pins : List (Addr × Obj)) (s : Shared) (σ : St) (H : Hp) (x : V) (xs : List V) (v : Value) (us : List Value) (Q : VK), Inv X pins σ H s → RelV x v → Vals xs us → r x xs H Q →
    wpAny (model X.prog X.w) X.A (call (.builtin id) (v :: us)) (EP X pins σ Q) X.xe s
theorem Vals.one : ∀ {x : V} {us : List Value}, Vals [x] us → ∃ u, us = [u] ∧ RelV x u
  | _, _, .cons r .nil => ⟨_, rfl, r⟩
theorem Vals.two : ∀ {x y : V} {us : List Value}, Vals [x, y] us → ∃ u v, us = [u, v] ∧ RelV x u ∧ RelV y v
  | _, _, _, .cons r (.cons q .nil) => ⟨_, _, rfl, r, q⟩
theorem Vals.zero : ∀ {us : List Value}, Vals [] us → us = []
  | _, .nil => rfl
theorem Vals.dropLast {xs : List V} {us : List Value} (h : Vals xs us) : Vals xs.dropLast us.dropLast := by
  induction h with
  | nil => exact .nil
  | cons r t ih =>
    cases t with
    | nil => exact .nil
    | cons q t' => exact .cons r ih
theorem Vals.eraseIdx : ∀ {xs : List V} {us : List Value} (i : Nat), Vals xs us → Vals (xs.eraseIdx i) (us.eraseIdx i)
  | _, _, _, .nil => .nil
  | _, _, 0, .cons _ t => t
  | _, _, i + 1, .cons r t => .cons r (Vals.eraseIdx i t)
theorem Vals.reverse {xs : List V} {us : List Value} (h : Vals xs us) : Vals xs.reverse us.reverse := by
  induction h with
  | nil => exact .nil
  | cons r t ih => rw [List.reverse_cons, List.reverse_cons]; exact Vals.append ih (.cons r .nil)
theorem Vals.rep {xs : List V} {us : List Value} (h : Vals xs us) : ∀ k : Nat, Vals (List.replicate k xs).flatten (List.replicate k us).flatten
  | 0 => .nil
  | k + 1 => by
    rw [List.replicate_succ, List.replicate_succ, List.flatten_cons, List.flatten_cons]
    exact Vals.append h (Vals.rep h k)
theorem erase_last {α : Type} (l : List α) : l.eraseIdx (l.length - 1) = l.dropLast := by
  induction l with
  | nil => rfl
  | cons a r ih =>
    cases r with
    | nil => rfl
    | cons b r =>
      have e : (a :: b :: r).length - 1 = ((b :: r).length - 1) + 1 := by
        have h1 : (a :: b :: r).length = r.length + 2 := rfl
        have h2 : (b :: r).length = r.length + 1 := rfl
        omega
      rw [e, List.eraseIdx_cons_succ, ih]
      all_goals rfl
theorem len_erase {α : Type} : ∀ (l : List α) (i : Nat), (l.eraseIdx i).length ≤ l.length
  | [], _ => Nat.le_refl _
  | _ :: _, 0 => Nat.le_succ _
  | _ :: r, i + 1 => Nat.succ_le_succ (len_erase r i)
theorem foldl_rep (its : List Value) : ∀ (k : Nat) (acc : List Value),
    List.foldl (fun x1 x2 => x1 ++ x2) acc.toArray (List.replicate k its.toArray) = (acc ++ (List.replicate k its).flatten).toArray
  | 0, acc => by simp
  | k + 1, acc => by
    have e : acc.toArray ++ its.toArray = (acc ++ its).toArray := by simp
    have e2 : (acc ++ its) ++ (List.replicate k its).flatten = acc ++ (List.replicate (k + 1) its).flatten := by
      rw [List.replicate_succ, List.flatten_cons, List.append_assoc]
    rw [← e2, ← foldl_rep its k (acc ++ its), ← e, List.replicate_succ, List.foldl_cons]
section
variable {X : Cx} {pins : List (Addr × Obj)} {σ : St} {H : Hp} {s : Shared} {l b : Addr} {xs ys zs : List V}
theorem Inv.lset {its its' : List Value} {n : Nat} {f : Array Value → Array Value} {t' : Nat} (I : Inv X pins σ H s) (hH : H l = some (.lst xs))
    (e : s.heap.get? l = some { cls := .type "list", data := .seq its.toArray n }) (hf : f its.toArray = its'.toArray) (hv : Vals ys its') (hz : ys.length ≤ sizeLine) :
    Inv X pins σ (upd H l (.lst ys)) { s with heap := s.heap.update l (Obj.mapSeq f), toks := t' } := by
  have q := PySem.IsL.update e f
  rw [hf] at q
  refine I.write (x := l) (e := l) (by rw [hH]; exact trivial) (.inl rfl) (fun b' u hb hu => (Heap.get?_update_other s.heap (Obj.mapSeq f) (Ne.symm hb)).trans hu) ⟨_, q⟩ ?_
  exact ⟨hz, its', _, hv, q⟩
theorem Inv.lnew {its : List Value} {t' : Nat} (I : Inv X pins σ H s) (hv : Vals ys its) (hz : ys.length ≤ sizeLine) :
    Inv X pins σ (upd H s.heap.objs.size (.lst ys)) { s with heap := s.heap.push { cls := .type "list", data := .seq its.toArray }, toks := t' } :=
  I.laid (fun _ _ q => Heap.get?_push_of_some _ q) (Nat.le_refl _) ⟨hz, its, 0, hv, Heap.get?_push_size _ rfl⟩
theorem Inv.fresh (I : Inv X pins σ H s) : H s.heap.objs.size = none := I.hok.fresh (Nat.le_refl _)
theorem Inv.lstM (I : Inv X pins σ H s) (hH : H l = some (.lst xs)) : xs.length ≤ sizeLine ∧ ∃ (its : List Value) (n : Nat), Vals xs its ∧ xs.length = its.length ∧ s.heap.get? l = some { cls := .type "list", data := .seq its.toArray n } := by
  obtain ⟨z, its, n, r, e⟩ := I.hok l _ hH
  exact ⟨z, its, n, r, r.length, e⟩
theorem notLongL {n : Nat} (h : n ≤ sizeLine) : Builtin.List.listTooLong n = false := by
  unfold Builtin.List.listTooLong
  exact decide_eq_false (by omega)
end
section
variable {X : Cx}
noncomputable def rAppend : V → List V → Hp → VK → Prop := fun x vs H Q => ∃ l xs y, x = .ref l ∧ vs = [y] ∧ H l = some (.lst xs) ∧ xs.length < sizeLine ∧ Q .non (upd H l (.lst (xs ++ [y])))
theorem mt_append : MtM X "list.append" rAppend := by
  intro pins s σ H x vs v us Q I rx rv h
  obtain ⟨l, xs, y, rfl, rfl, hH, hz, q⟩ := h
  cases rx
  obtain ⟨u, rfl, ru⟩ := rv.one
  obtain ⟨z, its, n, r, hl, e⟩ := I.lstM hH
  refine call_meets F.slot_list_append ⟨_, e, rfl⟩ F.entry_list_append (F.args_list_append_2 _ _) (PySem.list_append l its.toArray n u (by rw [List.size_toArray]; omega)) ⟨e, ?_⟩
  refine ⟨.non, _, I.lset (its' := its ++ [u]) hH e (by simp) (r.append (.cons ru .nil)) ?_, rfl, q⟩
  rw [List.length_append, List.length_singleton]
  omega
noncomputable def rExtend : V → List V → Hp → VK → Prop := fun x vs H Q => ∃ l b xs zs, x = .ref l ∧ vs = [.ref b] ∧ H l = some (.lst xs) ∧ H b = some (.lst zs) ∧ xs.length + zs.length ≤ sizeLine ∧ Q .non (upd H l (.lst (xs ++ zs)))
theorem mt_extend : MtM X "list.extend" rExtend := by
  intro pins s σ H x vs v us Q I rx rv h
  obtain ⟨l, b, xs, zs, rfl, rfl, hH, hB, hz, q⟩ := h
  cases rx
  obtain ⟨u, rfl, ru⟩ := rv.one
  cases ru
  obtain ⟨z, its, n, r, hl, e⟩ := I.lstM hH
  obtain ⟨z2, its2, n2, r2, hl2, e2⟩ := I.lstM hB
  have hsz : its.toArray.size + its2.toArray.size ≤ sizeLine := by rw [List.size_toArray, List.size_toArray]; omega
  have hlong : ¬ (!its.toArray.isEmpty && Builtin.List.listTooLong (its.toArray.size + its2.toArray.size)) = true := by
    rw [notLongL hsz, Bool.and_false]
    exact Bool.false_ne_true
  refine call_meets F.slot_list_extend ⟨_, e, rfl⟩ F.entry_list_extend (F.args_list_extend_2 _ _)
    (AutoSeq1.list_extend_list_list_0 l its.toArray n b its2.toArray n2 hlong (by rw [List.size_toArray]; omega) (by omega)) ⟨e, e2, ?_⟩
  refine ⟨.non, _, I.lset (its' := its ++ its2) hH e (by simp) (r.append r2) ?_, rfl, q⟩
  rw [List.length_append]
  omega
noncomputable def rPop : V → List V → Hp → VK → Prop := fun x vs H Q => ∃ l xs y, x = .ref l ∧ vs = [] ∧ H l = some (.lst xs) ∧ xs[xs.length - 1]? = some y ∧ Q y (upd H l (.lst xs.dropLast))
theorem mt_pop : MtM X "list.pop" rPop := by
  intro pins s σ H x vs v us Q I rx rv h
  obtain ⟨l, xs, y, rfl, rfl, hH, hy, q⟩ := h
  cases rx
  have hus := rv.zero
  subst hus
  obtain ⟨z, its, n, r, hl, e⟩ := I.lstM hH
  obtain ⟨u, hu, ru⟩ := r.get hy
  have hy' : its.toArray[its.toArray.size - 1]? = some u := by
    show its.toArray[its.length - 1]? = some u
    rw [← Array.getElem?_toList, ← hl]
    exact hu
  refine call_meets F.slot_list_pop ⟨_, e, rfl⟩ F.entry_list_pop (F.args_list_pop_1 _) (MeetsSeq.list_pop_last l its.toArray n u hy' (by rw [List.size_toArray]; omega)) ⟨e, ?_⟩
  refine ⟨y, _, I.lset (its' := its.dropLast) hH e ?_ r.dropLast ?_, ru, q⟩
  · show its.toArray.eraseIdxIfInBounds (its.toArray.size - 1) = its.dropLast.toArray
    rw [List.size_toArray, List.eraseIdxIfInBounds_toArray, erase_last]
  · rw [List.length_dropLast]
    omega
noncomputable def rPopAt : V → List V → Hp → VK → Prop := fun x vs H Q => ∃ l xs i k y, x = .ref l ∧ vs = [.int i] ∧ H l = some (.lst xs) ∧ -(2 ^ 63) ≤ i ∧ i < 2 ^ 63 ∧ seqIndex? i xs.length = some k ∧ xs[k]? = some y ∧ Q y (upd H l (.lst (xs.eraseIdx k)))
theorem mt_popAt : MtM X "list.pop" rPopAt := by
  intro pins s σ H x vs v us Q I rx rv h
  obtain ⟨l, xs, i, k, y, rfl, rfl, hH, h1, h2, hk, hy, q⟩ := h
  cases rx
  obtain ⟨u, rfl, ru⟩ := rv.one
  obtain ⟨t, rfl⟩ := ru
  obtain ⟨z, its, n, r, hl, e⟩ := I.lstM hH
  obtain ⟨w, hw, rw'⟩ := r.get hy
  refine call_meets F.slot_list_pop ⟨_, e, rfl⟩ F.entry_list_pop (F.args_list_pop_2 _ _)
    (MeetsSeq.list_pop_at l its.toArray n i t k w (fitsIndex_both h1 h2) (by rw [List.size_toArray, ← hl]; exact hk) (by rw [← Array.getElem?_toList]; exact hw) (by rw [List.size_toArray]; omega)) ⟨e, ?_⟩
  refine ⟨y, _, I.lset (its' := its.eraseIdx k) hH e ?_ (r.eraseIdx k) ?_, rw', q⟩
  · show its.toArray.eraseIdxIfInBounds k = (its.eraseIdx k).toArray
    rw [List.eraseIdxIfInBounds_toArray]
  · have := len_erase xs k
    omega
noncomputable def rReverse : V → List V → Hp → VK → Prop := fun x vs H Q => ∃ l xs, x = .ref l ∧ vs = [] ∧ H l = some (.lst xs) ∧ Q .non (upd H l (.lst xs.reverse))
theorem mt_reverse : MtM X "list.reverse" rReverse := by
  intro pins s σ H x vs v us Q I rx rv h
  obtain ⟨l, xs, rfl, rfl, hH, q⟩ := h
  cases rx
  have hus := rv.zero
  subst hus
  obtain ⟨z, its, n, r, hl, e⟩ := I.lstM hH
  refine call_meets F.slot_list_reverse ⟨_, e, rfl⟩ F.entry_list_reverse (F.args_list_reverse_1 _) (AutoSeq1.list_reverse_list_0 l its.toArray n (by rw [List.size_toArray]; omega)) ⟨e, ?_⟩
  refine ⟨.non, _, I.lset (its' := its.reverse) hH e (by simp) r.reverse ?_, rfl, q⟩
  rw [List.length_reverse]
  omega
noncomputable def rClear : V → List V → Hp → VK → Prop := fun x vs H Q => ∃ l xs, x = .ref l ∧ vs = [] ∧ H l = some (.lst xs) ∧ Q .non (upd H l (.lst []))
theorem mt_clear : MtM X "list.clear" rClear := by
  intro pins s σ H x vs v us Q I rx rv h
  obtain ⟨l, xs, rfl, rfl, hH, q⟩ := h
  cases rx
  have hus := rv.zero
  subst hus
  obtain ⟨z, its, n, r, hl, e⟩ := I.lstM hH
  refine call_meets F.slot_list_clear ⟨_, e, rfl⟩ F.entry_list_clear (F.args_list_clear_1 _) (AutoSeq1.list_clear_list_0 l its.toArray n (by rw [List.size_toArray]; omega)) ⟨e, ?_⟩
  exact ⟨.non, _, I.lset (its' := []) (ys := []) hH e rfl .nil (Nat.zero_le _), rfl, q⟩
noncomputable def rCat : R2 := fun x y H Q => ∃ l b xs zs, x = .ref l ∧ y = .ref b ∧ H l = some (.lst xs) ∧ H b = some (.lst zs) ∧ xs.length + zs.length ≤ sizeLine ∧ ∀ p, H p = none → Q (.ref p) (upd H p (.lst (xs ++ zs)))
theorem op_cat : OpR X (binaryOp .Add) rCat := by
  intro pins s σ H x y v u Q I rx ry h
  obtain ⟨l, b, xs, zs, rfl, rfl, hH, hB, hz, q⟩ := h
  cases rx
  cases ry
  obtain ⟨z, its, n, r, hl, e⟩ := I.lstM hH
  obtain ⟨z2, its2, n2, r2, hl2, e2⟩ := I.lstM hB
  refine PySem.P.add_list e e2 ?_ (by rw [List.size_toArray, List.size_toArray]; omega)
  have ea : its.toArray ++ its2.toArray = (its ++ its2).toArray := by simp
  rw [ea]
  exact ⟨.ref _, _, I.lnew (t' := s.toks) (r.append r2) (by rw [List.length_append]; omega), rfl, q _ I.fresh⟩
noncomputable def rRep : R2 := fun x y H Q => ∃ l k xs, x = .ref l ∧ y = .int k ∧ H l = some (.lst xs) ∧ -(2 ^ 63) ≤ k ∧ k < 2 ^ 63 ∧ xs.length * k.toNat ≤ sizeLine ∧
  ∀ p, H p = none → Q (.ref p) (upd H p (.lst (List.replicate k.toNat xs).flatten))
theorem len_rep {α : Type} (xs : List α) (k : Nat) : (List.replicate k xs).flatten.length = k * xs.length := by
  induction k with
  | zero => simp
  | succ k ih => rw [List.replicate_succ, List.flatten_cons, List.length_append, ih, Nat.succ_mul, Nat.add_comm]
theorem op_rep : OpR X (binaryOp .Mult) rRep := by
  intro pins s σ H x y v u Q I rx ry h
  obtain ⟨l, k, xs, rfl, rfl, hH, h1, h2, hz, q⟩ := h
  cases rx
  obtain ⟨t, rfl⟩ := ry
  obtain ⟨z, its, n, r, hl, e⟩ := I.lstM hH
  have hlen : its.toArray.size * k.toNat ≤ sizeLine := by rw [List.size_toArray, ← hl]; exact hz
  have hcap : ¬ its.toArray.size * k.toNat > (2 ^ 63 - 1) / 8 := by
    have : (sizeLine : Nat) ≤ (2 ^ 63 - 1) / 8 := by decide
    omega
  have hfit : ¬ (!Builtin.List.listFitsIndex k) = true := by
    rw [fitsIndex_both h1 h2]
    exact Bool.false_ne_true
  have hlong : ¬ Builtin.List.listTooLong (its.toArray.size * k.toNat) = true := by
    rw [notLongL hlen]
    exact Bool.false_ne_true
  have hnew : List.foldl (fun x1 x2 => x1 ++ x2) #[] (List.replicate (if its.toArray.isEmpty = true then 0 else k.toNat) its.toArray) = (List.replicate k.toNat its).flatten.toArray := by
    have f0 : ∀ m : Nat, List.foldl (fun x1 x2 => x1 ++ x2) #[] (List.replicate m its.toArray) = (List.replicate m its).flatten.toArray := fun m => by
      have := foldl_rep its m []
      rw [List.nil_append] at this
      exact this
    rw [f0]
    cases its with
    | nil => simp
    | cons a r' => rw [if_neg (by simp)]
  refine wpAny_binaryOp_repeat_ref (T := "list") (U := "int") (by decide) ⟨_, e, rfl⟩ (fun s' => typeIs_int s' k t) noFill_list_mul F.fills_int_mul F.slot_int_rmul repeat_list F.slot_int_index.lookup
    (call_meets F.slot_int_rmul (typeIs_int s k t) F.entry_int_rmul (F.args_int_rmul_2 _ _) (int___rmul___int_list k t l its.toArray n)
      ⟨e, rfl, ⟨_, e, rfl⟩, call_meets F.slot_list_mul ⟨_, e, rfl⟩ F.entry_list_mul (F.args_list_mul_2 _ _) (AutoListH.list___mul___list_int_3 l its.toArray n k t hfit hcap hlong) ⟨e, ?_⟩⟩)
  rw [hnew]
  exact ⟨.ref _, _, I.lnew (t' := s.toks) (r.rep k.toNat) (by rw [len_rep, Nat.mul_comm]; exact hz), rfl, q _ I.fresh⟩
end
section
variable {prog : Program} {w : World} {A : Around} {E : Value → Shared → Prop} {s : Shared}
end
section
variable {X : Cx}
end
end L2
namespace Att
open PySem PySem.W PySem.Calls PyProof.Rows
theorem ints_of_wellAll {P : Params} {h : Heap} : ∀ (ns : List Int) (vs : List Value), WellAll P h vs (ns.map WData.int) → IntsAre vs ns := by
  intro ns
  induction ns with
  | nil =>
    intro vs w
    rw [List.map_nil] at w
    cases w
    exact .nil
  | cons n ns ih =>
    intro vs w
    rw [List.map_cons] at w
    cases w with
    | cons a b =>
      cases a
      exact .cons _ _ (ih _ b)
theorem script_of {l : OpenLaw} {n : Nat} (hn : l.most = some n) {P : Params} {h : Heap} {args : List WData} {vals : List Value}
    (hpre : l.row.toRowW.claim.pre args = true) (hwl : WellAll P h vals args) :
    ∃ a vs ns, vals = [Value.ref a] ∧ args = [WData.list (ns.map WData.int)] ∧ h.get? a = some { cls := .type "list", data := .seq vs.toArray } ∧ IntsAre vs ns ∧ ns.length ≤ n := by
  have hsh : WShape.hasAll [] args [.list .int] = true := (pre_splitW hpre).1
  have hc : l.pre.holds [] { args := args } = true := (pre_splitW hpre).2
  obtain ⟨d, r, rfl, h1, h2⟩ := hasAllW_cons hsh
  obtain rfl := hasAllW_nil h2
  obtain ⟨xs, rfl, h3⟩ := hasW_list h1
  obtain ⟨ns, rfl⟩ := items_int h3
  have hlen : ns.length ≤ n := by
    unfold OpenLaw.pre at hc
    have h4 : (WTm.not (.lt (.lit (.int (n : Int))) (.len (.arg 0)))).holds [] { args := [.list (ns.map .int)] } = true := by
      have h4 := (holds_andW hc).1
      rw [hn] at h4
      exact h4
    have h5 := condW_of h4 (w_not (w_lt w_lit (w_len_list (w_arg rfl))))
    rw [List.length_map] at h5
    refine Nat.le_of_not_lt fun q => ?_
    have q' : (n : Int) < ((ns.length : Nat) : Int) := by omega
    first
      | (rw [decide_eq_true q'] at h5; exact absurd h5 (by decide))
      | (simp at h5; omega)
  cases hwl with
  | cons w1 w2 =>
    cases w2
    cases w1 with
    | list ho hall => exact ⟨_, _, ns, rfl, rfl, ho, ints_of_wellAll ns _ hall, hlen⟩
theorem post_true (l : OpenLaw) (args : List WData) : l.row.toRowW.claim.post args (.bool true) args = true :=
  postW_of (r := l.row.toRowW) (X := (true == true))
    (show WShape.has [] (.bool true) .bool = true by first | rfl | decide | simp [WShape.has, WShape.arms, WShape.armsAll])
    (show (WTm.eq .res (.lit (.bool true))).value [] { args := args, res := some (.bool true), after := args } = some (.bool (true == true)) from w_eq_bool (w_res rfl) w_lit) rfl
theorem attach_call {l : OpenLaw} {n : Nat} {q : Program} {loose : List Str} {XP : (Str → Option Value) → Heap → Prop} {YP : World → Heap → Prop} {d : DefRec}
    (hn : l.most = some n) (hdf : d.params.defaults = [])
    (call : ∀ (w : World) (s₀ s₁ : Shared) (mg mb : Str → Option Value) (fa : Addr) (o : Obj) (pm cd doc : Value) (a : Addr) (vs : List Value) (ns : List Int),
      Ground q loose [] XP w s₀ mg mb s₁.heap → YP w s₁.heap →
      s₁.heap.get? fa = some o → o.data = .func (docDef d.name d.params d.body d.scope pm cd doc) → s₁.heap.CodeRec cd d.name → mg d.name = some (.ref fa) →
      s₁.heap.get? a = some { cls := .type "list", data := .seq vs.toArray } → IntsAre vs ns → ns.length ≤ n → s₁.gens = #[] →
      codeAny (model l.prog w) callerA (.call (.ref fa) ⟨[.ref a], []⟩) (fun r s' => r = .ok (.ret (.bool true)) ∧ OldK s₁.heap s'.heap ∧ s'.os = s₁.os ∧ AllBare s'.gens) s₁) :
    WalkO q loose XP YP l.row.toRowW d [] (fun f vs => PySem.call f vs) := by
  intro w s₀ s₁ mg mb G Y fa o pm cd doc dV kV ho hd hcd hD hmg hg args vals as hpre hlay hrd hwl hlo
  obtain rfl : dV = .none := Dflts.none hD hdf
  obtain rfl : kV = .none := Dflts.noKw hD
  obtain ⟨a, vs, ns, rfl, rfl, hobj, hints, hlen⟩ := script_of hn hpre hwl
  refine enter_call (codeAny_mono (call w s₀ s₁ mg mb fa o pm cd doc a vs ns G Y ho (fd_plain hd) hcd hmg hobj hints hlen hg) fun r s' hq => ?_)
  obtain ⟨rfl, h2, h3, h4⟩ := hq
  exact ⟨.inl ⟨.bool true, .bool true, [], rfl, fun _ => rfl, .bool true, post_true l _, fun _ => ⟨List.Pairwise.nil, fun _ hm => (nomatch hm)⟩⟩, h2, h3, h4⟩
section
variable {prog : Program} {w : World} {A : Around} {E : Value → Shared → Prop} {s : Shared} {K : Frag}
noncomputable def noObjs (h : Heap) : Heap := { h with objs := #[] }
noncomputable def ledger (h : Heap) (L d : Addr) : List (Addr × Obj) := (List.range h.objs.size).filterMap fun a => if a = L ∨ a = d then none else (h.get? a).map fun o => (a, o)
end
end Att
namespace L2
open PySem PySem.Spec PyProof.Rows
theorem vals_ints : ∀ {vs : List Value} {ns : List Int}, IntsAre vs ns → Vals (ns.map V.int) vs
  | _, _, .nil => .nil
  | _, _, .cons n t h => .cons ⟨t, rfl⟩ (vals_ints h)
noncomputable def Only (H : Hp) : Prop := ∀ b, H b = none ∨ ∃ o xs, H b = some (.frz o (.lst xs))
theorem law_call {P : Program} {w : World} {K : PySem.W.Frag} {mg mb : Str → Option Value} {CX : CXT} {k : Nat} {fa a : Addr} {fd : FuncData} {x : Str} {sp : Sp} {s₁ : Shared} {vs : List Value} {ns : List Int}
    (KX : K.In s₁.heap) (hns : s₁.heap.Ns mainGlobals mg) (hb : s₁.heap.Ns builtinsNs mb) (hbb : ∀ x : Str, x ≠ "__name__" → mb x = bootBuiltins x) (hlim : s₁.heap.NoLimit) (hg : s₁.gens = #[])
    (ha : s₁.heap.get? a = some { cls := .type "list", data := .seq vs.toArray }) (hi : IntsAre vs ns) (hl : ns.length ≤ sizeLine) (hr : Room k callerA)
    (F : ∀ base : Heap, K.In base → base.Ns mainGlobals mg → FnOk P w K mg base CX k fa fd [x] sp) (hbind : ∀ (s : Shared) (u : Value), BindsTo s fd ⟨[u], []⟩ [(x, u)])
    (hsp : ∀ H : Hp, Only H → SqL K H a (ns.map V.int) → sp [.ref a] H (fun v _ => v = .bl true) fun _ _ _ => False)
    (hCX : ∀ H e s', CX [] H s₁ (fun _ _ _ => False) e s' → False) :
    codeAny (model P w) callerA (.call (.ref fa) ⟨[.ref a], []⟩) (fun r s' => r = .ok (.ret (.bool true)) ∧ OldK s₁.heap s'.heap ∧ s'.os = s₁.os ∧ AllBare s'.gens) s₁ := by
  have rv := vals_ints hi
  have lenV := hi.length
  have core : ∀ H : Hp, Only H → SqL K H a (ns.map V.int) → HOk P w H s₁.heap → (∀ b, H b ≠ none → b = a) → (H a ≠ none → K.lookup a = none) →
      codeAny (model P w) callerA (.call (.ref fa) ⟨[.ref a], []⟩) (fun r s' => r = .ok (.ret (.bool true)) ∧ OldK s₁.heap s'.heap ∧ s'.os = s₁.os ∧ AllBare s'.gens) s₁ := by
    intro H hO hS hok hA hK
    have base_of : ∀ {b : Addr} {o : Obj}, s₁.heap.get? b = some o → H b = none → (hidT s₁.heap H).get? b = some o := fun e n => hidT_get e n
    have noA : ∀ {b : Addr} {o : Obj} {es : Array DictEntry} {ep : Nat}, s₁.heap.get? b = some o → o.data = .dict es ep → H b = none := fun {b o es ep} e d => by
      cases q : H b with
      | none => rfl
      | some u =>
        have e' : b = a := hA b (by rw [q]; simp)
        subst e'
        rw [ha] at e; cases e
        have d' : Data.seq vs.toArray _ = Data.dict es ep := d
        cases d'
    have nsK : ∀ {b : Addr} {m : Str → Option Value}, s₁.heap.Ns b m → (hidT s₁.heap H).Ns b m := fun {b m} ⟨o, es, ep, e, d, r⟩ => ⟨o, es, ep, base_of e (noA e d), d, r⟩
    have hKb : K.In (hidT s₁.heap H) := fun b o e => base_of (KX b o e) (by
      cases q : H b with
      | none => rfl
      | some u =>
        have e' : b = a := hA b (by rw [q]; simp)
        subst e'
        rw [hK (by rw [q]; simp)] at e; cases e)
    have hM : Mod K mg (hidT s₁.heap H) := ⟨hKb, nsK hns, ⟨mb, nsK hb, hbb⟩, let ⟨mc, h1, h2⟩ := hlim; ⟨mc, nsK h1, h2⟩⟩
    have e0 : Env0 P w K mg (hidT s₁.heap H) callerA [] s₁ H := ⟨rfl, hM, fun b o e => of_hidT e, Nat.le_of_eq (hidT_size _ _), trivial, fun b hb => absurd (show b ∈ ([] : List Addr) from hb) (by simp), hok, .of_eq hg⟩
    refine codeAny_mono ((F _ hKb (nsK hns)).run callerA [] s₁ H ⟨[.ref a], []⟩ [.ref a] [.ref a] _ _ hr e0 (hbind s₁ (.ref a)) (.cons rfl .nil) (hsp H hO hS)) fun r s' h => ?_
    cases r with
    | error e => exact (hCX H e s' h).elim
    | ok fl =>
      cases fl with
      | next => exact False.elim h
      | brk => exact False.elim h
      | cont => exact False.elim h
      | ret u =>
        obtain ⟨v, H', os, bare, un, hok', r', q⟩ := h
        have q' : v = .bl true := q
        subst q'
        obtain rfl : u = Value.bool true := r'
        refine ⟨rfl, OldK.of_keep fun b o e => ?_, os, bare⟩
        cases q : H b with
        | none => exact un.keep b o e q (by intro z; exact absurd (show b ∈ ([] : List Addr) from z) (by simp)) (by simp)
        | some u =>
          rcases hO b with z | ⟨ob, xs, z⟩
          · rw [q] at z; cases z
          · have z2 := un.frzs b ob _ z
            obtain ⟨e1, _⟩ := hok b _ z
            obtain ⟨e2, _⟩ := hok' b _ z2
            rw [e] at e1; cases e1
            exact e2
  cases hk : K.lookup a with
  | some o =>
    have e := KX a o hk
    rw [ha] at e
    cases e
    refine core (fun _ => none) (fun _ => .inl rfl) (.inr ⟨_, vs.toArray, _, hk, rfl, rfl, rfl, by rw [List.size_toArray, lenV]; exact hl, by simpa using rv⟩) (fun b u z => by have z' : (none : Option HO) = some u := z; cases z') (fun b z => absurd rfl z) fun z => absurd rfl z
  | none =>
    refine core (fun b => if b = a then some (.frz { cls := .type "list", data := .seq vs.toArray } (.lst (ns.map V.int))) else none) (fun b => ?_) (.inl (.inr ⟨{ cls := .type "list", data := .seq vs.toArray }, if_pos rfl⟩)) (fun b u z => ?_) (fun b z => ?_) fun _ => hk
    · by_cases hb : b = a
      · exact .inr ⟨_, _, if_pos hb⟩
      · exact .inl (if_neg hb)
    · by_cases hb : b = a
      · have z' := (if_pos hb).symm.trans z
        cases z'
        subst hb
        exact ⟨ha, by rw [List.length_map]; exact hl, vs, _, rv, ha⟩
      · have z' := (if_neg hb).symm.trans z
        cases z'
    · by_cases hb : b = a
      · exact hb
      · exact absurd (if_neg hb) z
noncomputable abbrev KOf {K : PySem.W.Frag} {h : Heap} (_ : K.In h) : PySem.W.Frag := K
theorem walk_of {l : PySem.W.OpenLaw} {n k : Nat} {q : Program} {loose : List Str} {XP : (Str → Option Value) → Heap → Prop} {YP : World → Heap → Prop} {d : DefRec} {K : Params → PySem.W.Frag} {CX : World → CXT} {sp : World → Sp} {x : Str}
    (hn : l.most = some n) (hn2 : n ≤ sizeLine) (hdf : d.params.defaults = []) (hr : Room k callerA)
    (hY : ∀ (w : World) (h : Heap), YP w h → (K w.params).In h)
    (F : ∀ (w : World) (mg : Str → Option Value) (fa : Addr) (h : Heap), (K w.params).In h → h.Ns mainGlobals mg → mg d.name = some (.ref fa) →
      ∃ fd : FuncData, (∀ (s : Shared) (u : Value), BindsTo s fd ⟨[u], []⟩ [(x, u)]) ∧
        ∀ base : Heap, (K w.params).In base → base.Ns mainGlobals mg → FnOk l.prog w (K w.params) mg base (CX w) k fa fd [x] (sp w))
    (hsp : ∀ (w : World) (H : Hp) (a : Addr) (ns : List Int), ns.length ≤ n → Only H → SqL (K w.params) H a (ns.map V.int) → sp w [.ref a] H (fun v _ => v = .bl true) fun _ _ _ => False)
    (hCX : ∀ (w : World) (H : Hp) (s : Shared) (e : Value) (s' : Shared), CX w [] H s (fun _ _ _ => False) e s' → False) :
    PySem.W.WalkO q loose XP YP l.row.toRowW d [] (fun f vs => PySem.call f vs) := by
  refine Att.attach_call hn hdf fun w s₀ s₁ mg mb fa o pm cd doc a vs ns G Y ho hd hcd hmg hobj hints hlen hg => ?_
  have KX := hY w _ Y
  obtain ⟨fd, hb, hF⟩ := F w mg fa _ KX G.T.g hmg
  exact law_call KX G.T.g G.T.b G.T.builtins G.T.nolimit hg hobj hints (Nat.le_trans hlen hn2) hr hF hb (fun H hO hS => hsp w H a ns hlen hO hS) fun H e s' => hCX w H s₁ e s'
noncomputable def inClass (s : Stmt) (j : Nat) : Stmt := match s with
  | .ClassDef _ _ _ body _ _ _ _ _ _ _ => body.getD j (.Pass ⟨0, 0, 0, 0⟩)
  | _ => .Pass ⟨0, 0, 0, 0⟩
noncomputable def defArgs (s : Stmt) : Arguments := match s with
  | .FunctionDef _ a _ _ _ _ _ _ _ _ => a
  | _ => { posonlyargs := [], args := [], vararg := none, kwonlyargs := [], kw_defaults := [], kwarg := none, defaults := [] }
noncomputable def defBody (s : Stmt) : List Stmt := match s with
  | .FunctionDef _ _ b _ _ _ _ _ _ _ => b
  | _ => []
noncomputable def defScope (s : Stmt) : Scope := match s with
  | .FunctionDef _ _ _ _ _ _ sc _ _ _ => sc
  | _ => { kind := .function, names := [], isGenerator := false, isCoroutine := false }
noncomputable abbrev CX0 : CXT := fun _ _ _ _ _ _ => False
noncomputable abbrev E0 : XK := fun _ _ _ => False
structure Fun (K : PySem.W.Frag) (x qual : Str) (st : Stmt) (f : Addr) (fd : FuncData) : Prop where
  ex : ∃ (oc : Value) (od : Option Addr) (kV doc pm : Value) (an : Option Addr) (cdv ct : Value) (osl : Array (Option Value)),
    fd = PySem.W.fnOf x qual (defArgs st) (defBody st) (defScope st) .none kV doc pm an cdv ct ∧ K.lookup f = some ⟨oc, od, .func fd, osl⟩ ∧ PySem.W.codeIn K cdv qual = true
  kp : PySem.W.keepIn K (.ref f) = true
section
variable {P : Program} {w : World} {K : PySem.W.Frag} {mg : Str → Option Value} {base : Heap}
theorem Fun.ok {x qual : Str} {st : Stmt} {f : Addr} {fd : FuncData} {N ps : List Str} {k : Nat} {sp : Sp} (F : Fun K x qual st f fd) (S : FnScope N ps (defScope st)) (len : ∀ vs H Q E, sp vs H Q E → vs.length = ps.length)
    (hbody : ∀ (cdv : Value) (A : Around) (outer : List Env) (s : Shared) (H : Hp) (vs : List V) (Q : VK) (E : XK), Room k (A.deeper (envOfC qual (defScope st) s.heap.objs.size f cdv)) → sp vs H Q E →
      ∃ t, PSs (cxOf CX0 P w K mg base N qual (defScope st) f cdv A outer s H E).nox (defBody st) t ∧ t { nx := fun _ H' => Q .non H', rt := Q } (start N vs) H) : FnOk P w K mg base CX0 (k + 1) f fd ps sp := by
  obtain ⟨oc, od, kV, doc, pm, an, cdv, ct, osl, rfl, lk, hcd⟩ := F.ex
  refine fn_of lk hcd S len fun A outer s H vs Q E hr hsp => ?_
  obtain ⟨t, h, q⟩ := hbody cdv A outer s H vs Q E hr hsp
  exact ⟨t, h.nox, q⟩
theorem Fun.binds {x qual : Str} {st : Stmt} {f : Addr} {fd : FuncData} {ps : List Str} (F : Fun K x qual st f fd)
    (h : ∀ (kV doc pm : Value) (an : Option Addr) (cdv ct : Value) (us : List Value), us.length = ps.length → bindArgs (PySem.W.fnOf x qual (defArgs st) (defBody st) (defScope st) .none kV doc pm an cdv ct) ⟨us, []⟩ = pure (ps.zip us)) : Binds K fd ps [] := by
  obtain ⟨oc, od, kV, doc, pm, an, cdv, ct, osl, rfl, lk, hcd⟩ := F.ex
  exact .all (h kV doc pm an cdv ct)
theorem fun_mk {x qual : Str} {st : Stmt} {f : Addr} {oc : Value} {od an : Option Addr} {osl : Array (Option Value)} {kV doc pm cdv ct : Value} (l : K.lookup f = some ⟨oc, od, .func (PySem.W.fnOf x qual (defArgs st) (defBody st) (defScope st) .none kV doc pm an cdv ct), osl⟩)
    (c : PySem.W.codeIn K cdv qual = true) (k : PySem.W.keepIn K (.ref f) = true) : Fun K x qual st f (PySem.W.fnOf x qual (defArgs st) (defBody st) (defScope st) .none kV doc pm an cdv ct) := ⟨⟨oc, od, kV, doc, pm, an, cdv, ct, osl, rfl, l, c⟩, k⟩
end
section
variable {X : Cx}
end
theorem iteF {A B : Prop} (h : B) : if false = true then A else B := by
  rw [if_neg Bool.false_ne_true]
  exact h
theorem iteT {A B : Prop} (h : A) : if true = true then A else B := by
  rw [if_pos rfl]
  exact h
noncomputable def Same (H H' : Hp) : Prop := ∀ b o, H b = some o → H' b = some o
theorem Same.refl (H : Hp) : Same H H := fun _ _ h => h
theorem Same.trans {H H1 H2 : Hp} (a : Same H H1) (b : Same H1 H2) : Same H H2 := fun c o h => b c o (a c o h)
theorem Same.free {H H' : Hp} (e : Same H H') {l : Addr} (h : H' l = Option.none) : H l = Option.none := by
  cases q : H l with
  | none => rfl
  | some o =>
    rw [e l o q] at h
    cases h
theorem Same.seq {K : PySem.W.Frag} {H H' : Hp} {a : Addr} {xs : List V} (e : Same H H') (h : SqL K H a xs) : SqL K H' a xs := by
  rcases h with (h | ⟨o, h⟩) | h
  · exact .inl (.inl (e _ _ h))
  · exact .inl (.inr ⟨o, e _ _ h⟩)
  · exact .inr h
section
variable {κ : Type} [DecidableEq κ]
noncomputable def valV (kvs : List (κ × V)) (k : κ) : Option V := (kvs.find? fun kv => decide (kv.1 = k)).map (·.2)
noncomputable def putK (kvs : List (κ × V)) (k : κ) (v : V) : List (κ × V) :=
  if (kvs.any fun kv => decide (kv.1 = k)) = true then kvs.map (fun kv => if kv.1 = k then (kv.1, v) else kv) else kvs ++ [(k, v)]
noncomputable def dropK (kvs : List (κ × V)) (k : κ) : List (κ × V) := kvs.filter fun kv => decide (kv.1 ≠ k)
theorem valV_pos {p : κ × V} {r : List (κ × V)} {k : κ} (e : p.1 = k) : valV (p :: r) k = some p.2 := by simp [valV, List.find?_cons, e]
theorem valV_neg {p : κ × V} {r : List (κ × V)} {k : κ} (e : ¬ p.1 = k) : valV (p :: r) k = valV r k := by simp [valV, List.find?_cons, e]
theorem valV_any (k : κ) : ∀ kvs : List (κ × V), (kvs.any fun kv => decide (kv.1 = k)) = (valV kvs k).isSome
  | [] => rfl
  | p :: r => by
    rw [List.any_cons]
    by_cases e : p.1 = k
    · simp only [valV_pos e, decide_eq_true e, Bool.true_or, Option.isSome_some]
    · rw [valV_neg e, decide_eq_false e, Bool.false_or]; exact valV_any k r
theorem length_putK (kvs : List (κ × V)) (k : κ) (v : V) : (putK kvs k v).length ≤ kvs.length + 1 := by
  unfold putK
  split
  · rw [List.length_map]; omega
  · rw [List.length_append, List.length_cons, List.length_nil]; omega
theorem RelO.isSome_eq {o : Option V} {u : Option Value} (r : RelO o u) : o.isSome = u.isSome := by
  cases o with
  | none => cases u with
    | none => rfl
    | some _ => exact (show False from r).elim
  | some _ => cases u with
    | none => exact (show False from r).elim
    | some _ => rfl
theorem RelO.getD {o : Option V} {u : Option Value} {d : V} {d' : Value} (r : RelO o u) (rd : RelV d d') : RelV (o.getD d) (u.getD d') := by
  cases o with
  | none => cases u with
    | none => exact rd
    | some _ => exact (show False from r).elim
  | some _ => cases u with
    | none => exact (show False from r).elim
    | some _ => exact r
theorem KV.val {kvs : List (κ × V)} {vs : List (κ × Value)} (r : KV kvs vs) (k : κ) : RelO (valV kvs k) (valueAt vs k) := by
  unfold KV at r
  induction r with
  | nil => exact True.intro
  | @cons p q ps qs h t ih =>
    obtain ⟨h1, h2⟩ := h
    by_cases e : p.1 = k
    · have e' : q.1 = k := h1.symm.trans e
      have b : valueAt (q :: qs) k = some q.2 := by simp [valueAt, List.find?_cons, e']
      rw [valV_pos e, b]; exact h2
    · have e' : ¬ q.1 = k := fun z => e (h1.trans z)
      have b : valueAt (q :: qs) k = valueAt qs k := by simp [valueAt, List.find?_cons, e']
      rw [valV_neg e, b]; exact ih
theorem KV.any {kvs : List (κ × V)} {vs : List (κ × Value)} (r : KV kvs vs) (k : κ) : (kvs.any fun kv => decide (kv.1 = k)) = vs.any fun kv => decide (kv.1 = k) := by
  unfold KV at r
  induction r with
  | nil => rfl
  | cons h t ih => rw [List.any_cons, List.any_cons, ih, h.1]
theorem KV.repl {kvs : List (κ × V)} {vs : List (κ × Value)} (r : KV kvs vs) (k : κ) {y : V} {u : Value} (ry : RelV y u) :
    KV (kvs.map fun kv => if kv.1 = k then (kv.1, y) else kv) (vs.map fun kv => if kv.1 = k then (kv.1, u) else kv) := by
  unfold KV at r ⊢
  induction r with
  | nil => exact .nil
  | @cons p q ps qs h t ih =>
    rw [List.map_cons, List.map_cons]
    refine .cons ?_ ih
    obtain ⟨h1, h2⟩ := h
    by_cases e : p.1 = k
    · rw [if_pos e, if_pos (h1.symm.trans e)]; exact ⟨h1, ry⟩
    · rw [if_neg e, if_neg (fun z => e (h1.trans z))]; exact ⟨h1, h2⟩
theorem KV.put {kvs : List (κ × V)} {vs : List (κ × Value)} (r : KV kvs vs) (k : κ) {y : V} {u : Value} (ry : RelV y u) : KV (putK kvs k y) (stored vs k u) := by
  unfold putK stored
  rw [r.any k]
  by_cases e : (vs.any fun kv => decide (kv.1 = k)) = true
  · rw [if_pos e, if_pos e]; exact r.repl k ry
  · rw [if_neg e, if_neg e]; exact Paired.snoc r ⟨rfl, ry⟩
theorem KV.drop {kvs : List (κ × V)} {vs : List (κ × Value)} (r : KV kvs vs) (k : κ) : KV (dropK kvs k) (without vs k) := by
  unfold KV at r ⊢
  unfold dropK without
  induction r with
  | nil => exact .nil
  | @cons p q ps qs h t ih =>
    obtain ⟨h1, h2⟩ := h
    rw [List.filter_cons, List.filter_cons]
    by_cases e : p.1 = k
    · have a : ¬ decide (p.1 ≠ k) = true := by simp [e]
      have b : ¬ decide (q.1 ≠ k) = true := by simp [h1.symm.trans e]
      rw [if_neg a, if_neg b]; exact ih
    · have e' : ¬ q.1 = k := fun z => e (h1.trans z)
      have a : decide (p.1 ≠ k) = true := by simp [e]
      have b : decide (q.1 ≠ k) = true := by simp [e']
      rw [if_pos a, if_pos b]; exact .cons ⟨h1, h2⟩ ih
theorem KV.keys {kvs : List (κ × V)} {vs : List (κ × Value)} (r : KV kvs vs) : kvs.map (·.1) = vs.map (·.1) := by
  unfold KV at r
  induction r with
  | nil => rfl
  | cons h t ih => rw [List.map_cons, List.map_cons, ih, h.1]
theorem KV.length {kvs : List (κ × V)} {vs : List (κ × Value)} (r : KV kvs vs) : kvs.length = vs.length := Paired.length r
end
theorem kV_is {P : Program} {w : World} {k : Key} {u : Value} (r : RelV (kV k) u) : (mixKind P w).is k u = true := by
  cases k with
  | inl i => obtain ⟨t, e⟩ := (show ∃ t, u = Value.int i t from r); subst e; exact mixKind_int P w i t
  | inr x => obtain ⟨t, e⟩ := (show ∃ t, u = Value.str x t from r); subst e; exact mixKind_str P w x t
theorem items_are {P : Program} {w : World} : ∀ {ks : List Key} {us : List Value}, Vals (ks.map kV) us → ItemsAre (mixKind P w) ks us
  | [], _, r => by rw [List.map_nil] at r; cases r; exact .nil
  | k :: ks, _, r => by
    rw [List.map_cons] at r
    cases r with
    | cons h t => exact .cons (kV_is h) (items_are t)
noncomputable abbrev KT (H : Hp) : List (List Key × V) → List (List Key × Addr × Value) → Prop := Paired fun p q => p.1 = q.1 ∧ H q.2.1 = some (.tup (p.1.map kV)) ∧ RelV p.2 q.2.2
theorem KT.val {H : Hp} {kvs : List (List Key × V)} {xs : List (List Key × Addr × Value)} (r : KT H kvs xs) (k : List Key) : RelO (valV kvs k) ((atKey xs k).map (·.2)) := by
  induction r with
  | nil => exact True.intro
  | @cons p q ps qs h t ih =>
    obtain ⟨h1, _, h2⟩ := h
    by_cases e : p.1 = k
    · have e' : q.1 = k := h1.symm.trans e
      have b : atKey (q :: qs) k = some q.2 := by simp [atKey, List.find?_cons, e']
      rw [valV_pos e, b]; exact h2
    · have e' : ¬ q.1 = k := fun z => e (h1.trans z)
      have b : atKey (q :: qs) k = atKey qs k := by simp [atKey, List.find?_cons, e']
      rw [valV_neg e, b]; exact ih
theorem KT.repl {H : Hp} {kvs : List (List Key × V)} {xs : List (List Key × Addr × Value)} (r : KT H kvs xs) (k : List Key) {y : V} {u : Value} (ry : RelV y u) :
    KT H (kvs.map fun kv => if kv.1 = k then (kv.1, y) else kv) (xs.map (putAt k u)) := by
  induction r with
  | nil => exact .nil
  | @cons p q ps qs h t ih =>
    rw [List.map_cons, List.map_cons]
    refine .cons ?_ ih
    obtain ⟨h1, h2, h3⟩ := h
    unfold putAt
    by_cases e : p.1 = k
    · rw [if_pos e, if_pos (h1.symm.trans e)]; exact ⟨h1, h2, ry⟩
    · rw [if_neg e, if_neg (fun z => e (h1.trans z))]; exact ⟨h1, h2, h3⟩
theorem KT.put {H : Hp} {kvs : List (List Key × V)} {xs : List (List Key × Addr × Value)} (r : KT H kvs xs) (k : List Key) {b : Addr} {y : V} {u : Value} (hb : H b = some (.tup (k.map kV))) (ry : RelV y u) :
    KT H (putK kvs k y) (storedH xs k b u) := by
  have e : (kvs.any fun kv => decide (kv.1 = k)) = (atKey xs k).isSome := by
    rw [valV_any, (r.val k).isSome_eq, Option.isSome_map]
  unfold putK storedH
  rw [e]
  by_cases q : (atKey xs k).isSome = true
  · rw [if_pos q, if_pos q]; exact r.repl k ry
  · rw [if_neg q, if_neg q]; exact Paired.snoc r ⟨rfl, hb, ry⟩
theorem KT.keeps {H H' : Hp} {kvs : List (List Key × V)} {xs : List (List Key × Addr × Value)} (r : KT H kvs xs) (ht : ∀ b ys, H b = some (.tup ys) → H' b = some (.tup ys)) : KT H' kvs xs :=
  Paired.mapP r fun _ _ z => ⟨z.1, ht _ _ z.2.1, z.2.2⟩
section
variable {P : Program} {w : World} {H : Hp} {h : Heap} {a : Addr}
theorem rd_of {u : HO} (ok : HOk P w H h) (e : Rd H a u) : ObjOk P w H h a u := e.ok ok
theorem dk_rd {kvs : List (Key × V)} (ok : HOk P w H h) (e : Rd H a (.dK kvs)) : kvs.length ≤ sizeLine ∧ (a == sysModules) = false ∧ ∃ vs, KV kvs vs ∧ h.DictOf (mixKind P w) a vs :=
  show ObjOk P w H h a (.dK kvs) from rd_of ok e
theorem dk_of {kvs : List (Key × V)} (ok : HOk P w H h) (e : H a = some (.dK kvs)) : kvs.length ≤ sizeLine ∧ (a == sysModules) = false ∧ ∃ vs, KV kvs vs ∧ h.DictOf (mixKind P w) a vs := dk_rd ok (.inl e)
theorem key_of {ks : List Key} (ok : HOk P w H h) (e : H a = some (.tup (ks.map kV))) : (tupleKind (mixKind P w)).is h ks a := by
  obtain ⟨_, its, r, o, h1, h2, n, h3⟩ := (show ObjOk P w H h a (.tup (ks.map kV)) from ok a _ e)
  exact ⟨o, its.toArray, n, h1, h2, h3, by simpa using items_are r⟩
theorem dt_rd {kvs : List (List Key × V)} (ok : HOk P w H h) (e : Rd H a (.dT kvs)) : kvs.length ≤ sizeLine ∧ (a == sysModules) = false ∧
    ∃ xs, KT H kvs xs ∧ h.DictOfH (tupleKind (mixKind P w)) a xs := by
  obtain ⟨z, y, xs, r, o, es, ep, h1, h2, h3, h4, h5⟩ := (show ObjOk P w H h a (.dT kvs) from rd_of ok e)
  refine ⟨z, y, xs, r, o, es, ep, h1, h2, h3, h4, fun x hx => ?_, h5⟩
  have all : ∀ {l : List (List Key × V)} {m : List (List Key × Addr × Value)}, KT H l m → ∀ x ∈ m, (tupleKind (mixKind P w)).is h x.1 x.2.1 := by
    intro l m q
    induction q with
    | nil => intro x hx; exact nomatch hx
    | @cons p q ps qs hq t ih =>
      intro x hx
      rcases List.mem_cons.mp hx with e | hx
      · subst e
        exact key_of ok (by rw [← hq.1]; exact hq.2.1)
      · exact ih x hx
  exact all r x hx
theorem dt_of {kvs : List (List Key × V)} (ok : HOk P w H h) (e : H a = some (.dT kvs)) : kvs.length ≤ sizeLine ∧ (a == sysModules) = false ∧
    ∃ xs, KT H kvs xs ∧ h.DictOfH (tupleKind (mixKind P w)) a xs := dt_rd ok (.inl e)
end
noncomputable def DGet (H : Hp) (a : Addr) (y : V) (r : Option V) : Prop :=
  (∃ kvs k, Rd H a (.dK kvs) ∧ y = kV k ∧ r = valV kvs k) ∨ ∃ kvs k b, Rd H a (.dT kvs) ∧ y = .ref b ∧ H b = some (.tup (k.map kV)) ∧ r = valV kvs k
noncomputable def DPut (H : Hp) (a : Addr) (y v : V) (H' : Hp) : Prop :=
  (∃ kvs k, H a = some (.dK kvs) ∧ y = kV k ∧ kvs.length < sizeLine ∧ H' = upd H a (.dK (putK kvs k v))) ∨
  ∃ kvs k b, H a = some (.dT kvs) ∧ y = .ref b ∧ H b = some (.tup (k.map kV)) ∧ kvs.length < sizeLine ∧ H' = upd H a (.dT (putK kvs k v))
theorem DGet.k {H : Hp} {a : Addr} {kvs : List (Key × V)} {k : Key} (e : H a = some (.dK kvs)) : DGet H a (kV k) (valV kvs k) := .inl ⟨kvs, k, .inl e, rfl, rfl⟩
theorem DGet.t {H : Hp} {a b : Addr} {kvs : List (List Key × V)} {k : List Key} (e : H a = some (.dT kvs)) (eb : H b = some (.tup (k.map kV))) : DGet H a (.ref b) (valV kvs k) := .inr ⟨kvs, k, b, .inl e, rfl, eb, rfl⟩
theorem DPut.k {H : Hp} {a : Addr} {kvs : List (Key × V)} {k : Key} {v : V} (e : H a = some (.dK kvs)) (hl : kvs.length < sizeLine) : DPut H a (kV k) v (upd H a (.dK (putK kvs k v))) := .inl ⟨kvs, k, e, rfl, hl, rfl⟩
theorem DPut.t {H : Hp} {a b : Addr} {kvs : List (List Key × V)} {k : List Key} {v : V} (e : H a = some (.dT kvs)) (eb : H b = some (.tup (k.map kV))) (hl : kvs.length < sizeLine) :
    DPut H a (.ref b) v (upd H a (.dT (putK kvs k v))) := .inr ⟨kvs, k, b, e, rfl, eb, hl, rfl⟩
section
variable {X : Cx} {pins : List (Addr × Obj)} {σ : St} {H : Hp} {s : Shared} {a : Addr} {y v : V} {u r : Value} {o : Option V} {A : Around} {E : Value → Shared → Prop}
theorem Inv.big (I : Inv X pins σ H s) : sysModules < s.heap.objs.size := by
  have h : mainGlobals < s.heap.objs.size := (I.mod.glob.keeps I.bk).lt
  exact Nat.lt_trans (by decide) h
theorem d_write {h' : Heap} {t' : Nat} {ob : HO} (I : Inv X pins σ H s) (mu : Mut (H a)) (hs : Heap.SameBut a s.heap h') (he : ∃ q, h'.get? a = some q) (new : ObjOk X.prog X.w (upd H a ob) h' a ob) :
    Inv X pins σ (upd H a ob) { s with heap := h', toks := t' } :=
  I.write (x := a) (e := a) mu (.inl rfl) (fun b q hb z => (hs.2 b hb).trans z) he new
theorem dk_new {P : Program} {w : World} {H' : Hp} {h' : Heap} {kvs : List (Key × V)} {vs : List (Key × Value)} (z : kvs.length ≤ sizeLine) (hd : (a == sysModules) = false) (rel : KV kvs vs) (dd : h'.DictOf (mixKind P w) a vs) :
    ObjOk P w H' h' a (.dK kvs) := ⟨z, hd, vs, rel, dd⟩
theorem d_setItem {H' : Hp} {Q : Unit → Shared → Prop} (hu : A.units + 1 < cLine) (I : Inv X pins σ H s) (g : DPut H a y v H') (ry : RelV y u) (rv : RelV v r) (h : ∀ s', Inv X pins σ H' s' → Q () s') :
    wpAny (model X.prog X.w) A (setItem (.ref a) u r) Q E s := by
  rcases g with ⟨kvs, k, e, ey, l, eH⟩ | ⟨kvs, k, b, e, ey, eb, l, eH⟩
  · subst ey eH
    obtain ⟨z, hd, vs, rel, dd⟩ := dk_of I.hok e
    have hz : vs.length ≤ sizeLine := by rw [← rel.length]; exact z
    have hl : (putK kvs k v).length ≤ sizeLine := by have := length_putK kvs k v; omega
    refine wpAny_setItem_pairs (hsz := hz) (kV_is ry) dd fun h' dd' hs => h _ ?_
    have he : ∃ q, h'.get? a = some q := let ⟨q, _, _, hq, _⟩ := dd'; ⟨q, hq⟩
    exact d_write I (by rw [e]; exact True.intro) hs he (dk_new hl hd (rel.put k rv) dd')
  · subst ey eH
    cases (show u = Value.ref b from ry)
    obtain ⟨z, hd, xs, rel, dd⟩ := dt_of I.hok e
    have hz : xs.length ≤ sizeLine := by rw [← Paired.length rel]; exact z
    have hl : (putK kvs k v).length ≤ sizeLine := by have := length_putK kvs k v; omega
    refine wpAny_setItem_heap (hsz := hz) (tupleKind_room_in1 hu) (key_of I.hok eb) dd fun h' dd' hs => h _ ?_
    obtain ⟨q, es, ep, hq, h2, h3, h4, _, h5⟩ := dd'
    refine d_write I (by rw [e]; exact True.intro) hs ⟨q, hq⟩ ⟨hl, hd, _, (rel.put k eb rv).keeps fun c ys ec => ?_, q, es, ep, hq, h2, h3, h4, h5⟩
    rw [upd_ne (ne_of ec e (fun z => nomatch z))]
    exact ec
end
section
variable {X : Cx} {pins : List (Addr × Obj)} {σ : St} {H : Hp} {s : Shared} {a : Addr} {kvs : List (Key × V)} {k : Key} {u : Value} {A : Around} {E : Value → Shared → Prop}
end
noncomputable def NoSl (i : Expr) : Prop := ∀ ov iv, subscripted i false ov iv = operate [ov, iv] (getItem ov iv)
noncomputable def tDGet (td ty : TE) : TE := fun σ H Q => td σ H fun x H1 => ty σ H1 fun y H2 => ∃ a v, x = .ref a ∧ DGet H2 a y (some v) ∧ Q v H2
noncomputable def tDIn (ty td : TE) : TE := fun σ H Q => ty σ H fun y H1 => td σ H1 fun x H2 => ∃ a o, x = .ref a ∧ DGet H2 a y o ∧ Q (.bl o.isSome) H2
noncomputable def tDNotIn (ty td : TE) : TE := fun σ H Q => ty σ H fun y H1 => td σ H1 fun x H2 => ∃ a o, x = .ref a ∧ DGet H2 a y o ∧ Q (.bl (!o.isSome)) H2
noncomputable def sDPut (td ty tv : TE) : TS := fun D σ H => tv σ H fun v H1 => td σ H1 fun x H2 => ty σ H2 fun y H3 => ∃ a H4, x = .ref a ∧ DPut H3 a y v H4 ∧ D.nx σ H4
noncomputable def sDAug (td ty tv : TE) (rd : V → V → Hp → VK → Prop) : TS := fun D σ H => td σ H fun x H1 => ty σ H1 fun y H2 => ∃ a v, x = .ref a ∧ DGet H2 a y (some v) ∧
  tv σ H2 fun y2 H3 => rd v y2 H3 fun z H4 => ∃ H5, DPut H4 a y z H5 ∧ D.nx σ H5
noncomputable def sDDel (td ty : TE) : TS := fun D σ H => td σ H fun x H1 => ty σ H1 fun y H2 => ∃ a kvs k, x = .ref a ∧ H2 a = some (.dK kvs) ∧ y = kV k ∧ (valV kvs k).isSome = true ∧ D.nx σ (upd H2 a (.dK (dropK kvs k)))
section
variable {X : Cx} {o i e value : Expr} {pos pos' tpos : Pos} {td ty tv : TE}
end
theorem dt_empty {P : Program} {w : World} {H : Hp} (h : Heap) (hb : sysModules < h.objs.size) : ObjOk P w H (h.push { cls := .type "dict", data := .dict #[] }) h.objs.size (.dT []) :=
  ⟨Nat.zero_le _, beq_eq_false_iff_ne.mpr (Ne.symm (Nat.ne_of_lt hb)), [], .nil, _, #[], 0, Heap.get?_push_size _ rfl, ⟨rfl, rfl, rfl⟩, rfl, rfl, List.nodup_nil⟩
noncomputable def tDNewK : TE := fun _ H Q => ∀ p, H p = none → Q (.ref p) (upd H p (.dK []))
noncomputable def tDNewT : TE := fun _ H Q => ∀ p, H p = none → Q (.ref p) (upd H p (.dT []))
section
variable {X : Cx} {pos : Pos}
theorem pe_dnewT : PE X (.Dict [] [] pos) tDNewT := fun pins s σ H Q I h =>
  wpAny_Dict_empty ⟨.ref s.heap.objs.size, _, I.laid (a := s.heap.objs.size) (o := .dT []) (t' := s.toks) (fun _ _ q => Heap.get?_push_of_some _ q) (Nat.le_refl _) (dt_empty s.heap I.big), rfl, h _ (I.hok.fresh (Nat.le_refl _))⟩
end
noncomputable def tPairs : List (TE × TE) → St → Hp → (List (V × V) → Hp → Prop) → Prop
  | [], _, H, Q => Q [] H
  | (tk, tv) :: r, σ, H, Q => tk σ H fun x H1 => tv σ H1 fun y H2 => tPairs r σ H2 fun ps H3 => Q ((x, y) :: ps) H3
noncomputable abbrev VV : List (V × V) → List (Value × Value) → Prop := Paired fun p q => RelV p.1 q.1 ∧ RelV p.2 q.2
noncomputable def PPs (X : Cx) (pos : Pos) (keys : List (Option Expr)) (values : List Expr) (trs : List (TE × TE)) : Prop :=
  ∀ (pins : List (Addr × Obj)) (s : Shared) (σ : St) (H : Hp) (Q : List (V × V) → Hp → Prop), Inv X pins σ H s → tPairs trs σ H Q →
    wpAny (model X.prog X.w) X.A (evalPairs (pairTrees keys values X.env pos)) (fun vs s' => ∃ ps H', Inv X pins σ H' s' ∧ VV ps vs ∧ Q ps H') X.xe s
noncomputable def mergeK (kvs more : List (Key × V)) : List (Key × V) := more.foldl (fun acc kv => putK acc kv.1 kv.2) kvs
noncomputable def tDisp (trs : List (TE × TE)) : TE := fun σ H Q => ∀ p, H p = none → tPairs trs σ (upd H p (.dK [])) fun ps H2 => H2 p = some (.dK []) ∧ ∃ kvs : List (Key × V), ps = kvs.map (fun kv => (kV kv.1, kv.2)) ∧ kvs.length ≤ 15 ∧ Q (.ref p) (upd H2 p (.dK (mergeK [] kvs)))
structure M1 (X : Cx) (o : Expr) (m : Str) (apos : Pos) (e : Expr) (cpos : Pos) : Prop where
  base : attributeBase o m X.env (eval o X.env) = eval o X.env
  few : ((backTo cpos (starEach [e] X.env)).all (fun x => !x.1) && (backToKw cpos (keywordEach [] X.env)).all (fun x => x.1.isSome)
    && decide (([e] : List Expr).length + ([] : List Keyword).length + (if ([] : List Keyword).isEmpty then 0 else 1) < 30)) = true
  line : (apos.endLine == cpos.line) = true
  trees : backTo cpos (starEach [e] X.env) = [(false, eval e X.env)]
structure M2 (X : Cx) (o : Expr) (m : Str) (apos : Pos) (e f : Expr) (cpos : Pos) : Prop where
  base : attributeBase o m X.env (eval o X.env) = eval o X.env
  few : ((backTo cpos (starEach [e, f] X.env)).all (fun x => !x.1) && (backToKw cpos (keywordEach [] X.env)).all (fun x => x.1.isSome)
    && decide (([e, f] : List Expr).length + ([] : List Keyword).length + (if ([] : List Keyword).isEmpty then 0 else 1) < 30)) = true
  line : (apos.endLine == cpos.line) = true
  trees : backTo cpos (starEach [e, f] X.env) = [(false, eval e X.env), (false, eval f X.env)]
noncomputable def IsD (H : Hp) (a : Addr) : Prop := (∃ kvs, Rd H a (.dK kvs)) ∨ ∃ kvs, Rd H a (.dT kvs)
section
variable {X : Cx} {pins : List (Addr × Obj)} {σ : St} {H : Hp} {s : Shared} {a : Addr} {y d : V} {u r : Value} {o : Option V} {A : Around} {E : Value → Shared → Prop}
end
noncomputable def tDGet1 (td ty : TE) : TE := fun σ H Q => td σ H fun x H1 => ∃ a, x = .ref a ∧ IsD H1 a ∧ ty σ H1 fun y H2 => ∃ o, DGet H2 a y o ∧ Q (o.getD .non) H2
noncomputable def tDGet2 (td ty tx : TE) : TE := fun σ H Q => td σ H fun x H1 => ∃ a, x = .ref a ∧ IsD H1 a ∧ ty σ H1 fun y H2 => tx σ H2 fun z H3 => ∃ o, DGet H3 a y o ∧ Q (o.getD z) H3
noncomputable def tDPop1 (td ty : TE) : TE := fun σ H Q => td σ H fun x H1 => ∃ a, x = .ref a ∧ IsD H1 a ∧ ty σ H1 fun y H2 => ∃ kvs k v, H2 a = some (.dK kvs) ∧ y = kV k ∧ valV kvs k = some v ∧ Q v (upd H2 a (.dK (dropK kvs k)))
noncomputable def tDPop2 (td ty tx : TE) : TE := fun σ H Q => td σ H fun x H1 => ∃ a, x = .ref a ∧ IsD H1 a ∧ ty σ H1 fun y H2 => tx σ H2 fun z H3 => ∃ kvs k, H3 a = some (.dK kvs) ∧ y = kV k ∧
  (∀ v, valV kvs k = some v → Q v (upd H3 a (.dK (dropK kvs k)))) ∧ (valV kvs k = none → Q z H3)
section
variable {X : Cx} {o e f : Expr} {apos cpos : Pos} {td ty tx : TE}
end
section
variable {X : Cx} {pins : List (Addr × Obj)} {σ : St} {H : Hp} {s : Shared} {a : Addr} {kvs : List (Key × V)} {A : Around} {E : Value → Shared → Prop}
end
section
variable {X : Cx} {pins : List (Addr × Obj)} {σ : St} {H : Hp} {s : Shared} {a : Addr} {y : V} {u : Value} {A : Around} {E : Value → Shared → Prop}
end
end L2
set_option maxHeartbeats 4000000
namespace L2
open PySem PySem.Spec PyProof.Rows
mutual
inductive Is (K : PySem.W.Frag) (H : Hp) : V → PyData → Prop
  | non : Is K H .non .none
  | bl (b : Bool) : Is K H (.bl b) (.bool b)
  | int (i : Int) : Is K H (.int i) (.int i)
  | str (x : Str) : Is K H (.str x) (.str x)
  | tup {a : Addr} {xs : List V} {ds : List PyData} : SqT K H a xs → IsAll K H xs ds → Is K H (.ref a) (.tuple ds)
  | lst {a : Addr} {xs : List V} {ds : List PyData} : SqL K H a xs → IsAll K H xs ds → Is K H (.ref a) (.list ds)
inductive IsAll (K : PySem.W.Frag) (H : Hp) : List V → List PyData → Prop
  | nil : IsAll K H [] []
  | cons {v : V} {vs : List V} {d : PyData} {ds : List PyData} : Is K H v d → IsAll K H vs ds → IsAll K H (v :: vs) (d :: ds)
end
section
variable {K : PySem.W.Frag} {H H' : Hp}
theorem same_tup {a : Addr} {xs : List V} (e : Same H H') (h : SqT K H a xs) : SqT K H' a xs := by
  rcases h with (h | ⟨o, h⟩) | h
  · exact .inl (.inl (e _ _ h))
  · exact .inl (.inr ⟨o, e _ _ h⟩)
  · exact .inr h
mutual
theorem Is.mono (e : Same H H') : ∀ {v : V} {d : PyData}, Is K H v d → Is K H' v d
  | _, _, .non => .non
  | _, _, .bl b => .bl b
  | _, _, .int i => .int i
  | _, _, .str x => .str x
  | _, _, .tup h t => .tup (same_tup e h) (IsAll.mono e t)
  | _, _, .lst h t => .lst (e.seq h) (IsAll.mono e t)
theorem IsAll.mono (e : Same H H') : ∀ {vs : List V} {ds : List PyData}, IsAll K H vs ds → IsAll K H' vs ds
  | _, _, .nil => .nil
  | _, _, .cons h t => .cons (Is.mono e h) (IsAll.mono e t)
end
theorem IsAll.length : ∀ {vs : List V} {ds : List PyData}, IsAll K H vs ds → vs.length = ds.length
  | _, _, .nil => rfl
  | _, _, .cons _ t => congrArg Nat.succ t.length
theorem IsAll.get : ∀ {vs : List V} {ds : List PyData} {i : Nat} {d : PyData}, IsAll K H vs ds → ds[i]? = some d → ∃ v, vs[i]? = some v ∧ Is K H v d
  | _, _, _, _, .nil, e => by simp at e
  | _, _, 0, _, .cons h _, e => by simp at e; subst e; exact ⟨_, rfl, h⟩
  | _, _, i + 1, d, .cons _ t, e => by
    obtain ⟨v, h1, h2⟩ := IsAll.get (i := i) (d := d) t (by simpa using e)
    exact ⟨v, by simpa using h1, h2⟩
theorem Is.none_of {v : V} (h : Is K H v .none) : v = .non := by cases h; rfl
end
section
variable {X : Cx} {pins : List (Addr × Obj)} {σ : St} {H : Hp} {s : Shared}
mutual
theorem Is.reads (I : Inv X pins σ H s) : ∀ {v : V} {d : PyData} {u : Value}, Is X.K H v d → RelV v u → ∃ as, Reads s.heap u d as
  | _, _, _, .non, r => by cases r; exact ⟨_, .none⟩
  | _, _, _, .bl b, r => by cases r; exact ⟨_, .bool b⟩
  | _, _, _, .int i, r => by obtain ⟨t, rfl⟩ := r; exact ⟨_, .int i t⟩
  | _, _, _, .str x, r => by obtain ⟨t, rfl⟩ := r; exact ⟨_, .str x t⟩
  | _, _, _, .tup h t, r => by
    cases r
    obtain ⟨its, rv, ⟨o, ho, hc, n, hd⟩, _⟩ := I.tuple h
    obtain ⟨as, ra⟩ := IsAll.reads I t rv
    exact ⟨_, .tuple ho hc hd (by simpa using ra)⟩
  | _, _, _, .lst h t, r => by
    cases r
    obtain ⟨its, rv, pl, _⟩ := I.list h
    obtain ⟨o, ho, hc, n, hd⟩ := pl.isList
    obtain ⟨as, ra⟩ := IsAll.reads I t rv
    exact ⟨_, .list ho hc hd (by simpa using ra)⟩
theorem IsAll.reads (I : Inv X pins σ H s) : ∀ {vs : List V} {ds : List PyData} {us : List Value}, IsAll X.K H vs ds → Vals vs us → ∃ as, ReadsAll s.heap us ds as
  | _, _, _, .nil, r => by cases r; exact ⟨_, .nil⟩
  | _, _, _, .cons h t, r => by
    cases r with
    | cons r1 r2 =>
      obtain ⟨a1, e1⟩ := Is.reads I h r1
      obtain ⟨a2, e2⟩ := IsAll.reads I t r2
      exact ⟨_, .cons e1 e2⟩
end
noncomputable def rEqD (K : PySem.W.Frag) (f : Bool → Bool) : R2 := fun x y H Q => ∃ d e, Is K H x d ∧ Is K H y e ∧ SeqAt.shaped d = true ∧ SeqAt.shaped e = true ∧ Q (.bl (f (PyData.eqv d e))) H
theorem op_eqD (hu : X.A.units + 64 < cLine) : OpR X (compareOp .Eq) (rEqD X.K id) := by
  intro pins s σ H x y v u Q I rx ry h
  obtain ⟨d, e, h1, h2, s1, s2, q⟩ := h
  obtain ⟨_, r1⟩ := h1.reads I rx
  obtain ⟨_, r2⟩ := h2.reads I ry
  exact SeqAt.compareEq_shaped r1 r2 s1 s2 hu ⟨.bl _, H, I, rfl, q⟩
theorem op_neD (hu : X.A.units + 64 < cLine) : OpR X (compareOp .NotEq) (rEqD X.K not) := by
  intro pins s σ H x y v u Q I rx ry h
  obtain ⟨d, e, h1, h2, s1, s2, q⟩ := h
  obtain ⟨_, r1⟩ := h1.reads I rx
  obtain ⟨_, r2⟩ := h2.reads I ry
  exact SeqAt.compareNe_shaped r1 r2 s1 s2 hu ⟨.bl _, H, I, rfl, q⟩
end
noncomputable def Sm (n : Nat) (i : Int) : Prop := i.natAbs < 2 ^ n
theorem Sm.mono {m n : Nat} {i : Int} (h : Sm m i) (e : m ≤ n) : Sm n i := Nat.lt_of_lt_of_le h (Nat.pow_le_pow_right (by decide) e)
theorem Sm.mul {m n : Nat} {i j : Int} (h : Sm m i) (k : Sm n j) : Sm (m + n) (i * j) := by
  unfold Sm at *
  rw [Int.natAbs_mul, Nat.pow_add]
  exact Nat.mul_lt_mul'' h k
theorem Sm.add {m n : Nat} {i j : Int} (h : Sm m i) (k : Sm n j) : Sm (max m n + 1) (i + j) := by
  unfold Sm at *
  have h1 : i.natAbs < 2 ^ max m n := Nat.lt_of_lt_of_le h (Nat.pow_le_pow_right (by decide) (Nat.le_max_left _ _))
  have h2 : j.natAbs < 2 ^ max m n := Nat.lt_of_lt_of_le k (Nat.pow_le_pow_right (by decide) (Nat.le_max_right _ _))
  have h3 := Int.natAbs_add_le i j
  rw [Nat.pow_succ]
  omega
theorem Sm.neg {m : Nat} {i : Int} (h : Sm m i) : Sm m (-i) := by unfold Sm at *; rwa [Int.natAbs_neg]
theorem Sm.sub {m n : Nat} {i j : Int} (h : Sm m i) (k : Sm n j) : Sm (max m n + 1) (i - j) := by rw [Int.sub_eq_add_neg]; exact h.add k.neg
theorem Sm.of_le {m : Nat} {i j : Int} (h : Sm m i) (e : j.natAbs ≤ i.natAbs) : Sm m j := Nat.lt_of_le_of_lt e h
theorem obj_of {P : Program} {w : World} {H : Hp} {h : Heap} {a : Addr} {o : HO} (x : ObjOk P w H h a o) : ∃ ob, h.get? a = some ob := by
  cases o with
  | lst xs => obtain ⟨_, _, _, _, e⟩ := x; exact ⟨_, e⟩
  | tup xs => obtain ⟨_, _, _, ob, e, _⟩ := x; exact ⟨ob, e⟩
  | dK kvs => obtain ⟨_, _, _, _, ob, _, _, e, _⟩ := x; exact ⟨ob, e⟩
  | dT kvs => obtain ⟨_, _, _, _, ob, _, _, e, _⟩ := x; exact ⟨ob, e⟩
  | set S n => obtain ⟨ob, _, _, _, e, _⟩ := x; exact ⟨ob, e⟩
  | ins C dx fs => obtain ⟨_, _, _, e, _⟩ := x; exact ⟨_, e⟩
  | own y => exact x
  | xd fs => obtain ⟨_, ⟨ob, _, _, e, _⟩, _⟩ := x; exact ⟨ob, e⟩
  | rng lo hi => obtain ⟨_, _, _, e⟩ := x; exact ⟨_, e⟩
  | frz ob u => exact ⟨_, x.1⟩
  | tbl ps => exact ⟨_, x⟩
  | met f y => exact ⟨_, x⟩
  | ext φ => exact x.2.1
structure Fly (P : Program) (w : World) (l : List Env) (H : Hp) (s : Shared) (ea : Addr) (cls : Value) (H' : Hp) (s' : Shared) : Prop where
  os : s'.os = s.os
  bare : AllBare s'.gens
  un : Un (frs l) [] H H' s.heap s'.heap
  hok : HOk P w H' s'.heap
  free : H' ea = none
  air : ∃ (B : Heap) (a0 : Value), Heap.FlyingW B l ea cls a0 s'.heap ∧ ∀ b o, s'.heap.get? b = some o → b ∉ frs l → (H' b ≠ none ∨ ∃ o', s.heap.get? b = some o') → B.get? b = some o
noncomputable def CXE (P : Program) (w : World) : CXT := fun l H s E e s' => ∃ ea cls H', e = .ref ea ∧ Fly P w l H s ea cls H' s' ∧ E cls none H'
theorem hok_in {P : Program} {w : World} {H : Hp} {h1 h2 B : Heap} (x : HOk P w H h1) (hB : ∀ b o, h1.get? b = some o → H b ≠ none → B.get? b = some o) (st : B.StaysIn h2) : HOk P w H h2 := fun a o e =>
  (x a o e).stay (fun b u hb q => st b u (hB b u q (by
    rcases hb with rfl | z
    · rw [e]; simp
    · rw [z]; simp))) (fun _ q => q) fun _ _ q => q
section
variable {P : Program} {w : World} {l : List Env} {H H' : Hp} {s s' : Shared} {ea : Addr} {cls a0 : Value} {B h2 : Heap}
theorem Fly.un_to (F : Fly P w l H s ea cls H' s') (fl : Heap.FlyingW B l ea cls a0 s'.heap) (hB : ∀ b o, s'.heap.get? b = some o → b ∉ frs l → (H' b ≠ none ∨ ∃ o', s.heap.get? b = some o') → B.get? b = some o)
    (st : B.StaysIn h2) (sm : s'.heap.UpToSlots h2) : Un (frs l) [] H H' s.heap h2 where
  keep := fun b o q n hb _ => st b o (hB b o (F.un.keep b o q n hb (by simp)) hb (.inr ⟨o, q⟩))
  slot := fun b o q n hb _ => by
    obtain ⟨sl, q1⟩ := F.un.slot b o q n hb (by simp)
    obtain ⟨_, o2, q2, nf⟩ := fl.2.2.1.mem hb
    rw [q1] at q2; cases q2
    obtain ⟨sl2, q3⟩ := sm b _ q1 nf
    exact ⟨sl2, q3⟩
  free := F.un.free
  there := fun b o q _ => by
    obtain ⟨o1, q1⟩ := F.un.there b o q (by simp)
    by_cases hb : b ∈ frs l
    · obtain ⟨_, o2, q2, nf⟩ := fl.2.2.1.mem hb
      obtain ⟨sl2, q3⟩ := sm b _ q2 nf
      exact ⟨_, q3⟩
    · exact ⟨o1, st b o1 (hB b o1 q1 hb (.inr ⟨o, q⟩))⟩
  tups := F.un.tups
  frzs := F.un.frzs
  tbls := F.un.tbls
end
section
variable {X : Cx} {pins : List (Addr × Obj)} {σ : St} {H H' : Hp} {s s' : Shared} {ea : Addr} {cls a0 : Value} {B h1 h2 : Heap} {M : Model}
theorem Fly.nofr (I : Inv X pins σ H s) (F : Fly X.prog X.w X.stack H s ea cls H' s') : ∀ b ∈ frs X.stack, H' b = none := fun b hb => by
  obtain ⟨_, o, ho, _⟩ := I.stack.mem hb
  exact F.un.free b o ho (I.stkFree b hb) (by simp)
theorem Fly.inv (I : Inv X pins σ H s) (F : Fly X.prog X.w X.stack H s ea cls H' s') (fl : Heap.FlyingW B X.stack ea cls a0 s'.heap)
    (hB : ∀ b o, s'.heap.get? b = some o → b ∉ frs X.stack → (H' b ≠ none ∨ ∃ o', s.heap.get? b = some o') → B.get? b = some o) (st : B.StaysIn h2) (sm : s'.heap.UpToSlots h2) : Inv X pins σ H' { s' with heap := h2 } :=
  I.call' (ch := []) (s' := { s' with heap := h2 }) F.os (F.un_to fl hB st sm) (hok_in F.hok (fun b o q n => hB b o q (fun z => n (F.nofr I b z)) (.inl n)) st) F.bare (fun b z => nomatch z)
theorem off_stack (I : Inv X pins σ H s) {b : Addr} {o : Obj} (q : X.s₀.heap.get? b = some o) (hb : b ∉ X.fs) : b ∉ frs X.stack := fun z => by
  rcases List.mem_cons.mp (I.stkSub b z) with e | e
  · exact absurd e (Nat.ne_of_lt (Nat.lt_of_lt_of_le (Heap.lt_size q) I.ok.above))
  · exact hb e
theorem leave_fly (hst : X.stack = X.env :: X.outer) (hfr : X.env.frame = some X.env.locals) (hex : X.ex = []) (I : Inv X pins σ H s) (F : Fly X.prog X.w X.stack H s ea cls H' s')
    {Q' : Unit → Shared → Prop} {E' : Value → Shared → Prop} (hQ : ∀ h2, Fly X.prog X.w X.outer X.H₀ X.s₀ ea cls H' { s' with heap := h2 } → Q' () { s' with heap := h2 }) : wpAny M X.A (leaving X.env (.ref ea)) Q' E' s' := by
  obtain ⟨B, a0, fl, hB⟩ := F.air
  have fl' : Heap.FlyingW B (X.env :: X.outer) ea cls a0 s'.heap := by rw [← hst]; exact fl
  refine wpAny_leaves_onW (by rw [← hst]; exact I.ok.frames) hfr fl' fun h2 fl2 sm => ?_
  have J := F.inv I fl hB fl2.1 sm
  have jb : Un X.fs [] X.H₀ H' X.s₀.heap h2 := by have := J.base; rw [hex] at this; exact this
  refine hQ h2 ⟨J.os, J.bare, jb, J.hok, F.free, B, a0, fl2, fun b o q hb hh => ?_⟩
  rcases hh with n | ⟨o', q'⟩
  · cases e : H' b with
    | none => exact absurd e n
    | some u =>
      obtain ⟨o1, q1⟩ := obj_of (F.hok b u e)
      have z := hB b o1 q1 (fun z => n (F.nofr I b z)) (.inl n)
      have y : some o = some o1 := q.symm.trans (fl2.1 b o1 z)
      cases y
      exact z
  · obtain ⟨o1, q1⟩ := I.base.there b o' q' (by rw [hex]; simp)
    obtain ⟨o2, q2⟩ := F.un.there b o1 q1 (by simp)
    have z := hB b o2 q2 (off_stack I q' hb) (.inr ⟨o1, q1⟩)
    have y : some o = some o2 := q.symm.trans (fl2.1 b o2 z)
    cases y
    exact z
theorem leave_made (hst : X.stack = X.env :: X.outer) (hfr : X.env.frame = some X.env.locals) (hex : X.ex = []) (I : Inv X pins σ H s) {vs : List Value} (hx : Heap.MadeExcOf s.heap h1 ea cls vs)
    {Q' : Unit → Shared → Prop} {E' : Value → Shared → Prop} (hQ : ∀ h2, Fly X.prog X.w X.outer X.H₀ X.s₀ ea cls H { s with heap := h2 } → Q' () { s with heap := h2 }) :
    wpAny M X.A (leaving X.env (.ref ea)) Q' E' { s with heap := h1 } := by
  have hin : ∀ env ∈ X.stack, ∀ a, env.frame = some a → a ∈ frs X.stack := fun env he a ha => List.mem_filterMap.mpr ⟨env, he, ha⟩
  have kB : ∀ b o, s.heap.get? b = some o → b ∉ frs X.stack → (PySem.W.hideAll s.heap (frs X.stack)).get? b = some o := fun b o q hb => PySem.W.hideAll_get _ q hb
  have hl : s.heap.FunFrames (PySem.W.hideAll s.heap (frs X.stack)) (X.env :: X.outer) := by
    have := PySem.W.funFrames_hide I.stack hin
    rw [hst] at this ⊢
    exact this
  refine wpAny_leaves_madeW (base := PySem.W.hideAll s.heap (frs X.stack)) (h := s.heap) (by rw [← hst]; exact I.ok.frames) hfr (fun b o q => PySem.W.of_hideAll _ q) hl hx fun h2 t fl2 _ _ sm => ?_
  have st := fl2.1
  have fresh : H ea = none := by
    cases e : H ea with
    | none => rfl
    | some u =>
      obtain ⟨o1, q1⟩ := obj_of (I.hok ea u e)
      have y := q1.symm.trans hx.new
      cases y
  have nofr : ∀ b, H b ≠ none → b ∉ frs X.stack := fun b n z => n (I.stkFree b z)
  have un2 : Un (frs X.stack) [] H H s.heap h2 := by
    refine ⟨fun b o q _ hb _ => st b o (kB b o q hb), fun b o q n hb _ => ?_, fun _ _ _ n _ => n, fun b o q _ => ?_, fun _ _ q => q, fun _ _ _ q => q, fun b ps q => ⟨#[], by rw [q]; simp⟩⟩
    · obtain ⟨_, o2, q2, nf⟩ := I.stack.mem hb
      rw [q] at q2; cases q2
      exact sm b o (hx.keeps b o q) nf
    · by_cases hb : b ∈ frs X.stack
      · obtain ⟨_, o2, q2, nf⟩ := I.stack.mem hb
        obtain ⟨sl, q3⟩ := sm b o2 (hx.keeps b o2 q2) nf
        exact ⟨_, q3⟩
      · exact ⟨o, st b o (kB b o q hb)⟩
  have J : Inv X pins σ H { s with heap := h2 } := I.call' (ch := []) (s' := { s with heap := h2 }) rfl un2 (hok_in I.hok (fun b o q n => kB b o q (nofr b n)) st) I.bare (fun b z => nomatch z)
  have jb : Un X.fs [] X.H₀ H X.s₀.heap h2 := by have := J.base; rw [hex] at this; exact this
  refine hQ h2 ⟨J.os, J.bare, jb, J.hok, fresh, _, _, fl2, fun b o q hb hh => ?_⟩
  rcases hh with n | ⟨o', q'⟩
  · cases e : H b with
    | none => exact absurd e n
    | some u =>
      obtain ⟨o1, q1⟩ := obj_of (I.hok b u e)
      have z := kB b o1 q1 (nofr b n)
      have y : some o = some o1 := q.symm.trans (st b o1 z)
      cases y
      exact z
  · obtain ⟨o1, q1⟩ := I.base.there b o' q' (by rw [hex]; simp)
    have z := kB b o1 q1 (off_stack I q' hb)
    have y : some o = some o1 := q.symm.trans (st b o1 z)
    cases y
    exact z
end
noncomputable def Lifts (X : Cx) (E : XK) : Prop := ∀ (pins : List (Addr × Obj)) (σ : St) (H : Hp) (s : Shared) (ea : Addr) (cls : Value) (vs : List Value) (h1 : Heap), Inv X pins σ H s → Heap.MadeExcOf s.heap h1 ea cls vs → E cls none H → X.xe (.ref ea) { s with heap := h1 }
noncomputable def PassS (CX : CXT) (X : Cx) (E : St → XK) : Prop := ∀ (pins : List (Addr × Obj)) (σ : St) (H : Hp) (s : Shared) (e : Value) (s' : Shared), Inv X pins σ H s → CX X.stack H s (E σ) e s' → X.xe e s'
section
variable {P : Program} {w : World} {K : PySem.W.Frag} {mg : Str → Option Value} {base : Heap} {N : List Str} {qual : Str} {scope : Scope} {f : Addr} {cd : Value} {A : Around} {outer : List Env} {s : Shared} {H : Hp} {E : XK} {c : Bool}
theorem lifts_def : Lifts (cxOf (CXE P w) P w K mg base N qual scope f cd A outer s H E c) E := fun pins σ H1 s1 ea cls vs h1 I hx hE =>
  leave_made (X := cxOf (CXE P w) P w K mg base N qual scope f cd A outer s H E c) rfl rfl rfl I hx fun h2 F => ⟨ea, cls, H1, rfl, F, hE⟩
theorem passS_def : PassS (CXE P w) (cxOf (CXE P w) P w K mg base N qual scope f cd A outer s H E c) (fun _ => E) := fun pins σ H1 s1 e s' I ⟨ea, cls, H', he, F, hE⟩ => by
  subst he
  exact leave_fly (X := cxOf (CXE P w) P w K mg base N qual scope f cd A outer s H E c) rfl rfl rfl I F fun h2 F2 => ⟨ea, cls, H', rfl, F2, hE⟩
end
section
variable {P : Program} {w : World} {K : PySem.W.Frag} {mg : Str → Option Value} {base : Heap}
theorem Fun.okE {x qual : Str} {st : Stmt} {f : Addr} {fd : FuncData} {N ps : List Str} {k : Nat} {sp : Sp} (F : Fun K x qual st f fd) (S : FnScope N ps (defScope st)) (len : ∀ vs H Q E, sp vs H Q E → vs.length = ps.length)
    (hbody : ∀ (cdv : Value) (A : Around) (outer : List Env) (s : Shared) (H : Hp) (vs : List V) (Q : VK) (E : XK), Room k (A.deeper (envOfC qual (defScope st) s.heap.objs.size f cdv)) → sp vs H Q E →
      ∃ t, PSs (cxOf (CXE P w) P w K mg base N qual (defScope st) f cdv A outer s H E) (defBody st) t ∧ t { nx := fun _ H' => Q .non H', rt := Q } (start N vs) H) : FnOk P w K mg base (CXE P w) (k + 1) f fd ps sp := by
  obtain ⟨oc, od, kV, doc, pm, an, cdv, ct, osl, rfl, lk, hcd⟩ := F.ex
  exact fn_of lk hcd S len fun A outer s H vs Q E hr hsp => hbody cdv A outer s H vs Q E hr hsp
structure FunG (K : PySem.W.Frag) (x qual : Str) (st : Stmt) (f : Addr) (fd : FuncData) : Prop where
  ex : ∃ (oc : Value) (od : Option Addr) (dV kV doc pm : Value) (an : Option Addr) (cdv ct : Value) (osl : Array (Option Value)),
    fd = PySem.W.fnOf x qual (defArgs st) (defBody st) (defScope st) dV kV doc pm an cdv ct ∧ K.lookup f = some ⟨oc, od, .func fd, osl⟩ ∧ PySem.W.codeIn K cdv qual = true
  kp : PySem.W.keepIn K (.ref f) = true
theorem Fun.g {x qual : Str} {st : Stmt} {f : Addr} {fd : FuncData} (F : Fun K x qual st f fd) : FunG K x qual st f fd := by
  obtain ⟨oc, od, kV, doc, pm, an, cdv, ct, osl, e, lk, hcd⟩ := F.ex
  exact ⟨⟨oc, od, _, kV, doc, pm, an, cdv, ct, osl, e, lk, hcd⟩, F.kp⟩
theorem FunG.okE {x qual : Str} {st : Stmt} {f : Addr} {fd : FuncData} {N ps : List Str} {k : Nat} {sp : Sp} (F : FunG K x qual st f fd) (S : FnScope N ps (defScope st)) (len : ∀ vs H Q E, sp vs H Q E → vs.length = ps.length)
    (hbody : ∀ (cdv : Value) (A : Around) (outer : List Env) (s : Shared) (H : Hp) (vs : List V) (Q : VK) (E : XK), Room k (A.deeper (envOfC qual (defScope st) s.heap.objs.size f cdv)) → sp vs H Q E →
      ∃ t, PSs (cxOf (CXE P w) P w K mg base N qual (defScope st) f cdv A outer s H E) (defBody st) t ∧ t { nx := fun _ H' => Q .non H', rt := Q } (start N vs) H) : FnOk P w K mg base (CXE P w) (k + 1) f fd ps sp := by
  obtain ⟨oc, od, dV, kV, doc, pm, an, cdv, ct, osl, rfl, lk, hcd⟩ := F.ex
  exact fn_of lk hcd S len fun A outer s H vs Q E hr hsp => hbody cdv A outer s H vs Q E hr hsp
end
noncomputable abbrev veMro : List Value := [.type "ValueError", .type "Exception", .type "BaseException", .type "object"]
noncomputable def ExcC (K : PySem.W.Frag) (C : Addr) : Prop := PySem.W.excIn K C veMro "ValueError.__new__" = true
theorem ExcC.obj {K : PySem.W.Frag} {h : Heap} {C : Addr} (q : ExcC K C) (X : K.In h) :
    ∃ bm N nm qn bs hd sn sub ab col dd k0 k1 k2 k3 k5 mN, h.get? C = some (excClassObj nm qn C N bs bm hd sn sub ab col dd k0 k1 k2 k3 k5 "ValueError.__new__") ∧ h.Ns N mN ∧ mN "__init__" = none ∧ OwnTail h veMro bm := by
  unfold ExcC PySem.W.excIn at q
  split at q
  · rename_i dd cd sl ho
    split at q
    · rename_i C' bm k0 k1 k2 k3 n k5 em es
      simp only [Bool.and_eq_true, beq_iff_eq, Bool.not_eq_true'] at q
      obtain ⟨⟨⟨⟨⟨e1, e2⟩, e3⟩, e4⟩, e5⟩, e6⟩ := q
      subst e1 e2
      obtain ⟨nm, bs, mro, ns, qn, hd, sn, sub, ab, col, del⟩ := cd
      dsimp only at em e3 e5 e6
      subst em e3
      obtain ⟨l⟩ := sl
      dsimp only at es
      subst es
      exact ⟨bm, ns, nm, qn, bs, hd, sn, sub, ab, col, dd, k0, k1, k2, k3, k5, _, X _ _ ho, .of_isNs (PySem.W.isNs_of_in X e5), PySem.W.nsMap_none_of_in X e5 e6, PySem.W.tail_of_in X e4⟩
    · cases q
  · cases q
section
variable {X : Cx} {E : XK} {x : Str} {C : Addr} {np cpos pos : Pos} {e : Expr} {es : List Expr} {t : TA}
noncomputable def tRaise (E : XK) (C : Addr) (t : TA) : TS := fun _ σ H => t σ H fun vs H1 => vs.length ≤ sizeLine ∧ E (.ref C) none H1
end
noncomputable def tCallS (sp : Sp) (dvs : List V) (E : St → XK) (t : TA) : TE := fun σ H Q => t σ H fun vs H1 => sp (vs ++ dvs) H1 Q (E σ)
section
variable {X : Cx} {CX : CXT} {k : Nat} {f C : Addr} {fd : FuncData} {ps : List Str} {sp : Sp} {dvs : List V} {ds : List Value} {E : St → XK} {x m : Str} {p pos apos : Pos} {e o : Expr} {es : List Expr} {ta : TE} {t : TA}
theorem run_fnS {pins : List (Addr × Obj)} {σ : St} {H : Hp} {s : Shared} {Q : VK} {us : List Value} {vs : List V} (F : FnOk X.prog X.w X.K X.mg X.base CX k f fd ps sp) (hr : Room k X.A) (hb : Binds X.K fd ps ds) (hd : Vals dvs ds) (hx : PassS CX X E)
    (I : Inv X pins σ H s) (r : Vals vs us) (h : sp (vs ++ dvs) H Q (E σ)) : wpAny (model X.prog X.w) X.A (call (.ref f) us) (EP X pins σ Q) X.xe s := by
  have r2 : Vals (vs ++ dvs) (us ++ ds) := r.append hd
  have hl : (us ++ ds).length = ps.length := by rw [← r2.length]; exact F.len _ _ _ _ h
  refine wpAny_call (codeAny_mono (F.run X.A X.stack s H ⟨us, []⟩ (us ++ ds) (vs ++ dvs) Q (E σ) hr I.env0 (hb s us I.kIn hl) r2 h) fun r s' hq => ?_)
  cases r with
  | error e => exact hx pins σ H s e s' I hq
  | ok fl =>
    cases fl with
    | ret u => exact I.after hq
    | next => exact False.elim hq
    | brk => exact False.elim hq
    | cont => exact False.elim hq
theorem pe_callS (F : FnOk X.prog X.w X.K X.mg X.base CX k f fd ps sp) (hr : Room k X.A) (hg : Gl X x) (hm : X.mg x = some (.ref f)) (hk : PySem.W.keepIn X.K (.ref f) = true) (hb : Binds X.K fd ps ds) (hd : Vals dvs ds) (hx : PassS CX X E)
    (ha : PA X (e :: es) t) (hdb : (x == ("__debug__" : Str)) = false := by decide) (he : starEach (e :: es) X.env = (false, eval e X.env) :: starEach es X.env := by rfl) (hpl : (backTo pos (starEach es X.env)).any (·.1) = false := by rfl) :
    PE X (.Call (.Name x p) (e :: es) [] pos) (tCallS sp dvs E t) := by
  intro pins s σ H Q I h
  refine wpAny_Call_Name_kw (ld_glob I hg hm ?_ hdb)
  refine PySem.W.callWith_K (h₀ := X.base) I.ok.mod.kin hk (thn (ha pos pins s σ H _ I h) fun us s1 ⟨vs, H1, I1, r, q⟩ => ⟨I1.kIn, ?_⟩) he hpl
  exact run_fnS F hr hb hd hx I1 r q
end
noncomputable def tryX (X : Cx) (pn : List (Addr × Obj)) (E : St → XK) : Cx :=
  { X with pn := X.pn ++ pn, xe := fun e s' => ∃ σ H s ea cls H', Inv X pn σ H s ∧ e = .ref ea ∧ Fly X.prog X.w X.stack H s ea cls H' s' ∧ E σ cls none H' }
noncomputable def handX (X : Cx) (ea : Addr) : Cx := { X with A := X.A.mark (some (.ref ea)), calm := false, xe := fun _ _ => False }
section
variable {X : Cx} {pn pins : List (Addr × Obj)} {σ : St} {H : Hp} {s : Shared} {E : St → XK} {ea : Addr}
theorem of_try (ok : (tryX X pn E).Ok) : X.Ok := ⟨ok.mod, ok.kind, ok.glob, ok.blt, ok.above, ok.inj, ok.has, ok.cab, ok.hd, ok.frames, ok.stk, ok.exf, ok.bs, ok.bsz, ok.noex, ok.exfs, ok.funs, ok.frf⟩
theorem inv_of_try (I : Inv (tryX X pn E) pins σ H s) : Inv X pn σ H s := ⟨of_try I.ok, I.os, I.bare, I.base, I.loc, I.cell, I.free, I.freeC, fun p hp => I.pin p (List.mem_append_left _ hp), I.hok, I.len⟩
theorem passS_try : PassS (CXE X.prog X.w) (tryX X pn E) E := fun pins σ H s e s' I ⟨ea, cls, H', he, F, hE⟩ => ⟨σ, H, s, ea, cls, H', inv_of_try I, he, F, hE⟩
theorem inv_track {a : Addr} {o : HO} (I : Inv X pins σ H s) (hn : H a = none) (h0 : X.s₀.heap.get? a = none) (hL : a ≠ X.env.locals) (hc : ∀ x c, X.env.cells.lookup x = some c → c ≠ a) (hp : ∀ p ∈ X.pn ++ pins, p.1 ≠ a)
    (new : ObjOk X.prog X.w (upd H a o) s.heap a o) : Inv X pins σ (upd H a o) s := by
  have ne : ∀ b u, H b = some u → b ≠ a := fun b u q => ne_of_none q hn
  refine ⟨I.ok, I.os, I.bare, ⟨I.base.keep, I.base.slot, fun b ob q n hx => ?_, I.base.there, fun b xs q => ?_, fun b ob u q => ?_, fun b ps q => ?_⟩, I.loc, I.cell, ?_, fun x c e => ?_, fun p hq => ?_, fun b u e => ?_, I.len⟩
  · rw [upd_ne (fun z => by rw [z, h0] at q; cases q)]; exact I.base.free b ob q n hx
  · have z := I.base.tups b xs q
    rw [upd_ne (ne b _ z)]; exact z
  · have z := I.base.frzs b ob u q
    rw [upd_ne (ne b _ z)]; exact z
  · obtain ⟨more, z⟩ := I.base.tbls b ps q
    exact ⟨more, by rw [upd_ne (ne b _ z)]; exact z⟩
  · rw [upd_ne (Ne.symm hL)]; exact I.free
  · rw [upd_ne (hc x c e)]; exact I.freeC x c e
  · obtain ⟨z1, z2, z3⟩ := I.pin p hq
    exact ⟨z1, by rw [upd_ne (hp p hq)]; exact z2, z3⟩
  · by_cases hb : b = a
    · subst hb; rw [upd_same] at e; cases e; exact new
    · rw [upd_ne hb] at e
      exact (I.hok b u e).stay (fun _ _ _ q => q) (fun c q => by rw [upd_ne (ne c _ q)]; exact q) fun c xs q => by rw [upd_ne (ne c _ q)]; exact q
theorem Fly.fresh {H' : Hp} {s' : Shared} {cls : Value} (F : Fly X.prog X.w X.stack H s ea cls H' s') : s.heap.get? ea = none := by
  obtain ⟨B, a0, fl, hB⟩ := F.air
  cases e : s.heap.get? ea with
  | none => rfl
  | some o =>
    obtain ⟨oe, vs, T, oT, ts, he, _, hd, _⟩ := fl.2.2.2
    have nf : ea ∉ frs X.stack := fun z => by
      obtain ⟨_, o2, q2, nf⟩ := fl.2.2.1.mem z
      rw [he] at q2; cases q2
      exact nf vs hd
    have z := hB ea oe he nf (.inr ⟨o, e⟩)
    have y := fl.2.1
    rw [y] at z; cases z
end
noncomputable def excO (ea : Addr) (cls : Value) : HO := .ext fun h => ∃ o vs, h.get? ea = some o ∧ o.cls = cls ∧ o.data = .fields vs
noncomputable def tTry (K : PySem.W.Frag) (c : Value) (i : Nat) (tb : (St → XK) → TS) (th : TS) : TS := fun D σ H =>
  tb (fun σ' cls _ H' => PySem.W.exmOne K cls c = some true ∧ ∀ ea, H' ea = none →
    th { nx := fun σ'' H'' => D.nx (σ''.set i none) H'', rt := D.rt, bk := fun σ'' H'' => D.bk (σ''.set i none) H'', ct := fun σ'' H'' => D.ct (σ''.set i none) H'' } (σ'.set i (some (.ref ea))) (upd H' ea (excO ea cls))) D σ H
section
variable {X : Cx} {body suite : List Stmt} {b0 : Stmt} {x n : Str} {np hpos pos : Pos} {i : Nat} {c : Value} {tb : (St → XK) → TS} {th : TS}
end
noncomputable def Has (P : Program) (w : World) (K : PySem.W.Frag) (mg : Str → Option Value) (base : Heap) (k : Nat) (x : Str) (ps : List Str) (sp : Sp) : Prop :=
  ∃ f fd, mg x = some (.ref f) ∧ PySem.W.keepIn K (.ref f) = true ∧ Binds K fd ps [] ∧ FnOk P w K mg base (CXE P w) k f fd ps sp
noncomputable def DefAt (K : PySem.W.Frag) (mg : Str → Option Value) (x : Str) (st : Stmt) (ps : List Str) : Prop :=
  ∃ f fd, mg x = some (.ref f) ∧ Fun K x x st f fd ∧ Binds K fd ps []
section
variable {P : Program} {w : World} {K : PySem.W.Frag} {mg : Str → Option Value} {base : Heap} {x : Str} {ps N : List Str} {sp sp' : Sp} {j k : Nat} {st : Stmt}
theorem Has.mono (h : Has P w K mg base j x ps sp) (e : j ≤ k) : Has P w K mg base k x ps sp := by
  obtain ⟨f, fd, h1, h2, h3, h4⟩ := h
  exact ⟨f, fd, h1, h2, h3, h4.mono e⟩
theorem Has.imp (h : Has P w K mg base k x ps sp) (e : ∀ vs H Q E, sp' vs H Q E → sp vs H Q E) : Has P w K mg base k x ps sp' := by
  obtain ⟨f, fd, h1, h2, h3, h4⟩ := h
  exact ⟨f, fd, h1, h2, h3, h4.imp e⟩
end
theorem passSN {X : Cx} {P : Program} {w : World} : PassS (CXE P w) X (fun _ => E0) := fun _ _ _ _ _ _ _ ⟨_, _, _, _, _, h⟩ => h.elim
section
variable {X : Cx} {k : Nat} {ps : List Str} {sp : Sp} {E : St → XK} {x : Str} {p pos : Pos} {e : Expr} {es : List Expr} {t : TA}
theorem pe_callE (h : Has X.prog X.w X.K X.mg X.base k x ps sp) (hr : Room k X.A) (hg : Gl X x) (hx : PassS (CXE X.prog X.w) X E) (ha : PA X (e :: es) t) (hdb : (x == ("__debug__" : Str)) = false := by decide)
    (he : starEach (e :: es) X.env = (false, eval e X.env) :: starEach es X.env := by rfl) (hpl : (backTo pos (starEach es X.env)).any (·.1) = false := by rfl) : PE X (.Call (.Name x p) (e :: es) [] pos) (tCallS sp [] E t) := by
  obtain ⟨f, fd, h1, h2, h3, h4⟩ := h
  exact pe_callS h4 hr hg h1 h2 h3 .nil hx ha hdb he hpl
end
theorem Sm.log {n : Nat} {i : Int} (h : Sm n i) (h0 : i ≠ 0) : i.natAbs.log2 < n := (Nat.log2_lt (by omega)).mpr h
theorem Sm.bits {n : Nat} {i : Int} (h : Sm n i) : Builtin.Int.intBits i ≤ n := by
  unfold Builtin.Int.intBits
  by_cases h0 : i = 0
  · subst h0; exact Nat.zero_le _
  · rw [if_neg (by simpa using h0)]
    exact h.log h0
noncomputable def CMulB (i j : Int) : Prop := ∃ m n, Sm m i ∧ Sm n j ∧ m + n ≤ 134217728
noncomputable def CDivB (_ j : Int) : Prop := j ≠ 0 ∧ ∃ n, Sm n j ∧ n ≤ 9000
section
variable {X : Cx}
theorem op_mulB : OpR X (binaryOp .Mult) (rI CMulB fun i j => .int (i * j)) := opI fun _ _ _ _ _ _ _ ⟨_, _, h1, h2, h3⟩ q => mul_int q (IntMulOk.of_le h1.bits h2.bits h3)
theorem op_fdivB : OpR X (binaryOp .FloorDiv) (rI CDivB fun i j => .int (i.fdiv j)) := opI fun _ _ _ _ _ _ _ ⟨h0, _, h1, h2⟩ q => floordiv_int h0 q (.inl (PyProof.noPylong_of_log2 (Nat.lt_of_lt_of_le (h1.log h0) h2)))
end
section
variable {X : Cx} {x : Str} {n : String} {C : Addr} {pos : Pos}
theorem pe_ty (hg : Gl X x) (hm : X.mg x = none) (hv : bootBuiltins x = some (.type n)) (hn : x ≠ "__name__" := by decide) (hd : (x == ("__debug__" : Str)) = false := by decide) : PE X (.Name x pos) (tC (.ty n)) :=
  pe_bltn (v := .ty n) hg hm hv rfl hn hd
theorem pe_cls (hg : Gl X x) (hm : X.mg x = some (.ref C)) (hd : (x == ("__debug__" : Str)) = false := by decide) : PE X (.Name x pos) (tC (.ref C)) := pe_glob (v := .ref C) hg hm rfl hd
end
structure ExcI (K : PySem.W.Frag) (C : Addr) : Prop where
  ga : PySem.W.findIn K (.ref C) "__getattribute__" = some (some (.builtin "BaseException.__getattribute__"))
  gh : PySem.W.findIn K (.ref C) "__getattr__" = some none
  cl : PySem.W.findIn K (.ref C) "__class__" = some (some (.builtin "object.__class__"))
  mo : PySem.W.mroIn K C (.type "object") = some true
  mb : PySem.W.mroIn K C (.type "BaseException") = some true
  hd : PySem.W.hasDictIn K C = true
section
variable {K : PySem.W.Frag} {prog : Program} {w : World} {A : Around} {E : Value → Shared → Prop} {h : Heap} {g : Array GenState} {d : Drawn} {t : Nat} {os : OsState} {a C : Addr} {o : Obj}
theorem exc_class_get {R : Result → Shared → Prop} {tp : Value} (X : K.In h) (z : ExcI K C) (hx : h.get? a = some o) (hc : o.cls = .ref C) (hq : R (.ok (.ret (.ref C))) ⟨h, g, d, t, os⟩) :
    codeAny (model prog w) A (.call (.builtin "getset_descriptor.__get__") ⟨[.builtin "object.__class__", .ref a, tp], []⟩) R ⟨h, g, d, t, os⟩ := by
  have L0 : PySem.W.Looks (model prog w) h (typeOf (.ref a)) (.ref C) := by
    rw [← hc]
    exact (PySem.W.Looks.ld hx).andThen .now
  have L1 := PySem.W.looks_mroIn (M := model prog w) X z.mo
  refine codeAny_call_builtin PySem.W.KF.slot_gs.plain PySem.W.KF.entry_gs (PySem.W.KF.slot_gs.check _ _ _ _ _ _ _ _ PySem.W.KF.type_class (PySem.W.KF.args_gs _ _ _) ?_)
  unfold Builtin.«getset_descriptor.__get__» Builtin.Getset_descriptor.descrGet
  rw [PySem.W.dga_obj]
  refine wpAny_bind (wpAny_pure ?_)
  unfold Builtin.Getset_descriptor.descrGetter Builtin.Getset_descriptor.descrCheckInstance Builtin.Getset_descriptor.descrNameAndClass isInstance
  simp only [PySem.W.KF.owner_class]
  repeat lk
  refine ⟨Code.quiet_builtin _ (by decide +kernel), codeAny_builtin PySem.W.KF.entry_class ?_⟩
  unfold Builtin.«object.__class__» shownTypeOf
  repeat lk
  exact hq
theorem exc_class_entry {tk : Tok} {Q : Fin → Shared → Prop} (X : K.In h) (z : ExcI K C) (hx : h.get? a = some o) (hc : o.cls = .ref C) (hq : Q (.done (.ret (.ref C))) ⟨h, g, d, t, os⟩) :
    wpAny (model prog w) A (Builtin.«object.__getattribute__» ⟨[.ref a, .str "__class__" tk], []⟩) Q E ⟨h, g, d, t, os⟩ := by
  have hT5 : (⟨h, g, d, t, os⟩ : Shared).TypeIs (.builtin "object.__class__") "getset_descriptor" := F.typeOf_object_class
  have f5 := F.typeOf_object_class
  have f6 := F.slot_gs_get.lookup
  have f7 := F.slot_gs_set.lookup
  have LK : ∀ {A : Around} {Q : Option Value → Shared → Prop} {E : Value → Shared → Prop}, Q (some (.builtin "object.__class__")) ⟨h, g, d, t, os⟩ → wpAny (model prog w) A (typeLookup (.ref C) "__class__") Q E ⟨h, g, d, t, os⟩ :=
    fun q => (PySem.W.looks_findIn (M := model prog w) X z.cl).at q
  repeat (any_goals (first | assumption | (with_reducible refine wpAny_loadPart_at hx ?_; rw [hc]) | with_reducible refine LK ?_ | wp_step))
  refine exc_class_get X z hx hc ?_
  repeat (any_goals (first | assumption | wp_step))
theorem exc_check {M : Model} {nameV : Value} {Q : Unit → Shared → Prop} (X : K.In h) (z : ExcI K C) (hx : h.get? a = some o) (hc : o.cls = .ref C) (hq : Q () ⟨h, g, d, t, os⟩) :
    wpAny M A (checkBuiltinCall "BaseException.__getattribute__" ⟨[.ref a, nameV], []⟩) Q E ⟨h, g, d, t, os⟩ := by
  have hk : builtinKind "BaseException.__getattribute__" = some .slot := by decide +kernel
  have hsplit : splitId "BaseException.__getattribute__" = some ("BaseException", "__getattribute__") := by decide +kernel
  have ha := F.args_bexc_ga (.ref a) nameV
  have LS : ∀ {A : Around} {Q : Bool → Shared → Prop} {E : Value → Shared → Prop}, Q true ⟨h, g, d, t, os⟩ → wpAny M A (isSubtype (.ref C) (.type "BaseException")) Q E ⟨h, g, d, t, os⟩ :=
    fun q => (PySem.W.looks_mroIn (M := M) X z.mb).at q
  simp only [checkBuiltinCall, hk, hsplit]
  refine wpAny_bind ?_
  · unfold isInstance
    repeat (first | (with_reducible refine wpAny_loadPart_at hx ?_; rw [hc]) | with_reducible refine LS ?_ | wp_step)
    exact hq
theorem exc_class_by {tk : Tok} {Q : Value → Shared → Prop} (X : K.In h) (z : ExcI K C) (hx : h.get? a = some o) (hc : o.cls = .ref C) (hq : Q (.ref C) ⟨h, g, d, t, os⟩) :
    wpAny (model prog w) A (getAttrBy (.ref a) (.str "__class__" tk) false) Q E ⟨h, g, d, t, os⟩ := by
  have f3 := F.attr_ValueError.ga.bind (.ref a)
  have hx2 : (Value.builtin "BaseException.__getattribute__" == Value.builtin "object.__getattribute__") = false := by decide +kernel
  have hx1 : (onTheHeap (Value.ref C) && Value.builtin "BaseException.__getattribute__" == Value.builtin "object.__getattribute__") = false := by rw [hx2]; rfl
  have L1 : ∀ {A : Around} {Q : Option Value → Shared → Prop} {E : Value → Shared → Prop}, Q (some (.builtin "BaseException.__getattribute__")) ⟨h, g, d, t, os⟩ → wpAny (model prog w) A (typeLookup (.ref C) "__getattribute__") Q E ⟨h, g, d, t, os⟩ :=
    fun q => (PySem.W.looks_findIn (M := model prog w) X z.ga).at q
  have L2 : ∀ {A : Around} {Q : Option Value → Shared → Prop} {E : Value → Shared → Prop}, Q none ⟨h, g, d, t, os⟩ → wpAny (model prog w) A (typeLookup (.ref C) "__getattr__") Q E ⟨h, g, d, t, os⟩ :=
    fun q => (PySem.W.looks_findIn (M := model prog w) X z.gh).at q
  repeat (any_goals (first | assumption | (with_reducible refine wpAny_loadPart_at hx ?_; rw [hc]) | with_reducible refine L1 ?_ | with_reducible refine L2 ?_ | wp_step))
  refine codeAny_call_builtin F.attr_ValueError.ga.plain F.entry_bexc_ga (exc_check X z hx hc (exc_class_entry X z hx hc ?_))
  repeat (any_goals (first | assumption | wp_step))
theorem exc_class_attr {Q : Option Value → Shared → Prop} (X : K.In h) (z : ExcI K C) (hx : h.get? a = some o) (hc : o.cls = .ref C) (hq : Q (some (.ref C)) ⟨h, g, d, t + 1, os⟩) :
    wpAny (model prog w) A (getAttr? (.ref a) "__class__") Q E ⟨h, g, d, t, os⟩ := by
  unfold getAttr? getAttrBy?
  repeat (any_goals (first | assumption | with_reducible apply exc_class_by X z hx hc | wp_step))
theorem kitx_exc (z : ExcI K C) : PySem.W.KitX K (.ref a) (.ref C) (fun h => ∃ o, h.get? a = some o ∧ o.cls = .ref C) where
  ty := fun M h _ ⟨o, h1, h2⟩ => by
    rw [← h2]
    exact (PySem.W.Looks.ld h1).andThen .now
  it := fun _ _ X _ => by
    obtain ⟨cdD, hcD, _⟩ := PySem.W.any_some z.hd
    unfold PySem.W.clsIn at hcD
    split at hcD
    · rename_i c' d' cd' sl' ho
      intro A' Q' E' s' k q
      unfold isType loadHead
      exact wpAny_bind (wpAny_loadPart (k _ _ (X _ _ ho)) (wpAny_pure q))
    · cases hcD
  ne := fun h tp dd its n sl X htp => by
    obtain ⟨cdD, hcD, _⟩ := PySem.W.any_some z.hd
    refine Bool.eq_false_iff.mpr fun q => ?_
    have e : C = tp := Value.ref.inj (beq_iff_eq.mp q)
    subst e
    unfold PySem.W.clsIn at hcD
    split at hcD
    · rename_i c' d' cd' sl' ho
      have y := (X _ _ ho).symm.trans htp
      cases y
    · cases hcD
  ca := fun {prog w A E Q s} X ⟨o, h1, h2⟩ k => by
    obtain ⟨hh, g, d, t, os⟩ := s
    exact exc_class_attr X z h1 h2 k
end
noncomputable def clsV : V → Option Value
  | .ty n => some (.type n)
  | .ref a => some (.ref a)
  | _ => none
noncomputable def clsVs : List V → Option (List Value)
  | [] => some []
  | c :: r => match clsV c, clsVs r with
    | some v, some vs => some (v :: vs)
    | _, _ => none
theorem clsV_rel {c : V} {cv u : Value} (h : clsV c = some cv) (r : RelV c u) : u = cv := by
  cases c with
  | ty n => cases h; exact r
  | ref a => cases h; exact r
  | _ => cases h
theorem clsVs_rel : ∀ {cs : List V} {vs us : List Value}, clsVs cs = some vs → Vals cs us → us = vs
  | [], _, _, h, r => by cases h; cases r; rfl
  | c :: cs, vs, us, h, r => by
    unfold clsVs at h
    split at h
    · rename_i v ws h1 h2
      cases h
      cases r with
      | cons r1 r2 => rw [clsV_rel h1 r1, clsVs_rel h2 r2]
    · cases h
inductive TyE (K : PySem.W.Frag) (H : Hp) : V → Value → Prop where
  | of {x : V} {t : Value} (h : TyOf K H x t) : TyE K H x t
  | tup {a : Addr} {xs : List V} (h : SqT K H a xs) : TyE K H (.ref a) (.type "tuple")
  | lst {a : Addr} {xs : List V} (h : SqL K H a xs) : TyE K H (.ref a) (.type "list")
  | exc {a C : Addr} (h : H a = some (excO a (.ref C))) (z : ExcI K C) : TyE K H (.ref a) (.ref C)
section
variable {X : Cx} {pins : List (Addr × Obj)} {σ : St} {H : Hp} {s : Shared}
theorem TyE.kit {x : V} {u t : Value} (I : Inv X pins σ H s) (rx : RelV x u) (ty : TyE X.K H x t) : ∃ Hq : Heap → Prop, PySem.W.KitX X.K u t Hq ∧ Hq s.heap ∧ u ≠ .builtin "__main__.__loader__#opaque" := by
  cases ty with
  | tup h =>
    cases rx
    obtain ⟨its, _, ⟨o, h1, h2, _⟩, _⟩ := I.tuple h
    exact ⟨_, PySem.W.kitx_tuple, ⟨o, h1, h2⟩, fun z => nomatch z⟩
  | lst h =>
    cases rx
    obtain ⟨its, _, pl, _⟩ := I.list h
    obtain ⟨o, h1, h2, _⟩ := pl.isList
    exact ⟨_, PySem.W.kitx_list, ⟨o, h1, h2⟩, fun z => nomatch z⟩
  | @exc a C h z =>
    cases rx
    obtain ⟨⟨o, vs, h1, h2, _⟩, _⟩ := (show ObjOk X.prog X.w H s.heap a (excO a (.ref C)) from I.hok a _ h)
    exact ⟨_, kitx_exc z, ⟨o, h1, h2⟩, fun z => nomatch z⟩
  | of h =>
    cases h with
    | non => cases (show u = Value.none from rx); exact ⟨_, PySem.W.kitx_none, True.intro, fun z => nomatch z⟩
    | bl y => cases (show u = Value.bool y from rx); exact ⟨_, PySem.W.kitx_bool, True.intro, fun z => nomatch z⟩
    | int i => obtain ⟨t, q⟩ := (show ∃ t, u = Value.int i t from rx); cases q; exact ⟨_, PySem.W.kitx_int, True.intro, fun z => nomatch z⟩
    | str y => obtain ⟨t, q⟩ := (show ∃ t, u = Value.str y t from rx); cases q; exact ⟨_, PySem.W.kitx_str, True.intro, fun z => nomatch z⟩
    | flt y => obtain ⟨t, q⟩ := (show ∃ t, u = Value.float y t from rx); cases q; exact ⟨_, PySem.W.kitx_float, True.intro, fun z => nomatch z⟩
    | @lst a xs ea =>
      cases (show u = Value.ref a from rx)
      obtain ⟨_, _, n, _, h1⟩ := (show ObjOk X.prog X.w H s.heap a (.lst xs) from I.hok a _ ea)
      exact ⟨_, PySem.W.kitx_list, ⟨_, h1, rfl⟩, fun z => nomatch z⟩
    | @frz a ob xs ea =>
      cases (show u = Value.ref a from rx)
      obtain ⟨_, _, _, n, _, h1⟩ := (show ObjOk X.prog X.w H s.heap a (.frz ob (.lst xs)) from I.hok a _ ea)
      exact ⟨_, PySem.W.kitx_list, ⟨_, h1, rfl⟩, fun z => nomatch z⟩
    | @tup a xs ea =>
      cases (show u = Value.ref a from rx)
      obtain ⟨_, _, _, o, h1, h2, _⟩ := (show ObjOk X.prog X.w H s.heap a (.tup xs) from I.hok a _ ea)
      exact ⟨_, PySem.W.kitx_tuple, ⟨o, h1, h2⟩, fun z => nomatch z⟩
    | @dK a kvs ea =>
      cases (show u = Value.ref a from rx)
      obtain ⟨_, _, vs, _, o, es, ep, h1, h2, _⟩ := (show ObjOk X.prog X.w H s.heap a (.dK kvs) from I.hok a _ ea)
      exact ⟨_, PySem.W.kitx_dict, ⟨o, h1, h2.1⟩, fun z => nomatch z⟩
    | @dT a kvs ea =>
      cases (show u = Value.ref a from rx)
      obtain ⟨_, _, xs, _, o, es, ep, h1, h2, _⟩ := (show ObjOk X.prog X.w H s.heap a (.dT kvs) from I.hok a _ ea)
      exact ⟨_, PySem.W.kitx_dict, ⟨o, h1, h2.1⟩, fun z => nomatch z⟩
    | @ins a C dx fs ea cl ha hn htk hm =>
      cases (show u = Value.ref a from rx)
      obtain ⟨mA, O, _⟩ := ins_get I.hok ea
      obtain ⟨od, J, _⟩ := O.look
      exact ⟨_, PySem.W.kitx_own (cl.get _) cl.hd ha hn htk hm, J, fun z => nomatch z⟩
noncomputable def rIsI (K : PySem.W.Frag) : List V → Hp → VK → Prop := fun xs H Q => ∃ x c cv t b, xs = [x, c] ∧ clsV c = some cv ∧ TyE K H x t ∧ PySem.W.kitOne K t cv = some b ∧ Q (.bl b) H
noncomputable def rIsT (K : PySem.W.Frag) : List V → Hp → VK → Prop := fun xs H Q => ∃ x p cs vs t b, xs = [x, .ref p] ∧ SqT K H p cs ∧ clsVs cs = some vs ∧ TyE K H x t ∧ PySem.W.kitAny K t vs = some b ∧ Q (.bl b) H
theorem call_isinst : CallR X (.builtin "isinstance") (rIsI X.K) := by
  intro pins s σ H xs us Q I r h
  obtain ⟨x, c, cv, t, b, rfl, hc, ty, hk, q⟩ := h
  obtain ⟨u, c', rfl, rx, rc⟩ := vals2 r
  have ec := clsV_rel hc rc
  subst ec
  obtain ⟨Hq, Z, p, ne⟩ := ty.kit I rx
  exact PySem.W.kia_one Z I.kIn p hk ne fun tk => ⟨.bl b, H, I.tok tk, rfl, q⟩
theorem call_isinstT : CallR X (.builtin "isinstance") (rIsT X.K) := by
  intro pins s σ H xs us Q I r h
  obtain ⟨x, pa, cs, vs, t, b, rfl, hT, hc, ty, hk, q⟩ := h
  obtain ⟨u, c', rfl, rx, rc⟩ := vals2 r
  cases rc
  obtain ⟨its, rv, ⟨⟨cls, dd, data, sl⟩, ho, hcl, n, hd⟩, _⟩ := I.tuple hT
  dsimp only at hcl hd
  subst hcl hd
  have ei := clsVs_rel hc rv
  subst ei
  obtain ⟨Hq, Z, p, ne⟩ := ty.kit I rx
  exact PySem.W.kia_tup Z I.kIn p ho hk ne fun tk => ⟨.bl b, H, I.tok tk, rfl, q⟩
end
inductive D where
  | non | bl (b : Bool) | int (i : Int) | str (x : Str) | tup (ds : List D) | rol (ds : List D) | ref (n : Nat) | ty (t : String) | gl (x : Str)
inductive O where
  | lst (xs : List D) | dic (kvs : List (D × D)) | ins (C : Str) (fs : List (Str × D)) | exc (C : Str)
  | dit (kvs : List (D × D))
noncomputable abbrev Sto := List O
noncomputable abbrev Dv := List (Option D)
inductive R (α : Type) where
  | ok (a : α) (S : Sto) | exc (C : Str) (S : Sto) | fail
noncomputable def R.bind {α β : Type} (r : R α) (f : α → Sto → R β) : R β := match r with
  | .ok a S => f a S
  | .exc C S => .exc C S
  | .fail => .fail
inductive RS where
  | next (δ : Dv) (S : Sto) | ret (d : D) (S : Sto) | brk (δ : Dv) (S : Sto) | cnt (δ : Dv) (S : Sto) | exc (C : Str) (δ : Dv) (S : Sto) | fail
noncomputable def RS.bind (r : RS) (f : Dv → Sto → RS) : RS := match r with
  | .next δ S => f δ S
  | r => r
noncomputable def R.toS {α : Type} (r : R α) (δ : Dv) (f : α → Sto → RS) : RS := match r with
  | .ok a S => f a S
  | .exc C S => .exc C δ S
  | .fail => .fail
structure Mo where
  K : PySem.W.Frag
  mg : Str → Option Value
noncomputable abbrev Cx.mo (X : Cx) : Mo := ⟨X.K, X.mg⟩
noncomputable def FzL (K : PySem.W.Frag) (H : Hp) (a : Addr) (xs : List V) : Prop :=
  (∃ o, H a = some (.frz o (.lst xs))) ∨
    ∃ (o : Obj) (its : Array Value) (n : Nat), K.lookup a = some o ∧ o.cls = .type "list" ∧ o.dict = none ∧ o.data = .seq its n ∧ its.size ≤ sizeLine ∧ Vals xs its.toList
theorem FzL.sq {K : PySem.W.Frag} {H : Hp} {a : Addr} {xs : List V} (h : FzL K H a xs) : SqL K H a xs := by
  rcases h with h | h
  · exact .inl (.inr h)
  · exact .inr h
structure TSm (H H' : Hp) : Prop where
  tup : ∀ a xs, Rd H a (.tup xs) → Rd H' a (.tup xs)
  frz : ∀ a o xs, H a = some (.frz o (.lst xs)) → H' a = some (.frz o (.lst xs))
theorem TSm.refl (H : Hp) : TSm H H := ⟨fun _ _ h => h, fun _ _ _ h => h⟩
theorem TSm.trans {H H1 H2 : Hp} (a : TSm H H1) (b : TSm H1 H2) : TSm H H2 := ⟨fun c xs h => b.tup c xs (a.tup c xs h), fun c o xs h => b.frz c o xs (a.frz c o xs h)⟩
theorem TSm.of_keep {H H' : Hp} {p : Addr} (k : ∀ b u, b ≠ p → H b = some u → H' b = some u) (ht : ∀ xs, ¬ Rd H p (.tup xs)) (hf : ∀ o xs, H p ≠ some (.frz o (.lst xs))) : TSm H H' := by
  refine ⟨fun a xs h => ?_, fun a o xs h => ?_⟩
  · have n : a ≠ p := fun e => ht xs (e ▸ h)
    rcases h with h | ⟨o, h⟩
    · exact .inl (k _ _ n h)
    · exact .inr ⟨o, k _ _ n h⟩
  · exact k _ _ (fun e => hf o xs (e ▸ h)) h
theorem upd_keep {H : Hp} {p : Addr} {o : HO} : ∀ b u, b ≠ p → H b = some u → upd H p o b = some u := fun b u n h => by rw [upd_ne n]; exact h
theorem TSm.new {H : Hp} {p : Addr} {o : HO} (h : H p = none) : TSm H (upd H p o) := by
  refine TSm.of_keep upd_keep (fun xs r => ?_) (fun o xs r => ?_)
  · rcases r with r | ⟨_, r⟩ <;> rw [h] at r <;> cases r
  · rw [h] at r; cases r
theorem TSm.set {H : Hp} {p : Addr} {o : HO} (m : Mut (H p)) : TSm H (upd H p o) := by
  refine TSm.of_keep upd_keep (fun xs r => ?_) (fun o xs r => ?_)
  · rcases r with r | ⟨_, r⟩ <;> rw [r] at m <;> exact m
  · rw [r] at m; exact m
theorem TSm.sqT {K : PySem.W.Frag} {H H' : Hp} (e : TSm H H') {a : Addr} {xs : List V} (h : SqT K H a xs) : SqT K H' a xs := by
  rcases h with h | h
  · exact .inl (e.tup a xs h)
  · exact .inr h
theorem TSm.fzL {K : PySem.W.Frag} {H H' : Hp} (e : TSm H H') {a : Addr} {xs : List V} (h : FzL K H a xs) : FzL K H' a xs := by
  rcases h with ⟨o, h⟩ | h
  · exact .inl ⟨o, e.frz a o xs h⟩
  · exact .inr h
mutual
inductive RD (M : Mo) (ι : List Addr) (H : Hp) : V → D → Prop
  | non : RD M ι H .non .non
  | bl (b : Bool) : RD M ι H (.bl b) (.bl b)
  | int (i : Int) : RD M ι H (.int i) (.int i)
  | str (x : Str) : RD M ι H (.str x) (.str x)
  | ty (t : String) : RD M ι H (.ty t) (.ty t)
  | tup {a : Addr} {xs : List V} {ds : List D} : SqT M.K H a xs → RDs M ι H xs ds → RD M ι H (.ref a) (.tup ds)
  | rol {a : Addr} {xs : List V} {ds : List D} : FzL M.K H a xs → RDs M ι H xs ds → RD M ι H (.ref a) (.rol ds)
  | ref {a : Addr} {n : Nat} : ι[n]? = some a → RD M ι H (.ref a) (.ref n)
  | gl {a : Addr} {x : Str} : M.mg x = some (.ref a) → RD M ι H (.ref a) (.gl x)
inductive RDs (M : Mo) (ι : List Addr) (H : Hp) : List V → List D → Prop
  | nil : RDs M ι H [] []
  | cons {v : V} {vs : List V} {d : D} {ds : List D} : RD M ι H v d → RDs M ι H vs ds → RDs M ι H (v :: vs) (d :: ds)
end
section
variable {M : Mo} {ι ι' : List Addr} {H H' : Hp}
mutual
theorem RD.mono (p : ∀ (n : Nat) a, ι[n]? = some a → ι'[n]? = some a) (e : TSm H H') : ∀ {v : V} {d : D}, RD M ι H v d → RD M ι' H' v d
  | _, _, .non => .non
  | _, _, .bl b => .bl b
  | _, _, .int i => .int i
  | _, _, .str x => .str x
  | _, _, .ty t => .ty t
  | _, _, .tup h t => .tup (e.sqT h) (RDs.mono p e t)
  | _, _, .rol h t => .rol (e.fzL h) (RDs.mono p e t)
  | _, _, .ref h => .ref (p _ _ h)
  | _, _, .gl h => .gl h
theorem RDs.mono (p : ∀ (n : Nat) a, ι[n]? = some a → ι'[n]? = some a) (e : TSm H H') : ∀ {vs : List V} {ds : List D}, RDs M ι H vs ds → RDs M ι' H' vs ds
  | _, _, .nil => .nil
  | _, _, .cons h t => .cons (RD.mono p e h) (RDs.mono p e t)
end
theorem RDs.length : ∀ {vs : List V} {ds : List D}, RDs M ι H vs ds → vs.length = ds.length
  | _, _, .nil => rfl
  | _, _, .cons _ t => congrArg Nat.succ t.length
theorem RDs.get : ∀ {vs : List V} {ds : List D} {i : Nat} {d : D}, RDs M ι H vs ds → ds[i]? = some d → ∃ v, vs[i]? = some v ∧ RD M ι H v d
  | _, _, _, _, .nil, e => by simp at e
  | _, _, 0, _, .cons h _, e => by simp at e; subst e; exact ⟨_, rfl, h⟩
  | _, _, i + 1, d, .cons _ t, e => by
    obtain ⟨v, h1, h2⟩ := RDs.get (i := i) (d := d) t (by simpa using e)
    exact ⟨v, by simpa using h1, h2⟩
theorem RDs.append : ∀ {vs : List V} {ds : List D} {us : List V} {es : List D}, RDs M ι H vs ds → RDs M ι H us es → RDs M ι H (vs ++ us) (ds ++ es)
  | _, _, _, _, .nil, s => s
  | _, _, _, _, .cons h t, s => .cons h (RDs.append t s)
theorem RDs.take : ∀ {vs : List V} {ds : List D} (n : Nat), RDs M ι H vs ds → RDs M ι H (vs.take n) (ds.take n)
  | _, _, 0, _ => .nil
  | _, _, _ + 1, .nil => .nil
  | _, _, n + 1, .cons h t => .cons h (RDs.take n t)
theorem RDs.drop : ∀ {vs : List V} {ds : List D} (n : Nat), RDs M ι H vs ds → RDs M ι H (vs.drop n) (ds.drop n)
  | _, _, 0, h => h
  | _, _, _ + 1, .nil => .nil
  | _, _, n + 1, .cons _ t => RDs.drop n t
theorem RDs.set {v : V} {d : D} (h : RD M ι H v d) : ∀ {vs : List V} {ds : List D} (i : Nat), RDs M ι H vs ds → RDs M ι H (vs.set i v) (ds.set i d)
  | _, _, _, .nil => .nil
  | _, _, 0, .cons _ t => .cons h t
  | _, _, i + 1, .cons q t => .cons q (RDs.set h i t)
theorem RDs.atI {vs : List V} {ds : List D} {i : Int} {d : D} (r : RDs M ι H vs ds) (h : L2.atI ds i = some d) : ∃ v, L2.atI vs i = some v ∧ RD M ι H v d := by
  unfold L2.atI at h ⊢
  rw [r.length]
  cases e : ixN ds.length i with
  | none => rw [e] at h; cases h
  | some j =>
    rw [e] at h
    exact r.get h
theorem RDs.ints (ns : List Int) : RDs M ι H (ns.map V.int) (ns.map D.int) := by
  induction ns with
  | nil => exact .nil
  | cons n ns ih => exact .cons (.int n) ih
end
inductive RFs (M : Mo) (ι : List Addr) (H : Hp) : List (Str × V) → List (Str × D) → Prop
  | nil : RFs M ι H [] []
  | cons {f : Str} {v : V} {d : D} {vs : List (Str × V)} {ds : List (Str × D)} : RD M ι H v d → RFs M ι H vs ds → RFs M ι H ((f, v) :: vs) ((f, d) :: ds)
noncomputable def keyD : Key → D
  | .inl i => .int i
  | .inr x => .str x
inductive RKs (M : Mo) (ι : List Addr) (H : Hp) : List (Key × V) → List (D × D) → Prop
  | nil : RKs M ι H [] []
  | cons {k : Key} {v : V} {d : D} {vs : List (Key × V)} {ds : List (D × D)} : RD M ι H v d → RKs M ι H vs ds → RKs M ι H ((k, v) :: vs) ((keyD k, d) :: ds)
theorem RFs.mono {M : Mo} {ι ι' : List Addr} {H H' : Hp} (p : ∀ (n : Nat) a, ι[n]? = some a → ι'[n]? = some a) (e : TSm H H') : ∀ {vs : List (Str × V)} {ds : List (Str × D)}, RFs M ι H vs ds → RFs M ι' H' vs ds
  | _, _, .nil => .nil
  | _, _, .cons h t => .cons (h.mono p e) (RFs.mono p e t)
theorem RKs.mono {M : Mo} {ι ι' : List Addr} {H H' : Hp} (p : ∀ (n : Nat) a, ι[n]? = some a → ι'[n]? = some a) (e : TSm H H') : ∀ {vs : List (Key × V)} {ds : List (D × D)}, RKs M ι H vs ds → RKs M ι' H' vs ds
  | _, _, .nil => .nil
  | _, _, .cons h t => .cons (h.mono p e) (RKs.mono p e t)
inductive RTs (M : Mo) (ι : List Addr) (H : Hp) : List (List Key × V) → List (D × D) → Prop
  | nil : RTs M ι H [] []
  | cons {k : List Key} {v : V} {d : D} {vs : List (List Key × V)} {ds : List (D × D)} : RD M ι H v d → RTs M ι H vs ds → RTs M ι H ((k, v) :: vs) ((.tup (k.map keyD), d) :: ds)
theorem RTs.mono {M : Mo} {ι ι' : List Addr} {H H' : Hp} (p : ∀ (n : Nat) a, ι[n]? = some a → ι'[n]? = some a) (e : TSm H H') : ∀ {vs : List (List Key × V)} {ds : List (D × D)}, RTs M ι H vs ds → RTs M ι' H' vs ds
  | _, _, .nil => .nil
  | _, _, .cons h t => .cons (h.mono p e) (RTs.mono p e t)
noncomputable def RO (M : Mo) (ι : List Addr) (H : Hp) (a : Addr) : O → Prop
  | .lst xs => ∃ vs, H a = some (.lst vs) ∧ RDs M ι H vs xs
  | .dic kvs => ∃ ks, H a = some (.dK ks) ∧ RKs M ι H ks kvs
  | .ins C fs => ∃ Ca dx vs, M.mg C = some (.ref Ca) ∧ H a = some (.ins Ca dx vs) ∧ RFs M ι H vs fs
  | .exc C => ∃ Ca, M.mg C = some (.ref Ca) ∧ H a = some (excO a (.ref Ca))
  | .dit kvs => ∃ ks, H a = some (.dT ks) ∧ RTs M ι H ks kvs
structure RelS (M : Mo) (ι : List Addr) (H : Hp) (S : Sto) : Prop where
  len : ι.length = S.length
  nd : ι.Nodup
  obj : ∀ (n : Nat) a o, ι[n]? = some a → S[n]? = some o → RO M ι H a o
structure RelE (M : Mo) (ι : List Addr) (H : Hp) (n : Nat) (σ : St) (δ : Dv) : Prop where
  len : σ.length = n
  dl : δ.length ≤ n
  get : ∀ (i : Nat) d, δ[i]? = some (some d) → ∃ v, σ[i]? = some (some v) ∧ RD M ι H v d
structure Ext (ι : List Addr) (H : Hp) (ι' : List Addr) (H' : Hp) : Prop where
  pre : ∀ (n : Nat) a, ι[n]? = some a → ι'[n]? = some a
  ts : TSm H H'
  fz : ∀ a o u, H a = some (.frz o u) → H' a = some (.frz o u)
theorem Ext.refl (ι : List Addr) (H : Hp) : Ext ι H ι H := ⟨fun _ _ h => h, .refl H, fun _ _ _ h => h⟩
theorem Ext.trans {ι ι1 ι2 : List Addr} {H H1 H2 : Hp} (a : Ext ι H ι1 H1) (b : Ext ι1 H1 ι2 H2) : Ext ι H ι2 H2 := ⟨fun n c h => b.pre n c (a.pre n c h), a.ts.trans b.ts, fun c o u h => b.fz c o u (a.fz c o u h)⟩
section
variable {M : Mo} {ι ι' : List Addr} {H H' : Hp} {S : Sto}
theorem RD.ext {v : V} {d : D} (h : RD M ι H v d) (e : Ext ι H ι' H') : RD M ι' H' v d := h.mono e.pre e.ts
theorem RDs.ext {v : List V} {d : List D} (h : RDs M ι H v d) (e : Ext ι H ι' H') : RDs M ι' H' v d := h.mono e.pre e.ts
theorem RelE.ext {n : Nat} {σ : St} {δ : Dv} (h : RelE M ι H n σ δ) (e : Ext ι H ι' H') : RelE M ι' H' n σ δ :=
  ⟨h.len, h.dl, fun i d q => let ⟨v, h1, h2⟩ := h.get i d q; ⟨v, h1, h2.ext e⟩⟩
theorem RelE.set {n i : Nat} {σ : St} {δ : Dv} {v : V} {d : D} (h : RelE M ι H n σ δ) (hi : i < n) (r : RD M ι H v d) : RelE M ι H n (σ.set i (some v)) (δ.set i (some d)) := by
  refine ⟨by rw [List.length_set]; exact h.len, by rw [List.length_set]; exact h.dl, fun j e q => ?_⟩
  by_cases hj : j = i
  · subst hj
    by_cases hl : j < δ.length
    · rw [List.getElem?_set_self hl] at q
      cases q
      exact ⟨v, List.getElem?_set_self (by rw [h.len]; exact hi), r⟩
    · rw [List.getElem?_eq_none (by rw [List.length_set]; omega)] at q
      cases q
  · rw [List.getElem?_set_ne (Ne.symm hj)] at q
    obtain ⟨u, h1, h2⟩ := h.get j e q
    exact ⟨u, by rw [List.getElem?_set_ne (Ne.symm hj)]; exact h1, h2⟩
theorem RO.ne_none {a : Addr} {o : O} (h : RO M ι H a o) : H a ≠ none := by
  cases o with
  | lst xs => obtain ⟨vs, h, _⟩ := h; rw [h]; simp
  | dic kvs => obtain ⟨_, h, _⟩ := h; rw [h]; simp
  | ins C fs => obtain ⟨_, _, _, _, h, _⟩ := h; rw [h]; simp
  | exc C => obtain ⟨Ca, _, h⟩ := h; rw [h]; simp
  | dit kvs => obtain ⟨_, h, _⟩ := h; rw [h]; simp
theorem RO.keep {a : Addr} {o : O} (h : RO M ι H a o) (pre : ∀ (n : Nat) a, ι[n]? = some a → ι'[n]? = some a) (ts : TSm H H') (k : ∀ b u, H b = some u → (b = a ∨ ∃ x, u = .own x) → H' b = some u) : RO M ι' H' a o := by
  cases o with
  | lst xs => obtain ⟨vs, h, r⟩ := h; exact ⟨vs, k a _ h (.inl rfl), r.mono pre ts⟩
  | dic kvs => obtain ⟨ks, h, r⟩ := h; exact ⟨ks, k a _ h (.inl rfl), r.mono pre ts⟩
  | ins C fs => obtain ⟨Ca, dx, vs, m, h, r⟩ := h; exact ⟨Ca, dx, vs, m, k a _ h (.inl rfl), r.mono pre ts⟩
  | exc C => obtain ⟨Ca, h1, h⟩ := h; exact ⟨Ca, h1, k a _ h (.inl rfl)⟩
  | dit kvs => obtain ⟨ks, h, r⟩ := h; exact ⟨ks, k a _ h (.inl rfl), r.mono pre ts⟩
theorem RelS.at (h : RelS M ι H S) {n : Nat} {o : O} (e : S[n]? = some o) : ∃ a, ι[n]? = some a ∧ RO M ι H a o := by
  have hn : n < ι.length := by rw [h.len]; exact (List.getElem?_eq_some_iff.mp e).1
  exact ⟨ι[n], List.getElem?_eq_getElem hn, h.obj n _ o (List.getElem?_eq_getElem hn) e⟩
theorem RelS.there (h : RelS M ι H S) {n : Nat} {a : Addr} (e : ι[n]? = some a) : ∃ o, S[n]? = some o ∧ RO M ι H a o := by
  have hn : n < S.length := by rw [← h.len]; exact (List.getElem?_eq_some_iff.mp e).1
  exact ⟨S[n], List.getElem?_eq_getElem hn, h.obj n a _ e (List.getElem?_eq_getElem hn)⟩
theorem RelS.fresh (h : RelS M ι H S) {p : Addr} (hp : H p = none) : p ∉ ι := fun z => by
  obtain ⟨n, hn, e⟩ := List.getElem_of_mem z
  obtain ⟨o, _, r⟩ := h.there (n := n) (a := p) (by rw [List.getElem?_eq_getElem hn, e])
  exact r.ne_none hp
theorem RelS.laid (h : RelS M ι H S) {p : Addr} {u : HO} (hp : H p = none) : RelS M ι (upd H p u) S :=
  ⟨h.len, h.nd, fun n a o h1 h2 => (h.obj n a o h1 h2).keep (fun _ _ q => q) (.new hp) fun b w q _ => by rw [upd_ne (ne_of_none q hp)]; exact q⟩
theorem Ext.laid {p : Addr} {u : HO} (hp : H p = none) : Ext ι H ι (upd H p u) := ⟨fun _ _ q => q, .new hp, fun _ _ _ q => by rw [upd_ne (ne_of_none q hp)]; exact q⟩
theorem Ext.made {p : Addr} {u : HO} (hp : H p = none) : Ext ι H (ι ++ [p]) (upd H p u) :=
  ⟨fun n a q => by rw [List.getElem?_append_left (List.getElem?_eq_some_iff.mp q).1]; exact q, .new hp, fun _ _ _ q => by rw [upd_ne (ne_of_none q hp)]; exact q⟩
theorem RelS.made (h : RelS M ι H S) {p : Addr} {u : HO} {o : O} (hp : H p = none) (r : RO M (ι ++ [p]) (upd H p u) p o) : RelS M (ι ++ [p]) (upd H p u) (S ++ [o]) := by
  refine ⟨by simp [h.len], ?_, fun n a o' h1 h2 => ?_⟩
  · refine List.nodup_append.mpr ⟨h.nd, by simp, fun a ha b hb => ?_⟩
    rw [List.mem_singleton] at hb
    subst hb
    exact fun e => h.fresh hp (e ▸ ha)
  · by_cases hn : n < ι.length
    · rw [List.getElem?_append_left hn] at h1
      rw [List.getElem?_append_left (by rw [← h.len]; exact hn)] at h2
      exact (h.obj n a o' h1 h2).keep (Ext.made (ι := ι) (u := u) hp).pre (.new hp) fun b w q _ => by rw [upd_ne (ne_of_none q hp)]; exact q
    · rw [List.getElem?_append_right (by omega)] at h1
      rw [List.getElem?_append_right (by rw [← h.len]; omega)] at h2
      have e1 : n - ι.length = 0 := by
        rcases Nat.eq_zero_or_pos (n - ι.length) with z | z
        · exact z
        · rw [List.getElem?_eq_none (by simp; omega)] at h1; cases h1
      rw [e1] at h1
      rw [← h.len, e1] at h2
      simp at h1 h2
      subst h1 h2
      exact r
theorem getElem?_snoc {α : Type} (l : List α) (a : α) : (l ++ [a])[l.length]? = some a := by simp
theorem nodup_at {α : Type} {N : List α} (hN : N.Nodup) {i j : Nat} {x : α} (a : N[i]? = some x) (b : N[j]? = some x) : i = j := by
  have hi := (List.getElem?_eq_some_iff.mp a).1
  exact (List.getElem?_inj hi hN).mp (a.trans b.symm)
theorem RelS.set (h : RelS M ι H S) {n : Nat} {p : Addr} {u : HO} {o : O} (hn : ι[n]? = some p) (mu : Mut (H p)) (r : RO M ι (upd H p u) p o) : RelS M ι (upd H p u) (S.set n o) := by
  refine ⟨by rw [List.length_set]; exact h.len, h.nd, fun m a o' h1 h2 => ?_⟩
  by_cases hm : m = n
  · subst hm
    rw [hn] at h1; cases h1
    have hl : m < S.length := by rw [← h.len]; exact (List.getElem?_eq_some_iff.mp hn).1
    rw [List.getElem?_set_self hl] at h2
    cases h2
    exact r
  · rw [List.getElem?_set_ne (Ne.symm hm)] at h2
    have hne : a ≠ p := fun e => by
      subst e
      exact hm (nodup_at h.nd h1 hn)
    refine (h.obj m a o' h1 h2).keep (fun _ _ q => q) (.set mu) fun b w q hb => ?_
    have nb : b ≠ p := by
      rintro rfl
      rcases hb with z | ⟨x, z⟩
      · exact hne z.symm
      · subst z
        rw [q] at mu
        exact mu
    rw [upd_ne nb]; exact q
theorem Ext.set {p : Addr} {u : HO} (mu : Mut (H p)) : Ext ι H ι (upd H p u) := ⟨fun _ _ q => q, .set mu, fun b _ _ q => by rw [upd_ne (by rintro rfl; rw [q] at mu; exact mu)]; exact q⟩
end
noncomputable def Post {α : Type} (M : Mo) (ι : List Addr) (H : Hp) (r : R α) (Q : List Addr → Hp → Sto → α → Prop) (E : Value → Hp → Prop) : Prop := match r with
  | .ok a S => ∀ ι' H', Ext ι H ι' H' → RelS M ι' H' S → Q ι' H' S a
  | .exc C S => ∀ ι' H' Ca, Ext ι H ι' H' → RelS M ι' H' S → M.mg C = some (.ref Ca) → E (.ref Ca) H'
  | .fail => False
section
variable {M : Mo} {ι ι1 : List Addr} {H H1 : Hp} {α β : Type} {Q Q' : List Addr → Hp → Sto → α → Prop} {E E' : Value → Hp → Prop}
theorem Post.ext {r : R α} (h : Post M ι H r Q E) (e : Ext ι H ι1 H1) : Post M ι1 H1 r Q E := by
  cases r with
  | ok a S => exact fun ι' H' x r => h ι' H' (e.trans x) r
  | exc C S => exact fun ι' H' Ca x r => h ι' H' Ca (e.trans x) r
  | fail => exact h
theorem Post.mono {r : R α} (h : Post M ι H r Q E) (hq : ∀ ι' H' S a, Ext ι H ι' H' → RelS M ι' H' S → Q ι' H' S a → Q' ι' H' S a) (he : ∀ C H', E C H' → E' C H') : Post M ι H r Q' E' := by
  cases r with
  | ok a S => exact fun ι' H' x r => hq ι' H' S a x r (h ι' H' x r)
  | exc C S => exact fun ι' H' Ca x r m => he _ _ (h ι' H' Ca x r m)
  | fail => exact h
theorem Post.bind {r : R α} {f : α → Sto → R β} {Q : List Addr → Hp → Sto → β → Prop} (h : Post M ι H (r.bind f) Q E) : Post M ι H r (fun ι1 H1 S1 a => Post M ι1 H1 (f a S1) Q E) E := by
  cases r with
  | ok a S => exact fun ι1 H1 x r => Post.ext (r := f a S) h x
  | exc C S => exact h
  | fail => exact h
end
noncomputable def PostS (M : Mo) (n : Nat) (ι : List Addr) (H : Hp) (r : RS) (Dn : Ends) (E : St → XK) : Prop := match r with
  | .next δ S => ∀ ι' H' σ', Ext ι H ι' H' → RelS M ι' H' S → RelE M ι' H' n σ' δ → Dn.nx σ' H'
  | .ret d S => ∀ ι' H' v, Ext ι H ι' H' → RelS M ι' H' S → RD M ι' H' v d → Dn.rt v H'
  | .brk δ S => ∀ ι' H' σ', Ext ι H ι' H' → RelS M ι' H' S → RelE M ι' H' n σ' δ → Dn.bk σ' H'
  | .cnt δ S => ∀ ι' H' σ', Ext ι H ι' H' → RelS M ι' H' S → RelE M ι' H' n σ' δ → Dn.ct σ' H'
  | .exc C δ S => ∀ ι' H' σ' Ca, Ext ι H ι' H' → RelS M ι' H' S → RelE M ι' H' n σ' δ → M.mg C = some (.ref Ca) → E σ' (.ref Ca) none H'
  | .fail => False
theorem PostS.ext {M : Mo} {n : Nat} {ι ι1 : List Addr} {H H1 : Hp} {r : RS} {Dn : Ends} {E : St → XK} (h : PostS M n ι H r Dn E) (e : Ext ι H ι1 H1) : PostS M n ι1 H1 r Dn E := by
  cases r with
  | next δ S => exact fun ι' H' σ' x => h ι' H' σ' (e.trans x)
  | ret d S => exact fun ι' H' v x => h ι' H' v (e.trans x)
  | brk δ S => exact fun ι' H' σ' x => h ι' H' σ' (e.trans x)
  | cnt δ S => exact fun ι' H' σ' x => h ι' H' σ' (e.trans x)
  | exc C δ S => exact fun ι' H' σ' Ca x => h ι' H' σ' Ca (e.trans x)
  | fail => exact h
theorem PostS.toS {M : Mo} {n : Nat} {ι : List Addr} {H : Hp} {α : Type} {r : R α} {δ : Dv} {σ : St} {f : α → Sto → RS} {Dn : Ends} {E : St → XK} (h : PostS M n ι H (r.toS δ f) Dn E) (re : RelE M ι H n σ δ) :
    Post M ι H r (fun ι1 H1 S1 a => PostS M n ι1 H1 (f a S1) Dn E) (fun C H' => E σ C none H') := by
  cases r with
  | ok a S => exact fun ι1 H1 x r => PostS.ext (r := f a S) h x
  | exc C S => exact fun ι1 H1 Ca x r m => h ι1 H1 σ Ca x r (re.ext x) m
  | fail => exact h
noncomputable def tOf (M : Mo) (n : Nat) (E : St → XK) (f : Dv → Sto → R D) : TE := fun σ H Q => ∃ ι δ S, RelS M ι H S ∧ RelE M ι H n σ δ ∧ Post M ι H (f δ S) (fun ι' H' _ d => ∀ v, RD M ι' H' v d → Q v H') (fun C H' => E σ C none H')
noncomputable def bOf (M : Mo) (n : Nat) (E : St → XK) (f : Dv → Sto → R Bool) : TT := fun σ H Q => ∃ ι δ S, RelS M ι H S ∧ RelE M ι H n σ δ ∧ Post M ι H (f δ S) (fun _ H' _ b => Q b H') (fun C H' => E σ C none H')
noncomputable def aOf (M : Mo) (n : Nat) (E : St → XK) (f : Dv → Sto → R (List D)) : TA := fun σ H Q => ∃ ι δ S, RelS M ι H S ∧ RelE M ι H n σ δ ∧ Post M ι H (f δ S) (fun ι' H' _ ds => ∀ vs, RDs M ι' H' vs ds → Q vs H') (fun C H' => E σ C none H')
noncomputable def sOf (M : Mo) (n : Nat) (E : St → XK) (f : Dv → Sto → RS) : TS := fun Dn σ H => ∃ ι δ S, RelS M ι H S ∧ RelE M ι H n σ δ ∧ PostS M n ι H (f δ S) Dn E
noncomputable abbrev DE (X : Cx) (E : St → XK) (e : Expr) (f : Dv → Sto → R D) : Prop := PE X e (tOf X.mo X.N.length E f)
noncomputable abbrev DT (X : Cx) (E : St → XK) (e : Expr) (f : Dv → Sto → R Bool) : Prop := PT X e (bOf X.mo X.N.length E f)
noncomputable abbrev DW (X : Cx) (E : St → XK) (e : Expr) (f : Dv → Sto → R Bool) : Prop := PW X e (bOf X.mo X.N.length E f)
noncomputable abbrev DA (X : Cx) (E : St → XK) (es : List Expr) (f : Dv → Sto → R (List D)) : Prop := PA X es (aOf X.mo X.N.length E f)
noncomputable abbrev DS (X : Cx) (E : St → XK) (st : Stmt) (f : Dv → Sto → RS) : Prop := PS X st (sOf X.mo X.N.length E f)
noncomputable abbrev DSs (X : Cx) (E : St → XK) (st : List Stmt) (f : Dv → Sto → RS) : Prop := PSs X st (sOf X.mo X.N.length E f)
theorem PE.weak {X : Cx} {e : Expr} {t t' : TE} (h : PE X e t) (w : ∀ σ H Q, t' σ H Q → t σ H Q) : PE X e t' := fun pins s σ H Q I q => h pins s σ H Q I (w σ H Q q)
theorem PT.weak {X : Cx} {e : Expr} {t t' : TT} (h : PT X e t) (w : ∀ σ H Q, t' σ H Q → t σ H Q) : PT X e t' := fun pins s σ H Q I q => h pins s σ H Q I (w σ H Q q)
theorem PW.weak {X : Cx} {e : Expr} {t t' : TT} (h : PW X e t) (w : ∀ σ H Q, t' σ H Q → t σ H Q) : PW X e t' := fun wh pins s σ H Q I q => h wh pins s σ H Q I (w σ H Q q)
theorem PA.weak {X : Cx} {e : List Expr} {t t' : TA} (h : PA X e t) (w : ∀ σ H Q, t' σ H Q → t σ H Q) : PA X e t' := fun pos pins s σ H Q I q => h pos pins s σ H Q I (w σ H Q q)
theorem PS.weak {X : Cx} {e : Stmt} {t t' : TS} (h : PS X e t) (w : ∀ D σ H, t' D σ H → t D σ H) : PS X e t' := fun pins s σ H D I q => h pins s σ H D I (w D σ H q)
theorem PSs.weak {X : Cx} {e : List Stmt} {t t' : TS} (h : PSs X e t) (w : ∀ D σ H, t' D σ H → t D σ H) : PSs X e t' := fun pins s σ H D I q => h pins s σ H D I (w D σ H q)
theorem tOf.step {M : Mo} {n : Nat} {E : St → XK} {f : Dv → Sto → R D} {σ : St} {H : Hp} {ι : List Addr} {δ : Dv} {S : Sto} {Q : VK} {P : List Addr → Hp → Sto → D → Prop} (rs : RelS M ι H S) (re : RelE M ι H n σ δ)
    (h : Post M ι H (f δ S) P (fun C H' => E σ C none H')) (k : ∀ ι' H' S' d v, Ext ι H ι' H' → RelS M ι' H' S' → RelE M ι' H' n σ δ → P ι' H' S' d → RD M ι' H' v d → Q v H') : tOf M n E f σ H Q :=
  ⟨ι, δ, S, rs, re, h.mono (fun ι' H' S' d x r p v rv => k ι' H' S' d v x r (re.ext x) p rv) fun _ _ q => q⟩
theorem bOf.step {M : Mo} {n : Nat} {E : St → XK} {f : Dv → Sto → R Bool} {σ : St} {H : Hp} {ι : List Addr} {δ : Dv} {S : Sto} {Q : Bool → Hp → Prop} {P : List Addr → Hp → Sto → Bool → Prop} (rs : RelS M ι H S) (re : RelE M ι H n σ δ)
    (h : Post M ι H (f δ S) P (fun C H' => E σ C none H')) (k : ∀ ι' H' S' b, Ext ι H ι' H' → RelS M ι' H' S' → RelE M ι' H' n σ δ → P ι' H' S' b → Q b H') : bOf M n E f σ H Q :=
  ⟨ι, δ, S, rs, re, h.mono (fun ι' H' S' b x r p => k ι' H' S' b x r (re.ext x) p) fun _ _ q => q⟩
theorem aOf.step {M : Mo} {n : Nat} {E : St → XK} {f : Dv → Sto → R (List D)} {σ : St} {H : Hp} {ι : List Addr} {δ : Dv} {S : Sto} {Q : List V → Hp → Prop} {P : List Addr → Hp → Sto → List D → Prop} (rs : RelS M ι H S) (re : RelE M ι H n σ δ)
    (h : Post M ι H (f δ S) P (fun C H' => E σ C none H')) (k : ∀ ι' H' S' ds vs, Ext ι H ι' H' → RelS M ι' H' S' → RelE M ι' H' n σ δ → P ι' H' S' ds → RDs M ι' H' vs ds → Q vs H') : aOf M n E f σ H Q :=
  ⟨ι, δ, S, rs, re, h.mono (fun ι' H' S' d x r p v rv => k ι' H' S' d v x r (re.ext x) p rv) fun _ _ q => q⟩
noncomputable abbrev Fd := Dv → Sto → R D
noncomputable abbrev Fb := Dv → Sto → R Bool
noncomputable abbrev Fa := Dv → Sto → R (List D)
noncomputable def getV (i : Nat) : Fd := fun δ S => match δ[i]? with
  | some (some d) => .ok d S
  | _ => .fail
noncomputable def okD (d : D) : Fd := fun _ S => .ok d S
noncomputable def isBl (f : D → Sto → Bool → R α) (d : D) (S : Sto) : R α := match d with
  | .bl b => f d S b
  | _ => .fail
section
variable {X : Cx} {E : St → XK} {a b c : Expr} {fa fb fc : Fd} {pos : Pos}
theorem de_const {e : Expr} {v : V} {d : D} (h : PE X e (tC v)) (r : ∀ ι H, RD X.mo ι H v d) : DE X E e (okD d) :=
  h.weak fun _ H _ ⟨ι, _, _, rs, _, p⟩ => p ι H (.refl ι H) rs v (r ι H)
theorem de_int {i j pos} : DE X E (.Constant (.int i) j pos) (okD (.int i)) := de_const pe_int fun _ _ => .int i
theorem de_bl {i j pos} : DE X E (.Constant (.bool i) j pos) (okD (.bl i)) := de_const pe_bl fun _ _ => .bl i
theorem de_non {j pos} : DE X E (.Constant .none j pos) (okD .non) := de_const pe_non fun _ _ => .non
theorem de_str {i j pos} : DE X E (.Constant (.str i) j pos) (okD (.str i)) := de_const pe_str fun _ _ => .str i
theorem de_var {i : Nat} {x : Str} (hN : X.N[i]? = some x) (hv : Vis X.env.scope x) (hd : (x == ("__debug__" : Str)) = false) (hcd : (x == ("__classdict__" : Str)) = false) : DE X E (.Name x pos) (getV i) :=
  (pe_var hN hv hd hcd).weak fun σ H Q ⟨ι, δ, S, rs, re, p⟩ => by
    unfold getV at p
    cases e : δ[i]? with
    | none => rw [e] at p; exact p.elim
    | some o =>
      cases o with
      | none => rw [e] at p; exact p.elim
      | some d =>
        rw [e] at p
        obtain ⟨v, h1, h2⟩ := re.get i d e
        exact ⟨v, h1, p ι H (.refl ι H) rs v h2⟩
theorem de_glob {x : Str} {v : V} {u : Value} {d : D} (hg : Gl X x) (hm : X.mg x = some u) (r : RelV v u) (rd : ∀ ι H, RD X.mo ι H v d) (hd : (x == ("__debug__" : Str)) = false) : DE X E (.Name x pos) (okD d) :=
  de_const (pe_glob hg hm r hd) rd
theorem de_cls {x : Str} {C : Addr} (hg : Gl X x) (hm : X.mg x = some (.ref C)) (hd : (x == ("__debug__" : Str)) = false) : DE X E (.Name x pos) (okD (.gl x)) :=
  de_const (pe_cls hg hm hd) fun _ _ => .gl hm
theorem de_ty {x : Str} {n : String} (hg : Gl X x) (hm : X.mg x = none) (hv : bootBuiltins x = some (.type n)) (hn : x ≠ "__name__") (hd : (x == ("__debug__" : Str)) = false) : DE X E (.Name x pos) (okD (.ty n)) :=
  de_const (pe_ty hg hm hv hn hd) fun _ _ => .ty n
noncomputable def Prim2 (X : Cx) (r : R2) (g : D → D → Sto → R D) : Prop :=
  ∀ (ι : List Addr) (H : Hp) (S : Sto) (x y : V) (d e : D) (Q : VK) (E : Value → Hp → Prop), RelS X.mo ι H S → RD X.mo ι H x d → RD X.mo ι H y e → Post X.mo ι H (g d e S) (fun ι' H' _ d => ∀ v, RD X.mo ι' H' v d → Q v H') E → r x y H Q
noncomputable def Prim1 (X : Cx) (r : V → Hp → VK → Prop) (g : D → Sto → R D) : Prop :=
  ∀ (ι : List Addr) (H : Hp) (S : Sto) (x : V) (d : D) (Q : VK) (E : Value → Hp → Prop), RelS X.mo ι H S → RD X.mo ι H x d → Post X.mo ι H (g d S) (fun ι' H' _ d => ∀ v, RD X.mo ι' H' v d → Q v H') E → r x H Q
noncomputable def PrimA (X : Cx) (r : List V → Hp → VK → Prop) (g : List D → Sto → R D) : Prop :=
  ∀ (ι : List Addr) (H : Hp) (S : Sto) (xs : List V) (ds : List D) (Q : VK) (E : Value → Hp → Prop), RelS X.mo ι H S → RDs X.mo ι H xs ds → Post X.mo ι H (g ds S) (fun ι' H' _ d => ∀ v, RD X.mo ι' H' v d → Q v H') E → r xs H Q
noncomputable def f2 (g : D → D → Sto → R D) (fa fb : Fd) : Fd := fun δ S => (fa δ S).bind fun x S1 => (fb δ S1).bind fun y S2 => g x y S2
noncomputable def f1 (g : D → Sto → R D) (fa : Fd) : Fd := fun δ S => (fa δ S).bind g
theorem tOp_of {r : R2} {g : D → D → Sto → R D} (hr : Prim2 X r g) {σ : St} {H : Hp} {Q : VK} (h : tOf X.mo X.N.length E (f2 g fa fb) σ H Q) : tOp r (tOf X.mo X.N.length E fa) (tOf X.mo X.N.length E fb) σ H Q := by
  obtain ⟨ι, δ, S, rs, re, p⟩ := h
  refine tOf.step rs re (Post.bind p) fun ι1 H1 S1 d v x1 r1 re1 p1 rv1 => ?_
  refine tOf.step r1 re1 (Post.bind p1) fun ι2 H2 S2 e u x2 r2 re2 p2 rv2 => ?_
  exact hr ι2 H2 S2 v u d e Q _ r2 (rv1.ext x2) rv2 p2
theorem de_op {op : Operator} {r : R2} {g : D → D → Sto → R D} (ho : OpR X (binaryOp op) r) (hr : Prim2 X r g) (ha : DE X E a fa) (hb : DE X E b fb) : DE X E (.BinOp a op b pos) (f2 g fa fb) :=
  (pe_op ho ha hb).weak fun _ _ _ h => tOp_of hr h
theorem de_cmp {op : CmpOp} {r : R2} {g : D → D → Sto → R D} (ho : OpR X (compareOp op) r) (hr : Prim2 X r g) (hm : behindInMarks op b = false) (ha : DE X E a fa) (hb : DE X E b fb) : DE X E (.Compare a [op] [b] pos) (f2 g fa fb) :=
  (pe_cmpR ho ha hb hm).weak fun _ _ _ h => tOp_of hr h
theorem de_un {op : UnaryOp} {r : V → Hp → VK → Prop} {g : D → Sto → R D} (ho : UnR X (unaryOp op) r) (hr : Prim1 X r g) (ha : DE X E a fa) : DE X E (.UnaryOp op a pos) (f1 g fa) :=
  (pe_un ho ha).weak fun σ H Q ⟨ι, δ, S, rs, re, p⟩ => tOf.step rs re (Post.bind p) fun ι1 H1 S1 d v x1 r1 re1 p1 rv1 => hr ι1 H1 S1 v d Q _ r1 rv1 p1
theorem de_ix {r : R2} {g : D → D → Sto → R D} (ho : IxR X r) (hr : Prim2 X r g) (hs : PlainIx b) (ha : DE X E a fa) (hb : DE X E b fb) : DE X E (.Subscript a b pos) (f2 g fa fb) :=
  (pe_ix ho ha hb hs).weak fun _ _ _ h => tOp_of hr h
noncomputable def fNot (fa : Fd) : Fd := fun δ S => (fa δ S).bind (isBl fun _ S1 k => .ok (.bl (!k)) S1)
noncomputable def fAnd (fa fb : Fd) : Fd := fun δ S => (fa δ S).bind (isBl fun _ S1 k => if k = true then fb δ S1 else .ok (.bl false) S1)
noncomputable def fOr (fa fb : Fd) : Fd := fun δ S => (fa δ S).bind (isBl fun _ S1 k => if k = true then .ok (.bl true) S1 else fb δ S1)
theorem Post.isBl {α : Type} {M : Mo} {ι : List Addr} {H : Hp} {d : D} {v : V} {S : Sto} {f : D → Sto → Bool → R α} {Q : List Addr → Hp → Sto → α → Prop} {E : Value → Hp → Prop} (p : Post M ι H (isBl f d S) Q E) (r : RD M ι H v d) :
    ∃ k, d = .bl k ∧ v = .bl k ∧ Post M ι H (f d S k) Q E := by
  cases r with
  | bl k => exact ⟨k, rfl, rfl, p⟩
  | _ => exact p.elim
theorem de_not (ha : DE X E a fa) : DE X E (.UnaryOp .Not a pos) (fNot fa) :=
  (pe_not ha).weak fun σ H Q ⟨ι, δ, S, rs, re, p⟩ => tOf.step rs re (Post.bind p) fun ι1 H1 S1 d v x1 r1 re1 p1 rv1 => by
    obtain ⟨k, rfl, rfl, q⟩ := Post.isBl p1 rv1
    exact ⟨k, rfl, q ι1 H1 (.refl ι1 H1) r1 _ (.bl _)⟩
theorem de_one {op} (ha : DE X E a fa) : DE X E (.BoolOp op [a] pos) fa := pe_one ha
theorem de_and {rest : List Expr} (ha : DE X E a fa) (hb : DE X E (.BoolOp .And (b :: rest) pos) fb) : DE X E (.BoolOp .And (a :: b :: rest) pos) (fAnd fa fb) :=
  (pe_and ha hb).weak fun σ H Q ⟨ι, δ, S, rs, re, p⟩ => tOf.step rs re (Post.bind p) fun ι1 H1 S1 d v x1 r1 re1 p1 rv1 => by
    obtain ⟨k, rfl, rfl, q⟩ := Post.isBl p1 rv1
    refine ⟨k, rfl, ?_⟩
    cases k with
    | true => exact iteT ⟨ι1, δ, S1, r1, re1, q⟩
    | false => exact iteF (q ι1 H1 (.refl ι1 H1) r1 _ (.bl _))
theorem de_or {rest : List Expr} (ha : DE X E a fa) (hb : DE X E (.BoolOp .Or (b :: rest) pos) fb) : DE X E (.BoolOp .Or (a :: b :: rest) pos) (fOr fa fb) :=
  (pe_or ha hb).weak fun σ H Q ⟨ι, δ, S, rs, re, p⟩ => tOf.step rs re (Post.bind p) fun ι1 H1 S1 d v x1 r1 re1 p1 rv1 => by
    obtain ⟨k, rfl, rfl, q⟩ := Post.isBl p1 rv1
    refine ⟨k, rfl, ?_⟩
    cases k with
    | true => exact iteT (q ι1 H1 (.refl ι1 H1) r1 _ (.bl _))
    | false => exact iteF ⟨ι1, δ, S1, r1, re1, q⟩
noncomputable def bVal (fa : Fd) : Fb := fun δ S => (fa δ S).bind (isBl fun _ S1 k => .ok k S1)
noncomputable def bNot (f : Fb) : Fb := fun δ S => (f δ S).bind fun k S1 => .ok (!k) S1
noncomputable def bAnd (f g : Fb) : Fb := fun δ S => (f δ S).bind fun k S1 => if k = true then g δ S1 else .ok false S1
noncomputable def bOr (f g : Fb) : Fb := fun δ S => (f δ S).bind fun k S1 => if k = true then .ok true S1 else g δ S1
theorem bOf_tB {t : TE} {fa : Fd} (ht : ∀ σ H Q, tOf X.mo X.N.length E fa σ H Q → t σ H Q) : ∀ σ H Q, bOf X.mo X.N.length E (bVal fa) σ H Q → tB t σ H Q := fun σ H Q ⟨ι, δ, S, rs, re, p⟩ =>
  ht _ _ _ (tOf.step rs re (Post.bind p) fun ι1 H1 S1 d v x1 r1 re1 p1 rv1 => by
    obtain ⟨k, rfl, rfl, q⟩ := Post.isBl p1 rv1
    exact ⟨k, rfl, q ι1 H1 (.refl ι1 H1) r1⟩)
theorem dt_val (ha : DE X E a fa) (he : ∀ whole, isTrue a X.env whole = (do let v ← whole; standAt a.pos; holding [v] (truthy v))) : DT X E a (bVal fa) :=
  (pt_val ha he).weak (bOf_tB fun _ _ _ h => h)
theorem dt_cmp {op : CmpOp} {r : R2} {g : D → D → Sto → R D} (ho : OpR X (compareOp op) r) (hr : Prim2 X r g) (hm : behindInMarks op b = false) (ha : DE X E a fa) (hb : DE X E b fb) : DT X E (.Compare a [op] [b] pos) (bVal (f2 g fa fb)) :=
  (pt_cmpR ho ha hb hm).weak (bOf_tB fun _ _ _ h => tOp_of hr h)
theorem dt_pc {op : CmpOp} {t : TE} (hp : PC X op a b t) (ht : ∀ σ H Q, tOf X.mo X.N.length E fa σ H Q → t σ H Q) (h1 : behindInMarks op b = false) : DT X E (.Compare a [op] [b] pos) (bVal fa) :=
  (pt_cmp hp h1).weak (bOf_tB ht)
theorem de_pc {op : CmpOp} {t : TE} (hp : PC X op a b t) (ht : ∀ σ H Q, tOf X.mo X.N.length E fa σ H Q → t σ H Q) (h1 : behindInMarks op b = false) : DE X E (.Compare a [op] [b] pos) fa :=
  (pe_cmp hp h1).weak ht
theorem dt_not {f : Fb} (h : DT X E a f) : DT X E (.UnaryOp .Not a pos) (bNot f) :=
  (pt_not h).weak fun σ H Q ⟨ι, δ, S, rs, re, p⟩ => bOf.step rs re (Post.bind p) fun ι1 H1 S1 k x1 r1 re1 p1 => p1 ι1 H1 (.refl ι1 H1) r1
theorem dw_and1 {f : Fb} (h : DT X E a f) : DW X E (.BoolOp .And [a] pos) f := pw_and1 h
theorem dw_or1 {f : Fb} (h : DT X E a f) : DW X E (.BoolOp .Or [a] pos) f := pw_or1 h
theorem dw_and {f g : Fb} {rest : List Expr} (h : DT X E a f) (hb : DW X E (.BoolOp .And (b :: rest) pos) g) : DW X E (.BoolOp .And (a :: b :: rest) pos) (bAnd f g) :=
  (pw_and h hb).weak fun σ H Q ⟨ι, δ, S, rs, re, p⟩ => bOf.step rs re (Post.bind p) fun ι1 H1 S1 k x1 r1 re1 p1 => by
    cases k with
    | true => exact iteT ⟨ι1, δ, S1, r1, re1, p1⟩
    | false => exact iteF (p1 ι1 H1 (.refl ι1 H1) r1)
theorem dw_or {f g : Fb} {rest : List Expr} (h : DT X E a f) (hb : DW X E (.BoolOp .Or (b :: rest) pos) g) : DW X E (.BoolOp .Or (a :: b :: rest) pos) (bOr f g) :=
  (pw_or h hb).weak fun σ H Q ⟨ι, δ, S, rs, re, p⟩ => bOf.step rs re (Post.bind p) fun ι1 H1 S1 k x1 r1 re1 p1 => by
    cases k with
    | true => exact iteT (p1 ι1 H1 (.refl ι1 H1) r1)
    | false => exact iteF ⟨ι1, δ, S1, r1, re1, p1⟩
noncomputable def fIf (f : Fb) (fa fb : Fd) : Fd := fun δ S => (f δ S).bind fun k S1 => if k = true then fa δ S1 else fb δ S1
theorem de_ifExp {f : Fb} (h : DT X E c f) (ha : DE X E a fa) (hb : DE X E b fb) : DE X E (.IfExp c a b pos) (fIf f fa fb) :=
  (pe_ifExp h ha hb).weak fun σ H Q ⟨ι, δ, S, rs, re, p⟩ => bOf.step rs re (Post.bind p) fun ι1 H1 S1 k x1 r1 re1 p1 => by
    cases k with
    | true => exact iteT ⟨ι1, δ, S1, r1, re1, p1⟩
    | false => exact iteF ⟨ι1, δ, S1, r1, re1, p1⟩
noncomputable def fChain (g g' : D → D → Sto → R D) (fa fb fc : Fd) : Fd := fun δ S => (fa δ S).bind fun x S1 => (fb δ S1).bind fun y S2 => (g x y S2).bind (isBl fun _ S3 k => if k = true then (fc δ S3).bind fun z S4 => g' y z S4 else .ok (.bl false) S3)
end
noncomputable def aNil : Fa := fun _ S => .ok [] S
noncomputable def aCons (f : Fd) (g : Fa) : Fa := fun δ S => (f δ S).bind fun d S1 => (g δ S1).bind fun ds S2 => .ok (d :: ds) S2
section
variable {X : Cx} {E : St → XK} {e : Expr} {es : List Expr} {f : Fd} {g : Fa} {pos : Pos}
theorem da_nil : DA X E [] aNil := pa_nil.weak fun σ H Q ⟨ι, _, _, rs, _, p⟩ => p ι H (.refl ι H) rs [] .nil
theorem da_cons (h : DE X E e f) (t : DA X E es g) (hs : starEach (e :: es) X.env = (false, eval e X.env) :: starEach es X.env) : DA X E (e :: es) (aCons f g) :=
  (pa_cons h t hs).weak fun σ H Q ⟨ι, δ, S, rs, re, p⟩ => tOf.step rs re (Post.bind p) fun ι1 H1 S1 d v x1 r1 re1 p1 rv1 =>
    aOf.step r1 re1 (Post.bind p1) fun ι2 H2 S2 ds vs x2 r2 re2 p2 rv2 => p2 ι2 H2 (.refl ι2 H2) r2 _ (.cons (rv1.ext x2) rv2)
noncomputable def lim : Nat := 100000
theorem lim_line : lim ≤ sizeLine := by decide
noncomputable def mkTup (ds : List D) (S : Sto) : R D := if ds.length ≤ lim then .ok (.tup ds) S else .fail
noncomputable def mkLst (ds : List D) (S : Sto) : R D := if ds.length ≤ lim then .ok (.ref S.length) (S ++ [.lst ds]) else .fail
theorem post_tup {M : Mo} {ι : List Addr} {H : Hp} {S : Sto} {vs : List V} {ds : List D} {Q : VK} {E : Value → Hp → Prop} (rs : RelS M ι H S) (rv : RDs M ι H vs ds) (p : Post M ι H (mkTup ds S) (fun ι' H' _ d => ∀ v, RD M ι' H' v d → Q v H') E) :
    vs.length ≤ sizeLine ∧ ∀ p, H p = none → Q (.ref p) (upd H p (.tup vs)) := by
  unfold mkTup at p
  split at p
  · rename_i hl
    refine ⟨by rw [rv.length]; exact Nat.le_trans hl lim_line, fun q hq => p ι _ (Ext.laid hq) (rs.laid hq) _ (.tup (SqT.of upd_same) (rv.ext (Ext.laid hq)))⟩
  · exact p.elim
theorem post_lst {M : Mo} {ι : List Addr} {H : Hp} {S : Sto} {vs : List V} {ds : List D} {Q : VK} {E : Value → Hp → Prop} (rs : RelS M ι H S) (rv : RDs M ι H vs ds) (p : Post M ι H (mkLst ds S) (fun ι' H' _ d => ∀ v, RD M ι' H' v d → Q v H') E) :
    vs.length ≤ sizeLine ∧ ∀ p, H p = none → Q (.ref p) (upd H p (.lst vs)) := by
  unfold mkLst at p
  split at p
  · rename_i hl
    refine ⟨by rw [rv.length]; exact Nat.le_trans hl lim_line, fun q hq => p _ _ (Ext.made hq) (rs.made hq ⟨vs, upd_same, rv.ext (Ext.made hq)⟩) _ (.ref ?_)⟩
    rw [← rs.len]; exact getElem?_snoc ι q
  · exact p.elim
noncomputable def fTup (g : Fa) : Fd := fun δ S => (g δ S).bind mkTup
noncomputable def fLst (g : Fa) : Fd := fun δ S => (g δ S).bind mkLst
theorem de_tup {x1} (h : DA X E es g) : DE X E (.Tuple es x1 pos) (fTup g) :=
  (pe_tup h).weak fun σ H Q ⟨ι, δ, S, rs, re, p⟩ => aOf.step rs re (Post.bind p) fun ι1 H1 S1 ds vs x1 r1 re1 p1 rv1 => post_tup r1 rv1 p1
theorem de_lst (h : DA X E es g) : DE X E (.List es pos) (fLst g) :=
  (pe_lst h).weak fun σ H Q ⟨ι, δ, S, rs, re, p⟩ => aOf.step rs re (Post.bind p) fun ι1 H1 S1 ds vs x1 r1 re1 p1 rv1 => post_lst r1 rv1 p1
noncomputable def spOf (M : Mo) (k : Nat) (f : List D → Sto → R D) : Sp := fun vs H Q E => vs.length = k ∧ ∃ ι ds S, RelS M ι H S ∧ RDs M ι H vs ds ∧ Post M ι H (f ds S) (fun ι' H' _ d => ∀ v, RD M ι' H' v d → Q v H') (fun C H' => E C none H')
noncomputable def fCall (F : List D → Sto → R D) (g : Fa) : Fd := fun δ S => (g δ S).bind F
theorem de_call {k : Nat} {ps : List Str} {x : Str} {p : Pos} {F : List D → Sto → R D} (h : Has X.prog X.w X.K X.mg X.base k x ps (spOf X.mo ps.length F)) (hl : (e :: es).length = ps.length) (hr : Room k X.A) (hg : Gl X x) (hx : PassS (CXE X.prog X.w) X E) (ha : DA X E (e :: es) g)
    (hla : ∀ δ S ds S', g δ S = .ok ds S' → ds.length = (e :: es).length) (hdb : (x == ("__debug__" : Str)) = false)
    (he : starEach (e :: es) X.env = (false, eval e X.env) :: starEach es X.env) (hpl : (backTo pos (starEach es X.env)).any (·.1) = false) : DE X E (.Call (.Name x p) (e :: es) [] pos) (fCall F g) :=
  (pe_callE h hr hg hx ha hdb he hpl).weak fun σ H Q ⟨ι, δ, S, rs, re, q⟩ => by
    refine aOf.step rs re (P := fun ι1 H1 S1 ds => ds.length = (e :: es).length ∧ Post X.mo ι1 H1 (F ds S1) (fun ι' H' _ d => ∀ v, RD X.mo ι' H' v d → Q v H') (fun C H' => E σ C none H')) ?_ fun ι1 H1 S1 ds vs x1 r1 re1 p1 rv1 => ?_
    · have q' := Post.bind (r := g δ S) (f := F) q
      cases eg : g δ S with
      | ok ds S' => rw [eg] at q'; exact fun ι1 H1 x r => ⟨hla δ S ds S' eg, q' ι1 H1 x r⟩
      | exc C S' => rw [eg] at q'; exact q'
      | fail => rw [eg] at q'; exact q'
    · rw [List.append_nil]
      exact ⟨by rw [rv1.length, p1.1]; exact hl, ι1, ds, S1, r1, rv1, p1.2⟩
theorem de_callB {x : Str} {p : Pos} {id : String} {r : List V → Hp → VK → Prop} {G : List D → Sto → R D} (hc : CallR X (.builtin id) r) (hG : PrimA X r G) (hg : Gl X x) (hm : X.mg x = none) (hv : bootBuiltins x = some (.builtin id)) (ha : DA X E (e :: es) g) (hn : x ≠ "__name__")
    (hdb : (x == ("__debug__" : Str)) = false) (he : starEach (e :: es) X.env = (false, eval e X.env) :: starEach es X.env) (hpl : (backTo pos (starEach es X.env)).any (·.1) = false) : DE X E (.Call (.Name x p) (e :: es) [] pos) (fCall G g) :=
  (pe_callB hc hg hm hv ha hn hdb he hpl).weak fun σ H Q ⟨ι, δ, S, rs, re, q⟩ => aOf.step rs re (Post.bind q) fun ι1 H1 S1 ds vs x1 r1 re1 p1 rv1 => hG ι1 H1 S1 vs ds Q _ r1 rv1 p1
theorem de_callTy {x : Str} {p : Pos} {T : String} {r : List V → Hp → VK → Prop} {G : List D → Sto → R D} (hc : CallR X (.type T) r) (hG : PrimA X r G) (hg : Gl X x) (hm : X.mg x = none) (hv : bootBuiltins x = some (.type T)) (ha : DA X E (e :: es) g) (hn : x ≠ "__name__")
    (hdb : (x == ("__debug__" : Str)) = false) (he : starEach (e :: es) X.env = (false, eval e X.env) :: starEach es X.env) (hpl : (backTo pos (starEach es X.env)).any (·.1) = false) : DE X E (.Call (.Name x p) (e :: es) [] pos) (fCall G g) :=
  (pe_callTy hc hg hm hv ha hn hdb he hpl).weak fun σ H Q ⟨ι, δ, S, rs, re, q⟩ => aOf.step rs re (Post.bind q) fun ι1 H1 S1 ds vs x1 r1 re1 p1 rv1 => hG ι1 H1 S1 vs ds Q _ r1 rv1 p1
end
mutual
noncomputable def noRef : D → Bool
  | .ref _ => false
  | .tup ds => noRefs ds
  | .rol ds => noRefs ds
  | _ => true
noncomputable def noRefs : List D → Bool
  | [] => true
  | d :: ds => noRef d && noRefs ds
end
open Classical in
noncomputable def gc (S : Sto) (r : R D) : R D := match r with
  | .ok d S' => if noRef d = true ∧ S <+: S' then .ok d S else .ok d S'
  | r => r
section
variable {M : Mo} {ι ι' : List Addr} {H H' : Hp} {S : Sto}
mutual
theorem RD.noRef : ∀ {v : V} {d : D}, RD M ι H v d → L2.noRef d = true → RD M ι' H v d
  | _, _, .non, _ => .non
  | _, _, .bl b, _ => .bl b
  | _, _, .int i, _ => .int i
  | _, _, .str x, _ => .str x
  | _, _, .ty t, _ => .ty t
  | _, _, .tup h t, e => .tup h (RDs.noRef t (by simpa [L2.noRef] using e))
  | _, _, .rol h t, e => .rol h (RDs.noRef t (by simpa [L2.noRef] using e))
  | _, _, .ref h, e => by simp [L2.noRef] at e
  | _, _, .gl h, _ => .gl h
theorem RDs.noRef : ∀ {vs : List V} {ds : List D}, RDs M ι H vs ds → noRefs ds = true → RDs M ι' H vs ds
  | _, _, .nil, _ => .nil
  | _, _, .cons h t, e => by
    simp [noRefs] at e
    exact .cons (RD.noRef h e.1) (RDs.noRef t e.2)
end
mutual
theorem RD.down (p : ∀ (n : Nat) a, ι[n]? = some a → ι'[n]? = some a) : ∀ {v u : V} {d : D} {G : Hp}, RD M ι G u d → RD M ι' H v d → RD M ι H v d
  | _, _, _, _, .non, h => by cases h; exact .non
  | _, _, _, _, .bl b, h => by cases h; exact .bl b
  | _, _, _, _, .int i, h => by cases h; exact .int i
  | _, _, _, _, .str x, h => by cases h; exact .str x
  | _, _, _, _, .ty t, h => by cases h; exact .ty t
  | _, _, _, _, .tup _ t, h => by
    cases h with
    | tup h' t' => exact .tup h' (RDs.down p t t')
  | _, _, _, _, .rol _ t, h => by
    cases h with
    | rol h' t' => exact .rol h' (RDs.down p t t')
  | _, _, _, _, .ref q, h => by
    cases h with
    | ref q' =>
      have e := p _ _ q
      rw [q'] at e
      cases e
      exact .ref q
  | _, _, _, _, .gl q, h => by
    cases h with
    | gl q' => exact .gl q'
theorem RDs.down (p : ∀ (n : Nat) a, ι[n]? = some a → ι'[n]? = some a) : ∀ {vs us : List V} {ds : List D} {G : Hp}, RDs M ι G us ds → RDs M ι' H vs ds → RDs M ι H vs ds
  | _, _, _, _, .nil, h => by cases h; exact .nil
  | _, _, _, _, .cons a b, h => by
    cases h with
    | cons a' b' => exact .cons (RD.down p a a') (RDs.down p b b')
end
theorem RFs.down (p : ∀ (n : Nat) a, ι[n]? = some a → ι'[n]? = some a) : ∀ {vs vs' : List (Str × V)} {ds : List (Str × D)}, RFs M ι H vs ds → RFs M ι' H' vs' ds → RFs M ι H' vs' ds
  | _, _, _, .nil, h => by cases h; exact .nil
  | _, _, _, .cons a b, h => by
    cases h with
    | cons a' b' => exact .cons (RD.down p a a') (RFs.down p b b')
theorem RKs.down' (p : ∀ (n : Nat) a, ι[n]? = some a → ι'[n]? = some a) : ∀ {vs vs' : List (Key × V)} {ds es : List (D × D)}, RKs M ι H vs ds → RKs M ι' H' vs' es → ds = es → RKs M ι H' vs' es
  | _, _, _, _, .nil, .nil, _ => .nil
  | _, _, _, _, .nil, .cons _ _, h => nomatch h
  | _, _, _, _, .cons _ _, .nil, h => nomatch h
  | _, _, _, _, .cons (d := d) a b, .cons (d := d') a' b', h => by
    injection h with h1 h2
    injection h1 with h3 h4
    subst h4
    exact .cons (RD.down p a a') (RKs.down' p b b' h2)
theorem RTs.down' (p : ∀ (n : Nat) a, ι[n]? = some a → ι'[n]? = some a) : ∀ {vs vs' : List (List Key × V)} {ds es : List (D × D)}, RTs M ι H vs ds → RTs M ι' H' vs' es → ds = es → RTs M ι H' vs' es
  | _, _, _, _, .nil, .nil, _ => .nil
  | _, _, _, _, .nil, .cons _ _, h => nomatch h
  | _, _, _, _, .cons _ _, .nil, h => nomatch h
  | _, _, _, _, .cons (d := d) a b, .cons (d := d') a' b', h => by
    injection h with h1 h2
    injection h1 with h3 h4
    subst h4
    exact .cons (RD.down p a a') (RTs.down' p b b' h2)
theorem RelS.down (h : RelS M ι H S) (e : Ext ι H ι' H') {S' : Sto} (h' : RelS M ι' H' S') (pr : S <+: S') : RelS M ι H' S := by
  refine ⟨h.len, h.nd, fun n a o h1 h2 => ?_⟩
  obtain ⟨J, rfl⟩ := pr
  have hl : n < S.length := (List.getElem?_eq_some_iff.mp h2).1
  have r := h.obj n a o h1 h2
  have r' := h'.obj n a o (e.pre n a h1) (by rw [List.getElem?_append_left hl]; exact h2)
  cases o with
  | lst xs =>
    obtain ⟨vs, q1, q2⟩ := r
    obtain ⟨vs', q1', q2'⟩ := r'
    exact ⟨vs', q1', RDs.down e.pre q2 q2'⟩
  | dic kvs =>
    obtain ⟨ks, q1, q2⟩ := r
    obtain ⟨ks', q1', q2'⟩ := r'
    exact ⟨ks', q1', RKs.down' e.pre q2 q2' rfl⟩
  | ins C fs =>
    obtain ⟨Ca, dx, vs, m, q1, q2⟩ := r
    obtain ⟨Ca', dx', vs', m', q1', q2'⟩ := r'
    exact ⟨Ca', dx', vs', m', q1', RFs.down e.pre q2 q2'⟩
  | exc C => exact r'
  | dit kvs =>
    obtain ⟨ks, q1, q2⟩ := r
    obtain ⟨ks', q1', q2'⟩ := r'
    exact ⟨ks', q1', RTs.down' e.pre q2 q2' rfl⟩
theorem Post.gc {r : R D} {Q : V → Hp → Prop} {E : Value → Hp → Prop} (rs : RelS M ι H S) (p : Post M ι H (gc S r) (fun ι' H' _ d => ∀ v, RD M ι' H' v d → Q v H') E) : Post M ι H r (fun ι' H' _ d => ∀ v, RD M ι' H' v d → Q v H') E := by
  cases r with
  | ok d S' =>
    unfold L2.gc at p
    by_cases c : L2.noRef d = true ∧ S <+: S'
    · simp only [if_pos c] at p
      exact fun ι' H' x r v rv => p ι H' ⟨fun _ _ q => q, x.ts, x.fz⟩ (rs.down x r c.2) v (rv.noRef c.1)
    · simp only [if_neg c] at p
      exact p
  | exc C S' => exact p
  | fail => exact p
end
noncomputable def fGc (f : Fd) : Fd := fun δ S => gc S (f δ S)
theorem de_gc {X : Cx} {E : St → XK} {e : Expr} {f : Fd} (h : DE X E e f) : DE X E e (fGc f) := h.weak fun σ H Q ⟨ι, δ, S, rs, re, p⟩ => ⟨ι, δ, S, rs, re, Post.gc rs p⟩
noncomputable abbrev Fs := Dv → Sto → RS
noncomputable def sNext : Fs := fun δ S => .next δ S
noncomputable def sSeq (f g : Fs) : Fs := fun δ S => (f δ S).bind g
noncomputable def sSet (i : Nat) (f : Fd) : Fs := fun δ S => (f δ S).toS δ fun d S1 => .next (δ.set i (some d)) S1
noncomputable def sRet (f : Fd) : Fs := fun δ S => (f δ S).toS δ fun d S1 => .ret d S1
noncomputable def sExpr (f : Fd) : Fs := fun δ S => (f δ S).toS δ fun _ S1 => .next δ S1
noncomputable def sIf (c : Fb) (f g : Fs) : Fs := fun δ S => (c δ S).toS δ fun k S1 => if k = true then f δ S1 else g δ S1
theorem PS.nox {X : Cx} {st : Stmt} {t : TS} (h : PS X.nox st t) : PS X st t := fun pins s σ H D I hw =>
  wpAny_mono (h pins s σ H D (I.wish _) hw) (fun _ _ q => SP.unwish q) fun _ _ q => q.elim
section
variable {X : Cx} {E : St → XK} {pos : Pos} {st : Stmt} {rest : List Stmt} {e : Expr} {f g : Fs} {fe : Fd}
theorem dss_nil : DSs X E [] sNext := pss_nil.weak fun D σ H ⟨ι, δ, S, rs, re, p⟩ => p ι H σ (.refl ι H) rs re
theorem dss_cons (h1 : DS X E st f) (h2 : DSs X E rest g) : DSs X E (st :: rest) (sSeq f g) :=
  (pss_cons h1 h2).weak fun D σ H ⟨ι, δ, S, rs, re, p⟩ => by
    refine ⟨ι, δ, S, rs, re, ?_⟩
    unfold sSeq at p
    cases ef : f δ S with
    | next δ1 S1 => rw [ef] at p; exact fun ι' H' σ' x r' re' => ⟨ι', δ1, S1, r', re', PostS.ext p x⟩
    | ret d S1 => rw [ef] at p; exact p
    | brk δ1 S1 => rw [ef] at p; exact p
    | cnt δ1 S1 => rw [ef] at p; exact p
    | exc C δ1 S1 => rw [ef] at p; exact p
    | fail => rw [ef] at p; exact p
theorem ds_pass : DS X E (.Pass pos) sNext := ps_pass.weak fun D σ H ⟨ι, δ, S, rs, re, p⟩ => p ι H σ (.refl ι H) rs re
theorem ds_break : DS X E (.Break pos) (fun δ S => .brk δ S) := ps_break.weak fun D σ H ⟨ι, δ, S, rs, re, p⟩ => p ι H σ (.refl ι H) rs re
theorem ds_continue : DS X E (.Continue pos) (fun δ S => .cnt δ S) := ps_continue.weak fun D σ H ⟨ι, δ, S, rs, re, p⟩ => p ι H σ (.refl ι H) rs re
theorem ds_retN : DS X E (.Return none pos) (fun _ S => .ret .non S) := ps_retN.weak fun D σ H ⟨ι, δ, S, rs, re, p⟩ => p ι H _ (.refl ι H) rs .non
theorem ds_set {i : Nat} {x : Str} {pos' : Pos} (hN : X.N.Nodup) (hi : X.N[i]? = some x) (hx : Loc X.env.scope x) (he : DE X E e fe) (hs : swapsWith e (some (.Name x pos')) pos.line X.env = pure false) (hf : X.fn x = true ∨ X.env.scope.names.lookup x = some .local) :
    DS X E (.Assign [.Name x pos'] e pos) (sSet i fe) :=
  (ps_set hN hi hx he hs hf).weak fun D σ H ⟨ι, δ, S, rs, re, p⟩ => tOf.step rs re (PostS.toS p re) fun ι1 H1 S1 d v x1 r1 re1 p1 rv1 =>
    p1 ι1 H1 _ (.refl ι1 H1) r1 (re1.set (List.getElem?_eq_some_iff.mp hi).1 rv1)
theorem ds_ret (he : DE X E e fe) : DS X E (.Return (some e) pos) (sRet fe) :=
  (ps_ret he).weak fun D σ H ⟨ι, δ, S, rs, re, p⟩ => tOf.step rs re (PostS.toS p re) fun ι1 H1 S1 d v x1 r1 re1 p1 rv1 => p1 ι1 H1 v (.refl ι1 H1) r1 rv1
theorem ds_expr (he : DE X E e fe) (hs : swapsWith e none pos.line X.env = pure false) : DS X E (.Expr e pos) (sExpr fe) :=
  (ps_expr he hs).weak fun D σ H ⟨ι, δ, S, rs, re, p⟩ => tOf.step rs re (PostS.toS p re) fun ι1 H1 S1 d v x1 r1 re1 p1 rv1 => p1 ι1 H1 σ (.refl ι1 H1) r1 re1
theorem ds_if {c : Expr} {a b : List Stmt} {fc : Fb} (hc : DT X E c fc) (ha : DSs X E a f) (hb : DSs X E b g) : DS X E (.If c a b pos) (sIf fc f g) :=
  (ps_if hc ha hb).weak fun D σ H ⟨ι, δ, S, rs, re, p⟩ => bOf.step rs re (PostS.toS p re) fun ι1 H1 S1 k x1 r1 re1 p1 => by
    cases k with
    | true => exact iteT ⟨ι1, δ, S1, r1, re1, p1⟩
    | false => exact iteF ⟨ι1, δ, S1, r1, re1, p1⟩
noncomputable def sPar (i j : Nat) (fa : Fa) : Fs := fun δ S => (fa δ S).toS δ fun ds S1 => match ds with
  | [d, e] => .next ((δ.set i (some d)).set j (some e)) S1
  | _ => .fail
theorem ds_par {i j : Nat} {x y : Str} {a b : Expr} {fa : Fa} {px py pt : Pos} {kt k2 pt2} (hc : X.calm = true) (hN : X.N.Nodup) (hi : X.N[i]? = some x) (hj : X.N[j]? = some y) (hij : i ≠ j)
    (hx : X.env.scope.names.lookup x = some .local) (hy : X.env.scope.names.lookup y = some .local) (ha : DA X E [a, b] fa)
    (hw : swappedStores [.Tuple [.Name x px, .Name y py] kt pt] (.Tuple [a, b] k2 pt2) X.env = pure (some [x, y]))
    (hs : swapsWithSole [.Tuple [.Name x px, .Name y py] kt pt] (.Tuple [a, b] k2 pt2) pos.line X.env = pure false) :
    DS X E (.Assign [.Tuple [.Name x px, .Name y py] kt pt] (.Tuple [a, b] k2 pt2) pos) (sPar i j fa) :=
  (ps_par hc hN hi hj hij hx hy ha hw hs).weak fun D σ H ⟨ι, δ, S, rs, re, p⟩ => aOf.step rs re (PostS.toS p re) fun ι1 H1 S1 ds vs x1 r1 re1 p1 rv1 => by
    cases rv1 with
    | nil => exact p1.elim
    | cons h t =>
      cases t with
      | nil => exact p1.elim
      | cons h' t' =>
        cases t' with
        | nil => exact ⟨_, _, rfl, p1 ι1 H1 _ (.refl ι1 H1) r1 ((re1.set (List.getElem?_eq_some_iff.mp hi).1 h).set (List.getElem?_eq_some_iff.mp hj).1 h')⟩
        | cons _ _ => exact p1.elim
noncomputable abbrev En : St → XK := fun _ => E0
noncomputable def noxS : RS → RS
  | .exc _ _ _ => .fail
  | r => r
noncomputable def noxR {α : Type} : R α → R α
  | .exc _ _ => .fail
  | r => r
noncomputable def whileD (t : Fb) (b : Fs) : Nat → Fs
  | 0 => fun _ _ => .fail
  | m + 1 => fun δ S => (noxR (t δ S)).toS δ fun k S1 => if k = true then
      (match noxS (b δ S1) with
        | .next δ2 S2 => whileD t b m δ2 S2
        | .cnt δ2 S2 => whileD t b m δ2 S2
        | .brk δ2 S2 => .next δ2 S2
        | r => r)
    else .next δ S1
theorem Post.nox {α : Type} {M : Mo} {ι : List Addr} {H : Hp} {r : R α} {Q : List Addr → Hp → Sto → α → Prop} {E E' : Value → Hp → Prop} (h : Post M ι H (noxR r) Q E) : Post M ι H r Q E' := by
  cases r with
  | ok a S => exact h
  | exc C S => exact h.elim
  | fail => exact h
theorem noxR_toS {α : Type} {r : R α} {δ : Dv} {f : α → Sto → RS} {M : Mo} {n : Nat} {ι : List Addr} {H : Hp} {σ : St} {Dn : Ends} {E E' : St → XK} (h : PostS M n ι H ((noxR r).toS δ f) Dn E) (re : RelE M ι H n σ δ) :
    Post M ι H r (fun ι1 H1 S1 a => PostS M n ι1 H1 (f a S1) Dn E) (fun C H' => E' σ C none H') := (PostS.toS h re).nox
theorem ds_while {c : Expr} {body : List Stmt} {ft : Fb} {fb : Fs} (B : Nat) (hc : DT X.nox En c ft) (hb : DSs X.nox En body fb) : DS X E (.While c body [] pos) (whileD ft fb B) :=
  (PS.nox (ps_while (X := X.nox) PassesOwn.never hc hb)).weak fun D σ H h => by
    refine ⟨fun m σ H => sOf X.mo X.N.length E (whileD ft fb m) D σ H, ⟨B, h⟩, ?_⟩
    rintro m σ H ⟨ι, δ, S, rs, re, p⟩
    cases m with
    | zero => exact p.elim
    | succ m =>
      refine bOf.step (M := X.mo) (n := X.N.length) (E := En) rs re (noxR_toS p re) fun ι1 H1 S1 k x1 r1 re1 p1 => ?_
      cases k with
      | false => exact iteF (p1 ι1 H1 σ (.refl ι1 H1) r1 re1)
      | true =>
        refine iteT ⟨fun σ' H' => sOf X.mo X.N.length E (whileD ft fb m) D σ' H', fun σ' H' h' => ⟨m, Nat.lt_succ_self m, h'⟩, ι1, δ, S1, r1, re1, ?_⟩
        have p2 : PostS X.mo X.N.length ι1 H1 (match noxS (fb δ S1) with | .next δ2 S2 => whileD ft fb m δ2 S2 | .cnt δ2 S2 => whileD ft fb m δ2 S2 | .brk δ2 S2 => .next δ2 S2 | r => r) D E := p1
        cases ef : fb δ S1 with
        | next δ2 S2 => rw [ef] at p2; exact fun ι' H' σ' x r' re' => ⟨ι', δ2, S2, r', re', PostS.ext p2 x⟩
        | cnt δ2 S2 => rw [ef] at p2; exact fun ι' H' σ' x r' re' => ⟨ι', δ2, S2, r', re', PostS.ext p2 x⟩
        | brk δ2 S2 => rw [ef] at p2; exact p2
        | ret d S2 => rw [ef] at p2; exact p2
        | exc C δ2 S2 => rw [ef] at p2; exact p2.elim
        | fail => rw [ef] at p2; exact p2.elim
inductive Itb where
  | its (ds : List D) | lref (n : Nat)
noncomputable def cur (t : Itb) (S : Sto) : Option (List D) := match t with
  | .its ds => some ds
  | .lref n => match S[n]? with
    | some (.lst xs) => some xs
    | _ => none
noncomputable abbrev Fi := Dv → Sto → R Itb
noncomputable def JOk (M : Mo) (ι : List Addr) (H : Hp) (J : It) (t : Itb) : Prop :=
  ∀ ι' H' S', Ext ι H ι' H' → RelS M ι' H' S' → ∀ ds, cur t S' = some ds → ∀ i : Nat,
    (∀ d, ds[i]? = some d → J.go i H' ∧ ∀ x H'', J.yld i H' x H'' → Ext ι' H' ι' H'' ∧ RelS M ι' H'' S' ∧ RD M ι' H'' x d) ∧ (ds.length ≤ i → J.stop i H')
noncomputable def itOf (M : Mo) (n : Nat) (E : St → XK) (f : Fi) : TI := fun σ H Rk => ∃ ι δ S, RelS M ι H S ∧ RelE M ι H n σ δ ∧ Post M ι H (f δ S) (fun ι' H' _ t => ∀ J, JOk M ι' H' J t → Rk J H') (fun C H' => E σ C none H')
noncomputable abbrev DI (X : Cx) (E : St → XK) (tg e : Expr) (f : Fi) : Prop := PI X tg e (itOf X.mo X.N.length E f)
theorem PI.weak {X : Cx} {tg e : Expr} {t t' : TI} (h : PI X tg e t) (w : ∀ σ H R, t' σ H R → t σ H R) : PI X tg e t' := fun pins s σ H R I q => h pins s σ H R I (w σ H R q)
theorem itOf.step {M : Mo} {n : Nat} {E : St → XK} {f : Fi} {σ : St} {H : Hp} {ι : List Addr} {δ : Dv} {S : Sto} {Q : It → Hp → Prop} {P : List Addr → Hp → Sto → Itb → Prop} (rs : RelS M ι H S) (re : RelE M ι H n σ δ)
    (h : Post M ι H (f δ S) P (fun C H' => E σ C none H')) (k : ∀ ι' H' S' t J, Ext ι H ι' H' → RelS M ι' H' S' → RelE M ι' H' n σ δ → P ι' H' S' t → JOk M ι' H' J t → Q J H') : itOf M n E f σ H Q :=
  ⟨ι, δ, S, rs, re, h.mono (fun ι' H' S' d x r p v rv => k ι' H' S' d v x r (re.ext x) p rv) fun _ _ q => q⟩
noncomputable def iSeq (K : PySem.W.Frag) (tl : TE) : TI := fun σ H R => tl σ H fun x H1 => ∃ a, x = .ref a ∧ (((∃ xs, SqL K H1 a xs) ∧ R (Itl K a) H1) ∨ ((∃ xs, SqT K H1 a xs) ∧ R (Itt K a) H1))
theorem pi_seq {tg l : Expr} {tl : TE} (hl : PE X l tl) : PI X tg l (iSeq X.K tl) := by
  intro pins s σ H R I h
  refine thn (hl pins s σ H _ I h) fun v s1 ⟨x, H1, I1, r1, q1⟩ => ?_
  obtain ⟨a, e, q1⟩ := q1
  subst e
  cases r1
  rcases q1 with ⟨⟨xs, hq⟩, q⟩ | ⟨⟨xs, hq⟩, q⟩
  · obtain ⟨its, rv, p, hz⟩ := I1.list hq
    refine wpAny_pyIter_list p.isList ?_
    refine ⟨s1.heap.objs.size, [s1.heap.objs.size], _, _, H1, rfl, I1.kept (t' := s1.toks) fun b o e => Heap.get?_push_of_some _ e, turn_list a _, ⟨_, Heap.get?_push_size _ rfl, rfl, rfl⟩, fun b hb => ?_, q⟩
    have e : b = s1.heap.objs.size := by simpa using hb
    subst e
    exact I1.fpOk (Nat.le_refl _) (I1.hok.fresh (Nat.le_refl _))
  · obtain ⟨its, rv, p, hz⟩ := I1.tuple hq
    refine wpAny_pyIter_tuple (show s1.heap.IsTuple a its.toArray from p) ?_
    refine ⟨s1.heap.objs.size, [s1.heap.objs.size], _, _, H1, rfl, I1.kept (t' := s1.toks) fun b o e => Heap.get?_push_of_some _ e, turn_tuple a _, ⟨_, Heap.get?_push_size _ rfl, rfl, rfl⟩, fun b hb => ?_, q⟩
    have e : b = s1.heap.objs.size := by simpa using hb
    subst e
    exact I1.fpOk (Nat.le_refl _) (I1.hok.fresh (Nat.le_refl _))
noncomputable def itD (d : D) (S : Sto) : R Itb := match d with
  | .tup ds => .ok (.its ds) S
  | .rol ds => .ok (.its ds) S
  | .ref n => match S[n]? with
    | some (.lst _) => .ok (.lref n) S
    | _ => .fail
  | _ => .fail
noncomputable def iVal (f : Fd) : Fi := fun δ S => (f δ S).bind itD
end
theorem JOk.tup {M : Mo} {ι : List Addr} {H : Hp} {a : Addr} {xs : List V} {ds : List D} (h : SqT M.K H a xs) (r : RDs M ι H xs ds) : JOk M ι H (Itt M.K a) (.its ds) := by
  intro ι' H' S' x rs ds' hc i
  cases hc
  refine ⟨fun d hd => ?_, fun hl => ⟨xs, x.ts.sqT h, by rw [r.length]; exact hl⟩⟩
  obtain ⟨v, h1, h2⟩ := r.get hd
  refine ⟨⟨xs, v, x.ts.sqT h, h1⟩, fun y H'' hy => ?_⟩
  obtain ⟨e, hy⟩ := hy
  subst e
  have z := hy xs (x.ts.sqT h)
  rw [h1] at z
  cases z
  exact ⟨.refl _ _, rs, h2.ext x⟩
theorem JOk.rol {M : Mo} {ι : List Addr} {H : Hp} {a : Addr} {xs : List V} {ds : List D} (h : FzL M.K H a xs) (r : RDs M ι H xs ds) : JOk M ι H (Itl M.K a) (.its ds) := by
  intro ι' H' S' x rs ds' hc i
  cases hc
  refine ⟨fun d hd => ?_, fun hl => ⟨xs, (x.ts.fzL h).sq, by rw [r.length]; exact hl⟩⟩
  obtain ⟨v, h1, h2⟩ := r.get hd
  refine ⟨⟨xs, v, (x.ts.fzL h).sq, h1⟩, fun y H'' hy => ?_⟩
  obtain ⟨e, hy⟩ := hy
  subst e
  have z := hy xs (x.ts.fzL h).sq
  rw [h1] at z
  cases z
  exact ⟨.refl _ _, rs, h2.ext x⟩
theorem JOk.lref {M : Mo} {ι : List Addr} {H : Hp} {a : Addr} {n : Nat} (h : ι[n]? = some a) : JOk M ι H (Itl M.K a) (.lref n) := by
  intro ι' H' S' x rs ds hc i
  have hn := x.pre n a h
  obtain ⟨o, ho, ro⟩ := rs.there hn
  have e : ∃ vs, H' a = some (.lst vs) ∧ RDs M ι' H' vs ds := by
    unfold cur at hc
    dsimp only at hc
    rw [ho] at hc
    cases o with
    | lst xs => cases hc; exact ro
    | _ => cases hc
  obtain ⟨vs, h1, r⟩ := e
  refine ⟨fun d hd => ?_, fun hl => ⟨vs, SqL.of h1, by rw [r.length]; exact hl⟩⟩
  obtain ⟨v, h2, h3⟩ := r.get hd
  refine ⟨⟨vs, v, SqL.of h1, h2⟩, fun y H'' hy => ?_⟩
  obtain ⟨e, hy⟩ := hy
  subst e
  have z := hy vs (SqL.of h1)
  rw [h2] at z
  cases z
  exact ⟨.refl _ _, rs, h3⟩
theorem JOk.rng {M : Mo} {ι : List Addr} {H : Hp} {lo : Int} {n : Nat} : JOk M ι H (Itr lo n) (.its ((List.range n).map fun i => D.int (lo + (i : Nat)))) := by
  intro ι' H' S' x rs ds hc i
  cases hc
  refine ⟨fun d hd => ?_, fun hl => by simpa [Itr] using hl⟩
  have hi : i < n := by
    have := (List.getElem?_eq_some_iff.mp hd).1
    simpa using this
  have e : d = .int (lo + (i : Nat)) := by
    rw [List.getElem?_map, List.getElem?_range hi] at hd
    cases hd
    rfl
  subst e
  refine ⟨hi, fun y H'' hy => ?_⟩
  obtain ⟨e, e2⟩ := hy
  subst e e2
  exact ⟨.refl _ _, rs, .int _⟩
section
variable {X : Cx} {E : St → XK} {pos : Pos} {tg e : Expr} {f : Fd}
theorem di_val (h : DE X E e f) : DI X E tg e (iVal f) :=
  (pi_seq h).weak fun σ H Rk ⟨ι, δ, S, rs, re, p⟩ => tOf.step rs re (Post.bind p) fun ι1 H1 S1 d v x1 r1 re1 p1 rv1 => by
    cases rv1 with
    | @tup a xs ds h1 h2 => exact ⟨a, rfl, .inr ⟨⟨xs, h1⟩, p1 ι1 H1 (.refl ι1 H1) r1 _ (.tup h1 h2)⟩⟩
    | @rol a xs ds h1 h2 => exact ⟨a, rfl, .inl ⟨⟨xs, h1.sq⟩, p1 ι1 H1 (.refl ι1 H1) r1 _ (.rol h1 h2)⟩⟩
    | @ref a n h1 =>
      obtain ⟨o, ho, ro⟩ := r1.there h1
      unfold itD at p1
      dsimp only at p1
      rw [ho] at p1
      cases o with
      | lst xs =>
        obtain ⟨vs, h2, _⟩ := ro
        exact ⟨a, rfl, .inl ⟨⟨vs, SqL.of h2⟩, p1 ι1 H1 (.refl ι1 H1) r1 _ (.lref h1)⟩⟩
      | _ => exact p1.elim
    | _ => exact p1.elim
open Classical in
noncomputable def rng1 (ds : List D) (S : Sto) : R Itb := match ds with
  | [.int j] => if -(2 ^ 62) ≤ j ∧ j < 2 ^ 62 then .ok (.its ((List.range j.toNat).map fun i => D.int (0 + (i : Nat)))) S else .fail
  | _ => .fail
open Classical in
noncomputable def rng2 (ds : List D) (S : Sto) : R Itb := match ds with
  | [.int i, .int j] => if -(2 ^ 62) ≤ i ∧ i < 2 ^ 62 ∧ -(2 ^ 62) ≤ j ∧ j < 2 ^ 62 then .ok (.its ((List.range (j - i).toNat).map fun k => D.int (i + (k : Nat)))) S else .fail
  | _ => .fail
noncomputable def iRg1 (g : Fa) : Fi := fun δ S => (g δ S).bind rng1
noncomputable def iRg2 (g : Fa) : Fi := fun δ S => (g δ S).bind rng2
theorem di_range1 {a : Expr} {g : Fa} {p : Pos} (hg : Gl X "range") (hm : X.mg "range" = none) (ha : DA X E [a] g) (hs : starEach [a] X.env = [(false, eval a X.env)]) : DI X E tg (.Call (.Name "range" p) [a] [] pos) (iRg1 g) :=
  (pi_range1 hg hm ha hs).weak fun σ H Rk ⟨ι, δ, S, rs, re, p⟩ => aOf.step rs re (Post.bind p) fun ι1 H1 S1 ds vs x1 r1 re1 p1 rv1 => by
    unfold rng1 at p1
    split at p1
    · rename_i j
      split at p1
      · rename_i c
        cases rv1 with
        | cons h t =>
          cases h
          cases t
          exact ⟨j, rfl, c.1, c.2, p1 ι1 H1 (.refl ι1 H1) r1 _ JOk.rng⟩
      · exact p1.elim
    · exact p1.elim
end
noncomputable abbrev Fg := D → Dv → Sto → Option Dv
noncomputable def gOf (M : Mo) (n : Nat) (g : Fg) : TG := fun v σ H Q => ∃ ι δ S d, RelS M ι H S ∧ RelE M ι H n σ δ ∧ RD M ι H v d ∧ ∃ δ', g d δ S = some δ' ∧ ∀ σ', RelE M ι H n σ' δ' → Q σ' H
noncomputable abbrev DG (X : Cx) (tg : Expr) (g : Fg) : Prop := PG X tg (gOf X.mo X.N.length g)
theorem PG.weak {X : Cx} {tg : Expr} {t t' : TG} (h : PG X tg t) (w : ∀ v σ H Q, t' v σ H Q → t v σ H Q) : PG X tg t' := fun pins s σ H x u Q I r q => h pins s σ H x u Q I r (w x σ H Q q)
noncomputable def gSet (i : Nat) : Fg := fun d δ _ => some (δ.set i (some d))
section
variable {X : Cx} {E : St → XK} {pos : Pos} {tg e : Expr}
theorem dg_name {i : Nat} {x : Str} (hN : X.N.Nodup) (hi : X.N[i]? = some x) (hx : Loc X.env.scope x) (hf : X.fn x = true ∨ X.env.scope.names.lookup x = some .local) : DG X (.Name x pos) (gSet i) :=
  (pg_name hN hi hx hf).weak fun v σ H Q ⟨ι, δ, S, d, rs, re, rv, δ', e, q⟩ => by
    cases e
    exact q _ (re.set (List.getElem?_eq_some_iff.mp hi).1 rv)
noncomputable def forD (t : Itb) (g : Fg) (b : Fs) : Nat → Nat → Fs
  | 0, _ => fun _ _ => .fail
  | m + 1, i => fun δ S => match cur t S with
    | none => .fail
    | some ds => match ds[i]? with
      | none => .next δ S
      | some d => match g d δ S with
        | none => .fail
        | some δ1 => match noxS (b δ1 S) with
          | .next δ2 S2 => forD t g b m (i + 1) δ2 S2
          | .cnt δ2 S2 => forD t g b m (i + 1) δ2 S2
          | .brk δ2 S2 => .next δ2 S2
          | r => r
noncomputable def sFor (fi : Fi) (g : Fg) (b : Fs) (B : Nat) : Fs := fun δ S => (noxR (fi δ S)).toS δ fun t S1 => forD t g b B 0 δ S1
theorem for_core {g : Fg} {fb : Fs} {B : Nat} {t : Itb} {J : It} {ι1 : List Addr} {H1 : Hp} {S1 : Sto} {δ : Dv} {σ : St} {D : Ends} (jok : JOk X.mo ι1 H1 J t) (r1 : RelS X.mo ι1 H1 S1) (re1 : RelE X.mo ι1 H1 X.N.length σ δ) (p1 : PostS X.mo X.N.length ι1 H1 (forD t g fb B 0 δ S1) D E) :
    ∃ W : Nat → Nat → St → Hp → Prop, (∃ m, W 0 m σ H1) ∧ ∀ i m σ H, W i m σ H → (J.stop i H ∧ D.nx σ H) ∨ (J.go i H ∧ ∃ N : St → Hp → Prop, (∀ σ' H', N σ' H' → ∃ m', m' < m ∧ W (i + 1) m' σ' H') ∧
      ∀ x H', J.yld i H x H' → gOf X.mo X.N.length g x σ H' fun σ2 H2 => sOf X.mo X.N.length En fb { D with nx := N, ct := N, bk := D.nx } σ2 H2) := by
  refine ⟨fun i m σ H => ∃ ι δ S, Ext ι1 H1 ι H ∧ RelS X.mo ι H S ∧ RelE X.mo ι H X.N.length σ δ ∧ PostS X.mo X.N.length ι H (forD t g fb m i δ S) D E, ⟨B, ι1, δ, S1, .refl _ _, r1, re1, p1⟩, ?_⟩
  rintro i m σ H ⟨ι2, δ2, S2, x2, r2, re2, p2⟩
  cases m with
  | zero => exact p2.elim
  | succ m =>
    have p3 : PostS X.mo X.N.length ι2 H (match cur t S2 with | none => .fail | some ds => match ds[i]? with | none => .next δ2 S2 | some d => match g d δ2 S2 with | none => .fail | some δ1 => match noxS (fb δ1 S2) with | .next δ2 S2 => forD t g fb m (i + 1) δ2 S2 | .cnt δ2 S2 => forD t g fb m (i + 1) δ2 S2 | .brk δ2 S2 => .next δ2 S2 | r => r) D E := p2
    cases hcur : cur t S2 with
    | none => rw [hcur] at p3; exact p3.elim
    | some ds =>
      rw [hcur] at p3
      dsimp only at p3
      obtain ⟨j1, j2⟩ := jok ι2 H S2 x2 r2 ds hcur i
      cases hd : ds[i]? with
      | none =>
        rw [hd] at p3
        exact .inl ⟨j2 (List.getElem?_eq_none_iff.mp hd), p3 ι2 H σ (.refl _ _) r2 re2⟩
      | some d =>
        rw [hd] at p3
        dsimp only at p3
        obtain ⟨go, yl⟩ := j1 d hd
        refine .inr ⟨go, fun σ' H' => ∃ ι δ S, Ext ι1 H1 ι H' ∧ RelS X.mo ι H' S ∧ RelE X.mo ι H' X.N.length σ' δ ∧ PostS X.mo X.N.length ι H' (forD t g fb m (i + 1) δ S) D E, fun σ' H' h' => ⟨m, Nat.lt_succ_self m, h'⟩, fun x H' hy => ?_⟩
        obtain ⟨x3, r3, rx⟩ := yl x H' hy
        have re3 := re2.ext x3
        cases hg' : g d δ2 S2 with
        | none => rw [hg'] at p3; exact p3.elim
        | some δ1 =>
          rw [hg'] at p3
          dsimp only at p3
          refine ⟨ι2, δ2, S2, d, r3, re3, rx, δ1, hg', fun σ' re4 => ⟨ι2, δ1, S2, r3, re4, ?_⟩⟩
          have x4 := x2.trans x3
          cases ef : fb δ1 S2 with
          | next δ4 S4 => rw [ef] at p3; exact fun ι' H' σ' x r' re' => ⟨ι', δ4, S4, x4.trans x, r', re', PostS.ext p3 (x3.trans x)⟩
          | cnt δ4 S4 => rw [ef] at p3; exact fun ι' H' σ' x r' re' => ⟨ι', δ4, S4, x4.trans x, r', re', PostS.ext p3 (x3.trans x)⟩
          | brk δ4 S4 => rw [ef] at p3; exact fun ι' H' σ' x r' re' => p3 ι' H' σ' (x3.trans x) r' re'
          | ret v S4 => rw [ef] at p3; exact fun ι' H' σ' x r' re' => p3 ι' H' σ' (x3.trans x) r' re'
          | exc C δ4 S4 => rw [ef] at p3; exact p3.elim
          | fail => rw [ef] at p3; exact p3.elim
theorem ds_for {iter : Expr} {body : List Stmt} {fi : Fi} {g : Fg} {fb : Fs} (B : Nat) (hc : X.calm = true) (hi : DI X.nox En tg iter fi) (hg : DG X.nox tg g) (hb : DSs X.nox En body fb) (hs : ∀ x, foldedSetIterable iter X.env x = pure x) :
    DS X E (.For tg iter body [] pos) (sFor fi g fb B) :=
  (PS.nox (ps_for (X := X.nox) PassesOwn.never hc hi hg hb hs)).weak fun D σ H ⟨ι, δ, S, rs, re, p⟩ => by
    refine itOf.step (M := X.mo) (n := X.N.length) (E := En) rs re (noxR_toS p re) fun ι1 H1 S1 t J x1 r1 re1 p1 jok => ?_
    exact for_core jok r1 re1 p1
end
theorem closure_go (env : Env) : ∀ (names : List (Str × NameKind)) (acc : List (Str × Addr)), (∀ p ∈ names, p.2 = .free → ∃ c, env.cells.lookup p.1 = some c) →
    ∃ cl, (forIn names acc (fun (x : Str × NameKind) (cs : List (Str × Addr)) => if (x.2 == NameKind.free) = true then (do let a ← cellOf env x.1; pure (ForInStep.yield ((x.1, a) :: cs)) : Sem (ForInStep (List (Str × Addr)))) else pure (ForInStep.yield cs)) : Sem (List (Str × Addr))) = pure cl ∧
      (∀ n c, cl.lookup n = some c → acc.lookup n = some c ∨ env.cells.lookup n = some c) ∧ (∀ n, ((n, NameKind.free) ∈ names ∨ ∃ c, acc.lookup n = some c) → ∃ c, cl.lookup n = some c)
  | [], acc, _ => ⟨acc, rfl, fun n c h => .inl h, fun n h => by
      rcases h with h | h
      · cases h
      · exact h⟩
  | (n, k) :: r, acc, h => by
    have hr : ∀ p ∈ r, p.2 = .free → ∃ c, env.cells.lookup p.1 = some c := fun p hp => h p (List.mem_cons_of_mem _ hp)
    by_cases hk : k = .free
    · subst hk
      obtain ⟨c, hc⟩ := h (n, .free) List.mem_cons_self rfl
      obtain ⟨cl, e, h1, h2⟩ := closure_go env r ((n, c) :: acc) hr
      refine ⟨cl, ?_, fun m d hm => ?_, fun m hm => ?_⟩
      · rw [List.forIn_cons]
        have e0 : cellOf env n = pure c := by unfold cellOf; rw [hc]
        simp only [beq_self_eq_true, if_true, e0]
        exact e
      · rcases h1 m d hm with z | z
        · rw [List.lookup_cons] at z
          cases q : m == n with
          | true =>
            rw [q] at z
            cases z
            have : m = n := by simpa using q
            subst this
            exact .inr hc
          | false => rw [q] at z; exact .inl z
        · exact .inr z
      · refine h2 m ?_
        rcases hm with hm | ⟨d, hm⟩
        · rcases List.mem_cons.mp hm with z | z
          · cases z
            exact .inr ⟨c, by rw [List.lookup_cons]; simp⟩
          · exact .inl z
        · refine .inr ?_
          rw [List.lookup_cons]
          cases q : m == n with
          | true => exact ⟨c, rfl⟩
          | false => exact ⟨d, hm⟩
    · obtain ⟨cl, e, h1, h2⟩ := closure_go env r acc hr
      refine ⟨cl, ?_, h1, fun m hm => h2 m ?_⟩
      · rw [List.forIn_cons]
        have : (k == NameKind.free) = false := by simpa using hk
        simp only [this, Bool.false_eq_true, if_false]
        exact e
      · rcases hm with hm | hm
        · rcases List.mem_cons.mp hm with z | z
          · cases z; exact absurd rfl hk
          · exact .inl z
        · exact .inr hm
theorem closure_ok {env : Env} {scope : Scope} (h : ∀ p ∈ scope.names, p.2 = .free → ∃ c, env.cells.lookup p.1 = some c) :
    ∃ cl, closureFor scope env = pure cl ∧ (∀ n c, cl.lookup n = some c → env.cells.lookup n = some c) ∧ (∀ n, (n, NameKind.free) ∈ scope.names → ∃ c, cl.lookup n = some c) := by
  obtain ⟨cl, e, h1, h2⟩ := closure_go env scope.names [] h
  refine ⟨cl, ?_, fun n c q => ?_, fun n q => h2 n (.inl q)⟩
  · simp only [closureFor]
    have e' := congrArg (fun m : Sem (List (Str × Addr)) => m >>= fun s => pure s) e
    exact e'
  · rcases h1 n c q with z | z
    · cases z
    · exact z
theorem relabel_lookup {env : Env} : ∀ {names : List (Str × NameKind)} {x : Str} {k : NameKind},
    (names.map fun (n, k) => if (k == NameKind.free && env.scope.kind == .function && env.kindOf n == some .cell) then (n, NameKind.cell) else (n, k)).lookup x = some k →
      names.lookup x = some k ∨ (k = .cell ∧ names.lookup x = some .free)
  | [], _, _, h => by cases h
  | (n, j) :: r, x, k, h => by
    have ih := @relabel_lookup env r x k
    rw [List.map_cons] at h
    dsimp only at h
    cases hx : x == n with
    | true =>
      by_cases hc : (j == NameKind.free && env.scope.kind == .function && env.kindOf n == some .cell) = true
      · simp only [hc, if_true, List.lookup_cons, hx] at h
        cases h
        refine .inr ⟨rfl, ?_⟩
        simp only [Bool.and_eq_true, beq_iff_eq] at hc
        rw [List.lookup_cons, hx, hc.1.1]
      · rw [if_neg hc] at h
        simp only [List.lookup_cons, hx] at h
        exact .inl (by rw [List.lookup_cons, hx]; exact h)
    | false =>
      have h' : (r.map fun (n, k) => if (k == NameKind.free && env.scope.kind == .function && env.kindOf n == some .cell) then (n, NameKind.cell) else (n, k)).lookup x = some k := by
        by_cases hc : (j == NameKind.free && env.scope.kind == .function && env.kindOf n == some .cell) = true
        · rw [if_pos hc] at h; simpa only [List.lookup_cons, hx] using h
        · rw [if_neg hc] at h; simpa only [List.lookup_cons, hx] using h
      rcases ih h' with z | z
      · exact .inl (by rw [List.lookup_cons, hx]; exact z)
      · exact .inr ⟨z.1, by rw [List.lookup_cons, hx]; exact z.2⟩
theorem lookup_mem {α β : Type} [BEq α] [LawfulBEq α] : ∀ {l : List (α × β)} {a : α} {b : β}, l.lookup a = some b → (a, b) ∈ l
  | [], _, _, h => by cases h
  | (c, d) :: r, a, b, h => by
    rw [List.lookup_cons] at h
    cases q : a == c with
    | true =>
      rw [q] at h
      cases h
      have : a = c := by simpa using q
      subst this
      exact List.mem_cons_self
    | false => rw [q] at h; exact List.mem_cons_of_mem _ (lookup_mem h)
theorem codeAny_compLoop_go {prog : Program} {w : World} {A : Around} {R : Result → Shared → Prop} {s : Shared} {elt target iter : Expr} {ifs : List Expr} {scope : Scope} {pos : Pos} {it acc : Value} {env : Env} (I : Nat → Shared → Prop)
    (turn : ∀ n s, I n s → wpAny (model prog w) A (pyNext it) (fun r s₁ => match r with
      | none => R (.ok .next) s₁
      | some v => wpAny (model prog w) A (letOwnedTupleGo target it v) (fun _ s₁' => wpAny (model prog w) A (assign target env v) (fun _ s₂ =>
          wpAny (model prog w) A (forIn ifs true fun c r => if r = true then do let ok ← isTrue c env (eval c env); pure (ForInStep.yield ok) else pure (ForInStep.yield r)) (fun ok s₃ =>
            if ok = true then wpAny (model prog w) A (eval elt env) (fun x s₄ =>
              wpAny (model prog w) A (call (.builtin "list.append") [acc, x]) (fun _ s₅ => ∃ m, m < n ∧ I m s₅) (notedBy (model prog w) A env fun e s' => R (.error e) s') s₄) (notedBy (model prog w) A env fun e s' => R (.error e) s') s₃
            else ∃ m, m < n ∧ I m s₃) (notedBy (model prog w) A env fun e s' => R (.error e) s') s₂) (notedBy (model prog w) A env fun e s' => R (.error e) s') s₁') (notedBy (model prog w) A env fun e s' => R (.error e) s') s₁) (notedBy (model prog w) A env fun e s' => R (.error e) s') s)
    (n : Nat) (h : I n s) : codeAny (model prog w) A (.compLoop (.ListComp elt [⟨target, iter, ifs, 0⟩] scope pos) 0 it acc env) R s := by
  refine codeAny_loop rfl I (fun n s hI => ?_) n h
  show wpAny _ A ((compTurn (.ListComp elt [⟨target, iter, ifs, 0⟩] scope pos) 0 it acc env).onRaise (fun x => do noteFrame x env; theTreesLotGoes x)) _ _ s
  refine wpAny_noted ?_
  rw [compTurn_list]
  refine wpAny_bind (wpAny_standAt (wpAny_bind (wpAny_mono (turn n s hI) (fun r s₁ h₁ => ?_) fun _ _ h' => h')))
  cases r with
  | none => exact wpAny_pure h₁
  | some v =>
    refine wpAny_bind (wpAny_mono h₁ (fun _ s₁' h₁' => ?_) fun _ _ h' => h')
    refine wpAny_bind (wpAny_mono h₁' (fun _ s₂ h₂ => wpAny_bind (wpAny_mono h₂ (fun ok s₃ h₃ => ?_) fun _ _ h' => h')) fun _ _ h' => h')
    cases ok with
    | false => exact wpAny_pure ⟨rfl, h₃⟩
    | true =>
      exact wpAny_bind (wpAny_bind (wpAny_mono h₃ (fun x s₄ h₄ => wpAny_bind (wpAny_mono h₄ (fun _ s₅ h₅ => wpAny_pure (wpAny_pure ⟨rfl, h₅⟩)) fun _ _ h' => h')) fun _ _ h' => h'))
noncomputable def compX (X : Cx) (N' : List Str) (scope : Scope) (cl : List (Str × Addr)) (C : Addr) (s₃ : Shared) (H₃ : Hp) (ex : List Addr) : Cx :=
  { X with N := N', s₀ := s₃, H₀ := H₃, env := compEnvC scope cl C X.env, outer := X.stack, ex := ex, fn := fun _ => false, pn := [], xe := fun _ _ => False }
noncomputable def maskL {α : Type} (is : List Nat) (l : List (Option α)) : List (Option α) := is.foldl (fun l i => l.set i none) l
theorem maskL_length {α : Type} : ∀ (is : List Nat) (l : List (Option α)), (maskL is l).length = l.length
  | [], _ => rfl
  | i :: is, l => by
    show (maskL is (l.set i none)).length = _
    rw [maskL_length is, List.length_set]
theorem maskL_get {α : Type} : ∀ {is : List Nat} {l : List (Option α)} {j : Nat} {v : α}, (maskL is l)[j]? = some (some v) → j ∉ is ∧ l[j]? = some (some v)
  | [], _, _, _, h => ⟨by simp, h⟩
  | i :: is, l, j, v, h => by
    have h' : (maskL is (l.set i none))[j]? = some (some v) := h
    obtain ⟨h1, h2⟩ := maskL_get h'
    by_cases e : j = i
    · subst e
      by_cases hl : j < l.length
      · rw [List.getElem?_set_self hl] at h2; cases h2
      · rw [List.getElem?_eq_none (by rw [List.length_set]; omega)] at h2; cases h2
    · rw [List.getElem?_set_ne (Ne.symm e)] at h2
      exact ⟨by simp [e, h1], h2⟩
theorem get_maskL {α : Type} : ∀ {is : List Nat} {l : List (Option α)} {j : Nat} {o : Option α}, j ∉ is → l[j]? = some o → (maskL is l)[j]? = some o
  | [], _, _, _, _, h => h
  | i :: is, l, j, v, hj, h => by
    show (maskL is (l.set i none))[j]? = _
    refine get_maskL (fun z => hj (List.mem_cons_of_mem _ z)) ?_
    rw [List.getElem?_set_ne (fun z => hj (by simp [z]))]
    exact h
structure CompSc (X : Cx) (N' more : List Str) (is : List Nat) (scope : Scope) : Prop where
  kind : scope.kind = .function
  cell : ∀ y ∈ scope.names, y.2 ≠ .cell
  names : ∀ x ∈ scope.names, x.2 = .local → scope.names.lookup x.1 = some .local
  free : ∀ x ∈ scope.names, x.2 = .free → X.env.kindOf x.1 = some .cell ∨ X.env.kindOf x.1 = some .free
  N : N' = X.N ++ more
  loc : ∀ (j : Nat) y, N'[j]? = some y → scope.names.lookup y = some .local → j ∈ is
  more : ∀ y ∈ more, scope.names.lookup y = some .local
section
variable {X : Cx} {pins : List (Addr × Obj)} {σ : St} {H : Hp} {s : Shared} {N' more : List Str} {is : List Nat} {scope : Scope} {cl : List (Str × Addr)} {C : Addr} {ex : List Addr}
theorem comp_ok (sc : CompSc X N' more is scope) (I : Inv X pins σ H s) (c1 : ∀ n c, cl.lookup n = some c → X.env.cells.lookup n = some c) (c2 : ∀ n, (n, NameKind.free) ∈ scope.names → ∃ c, cl.lookup n = some c) (hC : s.heap.objs.size ≤ C)
    (hex : ∀ b ∈ ex, H b = none ∧ b < s.heap.objs.size ∧ b ≠ X.env.locals ∧ b ∉ X.fs ∧ (b ∈ X.ex ∨ X.s₀.heap.objs.size ≤ b) ∧ ∀ x c, X.env.cells.lookup x = some c → c ≠ b) : (compX X N' scope cl C s H ex).Ok where
  mod := I.ok.mod
  kind := sc.kind
  glob := I.ok.glob
  blt := I.ok.blt
  above := hC
  inj := fun x y c h1 h2 => I.ok.inj x y c (c1 x c h1) (c1 y c h2)
  has := fun x hx => by
    have hx' : (relabel scope X.env).names.lookup x = some .cell ∨ (relabel scope X.env).names.lookup x = some .free := hx
    have hf : scope.names.lookup x = some .free := by
      rcases hx' with h | h
      · rcases relabel_lookup h with z | z
        · exact absurd rfl (sc.cell _ (lookup_mem z))
        · exact z.2
      · rcases relabel_lookup h with z | z
        · exact z
        · cases z.1
    exact c2 x (lookup_mem hf)
  cab := fun x c h => nomatch h
  hd := I.ok.hd
  frames := I.ok.frames
  stk := .inl rfl
  exf := fun b hb => ⟨Nat.ne_of_lt (Nat.lt_of_lt_of_le (hex b hb).2.1 hC), fun x c e => (hex b hb).2.2.2.2.2 x c (c1 x c e)⟩
  bs := fun b o e => I.bs b o e
  bsz := Nat.le_trans I.ok.bsz I.sz
  noex := fun b o e hb => by
    rcases (hex b hb).2.2.2.2.1 with z | z
    · exact I.ok.noex b o e z
    · exact absurd (Nat.lt_of_lt_of_le (Heap.lt_size e) (Nat.le_trans I.ok.bsz z)) (Nat.lt_irrefl _)
  exfs := fun b hb z => by
    rcases List.mem_cons.mp (I.stkSub b z) with q | q
    · exact (hex b hb).2.2.1 q
    · exact (hex b hb).2.2.2.1 q
  funs := I.stack
  frf := I.stkFree
theorem comp_inv (sc : CompSc X N' more is scope) (I : Inv X pins σ H s) (c1 : ∀ n c, cl.lookup n = some c → X.env.cells.lookup n = some c) (c2 : ∀ n, (n, NameKind.free) ∈ scope.names → ∃ c, cl.lookup n = some c) (hC : C = s.heap.objs.size)
    (hex : ∀ b ∈ ex, H b = none ∧ b < s.heap.objs.size ∧ b ≠ X.env.locals ∧ b ∉ X.fs ∧ (b ∈ X.ex ∨ X.s₀.heap.objs.size ≤ b) ∧ ∀ x c, X.env.cells.lookup x = some c → c ≠ b) {h4 : Heap} {tk : Nat} {m : Str → Option Value}
    (hk : ∀ b o, s.heap.get? b = some o → h4.get? b = some o) (hn : h4.Ns C m) : Inv (compX X N' scope cl C s H ex) [] (maskL is (σ ++ List.replicate more.length none)) H { s with heap := h4, toks := tk } := by
  refine ⟨comp_ok sc I c1 c2 (Nat.le_of_eq hC.symm) hex, rfl, I.bare, Un.kept hk, ⟨m, hn, fun j y v h1 h2 h3 => ?_⟩, fun x c e => ?_, ?_, fun x c e => I.freeC x c (c1 x c e), fun p hp => ?_, I.hok.kept hk, ?_⟩
  · obtain ⟨hj, h2'⟩ := maskL_get h2
    have h3' : (relabel scope X.env).names.lookup y = some .local ∨ (relabel scope X.env).names.lookup y = some .cell ∨ (relabel scope X.env).names.lookup y = some .free := h3
    have h1' : N'[j]? = some y := h1
    have hf : scope.names.lookup y = some .free ∧ ((relabel scope X.env).names.lookup y = some .cell ∨ (relabel scope X.env).names.lookup y = some .free) := by
      rcases h3' with h | h | h
      · rcases relabel_lookup h with z | z
        · exact absurd (sc.loc j y h1' z) hj
        · cases z.1
      · rcases relabel_lookup h with z | z
        · exact absurd rfl (sc.cell _ (lookup_mem z))
        · exact ⟨z.2, .inl h⟩
      · rcases relabel_lookup h with z | z
        · exact ⟨z, .inr h⟩
        · cases z.1
    have hlt : j < σ.length := by
      by_cases q : j < σ.length
      · exact q
      · rw [List.getElem?_append_right (by omega), List.getElem?_replicate] at h2'
        split at h2' <;> cases h2'
    rw [List.getElem?_append_left hlt] at h2'
    have hN : X.N[j]? = some y := by
      rw [sc.N, List.getElem?_append_left (by rw [← I.len]; exact hlt)] at h1'
      exact h1'
    have hk2 := sc.free _ (lookup_mem hf.1) rfl
    obtain ⟨m0, hn0, hl⟩ := I.loc
    obtain ⟨u, r, lk⟩ := hl j y v hN h2' (by
      rcases hk2 with z | z
      · exact .inr (.inl z)
      · exact .inr (.inr z))
    refine ⟨u, r, .inr ⟨hf.2, ?_⟩⟩
    rcases lk with ⟨z, _⟩ | ⟨_, c, e, z⟩
    · rcases hk2 with q | q <;> (rw [z] at q; cases q)
    · obtain ⟨c', e'⟩ := c2 y (lookup_mem hf.1)
      have := c1 y c' e'
      rw [e] at this
      cases this
      obtain ⟨o, ho, hd⟩ := z
      exact ⟨c, e', o, hk c o ho, hd⟩
  · obtain ⟨v, o, ho, hd⟩ := I.cell x c (c1 x c e)
    exact ⟨v, o, hk c o ho, hd⟩
  · exact I.hok.fresh (Nat.le_of_eq hC.symm)
  · exact absurd (show p ∈ ([] : List (Addr × Obj)) from hp) (by simp)
  · show (maskL is (σ ++ List.replicate more.length none)).length = N'.length
    rw [maskL_length, List.length_append, List.length_replicate, I.len, sc.N, List.length_append]
end
noncomputable def optT : Option Fb → Fb
  | none => fun _ S => .ok true S
  | some f => f
noncomputable def compD (t : Itb) (g : Fg) (c : Option Fb) (f : Fd) : Nat → Nat → Dv → Sto → R (List D)
  | 0, _ => fun _ _ => .fail
  | m + 1, i => fun δ S => match cur t S with
    | none => .fail
    | some ds => match ds[i]? with
      | none => .ok [] S
      | some d => if i < lim then (match g d δ S with
        | none => .fail
        | some δ1 => (optT c δ1 S).bind fun k S1 => if k = true then (f δ1 S1).bind fun y S2 => (compD t g c f m (i + 1) δ S2).bind fun ys S3 => .ok (y :: ys) S3 else compD t g c f m (i + 1) δ S1) else .fail
noncomputable def fComp (fi : Fi) (is : List Nat) (k : Nat) (g : Fg) (c : Option Fb) (f : Fd) (B : Nat) : Fd := fun δ S =>
  noxR ((fi δ S).bind fun t S1 => (compD t g c f B 0 (maskL is (δ ++ List.replicate k none)) S1).bind mkLst)
theorem RelE.mask {M : Mo} {ι : List Addr} {H : Hp} {n k : Nat} {σ : St} {δ : Dv} {is : List Nat} (h : RelE M ι H n σ δ) : RelE M ι H (n + k) (maskL is (σ ++ List.replicate k none)) (maskL is (δ ++ List.replicate k none)) := by
  refine ⟨by rw [maskL_length, List.length_append, List.length_replicate, h.len], by rw [maskL_length, List.length_append, List.length_replicate]; have := h.dl; omega, fun i d q => ?_⟩
  obtain ⟨h1, h2⟩ := maskL_get q
  by_cases hi : i < δ.length
  · rw [List.getElem?_append_left hi] at h2
    obtain ⟨v, h3, h4⟩ := h.get i d h2
    exact ⟨v, get_maskL h1 (by rw [List.getElem?_append_left (List.getElem?_eq_some_iff.mp h3).1]; exact h3), h4⟩
  · rw [List.getElem?_append_right (by omega), List.getElem?_replicate] at h2
    split at h2 <;> cases h2
section
variable {X : Cx} {E : St → XK} {elt tg iter : Expr} {ifs : List Expr} {scope : Scope} {pos : Pos} {N' more : List Str} {is : List Nat} {fi : Fi} {g : Fg} {c : Option Fb} {f : Fd}
noncomputable def PTs (X : Cx) (ifs : List Expr) (t : TT) : Prop :=
  ∀ (pins : List (Addr × Obj)) (s : Shared) (σ : St) (H : Hp) (Q : Bool → Hp → Prop), Inv X pins σ H s → t σ H Q →
    wpAny (model X.prog X.w) X.A (forIn ifs true fun c r => if r = true then do let ok ← isTrue c X.env (eval c X.env); pure (ForInStep.yield ok) else pure (ForInStep.yield r)) (TP X pins σ Q) X.xe s
theorem pts_nil : PTs X [] (bOf X.mo X.N.length En (optT none)) := fun pins s σ H Q I ⟨ι, δ, S, rs, re, p⟩ => wpAny_tests_nil ⟨H, I, p ι H (.refl ι H) rs⟩
theorem pts_one {e : Expr} {fb : Fb} (h : DT X En e fb) : PTs X [e] (bOf X.mo X.N.length En (optT (some fb))) := fun pins s σ H Q I q => wpAny_tests_one (h pins s σ H Q I q)
theorem comp_run (B : Nat) (hcm : X.calm = true) (sc : CompSc X N' more is scope) (hi : DI X.nox En tg iter fi) (hs : ∀ x, foldedSetIterable iter X.env x = pure x)
    (hg : ∀ cl C s₃ H₃ ex, DG (compX X N' scope cl C s₃ H₃ ex) tg g) (hc : ∀ cl C s₃ H₃ ex, PTs (compX X N' scope cl C s₃ H₃ ex) ifs (bOf X.mo N'.length En (optT c)))
    (he : ∀ cl C s₃ H₃ ex, DE (compX X N' scope cl C s₃ H₃ ex) En elt f)
    (hgk : ∀ (d : D) (δ δ1 : Dv) (S : Sto), g d δ S = some δ1 → (∀ i ∈ is, ∀ d', δ[i]? ≠ some (some d')) → ∀ (j : Nat) d', δ[j]? = some (some d') → δ1[j]? = some (some d'))
    {pins : List (Addr × Obj)} {s : Shared} {σ : St} {H : Hp} {Q : VK} {use : Option (Value → Sem Unit)} {Qf : Value → Shared → Prop} (I : Inv X pins σ H s) (h : tOf X.mo X.N.length E (fComp fi is more.length g c f B) σ H Q)
    (hfin : ∀ (s' : Shared) (H' : Hp) (C Da : Addr) (oC : Obj) (m : Str → Option Value), Inv X (pins ++ [(C, oC)]) σ H' s' → s'.heap.Ns C m → (∀ h' : Heap, h'.get? C = some oC → h'.Ns C m) → X.s₀.heap.objs.size ≤ C → (∀ p ∈ X.pn ++ pins, p.1 ≠ C) →
      (∀ x c, X.env.cells.lookup x = some c → c ≠ C) → Q (.ref Da) H' → compPost (model X.prog X.w) X.A X.xe use Qf (.ref Da) C (.ok .next) s') :
    wpAny (model X.prog X.w) X.A (comprehension (.ListComp elt [⟨tg, iter, ifs, 0⟩] scope pos) scope X.env (firstIterPos [⟨tg, iter, ifs, 0⟩] pos) (newList []) (firstAsync [⟨tg, iter, ifs, 0⟩]) (firstIter [⟨tg, iter, ifs, 0⟩] X.env) use) Qf X.xe s := by
  obtain ⟨ι, δ, S, rs, re, p⟩ := h
  have p := Post.nox (E' := fun _ _ => False) p
  obtain ⟨cl, hcl, c1, c2⟩ := closure_ok (env := X.env) (scope := scope) (fun x hx hf => I.ok.has x.1 (sc.free x hx hf))
  refine wpAny_comprehension_free (use := use) rfl hs hcl sc.kind sc.names ?_
  have hlenN : N'.length = X.N.length + more.length := by rw [sc.N, List.length_append]
  refine wpAny_mono (hi pins s σ H (fun J H1 => ∃ ι1 S1 t, Ext ι H ι1 H1 ∧ RelS X.mo ι1 H1 S1 ∧ RelE X.mo ι1 H1 X.N.length σ δ ∧ JOk X.mo ι1 H1 J t ∧
      Post X.mo ι1 H1 ((compD t g c f B 0 (maskL is (δ ++ List.replicate more.length none)) S1).bind mkLst) (fun ι' H' _ d => ∀ v, RD X.mo ι' H' v d → Q v H') (fun _ _ => False)) (I.wish _)
      (itOf.step (M := X.mo) (n := X.N.length) (E := En) rs re (Post.mono (Post.bind (r := fi δ S) p) (fun _ _ _ _ _ _ q => q) fun _ _ z => z.elim) fun ι1 H1 S1 t J x1 r1 re1 p1 jok => ⟨ι1, S1, t, x1, r1, re1, jok, p1⟩))
    (fun v s1 h1 => wpAny_mono h1 (fun itv s2 h2 => ?_) fun _ _ z => z.elim) fun _ _ z => z.elim
  obtain ⟨it, fp, tn, J, H2, e, I2n, T, st2, f2, ι1, S1, t, x1, r1, re1, jok, p1⟩ := h2
  subst e
  have I2 : Inv X pins σ H2 s2 := I2n.unwish
  have fpo : ∀ b ∈ fp, ∃ o, s2.heap.get? b = some o := fun b hb => let ⟨o, e, _⟩ := T.obj _ _ st2 b hb; ⟨o, e⟩
  generalize hδm : maskL is (δ ++ List.replicate more.length none) = δm at p1
  have remask : RelE X.mo ι1 H2 N'.length (maskL is (σ ++ List.replicate more.length none)) δm := by
    rw [hlenN, ← hδm]; exact re1.mask
  have hmask : ∀ i ∈ is, ∀ d', δm[i]? ≠ some (some d') := fun i hi' d' z => by
    rw [← hδm] at z
    exact (maskL_get z).1 hi'
  refine wpAny_newObj_type (wpAny_newFunctionEnv sc.cell (by intro y hy; simp at hy) (fun h4 hns hsb => ?_) sc.kind)
  dsimp only at hns hsb ⊢
  generalize hh3 : s2.heap.push { cls := .type "list", dict := none, data := .seq ([] : List Value).toArray } = h3 at hns hsb ⊢
  have sz3 : h3.objs.size = s2.heap.objs.size + 1 := by rw [← hh3, Heap.size_push]
  have old3 : ∀ b o, s2.heap.get? b = some o → h3.get? b = some o := fun b o e => by rw [← hh3]; exact Heap.get?_push_of_some _ e
  have acc3 : h3.get? s2.heap.objs.size = some { cls := .type "list", data := .seq ([] : List Value).toArray } := by rw [← hh3]; exact Heap.get?_push_size _ rfl
  have I3 : Inv X pins σ H2 { s2 with heap := h3 } := I2.kept (t' := s2.toks) old3
  have hD : H2 s2.heap.objs.size = none := I2.hok.fresh (Nat.le_refl _)
  have hDfp : s2.heap.objs.size ∉ fp := fun z => by
    obtain ⟨o, e⟩ := fpo _ z
    exact absurd (Heap.lt_size e) (Nat.lt_irrefl _)
  have cellLt : ∀ x c, X.env.cells.lookup x = some c → c < s2.heap.objs.size := fun x c e => by
    obtain ⟨v, o, ho, _⟩ := I2.cell x c e
    exact Heap.lt_size ho
  have hex : ∀ b ∈ s2.heap.objs.size :: fp, H2 b = none ∧ b < h3.objs.size ∧ b ≠ X.env.locals ∧ b ∉ X.fs ∧ (b ∈ X.ex ∨ X.s₀.heap.objs.size ≤ b) ∧ ∀ x c, X.env.cells.lookup x = some c → c ≠ b := fun b hb => by
    rcases List.mem_cons.mp hb with rfl | hb
    · exact ⟨hD, by rw [sz3]; exact Nat.lt_succ_self _, Nat.ne_of_gt I2.lt, I2.nofs (Nat.le_refl _), .inr I2.sz, fun x c e => Nat.ne_of_lt (cellLt x c e)⟩
    · obtain ⟨q0, q1, q2, q3, q4, _⟩ := f2 b hb
      obtain ⟨o, e⟩ := fpo b hb
      exact ⟨q0, by rw [sz3]; exact Nat.lt_succ_of_lt (Heap.lt_size e), q1, q2, q3, q4⟩
  have neC : ∀ b o, h3.get? b = some o → b ≠ h3.objs.size := fun b o e => Nat.ne_of_lt (Heap.lt_size e)
  have old4 : ∀ b o, h3.get? b = some o → h4.get? b = some o := fun b o e => hsb.extBut b o (neC b o e) (Heap.get?_push_of_some _ e)
  have XI := comp_inv (C := h3.objs.size) (s := { s2 with heap := h3 }) sc I3 c1 c2 rfl hex (h4 := h4) (tk := s2.toks) old4 hns
  have hg' := hg cl h3.objs.size { s2 with heap := h3 } H2 (s2.heap.objs.size :: fp)
  have hc' := hc cl h3.objs.size { s2 with heap := h3 } H2 (s2.heap.objs.size :: fp)
  have he' := he cl h3.objs.size { s2 with heap := h3 } H2 (s2.heap.objs.size :: fp)
  have henv : (compX X N' scope cl h3.objs.size { s2 with heap := h3 } H2 (s2.heap.objs.size :: fp)).env = compEnvC scope cl h3.objs.size X.env := rfl
  generalize hXc : compX X N' scope cl h3.objs.size { s2 with heap := h3 } H2 (s2.heap.objs.size :: fp) = Xc at XI hg' hc' he' henv
  have hprog : Xc.prog = X.prog := by rw [← hXc]; rfl
  have hw : Xc.w = X.w := by rw [← hXc]; rfl
  have hA : Xc.A = X.A := by rw [← hXc]; rfl
  have hK : Xc.K = X.K := by rw [← hXc]; rfl
  have hcal : Xc.calm = true := by rw [← hXc]; exact hcm
  have hmo : Xc.mo = X.mo := by rw [← hXc]; rfl
  have hNc : Xc.N = N' := by rw [← hXc]; rfl
  have hloc : Xc.env.locals = h3.objs.size := by rw [← hXc]; rfl
  have hfs : Xc.fs = frs X.stack := by rw [← hXc]; rfl
  have hexc : Xc.ex = s2.heap.objs.size :: fp := by rw [← hXc]; rfl
  have hs0 : Xc.s₀ = { s2 with heap := h3 } := by rw [← hXc]; rfl
  have hH0 : Xc.H₀ = H2 := by rw [← hXc]; rfl
  have hpn : Xc.pn = [] := by rw [← hXc]; rfl
  have hcells : Xc.env.cells = cl := by rw [← hXc]; rfl
  have hxe : ∀ e s', ¬ Xc.xe e s' := by rw [← hXc]; exact fun _ _ z => z
  have Tc : Turn Xc.prog Xc.w Xc.K tg J fp it tn := by rw [hprog, hw, hK]; exact T
  have fpk : ∀ {H' : Hp} {o : Obj}, (∀ b ∈ fp, H' b = none) → ∀ b ∈ fp, FpOk Xc [(s2.heap.objs.size, o)] H' b := fun {H' o} hn b hb => by
    obtain ⟨_, q1, q2, q3, q4, q5⟩ := hex b (List.mem_cons_of_mem _ hb)
    refine ⟨hn b hb, by rw [hloc]; exact Nat.ne_of_lt q1, ?_, by rw [hexc]; exact .inl (List.mem_cons_of_mem _ hb), fun x c e => q5 x c (c1 x c (by rw [hcells] at e; exact e)), fun p hp => ?_⟩
    · rw [hfs]
      intro z
      rcases List.mem_cons.mp (I2.stkSub b z) with y | y
      · exact q2 y
      · exact q3 y
    · rw [hpn] at hp
      have e : p = (s2.heap.objs.size, o) := by simpa using hp
      subst e
      intro z
      have z' : s2.heap.objs.size = b := z
      exact hDfp (by rw [z']; exact hb)
  have dfs : s2.heap.objs.size ∉ Xc.fs := by
    rw [hfs]
    intro z
    obtain ⟨_, _, q2, q3, _⟩ := hex _ List.mem_cons_self
    rcases List.mem_cons.mp (I2.stkSub _ z) with y | y
    · exact q2 y
    · exact q3 y
  have dloc : s2.heap.objs.size ≠ Xc.env.locals := by rw [hloc]; exact Nat.ne_of_lt (hex _ List.mem_cons_self).2.1
  have dcell : ∀ x c, Xc.env.cells.lookup x = some c → c ≠ s2.heap.objs.size := fun x c e => (hex _ List.mem_cons_self).2.2.2.2.2 x c (c1 x c (by rw [hcells] at e; exact e))
  have pinD : ∀ {σ' : St} {H' : Hp} {s' : Shared} {pn' : List (Addr × Obj)} {us : List Value} {k : Nat}, Inv Xc pn' σ' H' s' → H' s2.heap.objs.size = none → s'.heap.get? s2.heap.objs.size = some { cls := .type "list", data := .seq us.toArray k } →
      Inv Xc [(s2.heap.objs.size, { cls := .type "list", data := .seq us.toArray k })] σ' H' s' := fun {σ' H' s' pn' us k} J' n e => J'.pins_of fun p hp => by
    have e' : p = (s2.heap.objs.size, { cls := .type "list", data := .seq us.toArray k }) := by simpa using hp
    subst e'
    exact ⟨e, n, dloc, dfs, fun v z => by cases z⟩
  have fin : ∀ {σ' : St} {H' : Hp} {s' : Shared} {us : List Value} {vs : List V} {k : Nat} {ι' : List Addr} {S' : Sto} {ds : List D}, Inv Xc [(s2.heap.objs.size, { cls := .type "list", data := .seq us.toArray k })] σ' H' s' → Vals vs us → RelS X.mo ι' H' S' → RDs X.mo ι' H' vs ds →
      Post X.mo ι' H' (mkLst ds S') (fun ι' H' _ d => ∀ v, RD X.mo ι' H' v d → Q v H') (fun _ _ => False) →
      compPost (model X.prog X.w) X.A X.xe use Qf (.ref s2.heap.objs.size) h3.objs.size (.ok .next) s' := fun {σ' H' s' us vs k ι' S' ds} J' rv rS rd q => by
    obtain ⟨m', hn', _⟩ := id J'.loc
    rw [hloc] at hn'
    obtain ⟨eD, nD, _⟩ := J'.pin (s2.heap.objs.size, { cls := .type "list", data := .seq us.toArray k }) (by simp)
    have hCn : H' h3.objs.size = none := by have := J'.free; rw [hloc] at this; exact this
    obtain ⟨z1, z2⟩ := post_lst rS rd q
    have un := J'.base
    rw [hfs, hexc, hs0, hH0] at un
    have hok' : HOk X.prog X.w H' s'.heap := by have hk := J'.hok; rw [hprog, hw] at hk; exact hk
    have os' : s'.os = s2.os := by have := J'.os; rw [hs0] at this; exact this
    have I8 : Inv X pins σ H' s' := I3.call' (ch := s2.heap.objs.size :: fp) (s' := s') os' un hok' J'.bare (fun b hb => by
      obtain ⟨_, _, q2, q3, q4, q5⟩ := hex b hb
      refine ⟨q4, q2, q5, fun p hp z => ?_⟩
      rcases List.mem_cons.mp hb with y | y
      · have := (I2.pin p hp).1
        rw [z, y] at this
        exact absurd (Heap.lt_size this) (Nat.lt_irrefl _)
      · exact (f2 b y).2.2.2.2.2 p hp z)
    have pinLt : ∀ p ∈ X.pn ++ pins, p.1 < s2.heap.objs.size := fun p hp => Heap.lt_size (I2.pin p hp).1
    have I9 : Inv X pins σ (upd H' s2.heap.objs.size (.lst vs)) s' := by
      refine inv_track I8 nD ?_ (hex _ List.mem_cons_self).2.2.1 (hex _ List.mem_cons_self).2.2.2.2.2 (fun p hp z => Nat.lt_irrefl _ (z ▸ pinLt p hp)) ⟨z1, us, k, rv, eD⟩
      cases e : X.s₀.heap.get? s2.heap.objs.size with
      | none => rfl
      | some o => exact absurd (Nat.lt_of_lt_of_le (Heap.lt_size e) I2.sz) (Nat.lt_irrefl _)
    obtain ⟨oC, es, ep, eC, dC, rC⟩ := id hn'
    have hDC : s2.heap.objs.size < h3.objs.size := (hex _ List.mem_cons_self).2.1
    have I10 : Inv X (pins ++ [(h3.objs.size, oC)]) σ (upd H' s2.heap.objs.size (.lst vs)) s' := I9.pins_of fun p hp => by
      rcases List.mem_append.mp hp with hp | hp
      · exact I9.pin p (List.mem_append_right _ hp)
      · have e : p = (h3.objs.size, oC) := by simpa using hp
        subst e
        exact ⟨eC, by rw [upd_ne (Nat.ne_of_gt hDC)]; exact hCn, Nat.ne_of_gt (Nat.lt_of_lt_of_le I2.lt (Nat.le_of_lt hDC)), I2.nofs (Nat.le_of_lt hDC), fun v z => by rw [dC] at z; cases z⟩
    exact hfin s' _ h3.objs.size s2.heap.objs.size oC m' I10 hn' (fun h' e => ⟨oC, es, ep, e, dC, rC⟩) (Nat.le_trans I2.sz (Nat.le_of_lt hDC)) (fun p hp => Nat.ne_of_lt (Nat.lt_trans (pinLt p hp) hDC)) (fun x c e => Nat.ne_of_lt (Nat.lt_trans (cellLt x c e) hDC)) (z2 _ nD)
  have loop : ∀ s4 : Shared, s4 = { s2 with heap := h4, toks := s2.toks } →
      codeAny (model X.prog X.w) X.A (.compLoop (.ListComp elt [⟨tg, iter, ifs, 0⟩] scope pos) 0 (.ref it) (.ref s2.heap.objs.size) (compEnvC scope cl h3.objs.size X.env))
        (compPost (model X.prog X.w) X.A X.xe use Qf (.ref s2.heap.objs.size) h3.objs.size) s4 := by
    rintro s4 rfl
    rw [← henv, ← hprog, ← hw, ← hA] at *
    refine codeAny_compLoop_go (fun n s' => ∃ (i : Nat) (σ' : St) (H' : Hp) (us : List Value) (vs : List V) (k : Nat) (ι' : List Addr) (S' : Sto) (ds : List D),
      Inv Xc [(s2.heap.objs.size, { cls := .type "list", data := .seq us.toArray k })] σ' H' s' ∧ tn i s'.heap ∧ (∀ b ∈ fp, H' b = none) ∧ Vals vs us ∧ us.length ≤ i ∧ Ext ι1 H2 ι' H' ∧ RelS X.mo ι' H' S' ∧ RelE X.mo ι' H' N'.length σ' δm ∧ RDs X.mo ι' H' vs ds ∧
        Post X.mo ι' H' (compD t g c f n i δm S') (fun ι'' H'' S'' ds' => Post X.mo ι'' H'' (mkLst (ds ++ ds') S'') (fun ι' H' _ d => ∀ v, RD X.mo ι' H' v d → Q v H') (fun _ _ => False)) (fun _ _ => False)) ?_ B ?_
    · rintro n s' ⟨i, σ', H', us, vs, k, ι', S', ds, J', st', fn', rv, hl, x', rS, rE, rd, q⟩
      cases n with
      | zero => exact q.elim
      | succ n =>
        have q' : Post X.mo ι' H' (match cur t S' with | none => .fail | some ds => match ds[i]? with | none => .ok [] S' | some d => if i < lim then (match g d δm S' with | none => .fail | some δ1 => (optT c δ1 S').bind fun k S1 => if k = true then (f δ1 S1).bind fun y S2 => (compD t g c f n (i + 1) δm S2).bind fun ys S3 => .ok (y :: ys) S3 else compD t g c f n (i + 1) δm S1) else .fail) (fun ι'' H'' S'' ds' => Post X.mo ι'' H'' (mkLst (ds ++ ds') S'') (fun ι' H' _ d => ∀ v, RD X.mo ι' H' v d → Q v H') (fun _ _ => False)) (fun _ _ => False) := q
        cases hcur : cur t S' with
        | none => rw [hcur] at q'; exact q'.elim
        | some items =>
          rw [hcur] at q'
          dsimp only at q'
          obtain ⟨j1, j2⟩ := jok ι' H' S' x' rS items hcur i
          have dne : H' s2.heap.objs.size = none := (J'.pin (s2.heap.objs.size, { cls := .type "list", data := .seq us.toArray k }) (by simp)).2.1
          cases hd : items[i]? with
          | none =>
            rw [hd] at q'
            have q2 : Post X.mo ι' H' (mkLst (ds ++ []) S') (fun ι' H' _ d => ∀ v, RD X.mo ι' H' v d → Q v H') (fun _ _ => False) := q' ι' H' (.refl _ _) rS
            rw [List.append_nil] at q2
            refine wpAny_mono (Tc.done Xc rfl rfl rfl hcal i _ s' σ' H' _ J' (fpk fn') st' (j2 (List.getElem?_eq_none_iff.mp hd))) (fun r s1 ⟨hr, J1⟩ => ?_) fun _ _ z => z
            subst hr
            exact fin J1 rv rS rd q2
          | some d =>
            rw [hd] at q'
            dsimp only at q'
            by_cases hlim : i < lim
            · rw [if_pos hlim] at q'
              obtain ⟨go, yl⟩ := j1 d hd
              refine wpAny_mono (Tc.item Xc rfl rfl rfl hcal i _ s' σ' H' _ J' (fpk fn') st' go) (fun r s1' ⟨u, hr, h1'⟩ => ?_) fun _ _ z => z
              subst hr
              refine wpAny_mono h1' (fun _ s5 ⟨x, H5, J5, r5, y5, st5, fr5⟩ => ?_) fun _ _ z => z
              obtain ⟨x5, rS5, rx5⟩ := yl x H5 y5
              have rE5 := rE.ext x5
              cases hgd : g d δm S' with
              | none => rw [hgd] at q'; exact q'.elim
              | some δ1 =>
                rw [hgd] at q'
                dsimp only at q'
                have q5 := Post.bind (Post.ext q' x5)
                have J5' := J5.pinned (fpk fr5) (Tc.obj _ _ st5)
                refine wpAny_mono (hg' _ s5 σ' H5 x u (fun σ2 H' => H' = H5 ∧ RelE X.mo ι' H5 N'.length σ2 δ1) J5' r5 ?_) (fun _ s6 ⟨σ6, H6, J6, e6, rE6⟩ => ?_) (fun _ _ z => (hxe _ _ z).elim)
                · rw [hmo, hNc]
                  exact ⟨ι', δm, S', d, rS5, rE5, rx5, δ1, hgd, fun σ2 r => ⟨rfl, r⟩⟩
                subst e6
                refine wpAny_mono (hc' _ s6 σ6 H6 (fun b H7 => ∃ ι7 S7, Ext ι' H6 ι7 H7 ∧ RelS X.mo ι7 H7 S7 ∧ RelE X.mo ι7 H7 N'.length σ6 δ1 ∧ Post X.mo ι7 H7 (if b = true then (f δ1 S7).bind fun y S2 => (compD t g c f n (i + 1) δm S2).bind fun ys S3 => .ok (y :: ys) S3 else compD t g c f n (i + 1) δm S7) (fun ι'' H'' S'' ds' => Post X.mo ι'' H'' (mkLst (ds ++ ds') S'') (fun ι' H' _ d => ∀ v, RD X.mo ι' H' v d → Q v H') (fun _ _ => False)) (fun _ _ => False)) J6
                  (bOf.step rS5 rE6 (Post.mono q5 (fun _ _ _ _ _ _ q => q) fun _ _ z => z.elim) fun ι7 H7 S7 b x7 r7 re7 p7 => ⟨ι7, S7, x7, r7, re7, p7⟩)) (fun ok s7 ⟨H7, J7, ι7, S7, x7, r7, re7, p7⟩ => ?_) (fun _ _ z => (hxe _ _ z).elim)
                have weak : ∀ {ι9 : List Addr} {H9 : Hp}, RelE X.mo ι9 H9 N'.length σ6 δ1 → RelE X.mo ι9 H9 N'.length σ6 δm := fun r => ⟨r.len, remask.dl, fun j d' e => r.get j d' (hgk d δm δ1 S' hgd hmask j d' e)⟩
                cases ok with
                | false =>
                  have p7' : Post X.mo ι7 H7 (compD t g c f n (i + 1) δm S7) _ _ := p7
                  refine iteF ⟨n, Nat.lt_succ_self n, i + 1, σ6, H7, us, vs, k, ι7, S7, ds, J7.unpinned, ?_, fun b hb => ?_, rv, Nat.le_succ_of_le hl, x'.trans (x5.trans x7), r7, weak re7, (rd.ext x5).ext x7, p7'⟩
                  · exact Tc.keep _ _ _ st5 fun b hb o e => (J7.pin (b, o) (by simp [mem_pinsAt hb e])).1
                  · obtain ⟨o, e, _⟩ := Tc.obj _ _ st5 b hb
                    exact (J7.pin (b, o) (by simp [mem_pinsAt hb e])).2.1
                | true =>
                  have p7' : Post X.mo ι7 H7 ((f δ1 S7).bind fun y S2 => (compD t g c f n (i + 1) δm S2).bind fun ys S3 => .ok (y :: ys) S3) (fun ι'' H'' S'' ds' => Post X.mo ι'' H'' (mkLst (ds ++ ds') S'') (fun ι' H' _ d => ∀ v, RD X.mo ι' H' v d → Q v H') (fun _ _ => False)) (fun _ _ => False) := p7
                  refine iteT (wpAny_mono (he' _ s7 σ6 H7 (fun v H8 => ∃ ι8 S8 y, Ext ι7 H7 ι8 H8 ∧ RelS X.mo ι8 H8 S8 ∧ RelE X.mo ι8 H8 N'.length σ6 δ1 ∧ RD X.mo ι8 H8 v y ∧ Post X.mo ι8 H8 ((compD t g c f n (i + 1) δm S8).bind fun ys S3 => .ok (y :: ys) S3) (fun ι'' H'' S'' ds' => Post X.mo ι'' H'' (mkLst (ds ++ ds') S'') (fun ι' H' _ d => ∀ v, RD X.mo ι' H' v d → Q v H') (fun _ _ => False)) (fun _ _ => False)) J7 ?_)
                    (fun xv s8 ⟨v8, H8, J8, rv8, ι8, S8, y, x8, r8, re8, rd8, p8⟩ => ?_) (fun _ _ z => (hxe _ _ z).elim))
                  · rw [hmo, hNc]
                    exact tOf.step (E := En) r7 re7 (Post.mono (Post.bind p7') (fun _ _ _ _ _ _ q => q) fun _ _ z => z.elim) fun ι8 H8 S8 y v8 x8 r8 re8 p8 rv8 => ⟨ι8, S8, y, x8, r8, re8, rv8, p8⟩
                  obtain ⟨eD, nD, _⟩ := J8.pin (s2.heap.objs.size, { cls := .type "list", data := .seq us.toArray k }) (by simp)
                  refine append_at (its := us.toArray) (n := k) eD (fun h9 hsb9 hD9 => ?_) (by rw [List.size_toArray]; exact Nat.le_trans hl (Nat.le_trans (Nat.le_of_lt hlim) lim_line))
                  have J8a : Inv Xc (pinsAt fp s5.heap) σ6 H8 s8 := J8.pins_of fun p hp => J8.pin p (by simp [hp])
                  have J9 : Inv Xc (pinsAt fp s5.heap) σ6 H8 { s8 with heap := h9, toks := s8.toks } := J8a.turned (t' := s8.toks) (it := s2.heap.objs.size) (fun b o nb e => hsb9.extBut b o nb e) nD dloc (by rw [hexc]; exact .inl List.mem_cons_self) dcell (fun p hp z => by
                    rw [hpn] at hp
                    have hp' : p ∈ pinsAt fp s5.heap := by simpa using hp
                    exact hDfp (z ▸ (of_pinsAt hp').1))
                  have hD9' : h9.get? s2.heap.objs.size = some { cls := .type "list", data := .seq (us ++ [xv]).toArray (k + 1) } := by
                    rw [hD9]; simp
                  refine ⟨n, Nat.lt_succ_self n, i + 1, σ6, H8, us ++ [xv], vs ++ [v8], k + 1, ι8, S8, ds ++ [y], pinD J9 nD hD9', ?_, fun b hb => ?_, rv.append (.cons rv8 .nil), by rw [List.length_append]; exact Nat.succ_le_succ hl, x'.trans (x5.trans (x7.trans x8)), r8, weak re8, (((rd.ext x5).ext x7).ext x8).append (.cons rd8 .nil), ?_⟩
                  · exact Tc.keep _ _ _ st5 fun b hb o e => (J9.pin (b, o) (by simp [mem_pinsAt hb e])).1
                  · obtain ⟨o, e, _⟩ := Tc.obj _ _ st5 b hb
                    exact (J9.pin (b, o) (by simp [mem_pinsAt hb e])).2.1
                  · refine Post.mono (Post.bind p8) (fun ι9 H9 S9 ys x9 r9 q9 => ?_) fun _ _ z => z
                    have q9' := q9 ι9 H9 (.refl _ _) r9
                    rw [List.append_assoc]
                    exact q9'
            · rw [if_neg hlim] at q'
              exact q'.elim
    · refine ⟨0, _, H2, [], [], 0, ι1, S1, [], pinD XI hD (old4 _ _ acc3), Tc.keep _ _ _ st2 (fun b hb o e => old4 b o (old3 b o e)), fun b hb => (hex b (List.mem_cons_of_mem _ hb)).1, .nil, Nat.le_refl _, .refl _ _, r1, remask, .nil, Post.bind p1⟩
  exact codeAny_compStart_list (loop _ rfl) (T.self _ 0 _ _ _ (T.keep _ _ _ st2 (fun b hb o e => old4 b o (old3 b o e))) (loop _ rfl))
theorem let_go {pins : List (Addr × Obj)} {s' : Shared} {σ : St} {H' : Hp} {C : Addr} {oC : Obj} (I' : Inv X (pins ++ [(C, oC)]) σ H' s') (h1 : X.s₀.heap.objs.size ≤ C) (h2 : ∀ p ∈ X.pn ++ pins, p.1 ≠ C) (h3 : ∀ x c, X.env.cells.lookup x = some c → c ≠ C) {h' : Heap} (hsb : Heap.SameBut C s'.heap h') :
    Inv X pins σ H' { s' with heap := h' } := by
  obtain ⟨_, n, ne, _, _⟩ := I'.pin (C, oC) (by simp)
  exact (I'.unpinned).turned (t' := s'.toks) (it := C) (fun b o nb e => hsb.extBut b o nb e) n ne (.inr h1) h3 h2
theorem de_comp (B : Nat) (hcm : X.calm = true) (sc : CompSc X N' more is scope) (hi : DI X.nox En tg iter fi) (hs : ∀ x, foldedSetIterable iter X.env x = pure x)
    (hg : ∀ cl C s₃ H₃ ex, DG (compX X N' scope cl C s₃ H₃ ex) tg g) (hc : ∀ cl C s₃ H₃ ex, PTs (compX X N' scope cl C s₃ H₃ ex) ifs (bOf X.mo N'.length En (optT c)))
    (he : ∀ cl C s₃ H₃ ex, DE (compX X N' scope cl C s₃ H₃ ex) En elt f)
    (hgk : ∀ (d : D) (δ δ1 : Dv) (S : Sto), g d δ S = some δ1 → (∀ i ∈ is, ∀ d', δ[i]? ≠ some (some d')) → ∀ (j : Nat) d', δ[j]? = some (some d') → δ1[j]? = some (some d')) :
    DE X E (.ListComp elt [⟨tg, iter, ifs, 0⟩] scope pos) (fComp fi is more.length g c f B) := by
  intro pins s σ H Q I h
  rw [eval_ListComp]
  refine comp_run B hcm sc hi hs hg hc he hgk I h fun s' H' C Da oC m I' hn hn2 q1 q2 q3 q => ?_
  exact ⟨m, hn, fun h' hsb => ⟨.ref Da, H', let_go I' q1 q2 q3 hsb, rfl, q⟩⟩
theorem ds_setComp {i : Nat} {y : Str} {py spos : Pos} (B : Nat) (hcm : X.calm = true) (sc : CompSc X N' more is scope) (hi : DI X.nox En tg iter fi) (hs : ∀ x, foldedSetIterable iter X.env x = pure x)
    (hg : ∀ cl C s₃ H₃ ex, DG (compX X N' scope cl C s₃ H₃ ex) tg g) (hc : ∀ cl C s₃ H₃ ex, PTs (compX X N' scope cl C s₃ H₃ ex) ifs (bOf X.mo N'.length En (optT c)))
    (he : ∀ cl C s₃ H₃ ex, DE (compX X N' scope cl C s₃ H₃ ex) En elt f)
    (hgk : ∀ (d : D) (δ δ1 : Dv) (S : Sto), g d δ S = some δ1 → (∀ i ∈ is, ∀ d', δ[i]? ≠ some (some d')) → ∀ (j : Nat) d', δ[j]? = some (some d') → δ1[j]? = some (some d'))
    (hN : X.N.Nodup) (hiN : X.N[i]? = some y) (hy : Loc X.env.scope y) (hf : X.fn y = true ∨ X.env.scope.names.lookup y = some .local)
    (hsw : swapsWith (.ListComp elt [⟨tg, iter, ifs, 0⟩] scope pos) (some (.Name y py)) spos.line X.env = pure true) :
    DS X E (.Assign [.Name y py] (.ListComp elt [⟨tg, iter, ifs, 0⟩] scope pos) spos) (sSet i (fComp fi is more.length g c f B)) := by
  intro pins s σ H Dn I ⟨ι, δ, S, rs, re, p⟩
  rw [exec_Assign_Name_used _ _ _ _ hsw]
  refine wpAny_bind (wpAny_standAt (wpAny_bind ?_))
  show wpAny _ X.A (do let _ ← comprehension (.ListComp elt [⟨tg, iter, ifs, 0⟩] scope pos) scope X.env _ (newList []) _ _ (some (assign (.Name y py) X.env))) _ _ s
  have h : tOf X.mo X.N.length E (fComp fi is more.length g c f B) σ H (fun v H' => Dn.nx (σ.set i (some v)) H') :=
    tOf.step rs re (PostS.toS p re) fun ι1 H1 S1 d v x1 r1 re1 p1 rv1 => p1 ι1 H1 _ (.refl ι1 H1) r1 (re1.set (List.getElem?_eq_some_iff.mp hiN).1 rv1)
  refine wpAny_bind (wpAny_mono (comp_run (Qf := fun _ s' => SP X pins Dn .next s') B hcm sc hi hs hg hc he hgk I h fun s' H' C Da oC m I' hn hn2 q1 q2 q3 q => ?_) (fun _ s' hq => wpAny_pure (wpAny_pure hq)) fun _ _ e => e)
  show wpAny _ X.A (assign (.Name y py) X.env (.ref Da)) _ _ _
  refine wpAny_assign_Name (store_ok I' hN hiN hy (v := .ref Da) rfl (fun s2 I2 => ?_) hf)
  obtain ⟨eC, _⟩ := I2.pin (C, oC) (by simp)
  exact ⟨m, hn2 _ eC, fun h' hsb => ⟨_, H', let_go I2 q1 q2 q3 hsb, q⟩⟩
end
section
variable {X : Cx}
theorem RD.lst_inv {M : Mo} {ι : List Addr} {H : Hp} {S : Sto} {v : V} {n : Nat} {xs : List D} (rs : RelS M ι H S) (r : RD M ι H v (.ref n)) (e : S[n]? = some (.lst xs)) : ∃ a vs, v = .ref a ∧ ι[n]? = some a ∧ H a = some (.lst vs) ∧ RDs M ι H vs xs := by
  cases r with
  | @ref a _ h =>
    obtain ⟨o, ho, ro⟩ := rs.there h
    rw [e] at ho
    cases ho
    obtain ⟨vs, h1, h2⟩ := ro
    exact ⟨a, vs, rfl, h, h1, h2⟩
noncomputable def seqD (d : D) (S : Sto) : Option (List D) := match d with
  | .tup ds => some ds
  | .rol ds => some ds
  | .ref n => match S[n]? with
    | some (.lst xs) => some xs
    | _ => none
  | _ => none
theorem seqD_is {M : Mo} {ι : List Addr} {H : Hp} {S : Sto} {v : V} {d : D} {ds : List D} (rs : RelS M ι H S) (r : RD M ι H v d) (e : seqD d S = some ds) :
    ∃ a vs, v = .ref a ∧ (SqL M.K H a vs ∨ SqT M.K H a vs) ∧ RDs M ι H vs ds := by
  cases r with
  | @tup a xs es h t => cases e; exact ⟨a, xs, rfl, .inr h, t⟩
  | @rol a xs es h t => cases e; exact ⟨a, xs, rfl, .inl h.sq, t⟩
  | @ref a n h =>
    unfold seqD at e
    dsimp only at e
    cases ho : S[n]? with
    | none => rw [ho] at e; cases e
    | some o =>
      rw [ho] at e
      cases o with
      | lst xs =>
        cases e
        obtain ⟨a', vs, e1, e2, e3, e4⟩ := RD.lst_inv rs (.ref h) ho
        cases e1
        exact ⟨_, vs, rfl, .inl (SqL.of e3), e4⟩
      | _ => cases e
  | _ => cases e
theorem prim_I0 {g : Int → Int → V} {k : Int → Int → D} (hk : ∀ M ι H i j, RD M ι H (g i j) (k i j)) : Prim2 X (rI0 g) (fun d e S => match d, e with | .int i, .int j => .ok (k i j) S | _, _ => .fail) := by
  intro ι H S x y d e Q E rs rx ry p
  dsimp only at p
  split at p
  · cases rx; cases ry
    exact ⟨_, _, rfl, rfl, p ι H (.refl ι H) rs _ (hk _ _ _ _ _)⟩
  · exact p.elim
open Classical in
noncomputable def cInt (C : Int → Int → Prop) (k : Int → Int → D) (d e : D) (S : Sto) : R D := match d, e with
  | .int i, .int j => if C i j then .ok (k i j) S else .fail
  | _, _ => .fail
theorem prim_I {C : Int → Int → Prop} {g : Int → Int → V} {k : Int → Int → D} (hk : ∀ M ι H i j, RD M ι H (g i j) (k i j)) : Prim2 X (rI C g) (cInt C k) := by
  intro ι H S x y d e Q E rs rx ry p
  unfold cInt at p
  split at p
  · split at p
    · rename_i c
      cases rx; cases ry
      exact ⟨_, _, rfl, rfl, c, p ι H (.refl ι H) rs _ (hk _ _ _ _ _)⟩
    · exact p.elim
  · exact p.elim
noncomputable def subD (d e : D) (S : Sto) : R D := match d, e with | .int i, .int j => .ok (.int (i - j)) S | _, _ => .fail
noncomputable def ltD (d e : D) (S : Sto) : R D := match d, e with | .int i, .int j => .ok (.bl (decide (i < j))) S | _, _ => .fail
noncomputable def leD (d e : D) (S : Sto) : R D := match d, e with | .int i, .int j => .ok (.bl (decide (i ≤ j))) S | _, _ => .fail
noncomputable def gtD (d e : D) (S : Sto) : R D := match d, e with | .int i, .int j => .ok (.bl (decide (j < i))) S | _, _ => .fail
noncomputable def geD (d e : D) (S : Sto) : R D := match d, e with | .int i, .int j => .ok (.bl (decide (j ≤ i))) S | _, _ => .fail
noncomputable def bandD (d e : D) (S : Sto) : R D := match d, e with | .int i, .int j => .ok (.int (Builtin.bitAnd i j)) S | _, _ => .fail
noncomputable def borD (d e : D) (S : Sto) : R D := match d, e with | .int i, .int j => .ok (.int (Builtin.bitOr i j)) S | _, _ => .fail
theorem p_band : Prim2 X (rI0 fun i j => .int (Builtin.bitAnd i j)) bandD := prim_I0 fun _ _ _ _ _ => .int _
theorem p_bor : Prim2 X (rI0 fun i j => .int (Builtin.bitOr i j)) borD := prim_I0 fun _ _ _ _ _ => .int _
theorem p_sub : Prim2 X (rI0 fun i j => .int (i - j)) subD := prim_I0 fun _ _ _ _ _ => .int _
theorem p_lt : Prim2 X (rI0 fun i j => .bl (decide (i < j))) ltD := prim_I0 fun _ _ _ _ _ => .bl _
theorem p_le : Prim2 X (rI0 fun i j => .bl (decide (i ≤ j))) leD := prim_I0 fun _ _ _ _ _ => .bl _
theorem p_gt : Prim2 X (rI0 fun i j => .bl (decide (j < i))) gtD := prim_I0 fun _ _ _ _ _ => .bl _
theorem p_ge : Prim2 X (rI0 fun i j => .bl (decide (j ≤ i))) geD := prim_I0 fun _ _ _ _ _ => .bl _
noncomputable def fdivD := cInt CDivB fun i j => .int (i.fdiv j)
noncomputable def modD := cInt (fun _ j => j ≠ 0) fun i j => .int (i.fmod j)
noncomputable def powD := cInt CPow fun i j => .int (i ^ j.toNat)
theorem p_fdiv : Prim2 X (rI CDivB fun i j => .int (i.fdiv j)) fdivD := prim_I fun _ _ _ _ _ => .int _
theorem p_mod : Prim2 X (rI (fun _ j => j ≠ 0) fun i j => .int (i.fmod j)) modD := prim_I fun _ _ _ _ _ => .int _
theorem p_pow : Prim2 X (rI CPow fun i j => .int (i ^ j.toNat)) powD := prim_I fun _ _ _ _ _ => .int _
noncomputable def negD (d : D) (S : Sto) : R D := match d with | .int i => .ok (.int (-i)) S | _ => .fail
theorem p_neg : Prim1 X (rU fun i => .int (-i)) negD := by
  intro ι H S x d Q E rs rx p
  unfold negD at p
  split at p
  · cases rx; exact ⟨_, rfl, p ι H (.refl ι H) rs _ (.int _)⟩
  · exact p.elim
noncomputable def MulOk (i j : Int) : Prop := CMul i j ∨ CMulB i j
open Classical in
noncomputable def mulD (d e : D) (S : Sto) : R D := match d, e with
  | .int i, .int j => if MulOk i j then .ok (.int (i * j)) S else .fail
  | .ref n, .int k => match S[n]? with
    | some (.lst xs) => if xs.length * k.toNat ≤ lim ∧ -(2 ^ 63) ≤ k ∧ k < 2 ^ 63 then mkLst (List.replicate k.toNat xs).flatten S else .fail
    | _ => .fail
  | _, _ => .fail
noncomputable def rMulA : R2 := fun x y H Q => rI CMul (fun i j => .int (i * j)) x y H Q ∨ (rI CMulB (fun i j => .int (i * j)) x y H Q ∨ rRep x y H Q)
theorem op_mulA : OpR X (binaryOp .Mult) rMulA := op_mul.or (op_mulB.or op_rep)
theorem RDs.rep {M : Mo} {ι : List Addr} {H : Hp} {vs : List V} {ds : List D} (h : RDs M ι H vs ds) : ∀ k : Nat, RDs M ι H (List.replicate k vs).flatten (List.replicate k ds).flatten
  | 0 => .nil
  | k + 1 => by
    rw [List.replicate_succ, List.replicate_succ, List.flatten_cons, List.flatten_cons]
    exact h.append (RDs.rep h k)
theorem p_mul : Prim2 X rMulA mulD := by
  intro ι H S x y d e Q E rs rx ry p
  unfold mulD at p
  split at p
  · split at p
    · rename_i c
      cases rx; cases ry
      have q := p ι H (.refl ι H) rs _ (.int _)
      rcases c with c | c
      · exact .inl ⟨_, _, rfl, rfl, c, q⟩
      · exact .inr (.inl ⟨_, _, rfl, rfl, c, q⟩)
    · exact p.elim
  · rename_i n k
    split at p
    · rename_i xs ho
      split at p
      · rename_i c
        obtain ⟨a, vs, rfl, h1, h2, h3⟩ := RD.lst_inv rs rx ho
        cases ry
        exact .inr (.inr ⟨a, k, vs, rfl, rfl, h2, c.2.1, c.2.2, by rw [h3.length]; exact Nat.le_trans c.1 lim_line, (post_lst rs (h3.rep _) p).2⟩)
      · exact p.elim
    · exact p.elim
  · exact p.elim
noncomputable def addD (d e : D) (S : Sto) : R D := match d, e with
  | .int i, .int j => .ok (.int (i + j)) S
  | .str x, .str y => if x.length + y.length ≤ lim then .ok (.str (x ++ y)) S else .fail
  | .tup (x :: xs), .tup ys => if (x :: xs).length + ys.length ≤ lim then .ok (.tup ((x :: xs) ++ ys)) S else .fail
  | .ref m, .ref n => match S[m]?, S[n]? with
    | some (.lst xs), some (.lst ys) => if xs.length + ys.length ≤ lim then .ok (.ref S.length) (S ++ [.lst (xs ++ ys)]) else .fail
    | _, _ => .fail
  | _, _ => .fail
noncomputable def rAddA (K : PySem.W.Frag) : R2 := fun x y H Q => rI0 (fun i j => .int (i + j)) x y H Q ∨ ((∃ i j, x = .str i ∧ y = .str j ∧ i.length + j.length ≤ sizeLine ∧ Q (.str (i ++ j)) H) ∨ (rCatT K x y H Q ∨ rCat x y H Q))
theorem op_addA : OpR X (binaryOp .Add) (rAddA X.K) := op_add.or (op_add_str.or (op_catT.or op_cat))
theorem p_add : Prim2 X (rAddA X.K) addD := by
  intro ι H S x y d e Q E rs rx ry p
  unfold addD at p
  split at p
  · cases rx; cases ry
    exact .inl ⟨_, _, rfl, rfl, p ι H (.refl ι H) rs _ (.int _)⟩
  · split at p
    · rename_i c
      cases rx; cases ry
      exact .inr (.inl ⟨_, _, rfl, rfl, Nat.le_trans c lim_line, p ι H (.refl ι H) rs _ (.str _)⟩)
    · exact p.elim
  · rename_i z zs ys
    split at p
    · rename_i c
      cases rx with
      | @tup a vs _ h1 t1 =>
        cases ry with
        | @tup b us _ h2 t2 =>
          refine .inr (.inr (.inl ⟨a, b, vs, us, rfl, rfl, h1, h2, fun e => ?_, ?_, fun e => ?_, fun e p' hp => ?_⟩))
          · subst e; cases t1
          · rw [t1.length, t2.length]; exact Nat.le_trans c lim_line
          · subst e
            cases t2
            rw [List.append_nil] at p
            exact p ι H (.refl ι H) rs _ (.tup h1 t1)
          · exact p ι _ (Ext.laid hp) (rs.laid hp) _ (.tup (SqT.of upd_same) ((t1.append t2).ext (Ext.laid hp)))
    · exact p.elim
  · rename_i m n
    split at p
    · rename_i xs ys h1 h2
      split at p
      · rename_i c
        obtain ⟨a, vs, rfl, a1, a2, a3⟩ := RD.lst_inv rs rx h1
        obtain ⟨b, us, rfl, b1, b2, b3⟩ := RD.lst_inv rs ry h2
        refine .inr (.inr (.inr ⟨a, b, vs, us, rfl, rfl, a2, b2, by rw [a3.length, b3.length]; exact Nat.le_trans c lim_line, fun q hq => ?_⟩))
        refine p _ _ (Ext.made hq) (rs.made hq ⟨_, upd_same, (a3.append b3).ext (Ext.made hq)⟩) _ (.ref ?_)
        rw [← rs.len]; exact getElem?_snoc ι q
      · exact p.elim
    · exact p.elim
  · exact p.elim
noncomputable def allO {α β : Type} (f : α → Option β) : List α → Option (List β)
  | [] => some []
  | d :: ds => match f d, allO f ds with
    | some p, some ps => some (p :: ps)
    | _, _ => none
noncomputable def toPy (S : Sto) : Nat → D → Option PyData
  | 0, _ => none
  | _ + 1, .non => some .none
  | _ + 1, .bl b => some (.bool b)
  | _ + 1, .int i => some (.int i)
  | _ + 1, .str x => some (.str x)
  | k + 1, .tup ds => (allO (toPy S k) ds).map .tuple
  | k + 1, .rol ds => (allO (toPy S k) ds).map .list
  | k + 1, .ref n => match S[n]? with
    | some (.lst xs) => (allO (toPy S k) xs).map .list
    | _ => none
  | _ + 1, _ => none
theorem allO_is {M : Mo} {ι : List Addr} {H : Hp} {f : D → Option PyData} (hf : ∀ v d p, f d = some p → RD M ι H v d → Is M.K H v p) : ∀ {vs : List V} {ds : List D} {ps : List PyData}, RDs M ι H vs ds → allO f ds = some ps → IsAll M.K H vs ps
  | _, _, _, .nil, e => by cases e; exact .nil
  | _, _, _, .cons h t, e => by
    unfold allO at e
    split at e
    · rename_i p ps h1 h2
      cases e
      exact .cons (hf _ _ _ h1 h) (allO_is hf t h2)
    · cases e
theorem toPy_is {M : Mo} {ι : List Addr} {H : Hp} {S : Sto} (rs : RelS M ι H S) : ∀ (k : Nat) (v : V) (d : D) (p : PyData), toPy S k d = some p → RD M ι H v d → Is M.K H v p
  | 0, _, _, _, e, _ => by cases e
  | k + 1, v, d, p, e, r => by
    cases r with
    | non => cases e; exact .non
    | bl b => cases e; exact .bl b
    | int i => cases e; exact .int i
    | str x => cases e; exact .str x
    | ty t => cases e
    | gl h => cases e
    | @tup a xs ds h t =>
      obtain ⟨ps, e1, rfl⟩ := Option.map_eq_some_iff.mp (show (allO (toPy S k) ds).map .tuple = some p from e)
      exact .tup h (allO_is (toPy_is rs k) t e1)
    | @rol a xs ds h t =>
      obtain ⟨ps, e1, rfl⟩ := Option.map_eq_some_iff.mp (show (allO (toPy S k) ds).map .list = some p from e)
      exact .lst h.sq (allO_is (toPy_is rs k) t e1)
    | @ref a n h =>
      have e' : (match S[n]? with | some (.lst xs) => (allO (toPy S k) xs).map .list | _ => none) = some p := e
      cases ho : S[n]? with
      | none => rw [ho] at e'; cases e'
      | some o =>
        rw [ho] at e'
        cases o with
        | lst xs =>
          obtain ⟨ps, e1, rfl⟩ := Option.map_eq_some_iff.mp e'
          obtain ⟨a', vs, q1, q2, q3, q4⟩ := RD.lst_inv rs (.ref h) ho
          cases q1
          exact .lst (SqL.of q3) (allO_is (toPy_is rs k) q4 e1)
        | _ => cases e'
noncomputable def eqD (S : Sto) (d e : D) : Option Bool := match toPy S 12 d, toPy S 12 e with
  | some p, some q => if SeqAt.shaped p = true ∧ SeqAt.shaped q = true then some (PyData.eqv p q) else none
  | _, _ => none
noncomputable def eqR (f : Bool → Bool) (d e : D) (S : Sto) : R D := match eqD S d e with
  | some b => .ok (.bl (f b)) S
  | none => .fail
theorem p_eq {f : Bool → Bool} : Prim2 X (rEqD X.K f) (eqR f) := by
  intro ι H S x y d e Q E rs rx ry p
  unfold eqR eqD at p
  split at p
  · rename_i b hb
    split at hb
    · rename_i p1 q1 h1 h2
      split at hb
      · rename_i c
        cases hb
        exact ⟨p1, q1, toPy_is rs 12 x d p1 h1 rx, toPy_is rs 12 y e q1 h2 ry, c.1, c.2, p ι H (.refl ι H) rs _ (.bl _)⟩
      · cases hb
    · cases hb
  · exact p.elim
noncomputable def isNonD (d : D) : Bool := match d with
  | .non => true
  | _ => false
theorem isNonD_of {M : Mo} {ι : List Addr} {H : Hp} {v : V} {d : D} (r : RD M ι H v d) : decide (v = .non) = isNonD d := by cases r <;> simp [isNonD]
noncomputable def fIsN (fa : Fd) : Fd := fun δ S => (fa δ S).bind fun d S1 => .ok (.bl (isNonD d)) S1
noncomputable def fNotN (fa : Fd) : Fd := fun δ S => (fa δ S).bind fun d S1 => .ok (.bl (!isNonD d)) S1
variable {E : St → XK} {a b : Expr} {fa fb : Fd}
theorem tIsN_of : ∀ σ H Q, tOf X.mo X.N.length E (fIsN fa) σ H Q → tIsN (tOf X.mo X.N.length E fa) σ H Q := fun σ H Q ⟨ι, δ, S, rs, re, p⟩ =>
  tOf.step rs re (Post.bind p) fun ι1 H1 S1 d v x1 r1 re1 p1 rv1 => by
    rw [isNonD_of rv1]
    exact p1 ι1 H1 (.refl ι1 H1) r1 _ (.bl _)
theorem tNotN_of : ∀ σ H Q, tOf X.mo X.N.length E (fNotN fa) σ H Q → tNotN (tOf X.mo X.N.length E fa) σ H Q := fun σ H Q ⟨ι, δ, S, rs, re, p⟩ =>
  tOf.step rs re (Post.bind p) fun ι1 H1 S1 d v x1 r1 re1 p1 rv1 => by
    rw [isNonD_of rv1]
    exact p1 ι1 H1 (.refl ι1 H1) r1 _ (.bl _)
noncomputable def idxD (d e : D) (S : Sto) : R D := match e with
  | .int i => match seqD d S with
    | some ds => match atI ds i with
      | some x => .ok x S
      | none => .fail
    | none => match d with
      | .str z => if z.length ≤ lim then (match atI z.cps.toList i with
        | some c => .ok (.str ⟨#[c]⟩) S
        | none => .fail) else .fail
      | _ => .fail
  | _ => .fail
theorem p_idx : Prim2 X (rIx X.K) idxD := by
  intro ι H S x y d e Q E rs rx ry p
  unfold idxD at p
  split at p
  · rename_i i
    cases ry
    split at p
    · rename_i ds hs
      obtain ⟨a, vs, rfl, h1, h2⟩ := seqD_is rs rx hs
      split at p
      · rename_i z hz
        obtain ⟨v, hv, rv⟩ := h2.atI hz
        have q := p ι H (.refl ι H) rs v rv
        rcases h1 with h1 | h1
        · exact .inl ⟨a, vs, i, v, rfl, rfl, h1, hv, q⟩
        · exact .inr (.inl ⟨a, vs, i, v, rfl, rfl, h1, hv, q⟩)
      · exact p.elim
    · split at p
      · rename_i z
        split at p
        · rename_i c
          split at p
          · rename_i ch hz
            cases rx
            exact .inr (.inr ⟨_, i, ch, rfl, rfl, Nat.le_trans c lim_line, hz, p ι H (.refl ι H) rs _ (.str _)⟩)
          · exact p.elim
        · exact p.elim
      · exact p.elim
  · exact p.elim
noncomputable def lenD (ds : List D) (S : Sto) : R D := match ds with
  | [d] => match seqD d S with
    | some xs => .ok (.int xs.length) S
    | none => match d with
      | .str z => if z.length ≤ lim then .ok (.int z.length) S else .fail
      | _ => .fail
  | _ => .fail
theorem RDs.one {M : Mo} {ι : List Addr} {H : Hp} {vs : List V} {d : D} (r : RDs M ι H vs [d]) : ∃ v, vs = [v] ∧ RD M ι H v d := by
  cases r with
  | cons h t => cases t; exact ⟨_, rfl, h⟩
theorem RDs.two {M : Mo} {ι : List Addr} {H : Hp} {vs : List V} {d e : D} (r : RDs M ι H vs [d, e]) : ∃ v u, vs = [v, u] ∧ RD M ι H v d ∧ RD M ι H u e := by
  cases r with
  | cons h t => cases t with | cons h' t' => cases t'; exact ⟨_, _, rfl, h, h'⟩
theorem p_len : PrimA X (fun xs H Q => ∃ x n, xs = [x] ∧ LenV X.K x H n ∧ Q (.int n) H) lenD := by
  intro ι H S xs ds Q E rs rv p
  unfold lenD at p
  split at p
  · rename_i d
    obtain ⟨v, rfl, r⟩ := rv.one
    split at p
    · rename_i ys hs
      obtain ⟨a, vs, rfl, h1, h2⟩ := seqD_is rs r hs
      have q := p ι H (.refl ι H) rs _ (.int _)
      refine ⟨.ref a, ys.length, rfl, ?_, q⟩
      rcases h1 with h1 | h1
      · exact .inl ⟨vs, h1, h2.length.symm⟩
      · exact .inr ⟨vs, h1, h2.length.symm⟩
    · split at p
      · rename_i z
        split at p
        · rename_i c
          cases r
          exact ⟨_, _, rfl, ⟨Nat.le_trans c lim_line, rfl⟩, p ι H (.refl ι H) rs _ (.int _)⟩
        · exact p.elim
      · exact p.elim
  · exact p.elim
noncomputable def absD (ds : List D) (S : Sto) : R D := match ds with
  | [.int i] => .ok (.int (if i < 0 then -i else i)) S
  | _ => .fail
theorem p_abs : PrimA X (fun xs H Q => ∃ i, xs = [.int i] ∧ Q (.int (if i < 0 then -i else i)) H) absD := by
  intro ι H S xs ds Q E rs rv p
  unfold absD at p
  split at p
  · obtain ⟨v, rfl, r⟩ := rv.one
    cases r
    exact ⟨_, rfl, p ι H (.refl ι H) rs _ (.int _)⟩
  · exact p.elim
noncomputable def minD (ds : List D) (S : Sto) : R D := match ds with
  | [.int i, .int j] => .ok (.int (if j < i then j else i)) S
  | _ => .fail
noncomputable def maxD (ds : List D) (S : Sto) : R D := match ds with
  | [.int i, .int j] => .ok (.int (if j > i then j else i)) S
  | _ => .fail
theorem p_min : PrimA X (fun xs H Q => ∃ i j, xs = [.int i, .int j] ∧ Q (.int (if j < i then j else i)) H) minD := by
  intro ι H S xs ds Q E rs rv p
  unfold minD at p
  split at p
  · obtain ⟨v, u, rfl, r, r'⟩ := rv.two
    cases r; cases r'
    exact ⟨_, _, rfl, p ι H (.refl ι H) rs _ (.int _)⟩
  · exact p.elim
theorem p_max : PrimA X (fun xs H Q => ∃ i j, xs = [.int i, .int j] ∧ Q (.int (if j > i then j else i)) H) maxD := by
  intro ι H S xs ds Q E rs rv p
  unfold maxD at p
  split at p
  · obtain ⟨v, u, rfl, r, r'⟩ := rv.two
    cases r; cases r'
    exact ⟨_, _, rfl, p ι H (.refl ι H) rs _ (.int _)⟩
  · exact p.elim
noncomputable def listD (ds : List D) (S : Sto) : R D := match ds with
  | [d] => match seqD d S with
    | some xs => mkLst xs S
    | none => .fail
  | _ => .fail
theorem p_list : PrimA X (fun xs H Q => ∃ p ys, xs = [.ref p] ∧ (SqL X.K H p ys ∨ SqT X.K H p ys) ∧ ∀ l, H l = none → Q (.ref l) (upd H l (.lst ys))) listD := by
  intro ι H S xs ds Q E rs rv p
  unfold listD at p
  split at p
  · rename_i d
    obtain ⟨v, rfl, r⟩ := rv.one
    split at p
    · rename_i ys hs
      obtain ⟨a, vs, rfl, h1, h2⟩ := seqD_is rs r hs
      exact ⟨a, vs, rfl, h1, (post_lst rs h2 p).2⟩
    · exact p.elim
  · exact p.elim
noncomputable def tupleD (ds : List D) (S : Sto) : R D := match ds with
  | [d] => match seqD d S with
    | some xs => mkTup xs S
    | none => .fail
  | _ => .fail
theorem p_tuple : PrimA X (fun xs H Q => ∃ p ys, xs = [.ref p] ∧ ((SqL X.K H p ys ∧ ∀ l, H l = none → Q (.ref l) (upd H l (.tup ys))) ∨ (SqT X.K H p ys ∧ Q (.ref p) H))) tupleD := by
  intro ι H S xs ds Q E rs rv p
  unfold tupleD at p
  split at p
  · rename_i d
    obtain ⟨v, rfl, r⟩ := rv.one
    split at p
    · rename_i ys hs
      obtain ⟨a, vs, rfl, h1, h2⟩ := seqD_is rs r hs
      refine ⟨a, vs, rfl, ?_⟩
      rcases h1 with h1 | h1
      · exact .inl ⟨h1, (post_tup rs h2 p).2⟩
      · refine .inr ⟨h1, ?_⟩
        unfold mkTup at p
        split at p
        · exact p ι H (.refl ι H) rs _ (.tup h1 h2)
        · exact p.elim
    · exact p.elim
  · exact p.elim
noncomputable def bools : List D → Option (List Bool)
  | [] => some []
  | .bl b :: ds => (bools ds).map (b :: ·)
  | _ => none
noncomputable def lstD (d : D) (S : Sto) : Option (List D) := match d with
  | .rol ds => some ds
  | .ref n => match S[n]? with
    | some (.lst xs) => some xs
    | _ => none
  | _ => none
theorem lstD_is {M : Mo} {ι : List Addr} {H : Hp} {S : Sto} {v : V} {d : D} {ds : List D} (rs : RelS M ι H S) (r : RD M ι H v d) (e : lstD d S = some ds) : ∃ a vs, v = .ref a ∧ SqL M.K H a vs ∧ RDs M ι H vs ds := by
  cases r with
  | @rol a xs es h t => cases e; exact ⟨a, xs, rfl, h.sq, t⟩
  | @ref a n h =>
    unfold lstD at e
    dsimp only at e
    cases ho : S[n]? with
    | none => rw [ho] at e; cases e
    | some o =>
      rw [ho] at e
      cases o with
      | lst xs =>
        cases e
        obtain ⟨a', vs, e1, e2, e3, e4⟩ := RD.lst_inv rs (.ref h) ho
        cases e1
        exact ⟨_, vs, rfl, SqL.of e3, e4⟩
      | _ => cases e
  | _ => cases e
noncomputable def allD (k : Bool) (ds : List D) (S : Sto) : R D := match ds with
  | [d] => match lstD d S with
    | some xs => match bools xs with
      | some bs => .ok (.bl (if k then bs.all id else bs.any id)) S
      | none => .fail
    | none => .fail
  | _ => .fail
end
inductive Tyd where
  | b (n : String) | o (C : Str)
  deriving DecidableEq
structure Glo where
  con : Str → Option D
  own : Str → Bool
  cls : Str → Bool
  exc : Str → Bool
  sub : Tyd → D → Option Bool
  exm : Str → Str → Option Bool
  ins : Str → Bool := fun _ => false
  fld : Str → Str → Bool := fun _ _ => false
  mth : Str → Str → Option (Str × Nat) := fun _ _ => none
  ini : Str → Option (Option (Str × Nat)) := fun _ => none
  dfl : Str → List D := fun _ => []
noncomputable def tyVal (mg : Str → Option Value) : Tyd → Option Value
  | .b n => some (.type n)
  | .o C => mg C
noncomputable def clsOf (mg : Str → Option Value) : D → Option Value
  | .ty n => some (.type n)
  | .gl x => mg x
  | _ => none
structure Mk0 (K : PySem.W.Frag) (C : Addr) : Prop where
  makes : PySem.W.makesIn K C = true
  init : PySem.W.findIn K (.ref C) "__init__" = some (some (.builtin "object.__init__"))
  kp : PySem.W.keepIn K (.ref C) = true
structure ClsI (K : PySem.W.Frag) (C : Addr) : Prop where
  ha : PySem.W.findIn K (.ref C) "__class__" = some (some (.builtin "object.__class__"))
  hn : PySem.W.specialIn K (.builtin "object.__class__") "__get__" = some (some (.builtin "getset_descriptor.__get__"))
  htk : PySem.W.takesIn K (.builtin "object.__class__") = some true
  hm : PySem.W.mroIn K C (.type "object") = some true
structure GOk (M : Mo) (G : Glo) : Prop where
  con : ∀ x d, G.con x = some d → ∃ u v, M.mg x = some u ∧ RelV v u ∧ ∀ ι H, RD M ι H v d
  own : ∀ x, G.own x = true → M.mg x = none
  cls : ∀ x, G.cls x = true → ∃ a, M.mg x = some (.ref a)
  exc : ∀ x, G.exc x = true → ∃ C, M.mg x = some (.ref C) ∧ ExcC M.K C ∧ ExcI M.K C
  sub : ∀ t c b, G.sub t c = some b → ∀ tv cv, tyVal M.mg t = some tv → clsOf M.mg c = some cv → PySem.W.kitOne M.K tv cv = some b
  exm : ∀ x y b, G.exm x y = some b → ∀ a c, M.mg x = some (.ref a) → M.mg y = some c → PySem.W.exmOne M.K (.ref a) c = some b
  ins : ∀ C, G.ins C = true → ∃ a, M.mg C = some (.ref a) ∧ Cls M.K a ∧ ClsI M.K a
  fld : ∀ C f, G.fld C f = true → ∀ a, M.mg C = some (.ref a) → NoAttr M.K a f
  ini0 : ∀ C, G.ini C = some none → ∃ a, M.mg C = some (.ref a) ∧ Mk0 M.K a
noncomputable def tyD (d : D) (S : Sto) : Option Tyd := match d with
  | .non => some (.b "NoneType")
  | .bl _ => some (.b "bool")
  | .int _ => some (.b "int")
  | .str _ => some (.b "str")
  | .tup _ => some (.b "tuple")
  | .rol _ => some (.b "list")
  | .ref n => match S[n]? with
    | some (.lst _) => some (.b "list")
    | some (.exc C) => some (.o C)
    | some (.ins C _) => some (.o C)
    | some (.dic _) => some (.b "dict")
    | some (.dit _) => none
    | none => none
  | _ => none
noncomputable def subL : List (String × String × Bool) := [("NoneType", "int", false), ("NoneType", "bool", false), ("NoneType", "str", false), ("NoneType", "tuple", false), ("NoneType", "list", false), ("NoneType", "dict", false), ("bool", "int", true), ("bool", "bool", true), ("bool", "str", false), ("bool", "tuple", false), ("bool", "list", false), ("bool", "dict", false), ("int", "int", true), ("int", "bool", false), ("int", "str", false), ("int", "tuple", false), ("int", "list", false), ("int", "dict", false), ("str", "int", false), ("str", "bool", false), ("str", "str", true), ("str", "tuple", false), ("str", "list", false), ("str", "dict", false), ("tuple", "int", false), ("tuple", "bool", false), ("tuple", "str", false), ("tuple", "tuple", true), ("tuple", "list", false), ("tuple", "dict", false), ("list", "int", false), ("list", "bool", false), ("list", "str", false), ("list", "tuple", false), ("list", "list", true), ("list", "dict", false), ("dict", "int", false), ("dict", "bool", false), ("dict", "str", false), ("dict", "tuple", false), ("dict", "list", false), ("dict", "dict", true)]
noncomputable def lk3 (a b : String) : List (String × String × Bool) → Option Bool
  | [] => none
  | p :: r => if p.1 = a ∧ p.2.1 = b then some p.2.2 else lk3 a b r
noncomputable def subB (a b : String) : Option Bool := lk3 a b subL
theorem lk3_is {a b : String} {r : Bool} {P : String → String → Bool → Prop} : ∀ {l : List (String × String × Bool)}, (∀ p ∈ l, P p.1 p.2.1 p.2.2) → lk3 a b l = some r → P a b r
  | [], _, h => nomatch h
  | p :: l, g, h => by
    unfold lk3 at h
    split at h
    · rename_i e
      cases h
      have := g p List.mem_cons_self
      rwa [e.1, e.2] at this
    · exact lk3_is (fun q hq => g q (List.mem_cons_of_mem _ hq)) h
theorem subB_is {K : PySem.W.Frag} {a b : String} {r : Bool} (h : subB a b = some r) : PySem.W.kitOne K (.type a) (.type b) = some r :=
  lk3_is (P := fun a b r => PySem.W.kitOne K (.type a) (.type b) = some r) (List.forall_mem_cons.mpr ⟨rfl, (List.forall_mem_cons.mpr ⟨rfl, (List.forall_mem_cons.mpr ⟨rfl, (List.forall_mem_cons.mpr ⟨rfl, (List.forall_mem_cons.mpr ⟨rfl, (List.forall_mem_cons.mpr ⟨rfl, (List.forall_mem_cons.mpr ⟨rfl, (List.forall_mem_cons.mpr ⟨rfl, (List.forall_mem_cons.mpr ⟨rfl, (List.forall_mem_cons.mpr ⟨rfl, (List.forall_mem_cons.mpr ⟨rfl, (List.forall_mem_cons.mpr ⟨rfl, (List.forall_mem_cons.mpr ⟨rfl, (List.forall_mem_cons.mpr ⟨rfl, (List.forall_mem_cons.mpr ⟨rfl, (List.forall_mem_cons.mpr ⟨rfl, (List.forall_mem_cons.mpr ⟨rfl, (List.forall_mem_cons.mpr ⟨rfl, (List.forall_mem_cons.mpr ⟨rfl, (List.forall_mem_cons.mpr ⟨rfl, (List.forall_mem_cons.mpr ⟨rfl, (List.forall_mem_cons.mpr ⟨rfl, (List.forall_mem_cons.mpr ⟨rfl, (List.forall_mem_cons.mpr ⟨rfl, (List.forall_mem_cons.mpr ⟨rfl, (List.forall_mem_cons.mpr ⟨rfl, (List.forall_mem_cons.mpr ⟨rfl, (List.forall_mem_cons.mpr ⟨rfl, (List.forall_mem_cons.mpr ⟨rfl, (List.forall_mem_cons.mpr ⟨rfl, (List.forall_mem_cons.mpr ⟨rfl, (List.forall_mem_cons.mpr ⟨rfl, (List.forall_mem_cons.mpr ⟨rfl, (List.forall_mem_cons.mpr ⟨rfl, (List.forall_mem_cons.mpr ⟨rfl, (List.forall_mem_cons.mpr ⟨rfl, (List.forall_mem_cons.mpr ⟨rfl, (List.forall_mem_cons.mpr ⟨rfl, (List.forall_mem_cons.mpr ⟨rfl, (List.forall_mem_cons.mpr ⟨rfl, (List.forall_mem_cons.mpr ⟨rfl, (List.forall_mem_cons.mpr ⟨rfl, List.forall_mem_nil _⟩)⟩)⟩)⟩)⟩)⟩)⟩)⟩)⟩)⟩)⟩)⟩)⟩)⟩)⟩)⟩)⟩)⟩)⟩)⟩)⟩)⟩)⟩)⟩)⟩)⟩)⟩)⟩)⟩)⟩)⟩)⟩)⟩)⟩)⟩)⟩)⟩)⟩)⟩)⟩)⟩)⟩) h
noncomputable def subOf (G : Glo) (t : Tyd) (c : D) : Option Bool := match t, c with
  | .b a, .ty b => subB a b
  | t, c => G.sub t c
theorem subOf_is {M : Mo} {G : Glo} (g : GOk M G) {t : Tyd} {c : D} {b : Bool} (h : subOf G t c = some b) {tv cv : Value} (h1 : tyVal M.mg t = some tv) (h2 : clsOf M.mg c = some cv) : PySem.W.kitOne M.K tv cv = some b := by
  unfold subOf at h
  split at h
  · cases h1; cases h2
    exact subB_is h
  · exact g.sub _ _ _ h _ _ h1 h2
noncomputable def anySub (G : Glo) (t : Tyd) : List D → Option Bool
  | [] => some false
  | c :: r => match subOf G t c with
    | some true => some true
    | some false => anySub G t r
    | none => none
noncomputable def okTD (G : Glo) (d : D) (S : Sto) : Bool := match d with
  | .ref n => match S[n]? with
    | some (.exc C) => G.exc C
    | some (.ins C _) => G.ins C
    | _ => true
  | _ => true
noncomputable def isInst (G : Glo) (ds : List D) (S : Sto) : R D := match ds with
  | [x, c] => match tyD x S with
    | some t => if okTD G x S = true then (match c with
        | .tup cs => match anySub G t cs with
          | some b => .ok (.bl b) S
          | none => .fail
        | c => match subOf G t c with
          | some b => .ok (.bl b) S
          | none => .fail) else .fail
    | none => .fail
  | _ => .fail
section
variable {X : Cx} {G : Glo}
theorem tyD_is (g : GOk X.mo G) {ι : List Addr} {H : Hp} {S : Sto} {v : V} {d : D} {t : Tyd} (rs : RelS X.mo ι H S) (r : RD X.mo ι H v d) (h : tyD d S = some t) (he : okTD G d S = true) : ∃ tv, tyVal X.mg t = some tv ∧ TyE X.K H v tv := by
  cases r with
  | non => cases h; exact ⟨_, rfl, .of .non⟩
  | bl b => cases h; exact ⟨_, rfl, .of (.bl b)⟩
  | int i => cases h; exact ⟨_, rfl, .of (.int i)⟩
  | str x => cases h; exact ⟨_, rfl, .of (.str x)⟩
  | ty n => cases h
  | gl h' => cases h
  | tup h1 h2 => cases h; exact ⟨_, rfl, .tup h1⟩
  | rol h1 h2 => cases h; exact ⟨_, rfl, .lst h1.sq⟩
  | @ref a n h1 =>
    obtain ⟨o, ho, ro⟩ := rs.there h1
    unfold tyD at h
    unfold okTD at he
    dsimp only at h he
    rw [ho] at h he
    cases o with
    | lst xs => cases h; obtain ⟨vs, h2, _⟩ := ro; exact ⟨_, rfl, .lst (SqL.of h2)⟩
    | exc C =>
      cases h
      obtain ⟨Ca, h2, h3⟩ := ro
      obtain ⟨Cb, h4, h5, h6⟩ := g.exc C he
      rw [h2] at h4
      cases h4
      exact ⟨_, h2, .exc h3 h6⟩
    | dic _ => cases h; obtain ⟨ks, h2, _⟩ := ro; exact ⟨_, rfl, .of (.dK h2)⟩
    | dit _ => cases h
    | ins C fs =>
      cases h
      obtain ⟨Ca, dx, vs, h2, h3, _⟩ := ro
      obtain ⟨Cb, h4, h5, h6⟩ := g.ins C he
      rw [h2] at h4
      cases h4
      exact ⟨_, h2, .of (.ins h3 h5 h6.ha h6.hn h6.htk h6.hm)⟩
theorem clsV_of {M : Mo} {ι : List Addr} {H : Hp} {v : V} {c : D} {cv : Value} (r : RD M ι H v c) (h : clsOf M.mg c = some cv) : clsV v = some cv := by
  cases r with
  | ty n => cases h; rfl
  | gl q =>
    have h' : M.mg _ = some cv := h
    rw [q] at h'
    cases h'
    rfl
  | _ => cases h
noncomputable def isCls : D → Bool
  | .ty _ => true
  | .gl _ => true
  | _ => false
theorem isCls_some {M : Mo} {ι : List Addr} {H : Hp} {v : V} {c : D} (r : RD M ι H v c) (h : isCls c = true) : ∃ cv, clsOf M.mg c = some cv := by
  cases r with
  | ty n => exact ⟨_, rfl⟩
  | gl q => exact ⟨_, q⟩
  | _ => cases h
theorem anySub_is (g : GOk X.mo G) {t : Tyd} {tv : Value} (ht : tyVal X.mg t = some tv) : ∀ {vs : List V} {cs : List D} {b : Bool} {ι : List Addr} {H : Hp}, RDs X.mo ι H vs cs → cs.all isCls = true → anySub G t cs = some b → ∃ cvs, clsVs vs = some cvs ∧ PySem.W.kitAny X.K tv cvs = some b
  | _, _, _, _, _, .nil, _, e => by cases e; exact ⟨[], rfl, rfl⟩
  | _, _, b, _, _, .cons (v := v) (vs := vs) (d := d) (ds := ds) h r, hc, e => by
    rw [List.all_cons, Bool.and_eq_true] at hc
    obtain ⟨cv, hcv⟩ := isCls_some h hc.1
    have all : ∃ cvs, clsVs vs = some cvs := by
      clear e
      have key : ∀ {ι : List Addr} {H : Hp} {vs : List V} {ds : List D}, RDs X.mo ι H vs ds → ds.all isCls = true → ∃ cvs, clsVs vs = some cvs := by
        intro ι H vs ds r hc
        induction ds generalizing vs with
        | nil => cases r; exact ⟨[], rfl⟩
        | cons d ds ih =>
          cases r with
          | cons h r =>
            rw [List.all_cons, Bool.and_eq_true] at hc
            obtain ⟨cv, hcv⟩ := isCls_some h hc.1
            obtain ⟨cvs, h2⟩ := ih r hc.2
            exact ⟨cv :: cvs, by unfold clsVs; rw [clsV_of h hcv, h2]⟩
      exact key r hc.2
    unfold anySub at e
    cases hs : subOf G t d with
    | none => rw [hs] at e; cases e
    | some k =>
      have hk := subOf_is g hs ht hcv
      rw [hs] at e
      cases k with
      | true =>
        cases e
        obtain ⟨cvs, h2⟩ := all
        exact ⟨cv :: cvs, by unfold clsVs; rw [clsV_of h hcv, h2], by unfold PySem.W.kitAny; rw [hk]⟩
      | false =>
        obtain ⟨cvs, h2, h3⟩ := anySub_is g ht r hc.2 e
        exact ⟨cv :: cvs, by unfold clsVs; rw [clsV_of h hcv, h2], by unfold PySem.W.kitAny; rw [hk]; exact h3⟩
noncomputable def instD (G : Glo) (ds : List D) (S : Sto) : R D := match ds with
  | [x, .tup cs] => if cs.all isCls = true then isInst G [x, .tup cs] S else .fail
  | [x, c] => if isCls c = true then isInst G [x, c] S else .fail
  | _ => .fail
theorem p_inst (g : GOk X.mo G) : PrimA X (fun xs H Q => rIsI X.K xs H Q ∨ rIsT X.K xs H Q) (instD G) := by
  intro ι H S xs ds Q E rs rv p
  unfold instD at p
  split at p
  · rename_i x cs
    obtain ⟨v, u, rfl, r1, r2⟩ := rv.two
    split at p
    · rename_i hc
      unfold isInst at p
      dsimp only at p
      split at p
      · rename_i t ht
        split at p
        · rename_i hk
          split at p
          · rename_i b hb
            obtain ⟨tv, h1, h2⟩ := tyD_is g rs r1 ht hk
            cases r2 with
            | @tup a us _ h3 h4 =>
              obtain ⟨cvs, h5, h6⟩ := anySub_is g h1 h4 hc hb
              exact .inr ⟨v, a, us, cvs, tv, b, rfl, h3, h5, h2, h6, p ι H (.refl ι H) rs _ (.bl b)⟩
          · exact p.elim
        · exact p.elim
      · exact p.elim
    · exact p.elim
  · rename_i x c _
    obtain ⟨v, u, rfl, r1, r2⟩ := rv.two
    split at p
    · rename_i hc
      obtain ⟨cv, hcv⟩ := isCls_some r2 hc
      unfold isInst at p
      dsimp only at p
      split at p
      · rename_i t ht
        split at p
        · rename_i hk
          split at p
          · cases hc
          · split at p
            · rename_i b hb
              obtain ⟨tv, h1, h2⟩ := tyD_is g rs r1 ht hk
              exact .inl ⟨v, u, cv, tv, b, rfl, clsV_of r2 hcv, h2, subOf_is g hb h1 hcv, p ι H (.refl ι H) rs _ (.bl b)⟩
            · exact p.elim
        · exact p.elim
      · exact p.elim
    · exact p.elim
  · exact p.elim
noncomputable def sRaise (C : Str) (f : Fa) : Fs := fun δ S => (f δ S).toS δ fun ds S1 => if ds.length ≤ lim then .exc C δ S1 else .fail
noncomputable def sTry (G : Glo) (C : Str) (i : Nat) (fb fh : Fs) : Fs := fun δ S => match fb δ S with
  | .exc C' δ1 S1 => match G.exm C' C with
    | some true => match noxS (fh (δ1.set i (some (.ref S1.length))) (S1 ++ [.exc C'])) with
      | .next δ2 S2 => .next (δ2.set i none) S2
      | .brk δ2 S2 => .brk (δ2.set i none) S2
      | .cnt δ2 S2 => .cnt (δ2.set i none) S2
      | r => r
    | _ => .fail
  | r => r
end
section
variable {X : Cx} {E : St → XK} {pos : Pos} {e o i : Expr} {es : List Expr} {fe fo fi : Fd} {fa : Fa}
noncomputable def stoD (o i d : D) (S : Sto) : Option Sto := match o, i with
  | .ref n, .int k => match S[n]? with
    | some (.lst xs) => (ixN xs.length k).map fun j => S.set n (.lst (xs.set j d))
    | _ => none
  | _, _ => none
noncomputable def sSto (fo fi fe : Fd) : Fs := fun δ S => (fe δ S).toS δ fun d S1 => (fo δ S1).toS δ fun o S2 => (fi δ S2).toS δ fun i S3 => match stoD o i d S3 with
  | some S4 => .next δ S4
  | none => .fail
theorem RDs.setAt {M : Mo} {ι : List Addr} {H : Hp} {v : V} {d : D} (r : RD M ι H v d) : ∀ {vs : List V} {ds : List D} (j : Nat), RDs M ι H vs ds → RDs M ι H (vs.set j v) (ds.set j d)
  | _, _, _, .nil => .nil
  | _, _, 0, .cons _ t => .cons r t
  | _, _, j + 1, .cons h t => .cons h (RDs.setAt r j t)
theorem RelS.lst {M : Mo} {ι : List Addr} {H : Hp} {S : Sto} {n : Nat} {a : Addr} {xs : List D} (h : RelS M ι H S) (ha : ι[n]? = some a) (e : S[n]? = some (.lst xs)) : ∃ vs, H a = some (.lst vs) ∧ RDs M ι H vs xs := h.obj n a _ ha e
theorem RelS.lput {M : Mo} {ι : List Addr} {H : Hp} {S : Sto} {n : Nat} {a : Addr} {vs us : List V} {ys : List D} (h : RelS M ι H S) (ha : ι[n]? = some a) (hl : H a = some (.lst vs)) (r : RDs M ι H us ys) :
    Ext ι H ι (upd H a (.lst us)) ∧ RelS M ι (upd H a (.lst us)) (S.set n (.lst ys)) := by
  have mu : Mut (H a) := by rw [hl]; trivial
  exact ⟨Ext.set mu, h.set ha mu ⟨us, upd_same, r.ext (Ext.set mu)⟩⟩
theorem ds_sto {p : Pos} (ho : DE X E o fo) (hi : DE X E i fi) (he : DE X E e fe) (hs : swapsWithSole [.Subscript o i p] e pos.line X.env = pure false) (hw : swappedStores [.Subscript o i p] e X.env = pure none)
    (ha : ∀ v, assign (.Subscript o i p) X.env v = (do
      let ov ← holding [v] (eval o X.env)
      let iv ← holding [v, ov] (eval i X.env)
      standAt p
      holding [v, ov, iv] (setItem ov iv v)
      release [v, ov, iv] [])) : DS X E (.Assign [.Subscript o i p] e pos) (sSto fo fi fe) :=
  (ps_asg he (pg_sub ho hi set_list ha) hs hw rfl).weak fun D σ H ⟨ι, δ, S, rs, re, q⟩ => tOf.step rs re (PostS.toS q re) fun ι1 H1 S1 d v x1 r1 re1 p1 rv1 =>
    tOf.step r1 re1 (PostS.toS p1 re1) fun ι2 H2 S2 od vo x2 r2 re2 p2 rv2 => tOf.step r2 re2 (PostS.toS p2 re2) fun ι3 H3 S3 id vi x3 r3 re3 p3 rv3 => by
      have rv := (rv1.ext x2).ext x3
      have rvo := rv2.ext x3
      cases hd : stoD od id d S3 with
      | none => rw [hd] at p3; exact p3.elim
      | some S4 =>
        rw [hd] at p3
        unfold stoD at hd
        split at hd
        · rename_i n k
          split at hd
          · rename_i xs hx
            obtain ⟨j, hj, rfl⟩ := Option.map_eq_some_iff.mp hd
            cases rvo with
            | @ref a n ha =>
              cases rv3
              obtain ⟨vs, hl, rl⟩ := r3.lst ha hx
              obtain ⟨e1, e2⟩ := r3.lput ha hl (RDs.setAt rv j rl)
              exact ⟨a, vs, k, j, rfl, rfl, hl, by rw [rl.length]; exact hj, p3 ι3 _ _ e1 e2 (re3.ext e1)⟩
          · cases hd
        · cases hd
noncomputable def setAll : List Nat → List D → Dv → Dv
  | i :: is, d :: ds, δ => setAll is ds (δ.set i (some d))
  | _, _, δ => δ
noncomputable def gNames (is : List Nat) : Fg := fun d δ _ => match d with
  | .tup ds => if ds.length = is.length then some (setAll is ds δ) else none
  | _ => none
noncomputable def NamesAt (X : Cx) : List Expr → List Nat → Prop
  | [], [] => True
  | .Name x _ :: es, i :: is => (X.N[i]? = some x ∧ Loc X.env.scope x ∧ (X.fn x = true ∨ X.env.scope.names.lookup x = some .local)) ∧ NamesAt X es is
  | _, _ => False
theorem PGs.weak {ts : List Expr} {t t' : TGs} (h : PGs X ts t) (w : ∀ v σ H Q, t' v σ H Q → t v σ H Q) : PGs X ts t' := fun pins s σ H x u Q I r q => h pins s σ H x u Q I r (w x σ H Q q)
noncomputable def gsOf (M : Mo) (n : Nat) (is : List Nat) : TGs := fun vs σ H Q => ∃ ι δ S ds, RelS M ι H S ∧ RelE M ι H n σ δ ∧ RDs M ι H vs ds ∧ ds.length = is.length ∧ ∀ σ', RelE M ι H n σ' (setAll is ds δ) → Q σ' H
noncomputable def sAsg (fe : Fd) (g : Fg) : Fs := fun δ S => (fe δ S).toS δ fun d S1 => match g d δ S1 with
  | some δ1 => .next δ1 S1
  | none => .fail
theorem pe_callS0 {k : Nat} {ps : List Str} {sp : Sp} {x : Str} {p : Pos} (h : Has X.prog X.w X.K X.mg X.base k x ps sp) (hr : Room k X.A) (hg : Gl X x) (hx : PassS (CXE X.prog X.w) X E) (hdb : (x == ("__debug__" : Str)) = false) : PE X (.Call (.Name x p) [] [] pos) (tCallS sp [] E tNil) := by
  obtain ⟨f, fd, h1, h2, h3, h4⟩ := h
  intro pins s σ H Q I h
  refine wpAny_Call_Name_kw (ld_glob I hg h1 ?_ hdb)
  exact PySem.W.callWith_K0 I.kIn h2 (run_fnS (us := []) h4 hr h3 .nil hx I .nil h)
theorem de_call0 {k : Nat} {x : Str} {p : Pos} {F : List D → Sto → R D} (h : Has X.prog X.w X.K X.mg X.base k x [] (spOf X.mo 0 F)) (hr : Room k X.A) (hg : Gl X x) (hx : PassS (CXE X.prog X.w) X E) (hdb : (x == ("__debug__" : Str)) = false) :
    DE X E (.Call (.Name x p) [] [] pos) (fCall F aNil) :=
  (pe_callS0 h hr hg hx hdb).weak fun σ H Q ⟨ι, δ, S, rs, re, q⟩ => ⟨rfl, ι, [], S, rs, .nil, q⟩
inductive Mt where
  | append | clear | pop | reverse | extend
  | insert
noncomputable def isLstR (o : D) (S : Sto) : Bool := match o with
  | .ref n => match S[n]? with
    | some (.lst _) => true
    | _ => false
  | _ => false
noncomputable def mtD (m : Mt) (o : D) (ds : List D) (S : Sto) : R D := match o with
  | .ref n => match S[n]? with
    | some (.lst xs) => match m, ds with
      | .append, [d] => if xs.length < lim then .ok .non (S.set n (.lst (xs ++ [d]))) else .fail
      | .clear, [] => .ok .non (S.set n (.lst []))
      | .reverse, [] => .ok .non (S.set n (.lst xs.reverse))
      | .pop, [] => match xs[xs.length - 1]? with
        | some y => .ok y (S.set n (.lst xs.dropLast))
        | none => .fail
      | .pop, [.int i] => if -(2 ^ 63) ≤ i ∧ i < 2 ^ 63 then (match seqIndex? i xs.length with
        | some k => match xs[k]? with
          | some y => .ok y (S.set n (.lst (xs.eraseIdx k)))
          | none => .fail
        | none => .fail) else .fail
      | .extend, [.ref m] => match S[m]? with
        | some (.lst zs) => if xs.length + zs.length ≤ lim then .ok .non (S.set n (.lst (xs ++ zs))) else .fail
        | _ => .fail
      | .insert, [.int i, d] => if 0 ≤ i ∧ i < 2 ^ 62 ∧ xs.length < lim then .ok .non (S.set n (.lst (xs.take i.toNat ++ d :: xs.drop i.toNat))) else .fail
      | _, _ => .fail
    | _ => .fail
  | _ => .fail
noncomputable def fMt (m : Mt) (fo : Fd) (fa : Fa) : Fd := fun δ S => (fo δ S).bind fun o S1 => if isLstR o S1 = true then (fa δ S1).bind fun ds S2 => mtD m o ds S2 else .fail
theorem RDs.reverse' {M : Mo} {ι : List Addr} {H : Hp} : ∀ {vs : List V} {ds : List D}, RDs M ι H vs ds → RDs M ι H vs.reverse ds.reverse
  | _, _, .nil => .nil
  | _, _, .cons h t => by
    rw [List.reverse_cons, List.reverse_cons]
    exact (RDs.reverse' t).append (.cons h .nil)
theorem RDs.dropLast' {M : Mo} {ι : List Addr} {H : Hp} : ∀ {vs : List V} {ds : List D}, RDs M ι H vs ds → RDs M ι H vs.dropLast ds.dropLast
  | _, _, .nil => .nil
  | _, _, .cons h .nil => .nil
  | _, _, .cons h (.cons h' t) => .cons h (RDs.dropLast' (.cons h' t))
theorem RDs.erase {M : Mo} {ι : List Addr} {H : Hp} : ∀ {vs : List V} {ds : List D} (k : Nat), RDs M ι H vs ds → RDs M ι H (vs.eraseIdx k) (ds.eraseIdx k)
  | _, _, _, .nil => by simp only [List.eraseIdx_nil]; exact .nil
  | _, _, 0, .cons h t => t
  | _, _, k + 1, .cons h t => .cons h (RDs.erase k t)
noncomputable def rInsert : V → List V → Hp → VK → Prop := fun x vs H Q => ∃ l xs i y, x = .ref l ∧ vs = [.int i, y] ∧ H l = some (.lst xs) ∧ 0 ≤ i ∧ i < 2 ^ 62 ∧ xs.length < sizeLine ∧ Q .non (upd H l (.lst (xs.take i.toNat ++ y :: xs.drop i.toNat)))
theorem mt_insert : MtR X "list.insert" rInsert := by
  intro pins s σ H x vs v us Q I rx rv h
  obtain ⟨l, xs, i, y, rfl, rfl, hH, h0, h1, hz, q⟩ := h
  cases rx
  obtain ⟨u1, u2, rfl, r1, r2⟩ := vals2 rv
  obtain ⟨t, rfl⟩ := r1
  obtain ⟨z, its, n, r, hl, e⟩ := I.lstM hH
  refine call_meets PySem.F.slot_list_insert ⟨_, e, rfl⟩ PySem.F.entry_list_insert (PySem.F.args_list_insert_3 _ _ _) (PySem.AutoSeq1.list_insert_list_int_val_1 l its.toArray n i t u2 (by rw [fitsIndex_both (by omega) (by omega)]; decide) (by rw [List.size_toArray]; omega)) ⟨e, .non, _, I.lset (its' := its.take i.toNat ++ u2 :: its.drop i.toNat) hH e ?_ ?_ ?_, rfl, q⟩
  · show (its.toArray.extract 0 (if i < 0 then (i + (its.toArray.size : Int)).toNat else min i.toNat its.toArray.size)).push u2 ++ its.toArray.extract (if i < 0 then (i + (its.toArray.size : Int)).toNat else min i.toNat its.toArray.size) = _
    rw [if_neg (by omega), List.size_toArray]
    by_cases c : i.toNat ≤ its.length
    · rw [Nat.min_eq_left c]
      apply Array.ext'
      simp
      exact List.take_of_length_le (by rw [List.length_drop]; exact Nat.le_refl _)
    · rw [Nat.min_eq_right (by omega), List.take_of_length_le (show its.length ≤ i.toNat by omega), List.drop_eq_nil_of_le (show its.length ≤ i.toNat by omega)]
      apply Array.ext'
      simp
  · exact (r.take _).append (.cons r2 (r.drop _))
  · rw [List.length_append, List.length_cons, List.length_take, List.length_drop]
    omega
noncomputable def rMt : Mt → V → List V → Hp → VK → Prop
  | .append => rAppend
  | .clear => rClear
  | .reverse => rReverse
  | .pop => fun x xs H Q => rPop x xs H Q ∨ rPopAt x xs H Q
  | .extend => rExtend
  | .insert => rInsert
theorem p_mt {m : Mt} {ι : List Addr} {H : Hp} {S : Sto} {od : D} {v : V} {vs : List V} {ds : List D} {Q : VK} {E' : Value → Hp → Prop} (rs : RelS X.mo ι H S) (ro : RD X.mo ι H v od) (rv : RDs X.mo ι H vs ds)
    (p : Post X.mo ι H (mtD m od ds S) (fun ι' H' _ d => ∀ v, RD X.mo ι' H' v d → Q v H') E') : rMt m v vs H Q := by
  unfold mtD at p
  split at p
  · rename_i n
    cases ro with
    | @ref a n ha =>
    split at p
    · rename_i xs hx
      obtain ⟨us, hl, rl⟩ := rs.lst ha hx
      have ln : us.length = xs.length := rl.length
      split at p
      · obtain ⟨y, rfl, ry⟩ := rv.one
        split at p
        · rename_i hz
          obtain ⟨e1, e2⟩ := rs.lput ha hl (rl.append (.cons ry .nil))
          exact ⟨a, us, y, rfl, rfl, hl, by rw [ln]; exact Nat.lt_of_lt_of_le hz lim_line, p ι _ e1 e2 _ .non⟩
        · exact p.elim
      · cases rv
        obtain ⟨e1, e2⟩ := rs.lput ha hl (RDs.nil)
        exact ⟨a, us, rfl, rfl, hl, p ι _ e1 e2 _ .non⟩
      · cases rv
        obtain ⟨e1, e2⟩ := rs.lput ha hl rl.reverse'
        exact ⟨a, us, rfl, rfl, hl, p ι _ e1 e2 _ .non⟩
      · cases rv
        split at p
        · rename_i y hy
          obtain ⟨u, h1, h2⟩ := rl.get hy
          obtain ⟨e1, e2⟩ := rs.lput ha hl rl.dropLast'
          exact .inl ⟨a, us, u, rfl, rfl, hl, by rw [ln]; exact h1, p ι _ e1 e2 _ (h2.ext e1)⟩
        · exact p.elim
      · obtain ⟨y, rfl, ry⟩ := rv.one
        cases ry
        split at p
        · rename_i hz
          split at p
          · rename_i k hk
            split at p
            · rename_i y hy
              obtain ⟨u, h1, h2⟩ := rl.get hy
              obtain ⟨e1, e2⟩ := rs.lput ha hl (RDs.erase k rl)
              exact .inr ⟨a, us, _, k, u, rfl, rfl, hl, hz.1, hz.2, by rw [ln]; exact hk, h1, p ι _ e1 e2 _ (h2.ext e1)⟩
            · exact p.elim
          · exact p.elim
        · exact p.elim
      · obtain ⟨y, rfl, ry⟩ := rv.one
        cases ry with
        | @ref b m hb =>
        split at p
        · rename_i zs hz
          split at p
          · rename_i hle
            obtain ⟨ws, hl2, rl2⟩ := rs.lst hb hz
            obtain ⟨e1, e2⟩ := rs.lput ha hl (rl.append rl2)
            exact ⟨a, b, us, ws, rfl, rfl, hl, hl2, by rw [ln, rl2.length]; exact Nat.le_trans hle lim_line, p ι _ e1 e2 _ .non⟩
          · exact p.elim
        · exact p.elim
      · obtain ⟨y1, y2, rfl, ry1, ry2⟩ := rv.two
        cases ry1
        split at p
        · rename_i hz
          obtain ⟨e1, e2⟩ := rs.lput ha hl ((rl.take _).append (.cons ry2 (rl.drop _)))
          exact ⟨a, us, _, y2, rfl, rfl, hl, hz.1, hz.2.1, by rw [ln]; exact Nat.lt_of_lt_of_le hz.2.2 lim_line, p ι _ e1 e2 _ .non⟩
        · exact p.elim
      · exact p.elim
    · exact p.elim
  · exact p.elim
theorem isLstR_ty {ι : List Addr} {H : Hp} {S : Sto} {v : V} {d : D} (rs : RelS X.mo ι H S) (r : RD X.mo ι H v d) (h : isLstR d S = true) : tyV X.K "list" v H := by
  unfold isLstR at h
  split at h
  · rename_i n
    split at h
    · rename_i xs hx
      cases r with
      | @ref a n ha =>
        obtain ⟨vs, hl, _⟩ := rs.lst ha hx
        exact .inl ⟨rfl, vs, SqL.of hl⟩
    · cases h
  · cases h
theorem de_mt {m : Mt} {name : Str} {id : String} {apos cpos : Pos} (slot : Slot "list" name id) (hty : typeOf (.builtin id) = pure (.type "method_descriptor")) (hm : MtR X id (rMt m)) (ho : DE X E o fo) (ha : DA X E (e :: es) fa)
    (hbase : attributeBase o name X.env (eval o X.env) = eval o X.env)
    (hfew : ((backTo cpos (starEach (e :: es) X.env)).all (fun x => !x.1) && (backToKw cpos (keywordEach [] X.env)).all (fun x => x.1.isSome)
      && decide ((e :: es).length + ([] : List Keyword).length + (if ([] : List Keyword).isEmpty then 0 else 1) < 30)) = true)
    (hline : (apos.endLine == cpos.line) = true) (hs : starEach (e :: es) X.env = (false, eval e X.env) :: starEach es X.env) (hplain : (backTo cpos (starEach es X.env)).any (·.1) = false) :
    DE X E (.Call (.Attribute o name apos) (e :: es) [] cpos) (fMt m fo fa) :=
  (pe_bm PySem.F.plainAttrs_list slot hty hm ho ha hbase hfew hline hs hplain).weak fun σ H Q ⟨ι, δ, S, rs, re, q⟩ => tOf.step rs re (Post.bind q) fun ι1 H1 S1 d v x1 r1 re1 p1 rv1 => by
    by_cases hk : isLstR d S1 = true
    · rw [if_pos hk] at p1
      exact ⟨isLstR_ty r1 rv1 hk, aOf.step r1 re1 (Post.bind p1) fun ι2 H2 S2 ds vs x2 r2 re2 p2 rv2 => p_mt r2 (rv1.ext x2) rv2 p2⟩
    · rw [if_neg hk] at p1
      exact p1.elim
theorem de_mt0 {m : Mt} {name : Str} {id : String} {apos cpos : Pos} (slot : Slot "list" name id) (hty : typeOf (.builtin id) = pure (.type "method_descriptor")) (hm : MtR X id (rMt m)) (ho : DE X E o fo)
    (hbase : attributeBase o name X.env (eval o X.env) = eval o X.env) (hline : (apos.endLine == cpos.line) = true) : DE X E (.Call (.Attribute o name apos) [] [] cpos) (fMt m fo aNil) :=
  (pe_bm0 PySem.F.plainAttrs_list slot hty hm ho hbase hline).weak fun σ H Q ⟨ι, δ, S, rs, re, q⟩ => tOf.step rs re (Post.bind q) fun ι1 H1 S1 d v x1 r1 re1 p1 rv1 => by
    by_cases hk : isLstR d S1 = true
    · rw [if_pos hk] at p1
      exact ⟨isLstR_ty r1 rv1 hk, p_mt r1 rv1 .nil p1⟩
    · rw [if_neg hk] at p1
      exact p1.elim
theorem mt_popB : MtR X "list.pop" (rMt .pop) := MtR.or (r := rPop) (r' := rPopAt) mt_pop mt_popAt
end
section
variable {M : Mo} {ι : List Addr} {H : Hp} {S : Sto}
theorem RFs.lookup {f : Str} : ∀ {vs : List (Str × V)} {ds : List (Str × D)} {d : D}, RFs M ι H vs ds → ds.lookup f = some d → ∃ v, vs.lookup f = some v ∧ RD M ι H v d
  | _, _, _, .nil, h => by cases h
  | _, _, _, .cons (f := g) r t, h => by
    rw [List.lookup_cons] at h ⊢
    cases e : f == g with
    | true => rw [e] at h; cases h; exact ⟨_, rfl, r⟩
    | false => rw [e] at h; exact RFs.lookup t h
theorem RFs.lookup_none {f : Str} : ∀ {vs : List (Str × V)} {ds : List (Str × D)}, RFs M ι H vs ds → ds.lookup f = none → vs.lookup f = none
  | _, _, .nil, _ => rfl
  | _, _, .cons (f := g) r t, h => by
    rw [List.lookup_cons] at h ⊢
    cases e : f == g with
    | true => rw [e] at h; cases h
    | false => rw [e] at h; exact RFs.lookup_none t h
theorem RFs.length : ∀ {vs : List (Str × V)} {ds : List (Str × D)}, RFs M ι H vs ds → vs.length = ds.length
  | _, _, .nil => rfl
  | _, _, .cons _ t => congrArg (· + 1) t.length
noncomputable def putD (f : Str) (d : D) : List (Str × D) → List (Str × D)
  | [] => [(f, d)]
  | (g, x) :: r => if g = f then (g, d) :: r else (g, x) :: putD f d r
theorem RFs.put {f : Str} {v : V} {d : D} (r : RD M ι H v d) : ∀ {vs : List (Str × V)} {ds : List (Str × D)}, RFs M ι H vs ds → RFs M ι H (putF f v vs) (putD f d ds)
  | _, _, .nil => .cons r .nil
  | _, _, .cons (f := g) (v := x) (d := y) (vs := vs) (ds := ds) h t => by
    show RFs M ι H (if g = f then (g, v) :: vs else (g, x) :: putF f v vs) (if g = f then (g, d) :: ds else (g, y) :: putD f d ds)
    by_cases e : g = f
    · rw [if_pos e, if_pos e]
      exact .cons r t
    · rw [if_neg e, if_neg e]
      exact .cons h (RFs.put r t)
end
section
variable {X : Cx} {E : St → XK} {pos : Pos} {e o i : Expr} {es : List Expr} {fe fo fi : Fd} {fa : Fa} {G : Glo}
noncomputable def fldD (G : Glo) (f : Str) (o : D) (S : Sto) : R D := match o with
  | .ref n => match S[n]? with
    | some (.ins C fs) => if G.ins C = true ∧ G.fld C f = true then (match fs.lookup f with
      | some d => .ok d S
      | none => .fail) else .fail
    | _ => .fail
  | _ => .fail
noncomputable def fFld (G : Glo) (f : Str) (fo : Fd) : Fd := fun δ S => (fo δ S).bind fun o S1 => fldD G f o S1
theorem RelS.ins {M : Mo} {ι : List Addr} {H : Hp} {S : Sto} {n : Nat} {a : Addr} {C : Str} {fs : List (Str × D)} (h : RelS M ι H S) (ha : ι[n]? = some a) (e : S[n]? = some (.ins C fs)) : ∃ Ca dx vs, M.mg C = some (.ref Ca) ∧ H a = some (.ins Ca dx vs) ∧ RFs M ι H vs fs := h.obj n a _ ha e
theorem de_fld {f : Str} (g : GOk X.mo G) (ho : DE X E o fo) (hb : attributeBase o f X.env (eval o X.env) = eval o X.env) : DE X E (.Attribute o f pos) (fFld G f fo) :=
  (pe_fld ho hb).weak fun σ H Q ⟨ι, δ, S, rs, re, q⟩ => tOf.step rs re (Post.bind q) fun ι1 H1 S1 d v x1 r1 re1 p1 rv1 => by
    unfold fldD at p1
    split at p1
    · rename_i n
      split at p1
      · rename_i C fs hx
        split at p1
        · rename_i hk
          split at p1
          · rename_i y hy
            cases rv1 with
            | @ref a n ha =>
              obtain ⟨Ca, dx, vs, m, hi, rf⟩ := r1.ins ha hx
              obtain ⟨Cb, m', c, _⟩ := g.ins C hk.1
              cases m.symm.trans m'
              obtain ⟨u, h1, h2⟩ := rf.lookup hy
              exact ⟨a, Ca, dx, vs, u, rfl, hi, c, g.fld C f hk.2 Ca m, h1, p1 ι1 H1 (.refl _ _) r1 u h2⟩
          · exact p1.elim
        · exact p1.elim
      · exact p1.elim
    · exact p1.elim
noncomputable def setFD (G : Glo) (f : Str) (o d : D) (S : Sto) : Option Sto := match o with
  | .ref n => match S[n]? with
    | some (.ins C fs) => if G.ins C = true ∧ G.fld C f = true ∧ fs.length < 1000 then some (S.set n (.ins C (putD f d fs))) else none
    | _ => none
  | _ => none
noncomputable def sFldD (G : Glo) (f : Str) (fo fe : Fd) : Fs := fun δ S => (fe δ S).toS δ fun d S1 => (fo δ S1).toS δ fun o S2 => match setFD G f o d S2 with
  | some S3 => .next δ S3
  | none => .fail
theorem ds_fld {f : Str} {p : Pos} (g : GOk X.mo G) (ho : DE X E o fo) (he : DE X E e fe) (hs : swapsWith e (some (.Attribute o f p)) pos.line X.env = pure false) : DS X E (.Assign [.Attribute o f p] e pos) (sFldD G f fo fe) :=
  (ps_fld ho he hs).weak fun D σ H ⟨ι, δ, S, rs, re, q⟩ => tOf.step rs re (PostS.toS q re) fun ι1 H1 S1 d v x1 r1 re1 p1 rv1 =>
    tOf.step r1 re1 (PostS.toS p1 re1) fun ι2 H2 S2 od vo x2 r2 re2 p2 rv2 => by
      have rv := rv1.ext x2
      cases hd : setFD G f od d S2 with
      | none => rw [hd] at p2; exact p2.elim
      | some S3 =>
        rw [hd] at p2
        unfold setFD at hd
        split at hd
        · rename_i n
          split at hd
          · rename_i C fs hx
            split at hd
            · rename_i hk
              cases hd
              cases rv2 with
              | @ref a n ha =>
                obtain ⟨Ca, dx, vs, m, hi, rf⟩ := r2.ins ha hx
                obtain ⟨Cb, m', c, _⟩ := g.ins C hk.1
                cases m.symm.trans m'
                have mu : Mut (H2 a) := by rw [hi]; trivial
                have e1 : Ext ι2 H2 ι2 (upd H2 a (.ins Ca dx (putF f v vs))) := Ext.set mu
                have rf' := (RFs.put (f := f) rv rf).mono e1.pre e1.ts
                have e2 := r2.set (o := .ins C (putD f d fs)) ha mu ⟨Ca, dx, putF f v vs, m, upd_same, rf'⟩
                exact ⟨a, Ca, dx, vs, rfl, hi, c, g.fld C f hk.2.1 Ca m, by rw [rf.length]; exact hk.2.2, p2 ι2 _ _ e1 e2 (re2.ext e1)⟩
            · cases hd
          · cases hd
        · cases hd
end
noncomputable def noDot (x : Str) : Bool := !(x.cps.toList.contains 46)
structure AtG (M : Mo) (G : Glo) (x : Str) (f : Addr) : Prop where
  top : noDot x = true → M.mg x = some (.ref f)
  mth : ∀ C m k, G.mth C m = some (x, k) → ∃ Ca, M.mg C = some (.ref Ca) ∧ Meth M.K Ca m f
  ini : ∀ C k, G.ini C = some (some (x, k)) → ∃ Ca, M.mg C = some (.ref Ca) ∧ Mk M.K Ca f
noncomputable def BindsA (M : Mo) (fd : FuncData) (ps : List Str) (df : List D) : Prop := ∀ k, k ≤ df.length → ∃ (dvs : List V) (ds : List Value), Vals dvs ds ∧ (∀ ι H, RDs M ι H dvs (df.drop k)) ∧ Binds M.K fd ps ds
theorem BindsA.full {M : Mo} {fd : FuncData} {ps : List Str} {df : List D} (h : BindsA M fd ps df) : Binds M.K fd ps [] := by
  obtain ⟨dvs, ds, h1, h2, h3⟩ := h df.length (Nat.le_refl _)
  have r := h2 [] (fun _ => none)
  rw [List.drop_length] at r
  cases r
  cases h1
  exact h3
theorem BindsA.nil {M : Mo} {fd : FuncData} {ps : List Str} {df : List D} (h : Binds M.K fd ps []) (e : df = []) : BindsA M fd ps df := by
  subst e
  intro k hk
  exact ⟨[], [], .nil, fun ι H => by rw [List.drop_nil]; exact .nil, h⟩
noncomputable def HasA (P : Program) (w : World) (M : Mo) (G : Glo) (base : Heap) (k : Nat) (x : Str) (ps : List Str) (sp : Sp) : Prop :=
  ∃ f fd, AtG M G x f ∧ PySem.W.keepIn M.K (.ref f) = true ∧ BindsA M fd ps (G.dfl x) ∧ FnOk P w M.K M.mg base (CXE P w) k f fd ps sp
theorem HasA.top {P : Program} {w : World} {M : Mo} {G : Glo} {base : Heap} {k : Nat} {x : Str} {ps : List Str} {sp : Sp} (h : HasA P w M G base k x ps sp) (n : noDot x = true) : Has P w M.K M.mg base k x ps sp := by
  obtain ⟨f, fd, h1, h2, h3, h4⟩ := h
  exact ⟨f, fd, h1.top n, h2, h3.full, h4⟩
section
variable {X : Cx} {E : St → XK} {pos apos : Pos} {e o : Expr} {es : List Expr} {fo : Fd} {fa : Fa} {G : Glo} {Φ : Str → List D → Sto → R D}
noncomputable def tMethD (X : Cx) (m : Str) (E : St → XK) (ta : TE) (t : TA) : TE := fun σ H Q => ta σ H fun x H1 => ∃ a C dx fs k f fd ps sp, x = .ref a ∧ H1 a = some (.ins C dx fs) ∧ Cls X.K C ∧ Meth X.K C m f ∧ FnOk X.prog X.w X.K X.mg X.base (CXE X.prog X.w) k f fd ps sp ∧ Room k X.A ∧ Binds X.K fd ps [] ∧
  fs.lookup m = none ∧ t σ H1 fun vs H2 => sp (x :: vs) H2 Q (E σ)
theorem pe_methD {m : Str} {ta : TE} {t : TA} {pl : Sem Bool} (he : PE X o ta) (hx : PassS (CXE X.prog X.w) X E) (ha : PA X (e :: es) t)
    (hst : starEach (e :: es) X.env = (false, eval e X.env) :: starEach es X.env) (hpl : (backTo pos (starEach es X.env)).any (·.1) = false)
    (ht : eval (.Call (.Attribute o m apos) (e :: es) [] pos) X.env = (do
      let ov ← eval o X.env
      standAt apos.atName
      let (f, first) ← holding [ov] (getMethod ov m pl)
      callWith pos f first (backTo pos (starEach (e :: es) X.env)) (backToKw pos (keywordEach [] X.env)))) :
    PE X (.Call (.Attribute o m apos) (e :: es) [] pos) (tMethD X m E ta t) := by
  intro pins s σ H Q I h
  refine PySem.W.methodCall_KW (pl := pl) (thn (he pins s σ H _ I h) fun u s1 hh => ?_) ht
  obtain ⟨x, H1, I1, rx, a, C, dx, fs, k, f, fd, ps, sp, ex, ea, c, hm, F, hr, hb, l, q⟩ := hh
  subst ex
  obtain rfl : u = Value.ref a := rx
  refine getmeth_ok I1 ea c hm l ?_
  refine PySem.W.callWith_K (first := [.ref a]) (h₀ := X.base) I.ok.mod.kin hm.kp (thn (ha pos pins s1 σ H1 _ I1 q) fun us s2 ⟨vs, H2, I2, r, q2⟩ => ⟨I2.kIn, ?_⟩) hst hpl
  exact run_fnS (us := .ref a :: us) (vs := .ref a :: vs) F hr hb .nil hx I2 (.cons rfl r) (by rw [List.append_nil]; exact q2)
theorem pe_methD0 {m : Str} {ta : TE} {pl : Sem Bool} (he : PE X o ta) (hx : PassS (CXE X.prog X.w) X E)
    (ht : eval (.Call (.Attribute o m apos) [] [] pos) X.env = (do
      let ov ← eval o X.env
      standAt apos.atName
      let (f, first) ← holding [ov] (getMethod ov m pl)
      callWith pos f first (backTo pos (starEach [] X.env)) (backToKw pos (keywordEach [] X.env)))) :
    PE X (.Call (.Attribute o m apos) [] [] pos) (tMethD X m E ta tNil) := by
  intro pins s σ H Q I h
  refine PySem.W.methodCall_KW (pl := pl) (thn (he pins s σ H _ I h) fun u s1 hh => ?_) ht
  obtain ⟨x, H1, I1, rx, a, C, dx, fs, k, f, fd, ps, sp, ex, ea, c, hm, F, hr, hb, l, q⟩ := hh
  subst ex
  obtain rfl : u = Value.ref a := rx
  refine getmeth_ok I1 ea c hm l ?_
  exact PySem.W.callWith_K0 (first := [.ref a]) I1.kIn hm.kp (run_fnS (us := [.ref a]) (vs := [.ref a]) F hr hb .nil hx I1 (.cons rfl .nil) q)
noncomputable def fMeth (G : Glo) (Φ : Str → List D → Sto → R D) (m : Str) (fo : Fd) (fa : Fa) : Fd := fun δ S => (fo δ S).bind fun o S1 => match o with
  | .ref n => match S1[n]? with
    | some (.ins C fs) => match G.mth C m with
      | some (x, k) => if G.ins C = true ∧ fs.lookup m = none then (fa δ S1).bind fun ds S2 => if ds.length + 1 = k then Φ x (o :: ds) S2 else .fail else .fail
      | none => .fail
    | _ => .fail
  | _ => .fail
theorem meth_of {m : Str} {ι : List Addr} {H : Hp} {S : Sto} {δ : Dv} {σ : St} {d : D} {v : V} {Q : VK} {t : TA} (g : GOk X.mo G) (hΦ : ∀ C m x k, G.mth C m = some (x, k) → ∃ ps n, ps.length = k ∧ HasA X.prog X.w X.mo G X.base n x ps (spOf X.mo k (Φ x)) ∧ Room n X.A)
    (rs : RelS X.mo ι H S) (re : RelE X.mo ι H X.N.length σ δ) (rv : RD X.mo ι H v d) (ht : ∀ {σ H Q}, aOf X.mo X.N.length E fa σ H Q → t σ H Q)
    (p : Post X.mo ι H (match d with
      | .ref n => match S[n]? with
        | some (.ins C fs) => match G.mth C m with
          | some (x, k) => if G.ins C = true ∧ fs.lookup m = none then (fa δ S).bind fun ds S2 => if ds.length + 1 = k then Φ x (d :: ds) S2 else .fail else .fail
          | none => .fail
        | _ => .fail
      | _ => .fail) (fun ι' H' _ d => ∀ v, RD X.mo ι' H' v d → Q v H') (fun C H' => E σ C none H')) :
    ∃ a C dx fs k f fd ps sp, v = .ref a ∧ H a = some (.ins C dx fs) ∧ Cls X.K C ∧ Meth X.K C m f ∧ FnOk X.prog X.w X.K X.mg X.base (CXE X.prog X.w) k f fd ps sp ∧ Room k X.A ∧ Binds X.K fd ps [] ∧ fs.lookup m = none ∧ t σ H fun vs H2 => sp (v :: vs) H2 Q (E σ) := by
  split at p
  · rename_i n
    split at p
    · rename_i C fs hx
      split at p
      · rename_i x k hm
        split at p
        · rename_i hk
          cases rv with
          | @ref a n ha =>
            obtain ⟨Ca, dx, vs, mm, hi, rf⟩ := rs.ins ha hx
            obtain ⟨Cb, m', c, _⟩ := g.ins C hk.1
            cases mm.symm.trans m'
            obtain ⟨ps, j, hl, ⟨f, fd, h1, h2, h3, h4⟩, hr⟩ := hΦ C m x k hm
            obtain ⟨Cc, m'', me⟩ := h1.mth C m k hm
            cases mm.symm.trans m''
            refine ⟨a, Ca, dx, vs, j, f, fd, ps, _, rfl, hi, c, me, h4, hr, h3.full, rf.lookup_none hk.2, ht ?_⟩
            refine aOf.step rs re (Post.bind p) fun ι1 H1 S1 ds us x1 r1 re1 p1 rv1 => ?_
            split at p1
            · rename_i hlen
              exact ⟨by show us.length + 1 = k; rw [rv1.length]; exact hlen, ι1, .ref n :: ds, S1, r1, .cons (.ref (x1.pre _ _ ha)) rv1, p1⟩
            · exact p1.elim
        · exact p.elim
      · exact p.elim
    · exact p.elim
  · exact p.elim
theorem de_meth {m : Str} {pl : Sem Bool} (g : GOk X.mo G) (hΦ : ∀ C m x k, G.mth C m = some (x, k) → ∃ ps n, ps.length = k ∧ HasA X.prog X.w X.mo G X.base n x ps (spOf X.mo k (Φ x)) ∧ Room n X.A) (hx : PassS (CXE X.prog X.w) X E) (ho : DE X E o fo) (ha : DA X E (e :: es) fa)
    (hst : starEach (e :: es) X.env = (false, eval e X.env) :: starEach es X.env) (hpl : (backTo pos (starEach es X.env)).any (·.1) = false)
    (ht : eval (.Call (.Attribute o m apos) (e :: es) [] pos) X.env = (do
      let ov ← eval o X.env
      standAt apos.atName
      let (f, first) ← holding [ov] (getMethod ov m pl)
      callWith pos f first (backTo pos (starEach (e :: es) X.env)) (backToKw pos (keywordEach [] X.env)))) : DE X E (.Call (.Attribute o m apos) (e :: es) [] pos) (fMeth G Φ m fo fa) :=
  (pe_methD ho hx ha hst hpl ht).weak fun σ H Q ⟨ι, δ, S, rs, re, q⟩ => tOf.step rs re (Post.bind q) fun ι1 H1 S1 d v x1 r1 re1 p1 rv1 => meth_of g hΦ r1 re1 rv1 (fun z => z) p1
theorem de_meth0 {m : Str} {pl : Sem Bool} (g : GOk X.mo G) (hΦ : ∀ C m x k, G.mth C m = some (x, k) → ∃ ps n, ps.length = k ∧ HasA X.prog X.w X.mo G X.base n x ps (spOf X.mo k (Φ x)) ∧ Room n X.A) (hx : PassS (CXE X.prog X.w) X E) (ho : DE X E o fo)
    (ht : eval (.Call (.Attribute o m apos) [] [] pos) X.env = (do
      let ov ← eval o X.env
      standAt apos.atName
      let (f, first) ← holding [ov] (getMethod ov m pl)
      callWith pos f first (backTo pos (starEach [] X.env)) (backToKw pos (keywordEach [] X.env)))) : DE X E (.Call (.Attribute o m apos) [] [] pos) (fMeth G Φ m fo aNil) :=
  (pe_methD0 ho hx ht).weak fun σ H Q ⟨ι, δ, S, rs, re, q⟩ => tOf.step rs re (Post.bind q) fun ι1 H1 S1 d v x1 r1 re1 p1 rv1 => meth_of g hΦ r1 re1 rv1 (fun ⟨ι, δ, S, rs, re, z⟩ => z ι _ (.refl _ _) rs _ .nil) p1
end
section
variable {X : Cx} {E : St → XK} {pos : Pos} {e : Expr} {es : List Expr} {fa : Fa} {G : Glo} {Φ : Str → List D → Sto → R D} {C f : Addr} {k : Nat} {fd : FuncData} {ps : List Str} {sp : Sp} {x : Str} {p : Pos} {t : TA}
theorem run_makeS {pins : List (Addr × Obj)} {σ : St} {H : Hp} {s : Shared} {Q : VK} {us : List Value} {vs : List V} (M : Mk X.K C f) (F : FnOk X.prog X.w X.K X.mg X.base (CXE X.prog X.w) k f fd ps sp) (hr : Room (k + 1) X.A) (hb : Binds X.K fd ps [])
    (hx : PassS (CXE X.prog X.w) X E) (I : Inv X pins σ H s) (r : Vals vs us)
    (h : ∀ x dx, H x = none → H dx = none → dx ≠ x → sp (.ref x :: vs) (upd (upd H dx (.own x)) x (.ins C dx [])) (fun v H2 => v = .non ∧ Q (.ref x) H2) (E σ)) :
    wpAny (model X.prog X.w) X.A (call (.ref C) us) (EP X pins σ Q) X.xe s := by
  have hq := h (s.heap.objs.size + 1) s.heap.objs.size (I.hok.fresh (Nat.le_succ _)) (I.hok.fresh (Nat.le_refl _)) (Nat.ne_of_lt (Nat.lt_succ_self _))
  have I2 := Inv.made (C := C) I
  have r2 : Vals (V.ref (s.heap.objs.size + 1) :: vs) (Value.ref (s.heap.objs.size + 1) :: us) := .cons rfl r
  have hl : (Value.ref (s.heap.objs.size + 1) :: us ++ []).length = ps.length := by
    have e := r2.length
    rw [F.len _ _ _ _ hq] at e
    rw [List.append_nil]
    exact e.symm
  have hb' := hb _ (Value.ref (s.heap.objs.size + 1) :: us) I2.kIn hl
  rw [List.append_nil] at hb'
  refine wpAny_call (make_map (f := f) I.kIn M.makes M.init (beq_iff_eq.mp M.fn) (codeAny_mono (F.run _ X.stack _ _ ⟨Value.ref (s.heap.objs.size + 1) :: us, []⟩ (Value.ref (s.heap.objs.size + 1) :: us) _ _ (E σ) (hr.make C us [])
    (I2.env0.make C us []) hb' r2 hq) fun r s' hq' => ?_))
  cases r with
  | error e => exact hx pins σ _ _ e s' I2 hq'
  | ok fl =>
    cases fl with
    | ret u =>
      obtain ⟨v, H', I3, rv, ev, q3⟩ := I2.after hq'
      subst ev
      exact ⟨rv, ⟨V.ref (s.heap.objs.size + 1), H', I3, rfl, q3⟩⟩
    | next => exact False.elim hq'
    | brk => exact False.elim hq'
    | cont => exact False.elim hq'
noncomputable def tMakeS (C : Addr) (sp : Sp) (E : St → XK) (t : TA) : TE := fun σ H Q => t σ H fun vs H1 => ∀ x dx, H1 x = none → H1 dx = none → dx ≠ x →
  sp (.ref x :: vs) (upd (upd H1 dx (.own x)) x (.ins C dx [])) (fun v H2 => v = .non ∧ Q (.ref x) H2) (E σ)
theorem pe_makeS (M : Mk X.K C f) (F : FnOk X.prog X.w X.K X.mg X.base (CXE X.prog X.w) k f fd ps sp) (hr : Room (k + 1) X.A) (hg : Gl X x) (hm : X.mg x = some (.ref C)) (hb : Binds X.K fd ps []) (hx : PassS (CXE X.prog X.w) X E)
    (ha : PA X (e :: es) t) (hdb : (x == ("__debug__" : Str)) = false) (he : starEach (e :: es) X.env = (false, eval e X.env) :: starEach es X.env) (hpl : (backTo pos (starEach es X.env)).any (·.1) = false) :
    PE X (.Call (.Name x p) (e :: es) [] pos) (tMakeS C sp E t) := by
  intro pins s σ H Q I h
  refine wpAny_Call_Name_kw (ld_glob I hg hm ?_ hdb)
  refine PySem.W.callWith_K (h₀ := X.base) I.ok.mod.kin M.kp (thn (ha pos pins s σ H _ I h) fun us s1 ⟨vs, H1, I1, r, q⟩ => ⟨I1.kIn, ?_⟩) he hpl
  exact run_makeS M F hr hb hx I1 r q
theorem pe_makeS0 (M : Mk X.K C f) (F : FnOk X.prog X.w X.K X.mg X.base (CXE X.prog X.w) k f fd ps sp) (hr : Room (k + 1) X.A) (hg : Gl X x) (hm : X.mg x = some (.ref C)) (hb : Binds X.K fd ps []) (hx : PassS (CXE X.prog X.w) X E)
    (hdb : (x == ("__debug__" : Str)) = false) : PE X (.Call (.Name x p) [] [] pos) (tMakeS C sp E tNil) := by
  intro pins s σ H Q I h
  refine wpAny_Call_Name_kw (ld_glob I hg hm ?_ hdb)
  exact PySem.W.callWith_K0 I.kIn M.kp (run_makeS (us := []) M F hr hb hx I .nil h)
theorem run_make0 {pins : List (Addr × Obj)} {σ : St} {H : Hp} {s : Shared} {Q : VK} (M : Mk0 X.K C) (I : Inv X pins σ H s)
    (h : ∀ x dx, H x = none → H dx = none → dx ≠ x → Q (.ref x) (upd (upd H dx (.own x)) x (.ins C dx []))) : wpAny (model X.prog X.w) X.A (call (.ref C) []) (EP X pins σ Q) X.xe s := by
  have hq := h (s.heap.objs.size + 1) s.heap.objs.size (I.hok.fresh (Nat.le_succ _)) (I.hok.fresh (Nat.le_refl _)) (Nat.ne_of_lt (Nat.lt_succ_self _))
  have I2 := Inv.made (C := C) I
  have Y := PySem.W.makes_of (M := model X.prog X.w) I.kIn M.makes
  have Li := PySem.W.looks_findIn (M := model X.prog X.w) I.kIn M.init
  obtain ⟨hh, g, d, tk, os⟩ := s
  have hx : ((hh.push PySem.W.emptyDict).push (PySem.W.instObj C hh.objs.size)).get? (hh.objs.size + 1) = some (PySem.W.instObj C hh.objs.size) := by
    have := Heap.get?_push_size (hh.push PySem.W.emptyDict) (o := PySem.W.instObj C hh.objs.size) rfl
    rwa [Heap.size_push] at this
  refine wpAny_call (PySem.W.make_core Y Li (fun self => PySem.W.Looks.of_pure (PySem.W.oi_bind self)) (.inr ⟨rfl, rfl⟩) ?_)
  have t1 : PySem.W.Looks (model X.prog X.w) ((hh.push PySem.W.emptyDict).push (PySem.W.instObj C hh.objs.size)) (typeOf (.ref (hh.objs.size + 1))) (.ref C) := (PySem.W.Looks.ld hx).andThen .now
  have t2 : PySem.W.Looks (model X.prog X.w) ((hh.push PySem.W.emptyDict).push (PySem.W.instObj C hh.objs.size)) (isInstance (.ref (hh.objs.size + 1)) (.type "object")) true := t1.andThen (Y.top.keeps fun b o e => Heap.get?_push_of_some _ (Heap.get?_push_of_some _ e))
  refine codeAny_call_builtin PySem.W.oi_plain PySem.W.entry_oi (@PySem.W.check_slot (model X.prog X.w) _ _ _ "object.__init__" "object" "__init__" (.ref (hh.objs.size + 1)) [] [] _ PySem.W.oi_kind PySem.W.oi_split t2 (PySem.W.oi_args (.ref (hh.objs.size + 1))) ?_)
  rw [PySem.W.oi_run]
  exact wpAny_pure (And.intro rfl ⟨V.ref (hh.objs.size + 1), _, I2, rfl, hq⟩)
theorem pe_makeN (M : Mk0 X.K C) (hg : Gl X x) (hm : X.mg x = some (.ref C)) (hdb : (x == ("__debug__" : Str)) = false) :
    PE X (.Call (.Name x p) [] [] pos) (fun _ H Q => ∀ x dx, H x = none → H dx = none → dx ≠ x → Q (.ref x) (upd (upd H dx (.own x)) x (.ins C dx []))) := by
  intro pins s σ H Q I h
  refine wpAny_Call_Name_kw (ld_glob I hg hm ?_ hdb)
  exact PySem.W.callWith_K0 I.kIn M.kp (run_make0 M I h)
theorem RelS.madeI {M : Mo} {ι : List Addr} {H : Hp} {S : Sto} {Cn : Str} {C x dx : Addr} (h : RelS M ι H S) (m : M.mg Cn = some (.ref C)) (hx : H x = none) (hd : H dx = none) (ne : dx ≠ x) :
    Ext ι H (ι ++ [x]) (upd (upd H dx (.own x)) x (.ins C dx [])) ∧ RelS M (ι ++ [x]) (upd (upd H dx (.own x)) x (.ins C dx [])) (S ++ [.ins Cn []]) := by
  have hx' : upd H dx (.own x) x = none := by rw [upd_ne (Ne.symm ne)]; exact hx
  have e1 : Ext ι H ι (upd H dx (.own x)) := Ext.laid hd
  exact ⟨e1.trans (Ext.made hx'), (h.laid hd).made hx' ⟨C, dx, [], m, upd_same, .nil⟩⟩
noncomputable def fMake (Φ : Str → List D → Sto → R D) (C : Str) (x : Str) (k : Nat) (fa : Fa) : Fd := fun δ S => (fa δ S).bind fun ds S1 => if ds.length + 1 = k then (Φ x (.ref S1.length :: ds) (S1 ++ [.ins C []])).bind fun r S2 => (match r with
  | .non => .ok (.ref S1.length) S2
  | _ => .fail) else .fail
noncomputable def fMake0 (C : Str) : Fd := fun _ S => .ok (.ref S.length) (S ++ [.ins C []])
theorem make_of {Cn : Str} {Ca : Addr} {j : Nat} {ι : List Addr} {H : Hp} {S : Sto} {σ : St} {ds : List D} {vs : List V} {Q : VK} (m : X.mg Cn = some (.ref Ca)) (rs : RelS X.mo ι H S) (rv : RDs X.mo ι H vs ds)
    (p : Post X.mo ι H (if ds.length + 1 = j then (Φ x (.ref S.length :: ds) (S ++ [.ins Cn []])).bind fun r S2 => (match r with
      | .non => .ok (.ref S.length) S2
      | _ => .fail) else .fail) (fun ι' H' _ d => ∀ v, RD X.mo ι' H' v d → Q v H') (fun C H' => E σ C none H')) (y dx : Addr) (hy : H y = none) (hd : H dx = none) (ne : dx ≠ y) :
    spOf X.mo j (Φ x) (.ref y :: vs) (upd (upd H dx (.own y)) y (.ins Ca dx [])) (fun v H2 => v = .non ∧ Q (.ref y) H2) (E σ) := by
  split at p
  · rename_i hl
    obtain ⟨e1, r1⟩ := rs.madeI (Cn := Cn) m hy hd ne
    have hn : (ι ++ [y])[S.length]? = some y := by rw [← rs.len]; exact getElem?_snoc ι y
    refine ⟨by show vs.length + 1 = j; rw [rv.length]; exact hl, ι ++ [y], .ref S.length :: ds, S ++ [.ins Cn []], r1, .cons (.ref hn) (rv.ext e1), ?_⟩
    refine Post.mono (Post.bind (Post.ext p e1)) (fun ι2 H2 S2 d x2 r2 q v rv2 => ?_) fun _ _ z => z
    cases d <;> first | (cases rv2; exact ⟨rfl, q ι2 H2 (.refl _ _) r2 _ (.ref (x2.pre _ _ hn))⟩) | exact q.elim
  · exact p.elim
theorem de_make {Cn : Str} {j n : Nat} (hΦ : HasA X.prog X.w X.mo G X.base n x ps (spOf X.mo j (Φ x))) (hi : G.ini Cn = some (some (x, j))) (hr : Room (n + 1) X.A) (hg : Gl X Cn) (hx : PassS (CXE X.prog X.w) X E) (ha : DA X E (e :: es) fa)
    (hdb : (Cn == ("__debug__" : Str)) = false) (he : starEach (e :: es) X.env = (false, eval e X.env) :: starEach es X.env) (hpl : (backTo pos (starEach es X.env)).any (·.1) = false) : DE X E (.Call (.Name Cn p) (e :: es) [] pos) (fMake Φ Cn x j fa) := by
  obtain ⟨f, fd, h1, h2, h3, h4⟩ := hΦ
  obtain ⟨Ca, m, mk⟩ := h1.ini Cn j hi
  exact (pe_makeS mk h4 hr hg m h3.full hx ha hdb he hpl).weak fun σ H Q ⟨ι, δ, S, rs, re, q⟩ => aOf.step rs re (Post.bind q) fun ι1 H1 S1 ds vs x1 r1 re1 p1 rv1 => make_of m r1 rv1 p1
theorem de_make0 {Cn : Str} {j n : Nat} (hΦ : HasA X.prog X.w X.mo G X.base n x ps (spOf X.mo j (Φ x))) (hi : G.ini Cn = some (some (x, j))) (hr : Room (n + 1) X.A) (hg : Gl X Cn) (hx : PassS (CXE X.prog X.w) X E)
    (hdb : (Cn == ("__debug__" : Str)) = false) : DE X E (.Call (.Name Cn p) [] [] pos) (fMake Φ Cn x j aNil) := by
  obtain ⟨f, fd, h1, h2, h3, h4⟩ := hΦ
  obtain ⟨Ca, m, mk⟩ := h1.ini Cn j hi
  exact (pe_makeS0 mk h4 hr hg m h3.full hx hdb).weak fun σ H Q ⟨ι, δ, S, rs, re, q⟩ => make_of m rs .nil q
theorem de_makeN {Cn : Str} {Ca : Addr} (m : X.mg Cn = some (.ref Ca)) (mk : Mk0 X.K Ca) (hg : Gl X Cn) (hdb : (Cn == ("__debug__" : Str)) = false) : DE X E (.Call (.Name Cn p) [] [] pos) (fMake0 Cn) :=
  (pe_makeN mk hg m hdb).weak fun σ H Q ⟨ι, δ, S, rs, re, q⟩ y dx hy hd ne => by
    obtain ⟨e1, r1⟩ := rs.madeI (Cn := Cn) m hy hd ne
    exact q _ _ e1 r1 _ (.ref (by rw [← rs.len]; exact getElem?_snoc ι y))
end
section
variable {X : Cx} {E : St → XK} {pos : Pos} {a b c d e : Expr} {fa fb fc fd : Fd}
noncomputable def fBad : Fd := fun _ _ => .fail
noncomputable def sBad : Fs := fun _ _ => .fail
theorem ds_bad {st : Stmt} : DS X E st sBad := fun _ _ _ _ _ _ ⟨_, _, _, _, _, p⟩ => p.elim
noncomputable def tChain3 (r r' r'' : R2) (ta tb tc td : TE) : TE := fun σ H Q => ta σ H fun x H1 => tb σ H1 fun y H2 => r x y H2 fun z H3 => ∃ k, z = .bl k ∧
  (if k = true then tc σ H3 fun w' H4 => r' y w' H4 fun z' H5 => ∃ k', z' = .bl k' ∧ (if k' = true then td σ H5 fun u' H6 => r'' w' u' H6 Q else Q (.bl false) H5) else Q (.bl false) H3)
noncomputable def fChain3 (g g' g'' : D → D → Sto → R D) (fa fb fc fd : Fd) : Fd := fun δ S => (fa δ S).bind fun x S1 => (fb δ S1).bind fun y S2 => (g x y S2).bind (isBl fun _ S3 k => if k = true then (fc δ S3).bind fun z S4 => (g' y z S4).bind (isBl fun _ S5 k' => if k' = true then (fd δ S5).bind fun w S6 => g'' z w S6 else .ok (.bl false) S5) else .ok (.bl false) S3)
noncomputable def cutD (xs : List D) (lo hi : Option Int) : List D := (xs.drop (HT.sIx xs.length 0 lo)).take (HT.sIx xs.length xs.length hi - HT.sIx xs.length 0 lo)
noncomputable abbrev rSlA (K : PySem.W.Frag) : V → Option Int → Option Int → Hp → VK → Prop := fun x lo hi H Q => rSlT K x lo hi H Q ∨ rSlL K x lo hi H Q
theorem sl_any : SlR X (rSlA X.K) := sl_tup.or sl_list
noncomputable def slD (lo hi : Option Int) (d : D) (S : Sto) : R D := match d with
  | .tup ds => if HT.sIx ds.length 0 lo = 0 ∧ HT.sIx ds.length ds.length hi = ds.length then .fail else mkTup (cutD ds lo hi) S
  | d => match lstD d S with
    | some ds => mkLst (cutD ds lo hi) S
    | none => .fail
theorem RDs.cut {M : Mo} {ι : List Addr} {H : Hp} {vs : List V} {ds : List D} (r : RDs M ι H vs ds) (lo hi : Option Int) : RDs M ι H (cutV vs lo hi) (cutD ds lo hi) := by
  unfold cutV cutD
  rw [r.length]
  exact (r.drop _).take _
theorem sl_of {lo hi : Option Int} {ι : List Addr} {H : Hp} {S : Sto} {v : V} {d : D} {Q : VK} {E' : Value → Hp → Prop} (rs : RelS X.mo ι H S) (r : RD X.mo ι H v d) (p : Post X.mo ι H (slD lo hi d S) (fun ι' H' _ d => ∀ v, RD X.mo ι' H' v d → Q v H') E') : rSlA X.K v lo hi H Q := by
  unfold slD at p
  split at p
  · split at p
    · exact p.elim
    · rename_i ds hn
      cases r with
      | @tup a vs _ h t => exact .inl ⟨a, vs, rfl, h, by rw [t.length]; exact hn, (post_tup rs (t.cut lo hi) p).2⟩
  · split at p
    · rename_i ds hd
      obtain ⟨a, vs, rfl, h1, h2⟩ := lstD_is rs r hd
      exact .inr ⟨a, vs, rfl, h1, (post_lst rs (h2.cut lo hi) p).2⟩
    · exact p.elim
noncomputable def asI (f : Int → Sto → R α) (d : D) (S : Sto) : R α := match d with
  | .int i => f i S
  | _ => .fail
theorem Post.asI {α : Type} {M : Mo} {ι : List Addr} {H : Hp} {d : D} {v : V} {S : Sto} {f : Int → Sto → R α} {Q : List Addr → Hp → Sto → α → Prop} {E : Value → Hp → Prop} (p : Post M ι H (asI f d S) Q E) (r : RD M ι H v d) :
    ∃ i, v = .int i ∧ Post M ι H (f i S) Q E := by
  cases r with
  | int k => exact ⟨k, rfl, p⟩
  | _ => exact p.elim
noncomputable def fSlLo (fa fl : Fd) : Fd := fun δ S => (fa δ S).bind fun d S1 => (fl δ S1).bind (asI fun i S2 => slD (some i) none d S2)
noncomputable def fSlHi (fa fh : Fd) : Fd := fun δ S => (fa δ S).bind fun d S1 => (fh δ S1).bind (asI fun i S2 => slD none (some i) d S2)
noncomputable def fSl (fa fl fh : Fd) : Fd := fun δ S => (fa δ S).bind fun d S1 => (fl δ S1).bind (asI fun i S2 => (fh δ S2).bind (asI fun j S3 => slD (some i) (some j) d S3))
theorem de_slLo {p2 : Pos} (ha : DE X E a fa) (hb : DE X E b fb) : DE X E (.Subscript a (.Slice (some b) none none p2) pos) (fSlLo fa fb) :=
  (pe_slice sl_any ha (po_some hb) po_none).weak fun σ H Q ⟨ι, δ, S, rs, re, p⟩ => tOf.step rs re (Post.bind p) fun ι1 H1 S1 d v x1 r1 re1 p1 rv1 =>
    tOf.step r1 re1 (Post.bind p1) fun ι2 H2 S2 e u x2 r2 re2 p2 rv2 => by
      obtain ⟨i, rfl, q⟩ := Post.asI p2 rv2
      exact ⟨i, rfl, sl_of r2 (rv1.ext x2) q⟩
theorem de_slHi {p2 : Pos} (ha : DE X E a fa) (hb : DE X E b fb) : DE X E (.Subscript a (.Slice none (some b) none p2) pos) (fSlHi fa fb) :=
  (pe_slice sl_any ha po_none (po_some hb)).weak fun σ H Q ⟨ι, δ, S, rs, re, p⟩ => tOf.step rs re (Post.bind p) fun ι1 H1 S1 d v x1 r1 re1 p1 rv1 =>
    tOf.step r1 re1 (Post.bind p1) fun ι2 H2 S2 e u x2 r2 re2 p2 rv2 => by
      obtain ⟨i, rfl, q⟩ := Post.asI p2 rv2
      exact ⟨i, rfl, sl_of r2 (rv1.ext x2) q⟩
theorem de_sl {p2 : Pos} (ha : DE X E a fa) (hb : DE X E b fb) (hc : DE X E c fc) : DE X E (.Subscript a (.Slice (some b) (some c) none p2) pos) (fSl fa fb fc) :=
  (pe_slice sl_any ha (po_some hb) (po_some hc)).weak fun σ H Q ⟨ι, δ, S, rs, re, p⟩ => tOf.step rs re (Post.bind p) fun ι1 H1 S1 d v x1 r1 re1 p1 rv1 =>
    tOf.step r1 re1 (Post.bind p1) fun ι2 H2 S2 e u x2 r2 re2 p2 rv2 => by
      obtain ⟨i, rfl, q⟩ := Post.asI p2 rv2
      refine ⟨i, rfl, tOf.step r2 re2 (Post.bind q) fun ι3 H3 S3 e' u' x3 r3 re3 p3 rv3 => ?_⟩
      obtain ⟨j, rfl, q'⟩ := Post.asI p3 rv3
      exact ⟨j, rfl, sl_of r3 ((rv1.ext x2).ext x3) q'⟩
noncomputable def toV : D → V
  | .non => .non
  | .bl b => .bl b
  | .int i => .int i
  | .str x => .str x
  | _ => .non
noncomputable def flatD : D → Bool
  | .non => true
  | .bl _ => true
  | .int _ => true
  | .str _ => true
  | _ => false
noncomputable abbrev rInF (K : PySem.W.Frag) (neg : Bool) : R2 := rIn K neg
theorem op_inF (_ : X.A.units + 64 < cLine) : OpR X (compareOp .In) (rInF X.K false) := op_in_seq
theorem op_notInF (_ : X.A.units + 64 < cLine) : OpR X (compareOp .NotIn) (rInF X.K true) := op_notIn_seq
noncomputable def memD (neg : Bool) (x y : D) (S : Sto) : R D := match seqD y S with
  | some ds => if flatD x = true ∧ ds.all flatD = true then .ok (.bl (if neg then !inV (toV x) (ds.map toV) else inV (toV x) (ds.map toV))) S else
    .fail
  | none => .fail
theorem flat_is {M : Mo} {ι : List Addr} {H : Hp} {v : V} {d : D} (r : RD M ι H v d) (h : flatD d = true) : v = toV d ∧ flatV v = true := by
  cases r <;> first | exact ⟨rfl, rfl⟩ | cases h
theorem flats_is {M : Mo} {ι : List Addr} {H : Hp} : ∀ {vs : List V} {ds : List D}, RDs M ι H vs ds → ds.all flatD = true → vs = ds.map toV ∧ vs.all flatV = true
  | _, _, .nil, _ => ⟨rfl, rfl⟩
  | _, _, .cons r rs, h => by
    rw [List.all_cons, Bool.and_eq_true] at h
    obtain ⟨e1, f1⟩ := flat_is r h.1
    obtain ⟨e2, f2⟩ := flats_is rs h.2
    exact ⟨by rw [List.map_cons, ← e1, ← e2], by rw [List.all_cons, f1, f2]; rfl⟩
theorem p_mem {neg : Bool} : Prim2 X (rInF X.K neg) (memD neg) := by
  intro ι H S x y d e Q E rs rx ry p
  unfold memD at p
  split at p
  · rename_i ds hd
    split at p
    · rename_i hf
      obtain ⟨a, vs, rfl, h1, h2⟩ := seqD_is rs ry hd
      obtain ⟨e1, f1⟩ := flat_is rx hf.1
      obtain ⟨e2, f2⟩ := flats_is h2 hf.2
      refine ⟨a, vs, rfl, h1, f1, f2, ?_⟩
      rw [e1, e2]
      exact p ι H (.refl ι H) rs _ (.bl _)
    · exact p.elim
  · exact p.elim
noncomputable def isD (f : Bool → Bool) (x y : D) (S : Sto) : R D := match x, y with
  | .bl a, .bl b => .ok (.bl (f (a == b))) S
  | _, _ => .fail
noncomputable def rIsB (f : Bool → Bool) : R2 := fun x y H Q => ∃ a b, x = .bl a ∧ y = .bl b ∧ Q (.bl (f (a == b))) H
end
section
variable {prog : Program} {w : World} {A : Around} {E : Value → Shared → Prop} {s : Shared} {it d : Addr} {i ep : Nat} {od : Obj} {es : Array DictEntry} {Q : Option Value → Shared → Prop}
theorem raw_turn (calm : A.handled = none) (ki : s.heap.IsKeyIter it d i es.size ep) (dget : s.heap.get? d = some od) (ddat : od.data = .dict es ep)
    (item : ∀ (hi : i < es.size) (h' : Heap), h'.IsKeyIter it d (i + 1) es.size ep → Heap.SameBut it s.heap h' → Q (some es[i].key) { s with heap := h' })
    (stop : es.size ≤ i → ∀ h' : Heap, Heap.ExtBut it s.heap h' → Q none { s with heap := h' }) : wpAny (model prog w) A (pyNext (.ref it)) Q E s := by
  obtain ⟨io, iget, icls, idat⟩ := id ki
  have ty := ki.typeIs
  have tk := PySem.F.slot_dict_keyiterator_next
  have nn : ¬ ((i : Int) < 0) := by omega
  unfold pyNext
  refine wpAny_bind (wpAny_attempt (wpAny_callSpecial?_slot (name := Str.ofString "__next__") ty tk (wpAny_call_entry tk ty PySem.F.entry_dict_keyiterator_next ?_ (PySem.F.args_dict_keyiterator_next_1 _))))
  refine wpAny_bind (wpAny_pure (wpAny_bind (wpAny_bind ?_)))
  first | refine wpAny_bind (wpAny_typeNameOfWhole_keyiter ty (wpAny_pure (wpAny_bind (wpAny_fieldsOf iget idat ?_)))) | refine wpAny_bind (wpAny_typeNameOf_keyiter ty (wpAny_pure (wpAny_bind (wpAny_fieldsOf iget idat ?_))))
  simp only [show Builtin.Dict_items.ownsTuple "dict_keyiterator" = false from by decide, Bool.false_eq_true, if_false]; show wpAny _ _ (if (Value.ref d == Value.none) = true then _ else _) _ _ s
  rw [if_neg (show ¬ (Value.ref d == Value.none) = true from Bool.false_ne_true)]; refine wpAny_bind (wpAny_pure (wpAny_bind (wpAny_dictEntries dget ddat ?_)))
  rw [if_neg (show ¬ _ by simp)]; refine wpAny_bind (wpAny_pure (wpAny_bind (wpAny_dictEpoch dget ddat ?_)))
  rw [if_neg (show ¬ _ by simp)]; refine wpAny_pure ?_
  by_cases hi : i < es.size
  · simp only [nn, if_false, Int.toNat_natCast, Array.getElem?_eq_getElem hi]
    refine wpAny_bind ?_
    first | refine wpAny_bind (wpAny_typeNameOfWhole_keyiter ty (wpAny_pure (wpAny_bind (wpAny_isOneOf_keyiter ty ?_)))) | refine wpAny_bind (wpAny_typeNameOf_keyiter ty (wpAny_pure (wpAny_bind (wpAny_isOneOf_keyiter ty ?_))))
    show wpAny _ _ (setField (.ref it) 1 (rawInt ((i : Int) + 1)) >>= _) _ _ s; refine wpAny_bind (wpAny_setField iget idat (by simp) ?_)
    have nx : (s.heap.update it (Obj.mapFields (·.setIfInBounds 1 (rawInt ((i : Int) + 1))))).IsKeyIter it d (i + 1) es.size ep := ⟨_, Heap.get?_update_self _ iget (Obj.isFreed_of_fields (Obj.data_mapFields idat _)), (Obj.cls_mapFields ..).trans icls, by rw [Obj.data_mapFields idat]; simp [rawInt]⟩
    refine wpAny_bind (wpAny_holding (wpAny_bind (wpAny_isOneOf_keyiter (s := { s with heap := s.heap.update it (Obj.mapFields (·.setIfInBounds 1 (rawInt ((i : Int) + 1)))) }) nx.typeIs ?_)))
    show wpAny _ _ (pure es[i].key) _ _ _; exact wpAny_pure (wpAny_pure ⟨_, rfl, wpAny_pure (item hi _ nx (Heap.SameBut.update ..))⟩)
  · have hg : es.size ≤ i := Nat.le_of_not_lt hi
    simp only [nn, if_false, Int.toNat_natCast, Array.getElem?_eq_none hg]
    refine wpAny_bind ?_
    first | refine wpAny_bind (wpAny_typeNameOfWhole_keyiter ty (wpAny_pure ?_)) | refine wpAny_bind (wpAny_typeNameOf_keyiter ty (wpAny_pure ?_))
    show wpAny _ _ (setField (.ref it) 0 .none >>= _) _ _ s; refine wpAny_bind (wpAny_setField iget idat (by simp) ?_); show wpAny _ _ (newExc (.type "StopIteration") [] >>= _) _ _ _; refine wpAny_bind ?_
    simp only [newExc, newTuple]
    refine wpAny_bind (wpAny_newObj_type (wpAny_bind (m := firstArgMember _ _) (wpAny_of_eq (a := Value.none) (by first | rfl | (simp only [firstArgMember]; rfl)) (wpAny_newObj_type ?_ (by size_fits)))) (by size_fits))
    simp only [raiseNew]
    refine wpAny_bind (wpAny_handled ?_); rw [show A.in1.handled = none from calm]; refine wpAny_bind (wpAny_pure (wpAny_throw ?_))
    refine wpAny_bind (wpAny_isInstance (T := "StopIteration") (b := true) ⟨_, Heap.get?_push_size _ rfl, rfl⟩ isSubtype_stop ?_); exact wpAny_pure (stop hg _ (((Heap.SameBut.update ..).extBut.push _).push _))
theorem raw_iter {Q : Value → Shared → Prop} (nm : (d == sysModules) = false) (dget : s.heap.get? d = some od) (dc : od.ExactDict) (ddat : od.data = .dict es ep)
    (go : Q (.ref s.heap.objs.size) { s with heap := s.heap.push { cls := .type "dict_keyiterator", data := .fields #[.ref d, .int 0 0, .int es.size 0, .int ep 0] } }) : wpAny (model prog w) A (pyIter (.ref d)) Q E s := by
  have ty : s.TypeIs (.ref d) "dict" := ⟨od, dget, dc.1⟩
  refine wpAny_pyIter_slot ty PySem.F.slot_dict_iter (wpAny_call_entry PySem.F.slot_dict_iter ty PySem.F.entry_dict_iter ?_ (PySem.F.args_dict_iter_1 _))
  unfold Builtin.«dict.__iter__»
  refine wpAny_bind ?_; unfold Builtin.Dict.dictSlotNone; refine wpAny_bind (wpAny_notOrdered_dict ty ?_)
  show wpAny _ _ (pure (Value.ref d)) _ _ s; refine wpAny_pure ?_; show wpAny _ _ (Builtin.Dict.showsAll d >>= _) _ _ s
  unfold Builtin.Dict.showsAll
  rw [if_neg (show ¬ (d == sysModules) = true by rw [nm]; decide)]; refine wpAny_bind (wpAny_pure (wpAny_bind (wpAny_dictEntries dget ddat (wpAny_bind (wpAny_dictEpoch dget ddat ?_)))))
  refine wpAny_bind (wpAny_newObj_type (wpAny_pure ⟨_, rfl, "dict_keyiterator", _, ⟨_, Heap.get?_push_size _ rfl, rfl⟩, PySem.F.slot_dict_keyiterator_next.lookup, ?_⟩)); simpa [rawInt] using go
theorem raw_src (nm : (d == sysModules) = false) (dc : od.ExactDict) (ddat : od.data = .dict es ep) : PySem.W.KdlSrc prog w "dict" d d es.size (fun i v => ∃ hi : i < es.size, v = es[i].key) (fun h => h.get? d = some od) where
  type := fun s e => ⟨od, e, dc.1⟩
  there := fun _ e => ⟨Heap.lt_size e, Heap.lt_size e⟩
  keep := fun _ _ e k => k d (.inl rfl) od e
  notList := by decide
  notTuple := by decide
  hint := fun _ _ s _ e q => PySem.W.kdl_hint_dict (show s.TypeIs (.ref d) "dict" from ⟨od, e, dc.1⟩) q
  iter := fun A s calm e => by
    refine ⟨{ cls := .type "dict_keyiterator", data := .fields #[.ref d, .int 0 0, .int es.size 0, .int ep 0] }, fun i h => h.IsKeyIter s.heap.objs.size d i es.size ep ∧ h.get? d = some od, fun E Q q => raw_iter nm e dc ddat q, ?_, ⟨_, Heap.get?_push_size _ rfl, rfl, rfl⟩, Heap.get?_push_of_some _ e⟩
    have ne : d ≠ s.heap.objs.size := Nat.ne_of_lt (Heap.lt_size e)
    exact {
      sub := fun b hb => by simp at hb; simp [hb]
      frame := fun i h h' st k => ⟨st.1.at fun o q => k _ (by simp) o q, k d (by simp) od st.2⟩
      item := fun i s' Q E hi st q => raw_turn calm st.1 st.2 ddat (fun hi' h' n sb => q _ h' s'.toks ⟨hi', rfl⟩ ⟨n, (sb.2 d ne).trans st.2⟩ fun b o hb z => (sb.2 b (by simpa using hb)).trans z) (fun hg => absurd hi (by omega))
      done := fun s' Q E st q => raw_turn calm st.1 st.2 ddat (fun hi => absurd hi (Nat.lt_irrefl _)) fun _ h' eb => q h' s'.toks fun b o hb z => eb b o (by simpa using hb) z
      self := fun _ _ _ _ st q => wpAny_pyIter_keyiter st.1 q }
end
section
variable {X : Cx} {pins : List (Addr × Obj)} {σ : St} {H : Hp} {s : Shared} {a b : Addr} {kvs : List (List Key × V)} {k : List Key} {v : V} {A : Around} {E : Value → Shared → Prop}
theorem key_sq (I : Inv X pins σ H s) (h : SqT X.K H b (k.map kV)) : (tupleKind (mixKind X.prog X.w)).is s.heap k b := by
  obtain ⟨its, rv, ⟨o, ho, hc, n, hd⟩, _⟩ := I.tuple h
  exact ⟨o, its.toArray, n, ho, hc, hd, by simpa using items_are rv⟩
theorem t_item {Q : Value → Shared → Prop} (hu : A.units + 1 < cLine) (I : Inv X pins σ H s) (e : Rd H a (.dT kvs)) (hb : SqT X.K H b (k.map kV)) (l : valV kvs k = some v) (h : ∀ w' s', Inv X pins σ H s' → RelV v w' → Q w' s') :
    wpAny (model X.prog X.w) A (getItem (.ref a) (.ref b)) Q E s := by
  obtain ⟨z, nm, xs, rel, dd⟩ := dt_rd I.hok e
  obtain ⟨w', hw, rw'⟩ := RelO.some_of (v := v) (o := (atKey xs k).map (·.2)) (by rw [← l]; exact rel.val k)
  obtain ⟨p, hp, hp2⟩ := Option.map_eq_some_iff.mp hw
  refine wpAny_getItem_heap (tupleKind_room_in1 hu) (key_sq I hb) dd hp ?_
  rw [hp2]
  exact h w' _ (I.tok _) rw'
theorem t_in {Q : Value → Shared → Prop} (hu : A.units + 1 < cLine) (I : Inv X pins σ H s) (e : Rd H a (.dT kvs)) (hb : SqT X.K H b (k.map kV)) (h : ∀ s', Inv X pins σ H s' → Q (.bool (valV kvs k).isSome) s') : wpAny (model X.prog X.w) A (compareOp .In (.ref b) (.ref a)) Q E s := by
  obtain ⟨z, nm, xs, rel, dd⟩ := dt_rd I.hok e
  refine wpAny_in_heap (tupleKind_room_in1 hu) (key_sq I hb) nm dd ?_
  have q := (rel.val k).isSome_eq
  rw [Option.isSome_map] at q
  rw [← q]
  exact h _ (I.tok _)
theorem t_nin {Q : Value → Shared → Prop} (hu : A.units + 1 < cLine) (I : Inv X pins σ H s) (e : Rd H a (.dT kvs)) (hb : SqT X.K H b (k.map kV)) (h : ∀ s', Inv X pins σ H s' → Q (.bool (!(valV kvs k).isSome)) s') : wpAny (model X.prog X.w) A (compareOp .NotIn (.ref b) (.ref a)) Q E s := by
  obtain ⟨z, nm, xs, rel, dd⟩ := dt_rd I.hok e
  refine wpAny_notIn_heap (tupleKind_room_in1 hu) (key_sq I hb) nm dd ?_
  have q := (rel.val k).isSome_eq
  rw [Option.isSome_map] at q
  rw [← q]
  exact h _ (I.tok _)
theorem KT.keys {H : Hp} {kvs : List (List Key × V)} {xs : List (List Key × Addr × Value)} (r : KT H kvs xs) : kvs.map (·.1) = xs.map (·.1) := by
  induction r with
  | nil => rfl
  | cons r t ih => rw [List.map_cons, List.map_cons, ih, r.1]
theorem KT.without {H : Hp} {k : List Key} {p : Addr × Value} : ∀ {kvs : List (List Key × V)} {xs : List (List Key × Addr × Value)} {j : Nat}, KT H kvs xs → (xs.map (·.1)).Nodup → xs[j]? = some (k, p) → KT H (dropK kvs k) (xs.eraseIdx j)
  | _, _, _, .nil, _, h => by simp at h
  | x :: kvs, y :: xs, 0, .cons r t, n, h => by
    rw [List.map_cons, List.nodup_cons] at n
    simp at h
    have ek : y.1 = k := by rw [h]
    have e1 : dropK (x :: kvs) k = kvs := by
      unfold dropK
      rw [List.filter_cons_of_neg (by simp [r.1, ek]), List.filter_eq_self]
      intro z hz
      have : z.1 ∈ xs.map (·.1) := by rw [← KT.keys t]; exact List.mem_map_of_mem hz
      simp only [ne_eq, decide_not, Bool.not_eq_true', decide_eq_false_iff_not]
      intro zk
      exact n.1 (by rw [ek, ← zk]; exact this)
    rw [e1]
    exact t
  | x :: kvs, y :: xs, j + 1, .cons r t, n, h => by
    rw [List.map_cons, List.nodup_cons] at n
    rw [List.getElem?_cons_succ] at h
    have nk : ¬ x.1 = k := fun z => n.1 (by rw [← r.1, z]; exact List.mem_map.mpr ⟨_, List.mem_of_getElem? h, rfl⟩)
    rw [List.eraseIdx_cons_succ, show dropK (x :: kvs) k = x :: dropK kvs k from by unfold dropK; rw [List.filter_cons_of_pos (by simp [nk])]]
    exact .cons r (KT.without t n.2 h)
theorem map_erase {α β : Type} (f : α → β) : ∀ (l : List α) (j : Nat), (l.eraseIdx j).map f = (l.map f).eraseIdx j
  | [], _ => rfl
  | _ :: _, 0 => rfl
  | x :: l, j + 1 => by rw [List.eraseIdx_cons_succ, List.map_cons, List.map_cons, List.eraseIdx_cons_succ, map_erase f l j]
theorem dropK_len {k : List Key} (kvs : List (List Key × V)) : (dropK kvs k).length ≤ kvs.length := by
  unfold dropK
  exact List.length_filter_le _ _
theorem t_pop {Q : Value → Shared → Prop} (hu : A.units + 1 < cLine) (I : Inv X pins σ H s) (e : H a = some (.dT kvs)) (hb : SqT X.K H b (k.map kV)) (l : valV kvs k = some v) (h : ∀ w' s', Inv X pins σ (upd H a (.dT (dropK kvs k))) s' → RelV v w' → Q w' s') :
    wpAny (model X.prog X.w) A (call (.builtin "dict.pop") [.ref a, .ref b]) Q E s := by
  have hkey := key_sq I hb
  obtain ⟨z, nm, xs, rel, dd⟩ := dt_of I.hok e
  obtain ⟨o, es, ep, og, oc, odt, oe, ois, on⟩ := id dd
  have room := tupleKind_room_in1 (knd := mixKind X.prog X.w) hu
  have ty := dd.typeIs
  refine call_meetsIn (S := fun A' R s' => A' = A ∧ R = wants Q E ∧ s' = s) PySem.F.slot_dict_pop ty PySem.F.entry_dict_pop (PySem.F.args_dict_pop_2 _ _) (MeetsIn.of_wp fun A' R s' hs => ?_) ⟨rfl, rfl, rfl⟩
  obtain ⟨rfl, rfl, rfl⟩ := hs
  unfold Builtin.«dict.pop»
  refine wpAny_bind ?_; unfold Builtin.Dict.keyAndDefault; refine wpAny_bind (wpAny_notOrdered_dict ty ?_)
  show wpAny _ _ (pure (a, Value.ref b, none)) _ _ s'; refine wpAny_pure ?_
  dsimp only
  rw [show (keyPart (Value.ref b)).isSome = false from rfl]
  simp only [Bool.false_eq_true, if_false]
  have hx : ∃ (j : Nat) (p : Addr × Value), xs[j]? = some (k, p) := by
    have q := (rel.val k).isSome_eq
    rw [l, Option.isSome_map] at q
    obtain ⟨p, hp⟩ := Option.isSome_iff_exists.mp q.symm
    unfold atKey at hp
    obtain ⟨y, hy, rfl⟩ := Option.map_eq_some_iff.mp hp
    obtain ⟨j, hj⟩ := List.getElem?_of_mem (List.mem_of_find?_eq_some hy)
    have yk : y.1 = k := by simpa using List.find?_some hy
    exact ⟨j, y.2, by rw [hj, ← yk]⟩
  obtain ⟨j, p, hj⟩ := hx
  have hne : es.isEmpty = false := by
    have sz := size_of_entries oe
    have lt := (List.getElem?_eq_some_iff.mp hj).1
    have : es.size ≠ 0 := by omega
    simp [Array.isEmpty, this]
  refine wpAny_bind (wpAny_dictEntries og odt (wpAny_bind (wpAny_pure ?_)))
  rw [hne]
  simp only [Bool.false_eq_true, if_false]
  refine wpAny_bind ?_
  unfold Builtin.Dict.takeOut
  try with_reducible refine wpAny_holding ?_
  refine wpAny_bind ((tupleKind (mixKind X.prog X.w)).pyHash room hkey (wpAny_bind (wpAny_dictFind_heap (s := { s' with toks := s'.toks + (tupleKind (mixKind X.prog X.w)).draws k }) room hkey og odt oe ois on (fun no => absurd hj (no j p)) fun j' p' hj' => ?_)))
  obtain rfl := idxH_unique on hj hj'
  rw [hj] at hj'
  cases hj'
  have sz := size_of_entries oe
  have lz := Paired.length rel
  refine wpAny_bind (wpAny_dictEntries (s := { s' with toks := s'.toks + (tupleKind (mixKind X.prog X.w)).draws k }) og odt ?_)
  rw [entry_at oe j, hj]
  refine wpAny_bind (wpAny_updateDictKeys (hz := by omega) (s := { s' with toks := s'.toks + (tupleKind (mixKind X.prog X.w)).draws k }) og odt (wpAny_pure ?_))
  simp only [Option.map_some, Option.isNone_some, Bool.false_eq_true, if_false]
  have mt : ∀ c ys, H c = some (.tup ys) → upd H a (.dT (dropK kvs k)) c = some (.tup ys) := fun c ys q => by rw [upd_ne (by rintro rfl; rw [e] at q; cases q)]; exact q
  refine wpAny_bind (wpAny_letGo (wpAny_pure ⟨_, rfl, h _ _ (d_write I (by rw [e]; trivial) (Heap.SameBut.update ..) ⟨_, Heap.get?_update_self _ og (Obj.isFreed_of_dict (Obj.data_mapDictKeys odt _))⟩ ⟨Nat.le_trans (dropK_len kvs) z, nm, xs.eraseIdx j, (KT.without rel on hj).keeps mt, _, _, ep + 1, Heap.get?_update_self _ og (Obj.isFreed_of_dict (Obj.data_mapDictKeys odt _)), oc.mapDictKeys _, Obj.data_mapDictKeys odt _, ?_, ?_⟩) ?_⟩))
  · rw [map_erase, ← oe]
    obtain ⟨le⟩ := es
    simp
  · rw [map_erase]
    exact on.sublist (List.eraseIdx_sublist ..)
  · have q := rel.val k
    rw [l, atKey_of_get on hj] at q
    exact q
theorem t_clear {Q : Value → Shared → Prop} (I : Inv X pins σ H s) (e : H a = some (.dT kvs)) (h : ∀ s', Inv X pins σ (upd H a (.dT [])) s' → Q .none s') : wpAny (model X.prog X.w) A (call (.builtin "dict.clear") [.ref a]) Q E s := by
  obtain ⟨z, nm, xs, rel, dd⟩ := dt_of I.hok e
  obtain ⟨o, es, ep, og, oc, odt, oe, ois, on⟩ := id dd
  have ty := dd.typeIs
  have sz := size_of_entries oe
  have lz := Paired.length rel
  refine call_meetsIn (S := fun A' R s' => A' = A ∧ R = wants Q E ∧ s' = s) PySem.F.slot_dict_clear ty PySem.F.entry_dict_clear (PySem.F.args_dict_clear_1 _) (MeetsIn.of_wp fun A' R s' hs => ?_) ⟨rfl, rfl, rfl⟩
  obtain ⟨rfl, rfl, rfl⟩ := hs
  unfold Builtin.«dict.clear»
  refine wpAny_bind ?_; unfold Builtin.Dict.noArgs; refine wpAny_bind (wpAny_notOrdered_dict ty ?_); show wpAny _ _ (pure a) _ _ s'; refine wpAny_pure (wpAny_bind (wpAny_dictEntries og odt (wpAny_bind ?_)))
  unfold bearsInstanceDictMark
  refine wpAny_bind (wpAny_load og (wpAny_pure (wpAny_bind (wpAny_updateDictKeys (hz := by omega) og odt ?_))))
  have fin : wants Q E (.ok (.ret .none)) { s' with heap := s'.heap.update a (Obj.mapDictKeys fun _ => #[]) } :=
    h _ (d_write (t' := s'.toks) I (by rw [e]; trivial) (Heap.SameBut.update ..) ⟨_, Heap.get?_update_self _ og (Obj.isFreed_of_dict (Obj.data_mapDictKeys odt _))⟩ ⟨Nat.zero_le _, nm, [], .nil, _, _, ep + 1, Heap.get?_update_self _ og (Obj.isFreed_of_dict (Obj.data_mapDictKeys odt _)), oc.mapDictKeys _, Obj.data_mapDictKeys odt _, rfl, List.nodup_nil⟩)
  split
  · exact wpAny_bind (wpAny_letGo (wpAny_pure ⟨Value.none, rfl, fin⟩))
  · exact wpAny_bind (wpAny_pure (wpAny_pure ⟨Value.none, rfl, fin⟩))
theorem t_list (hc : X.calm = true) : CallR X (.type "list") (fun xs H Q => ∃ p kvs, xs = [.ref p] ∧ H p = some (.dT kvs) ∧ ∀ l vs, H l = none → Paired (fun (kv : List Key × V) (v : V) => ∃ b, v = .ref b ∧ H b = some (.tup (kv.1.map kV))) kvs vs → Q (.ref l) (upd H l (.lst vs))) := by
  intro pins s σ H xs us Q I r h
  obtain ⟨p, kvs, rfl, hp, q⟩ := h
  obtain ⟨u, rfl, rx⟩ := vals1 r
  cases rx
  obtain ⟨z, nm, ys, rel, dd⟩ := dt_of I.hok hp
  obtain ⟨o, es, ep, og, oc, odt, oe, ois, on⟩ := id dd
  have sz := size_of_entries oe
  have lz := Paired.length rel
  refine PySem.W.kdl_call (raw_src (od := o) (es := es) (ep := ep) nm oc odt) (I.ok.hd hc) og (by omega) fun h' tk acc c' kk e hacc => ?_
  have vk : acc.toList = ys.map fun y => Value.ref y.2.1 := by
    apply List.ext_getElem?
    intro j
    rw [Array.getElem?_toList, List.getElem?_map]
    by_cases hj : j < es.size
    · have hj' : j < acc.size := by rw [hacc.1]; exact hj
      obtain ⟨_, hv⟩ := hacc.2 j acc[j] (Array.getElem?_eq_getElem hj')
      rw [Array.getElem?_eq_getElem hj', hv]
      have := entry_at oe j
      rw [Array.getElem?_eq_getElem hj] at this
      cases hy : ys[j]? with
      | none => rw [hy] at this; cases this
      | some y =>
        rw [hy] at this
        rw [Option.some.inj this]
        rfl
    · rw [Array.getElem?_eq_none (by rw [hacc.1]; omega), List.getElem?_eq_none (by omega)]
      rfl
  have pr : Paired (fun (kv : List Key × V) (v : V) => ∃ b, v = .ref b ∧ H b = some (.tup (kv.1.map kV))) kvs (ys.map fun y => V.ref y.2.1) := by
    clear z lz sz vk og oe odt oc ois on dd hp q
    induction rel with
    | nil => exact .nil
    | cons r t ih => exact .cons ⟨_, rfl, r.2.1⟩ ih
  have rv : Vals (ys.map fun y => V.ref y.2.1) acc.toList := by
    rw [vk]
    clear pr vk rel lz sz oe ois on dd z
    induction ys with
    | nil => exact .nil
    | cons y ys ih => exact .cons rfl ih
  exact ⟨.ref s.heap.objs.size, _, I.laid (t' := tk) kk (Nat.le_refl _) (show ObjOk X.prog X.w _ h' _ (.lst (ys.map fun y => V.ref y.2.1)) from ⟨by rw [List.length_map]; omega, acc.toList, c', rv, by rw [Array.toArray_toList]; exact e⟩), rfl, q _ _ (I.hok.fresh (Nat.le_refl _)) pr⟩
end
section
variable {M : Mo} {ι : List Addr} {H : Hp}
noncomputable def dkey : D → Option Key
  | .int i => some (.inl i)
  | .str x => some (.inr x)
  | _ => none
theorem dkey_keyD (k : Key) : dkey (keyD k) = some k := by cases k <;> rfl
theorem dkey_is {v : V} {d : D} {k : Key} (r : RD M ι H v d) (h : dkey d = some k) : v = kV k := by
  cases r <;> cases h <;> rfl
noncomputable def refN : D → Nat
  | .ref n => n
  | _ => 0
theorem rd_key (k : Key) : RD M ι H (kV k) (keyD k) := by
  cases k with
  | inl i => exact .int i
  | inr x => exact .str x
end
section
variable {X : Cx} {E : St → XK} {e : Expr}
noncomputable def rSetD : TSet := fun o i v H Q => ∃ a H', o = .ref a ∧ DPut H a i v H' ∧ Q H'
theorem set_dict (hu : X.A.units + 1 < cLine) : PSet X rSetD := by
  intro pins s σ H o i v ov iv u Q I ro ri rv h
  obtain ⟨a, H', rfl, g, q⟩ := h
  cases ro
  exact d_setItem hu I g ri rv fun s' I' => ⟨H', I', q⟩
theorem de_two {f f1 f2 : Fd} (h1 : DE X E e f1) (h2 : DE X E e f2) (w : ∀ δ S, f δ S = f1 δ S ∨ f δ S = f2 δ S) : DE X E e f := by
  intro pins s σ H Q I h
  obtain ⟨ι, δ, S, rs, re, p⟩ := h
  rcases w δ S with q | q
  · rw [q] at p
    exact h1 pins s σ H Q I ⟨ι, δ, S, rs, re, p⟩
  · rw [q] at p
    exact h2 pins s σ H Q I ⟨ι, δ, S, rs, re, p⟩
end
section
variable {M : Mo} {ι : List Addr} {H : Hp}
noncomputable def tkeys : List D → Option (List Key)
  | [] => some []
  | d :: ds => match dkey d, tkeys ds with
    | some k, some ks => some (k :: ks)
    | _, _ => none
noncomputable def tkey : D → Option (List Key)
  | .tup ds => tkeys ds
  | _ => none
theorem tkeys_keyD : ∀ k : List Key, tkeys (k.map keyD) = some k
  | [] => rfl
  | x :: k => by
    rw [List.map_cons]
    unfold tkeys
    rw [dkey_keyD, tkeys_keyD k]
theorem tkey_keyD (k : List Key) : tkey (.tup (k.map keyD)) = some k := tkeys_keyD k
theorem tkeys_is : ∀ {vs : List V} {ds : List D} {k : List Key}, RDs M ι H vs ds → tkeys ds = some k → vs = k.map kV
  | _, [], _, .nil, h => by cases h; rfl
  | _, d :: ds, k, .cons r t, h => by
    unfold tkeys at h
    split at h
    · rename_i a b h1 h2
      cases h
      rw [List.map_cons, ← dkey_is r h1, ← tkeys_is t h2]
    · cases h
theorem tkey_is {v : V} {d : D} {k : List Key} (r : RD M ι H v d) (h : tkey d = some k) : ∃ b, v = .ref b ∧ SqT M.K H b (k.map kV) := by
  cases r with
  | @tup a xs ds s t =>
    have e := tkeys_is t h
    subst e
    exact ⟨a, rfl, s⟩
  | _ => cases h
noncomputable def lkT (kvs : List (D × D)) (k : List Key) : Option D := (kvs.find? fun kv => decide (tkey kv.1 = some k)).map (·.2)
noncomputable def putT (kvs : List (D × D)) (k : List Key) (d : D) : List (D × D) :=
  if (kvs.any fun kv => decide (tkey kv.1 = some k)) = true then kvs.map (fun kv => if tkey kv.1 = some k then (kv.1, d) else kv) else kvs ++ [(.tup (k.map keyD), d)]
noncomputable def dropT (kvs : List (D × D)) (k : List Key) : List (D × D) := kvs.filter fun kv => decide (tkey kv.1 ≠ some k)
theorem RTs.length {ks : List (List Key × V)} {kvs : List (D × D)} (r : RTs M ι H ks kvs) : ks.length = kvs.length := by
  induction r with
  | nil => rfl
  | cons _ _ ih => simp [ih]
theorem RTs.val {ks : List (List Key × V)} {kvs : List (D × D)} {k : List Key} (r : RTs M ι H ks kvs) : (∀ d, lkT kvs k = some d → ∃ v, valV ks k = some v ∧ RD M ι H v d) ∧ (lkT kvs k = none → valV ks k = none) := by
  induction r with
  | nil => exact ⟨fun _ e => (nomatch e), fun _ => rfl⟩
  | @cons k0 v0 d0 vs ds h t ih =>
    by_cases c : k0 = k
    · subst c
      have : lkT ((.tup (k0.map keyD), d0) :: ds) k0 = some d0 := by simp [lkT, List.find?_cons, tkey_keyD]
      rw [this]
      exact ⟨fun d e => ⟨v0, valV_pos rfl, Option.some.inj e ▸ h⟩, fun e => nomatch e⟩
    · have : lkT ((.tup (k0.map keyD), d0) :: ds) k = lkT ds k := by simp [lkT, List.find?_cons, tkey_keyD, c]
      rw [this, valV_neg c]
      exact ih
theorem RTs.isSome {ks : List (List Key × V)} {kvs : List (D × D)} {k : List Key} (r : RTs M ι H ks kvs) : (valV ks k).isSome = (lkT kvs k).isSome := by
  obtain ⟨h1, h2⟩ := r.val (k := k)
  cases e : lkT kvs k with
  | none => rw [h2 e]; rfl
  | some d =>
    obtain ⟨v, q, _⟩ := h1 d e
    rw [q]
    rfl
theorem RTs.any {ks : List (List Key × V)} {kvs : List (D × D)} {k : List Key} (r : RTs M ι H ks kvs) : (ks.any fun kv => decide (kv.1 = k)) = kvs.any fun kv => decide (tkey kv.1 = some k) := by
  induction r with
  | nil => rfl
  | @cons k0 v0 d0 vs ds h t ih => rw [List.any_cons, List.any_cons, ih, tkey_keyD]; simp
theorem RTs.app {ks ks' : List (List Key × V)} {kvs kvs' : List (D × D)} (r : RTs M ι H ks kvs) (r' : RTs M ι H ks' kvs') : RTs M ι H (ks ++ ks') (kvs ++ kvs') := by
  induction r with
  | nil => exact r'
  | cons h t ih => exact .cons h ih
theorem RTs.put {ks : List (List Key × V)} {kvs : List (D × D)} {k : List Key} {v : V} {d : D} (r : RTs M ι H ks kvs) (h : RD M ι H v d) : RTs M ι H (putK ks k v) (putT kvs k d) := by
  unfold putK putT
  rw [r.any]
  split
  · rename_i c
    clear c
    induction r with
    | nil => exact .nil
    | @cons k0 v0 d0 vs ds h0 t ih =>
      rw [List.map_cons, List.map_cons]
      by_cases c : k0 = k
      · rw [if_pos (show (k0, v0).1 = k from c), if_pos (show tkey (D.tup (k0.map keyD), d0).1 = some k by rw [tkey_keyD, c])]
        exact .cons h ih
      · rw [if_neg (show ¬ (k0, v0).1 = k from c), if_neg (show ¬ tkey (D.tup (k0.map keyD), d0).1 = some k by rw [tkey_keyD]; exact fun z => c (Option.some.inj z))]
        exact .cons h0 ih
  · exact r.app (.cons h .nil)
theorem RTs.drop {ks : List (List Key × V)} {kvs : List (D × D)} {k : List Key} (r : RTs M ι H ks kvs) : RTs M ι H (dropK ks k) (dropT kvs k) := by
  unfold dropK dropT
  induction r with
  | nil => exact .nil
  | @cons k0 v0 d0 vs ds h0 t ih =>
    by_cases c : k0 = k
    · rw [List.filter_cons_of_neg (by simp [c]), List.filter_cons_of_neg (by simp [tkey_keyD, c])]
      exact ih
    · rw [List.filter_cons_of_pos (by simp [c]), List.filter_cons_of_pos (by simp [tkey_keyD, c])]
      exact .cons h0 ih
theorem RTs.keys {ks : List (List Key × V)} {kvs : List (D × D)} {vs : List V} (r : RTs M ι H ks kvs) : Paired (fun (kv : List Key × V) (v : V) => ∃ b, v = .ref b ∧ H b = some (.tup (kv.1.map kV))) ks vs → RDs M ι H vs (kvs.map (·.1)) := by
  induction r generalizing vs with
  | nil => intro p; cases p; exact .nil
  | @cons k0 v0 d0 us ds h0 t ih =>
    intro p
    cases p with
    | cons q p =>
      obtain ⟨b, rfl, hb⟩ := q
      refine .cons (.tup (SqT.of hb) ?_) (ih p)
      show RDs M ι H (k0.map kV) (k0.map keyD)
      clear hb
      induction k0 with
      | nil => exact .nil
      | cons x k i => exact .cons (rd_key _) i
theorem RelS.tput {S : Sto} {n : Nat} {a : Addr} {ks ks' : List (List Key × V)} {kvs : List (D × D)} (h : RelS M ι H S) (ha : ι[n]? = some a) (hl : H a = some (.dT ks)) (r : RTs M ι H ks' kvs) :
    Ext ι H ι (upd H a (.dT ks')) ∧ RelS M ι (upd H a (.dT ks')) (S.set n (.dit kvs)) := by
  have mu : Mut (H a) := by rw [hl]; trivial
  have x : Ext ι H ι (upd H a (.dT ks')) := Ext.set mu
  exact ⟨x, h.set ha mu ⟨ks', upd_same, r.mono x.pre x.ts⟩⟩
end
section
variable {X : Cx} {E : St → XK} {pos : Pos} {a b c d e o : Expr} {es : List Expr} {fa fb fc fd fo : Fd}
noncomputable def ditD (o : D) (S : Sto) : Option (List (D × D)) := match o with
  | .ref n => match S[n]? with
    | some (.dit kvs) => some kvs
    | _ => none
  | _ => none
theorem ditD_is {M : Mo} {ι : List Addr} {H : Hp} {S : Sto} {v : V} {o : D} {kvs : List (D × D)} (rs : RelS M ι H S) (r : RD M ι H v o) (h : ditD o S = some kvs) : ∃ n p ks, o = .ref n ∧ v = .ref p ∧ ι[n]? = some p ∧ S[n]? = some (.dit kvs) ∧ H p = some (.dT ks) ∧ RTs M ι H ks kvs := by
  unfold ditD at h
  split at h
  · rename_i n
    split at h
    · rename_i kvs' hs
      cases h
      cases r with
      | @ref p _ hp =>
        obtain ⟨ks, h1, h2⟩ := rs.obj n p _ hp hs
        exact ⟨n, p, ks, rfl, rfl, hp, hs, h1, h2⟩
    · cases h
  · cases h
theorem dT_ty {pins : List (Addr × Obj)} {s : Shared} {σ : St} {H : Hp} {p : Addr} {kvs : List (List Key × V)} (I : Inv X pins σ H s) (e : H p = some (.dT kvs)) : s.TypeIs (.ref p) "dict" := by
  obtain ⟨_, _, xs, _, dd⟩ := dt_of I.hok e
  exact dd.typeIs
noncomputable def idxB (d e : D) (S : Sto) : R D := match ditD d S with
  | some kvs => (match tkey e with
    | some k => (match lkT kvs k with
      | some x => .ok x S
      | none => .fail)
    | none => .fail)
  | none => idxD d e S
noncomputable def rIxK (K : PySem.W.Frag) : R2 := fun x y H Q => ∃ a b kvs k v, x = .ref a ∧ y = .ref b ∧ H a = some (.dT kvs) ∧ SqT K H b (k.map kV) ∧ valV kvs k = some v ∧ Q v H
theorem ix_tk (hu : X.A.units + 1 < cLine) : IxR X (rIxK X.K) := by
  intro value slice pins s σ H x y v u Q I rx ry h hs
  obtain ⟨p, b, kvs, k, z, rfl, rfl, hp, hb, hv, q⟩ := h
  cases rx
  cases ry
  exact tail_any (dT_ty I hp) PySem.F.slot_dict_getitem.lookup (t_item hu I (.inl hp) hb hv fun w' s' I' rw' => ⟨z, H, I', rw', q⟩) hs
theorem p_idxB : Prim2 X (fun x y H Q => rIx X.K x y H Q ∨ rIxK X.K x y H Q) idxB := by
  intro ι H S x y d e Q E rs rx ry p
  unfold idxB at p
  split at p
  · rename_i kvs h1
    split at p
    · rename_i k h2
      split at p
      · rename_i z hz
        obtain ⟨n, a, ks, rfl, rfl, ha, hS, hH, rk⟩ := ditD_is rs rx h1
        obtain ⟨v, e1, e2⟩ := rk.val.1 _ hz
        obtain ⟨b, rfl, hb⟩ := tkey_is ry h2
        exact .inr ⟨a, b, ks, k, v, rfl, rfl, hH, hb, e1, p ι H (.refl ι H) rs v e2⟩
      · exact p.elim
    · exact p.elim
  · exact .inl (p_idx ι H S x y d e Q E rs rx ry p)
noncomputable def memB (neg : Bool) (x y : D) (S : Sto) : R D := match ditD y S with
  | some kvs => (match tkey x with
    | some k => .ok (.bl (if neg then !(lkT kvs k).isSome else (lkT kvs k).isSome)) S
    | none => .fail)
  | none => memD neg x y S
noncomputable def rInK (K : PySem.W.Frag) (neg : Bool) : R2 := fun y x H Q => ∃ a b kvs k, x = .ref a ∧ y = .ref b ∧ H a = some (.dT kvs) ∧ SqT K H b (k.map kV) ∧ Q (.bl (if neg then !(valV kvs k).isSome else (valV kvs k).isSome)) H
theorem op_inK (hu : X.A.units + 1 < cLine) : OpR X (compareOp .In) (rInK X.K false) := by
  intro pins s σ H x y v u Q I rx ry h
  obtain ⟨p, b, kvs, k, rfl, rfl, hp, hb, q⟩ := h
  cases ry
  cases rx
  exact t_in hu I (.inl hp) hb fun s' I' => ⟨.bl _, H, I', rfl, q⟩
theorem op_notInK (hu : X.A.units + 1 < cLine) : OpR X (compareOp .NotIn) (rInK X.K true) := by
  intro pins s σ H x y v u Q I rx ry h
  obtain ⟨p, b, kvs, k, rfl, rfl, hp, hb, q⟩ := h
  cases ry
  cases rx
  exact t_nin hu I (.inl hp) hb fun s' I' => ⟨.bl _, H, I', rfl, q⟩
theorem p_memB {neg : Bool} : Prim2 X (fun x y H Q => rInF X.K neg x y H Q ∨ rInK X.K neg x y H Q) (memB neg) := by
  intro ι H S x y d e Q E rs rx ry p
  unfold memB at p
  split at p
  · rename_i kvs h1
    split at p
    · rename_i k h2
      obtain ⟨n, a, ks, rfl, rfl, ha, hS, hH, rk⟩ := ditD_is rs ry h1
      obtain ⟨b, rfl, hb⟩ := tkey_is rx h2
      refine .inr ⟨a, b, ks, k, rfl, rfl, hH, hb, ?_⟩
      rw [rk.isSome]
      exact p ι H (.refl ι H) rs _ (.bl _)
    · exact p.elim
  · exact .inl (p_mem ι H S x y d e Q E rs rx ry p)
noncomputable def fDnewT : Fd := fun _ S => .ok (.ref S.length) (S ++ [.dit []])
theorem de_dnewT : DE X E (.Dict [] [] pos) fDnewT := pe_dnewT.weak fun σ H Q ⟨ι, δ, S, rs, re, p⟩ q hq => by
  refine p _ _ (Ext.made hq) (rs.made hq ⟨[], upd_same, .nil⟩) _ (.ref ?_)
  rw [← rs.len]
  exact getElem?_snoc ι q
noncomputable def tmtD (m : Mt) (o : D) (ds : List D) (S : Sto) : R D := match m, ds with
  | .pop, [e] => (match ditD o S, tkey e with
    | some kvs, some k => (match lkT kvs k with
      | some x => .ok x (S.set (refN o) (.dit (dropT kvs k)))
      | none => .fail)
    | _, _ => .fail)
  | .clear, [] => (match ditD o S with
    | some _ => .ok .non (S.set (refN o) (.dit []))
    | none => .fail)
  | _, _ => .fail
noncomputable def fTmt (m : Mt) (fo : Fd) (fa : Fa) : Fd := fun δ S => (fo δ S).bind fun o S1 => if (ditD o S1).isSome = true then (fa δ S1).bind fun ds S2 => tmtD m o ds S2 else .fail
noncomputable def fMtB (m : Mt) (fo : Fd) (fa : Fa) : Fd := fun δ S => (fo δ S).bind fun o S1 => if (ditD o S1).isSome = true then (fa δ S1).bind fun ds S2 => tmtD m o ds S2 else
  if isLstR o S1 = true then (fa δ S1).bind fun ds S2 => mtD m o ds S2 else .fail
theorem fMtB_or {m : Mt} {fa : Fa} (δ : Dv) (S : Sto) : fMtB m fo fa δ S = fMt m fo fa δ S ∨ fMtB m fo fa δ S = fTmt m fo fa δ S := by
  unfold fMt fMtB fTmt
  cases h : fo δ S with
  | ok d S1 =>
    dsimp only [R.bind]
    by_cases c : (ditD d S1).isSome = true
    · right
      rw [if_pos c, if_pos c]
    · left
      rw [if_neg c]
  | exc C S1 => exact .inl rfl
  | fail => exact .inl rfl
noncomputable def rTpop (K : PySem.W.Frag) : V → List V → Hp → VK → Prop := fun x xs H Q => ∃ a b ks k v, x = .ref a ∧ xs = [.ref b] ∧ H a = some (.dT ks) ∧ SqT K H b (k.map kV) ∧ valV ks k = some v ∧ Q v (upd H a (.dT (dropK ks k)))
noncomputable def rTclear : V → List V → Hp → VK → Prop := fun x xs H Q => ∃ a ks, x = .ref a ∧ xs = [] ∧ H a = some (.dT ks) ∧ Q .non (upd H a (.dT []))
theorem mt_tpop (hu : X.A.units + 1 < cLine) : MtR X "dict.pop" (rTpop X.K) := by
  intro pins s σ H x xs v us Q I rx rs q
  obtain ⟨a, b, ks, k, z, rfl, rfl, hH, hb, hv, q⟩ := q
  cases rx
  obtain ⟨u, rfl, ru⟩ := vals1 rs
  cases ru
  exact t_pop hu I hH hb hv fun w' s' I' rw' => ⟨z, _, I', rw', q⟩
theorem mt_tclear : MtR X "dict.clear" rTclear := by
  intro pins s σ H x xs v us Q I rx rs q
  obtain ⟨a, ks, rfl, rfl, hH, q⟩ := q
  cases rx
  cases rs
  exact t_clear I hH fun s' I' => ⟨.non, _, I', rfl, q⟩
theorem dit_ty {ι : List Addr} {H : Hp} {S : Sto} {v : V} {d : D} (rs : RelS X.mo ι H S) (r : RD X.mo ι H v d) (h : (ditD d S).isSome = true) : tyV X.K "dict" v H := by
  obtain ⟨kvs, hk⟩ := Option.isSome_iff_exists.mp h
  obtain ⟨n, p, ks, rfl, rfl, _, _, hH, _⟩ := ditD_is rs r hk
  exact .inr (.inr (.inl ⟨rfl, .inr ⟨ks, hH⟩⟩))
theorem p_tpop {ι : List Addr} {H : Hp} {S : Sto} {v : V} {d : D} {vs : List V} {ds : List D} {Q : VK} {E' : Value → Hp → Prop} (rs : RelS X.mo ι H S) (ro : RD X.mo ι H v d) (rv : RDs X.mo ι H vs ds)
    (p : Post X.mo ι H (tmtD .pop d ds S) (fun ι' H' _ d => ∀ v, RD X.mo ι' H' v d → Q v H') E') : rTpop X.K v vs H Q := by
  unfold tmtD at p
  split at p
  · rename_i e _
    obtain ⟨y, rfl, ry⟩ := rv.one
    split at p
    · rename_i kvs k h1 h2
      split at p
      · rename_i z hz
        obtain ⟨n, a, ks, rfl, rfl, hι, hS, hH, rk⟩ := ditD_is rs ro h1
        obtain ⟨w, e1, e2⟩ := rk.val.1 _ hz
        obtain ⟨b, rfl, hb⟩ := tkey_is ry h2
        obtain ⟨x1, x2⟩ := rs.tput hι hH (rk.drop (k := k))
        exact ⟨a, b, ks, k, w, rfl, rfl, hH, hb, e1, p ι _ x1 x2 w (e2.ext x1)⟩
      · exact p.elim
    · exact p.elim
  · rename_i hq
    cases hq
  · exact p.elim
theorem p_tclear {ι : List Addr} {H : Hp} {S : Sto} {v : V} {d : D} {vs : List V} {ds : List D} {Q : VK} {E' : Value → Hp → Prop} (rs : RelS X.mo ι H S) (ro : RD X.mo ι H v d) (rv : RDs X.mo ι H vs ds)
    (p : Post X.mo ι H (tmtD .clear d ds S) (fun ι' H' _ d => ∀ v, RD X.mo ι' H' v d → Q v H') E') : rTclear v vs H Q := by
  cases rv with
  | nil =>
    replace p : Post X.mo ι H (match ditD d S with | some _ => R.ok .non (S.set (refN d) (.dit [])) | none => .fail) (fun ι' H' _ d => ∀ v, RD X.mo ι' H' v d → Q v H') E' := p
    split at p
    · rename_i kvs h1
      obtain ⟨n, a, ks, rfl, rfl, hι, hS, hH, rk⟩ := ditD_is rs ro h1
      obtain ⟨x1, x2⟩ := rs.tput hι hH (ks' := []) (kvs := []) .nil
      exact ⟨a, ks, rfl, rfl, hH, p ι _ x1 x2 _ .non⟩
    · exact p.elim
  | cons r t => exact p.elim
theorem de_tpop {apos cpos : Pos} {fa : Fa} (hu : X.A.units + 1 < cLine) (ho : DE X E o fo) (ha : DA X E (e :: es) fa)
    (hbase : attributeBase o "pop" X.env (eval o X.env) = eval o X.env)
    (hfew : ((backTo cpos (starEach (e :: es) X.env)).all (fun x => !x.1) && (backToKw cpos (keywordEach [] X.env)).all (fun x => x.1.isSome)
      && decide ((e :: es).length + ([] : List Keyword).length + (if ([] : List Keyword).isEmpty then 0 else 1) < 30)) = true)
    (hline : (apos.endLine == cpos.line) = true) (hs : starEach (e :: es) X.env = (false, eval e X.env) :: starEach es X.env) (hplain : (backTo cpos (starEach es X.env)).any (·.1) = false) :
    DE X E (.Call (.Attribute o "pop" apos) (e :: es) [] cpos) (fTmt .pop fo fa) :=
  (pe_bm PySem.F.plainAttrs_dict PySem.F.slot_dict_pop PySem.F.type_dict_pop (mt_tpop hu) ho ha hbase hfew hline hs hplain).weak fun σ H Q ⟨ι, δ, S, rs, re, q⟩ => tOf.step rs re (Post.bind q) fun ι1 H1 S1 d v x1 r1 re1 p1 rv1 => by
    by_cases hk : (ditD d S1).isSome = true
    · rw [if_pos hk] at p1
      exact ⟨dit_ty r1 rv1 hk, aOf.step r1 re1 (Post.bind p1) fun ι2 H2 S2 ds vs x2 r2 re2 p2 rv2 => p_tpop r2 (rv1.ext x2) rv2 p2⟩
    · rw [if_neg hk] at p1
      exact p1.elim
theorem de_tclear {apos cpos : Pos} (ho : DE X E o fo) (hbase : attributeBase o "clear" X.env (eval o X.env) = eval o X.env) (hline : (apos.endLine == cpos.line) = true) : DE X E (.Call (.Attribute o "clear" apos) [] [] cpos) (fTmt .clear fo aNil) :=
  (pe_bm0 PySem.F.plainAttrs_dict PySem.F.slot_dict_clear PySem.F.type_dict_clear mt_tclear ho hbase hline).weak fun σ H Q ⟨ι, δ, S, rs, re, q⟩ => tOf.step rs re (Post.bind q) fun ι1 H1 S1 d v x1 r1 re1 p1 rv1 => by
    by_cases hk : (ditD d S1).isSome = true
    · rw [if_pos hk] at p1
      exact ⟨dit_ty r1 rv1 hk, p_tclear r1 rv1 .nil p1⟩
    · rw [if_neg hk] at p1
      exact p1.elim
noncomputable def listB (ds : List D) (S : Sto) : R D := match ds with
  | [o] => match ditD o S with
    | some kvs => mkLst (kvs.map (·.1)) S
    | none => listD [o] S
  | _ => .fail
theorem p_listB : PrimA X (fun xs H Q => (∃ p ys, xs = [.ref p] ∧ (SqL X.K H p ys ∨ SqT X.K H p ys) ∧ ∀ l, H l = none → Q (.ref l) (upd H l (.lst ys))) ∨
    (∃ p kvs, xs = [.ref p] ∧ H p = some (.dT kvs) ∧ ∀ l vs, H l = none → Paired (fun (kv : List Key × V) (v : V) => ∃ b, v = .ref b ∧ H b = some (.tup (kv.1.map kV))) kvs vs → Q (.ref l) (upd H l (.lst vs)))) listB := by
  intro ι H S xs ds Q E rs rv p
  unfold listB at p
  split at p
  · rename_i d
    split at p
    · rename_i kvs hk
      obtain ⟨v, rfl, r⟩ := rv.one
      obtain ⟨n, a, ks, rfl, rfl, ha, hS, hH, rk⟩ := ditD_is rs r hk
      exact .inr ⟨a, ks, rfl, hH, fun l vs hl pr => (post_lst rs (rk.keys pr) p).2 l hl⟩
    · exact .inl (p_list ι H S xs [d] Q E rs rv p)
  · exact p.elim
noncomputable def tputD (o : D) (is : List D) (d : D) (S : Sto) : Option Sto := match ditD o S, tkeys is with
  | some kvs, some k => if kvs.length < lim ∧ is.length ≤ lim then some (S.set (refN o) (.dit (putT kvs k d))) else none
  | _, _ => none
noncomputable def sStoT (fo : Fd) (fi : Fa) (fe : Fd) : Fs := fun δ S => (fe δ S).toS δ fun d S1 => (fo δ S1).toS δ fun o S2 => (fi δ S2).toS δ fun is S3 => match tputD o is d S3 with
  | some S4 => .next δ S4
  | none => .fail
theorem ds_stoT {p p' : Pos} {k' : Nat} {o e : Expr} {is : List Expr} {fo fe : Fd} {fi : Fa} (hu : X.A.units + 1 < cLine) (ho : DE X E o fo) (hi : DA X E is fi) (he : DE X E e fe) (hs : swapsWithSole [.Subscript o (.Tuple is k' p') p] e pos.line X.env = pure false) (hw : swappedStores [.Subscript o (.Tuple is k' p') p] e X.env = pure none)
    (ha : ∀ v, assign (.Subscript o (.Tuple is k' p') p) X.env v = (do
      let ov ← holding [v] (eval o X.env)
      let iv ← holding [v, ov] (eval (.Tuple is k' p') X.env)
      standAt p
      holding [v, ov, iv] (setItem ov iv v)
      release [v, ov, iv] [])) : DS X E (.Assign [.Subscript o (.Tuple is k' p') p] e pos) (sStoT fo fi fe) :=
  (ps_asg he (pg_sub ho (pe_tup hi) (set_dict hu) ha) hs hw rfl).weak fun D σ H ⟨ι, δ, S, rs, re, q⟩ => tOf.step rs re (PostS.toS q re) fun ι1 H1 S1 d v x1 r1 re1 p1 rv1 =>
    tOf.step r1 re1 (PostS.toS p1 re1) fun ι2 H2 S2 od vo x2 r2 re2 p2 rv2 => aOf.step r2 re2 (PostS.toS p2 re2) fun ι3 H3 S3 ids vis x3 r3 re3 p3 rv3 => by
      have rv := (rv1.ext x2).ext x3
      have rvo := rv2.ext x3
      cases hd : tputD od ids d S3 with
      | none => rw [hd] at p3; exact p3.elim
      | some S4 =>
        rw [hd] at p3
        unfold tputD at hd
        split at hd
        · rename_i kvs k h1 h2
          split at hd
          · rename_i hlt
            cases hd
            obtain ⟨n', a, ks, rfl, rfl, hι, hS, hH, rk⟩ := ditD_is r3 rvo h1
            have ev := tkeys_is rv3 h2
            subst ev
            refine ⟨by rw [rv3.length]; exact Nat.le_trans hlt.2 lim_line, fun b hb => ?_⟩
            have xb : Ext ι3 H3 ι3 (upd H3 b (.tup (k.map kV))) := Ext.laid hb
            have r3' := r3.laid (u := .tup (k.map kV)) hb
            have hab : a ≠ b := by rintro rfl; rw [hH] at hb; cases hb
            have hH' : upd H3 b (.tup (k.map kV)) a = some (.dT ks) := by rw [upd_ne hab]; exact hH
            obtain ⟨e1, e2⟩ := r3'.tput hι hH' ((rk.mono xb.pre xb.ts).put (k := k) (rv.ext xb))
            exact ⟨a, _, rfl, DPut.t hH' upd_same (by rw [rk.length]; exact Nat.lt_of_lt_of_le hlt.1 lim_line), p3 ι3 _ _ (xb.trans e1) e2 (re3.ext (xb.trans e1))⟩
          · cases hd
        · cases hd
end
noncomputable def trDict (ks : List (Option Expr)) (vs : List Expr) : Option Unit := match ks, vs with
  | [], [] => some ()
  | _, _ => none
noncomputable def fMtX : Mt → Fd → Fa → Fd
  | .pop => fMtB .pop
  | .clear => fMtB .clear
  | m => fMt m
set_option genInjectivity false
set_option genSizeOfSpec false
inductive Bo where
  | add | sub | mul | fdiv | mod | pow
  | band | bor
inductive Co where
  | eq | ne | lt | le | gt | ge | isin | notin | is_ | isnt
inductive Bf where
  | len | abs | min | max | inst | list | tuple | all | any
mutual
inductive Ex where
  | k (d : D)
  | v (i : Nat)
  | bin (o : Bo) (a b : Ex)
  | neg (a : Ex)
  | not (a : Ex)
  | and (a b : Ex)
  | or (a b : Ex)
  | cmp (o : Co) (a b : Ex)
  | isN (a : Ex)
  | notN (a : Ex)
  | chain (o o' : Co) (a b c : Ex)
  | slLo (a l : Ex)
  | slHi (a h : Ex)
  | sl (a l h : Ex)
  | ite (t a b : Ex)
  | tup (es : List Ex)
  | lst (es : List Ex)
  | idx (a b : Ex)
  | call (f : Str) (es : List Ex)
  | bf (f : Bf) (es : List Ex)
  | gc (a : Ex)
  | comp (i k : Nat) (e : Ex) (it : Ix)
  | compIf (i k : Nat) (e : Ex) (it : Ix) (t : Ex)
  | mt (m : Mt) (o : Ex) (es : List Ex)
  | fld (f : Str) (o : Ex)
  | meth (m : Str) (o : Ex) (es : List Ex)
  | make (C x : Str) (k : Nat) (es : List Ex)
  | make0 (C : Str)
  | dnewT
inductive Ix where
  | val (e : Ex)
  | rg1 (a : Ex)
end
noncomputable def bigB : Nat := 2 ^ 20000
noncomputable def binD : Bo → D → D → Sto → R D
  | .add => addD
  | .sub => subD
  | .mul => mulD
  | .fdiv => fdivD
  | .mod => modD
  | .pow => powD
  | .band => bandD
  | .bor => borD
noncomputable def cmpD : Co → D → D → Sto → R D
  | .eq => eqR id
  | .ne => eqR not
  | .lt => ltD
  | .le => leD
  | .gt => gtD
  | .ge => geD
  | .isin => memB false
  | .notin => memB true
  | .is_ => isD id
  | .isnt => isD not
noncomputable def bfD (G : Glo) : Bf → List D → Sto → R D
  | .len => lenD
  | .abs => absD
  | .min => minD
  | .max => maxD
  | .inst => instD G
  | .list => listB
  | .tuple => tupleD
  | .all => allD true
  | .any => allD false
noncomputable abbrev Phi := Str → List D → Sto → R D
noncomputable abbrev idxF : D → D → Sto → R D := idxB
mutual
noncomputable def ev (G : Glo) (Φ : Phi) : Ex → Fd
  | .k d => okD d
  | .v i => getV i
  | .bin o a b => f2 (binD o) (ev G Φ a) (ev G Φ b)
  | .neg a => f1 negD (ev G Φ a)
  | .not a => fNot (ev G Φ a)
  | .and a b => fAnd (ev G Φ a) (ev G Φ b)
  | .or a b => fOr (ev G Φ a) (ev G Φ b)
  | .cmp o a b => f2 (cmpD o) (ev G Φ a) (ev G Φ b)
  | .isN a => fIsN (ev G Φ a)
  | .notN a => fNotN (ev G Φ a)
  | .chain o o' a b c => fChain (cmpD o) (cmpD o') (ev G Φ a) (ev G Φ b) (ev G Φ c)
  | .slLo a l => fSlLo (ev G Φ a) (ev G Φ l)
  | .slHi a h => fSlHi (ev G Φ a) (ev G Φ h)
  | .sl a l h => fSl (ev G Φ a) (ev G Φ l) (ev G Φ h)
  | .ite t a b => fIf (bVal (ev G Φ t)) (ev G Φ a) (ev G Φ b)
  | .tup es => fTup (evs G Φ es)
  | .lst es => fLst (evs G Φ es)
  | .idx a b => f2 idxF (ev G Φ a) (ev G Φ b)
  | .call f es => fCall (Φ f) (evs G Φ es)
  | .bf f es => fCall (bfD G f) (evs G Φ es)
  | .gc a => fGc (ev G Φ a)
  | .comp i k e it => fComp (evI G Φ it) [i] k (gSet i) none (ev G Φ e) bigB
  | .compIf i k e it t => fComp (evI G Φ it) [i] k (gSet i) (some (bVal (ev G Φ t))) (ev G Φ e) bigB
  | .mt m o es => fMtX m (ev G Φ o) (evs G Φ es)
  | .fld f o => fFld G f (ev G Φ o)
  | .meth m o es => fMeth G Φ m (ev G Φ o) (evs G Φ es)
  | .make C x k es => fMake Φ C x k (evs G Φ es)
  | .make0 C => fMake0 C
  | .dnewT => fDnewT
noncomputable def evI (G : Glo) (Φ : Phi) : Ix → Fi
  | .val e => iVal (ev G Φ e)
  | .rg1 a => iRg1 (aCons (ev G Φ a) aNil)
noncomputable def evs (G : Glo) (Φ : Phi) : List Ex → Fa
  | [] => aNil
  | e :: es => aCons (ev G Φ e) (evs G Φ es)
end
theorem evs_len {G : Glo} {Φ : Phi} : ∀ {es : List Ex} {δ : Dv} {S S' : Sto} {ds : List D}, evs G Φ es δ S = .ok ds S' → ds.length = es.length
  | [], δ, S, S', ds, h => by
    unfold evs aNil at h
    cases h
    rfl
  | e :: es, δ, S, S', ds, h => by
    unfold evs aCons at h
    cases h1 : ev G Φ e δ S with
    | ok d S1 =>
      rw [h1] at h
      dsimp only [R.bind] at h
      cases h2 : evs G Φ es δ S1 with
      | ok ds' S2 =>
        rw [h2] at h
        dsimp only at h
        cases h
        simp [evs_len h2]
      | exc C S2 => rw [h2] at h; cases h
      | fail => rw [h2] at h; cases h
    | exc C S1 => rw [h1] at h; cases h
    | fail => rw [h1] at h; cases h
structure Tc where
  N : List Str
  sc : Scope
  calm : Bool
  rse : Bool
  try' : Bool
  st : Bool
  G : Glo
  fn : Str → Option Nat
structure Gd (X : Cx) (E : St → XK) (Φ : Phi) (C : Tc) : Prop where
  N : X.N = C.N
  nd : C.N.Nodup
  sc : X.env.scope = C.sc
  calm : C.calm = true → X.calm = true
  g : GOk X.mo C.G
  fn : C.calm = true → ∀ x k, C.fn x = some k → ∃ ps n, ps.length = k ∧ HasA X.prog X.w X.mo C.G X.base n x ps (spOf X.mo k (Φ x)) ∧ Room (n + 1) X.A
  un : X.A.units + 64 < cLine
  pass : PassS (CXE X.prog X.w) X E
  loc : C.st = true → ∀ x, X.fn x = true ∨ C.sc.names.lookup x ≠ some .cell
  rse : C.rse = true → ∃ Ec, Lifts X Ec ∧ (∀ σ, E σ = Ec) ∧ X.A.handled = none
  try' : C.try' = true → X.stack = X.env :: X.outer ∧ X.env.frame = some X.env.locals ∧ X.ex = []
  mth : ∀ D m x k, C.G.mth D m = some (x, k) → C.fn x = some k
  ini : ∀ D x k, C.G.ini D = some (some (x, k)) → C.fn x = some k
noncomputable def ixOf (x : Str) : List Str → Option Nat
  | [] => none
  | y :: ys => if y = x then some 0 else (ixOf x ys).map (· + 1)
theorem ixOf_is {x : Str} : ∀ {N : List Str} {i : Nat}, ixOf x N = some i → N[i]? = some x
  | [], _, h => by cases h
  | y :: ys, i, h => by
    unfold ixOf at h
    split at h
    · rename_i e
      cases h
      rw [e]
      rfl
    · obtain ⟨j, h1, rfl⟩ := Option.map_eq_some_iff.mp h
      have := ixOf_is h1
      simpa using this
noncomputable def nameOk (x : Str) : Bool := !(x == ("__debug__" : Str)) && !(x == ("__classdict__" : Str)) && !(x == ("__name__" : Str))
theorem nameOk_is {x : Str} (h : nameOk x = true) : (x == ("__debug__" : Str)) = false ∧ (x == ("__classdict__" : Str)) = false ∧ x ≠ "__name__" := by
  unfold nameOk at h
  simp only [Bool.and_eq_true, Bool.not_eq_true'] at h
  refine ⟨h.1.1, h.1.2, fun e => ?_⟩
  have := h.2
  rw [e] at this
  simp at this
noncomputable def tyN (x : Str) : Option String :=
  if x = "int" then some "int" else if x = "bool" then some "bool" else if x = "str" then some "str" else if x = "tuple" then some "tuple" else if x = "list" then some "list" else if x = "dict" then some "dict"
  else if x = "ValueError" then some "ValueError" else none
theorem tyN_is {x : Str} {n : String} (h : tyN x = some n) : bootBuiltins x = some (.type n) := by
  unfold tyN at h
  repeat (split at h; · rename_i e; subst e; cases h; first | exact Boot.«int» | exact Boot.«bool» | exact Boot.«str» | exact Boot.«tuple» | exact Boot.«list» | exact Boot.«dict» | exact Boot.«ValueError»)
  cases h
noncomputable def isLoc : Option NameKind → Bool
  | some .local => true
  | some .cell => true
  | some .free => true
  | _ => false
noncomputable def isGl : Option NameKind → Bool
  | some .globalImplicit => true
  | _ => false
theorem isLoc_vis {sc : Scope} {x : Str} (h : isLoc (sc.names.lookup x) = true) : Vis sc x := by
  unfold isLoc at h
  split at h
  · rename_i e; exact .inl e
  · rename_i e; exact .inr (.inl e)
  · rename_i e; exact .inr (.inr e)
  · cases h
theorem isGl_gl {X : Cx} {x : Str} (h : isGl (X.env.scope.names.lookup x) = true) : Gl X x := by
  unfold isGl at h
  split at h
  · rename_i e; exact e
  · cases h
noncomputable def trN (C : Tc) (x : Str) : Option Ex :=
  if nameOk x = true then
    if isLoc (C.sc.names.lookup x) = true then (ixOf x C.N).map .v
    else if isGl (C.sc.names.lookup x) = true then
      match C.G.con x with
      | some d => some (.k d)
      | none => if C.G.cls x = true then some (.k (.gl x)) else match tyN x with
        | some n => if C.G.own x = true then some (.k (.ty n)) else none
        | none => none
    else none
  else none
noncomputable def boOf : Operator → Option Bo
  | .Add => some .add
  | .Sub => some .sub
  | .Mult => some .mul
  | .FloorDiv => some .fdiv
  | .Mod => some .mod
  | .Pow => some .pow
  | .BitAnd => some .band
  | .BitOr => some .bor
  | _ => none
noncomputable def coOf : CmpOp → Option Co
  | .Eq => some .eq
  | .NotEq => some .ne
  | .Lt => some .lt
  | .LtE => some .le
  | .Gt => some .gt
  | .GtE => some .ge
  | .In => some .isin
  | .NotIn => some .notin
  | _ => none
noncomputable def bfOf (x : Str) (k : Nat) : Option Bf :=
  if x = "len" then some .len else
  if x = "abs" then some .abs else
  if x = "isinstance" then some .inst else
  if x = "list" then some .list else
  if x = "tuple" then some .tuple else
  if x = "min" then (if k = 2 then some .min else none) else
  if x = "max" then (if k = 2 then some .max else none) else
  none
noncomputable def loudF (f : Str) : Bool := f == "min" || f == "max" || f == "all" || f == "any"
  || f == "list" || f == "sorted"
noncomputable def isLst : Expr → Bool
  | .List _ _ => true
  | _ => false
noncomputable def trC (C : Tc) (f : Str) (k : Nat) (es : List Ex) : Option Ex :=
  if nameOk f = true ∧ isGl (C.sc.names.lookup f) = true ∧ C.calm = true then
    match C.fn f with
    | some j => if j = k ∧ noDot f = true then some (.call f es) else
      none
    | none => match C.G.ini f with
      | some (some (x, j)) => some (.make f x j es)
      | _ => if C.G.own f = true then (bfOf f k).map fun b => .bf b es else none
  else if nameOk f = true ∧ isGl (C.sc.names.lookup f) = true ∧ C.fn f = none ∧ C.G.own f = true ∧ loudF f = false then (bfOf f k).map fun b => .bf b es
  else none
noncomputable def trC0 (C : Tc) (f : Str) : Option Ex :=
  if nameOk f = true ∧ isGl (C.sc.names.lookup f) = true ∧ C.calm = true then
    match C.fn f with
    | some 0 => if noDot f = true then some (.call f []) else none
    | _ => match C.G.ini f with
      | some (some (x, j)) => some (.make f x j [])
      | some none => some (.make0 f)
      | none => none
  else none
noncomputable def mtOf (m : Str) (k : Nat) : Option Mt :=
  if m = "append" then (if k = 1 then some .append else none) else if m = "clear" then (if k = 0 then some .clear else none) else if m = "reverse" then some .reverse
  else if m = "pop" then some .pop else if m = "extend" then some .extend else
  if m = "insert" then (if k = 2 then some .insert else none) else
  none
theorem mtOf_is {m : Str} {k : Nat} {q : Mt} (h : mtOf m k = some q) : ∃ id, Slot "list" m id ∧ typeOf (.builtin id) = pure (.type "method_descriptor") ∧ ∀ X : Cx, MtR X id (rMt q) := by
  unfold mtOf at h
  split at h
  · rename_i e
    subst e
    split at h
    · cases h
      exact ⟨_, PySem.F.slot_list_append, PySem.F.type_list_append, fun X => mt_append⟩
    · cases h
  split at h
  · rename_i e
    subst e
    split at h
    · cases h; exact ⟨_, PySem.F.slot_list_clear, PySem.F.type_list_clear, fun X => mt_clear⟩
    · cases h
  split at h
  · rename_i e; subst e; cases h; exact ⟨_, PySem.F.slot_list_reverse, PySem.F.type_list_reverse, fun X => mt_reverse⟩
  split at h
  · rename_i e; subst e; cases h; exact ⟨_, PySem.F.slot_list_pop, PySem.F.type_list_pop, fun X => mt_popB⟩
  split at h
  · rename_i e; subst e; cases h; exact ⟨_, PySem.F.slot_list_extend, PySem.F.type_list_extend, fun X => mt_extend⟩
  split at h
  · rename_i e
    subst e
    split at h
    · cases h
      exact ⟨_, PySem.F.slot_list_insert, PySem.F.type_list_insert, fun X => mt_insert⟩
    · cases h
  · cases h
noncomputable def isNameE : Expr → Bool
  | .Name _ _ => true
  | _ => false
noncomputable def isCall : Expr → Bool
  | .Call f es _ _ => isNameE f && es.isEmpty
  | _ => false
noncomputable def okT1 (t : Expr → Bool) : Expr → Bool
  | .IfExp _ _ _ _ => false
  | .UnaryOp .Not a _ => t a
  | .BoolOp _ es _ => es.all t
  | _ => true
noncomputable def okTn : Nat → Expr → Bool
  | 0, _ => false
  | n + 1, e => okT1 (okTn n) e
noncomputable def okT (e : Expr) : Bool := okTn 12 e
noncomputable def relabelS (scope sc : Scope) : Scope :=
  { scope with names := scope.names.map fun (n, k) => if (k == .free && sc.kind == .function && sc.names.lookup n == some .cell) then (n, .cell) else (n, k) }
noncomputable def inP (N : List Str) (x : Str) : Nat × List Str := match ixOf x N with
  | some i => (i, [])
  | none => (N.length, [x])
noncomputable def inC (C : Tc) (x : Str) (scope : Scope) : Tc := ⟨C.N ++ (inP C.N x).2, relabelS scope C.sc, C.calm, false, false, false, C.G, C.fn⟩
noncomputable def compOk (C : Tc) (x : Str) (scope : Scope) : Bool :=
  C.calm && decide (scope.kind = .function) && decide (scope.names.lookup x = some .local)
    && scope.names.all (fun y => decide (y.2 ≠ .cell) && (decide (y.2 ≠ .local) || decide (scope.names.lookup y.1 = some .local)) && (decide (y.2 ≠ .free) || decide (C.sc.names.lookup y.1 = some .cell) || decide (C.sc.names.lookup y.1 = some .free)))
    && C.N.all (fun y => decide (y = x) || decide (scope.names.lookup y ≠ some .local))
noncomputable def isComp : Expr → Bool
  | .ListComp _ _ _ _ => true
  | _ => false
noncomputable def trI (C : Tc) (t : Tc → Expr → Option Ex) : Expr → Option Ix
  | .Call (.Name f p) [a] [] pos => if f = "range" ∧ isGl (C.sc.names.lookup f) = true ∧ C.G.own f = true then (t C a).map .rg1 else
    if f = "range" then none else (t C (.Call (.Name f p) [a] [] pos)).map .val
  | e => (t C e).map .val
noncomputable def trIT (C : Tc) (t : Tc → Expr → Option Ex) (e : Expr) : Option Ix := trI C t e
noncomputable def trL (C : Tc) (t : Tc → Expr → Option Ex) (elt : Expr) (x : Str) (iter : Expr) (ifs : List Expr) (scope : Scope) : Option Ex :=
  if compOk C x scope = true then
    match trI { C with rse := false } t iter, t (inC C x scope) elt with
    | some it, some e => match ifs with
      | [] => some (.comp (inP C.N x).1 (inP C.N x).2.length e it)
      | [c] => match t (inC C x scope) c with
        | some c' => if okT c = true then some (.compIf (inP C.N x).1 (inP C.N x).2.length e it c') else none
        | none => none
      | _ => none
    | _, _ => none
  else none
noncomputable def trK : Const → Option Ex
  | .int i => some (.k (.int i))
  | .bool i => some (.k (.bl i))
  | .none => some (.k .non)
  | .str i => some (.k (.str i))
  | _ => none
noncomputable def trU (t : Expr → Option Ex) (a : Expr) : UnaryOp → Option Ex
  | .USub => (t a).map .neg
  | .Not => (t a).map .not
  | _ => none
noncomputable def boE : BoolOp → Ex → Ex → Ex
  | .And => .and
  | .Or => .or
noncomputable def trB (t : Expr → Option Ex) (op : BoolOp) (p : Pos) : List Expr → Option Ex
  | [] => none
  | [a] => t a
  | a :: b :: r => match t a, t (.BoolOp op (b :: r) p) with
    | some a, some b => some (boE op a b)
    | _, _ => none
noncomputable def isNoneE : Expr → Bool
  | .Constant k _ _ => (match k with | .none => true | _ => false)
  | _ => false
theorem isNoneE_is {e : Expr} (h : isNoneE e = true) : ∃ k p, e = .Constant .none k p := by
  cases e with
  | Constant c k p => cases c <;> first | exact ⟨k, p, rfl⟩ | cases h
  | _ => cases h
noncomputable def isIs : CmpOp → Option Bool
  | .Is => some true
  | .IsNot => some false
  | _ => none
theorem isIs_is {op : CmpOp} {k : Bool} (h : isIs op = some k) : op = if k then .Is else .IsNot := by
  cases op <;> cases h <;> rfl
noncomputable def coIs : CmpOp → Option Co
  | .Is => some .is_
  | .IsNot => some .isnt
  | _ => none
noncomputable def trCp1 (t : Expr → Option Ex) (a : Expr) (op : CmpOp) (b : Expr) : Option Ex :=
  match isIs op with
  | some k => if isNoneE b = true then (t a).map (if k then .isN else .notN) else (match coIs op, t a, t b with
    | _, _, _ => none)
  | none => match coOf op, t a, t b with
    | some o, some a, some b => some (.cmp o a b)
    | _, _, _ => none
noncomputable def trCp2 (t : Expr → Option Ex) (a : Expr) (op op' : CmpOp) (b c : Expr) : Option Ex :=
  match coOf op, coOf op', t a, t b, t c with
  | some o, some o', some a, some b, some c => some (.chain o o' a b c)
  | _, _, _, _, _ => none
noncomputable def trCp (t : Expr → Option Ex) (a : Expr) : List CmpOp → List Expr → Option Ex
  | [op], [b] => trCp1 t a op b
  | [op, op'], [b, c] => trCp2 t a op op' b c
  | _, _ => none
noncomputable def sliceOf : Expr → Option (Option Expr × Option Expr × Option Expr)
  | .Slice l h st _ => some (l, h, st)
  | _ => none
theorem sliceOf_is {e : Expr} {l h st : Option Expr} (q : sliceOf e = some (l, h, st)) : ∃ p, e = .Slice l h st p := by
  cases e <;> first | (cases q; exact ⟨_, rfl⟩) | cases q
noncomputable def trSl (t : Expr → Option Ex) (a : Ex) : Option Expr → Option Expr → Option Expr → Option Ex
  | some l, none, none => (t l).map (.slLo a)
  | none, some h, none => (t h).map (.slHi a)
  | some l, some h, none => match t l, t h with
    | some l, some h => some (.sl a l h)
    | _, _ => none
  | _, _, _ => none
noncomputable def trSub (t : Expr → Option Ex) (a b : Expr) : Option Ex :=
  match sliceOf b with
  | some (l, h, st) => (match t a with
    | some a' => trSl t a' l h st
    | none => none)
  | none =>
    match t a, t b with
    | some a', some b' => if isLst a = true then some (.gc (.idx a' b')) else some (.idx a' b')
    | _, _ => none
noncomputable def trCm (C : Tc) (t : Expr → Option Ex) (o : Expr) (m : Str) (ap cp : Pos) (es : List Expr) : Option Ex := match t o, allO t es with
  | some o', some cs => if isCall o = false then (
    match mtOf m es.length with
    | some q => if es.length < 20 ∧ (ap.endLine == cp.line) = true then some (.mt q o' cs) else none
    | none => if C.calm = true ∧ es.length < 20 ∧ (ap.endLine == cp.line) = true then some (.meth m o' cs) else none) else none
  | _, _ => none
noncomputable def trCn (C : Tc) (t : Expr → Option Ex) (f : Str) : List Expr → Option Ex
  | [] => trC0 C f
  | e :: es => match allO t (e :: es) with
    | some cs => trC C f (e :: es).length cs
    | none => none
noncomputable def trCa (C : Tc) (t : Expr → Option Ex) (es : List Expr) (cp : Pos) : Expr → List Keyword → Option Ex
  | .Name f _, [] => trCn C t f es
  | .Attribute o m ap, [] => trCm C t o m ap cp es
  | _, _ => none
noncomputable def trLc (C : Tc) (t1 : Tc → Expr → Option Ex) (elt : Expr) (scope : Scope) : List Comprehension → Option Ex
  | [⟨.Name x _, iter, ifs, 0⟩] => trL C t1 elt x iter ifs scope
  | _ => none
noncomputable def trE1 (C : Tc) (t1 : Tc → Expr → Option Ex) (t : Expr → Option Ex) : Expr → Option Ex
  | .Constant k _ _ => trK k
  | .Name x _ => trN C x
  | .BinOp a op b _ => match boOf op, t a, t b with
    | some o, some a, some b => some (.bin o a b)
    | _, _, _ => none
  | .UnaryOp op a _ => trU t a op
  | .BoolOp op es p => trB t op p es
  | .Compare a ops bs _ => trCp t a ops bs
  | .IfExp c a b _ => match t c, t a, t b with
    | some c', some a, some b => if okT c = true then some (.ite c' a b) else none
    | _, _, _ => none
  | .Tuple es _ _ => (allO t es).map .tup
  | .List es _ => (allO t es).map .lst
  | .Subscript a b _ => trSub t a b
  | .Call f es ks cp => trCa C t es cp f ks
  | .Attribute o f _ => if isCall o = false then (t o).map (.fld f) else none
  | .ListComp elt gs scope _ => trLc C t1 elt scope gs
  | .Dict ks vs _ => (trDict ks vs).map fun _ => .dnewT
  | _ => none
noncomputable def trE : Tc → Nat → Expr → Option Ex
  | _, 0, _ => none
  | C, n + 1, e => trE1 C (fun C' => trE C' n) (trE C n) e
noncomputable def okE : Expr → Bool
  | .Constant _ _ _ => true
  | .Name _ _ => true
  | .BinOp _ _ _ _ => true
  | .UnaryOp _ _ _ => true
  | .BoolOp _ _ _ => true
  | .Compare _ _ _ _ => true
  | .IfExp _ _ _ _ => true
  | .Tuple _ _ _ => true
  | .List _ _ => true
  | .Subscript _ _ _ => true
  | .Call _ _ _ _ => true
  | .Attribute _ _ _ => true
  | .ListComp _ _ _ _ => true
  | .Dict _ _ _ => true
  | _ => false
theorem tr_ok {C : Tc} {n : Nat} {e : Expr} {c : Ex} (h : trE C n e = some c) : okE e = true := by
  cases n with
  | zero => cases h
  | succ n => cases e <;> first | rfl | exact nomatch (show (none : Option Ex) = some c from h)
theorem tr_star {C : Tc} {n : Nat} {e : Expr} {c : Ex} (h : trE C n e = some c) (es : List Expr) (env : Env) : starEach (e :: es) env = (false, eval e env) :: starEach es env := by
  have k := tr_ok h
  clear h
  cases e <;> first | rfl | cases k
theorem allO_star {C : Tc} {n : Nat} : ∀ {es : List Expr} {cs : List Ex}, allO (trE C n) es = some cs → ∀ (pos : Pos) (env : Env), (backTo pos (starEach es env)).any (·.1) = false
  | [], _, _, _, _ => rfl
  | e :: es, cs, h, pos, env => by
    unfold allO at h
    split at h
    · rename_i p ps h1 h2
      rw [tr_star h1]
      show (false || (backTo pos (starEach es env)).any (·.1)) = false
      rw [allO_star h2 pos env]
      rfl
    · cases h
theorem allO_length {α β : Type} {f : α → Option β} : ∀ {l : List α} {r : List β}, allO f l = some r → r.length = l.length
  | [], _, h => by cases h; rfl
  | a :: l, r, h => by
    unfold allO at h
    split at h
    · rename_i p ps h1 h2
      cases h
      simp [allO_length h2]
    · cases h
theorem tr_marks {C : Tc} {n : Nat} {e : Expr} {c : Ex} (h : trE C n e = some c) (op : CmpOp) : behindInMarks op e = false := by
  have k := tr_ok h
  clear h
  cases e <;> first | rfl | cases k
theorem tr_ix {C : Tc} {n : Nat} {e : Expr} {c : Ex} (h : trE C n e = some c) : PlainIx e := by
  have k := tr_ok h
  clear h
  cases e <;> first | (intro _ _; rfl) | cases k
theorem tr_swaps {C : Tc} {n : Nat} {e : Expr} {c : Ex} (h : trE C n e = some c) (hk : isComp e = false) (t : Option Expr) (l : Nat) (env : Env) : swapsWith e t l env = pure false := by
  have k := tr_ok h
  clear h
  cases e <;> first | rfl | (cases hk; done) | cases k
theorem tr_folded {C : Tc} {n : Nat} {e : Expr} {c : Ex} (h : trE C n e = some c) (env : Env) (x : Value) : foldedSetIterable e env x = pure x := by
  have k := tr_ok h
  clear h
  cases e <;> first | rfl | cases k
section
variable {X : Cx} {E : St → XK} {Φ : Phi} {C : Tc}
theorem op_co (hu : X.A.units + 64 < cLine) {op : CmpOp} {o : Co} (h : coOf op = some o) : ∃ r, OpR X (compareOp op) r ∧ Prim2 X r (cmpD o) := by
  cases op <;> cases h
  · exact ⟨_, op_eqD hu, p_eq⟩
  · exact ⟨_, op_neD hu, p_eq⟩
  · exact ⟨_, op_lt, p_lt⟩
  · exact ⟨_, op_le, p_le⟩
  · exact ⟨_, op_gt, p_gt⟩
  · exact ⟨_, op_ge, p_ge⟩
  · exact ⟨_, (op_inF hu).or (op_inK (by omega)), p_memB⟩
  · exact ⟨_, (op_notInF hu).or (op_notInK (by omega)), p_memB⟩
theorem op_bo {op : Operator} {o : Bo} (h : boOf op = some o) : ∃ r, OpR X (binaryOp op) r ∧ Prim2 X r (binD o) := by
  cases op <;> cases h
  · exact ⟨_, op_addA, p_add⟩
  · exact ⟨_, op_sub, p_sub⟩
  · exact ⟨_, op_mulA, p_mul⟩
  · exact ⟨_, op_modN, p_mod⟩
  · exact ⟨_, op_pow, p_pow⟩
  · exact ⟨_, op_or, p_bor⟩
  · exact ⟨_, op_and, p_band⟩
  · exact ⟨_, op_fdivB, p_fdiv⟩
theorem tr_name (gd : Gd X E Φ C) {x : Str} {c : Ex} {pos : Pos} (h : trN C x = some c) : DE X E (.Name x pos) (ev C.G Φ c) := by
  unfold trN at h
  split at h
  · rename_i hn
    obtain ⟨n1, n2, n3⟩ := nameOk_is hn
    split at h
    · rename_i hl
      obtain ⟨i, h1, rfl⟩ := Option.map_eq_some_iff.mp h
      rw [ev]
      exact de_var (by rw [gd.N]; exact ixOf_is h1) (by rw [gd.sc]; exact isLoc_vis hl) n1 n2
    · split at h
      · rename_i hgl
        have hg : Gl X x := isGl_gl (by rw [gd.sc]; exact hgl)
        split at h
        · rename_i d hd
          cases h
          obtain ⟨u, v, h1, h2, h3⟩ := gd.g.con x d hd
          rw [ev]
          exact de_glob hg h1 h2 h3 n1
        · split at h
          · rename_i hc
            cases h
            obtain ⟨a, ha⟩ := gd.g.cls x hc
            rw [ev]
            exact de_cls hg ha n1
          · split at h
            · rename_i t ht
              split at h
              · rename_i ho
                cases h
                rw [ev]
                exact de_ty hg (gd.g.own x ho) (tyN_is ht) n3 n1
              · cases h
            · cases h
      · cases h
  · cases h
theorem tr_args (gd : Gd X E Φ C) {n : Nat} (ih : ∀ e c, trE C n e = some c → DE X E e (ev C.G Φ c)) : ∀ {es : List Expr} {cs : List Ex}, allO (trE C n) es = some cs → DA X E es (evs C.G Φ cs)
  | [], _, h => by cases h; rw [evs]; exact da_nil
  | e :: es, cs, h => by
    unfold allO at h
    split at h
    · rename_i p ps h1 h2
      cases h
      rw [evs]
      exact da_cons (ih e p h1) (tr_args gd ih h2) (tr_star h1 es X.env)
    · cases h
theorem tr_bf (gd : Gd X E Φ C) {f : Str} {b : Bf} {e : Expr} {es : List Expr} {cs : List Ex} {n : Nat} {p pos : Pos} (hn : nameOk f = true) (hgl : isGl (C.sc.names.lookup f) = true) (ho : C.G.own f = true) (hc : C.calm = true ∨ loudF f = false)
    (hb : bfOf f (e :: es).length = some b) (hcs : allO (trE C n) (e :: es) = some cs) (da : DA X E (e :: es) (evs C.G Φ cs)) : DE X E (.Call (.Name f p) (e :: es) [] pos) (ev C.G Φ (.bf b cs)) := by
  obtain ⟨n1, n2, n3⟩ := nameOk_is hn
  have hg : Gl X f := isGl_gl (by rw [gd.sc]; exact hgl)
  have hm := gd.g.own f ho
  have st : starEach (e :: es) X.env = (false, eval e X.env) :: starEach es X.env ∧ (backTo pos (starEach es X.env)).any (·.1) = false := by
    unfold allO at hcs
    split at hcs
    · rename_i p' ps h1 h2
      exact ⟨tr_star h1 es X.env, allO_star h2 pos X.env⟩
    · cases hcs
  rw [ev]
  unfold bfOf at hb
  split at hb
  · rename_i e1; subst e1; cases hb; exact de_callB call_len p_len hg hm Boot.«len» da n3 n1 st.1 st.2
  split at hb
  · rename_i e1; subst e1; cases hb; exact de_callB call_abs p_abs hg hm Boot.«abs» da n3 n1 st.1 st.2
  split at hb
  · rename_i e1; subst e1; cases hb; exact de_callB (call_isinst.or call_isinstT) (p_inst gd.g) hg hm Boot.«isinstance» da n3 n1 st.1 st.2
  split at hb
  · rename_i e1
    subst e1
    cases hb
    rcases hc with hc | hc
    · exact de_callTy (call_list_of.or (t_list (gd.calm hc))) p_listB hg hm Boot.«list» da n3 n1 st.1 st.2
    · exact absurd hc (by decide)
  split at hb
  · rename_i e1; subst e1; cases hb; exact de_callTy call_tuple_of p_tuple hg hm Boot.«tuple» da n3 n1 st.1 st.2
  split at hb
  · rename_i e1
    subst e1
    split at hb
    · cases hb
      rcases hc with hc | hc
      · exact de_callB (call_min2 (gd.calm hc)) p_min hg hm Boot.«min» da n3 n1 st.1 st.2
      · exact absurd hc (by decide)
    · cases hb
  split at hb
  · rename_i e1
    subst e1
    split at hb
    · cases hb
      rcases hc with hc | hc
      · exact de_callB (call_max2 (gd.calm hc)) p_max hg hm Boot.«max» da n3 n1 st.1 st.2
      · exact absurd hc (by decide)
    · cases hb
  · cases hb
theorem tr_call (gd : Gd X E Φ C) {f : Str} {c : Ex} {e : Expr} {es : List Expr} {cs : List Ex} {n : Nat} {p pos : Pos} (h : trC C f (e :: es).length cs = some c) (hcs : allO (trE C n) (e :: es) = some cs) (da : DA X E (e :: es) (evs C.G Φ cs)) :
    DE X E (.Call (.Name f p) (e :: es) [] pos) (ev C.G Φ c) := by
  have st : starEach (e :: es) X.env = (false, eval e X.env) :: starEach es X.env ∧ (backTo pos (starEach es X.env)).any (·.1) = false := by
    have hcs' := hcs
    unfold allO at hcs'
    split at hcs'
    · rename_i p' ps h1 h2
      exact ⟨tr_star h1 es X.env, allO_star h2 pos X.env⟩
    · cases hcs'
  unfold trC at h
  split at h
  · rename_i hc
    obtain ⟨n1, n2, n3⟩ := nameOk_is hc.1
    split at h
    · rename_i j hj
      split at h
      · rename_i ej
        cases h
        obtain ⟨ej, nd⟩ := ej
        subst ej
        obtain ⟨ps, k, h1, h2, h3⟩ := gd.fn hc.2.2 f _ hj
        rw [ev]
        rw [← h1] at h2
        exact de_call (h2.top nd) h1.symm (h3.mono (Nat.le_succ _)) (isGl_gl (by rw [gd.sc]; exact hc.2.1)) gd.pass da (fun δ S ds S' q => (evs_len q).trans (allO_length hcs)) n1 st.1 st.2
      · cases h
    · split at h
      · rename_i x j hi
        cases h
        obtain ⟨ps, k, h1, h2, h3⟩ := gd.fn hc.2.2 x _ (gd.ini f x j hi)
        rw [ev]
        exact de_make h2 hi h3 (isGl_gl (by rw [gd.sc]; exact hc.2.1)) gd.pass da n1 st.1 st.2
      · split at h
        · rename_i ho
          obtain ⟨b, hb, rfl⟩ := Option.map_eq_some_iff.mp h
          exact tr_bf gd hc.1 hc.2.1 ho (.inl hc.2.2) hb hcs da
        · cases h
  · split at h
    · rename_i hc
      obtain ⟨b, hb, rfl⟩ := Option.map_eq_some_iff.mp h
      exact tr_bf gd hc.1 hc.2.1 hc.2.2.2.1 (.inr hc.2.2.2.2) hb hcs da
    · cases h
theorem tr_call0 (gd : Gd X E Φ C) {f : Str} {c : Ex} {p pos : Pos} (h : trC0 C f = some c) : DE X E (.Call (.Name f p) [] [] pos) (ev C.G Φ c) := by
  unfold trC0 at h
  split at h
  · rename_i hc
    obtain ⟨n1, n2, n3⟩ := nameOk_is hc.1
    split at h
    · rename_i hj
      split at h
      · rename_i nd
        cases h
        obtain ⟨ps, k, h1, h2, h3⟩ := gd.fn hc.2.2 f _ hj
        have e := List.length_eq_zero_iff.mp h1
        subst e
        rw [ev, evs]
        exact de_call0 (h2.top nd) (h3.mono (Nat.le_succ _)) (isGl_gl (by rw [gd.sc]; exact hc.2.1)) gd.pass n1
      · cases h
    · split at h
      · rename_i x j hi
        cases h
        obtain ⟨ps, k, h1, h2, h3⟩ := gd.fn hc.2.2 x _ (gd.ini f x j hi)
        rw [ev, evs]
        exact de_make0 h2 hi h3 (isGl_gl (by rw [gd.sc]; exact hc.2.1)) gd.pass n1
      · rename_i hi
        cases h
        obtain ⟨a, m, mk⟩ := gd.g.ini0 f hi
        rw [ev]
        exact de_makeN m mk (isGl_gl (by rw [gd.sc]; exact hc.2.1)) n1
      · cases h
  · cases h
theorem all_of_any {l : List (Bool × Sem Value)} (h : l.any (·.1) = false) : l.all (fun x => !x.1) = true := by
  rw [List.all_eq_not_any_not]
  simp only [Bool.not_not, h]
  rfl
theorem base_plain {o : Expr} {m : Str} {env : Env} (h : isCall o = false) : attributeBase o m env (eval o env) = eval o env := by
  cases o with
  | Call f es ks p =>
    cases es with
    | nil => cases f <;> first | rfl | (cases h; done)
    | cons a r => cases f <;> rfl
  | _ => rfl
theorem tr_mt (gd : Gd X E Φ C) {m : Str} {q : Mt} {o : Expr} {fo : Fd} {es : List Expr} {cs : List Ex} {n : Nat} {ap cp : Pos} (hq : mtOf m es.length = some q) (ho : DE X E o fo) (hcs : allO (trE C n) es = some cs) (da : DA X E es (evs C.G Φ cs))
    (hb : isCall o = false) (hl : es.length < 20) (hp : (ap.endLine == cp.line) = true) : DE X E (.Call (.Attribute o m ap) es [] cp) (fMt q fo (evs C.G Φ cs)) := by
  obtain ⟨id, s1, s2, s3⟩ := mtOf_is hq
  cases es with
  | nil =>
    cases hcs
    rw [evs]
    exact de_mt0 s1 s2 (s3 X) ho (base_plain hb) hp
  | cons e es =>
    have hcs' := hcs
    unfold allO at hcs'
    split at hcs'
    · rename_i q1 q2
      refine de_mt s1 s2 (s3 X) ho da (base_plain hb) ?_ hp (tr_star q1 es X.env) (allO_star q2 cp X.env)
      rw [all_of_any (allO_star hcs cp X.env)]
      show (true && true && decide ((e :: es).length + 0 + 0 < 30)) = true
      rw [decide_eq_true (by omega)]
      rfl
    · cases hcs'
theorem mtOf_pop {m : Str} {k : Nat} {q : Mt} (h : mtOf m k = some q) : (q = .pop → m = "pop") ∧ (q = .clear → m = "clear" ∧ k = 0) := by
  unfold mtOf at h
  split at h
  · split at h
    · cases h
      exact ⟨fun z => (nomatch z), fun z => (nomatch z)⟩
    · cases h
  split at h
  · rename_i e
    split at h
    · rename_i e0
      cases h
      exact ⟨fun z => (nomatch z), fun _ => ⟨e, e0⟩⟩
    · cases h
  split at h
  · cases h; exact ⟨fun z => (nomatch z), fun z => (nomatch z)⟩
  split at h
  · rename_i e; cases h; exact ⟨fun _ => e, fun z => (nomatch z)⟩
  split at h
  · cases h; exact ⟨fun z => (nomatch z), fun z => (nomatch z)⟩
  split at h
  · split at h
    · cases h; exact ⟨fun z => (nomatch z), fun z => (nomatch z)⟩
    · cases h
  · cases h
theorem tr_mtX (gd : Gd X E Φ C) {m : Str} {q : Mt} {o : Expr} {fo : Fd} {es : List Expr} {cs : List Ex} {n : Nat} {ap cp : Pos} (hq : mtOf m es.length = some q) (ho : DE X E o fo) (hcs : allO (trE C n) es = some cs) (da : DA X E es (evs C.G Φ cs))
    (hb : isCall o = false) (hl : es.length < 20) (hp : (ap.endLine == cp.line) = true) : DE X E (.Call (.Attribute o m ap) es [] cp) (fMtX q fo (evs C.G Φ cs)) := by
  have base := tr_mt gd hq ho hcs da hb hl hp
  have hu : X.A.units + 1 < cLine := by have := gd.un; omega
  obtain ⟨k1, k2⟩ := mtOf_pop hq
  cases q with
  | pop =>
    have e := k1 rfl
    subst e
    show DE X E _ (fMtB .pop fo (evs C.G Φ cs))
    cases es with
    | nil =>
      cases hcs
      rw [evs]
      refine (pe_bm0 PySem.F.plainAttrs_list PySem.F.slot_list_pop PySem.F.type_list_pop mt_popB ho (base_plain hb) hp).weak fun σ H Q hh => ?_
      obtain ⟨ι, δ, S, rs, re, q⟩ := hh
      refine tOf.step rs re (Post.bind q) fun ι1 H1 S1 d v x1 r1 re1 p1 rv1 => ?_
      by_cases hk0 : (ditD d S1).isSome = true
      · rw [if_pos hk0] at p1
        exact p1.elim
      rw [if_neg hk0] at p1
      by_cases hk : False
      · exact hk.elim
      · skip
        by_cases hk' : isLstR d S1 = true
        · rw [if_pos hk'] at p1
          exact ⟨isLstR_ty r1 rv1 hk', p_mt r1 rv1 .nil p1⟩
        · rw [if_neg hk'] at p1
          exact p1.elim
    | cons e es =>
      have hcs' := hcs
      unfold allO at hcs'
      split at hcs'
      · rename_i q1 q2
        have few : ((backTo cp (starEach (e :: es) X.env)).all (fun x => !x.1) && (backToKw cp (keywordEach [] X.env)).all (fun x => x.1.isSome) && decide ((e :: es).length + ([] : List Keyword).length + (if ([] : List Keyword).isEmpty then 0 else 1) < 30)) = true := by
          rw [all_of_any (allO_star hcs cp X.env)]
          show (true && true && decide ((e :: es).length + 0 + 0 < 30)) = true
          rw [decide_eq_true (by omega)]
          rfl
        have two := base
        exact de_two two (de_tpop hu ho da (base_plain hb) few hp (tr_star q1 es X.env) (allO_star q2 cp X.env)) fMtB_or
      · cases hcs'
  | clear =>
    obtain ⟨e, e0⟩ := k2 rfl
    subst e
    have e1 := List.length_eq_zero_iff.mp e0
    subst e1
    cases hcs
    show DE X E _ (fMtB .clear fo (evs C.G Φ []))
    rw [evs] at base ⊢
    have two := base
    exact de_two two (de_tclear ho (base_plain hb) hp) fMtB_or
  | append => exact base
  | reverse => exact base
  | extend => exact base
  | insert => exact base
theorem form_few {es : List Expr} {cp : Pos} {env : Env} (h : (backTo cp (starEach es env)).any (·.1) = false) (hl : es.length < 20) : methodCallForm (es.length + ([] : List Keyword).length) (backTo cp (starEach es env)) (backToKw cp (keywordEach [] env)) = true := by
  unfold methodCallForm
  rw [all_of_any h]
  show (true && true && decide (es.length + 0 + 0 < 30)) = true
  rw [decide_eq_true (by omega)]
  rfl
theorem meth_eval {o : Expr} {m : Str} {ap cp : Pos} {es : List Expr} {env : Env} (h : isCall o = false) (hf : methodCallForm (es.length + ([] : List Keyword).length) (backTo cp (starEach es env)) (backToKw cp (keywordEach [] env)) = true) (hl : (ap.endLine == cp.line) = true) :
    eval (.Call (.Attribute o m ap) es [] cp) env = (do
      let ov ← eval o env
      standAt ap.atName
      let (f, first) ← holding [ov] (getMethod ov m (do return (← importBound o env).getD true))
      callWith cp f first (backTo cp (starEach es env)) (backToKw cp (keywordEach [] env))) := by
  rw [arm_eval_Call, base_plain h]
  unfold methodCall calleeOf methodCallPos
  simp only [hf, hl, Bool.not_true, Bool.false_or, if_true]
  rfl
theorem tr_meth (gd : Gd X E Φ C) {m : Str} {o : Expr} {fo : Fd} {es : List Expr} {cs : List Ex} {n : Nat} {ap cp : Pos} (hc : C.calm = true) (ho : DE X E o fo) (hcs : allO (trE C n) es = some cs) (da : DA X E es (evs C.G Φ cs))
    (hb : isCall o = false) (hl : es.length < 20) (hp : (ap.endLine == cp.line) = true) : DE X E (.Call (.Attribute o m ap) es [] cp) (fMeth C.G Φ m fo (evs C.G Φ cs)) := by
  have hΦ : ∀ D m x k, C.G.mth D m = some (x, k) → ∃ ps n, ps.length = k ∧ HasA X.prog X.w X.mo C.G X.base n x ps (spOf X.mo k (Φ x)) ∧ Room n X.A := fun D m x k h => by
    obtain ⟨ps, n, h1, h2, h3⟩ := gd.fn hc x k (gd.mth D m x k h)
    exact ⟨ps, n, h1, h2, h3.mono (Nat.le_succ _)⟩
  cases es with
  | nil =>
    cases hcs
    rw [evs]
    exact de_meth0 gd.g hΦ gd.pass ho (meth_eval hb (form_few rfl (by decide)) hp)
  | cons e es =>
    have ff := form_few (allO_star hcs cp X.env) hl
    have hcs' := hcs
    unfold allO at hcs'
    split at hcs'
    · rename_i q1 q2
      exact de_meth gd.g hΦ gd.pass ho da (tr_star q1 es X.env) (allO_star q2 cp X.env) (meth_eval hb ff hp)
    · cases hcs'
theorem fChain_of {fa fb fc : Fd} {r r' : R2} {g g' : D → D → Sto → R D} (hr : Prim2 X r g) (hr' : Prim2 X r' g') {σ : St} {H : Hp} {Q : VK} (h : tOf X.mo X.N.length E (fChain g g' fa fb fc) σ H Q) :
    tChain r r' (tOf X.mo X.N.length E fa) (tOf X.mo X.N.length E fb) (tOf X.mo X.N.length E fc) σ H Q := by
  obtain ⟨ι, δ, S, rs, re, p⟩ := h
  refine tOf.step rs re (Post.bind p) fun ι1 H1 S1 d v x1 r1 re1 p1 rv1 => ?_
  refine tOf.step r1 re1 (Post.bind p1) fun ι2 H2 S2 e u x2 r2 re2 p2 rv2 => ?_
  refine hr ι2 H2 S2 v u d e _ (fun C H' => E σ C none H') r2 (rv1.ext x2) rv2 (Post.mono (Post.bind p2) (fun ι3 H3 S3 z x3 r3 p3 w rw' => ?_) fun _ _ q => q)
  obtain ⟨k, rfl, rfl, q⟩ := Post.isBl p3 rw'
  refine ⟨k, rfl, ?_⟩
  cases k with
  | false => exact iteF (q ι3 H3 (.refl ι3 H3) r3 _ (.bl _))
  | true =>
    refine iteT (tOf.step r3 (re2.ext x3) (Post.bind (r := fc δ S3) (f := fun z S4 => g' e z S4) q) fun ι4 H4 S4 y w' x4 r4 re4 p4 rv4 => ?_)
    exact hr' ι4 H4 S4 u w' e y Q _ r4 ((rv2.ext x3).ext x4) rv4 p4
theorem bVal_not (fa : Fd) : bVal (fNot fa) = bNot (bVal fa) := by
  funext δ S
  simp only [bVal, fNot, bNot]
  cases fa δ S with
  | ok d S1 => cases d <;> rfl
  | _ => rfl
theorem bVal_and (fa fb : Fd) : bVal (fAnd fa fb) = bAnd (bVal fa) (bVal fb) := by
  funext δ S
  simp only [bVal, fAnd, bAnd]
  cases fa δ S with
  | ok d S1 =>
    cases d with
    | bl k => cases k <;> rfl
    | _ => rfl
  | _ => rfl
theorem bVal_or (fa fb : Fd) : bVal (fOr fa fb) = bOr (bVal fa) (bVal fb) := by
  funext δ S
  simp only [bVal, fOr, bOr]
  cases fa δ S with
  | ok d S1 =>
    cases d with
    | bl k => cases k <;> rfl
    | _ => rfl
  | _ => rfl
noncomputable abbrev SoE (Φ : Phi) (n : Nat) : Prop := ∀ (C : Tc) (e : Expr) (c : Ex), trE C n e = some c → ∀ {X : Cx} {E : St → XK}, Gd X E Φ C → DE X E e (ev C.G Φ c)
noncomputable abbrev SoT (Φ : Phi) (n : Nat) : Prop := ∀ (C : Tc) (m : Nat) (e : Expr) (c : Ex), trE C n e = some c → okTn m e = true → ∀ {X : Cx} {E : St → XK}, Gd X E Φ C → DT X E e (bVal (ev C.G Φ c))
noncomputable abbrev SoW (Φ : Phi) (n : Nat) : Prop := ∀ (C : Tc) (m : Nat) (op : BoolOp) (es : List Expr) (p : Pos) (c : Ex), trE C n (.BoolOp op es p) = some c → es.all (okTn m) = true → ∀ {X : Cx} {E : St → XK}, Gd X E Φ C → DW X E (.BoolOp op es p) (bVal (ev C.G Φ c))
theorem Gd.nox (g : Gd X E Φ C) : Gd X.nox En Φ { C with rse := false } :=
  ⟨g.N, g.nd, g.sc, g.calm, g.g, g.fn, g.un, passSN, g.loc, (fun h => nomatch h), g.try', g.mth, g.ini
  ⟩
theorem ixOf_none {x : Str} : ∀ {N : List Str}, ixOf x N = none → x ∉ N
  | [], _ => by simp
  | y :: ys, h => by
    unfold ixOf at h
    split at h
    · cases h
    · rename_i e
      have := ixOf_none (Option.map_eq_none_iff.mp h)
      simp [this, Ne.symm e]
theorem inP_at (N : List Str) (x : Str) : (N ++ (inP N x).2)[(inP N x).1]? = some x := by
  unfold inP
  split
  · rename_i i h
    rw [List.append_nil]
    exact ixOf_is h
  · simp
theorem inP_nd {N : List Str} {x : Str} (h : N.Nodup) : (N ++ (inP N x).2).Nodup := by
  unfold inP
  split
  · rw [List.append_nil]
    exact h
  · rename_i e
    rw [List.nodup_append]
    refine ⟨h, by simp, fun a ha b hb z => ?_⟩
    rw [List.mem_singleton] at hb
    exact ixOf_none e (hb ▸ z ▸ ha)
theorem inP_mem {N : List Str} {x y : Str} (h : y ∈ (inP N x).2) : y = x := by
  unfold inP at h
  split at h
  · simp at h
  · simpa using h
theorem comp_sc (gd : Gd X E Φ C) {x : Str} {scope : Scope} (h : compOk C x scope = true) : C.calm = true ∧ scope.names.lookup x = some .local ∧ CompSc X (C.N ++ (inP C.N x).2) (inP C.N x).2 [(inP C.N x).1] scope := by
  unfold compOk at h
  simp only [Bool.and_eq_true, decide_eq_true_eq, List.all_eq_true, Bool.or_eq_true] at h
  obtain ⟨⟨⟨⟨h1, h2⟩, h3⟩, h4⟩, h5⟩ := h
  refine ⟨h1, h3, ⟨h2, fun y hy => (h4 y hy).1.1, fun y hy e => ?_, fun y hy e => ?_, by rw [gd.N], fun j y e hl => ?_, fun y hy => ?_⟩⟩
  · rcases (h4 y hy).1.2 with z | z
    · exact absurd e z
    · exact z
  · have hk : X.env.kindOf y.1 = C.sc.names.lookup y.1 := by rw [← gd.sc]; rfl
    rw [hk]
    rcases (h4 y hy).2 with (z | z) | z
    · exact absurd e z
    · exact .inl z
    · exact .inr z
  · have hy : y = x := by
      have hm := List.mem_of_getElem? e
      rcases List.mem_append.mp hm with z | z
      · rcases h5 y z with z | z
        · exact z
        · exact absurd hl z
      · exact inP_mem z
    subst hy
    simp only [List.mem_singleton]
    exact nodup_at (inP_nd gd.nd) e (inP_at C.N y)
  · rw [inP_mem hy]
    exact h3
theorem Gd.inC (gd : Gd X E Φ C) (x : Str) (scope : Scope) (cl : List (Str × Addr)) (Ca : Addr) (s₃ : Shared) (H₃ : Hp) (ex : List Addr) : Gd (compX X (C.N ++ (inP C.N x).2) scope cl Ca s₃ H₃ ex) En Φ (inC C x scope) :=
  ⟨rfl, inP_nd gd.nd, (by show relabelS scope X.env.scope = relabelS scope C.sc; rw [gd.sc]), gd.calm, gd.g, gd.fn, gd.un, passSN, (fun h => nomatch h), (fun h => nomatch h), (fun h => nomatch h), gd.mth, gd.ini
  ⟩
theorem tr_iter1 {n : Nat} (snd : SoE Φ n) (g : Gd X E Φ C) {tg it : Expr} {c : Ix} (h : trI C (fun C' => trE C' n) it = some c) : DI X E tg it (evI C.G Φ c) ∧ ∀ x, foldedSetIterable it X.env x = pure x := by
  have plain : ∀ {e : Expr} {c : Ix}, (trE C n e).map Ix.val = some c → DI X E tg e (evI C.G Φ c) ∧ ∀ x, foldedSetIterable e X.env x = pure x := fun {e c} h => by
    obtain ⟨a, h1, rfl⟩ := Option.map_eq_some_iff.mp h
    rw [evI]
    exact ⟨di_val (snd C _ _ h1 g), fun x => tr_folded h1 X.env x⟩
  unfold trI at h
  split at h
  · split at h
    · rename_i hc
      obtain ⟨a', h1, rfl⟩ := Option.map_eq_some_iff.mp h
      obtain ⟨e1, e2, e3⟩ := hc
      subst e1
      refine ⟨di_range1 (isGl_gl (by rw [g.sc]; exact e2)) (g.g.own _ e3) ?_ (tr_star h1 [] X.env), fun _ => rfl⟩
      exact da_cons (snd C _ _ h1 g) da_nil (tr_star h1 [] X.env)
    · split at h
      · cases h
      · exact plain h
  · exact plain h
structure CompP (X : Cx) (elt te iter : Expr) (ifs : List Expr) (scope : Scope) (N' more : List Str) (is : List Nat) (g : Fg) (fi : Fi) (c : Option Fb) (f : Fd) : Prop where
  calm : X.calm = true
  sc : CompSc X N' more is scope
  it : DI X.nox En te iter fi
  fs : ∀ y, foldedSetIterable iter X.env y = pure y
  tg : ∀ cl C s₃ H₃ ex, DG (compX X N' scope cl C s₃ H₃ ex) te g
  ifs : ∀ cl C s₃ H₃ ex, PTs (compX X N' scope cl C s₃ H₃ ex) ifs (bOf X.mo N'.length En (optT c))
  elt : ∀ cl C s₃ H₃ ex, DE (compX X N' scope cl C s₃ H₃ ex) En elt f
  keep : ∀ (d : D) (δ δ1 : Dv) (S : Sto), g d δ S = some δ1 → (∀ j ∈ is, ∀ d', δ[j]? ≠ some (some d')) → ∀ (j : Nat) d', δ[j]? = some (some d') → δ1[j]? = some (some d')
theorem gSet_keep {i : Nat} (d : D) (δ δ1 : Dv) (S : Sto) (h : gSet i d δ S = some δ1) (hm : ∀ j ∈ [i], ∀ d', δ[j]? ≠ some (some d')) (j : Nat) (d' : D) (e : δ[j]? = some (some d')) : δ1[j]? = some (some d') := by
  cases h
  have ne : i ≠ j := by
    intro z
    subst z
    exact hm i (by simp) d' e
  exact (List.getElem?_set_ne ne).trans e
theorem tr_compP {n : Nat} (snd : SoE Φ n) (tst : SoT Φ n) {elt iter : Expr} {x : Str} {ifs : List Expr} {scope : Scope} {p : Pos} {c : Ex} (h : trL C (fun C' => trE C' n) elt x iter ifs scope = some c) (gd : Gd X E Φ C) :
    ∃ N' more is g fi t f, ev C.G Φ c = fComp fi is more.length g t f bigB ∧ CompP X elt (.Name x p) iter ifs scope N' more is g fi t f := by
  unfold trL at h
  split at h
  · rename_i hk
    obtain ⟨k1, k2, k3⟩ := comp_sc gd hk
    split at h
    · rename_i it e h1 h2
      have i1 := tr_iter1 (tg := .Name x p) snd gd.nox h1
      have tg : ∀ cl Ca s₃ H₃ ex, DG (compX X (C.N ++ (inP C.N x).2) scope cl Ca s₃ H₃ ex) (.Name x p) (gSet (inP C.N x).1) := fun cl Ca s₃ H₃ ex =>
        have hl : (relabel scope X.env).names.lookup x = some .local := lookup_relabel_local k2
        dg_name (inP_nd gd.nd) (inP_at C.N x) (.inl hl) (.inr hl)
      have el : ∀ cl Ca s₃ H₃ ex, DE (compX X (C.N ++ (inP C.N x).2) scope cl Ca s₃ H₃ ex) En elt (ev C.G Φ e) := fun cl Ca s₃ H₃ ex => snd _ _ _ h2 (gd.inC x scope cl Ca s₃ H₃ ex)
      split at h
      · cases h
        exact ⟨_, _, _, _, _, none, _, by rw [ev], gd.calm k1, k3, i1.1, i1.2, tg, fun cl Ca s₃ H₃ ex => pts_nil, el, gSet_keep⟩
      · split at h
        · rename_i c' h3
          split at h
          · rename_i ok
            cases h
            exact ⟨_, _, _, _, _, some _, _, by rw [ev]; rfl, gd.calm k1, k3, i1.1, i1.2, tg, fun cl Ca s₃ H₃ ex => pts_one (tst _ 12 _ _ h3 ok (gd.inC x scope cl Ca s₃ H₃ ex)), el, gSet_keep⟩
          · cases h
        · cases h
      · cases h
    · cases h
  · cases h
theorem tr_compG {n : Nat} (snd : SoE Φ n) (tst : SoT Φ n) {elt : Expr} {gs : List Comprehension} {scope : Scope} {c : Ex} (h : trLc C (fun C' => trE C' n) elt scope gs = some c) (gd : Gd X E Φ C) :
    ∃ te iter ifs N' more is g fi t f, gs = [⟨te, iter, ifs, 0⟩] ∧ ev C.G Φ c = fComp fi is more.length g t f bigB ∧ CompP X elt te iter ifs scope N' more is g fi t f := by
  unfold trLc at h
  split at h
  · obtain ⟨N', more, is, g, fi, t, f, e, q⟩ := tr_compP snd tst h gd
    exact ⟨_, _, _, N', more, is, g, fi, t, f, rfl, e, q⟩
  · cases h
theorem tr_comp {n : Nat} (snd : SoE Φ n) (tst : SoT Φ n) {elt : Expr} {gs : List Comprehension} {scope : Scope} {pos : Pos} {c : Ex} (h : trLc C (fun C' => trE C' n) elt scope gs = some c) (gd : Gd X E Φ C) :
    DE X E (.ListComp elt gs scope pos) (ev C.G Φ c) := by
  obtain ⟨te, iter, ifs, N', more, is, g, fi, t, f, rfl, e, q⟩ := tr_compG snd tst h gd
  rw [e]
  exact de_comp bigB q.calm q.sc q.it q.fs q.tg q.ifs q.elt q.keep
theorem so_e {n : Nat} (snd : SoE Φ n) (tst : SoT Φ n) : SoE Φ (n + 1) := by
  intro C e c h X E gd
  have ih : ∀ e c, trE C n e = some c → DE X E e (ev C.G Φ c) := fun e c h => snd C e c h gd
  cases e with
  | Constant k a p =>
    replace h : trK k = some c := h
    cases k <;> cases h <;> rw [ev]
    · exact de_non
    · exact de_bl
    · exact de_int
    · exact de_str
  | Name x p => exact tr_name gd h
  | BinOp a op b p =>
    replace h : (match boOf op, trE C n a, trE C n b with | some o, some a, some b => some (Ex.bin o a b) | _, _, _ => none) = some c := h
    split at h
    · rename_i h1 h2 h3
      cases h
      obtain ⟨r, o1, o2⟩ := op_bo (X := X) h1
      rw [ev]
      exact de_op o1 o2 (ih _ _ h2) (ih _ _ h3)
    · cases h
  | UnaryOp op a p =>
    replace h : trU (trE C n) a op = some c := h
    cases op <;> first | (cases h; done) | skip
    · obtain ⟨a', h1, rfl⟩ := Option.map_eq_some_iff.mp h
      rw [ev]
      exact de_not (ih _ _ h1)
    · obtain ⟨a', h1, rfl⟩ := Option.map_eq_some_iff.mp h
      rw [ev]
      exact de_un un_neg p_neg (ih _ _ h1)
  | BoolOp op es p =>
    replace h : trB (trE C n) op p es = some c := h
    unfold trB at h
    split at h
    · cases h
    · cases op <;> exact de_one (ih _ _ h)
    · split at h
      · rename_i h1 h2
        cases h
        cases op
        · show DE X E _ (ev C.G Φ (.and _ _))
          rw [ev]
          exact de_and (ih _ _ h1) (ih _ _ h2)
        · show DE X E _ (ev C.G Φ (.or _ _))
          rw [ev]
          exact de_or (ih _ _ h1) (ih _ _ h2)
      · cases h
  | Compare a ops bs p =>
    replace h : trCp (trE C n) a ops bs = some c := h
    unfold trCp at h
    split at h
    · unfold trCp1 at h
      split at h
      · rename_i k hk
        have hk2 := isIs_is hk
        clear hk
        subst hk2
        split at h
        · rename_i hb
          obtain ⟨k1, p1, rfl⟩ := isNoneE_is hb
          obtain ⟨a', h1, rfl⟩ := Option.map_eq_some_iff.mp h
          cases k
          · show DE X E _ (ev C.G Φ (.notN _))
            rw [ev]
            exact de_pc (pc_notN (ih _ _ h1)) tNotN_of rfl
          · show DE X E _ (ev C.G Φ (.isN _))
            rw [ev]
            exact de_pc (pc_isN (ih _ _ h1)) tIsN_of rfl
        · split at h
          · cases h
      · split at h
        · rename_i h1 h2 h3
          cases h
          obtain ⟨r, o1, o2⟩ := op_co (X := X) gd.un h1
          rw [ev]
          exact de_cmp o1 o2 (tr_marks h3 _) (ih _ _ h2) (ih _ _ h3)
        · cases h
    · unfold trCp2 at h
      split at h
      · rename_i h1 h2 h3 h4 h5
        cases h
        obtain ⟨r, o1, o2⟩ := op_co (X := X) gd.un h1
        obtain ⟨r', o1', o2'⟩ := op_co (X := X) gd.un h2
        rw [ev]
        exact (pe_chain o1 o1' (ih _ _ h3) (ih _ _ h4) (ih _ _ h5) (tr_marks h5 _)).weak fun σ H Q q => fChain_of o2 o2' q
      · cases h
    · cases h
  | IfExp t a b p =>
    replace h : (match trE C n t, trE C n a, trE C n b with | some c', some a, some b => if okT t = true then some (Ex.ite c' a b) else none | _, _, _ => none) = some c := h
    split at h
    · rename_i h1 h2 h3
      split at h
      · rename_i hk
        cases h
        rw [ev]
        exact de_ifExp (tst C 12 _ _ h1 hk gd) (ih _ _ h2) (ih _ _ h3)
      · cases h
    · cases h
  | Tuple es k p =>
    obtain ⟨a', h1, rfl⟩ := Option.map_eq_some_iff.mp (show (allO (trE C n) es).map Ex.tup = some c from h)
    rw [ev]
    exact de_tup (tr_args gd ih h1)
  | List es p =>
    obtain ⟨a', h1, rfl⟩ := Option.map_eq_some_iff.mp (show (allO (trE C n) es).map Ex.lst = some c from h)
    rw [ev]
    exact de_lst (tr_args gd ih h1)
  | Subscript a b p =>
    replace h : trSub (trE C n) a b = some c := h
    unfold trSub at h
    split at h
    · rename_i hs
      obtain ⟨p2, rfl⟩ := sliceOf_is hs
      split at h
      · rename_i h1
        unfold trSl at h
        split at h
        · obtain ⟨l', h2, rfl⟩ := Option.map_eq_some_iff.mp h
          rw [ev]
          exact de_slLo (ih _ _ h1) (ih _ _ h2)
        · obtain ⟨l', h2, rfl⟩ := Option.map_eq_some_iff.mp h
          rw [ev]
          exact de_slHi (ih _ _ h1) (ih _ _ h2)
        · split at h
          · rename_i h2 h3
            cases h
            rw [ev]
            exact de_sl (ih _ _ h1) (ih _ _ h2) (ih _ _ h3)
          · cases h
        · cases h
      · cases h
    split at h
    · rename_i h1 h2
      have k := fun pos => de_ix (pos := pos) (ix_seq.or (ix_tk (by have := gd.un; omega))) p_idxB (tr_ix h2) (ih _ _ h1) (ih _ _ h2)
      split at h
      · cases h
        rw [ev, ev]
        exact de_gc (k _)
      · cases h
        rw [ev]
        exact k _
    · cases h
  | Call f es ks cp =>
    replace h : trCa C (trE C n) es cp f ks = some c := h
    unfold trCa at h
    split at h
    · unfold trCn at h
      split at h
      · exact tr_call0 gd h
      · split at h
        · rename_i hcs
          exact tr_call gd h hcs (tr_args gd ih hcs)
        · cases h
    · unfold trCm at h
      split at h
      · rename_i o' cs h2 h3
        split at h
        · rename_i hb
          split at h
          · rename_i q h1
            split at h
            · rename_i hk
              cases h
              rw [ev]
              exact tr_mtX gd h1 (ih _ _ h2) h3 (tr_args gd ih h3) hb hk.1 hk.2
            · cases h
          · split at h
            · rename_i hc
              cases h
              rw [ev]
              exact tr_meth gd hc.1 (ih _ _ h2) h3 (tr_args gd ih h3) hb hc.2.1 hc.2.2
            · cases h
        · cases h
      · cases h
    · cases h
  | Attribute o f p =>
    replace h : (if isCall o = false then (trE C n o).map (Ex.fld f) else none) = some c := h
    split at h
    · rename_i hb
      obtain ⟨a', h1, rfl⟩ := Option.map_eq_some_iff.mp h
      rw [ev]
      exact de_fld gd.g (ih _ _ h1) (base_plain hb)
    · cases h
  | ListComp elt gs scope p =>
    exact tr_comp snd tst (show trLc C (fun C' => trE C' n) elt scope gs = some c from h) gd
  | Dict ks vs p =>
    obtain ⟨o, h1, rfl⟩ := Option.map_eq_some_iff.mp (show (trDict ks vs).map (fun _ => Ex.dnewT) = some c from h)
    unfold trDict at h1
    split at h1
    · cases h1
      show DE X E _ (ev C.G Φ .dnewT)
      rw [ev]
      exact de_dnewT
    · cases h1
  | _ => exact nomatch (show (none : Option Ex) = some c from h)
theorem so_w {n : Nat} (tst : SoT Φ n) (sw : SoW Φ n) : SoW Φ (n + 1) := by
  intro C m op es p c h hk X E gd
  replace h : trB (trE C n) op p es = some c := h
  cases es with
  | nil => cases h
  | cons a r =>
    rw [List.all_cons, Bool.and_eq_true] at hk
    cases r with
    | nil =>
      cases op with
      | And => exact dw_and1 (tst C m a c h hk.1 gd)
      | Or => exact dw_or1 (tst C m a c h hk.1 gd)
    | cons b r =>
      replace h : (match trE C n a, trE C n (.BoolOp op (b :: r) p) with | some a, some b => some (boE op a b) | _, _ => none) = some c := h
      split at h
      · rename_i a' b' h1 h2
        cases h
        cases op with
        | And =>
          show DW X E _ (bVal (ev C.G Φ (.and _ _)))
          rw [ev, bVal_and]
          exact dw_and (tst C m a a' h1 hk.1 gd) (sw C m .And (b :: r) p b' h2 hk.2 gd)
        | Or =>
          show DW X E _ (bVal (ev C.G Φ (.or _ _)))
          rw [ev, bVal_or]
          exact dw_or (tst C m a a' h1 hk.1 gd) (sw C m .Or (b :: r) p b' h2 hk.2 gd)
      · cases h
theorem so_t {n : Nat} (snd : SoE Φ n) (tst : SoT Φ n) (snd1 : SoE Φ (n + 1)) (sw1 : SoW Φ (n + 1)) : SoT Φ (n + 1) := by
  intro C m e c h hk X E gd
  cases m with
  | zero => cases hk
  | succ m =>
    have base := snd1 C e c h gd
    cases e with
    | IfExp _ _ _ _ => cases hk
    | BoolOp op es p => exact (sw1 C m op es p c h hk gd).pt
    | UnaryOp op a p =>
      cases op with
      | Not =>
        obtain ⟨a', h1, rfl⟩ := Option.map_eq_some_iff.mp (show (trE C n a).map Ex.not = some c from h)
        rw [ev, bVal_not]
        exact dt_not (tst C m a a' h1 hk gd)
      | _ => exact dt_val base fun _ => rfl
    | Compare a ops bs p =>
      have ih : ∀ e c, trE C n e = some c → DE X E e (ev C.G Φ c) := fun e c h => snd C e c h gd
      replace h : trCp (trE C n) a ops bs = some c := h
      unfold trCp at h
      split at h
      · unfold trCp1 at h
        split at h
        · rename_i k hk'
          have hk2 := isIs_is hk'
          clear hk'
          subst hk2
          split at h
          · rename_i hb
            obtain ⟨k1, p1, rfl⟩ := isNoneE_is hb
            obtain ⟨a', h1, rfl⟩ := Option.map_eq_some_iff.mp h
            cases k
            · show DT X E _ (bVal (ev C.G Φ (.notN _)))
              rw [ev]
              exact dt_pc (pc_notN (ih _ _ h1)) tNotN_of rfl
            · show DT X E _ (bVal (ev C.G Φ (.isN _)))
              rw [ev]
              exact dt_pc (pc_isN (ih _ _ h1)) tIsN_of rfl
          · split at h
            · cases h
        · split at h
          · rename_i h1 h2 h3
            cases h
            obtain ⟨r, o1, o2⟩ := op_co (X := X) gd.un h1
            rw [ev]
            exact dt_cmp o1 o2 (tr_marks h3 _) (ih _ _ h2) (ih _ _ h3)
          · cases h
      · unfold trCp2 at h
        split at h
        · rename_i h1 h2 h3 h4 h5
          cases h
          obtain ⟨r, o1, o2⟩ := op_co (X := X) gd.un h1
          obtain ⟨r', o1', o2'⟩ := op_co (X := X) gd.un h2
          rw [ev]
          exact (pt_chain o1 o1' (ih _ _ h3) (ih _ _ h4) (ih _ _ h5) (tr_marks h5 _)).weak (bOf_tB fun σ H Q q => fChain_of o2 o2' q)
        · cases h
      · cases h
    | _ => exact dt_val base fun _ => rfl
theorem so_all : ∀ n : Nat, SoE Φ n ∧ SoT Φ n ∧ SoW Φ n
  | 0 => ⟨fun _ _ _ h => (by cases h), ⟨fun _ _ _ _ h => (by cases h), fun _ _ _ _ _ _ h => (by cases h)⟩⟩
  | n + 1 => by
    obtain ⟨h1, h2, h3⟩ := so_all n
    have a := so_e h1 h2
    have b := so_w h2 h3
    exact ⟨a, so_t h1 h2 a b, b⟩
theorem tr_sound {n : Nat} {e : Expr} {c : Ex} (h : trE C n e = some c) (gd : Gd X E Φ C) : DE X E e (ev C.G Φ c) := (so_all n).1 C e c h gd
theorem tr_test {n : Nat} {e : Expr} {c : Ex} (h : trE C n e = some c) (hk : okT e = true) (gd : Gd X E Φ C) : DT X E e (bVal (ev C.G Φ c)) := (so_all n).2.1 C 12 e c h hk gd
end
set_option genInjectivity false
set_option genSizeOfSpec false
inductive Sx where
  | set (i : Nat) (e : Ex)
  | ret (e : Ex)
  | retN
  | expr (e : Ex)
  | pass
  | brk
  | cnt
  | ite (t : Ex) (a b : List Sx)
  | whl (t : Ex) (b : List Sx)
  | for_ (i : Nat) (it : Ix) (b : List Sx)
  | par (i j : Nat) (a b : Ex)
  | setF (f : Str) (o e : Ex)
  | sto (o i e : Ex)
  | stoT (o : Ex) (is : List Ex) (e : Ex)
  | bad
mutual
noncomputable def exS (G : Glo) (Φ : Phi) : Sx → Fs
  | .set i e => sSet i (ev G Φ e)
  | .ret e => sRet (ev G Φ e)
  | .retN => fun _ S => .ret .non S
  | .expr e => sExpr (ev G Φ e)
  | .pass => sNext
  | .brk => fun δ S => .brk δ S
  | .cnt => fun δ S => .cnt δ S
  | .ite t a b => sIf (bVal (ev G Φ t)) (exSs G Φ a) (exSs G Φ b)
  | .whl t b => whileD (bVal (ev G Φ t)) (exSs G Φ b) bigB
  | .for_ i it b => sFor (evI G Φ it) (gSet i) (exSs G Φ b) bigB
  | .par i j a b => sPar i j (evs G Φ [a, b])
  | .setF f o e => sFldD G f (ev G Φ o) (ev G Φ e)
  | .stoT o is e => sStoT (ev G Φ o) (evs G Φ is) (ev G Φ e)
  | .sto o i e => sSto (ev G Φ o) (ev G Φ i) (ev G Φ e)
  | .bad => sBad
noncomputable def exSs (G : Glo) (Φ : Phi) : List Sx → Fs
  | [] => sNext
  | s :: ss => sSeq (exS G Φ s) (exSs G Φ ss)
end
noncomputable def dep : Nat := 24
noncomputable def isL : Option NameKind → Bool
  | some .local => true
  | _ => false
noncomputable def isStar : Expr → Bool
  | .Starred _ _ => true
  | _ => false
noncomputable def constK (k : Nat) (e : Expr) : Bool := constantsAlone k e
noncomputable def nameAt (C : Tc) : Expr → Option Nat
  | .Name x _ => if isL (C.sc.names.lookup x) = true ∨ C.sc.names.lookup x = some .cell then ixOf x C.N else none
  | _ => none
noncomputable def isTupE : Expr → Bool
  | .Tuple _ _ _ => true
  | _ => false
noncomputable def early (C : Tc) (y : Str) (py : Pos) (scope : Scope) (vpos : Pos) : Bool :=
  (ScopeKind.function == ScopeKind.function) && C.sc.names.lookup y == some .local && py.line == vpos.line && !(scope.names.any fun (n, k) => n == y && (k == .local || k == .cell))
noncomputable def setOk (C : Tc) (y : Str) (py : Pos) : Expr → Pos → Bool
  | .ListComp _ _ _ _, _ => decide (C.sc.kind = .function)
  | _, _ => true
noncomputable def par2 : List Expr → Expr → Option (Str × Pos × Str × Pos × Expr × Expr)
  | [.Name x p, .Name y q], .Tuple [a, b] _ _ => some (x, p, y, q, a, b)
  | _, _ => none
theorem par2_is {ts : List Expr} {e : Expr} {x y : Str} {p q : Pos} {a b : Expr} (h : par2 ts e = some (x, p, y, q, a, b)) : ts = [.Name x p, .Name y q] ∧ ∃ k r, e = .Tuple [a, b] k r := by
  unfold par2 at h
  split at h
  · cases h
    exact ⟨rfl, _, _, rfl⟩
  · cases h
noncomputable def trPar (C : Tc) (x : Str) (p : Pos) (y : Str) (q : Pos) (a b : Expr) : Option Sx := match ixOf x C.N, ixOf y C.N, trE C dep a, trE C dep b with
  | some i, some j, some a', some b' => if i ≠ j ∧ isL (C.sc.names.lookup x) = true ∧ isL (C.sc.names.lookup y) = true ∧ p.line = q.line ∧ C.calm = true ∧ C.sc.kind = .function ∧ ([a, b].all (foldedForSure 8) = false) ∧ ([a, b].all (constantsAlone 8) = false) then some (.par i j a' b') else none
  | _, _, _, _ => none
noncomputable def trAs1 (C : Tc) (pos : Pos) (e : Expr) : Expr → Option Sx
  | .Name x px => match ixOf x C.N, trE C dep e with
    | some i, some c => if (isL (C.sc.names.lookup x) = true ∨ C.sc.names.lookup x = some .cell) ∧ C.st = true ∧ setOk C x px e pos = true then some (.set i c) else none
    | _, _ => none
  | .Subscript o (.Tuple is _ _) _ => match trE C dep o, allO (trE C dep) is, trE C dep e with
    | some o', some is', some e' => some (.stoT o' is' e')
    | _, _, _ => none
  | .Subscript o i _ => match trE C dep o, trE C dep i, trE C dep e with
    | some o', some i', some e' => some (.sto o' i' e')
    | _, _, _ => none
  | .Attribute o f _ => match trE C dep o, trE C dep e with
    | some o', some e' => some (.setF f o' e')
    | _, _ => none
  | .Tuple ts _ _ => match par2 ts e with
    | some (x, p, y, q, a, b) => trPar C x p y q a b
    | none => match allO (nameAt C) ts, trE C dep e with
      | _, _ => none
  | _ => none
noncomputable def trAs (C : Tc) (pos : Pos) (e : Expr) : List Expr → Option Sx
  | [t] => trAs1 C pos e t
  | _ => none
noncomputable def trRet (C : Tc) : Option Expr → Option Sx
  | some e => (trE C dep e).map .ret
  | none => some .retN
noncomputable def trWh (C : Tc) (t : Tc → List Stmt → Option (List Sx)) (c : Expr) (b : List Stmt) : List Stmt → Option Sx
  | [] => match trE { C with rse := false } dep c, t { C with rse := false } b with
    | some c', some b => if okT c = true then some (.whl c' b) else none
    | _, _ => none
  | _ => none
noncomputable def trFo1 (C : Tc) (t : Tc → List Stmt → Option (List Sx)) (it : Expr) (b : List Stmt) : Expr → Option Sx
  | .Name x _ => match ixOf x C.N, trI { C with rse := false } (fun C' => trE C' dep) it, t { C with rse := false } b with
    | some i, some it', some b => if (isL (C.sc.names.lookup x) = true ∨ C.sc.names.lookup x = some .cell) ∧ C.calm = true ∧ C.st = true then some (.for_ i it' b) else none
    | _, _, _ => none
  | _ => none
noncomputable def trFo (C : Tc) (t : Tc → List Stmt → Option (List Sx)) (it : Expr) (b : List Stmt) (tg : Expr) : List Stmt → Option Sx
  | [] => trFo1 C t it b tg
  | _ => none
noncomputable def trS1 (C : Tc) (t : Tc → List Stmt → Option (List Sx)) : Stmt → Option Sx
  | .Assign ts e pos => trAs C pos e ts
  | .Return o _ => trRet C o
  | .Expr e _ => if isComp e = false then (trE C dep e).map .expr else none
  | .Pass _ => some .pass
  | .Break _ => some .brk
  | .Continue _ => some .cnt
  | .If c a b _ => match trE C dep c, t C a, t C b with
    | some c', some a, some b => if okT c = true then some (.ite c' a b) else none
    | _, _, _ => none
  | .While c b els _ => trWh C t c b els
  | .For tg it b els _ => trFo C t it b tg els
  | _ => none
noncomputable def trS : Nat → Tc → List Stmt → Option (List Sx)
  | 0, _, _ => none
  | _ + 1, _, [] => some []
  | n + 1, C, s :: ss => match trS n C ss with
    | some cs => some ((trS1 C (trS n) s).getD .bad :: cs)
    | none => none
section
variable {X : Cx} {E : St → XK} {Φ : Phi} {C : Tc}
theorem Gd.tryX (g : Gd X E Φ C) (pn : List (Addr × Obj)) (E' : St → XK) : Gd (tryX X pn E') E' Φ { C with rse := false } :=
  ⟨g.N, g.nd, g.sc, g.calm, g.g, g.fn, g.un, passS_try, g.loc, (fun h => nomatch h), g.try', g.mth, g.ini
  ⟩
theorem Gd.handX (g : Gd X E Φ C) (ea : Addr) : Gd (handX X ea) En Φ { C with rse := false, try' := false, calm := false } :=
  ⟨g.N, g.nd, g.sc, (fun h => nomatch h), g.g, (fun h => nomatch h), g.un, passSN, g.loc, (fun h => nomatch h), (fun h => nomatch h), g.mth, g.ini
  ⟩
theorem isL_is {o : Option NameKind} (h : isL o = true) : o = some .local := by
  unfold isL at h
  split at h
  · rfl
  · cases h
theorem tr_iter (g : Gd X E Φ C) {tg it : Expr} {c : Ix} (h : trI C (fun C' => trE C' dep) it = some c) : DI X E tg it (evI C.G Φ c) ∧ ∀ x, foldedSetIterable it X.env x = pure x := tr_iter1 (so_all dep).1 g h
theorem par_swapped {x y : Str} {a b : Expr} {p q p1 p2 : Pos} {k1 k2} {env : Env} (hk : env.scope.kind = .function) (hx : env.kindOf x = some .local) (hy : env.kindOf y = some .local) (hne : x ≠ y) (hl : p.line = q.line)
    (ha : isStar a = false) (hb : isStar b = false) (h1 : [a, b].all (foldedForSure 8) = false) (h2 : [a, b].all (constantsAlone 8) = false) :
    swappedStores [.Tuple [.Name x p, .Name y q] k1 p1] (.Tuple [a, b] k2 p2) env = pure (some [x, y]) := by
  have bk : env.blockKind = .function := by unfold Env.blockKind; rw [hk]; rfl
  have f : ∀ e : Expr, (match e with | .Starred .. => true | _ => false) = isStar e := fun e => by cases e <;> rfl
  have st : ([a, b].any fun | .Starred .. => true | _ => false) = false := by
    rw [show (fun e : Expr => match e with | .Starred .. => true | _ => false) = isStar from funext f]
    simp only [List.any_cons, List.any_nil, ha, hb, Bool.or_false]
  unfold swappedStores
  simp only [bk, st, h1, h2, hx, hy, Expr.pos, hl]
  simp [hne, Ne.symm hne, Expr.pos]
  rw [if_neg (by
    rintro (h | h)
    · exact absurd (h.symm.trans (f a)) (by rw [ha]; decide)
    · exact absurd (h.symm.trans (f b)) (by rw [hb]; decide))]
  simp [List.filterMap_cons, hx, hy, hl.symm, List.eraseDups_cons, Ne.symm hne]
theorem tr_notStar {n : Nat} {e : Expr} {c : Ex} (h : trE C n e = some c) : isStar e = false := by
  have k := tr_ok h
  clear h
  cases e <;> first | rfl | cases k
theorem loc_of {C : Tc} {x : Str} (h : isL (C.sc.names.lookup x) = true ∨ C.sc.names.lookup x = some .cell) : Loc C.sc x := by
  rcases h with h | h
  · exact .inl (isL_is h)
  · exact .inr h
theorem Gd.hst (g : Gd X E Φ C) (hs : C.st = true) {x : Str} (h : isL (C.sc.names.lookup x) = true ∨ C.sc.names.lookup x = some .cell) : X.fn x = true ∨ X.env.scope.names.lookup x = some .local := by
  rcases h with h | h
  · exact .inr (by rw [g.sc]; exact isL_is h)
  · rcases g.loc hs x with z | z
    · exact .inl z
    · exact absurd h z
theorem tr_set {i : Nat} {x : Str} {px pos : Pos} {e : Expr} {c : Ex} (h : trE C dep e = some c) (hok : setOk C x px e pos = true) (hi : C.N[i]? = some x) (hk : isL (C.sc.names.lookup x) = true ∨ C.sc.names.lookup x = some .cell) (hst : C.st = true) (g : Gd X E Φ C) :
    DS X E (.Assign [.Name x px] e pos) (sSet i (ev C.G Φ c)) := by
  have nd : X.N.Nodup := by rw [g.N]; exact g.nd
  have hi' : X.N[i]? = some x := by rw [g.N]; exact hi
  have hl : Loc X.env.scope x := by rw [g.sc]; exact loc_of hk
  by_cases hc : isComp e = false
  · exact ds_set nd hi' hl (tr_sound h g) (tr_swaps h hc _ _ _) (g.hst hst hk)
  · cases e <;> try (exact absurd rfl hc)
    rename_i elt gs scope vpos
    have kf : C.sc.kind = .function := of_decide_eq_true hok
    have bk : X.env.blockKind = .function := by unfold Env.blockKind; rw [g.sc, kf]; rfl
    have sw : swapsWith (.ListComp elt gs scope vpos) (some (.Name x px)) pos.line X.env = pure (early C x px scope vpos) := by
      have hx : X.env.kindOf x = C.sc.names.lookup x := by rw [← g.sc]; rfl
      unfold swapsWith early
      simp only [bk, hx, Expr.pos]
      try rfl
    by_cases he : early C x px scope vpos = true
    · rw [he] at sw
      have h' : trLc C (fun C' => trE C' 23) elt scope gs = some c := h
      obtain ⟨te, iter, ifs, N', more, is, gg, fi, t, f, rfl, ee, q⟩ := tr_compG (so_all 23).1 (so_all 23).2.1 h' g
      rw [ee]
      exact ds_setComp bigB q.calm q.sc q.it q.fs q.tg q.ifs q.elt q.keep nd hi' hl (g.hst hst hk) sw
    · rw [Bool.not_eq_true] at he
      rw [he] at sw
      exact ds_set nd hi' hl (tr_sound h g) sw (g.hst hst hk)
theorem swapsS_sub {o i : Expr} {p : Pos} (e : Expr) (l : Nat) (env : Env) : swapsWithSole [.Subscript o i p] e l env = pure false := by
  cases e <;> rfl
theorem swaps_sub {o i : Expr} {p : Pos} (e : Expr) (env : Env) : swappedStores [.Subscript o i p] e env = pure none := by
  cases e <;> rfl
theorem swaps_attr {o : Expr} {f : Str} {p : Pos} (e : Expr) (l : Nat) (env : Env) : swapsWith e (some (.Attribute o f p)) l env = pure false := by
  cases e <;> rfl
noncomputable def isSlice : Expr → Bool
  | .Slice _ _ _ _ => true
  | _ => false
theorem tr_notSlice {n : Nat} {e : Expr} {c : Ex} (h : trE C n e = some c) : isSlice e = false := by
  have k := tr_ok h
  clear h
  cases e <;> first | rfl | cases k
theorem sub_assign {o i : Expr} {p : Pos} {env : Env} (h : isSlice i = false) (v : Value) : assign (.Subscript o i p) env v = (do
      let ov ← holding [v] (eval o env)
      let iv ← holding [v, ov] (eval i env)
      standAt p
      holding [v, ov, iv] (setItem ov iv v)
      release [v, ov, iv] []) := by
  cases i <;> first | rfl | (cases h; done)
theorem tr_as {e : Expr} {ts : List Expr} {pos : Pos} {c : Sx} (h : trAs C pos e ts = some c) (g : Gd X E Φ C) : DS X E (.Assign ts e pos) (exS C.G Φ c) := by
  unfold trAs at h
  split at h
  · unfold trAs1 at h
    split at h
    · split at h
      · rename_i h1 h2
        split at h
        · rename_i hk
          cases h
          obtain ⟨hk, hst, hok⟩ := hk
          rw [exS]
          exact tr_set h2 hok (ixOf_is h1) hk hst g
        · cases h
      · cases h
    · split at h
      · rename_i h1 h2 h3
        cases h
        rw [exS]
        exact ds_stoT (by have := g.un; omega) (tr_sound h1 g) (tr_args g (fun _ _ q => tr_sound q g) h2) (tr_sound h3 g) (swapsS_sub _ _ _) (swaps_sub _ _) (sub_assign rfl)
      · cases h
    · split at h
      · rename_i h1 h2 h3
        cases h
        rw [exS]
        exact ds_sto (tr_sound h1 g) (tr_sound h2 g) (tr_sound h3 g) (swapsS_sub _ _ _) (swaps_sub _ _) (sub_assign (tr_notSlice h2))
      · cases h
    · split at h
      · rename_i h1 h2
        cases h
        rw [exS]
        exact ds_fld g.g (tr_sound h1 g) (tr_sound h2 g) (swaps_attr _ _ _)
      · cases h
    · split at h
      · rename_i hp
        obtain ⟨rfl, k0, r0, rfl⟩ := par2_is hp
        unfold trPar at h
        split at h
        · rename_i h1 h2 h3 h4
          split at h
          · rename_i hk
            cases h
            obtain ⟨k1, k2, k3, k4, k5, k6, k7, k8⟩ := hk
            have e1 := ixOf_is h1
            have e2 := ixOf_is h2
            have l1 := isL_is k2
            have l2 := isL_is k3
            rw [← g.sc] at l1 l2
            rw [exS]
            refine ds_par (g.calm k5) (by rw [g.N]; exact g.nd) (by rw [g.N]; exact e1) (by rw [g.N]; exact e2) k1 l1 l2 ?_ (par_swapped (by rw [g.sc]; exact k6) l1 l2 (fun z => k1 (nodup_at g.nd e1 (z ▸ e2))) k4 (tr_notStar h3) (tr_notStar h4) k7 k8) rfl
            rw [evs, evs, evs]
            exact da_cons (tr_sound h3 g) (da_cons (tr_sound h4 g) da_nil (tr_star h4 [] X.env)) (tr_star h3 _ X.env)
          · cases h
        · cases h
      · split at h
        · cases h
    · cases h
  · cases h
theorem tr_for {t : Tc → List Stmt → Option (List Sx)} (ih : ∀ (C : Tc) ss cs, t C ss = some cs → ∀ {X : Cx} {E : St → XK}, Gd X E Φ C → DSs X E ss (exSs C.G Φ cs)) {tg it : Expr} {b els : List Stmt} {pos : Pos} {c : Sx} (h : trFo C t it b tg els = some c) (g : Gd X E Φ C) : DS X E (.For tg it b els pos) (exS C.G Φ c) := by
  unfold trFo at h
  split at h
  · unfold trFo1 at h
    split at h
    · split at h
      · rename_i h1 h2 h3
        split at h
        · rename_i hk
          cases h
          obtain ⟨i1, i2⟩ := tr_iter (tg := .Name _ _) g.nox h2
          rw [exS]
          exact ds_for bigB (g.calm hk.2.1) i1 (dg_name (X := X.nox) (by show X.N.Nodup; rw [g.N]; exact g.nd) (by show X.N[_]? = _; rw [g.N]; exact ixOf_is h1) (by show Loc X.env.scope _; rw [g.sc]; exact loc_of hk.1) (g.hst hk.2.2 hk.1)) (ih _ _ _ h3 g.nox) i2
        · cases h
      · cases h
    · cases h
  · cases h
theorem tr_stmt {t : Tc → List Stmt → Option (List Sx)} (ih : ∀ (C : Tc) ss cs, t C ss = some cs → ∀ {X : Cx} {E : St → XK}, Gd X E Φ C → DSs X E ss (exSs C.G Φ cs)) {s : Stmt} {c : Sx} (h : trS1 C t s = some c) (g : Gd X E Φ C) : DS X E s (exS C.G Φ c) := by
  cases s with
  | Assign ts e pos => exact tr_as h g
  | Return o pos =>
    replace h : trRet C o = some c := h
    cases o with
    | none => cases h; rw [exS]; exact ds_retN
    | some e =>
      obtain ⟨c', h1, rfl⟩ := Option.map_eq_some_iff.mp h
      rw [exS]
      exact ds_ret (tr_sound h1 g)
  | Expr e pos =>
    replace h : (if isComp e = false then (trE C dep e).map Sx.expr else none) = some c := h
    split at h
    · rename_i hk
      obtain ⟨c', h1, rfl⟩ := Option.map_eq_some_iff.mp h
      rw [exS]
      exact ds_expr (tr_sound h1 g) (tr_swaps h1 hk _ _ _)
    · cases h
  | Pass pos => cases h; rw [exS]; exact ds_pass
  | Break pos => cases h; rw [exS]; exact ds_break
  | Continue pos => cases h; rw [exS]; exact ds_continue
  | If t' a b pos =>
    replace h : (match trE C dep t', t C a, t C b with | some c', some a, some b => if okT t' = true then some (Sx.ite c' a b) else none | _, _, _ => none) = some c := h
    split at h
    · rename_i h1 h2 h3
      split at h
      · rename_i hk
        cases h
        rw [exS]
        exact ds_if (tr_test h1 hk g) (ih C _ _ h2 g) (ih C _ _ h3 g)
      · cases h
    · cases h
  | While t' b els pos =>
    replace h : trWh C t t' b els = some c := h
    unfold trWh at h
    split at h
    · split at h
      · rename_i h1 h2
        split at h
        · rename_i hk
          cases h
          rw [exS]
          exact ds_while bigB (tr_test (C := { C with rse := false }) h1 hk g.nox) (ih _ _ _ h2 g.nox)
        · cases h
      · cases h
    · cases h
  | For tg it b els pos => exact tr_for ih h g
  | _ => exact nomatch (show (none : Option Sx) = some c from h)
theorem tr_stmts : ∀ (n : Nat) (C : Tc) (ss : List Stmt) (cs : List Sx), trS n C ss = some cs → ∀ {X : Cx} {E : St → XK}, Gd X E Φ C → DSs X E ss (exSs C.G Φ cs)
  | 0, _, _, _, h, _, _, _ => by cases h
  | n + 1, C, [], cs, h, _, _, _ => by
    cases h
    rw [exSs]
    exact dss_nil
  | n + 1, C, s :: ss, cs, h, X, E, g => by
    unfold trS at h
    split at h
    · rename_i cs' h2
      cases h
      rw [exSs]
      refine dss_cons ?_ (tr_stmts n C ss cs' h2 g)
      cases h1 : trS1 C (trS n) s with
      | none =>
        show DS X E s (exS C.G Φ .bad)
        rw [exS]
        exact ds_bad
      | some c => exact tr_stmt (fun C ss cs h => tr_stmts n C ss cs h) h1 g
    · cases h
end
structure Df where
  N : List Str
  ps : List Str
  st : Stmt
  code : List Sx
noncomputable def startD (N : List Str) (ds : List D) : Dv := ds.map some ++ List.replicate (N.length - ds.length) none
noncomputable def endR : RS → R D
  | .ret d S => .ok d S
  | .next _ S => .ok .non S
  | .exc C _ S => .exc C S
  | _ => .fail
noncomputable def callD (G : Glo) (T : Str → Option Df) : Nat → Phi
  | 0 => fun _ _ _ => .fail
  | n + 1 => fun x ds S => match T x with
    | some f => if ds.length = f.ps.length then gc S (endR (exSs G (callD G T n) f.code (startD f.N ds) S)) else .fail
    | none => .fail
noncomputable def arOf (T : Str → Option Df) (x : Str) : Option Nat := (T x).map fun f => f.ps.length
noncomputable def tcOf (G : Glo) (T : Str → Option Df) (f : Df) : Tc := ⟨f.N, defScope f.st, true, true, true, true, G, arOf T⟩
structure GT (G : Glo) (T : Str → Option Df) : Prop where
  mth : ∀ D m x k, G.mth D m = some (x, k) → arOf T x = some k
  ini : ∀ D x k, G.ini D = some (some (x, k)) → arOf T x = some k
structure DfOk (M : Mo) (G : Glo) (T : Str → Option Df) (x : Str) (f : Df) : Prop where
  at' : ∃ a fd nm, AtG M G x a ∧ FunG M.K nm x f.st a fd ∧ BindsA M fd f.ps (G.dfl x)
  sc : FnScope f.N f.ps (defScope f.st)
  tr : trS 40 (tcOf G T f) (defBody f.st) = some f.code
theorem relE_start {M : Mo} {ι : List Addr} {H : Hp} {N : List Str} {vs : List V} {ds : List D} (r : RDs M ι H vs ds) (hl : vs.length ≤ N.length) : RelE M ι H N.length (start N vs) (startD N ds) := by
  refine ⟨by unfold start; simp; omega, by have := r.length; unfold startD; simp; omega, fun i d h => ?_⟩
  unfold startD at h
  by_cases hi : i < ds.length
  · rw [List.getElem?_append_left (by simpa using hi), List.getElem?_map] at h
    cases e : ds[i]? with
    | none => rw [e] at h; cases h
    | some d' =>
      rw [e] at h
      cases h
      obtain ⟨v, h1, h2⟩ := r.get e
      refine ⟨v, ?_, h2⟩
      unfold start
      rw [List.getElem?_append_left (by rw [List.length_map, r.length]; exact hi), List.getElem?_map, h1]
      rfl
  · rw [List.getElem?_append_right (by simpa using hi), List.getElem?_replicate] at h
    split at h <;> cases h
section
variable {P : Program} {w : World} {M : Mo} {base : Heap} {G : Glo} {T : Str → Option Df}
theorem callD_fn (g : GOk M G) (gt : GT G T) {n : Nat} {x nm : Str} {f : Df} (hx : T x = some f) (d : DfOk M G T x f) (ih : ∀ y fy, T y = some fy → HasA P w M G base (2 * n) y fy.ps (spOf M fy.ps.length (callD G T n y)))
    {fa : Addr} {fd : FuncData} (hf : FunG M.K nm x f.st fa fd) :
    FnOk P w M.K M.mg base (CXE P w) (2 * (n + 1)) fa fd f.ps (spOf M f.ps.length (callD G T (n + 1) x)) := by
  refine FunG.okE (k := 2 * n + 1) hf d.sc (fun vs H Q E h => h.1) (fun cdv A outer s H vs Q E hr h => ?_)
  obtain ⟨hl, ι, ds, S, rs, rv, p⟩ := h
  have gd : Gd (cxOf (CXE P w) P w M.K M.mg base f.N x (defScope f.st) fa cdv A outer s H E) (fun _ => E) (callD G T n) (tcOf G T f) := by
    refine ⟨rfl, d.sc.nd, rfl, fun _ => rfl, g, fun _ y k hy => ?_, hr.units, passS_def, fun _ _ => .inl rfl, fun _ => ⟨E, lifts_def, fun _ => rfl, hr.hd⟩, fun _ => ⟨rfl, rfl, rfl⟩, gt.mth, gt.ini
    ⟩
    obtain ⟨fy, h1, h2⟩ := Option.map_eq_some_iff.mp (show (T y).map (fun f => f.ps.length) = some k from hy)
    subst h2
    exact ⟨fy.ps, 2 * n, rfl, ih y fy h1, hr⟩
  refine ⟨_, tr_stmts 40 _ _ _ d.tr gd, ι, startD f.N ds, S, rs, relE_start rv ?_, ?_⟩
  · have := congrArg List.length d.sc.pre
    rw [List.length_take] at this
    show vs.length ≤ f.N.length
    omega
  · have hlen : ds.length = f.ps.length := by rw [← rv.length]; exact hl
    unfold callD at p
    rw [hx] at p
    dsimp only at p
    rw [if_pos hlen] at p
    have p' := Post.gc rs p
    show PostS M f.N.length ι H (exSs G (callD G T n) f.code (startD f.N ds) S) _ (fun _ => E)
    cases er : exSs G (callD G T n) f.code (startD f.N ds) S with
    | next δ1 S1 => rw [er] at p'; exact fun ι' H' σ' x r _ => p' ι' H' x r _ .non
    | ret d S1 => rw [er] at p'; exact fun ι' H' v x r rv => p' ι' H' x r v rv
    | brk δ1 S1 => rw [er] at p'; exact p'.elim
    | cnt δ1 S1 => rw [er] at p'; exact p'.elim
    | exc C δ1 S1 => rw [er] at p'; exact fun ι' H' σ' Ca x r _ m => p' ι' H' Ca x r m
    | fail => rw [er] at p'; exact p'.elim
theorem callD_ok (g : GOk M G) (gt : GT G T) (ok : ∀ x f, T x = some f → DfOk M G T x f) : ∀ (n : Nat) (x : Str) (f : Df), T x = some f → HasA P w M G base (2 * n) x f.ps (spOf M f.ps.length (callD G T n x))
  | 0, x, f, hx => by
    obtain ⟨a, fd, nm, h1, h2, h3⟩ := (ok x f hx).at'
    exact ⟨a, fd, h1, h2.kp, h3, ⟨fun vs H Q E h => h.1, fun A outer s H args us vs Q E _ _ _ _ h => by obtain ⟨_, _, _, _, _, _, p⟩ := h; exact p.elim⟩⟩
  | n + 1, x, f, hx => by
    obtain ⟨a, fd, nm, h1, h2, h3⟩ := (ok x f hx).at'
    exact ⟨a, fd, h1, h2.kp, h3, callD_fn g gt hx (ok x f hx) (callD_ok g gt ok n)
      h2⟩
end
noncomputable def LawOk (G : Glo) (T : Str → Option Df) (k : Nat) : Prop := ∀ ns : List Int, ns.length ≤ 63 → ∃ S, callD G T k "law" [.rol (ns.map D.int)] [] = .ok (.bl true) S
theorem only_fz {K : PySem.W.Frag} {H : Hp} {a : Addr} {xs : List V} (hO : Only H) (h : SqL K H a xs) : FzL K H a xs := by
  rcases h with h | h
  · rcases hO a with z | ⟨o, ys, z⟩
    · rcases h with h | ⟨_, h⟩ <;> rw [z] at h <;> cases h
    · rcases h with h | ⟨o', h⟩
      · rw [z] at h; cases h
      · exact .inl ⟨o', h⟩
  · exact .inr h
noncomputable def spLaw (K : PySem.W.Frag) : Sp := fun vs H Q _ => vs.length = 1 ∧ ∃ (a : Addr) (ns : List Int), vs = [.ref a] ∧ ns.length ≤ 63 ∧ Only H ∧ SqL K H a (ns.map V.int) ∧ ∀ H', Q (.bl true) H'
theorem law_walk {l : PySem.W.OpenLaw} {k : Nat} {q : Program} {loose : List Str} {XP : (Str → Option Value) → Heap → Prop} {YP : World → Heap → Prop} {d : DefRec} {K : Params → PySem.W.Frag} {x : Str} {N : List Str} {st : Stmt} {cs : List Sx}
    {G : Glo} {T : Str → Option Df} (hn : l.most = some 63) (hdf : d.params.defaults = []) (hnm : d.name = "law") (hr : Room (2 * (k + 1)) callerA) (gt : GT G T)
    (hY : ∀ (w : World) (h : Heap), YP w h → (K w.params).In h) (hT : T "law" = some ⟨N, [x], st, cs⟩) (hl : LawOk G T (k + 1))
    (F : ∀ (w : World) (mg : Str → Option Value) (h : Heap), (K w.params).In h → h.Ns mainGlobals mg →
      GOk ⟨K w.params, mg⟩ G ∧ (∀ x f, T x = some f → DfOk ⟨K w.params, mg⟩ G T x f) ∧
        ∃ f fd, mg "law" = some (.ref f) ∧ (∀ (s : Shared) (u : Value), BindsTo s fd ⟨[u], []⟩ [(x, u)]) ∧ Fun (K w.params) "law" "law" st f fd) :
    PySem.W.WalkO q loose XP YP l.row.toRowW d [] (fun f vs => PySem.call f vs) := by
  refine walk_of (K := K) (x := x) (CX := fun w => CXE l.prog w) (sp := fun w => spLaw (K w.params)) hn (by decide) hdf hr hY ?_ ?_ ?_
  · intro w mg fa h KX G0 hmg
    rw [hnm] at hmg
    obtain ⟨g, ok, f, fd, h1, h2, h3⟩ := F w mg h KX G0
    rw [hmg] at h1
    cases h1
    refine ⟨fd, h2, fun base kb nb => ?_⟩
    refine (callD_fn (P := l.prog) (w := w) (base := base) g gt hT (ok _ _ hT) (callD_ok g gt ok k)
      h3.g).imp fun vs H Q E hs => ?_
    obtain ⟨e, a, ns, rfl, hlen, hO, hS, q⟩ := hs
    refine ⟨e, [], [.rol (ns.map D.int)], [], ⟨rfl, List.nodup_nil, fun n a o z => by simp at z⟩, .cons (.rol (only_fz hO hS) (RDs.ints ns)) .nil, ?_⟩
    obtain ⟨S, eS⟩ := hl ns hlen
    rw [eS]
    intro ι' H' _ _ v rv
    cases rv
    exact q H'
  · intro w H a ns hlen hO hS
    exact ⟨rfl, a, ns, rfl, hlen, hO, hS, fun _ => rfl⟩
  · rintro w H s e s' ⟨_, _, _, _, _, h⟩
    exact h.elim
noncomputable def inCls (s : Stmt) (j : Nat) : Stmt := match s with
  | .ClassDef _ _ _ b _ _ _ _ _ _ _ => b.getD j (.Pass ⟨0, 0, 0, 0⟩)
  | _ => s
noncomputable def tabOf : List (Str × Df) → Str → Option Df
  | [], _ => none
  | (y, f) :: r, x => if y = x then some f else tabOf r x
theorem tab_mem : ∀ {l : List (Str × Df)} {x : Str} {f : Df}, tabOf l x = some f → (x, f) ∈ l
  | [], _, _, h => by cases h
  | (y, g) :: r, x, f, h => by
    unfold tabOf at h
    split at h
    · rename_i e; subst e; cases h; exact List.mem_cons_self
    · exact List.mem_cons_of_mem _ (tab_mem h)
noncomputable def lkS {β γ : Type} [DecidableEq β] : List (Str × β × γ) → Str → β → Option γ
  | [], _, _ => none
  | (a, b, c) :: r, x, y => if a = x ∧ b = y then some c else lkS r x y
theorem lk_mem {β γ : Type} [DecidableEq β] : ∀ {l : List (Str × β × γ)} {x : Str} {y : β} {c : γ}, lkS l x y = some c → (x, y, c) ∈ l
  | [], _, _, _, h => by cases h
  | (a, b, d) :: r, x, y, c, h => by
    unfold lkS at h
    split at h
    · rename_i e; obtain ⟨e1, e2⟩ := e; subst e1 e2; cases h; exact List.mem_cons_self
    · exact List.mem_cons_of_mem _ (lk_mem h)
noncomputable def conOf : List (Str × D) → Str → Option D
  | [], _ => none
  | (y, d) :: r, x => if y = x then some d else conOf r x
theorem con_mem : ∀ {l : List (Str × D)} {x : Str} {f : D}, conOf l x = some f → (x, f) ∈ l
  | [], _, _, h => by cases h
  | (y, g) :: r, x, f, h => by
    unfold conOf at h
    split at h
    · rename_i e; subst e; cases h; exact List.mem_cons_self
    · exact List.mem_cons_of_mem _ (con_mem h)
noncomputable def lkM : List (Str × Str × Str × Nat) → Str → Str → Option (Str × Nat)
  | [], _, _ => none
  | p :: r, C, m => if p.1 = C ∧ p.2.1 = m then some p.2.2 else lkM r C m
theorem lkM_mem : ∀ {l : List (Str × Str × Str × Nat)} {C m x : Str} {k : Nat}, lkM l C m = some (x, k) → (C, m, x, k) ∈ l
  | [], _, _, _, _, h => by cases h
  | p :: r, C, m, x, k, h => by
    unfold lkM at h
    split at h
    · rename_i e
      obtain ⟨a, b, c, d⟩ := p
      obtain ⟨e1, e2⟩ := e
      cases h
      dsimp only at e1 e2
      subst e1 e2
      exact List.mem_cons_self
    · exact List.mem_cons_of_mem _ (lkM_mem h)
noncomputable def lkI : List (Str × Option (Str × Nat)) → Str → Option (Option (Str × Nat))
  | [], _ => none
  | p :: r, C => if p.1 = C then some p.2 else lkI r C
theorem lkI_mem : ∀ {l : List (Str × Option (Str × Nat))} {C : Str} {o : Option (Str × Nat)}, lkI l C = some o → (C, o) ∈ l
  | [], _, _, h => by cases h
  | p :: r, C, o, h => by
    unfold lkI at h
    split at h
    · rename_i e
      obtain ⟨a, b⟩ := p
      cases h
      dsimp only at e
      subst e
      exact List.mem_cons_self
    · exact List.mem_cons_of_mem _ (lkI_mem h)
theorem fc {α : Type} {p : α → Prop} {a : α} {l : List α} (h : p a) (t : ∀ x ∈ l, p x) : ∀ x ∈ a :: l, p x := List.forall_mem_cons.mpr ⟨h, t⟩
theorem f0 {α : Type} {p : α → Prop} : ∀ x ∈ ([] : List α), p x := List.forall_mem_nil _
theorem fsc {N ps : List Str} {sc : Scope} (a : sc.kind = .function := by rfl) (b : sc.isCoroutine = false := by rfl) (c : sc.isGenerator = false := by rfl) (d : N.Nodup := by decide +kernel) (e : N.take ps.length = ps := by rfl)
    (f : ∀ x ∈ ps, sc.names.lookup x = some .local ∨ sc.names.lookup x = some .cell := by decide +kernel) (g : ∀ y ∈ sc.names, y.2 ≠ .free := by decide +kernel) : FnScope N ps sc := ⟨a, b, c, d, e, f, g⟩
structure Gl' where
  con : List (Str × D)
  own : List Str
  cls : List Str
  exc : List Str
  subG : List (Str × Str × Bool)
  subT : List (Str × String × Bool)
  exm : List (Str × Str × Bool)
  ins : List Str := []
  fld : List (Str × Str) := []
  mth : List (Str × Str × Str × Nat) := []
  ini : List (Str × Option (Str × Nat)) := []
  dfl : List (Str × List D) := []
noncomputable def dflOf : List (Str × List D) → Str → List D
  | [], _ => []
  | p :: r, x => if p.1 = x then p.2 else dflOf r x
noncomputable def Gl'.glo (g : Gl') : Glo where
  con := conOf g.con
  own := g.own.contains
  cls := g.cls.contains
  exc := g.exc.contains
  sub := fun t c => match t, c with
    | .o x, .gl y => lkS g.subG x y
    | .o x, .ty y => lkS g.subT x y
    | _, _ => none
  exm := lkS g.exm
  ins := g.ins.contains
  fld := fun C f => g.fld.contains (C, f)
  mth := lkM g.mth
  ini := lkI g.ini
  dfl := dflOf g.dfl
theorem glo_ok {M : Mo} {g : Gl'} (con : ∀ p ∈ g.con, ∃ u v, M.mg p.1 = some u ∧ RelV v u ∧ ∀ ι H, RD M ι H v p.2) (own : ∀ x ∈ g.own, M.mg x = none) (cls : ∀ x ∈ g.cls, ∃ a, M.mg x = some (.ref a))
    (exc : ∀ x ∈ g.exc, ∃ C, M.mg x = some (.ref C) ∧ ExcC M.K C ∧ ExcI M.K C) (subG : ∀ p ∈ g.subG, ∀ tv cv, M.mg p.1 = some tv → M.mg p.2.1 = some cv → PySem.W.kitOne M.K tv cv = some p.2.2)
    (subT : ∀ p ∈ g.subT, ∀ tv, M.mg p.1 = some tv → PySem.W.kitOne M.K tv (.type p.2.1) = some p.2.2) (exm : ∀ p ∈ g.exm, ∀ a c, M.mg p.1 = some (.ref a) → M.mg p.2.1 = some c → PySem.W.exmOne M.K (.ref a) c = some p.2.2)
    (ins : ∀ C ∈ g.ins, ∃ a, M.mg C = some (.ref a) ∧ Cls M.K a ∧ ClsI M.K a) (fld : ∀ p ∈ g.fld, ∀ a, M.mg p.1 = some (.ref a) → NoAttr M.K a p.2) (ini0 : ∀ p ∈ g.ini, p.2 = none → ∃ a, M.mg p.1 = some (.ref a) ∧ Mk0 M.K a) : GOk M g.glo where
  con := fun x d h => con (x, d) (con_mem h)
  own := fun x h => own x (List.contains_iff_mem.mp h)
  cls := fun x h => cls x (List.contains_iff_mem.mp h)
  exc := fun x h => exc x (List.contains_iff_mem.mp h)
  sub := fun t c b h tv cv h1 h2 => by
    unfold Gl'.glo at h
    dsimp only at h
    split at h
    · exact subG _ (lk_mem h) tv cv h1 h2
    · cases h2
      exact subT _ (lk_mem h) tv h1
    · cases h
  exm := fun x y b h a c h1 h2 => exm (x, y, b) (lk_mem h) a c h1 h2
  ins := fun C h => ins C (List.contains_iff_mem.mp h)
  fld := fun C f h => fld (C, f) (List.contains_iff_mem.mp h)
  ini0 := fun C h => ini0 (C, none) (lkI_mem h) rfl
theorem rd_konst {M : Mo} {a : Addr} {o : Obj} {its : Array Value} {n : Nat} {vs : List V} {ds : List D} (h1 : M.K.lookup a = some o) (h2 : o.cls = .type "tuple") (h3 : o.data = .seq its n) (h4 : its.size ≤ sizeLine) (h5 : Vals vs its.toList) (h6 : ∀ ι H, RDs M ι H vs ds) (ι : List Addr) (H : Hp) :
    RD M ι H (.ref a) (.tup ds) := .tup (.inr ⟨o, its, n, h1, h2, h3, h4, h5⟩) (h6 ι H)
theorem def_mk {K : PySem.W.Frag} {h : Heap} {mg : Str → Option Value} {x : Str} {st : Stmt} {ps : List Str} {f : Addr} {oc : Value} {od an : Option Addr} {osl : Array (Option Value)} {kV doc pm cdv ct : Value} (X : K.In h) (G : h.Ns mainGlobals mg)
    (a : PySem.W.nsIn K mainGlobals x = some (some (.ref f))) (l : K.lookup f = some ⟨oc, od, .func (PySem.W.fnOf x x (defArgs st) (defBody st) (defScope st) .none kV doc pm an cdv ct), osl⟩)
    (c : PySem.W.codeIn K cdv x = true) (k : PySem.W.keepIn K (.ref f) = true)
    (b : ∀ (kV doc pm : Value) (an : Option Addr) (cdv ct : Value) (us : List Value), us.length = ps.length → bindArgs (PySem.W.fnOf x x (defArgs st) (defBody st) (defScope st) .none kV doc pm an cdv ct) ⟨us, []⟩ = pure (ps.zip us)) : DefAt K mg x st ps :=
  ⟨f, _, PySem.W.mg_of X G a, fun_mk l c k, (fun_mk l c k).binds b⟩
noncomputable def dots (g : Gl') : Bool := g.mth.all (fun p => !noDot p.2.2.1) && g.ini.all (fun p => match p.2 with | some q => !noDot q.1 | none => true)
theorem top_at {M : Mo} {g : Gl'} {x : Str} {st : Stmt} {ps : List Str} (D : DefAt M.K M.mg x st ps) (hd : dots g = true := by kernel_rfl) (n : noDot x = true := by kernel_rfl) (dn : g.glo.dfl x = [] := by kernel_rfl) : ∃ a fd nm, AtG M g.glo x a ∧ FunG M.K nm x st a fd ∧ BindsA M fd ps (g.glo.dfl x) := by
  unfold dots at hd
  rw [Bool.and_eq_true, List.all_eq_true, List.all_eq_true] at hd
  obtain ⟨f, fd, h1, h2, h3⟩ := D
  refine ⟨f, fd, x, ⟨fun _ => h1, fun C m k h => ?_, fun C k h => ?_⟩, h2.g, .nil h3 dn⟩
  · have z := hd.1 _ (lkM_mem h)
    dsimp only at z
    rw [n] at z
    cases z
  · have z := hd.2 _ (lkI_mem h)
    dsimp only at z
    rw [n] at z
    cases z
theorem meth_at {M : Mo} {g : Gl'} {x nm : Str} {st : Stmt} {ps : List Str} {f : Addr} {fd : FuncData} (n : noDot x = false) (dn : g.glo.dfl x = []) (F : Fun M.K nm x st f fd) (B : Binds M.K fd ps []) (hm : ∀ p ∈ g.mth, p.2.2.1 = x → ∃ Ca, M.mg p.1 = some (.ref Ca) ∧ Meth M.K Ca p.2.1 f)
    (hi : ∀ p ∈ g.ini, (∃ k, p.2 = some (x, k)) → ∃ Ca, M.mg p.1 = some (.ref Ca) ∧ Mk M.K Ca f) : ∃ a fd nm, AtG M g.glo x a ∧ FunG M.K nm x st a fd ∧ BindsA M fd ps (g.glo.dfl x) :=
  ⟨f, fd, nm, ⟨fun h => (by rw [n] at h; cases h), fun C m k h => hm _ (lkM_mem h) rfl, fun C k h => hi _ (lkI_mem h) ⟨k, rfl⟩⟩, F.g, .nil B dn⟩
theorem meth_at2 {M : Mo} {g : Gl'} {x nm : Str} {st : Stmt} {ps : List Str} {f : Addr} {fd : FuncData} {L : List (Str × Str × Str × Nat)} {L' : List (Str × Option (Str × Nat))} (n : noDot x = false) (dn : g.glo.dfl x = []) (F : Fun M.K nm x st f fd) (B : Binds M.K fd ps []) (e : g.mth.filter (fun p => decide (p.2.2.1 = x)) = L) (hm : ∀ p ∈ L, ∃ Ca, M.mg p.1 = some (.ref Ca) ∧ Meth M.K Ca p.2.1 f)
    (e' : g.ini.filter (fun p => match p.2 with | some q => decide (q.1 = x) | none => false) = L') (hi : ∀ p ∈ L', ∃ Ca, M.mg p.1 = some (.ref Ca) ∧ Mk M.K Ca f) : ∃ a fd nm, AtG M g.glo x a ∧ FunG M.K nm x st a fd ∧ BindsA M fd ps (g.glo.dfl x) :=
  meth_at n dn F B (fun p hp h => hm p (by rw [← e]; exact List.mem_filter.mpr ⟨hp, decide_eq_true h⟩)) (fun p hp h => hi p (by
    obtain ⟨k, h⟩ := h
    rw [← e']
    exact List.mem_filter.mpr ⟨hp, by rw [h]; exact decide_eq_true rfl⟩))
theorem meth_fun {K : PySem.W.Frag} {x qual : Str} {st : Stmt} {ps : List Str} {f : Addr} {oc : Value} {od an : Option Addr} {osl : Array (Option Value)} {kV doc pm cdv ct : Value}
    (l : K.lookup f = some ⟨oc, od, .func (PySem.W.fnOf x qual (defArgs st) (defBody st) (defScope st) .none kV doc pm an cdv ct), osl⟩) (c : PySem.W.codeIn K cdv qual = true) (k : PySem.W.keepIn K (.ref f) = true)
    (b : ∀ (kV doc pm : Value) (an : Option Addr) (cdv ct : Value) (us : List Value), us.length = ps.length → bindArgs (PySem.W.fnOf x qual (defArgs st) (defBody st) (defScope st) .none kV doc pm an cdv ct) ⟨us, []⟩ = pure (ps.zip us)) : ∃ fd, Fun K x qual st f fd ∧ Binds K fd ps [] :=
  ⟨_, fun_mk l c k, (fun_mk l c k).binds b⟩
noncomputable def gtOk (g : Gl') (T : Str → Option Df) : Bool := g.mth.all (fun p => decide (arOf T p.2.2.1 = some p.2.2.2)) && g.ini.all (fun p => match p.2 with | some q => decide (arOf T q.1 = some q.2) | none => true)
theorem gt_ok {g : Gl'} {T : Str → Option Df} (h : gtOk g T = true) : GT g.glo T := by
  unfold gtOk at h
  rw [Bool.and_eq_true, List.all_eq_true, List.all_eq_true] at h
  exact ⟨fun D m x k e => of_decide_eq_true (h.1 _ (lkM_mem e)), fun D x k e => of_decide_eq_true (h.2 _ (lkI_mem e))⟩
theorem con_ref {K : PySem.W.Frag} {h : Heap} {mg : Str → Option Value} {x : Str} {a : Addr} {d : D} (X : K.In h) (G : h.Ns mainGlobals mg) (m : PySem.W.nsIn K mainGlobals x = some (some (.ref a))) (r : ∀ ι H, RD ⟨K, mg⟩ ι H (.ref a) d) :
    ∃ u v, mg x = some u ∧ RelV v u ∧ ∀ ι H, RD ⟨K, mg⟩ ι H v d := ⟨.ref a, .ref a, PySem.W.mg_of X G m, rfl, r⟩
theorem rd_kt {K : PySem.W.Frag} {mg : Str → Option Value} {a : Addr} {dd : Option Addr} {its : Array Value} {n : Nat} {sl : Array (Option Value)} {vs : List V} {ds : List D} (l : K.lookup a = some ⟨.type "tuple", dd, .seq its n, sl⟩) (z : its.size ≤ sizeLine) (v : Vals vs its.toList)
    (r : ∀ ι H, RDs ⟨K, mg⟩ ι H vs ds) (ι : List Addr) (H : Hp) : RD ⟨K, mg⟩ ι H (.ref a) (.tup ds) := rd_konst (M := ⟨K, mg⟩) l rfl rfl z v r ι H
theorem relInt {i : Int} {t : Tok} : RelV (.int i) (.int i t) := ⟨t, rfl⟩
theorem relRef {a : Addr} : RelV (.ref a) (.ref a) := rfl
noncomputable abbrev adr {mg : Str → Option Value} {x : Str} {a : Addr} (_ : mg x = some (.ref a)) : Addr := a
noncomputable abbrev adf {K : PySem.W.Frag} {C : Value} {x : Str} {a : Addr} (_ : PySem.W.findIn K C x = some (some (.ref a))) : Addr := a
theorem callD_eq {G : Glo} {T : Str → Option Df} {x : Str} {f : Df} (h : T x = some f) (n : Nat) (ds : List D) (S : Sto) :
    callD G T (n + 1) x ds S = if ds.length = f.ps.length then gc S (endR (exSs G (callD G T n) f.code (startD f.N ds) S)) else .fail := by
  show (match T x with | some f => if ds.length = f.ps.length then gc S (endR (exSs G (callD G T n) f.code (startD f.N ds) S)) else .fail | none => .fail) = _
  rw [h]
theorem gc_same {S : Sto} {d : D} : gc S (.ok d S) = .ok d S := by
  unfold gc
  split <;> simp_all
theorem gc_more {S J : Sto} {d : D} (h : noRef d = true) : gc S (.ok d (S ++ J)) = .ok d S := by
  unfold gc
  simp [h]
theorem call_ret {G : Glo} {T : Str → Option Df} {x : Str} {f : Df} {n : Nat} {ds : List D} {S J : Sto} {d : D} (h : T x = some f) (hl : ds.length = f.ps.length) (hd : noRef d = true) (hr : exSs G (callD G T n) f.code (startD f.N ds) S = .ret d (S ++ J)) :
    callD G T (n + 1) x ds S = .ok d S := by
  rw [callD_eq h, if_pos hl, hr]
  exact gc_more hd
theorem call_ret0 {G : Glo} {T : Str → Option Df} {x : Str} {f : Df} {n : Nat} {ds : List D} {S : Sto} {d : D} (h : T x = some f) (hl : ds.length = f.ps.length) (hr : exSs G (callD G T n) f.code (startD f.N ds) S = .ret d S) :
    callD G T (n + 1) x ds S = .ok d S := by
  rw [callD_eq h, if_pos hl, hr]
  exact gc_same
section
variable {G : Glo} {S : Sto}
theorem i_int_int (i : Int) : instD G [.int i, .ty "int"] S = .ok (.bl true) S := rfl
theorem i_int_bool (i : Int) : instD G [.int i, .ty "bool"] S = .ok (.bl false) S := rfl
theorem i_int_str (i : Int) : instD G [.int i, .ty "str"] S = .ok (.bl false) S := rfl
theorem i_int_tup (i : Int) : instD G [.int i, .ty "tuple"] S = .ok (.bl false) S := rfl
theorem i_bl_int (i : Bool) : instD G [.bl i, .ty "int"] S = .ok (.bl true) S := rfl
theorem i_bl_bool (i : Bool) : instD G [.bl i, .ty "bool"] S = .ok (.bl true) S := rfl
theorem i_bl_str (i : Bool) : instD G [.bl i, .ty "str"] S = .ok (.bl false) S := rfl
theorem i_str_int (i : Str) : instD G [.str i, .ty "int"] S = .ok (.bl false) S := rfl
theorem i_str_bool (i : Str) : instD G [.str i, .ty "bool"] S = .ok (.bl false) S := rfl
theorem i_str_str (i : Str) : instD G [.str i, .ty "str"] S = .ok (.bl true) S := rfl
theorem i_non_int : instD G [.non, .ty "int"] S = .ok (.bl false) S := rfl
theorem i_non_bool : instD G [.non, .ty "bool"] S = .ok (.bl false) S := rfl
theorem i_non_str : instD G [.non, .ty "str"] S = .ok (.bl false) S := rfl
theorem i_non_tup : instD G [.non, .ty "tuple"] S = .ok (.bl false) S := rfl
theorem i_tup_tup (ds : List D) : instD G [.tup ds, .ty "tuple"] S = .ok (.bl true) S := rfl
theorem i_tup_int (ds : List D) : instD G [.tup ds, .ty "int"] S = .ok (.bl false) S := rfl
theorem i_tup_bool (ds : List D) : instD G [.tup ds, .ty "bool"] S = .ok (.bl false) S := rfl
theorem i_tup_str (ds : List D) : instD G [.tup ds, .ty "str"] S = .ok (.bl false) S := rfl
end
theorem mulOk_sm {m n : Nat} {i j : Int} (h : Sm m i) (k : Sm n j) (e : m + n ≤ 134217728) : MulOk i j := .inr ⟨m, n, h, k, e⟩
theorem mul_ok {S : Sto} {i j : Int} (h : MulOk i j) : mulD (.int i) (.int j) S = .ok (.int (i * j)) S := by
  unfold mulD
  exact if_pos h
theorem mul_sm {S : Sto} {m n : Nat} {i j : Int} (h : Sm m i) (k : Sm n j) (e : m + n ≤ 134217728) : mulD (.int i) (.int j) S = .ok (.int (i * j)) S := mul_ok (mulOk_sm h k e)
theorem mul_l {S : Sto} {i j : Int} (h1 : -(2 ^ 64) < i) (h2 : i < 2 ^ 64) : mulD (.int i) (.int j) S = .ok (.int (i * j)) S := mul_ok (.inl (.inl ⟨h1, h2⟩))
theorem mul_r {S : Sto} {i j : Int} (h1 : -(2 ^ 64) < j) (h2 : j < 2 ^ 64) : mulD (.int i) (.int j) S = .ok (.int (i * j)) S := mul_ok (.inl (.inr ⟨h1, h2⟩))
theorem sm_of_lt {n : Nat} {i : Int} (h1 : -(2 ^ n) < i) (h2 : i < 2 ^ n) : Sm n i := by
  unfold Sm
  have e : ((2 ^ n : Nat) : Int) = 2 ^ n := by simp
  omega
theorem fdiv_ok {S : Sto} {i j : Int} (h0 : j ≠ 0) {n : Nat} (h : Sm n j) (e : n ≤ 9000) : fdivD (.int i) (.int j) S = .ok (.int (i.fdiv j)) S := by
  unfold fdivD cInt
  exact if_pos ⟨h0, n, h, e⟩
theorem fdiv_pos {S : Sto} {i j : Int} (h0 : 0 < j) (h1 : j < 2 ^ 8000) : fdivD (.int i) (.int j) S = .ok (.int (i / j)) S := by
  rw [fdiv_ok (n := 8000) (by omega) (sm_of_lt (by have : (0 : Int) < 2 ^ 8000 := by decide +kernel
                                                   omega) h1) (by decide), Int.fdiv_eq_ediv_of_nonneg i (by omega)]
theorem mod_ok {S : Sto} {i j : Int} (h0 : j ≠ 0) : modD (.int i) (.int j) S = .ok (.int (i.fmod j)) S := by
  unfold modD cInt
  exact if_pos h0
theorem mod_pos {S : Sto} {i j : Int} (h0 : 0 < j) : modD (.int i) (.int j) S = .ok (.int (i % j)) S := by
  rw [mod_ok (by omega), Int.fmod_eq_emod_of_nonneg i (by omega)]
theorem pow_ok {S : Sto} {i j : Int} (h : CPow i j) : powD (.int i) (.int j) S = .ok (.int (i ^ j.toNat)) S := by
  unfold powD cInt
  exact if_pos h
theorem pow10 {S : Sto} {j : Int} (h : 0 ≤ j) (h2 : j ≤ 1000) : powD (.int 10) (.int j) S = .ok (.int (10 ^ j.toNat)) S := pow_ok ⟨h, by omega, by decide⟩
theorem eq_int {S : Sto} {f : Bool → Bool} {i j : Int} : eqR f (.int i) (.int j) S = .ok (.bl (f (i == j))) S := by
  unfold eqR eqD toPy
  simp [SeqAt.shaped, PyData.canLay0, PyData.depth, PyData.eqv]
section
variable {α β : Type} {a : α} {S : Sto} {C : Str} {δ : Dv} {d : D}
theorem bind_ok {f : α → Sto → R β} : (R.ok a S).bind f = f a S := rfl
theorem bind_exc {f : α → Sto → R β} : (R.exc C S : R α).bind f = .exc C S := rfl
theorem toS_ok {f : α → Sto → RS} : (R.ok a S).toS δ f = f a S := rfl
theorem toS_exc {f : α → Sto → RS} : (R.exc C S : R α).toS δ f = .exc C δ S := rfl
theorem seq_next {f : Dv → Sto → RS} : (RS.next δ S).bind f = f δ S := rfl
theorem seq_ret {f : Dv → Sto → RS} : (RS.ret d S).bind f = .ret d S := rfl
theorem seq_brk {f : Dv → Sto → RS} : (RS.brk δ S).bind f = .brk δ S := rfl
theorem seq_cnt {f : Dv → Sto → RS} : (RS.cnt δ S).bind f = .cnt δ S := rfl
theorem seq_exc {f : Dv → Sto → RS} : (RS.exc C δ S).bind f = .exc C δ S := rfl
theorem isBl_bl {f : D → Sto → Bool → R β} {b : Bool} : isBl f (.bl b) S = f (.bl b) S b := rfl
theorem noxR_ok : noxR (R.ok a S) = .ok a S := rfl
theorem noxS_next : noxS (.next δ S) = .next δ S := rfl
theorem noxS_ret : noxS (.ret d S) = .ret d S := rfl
theorem noxS_brk : noxS (.brk δ S) = .brk δ S := rfl
theorem noxS_cnt : noxS (.cnt δ S) = .cnt δ S := rfl
theorem add_int' {i j : Int} : addD (.int i) (.int j) S = .ok (.int (i + j)) S := rfl
theorem sub_int' {i j : Int} : subD (.int i) (.int j) S = .ok (.int (i - j)) S := rfl
theorem lt_int' {i j : Int} : ltD (.int i) (.int j) S = .ok (.bl (decide (i < j))) S := rfl
theorem le_int' {i j : Int} : leD (.int i) (.int j) S = .ok (.bl (decide (i ≤ j))) S := rfl
theorem gt_int' {i j : Int} : gtD (.int i) (.int j) S = .ok (.bl (decide (j < i))) S := rfl
theorem ge_int' {i j : Int} : geD (.int i) (.int j) S = .ok (.bl (decide (j ≤ i))) S := rfl
theorem neg_int' {i : Int} : negD (.int i) S = .ok (.int (-i)) S := rfl
theorem abs_int' {i : Int} : absD [.int i] S = .ok (.int (if i < 0 then -i else i)) S := rfl
theorem min_int' {i j : Int} : minD [.int i, .int j] S = .ok (.int (if j < i then j else i)) S := rfl
theorem max_int' {i j : Int} : maxD [.int i, .int j] S = .ok (.int (if j > i then j else i)) S := rfl
theorem len_tup {ds : List D} : lenD [.tup ds] S = .ok (.int ds.length) S := rfl
theorem len_rol {ds : List D} : lenD [.rol ds] S = .ok (.int ds.length) S := rfl
theorem len_ref {n : Nat} {ds : List D} (e : S[n]? = some (.lst ds)) : lenD [.ref n] S = .ok (.int ds.length) S := by
  simp [lenD, seqD, e]
theorem mkTup_ok {ds : List D} (h : ds.length ≤ 100000) : mkTup ds S = .ok (.tup ds) S := if_pos h
theorem mkLst_ok {ds : List D} (h : ds.length ≤ 100000) : mkLst ds S = .ok (.ref S.length) (S ++ [.lst ds]) := if_pos h
end
theorem while_down {t : Fb} {b : Fs} {P : Dv → Sto → Prop} {μ : Dv → Nat} {Q : RS → Prop}
    (h : ∀ δ S, P δ S → (∃ S1, t δ S = .ok false S1 ∧ Q (.next δ S1)) ∨ (∃ S1, t δ S = .ok true S1 ∧ ∃ δ2 S2, b δ S1 = .next δ2 S2 ∧ P δ2 S2 ∧ μ δ2 < μ δ)) : ∀ (m : Nat) (δ : Dv) (S : Sto), P δ S → μ δ < m → Q (whileD t b m δ S)
  | 0, _, _, _, l => by omega
  | m + 1, δ, S, p, l => by
    unfold whileD
    rcases h δ S p with ⟨S1, e, q⟩ | ⟨S1, e, δ2, S2, e2, p2, l2⟩
    · rw [e]
      exact q
    · rw [e]
      show Q (if true = true then (match noxS (b δ S1) with | .next δ2 S2 => whileD t b m δ2 S2 | .cnt δ2 S2 => whileD t b m δ2 S2 | .brk δ2 S2 => .next δ2 S2 | r => r) else .next δ S1)
      rw [if_pos rfl, e2]
      exact while_down h m δ2 S2 p2 (by omega)
noncomputable def forL (g : Fg) (b : Fs) : List D → Fs
  | [] => fun δ S => .next δ S
  | d :: ds => fun δ S => match g d δ S with
    | none => .fail
    | some δ1 => match noxS (b δ1 S) with
      | .next δ2 S2 => forL g b ds δ2 S2
      | .cnt δ2 S2 => forL g b ds δ2 S2
      | .brk δ2 S2 => .next δ2 S2
      | r => r
theorem forD_drop {ds : List D} {g : Fg} {b : Fs} : ∀ (m i : Nat) (δ : Dv) (S : Sto), i ≤ ds.length → ds.length - i < m → forD (.its ds) g b m i δ S = forL g b (ds.drop i) δ S
  | 0, _, _, _, _, l => by omega
  | m + 1, i, δ, S, hi, l => by
    unfold forD
    dsimp only [cur]
    cases e : ds[i]? with
    | none =>
      have : ds.length ≤ i := List.getElem?_eq_none_iff.mp e
      rw [List.drop_eq_nil_of_le this]
      rfl
    | some d =>
      obtain ⟨hlt, e'⟩ := List.getElem?_eq_some_iff.mp e
      rw [List.drop_eq_getElem_cons hlt, e']
      unfold forL
      dsimp only
      cases g d δ S with
      | none => rfl
      | some δ1 =>
        dsimp only
        cases noxS (b δ1 S) with
        | next δ2 S2 => exact forD_drop m (i + 1) δ2 S2 (by omega) (by omega)
        | cnt δ2 S2 => exact forD_drop m (i + 1) δ2 S2 (by omega) (by omega)
        | _ => rfl
theorem forD_all {ds : List D} {g : Fg} {b : Fs} {m : Nat} {δ : Dv} {S : Sto} (h : ds.length < m) : forD (.its ds) g b m 0 δ S = forL g b ds δ S := forD_drop m 0 δ S (Nat.zero_le _) (by omega)
theorem big_lim {n : Nat} (h : n ≤ 100000) : n < bigB := Nat.lt_of_le_of_lt h (by decide +kernel)
theorem eq_pair {S : Sto} {f : Bool → Bool} {a b c d : Int} : eqR f (.tup [.int a, .int b]) (.tup [.int c, .int d]) S = .ok (.bl (f (a == c && b == d))) S := by
  unfold eqR eqD toPy
  simp [allO, toPy, SeqAt.shaped, PyData.canLay0, PyData.canLayAll0, PyData.depth, PyData.depthAll, PyData.eqv, PyData.eqvAll]
noncomputable def atR (ds : List D) (i : Int) (S : Sto) : R D := match atI ds i with
  | some x => .ok x S
  | none => .fail
section
variable {S : Sto} {ds : List D} {i : Int} {a b c d e f g h x : D}
theorem idx_tup' : idxF (.tup ds) (.int i) S = atR ds i S := rfl
theorem idx_rol' : idxF (.rol ds) (.int i) S = atR ds i S := rfl
theorem idx_ref' {n : Nat} (q : S[n]? = some (.lst ds)) : idxF (.ref n) (.int i) S = atR ds i S := by
  unfold idxF idxB idxD atR
  simp [seqD, ditD, q]
  try rfl
theorem idx_last' : idxF (.ref S.length) (.int i) (S ++ [.lst ds]) = atR ds i (S ++ [.lst ds]) := idx_ref' (getElem?_snoc S _)
theorem atR_nat {j : Nat} (q : ds[j]? = some x) : atR ds (j : Int) S = .ok x S := by
  unfold atR
  rw [atI_nat q]
theorem atR_0 : atR (a :: ds) 0 S = .ok a S := atR_nat (j := 0) rfl
theorem atR_1 : atR (a :: b :: ds) 1 S = .ok b S := atR_nat (j := 1) rfl
theorem atR_2 : atR (a :: b :: c :: ds) 2 S = .ok c S := atR_nat (j := 2) rfl
theorem atR_3 : atR (a :: b :: c :: d :: ds) 3 S = .ok d S := atR_nat (j := 3) rfl
theorem atR_4 : atR (a :: b :: c :: d :: e :: ds) 4 S = .ok e S := atR_nat (j := 4) rfl
theorem atR_5 : atR (a :: b :: c :: d :: e :: f :: ds) 5 S = .ok f S := atR_nat (j := 5) rfl
theorem atR_6 : atR (a :: b :: c :: d :: e :: f :: g :: ds) 6 S = .ok g S := atR_nat (j := 6) rfl
theorem atR_7 : atR (a :: b :: c :: d :: e :: f :: g :: h :: ds) 7 S = .ok h S := atR_nat (j := 7) rfl
theorem noRef_int {i : Int} : noRef (.int i) = true := rfl
theorem noRef_bl {i : Bool} : noRef (.bl i) = true := rfl
theorem noRef_str {i : Str} : noRef (.str i) = true := rfl
theorem noRef_non : noRef .non = true := rfl
theorem noRef_tup : noRef (.tup ds) = noRefs ds := by rw [noRef]
theorem noRefs_nil : noRefs [] = true := rfl
theorem noRefs_cons : noRefs (x :: ds) = (noRef x && noRefs ds) := by rw [noRefs]
end
theorem forD_big {ds : List D} {g : Fg} {b : Fs} {δ : Dv} {S : Sto} (h : ds.length ≤ 100000) : forD (.its ds) g b bigB 0 δ S = forL g b ds δ S := forD_all (big_lim h)
section
variable {S J : Sto}
theorem gc_int {i : Int} : gc S (.ok (.int i) (S ++ J)) = .ok (.int i) S := gc_more rfl
theorem gc_bl {i : Bool} : gc S (.ok (.bl i) (S ++ J)) = .ok (.bl i) S := gc_more rfl
theorem gc_str {i : Str} : gc S (.ok (.str i) (S ++ J)) = .ok (.str i) S := gc_more rfl
theorem gc_non : gc S (.ok .non (S ++ J)) = .ok .non S := gc_more rfl
theorem gc_pair {i j : Int} : gc S (.ok (.tup [.int i, .int j]) (S ++ J)) = .ok (.tup [.int i, .int j]) S := gc_more rfl
end
section
variable {G : Glo} {S : Sto} {C x : Str} {t : String} {n : Nat} {b : Bool} {cs : List D}
end
theorem exSs_app {G : Glo} {Φ : Phi} : ∀ {a b : List Sx} {δ : Dv} {S : Sto}, exSs G Φ (a ++ b) δ S = (exSs G Φ a δ S).bind (exSs G Φ b)
  | [], b, δ, S => by rw [List.nil_append, exSs, sNext]; rfl
  | s :: a, b, δ, S => by
    rw [List.cons_append, exSs, exSs, sSeq, sSeq]
    cases exS G Φ s δ S with
    | next δ1 S1 => exact exSs_app
    | _ => rfl
section
variable {t : Itb} {g : Fg} {c : Option Fb} {f : Fd} {ds : List D} {δ : Dv}
theorem comp_run' (I : Nat → Sto → List D → Prop) (hl : ds.length ≤ lim)
    (cu : ∀ i S ys, I i S ys → cur t S = some ds)
    (step : ∀ i S ys d, I i S ys → ds[i]? = some d → ∃ δ1, g d δ S = some δ1 ∧ ∃ k S1, optT c δ1 S = .ok k S1 ∧ ((k = true ∧ ∃ y S2, f δ1 S1 = .ok y S2 ∧ I (i + 1) S2 (ys ++ [y])) ∨ (k = false ∧ I (i + 1) S1 ys))) :
    ∀ (m i : Nat) (S : Sto) (ys : List D), i ≤ ds.length → ds.length - i < m → I i S ys → ∃ zs S', compD t g c f m i δ S = .ok zs S' ∧ I ds.length S' (ys ++ zs)
  | 0, _, _, _, _, l, _ => by omega
  | m + 1, i, S, ys, hi, l, h => by
    unfold compD
    rw [cu i S ys h]
    dsimp only
    cases e : ds[i]? with
    | none =>
      have : ds.length ≤ i := List.getElem?_eq_none_iff.mp e
      refine ⟨[], S, rfl, ?_⟩
      rw [List.append_nil, show ds.length = i by omega]
      exact h
    | some d =>
      obtain ⟨hlt, _⟩ := List.getElem?_eq_some_iff.mp e
      obtain ⟨δ1, e1, k, S1, e2, h3⟩ := step i S ys d h e
      dsimp only
      rw [if_pos (Nat.lt_of_lt_of_le hlt hl), e1]
      dsimp only
      rw [e2]
      rcases h3 with ⟨rfl, y, S2, e3, h4⟩ | ⟨rfl, h4⟩
      · obtain ⟨zs, S', e5, h5⟩ := comp_run' I hl cu step m (i + 1) S2 (ys ++ [y]) hlt (by omega) h4
        refine ⟨y :: zs, S', ?_, by simpa using h5⟩
        rw [bind_ok, if_pos rfl, e3, bind_ok, e5, bind_ok]
      · obtain ⟨zs, S', e5, h5⟩ := comp_run' I hl cu step m (i + 1) S1 ys hlt (by omega) h4
        refine ⟨zs, S', ?_, h5⟩
        rw [bind_ok, if_neg (by decide), e5]
theorem comp_flat {fi : Fi} {S S0 : Sto} {n i : Nat} (p : D → Bool) (h : D → D) (e : fi δ S = .ok t S0) (hc : cur t S0 = some ds) (hl : ds.length ≤ lim)
    (step : ∀ d ∈ ds, ∃ δ1, g d (maskL [i] (δ ++ List.replicate n none)) S0 = some δ1 ∧ optT c δ1 S0 = .ok (p d) S0 ∧ (p d = true → f δ1 S0 = .ok (h d) S0)) :
    fComp fi [i] n g c f bigB δ S = .ok (.ref S0.length) (S0 ++ [.lst ((ds.filter p).map h)]) := by
  obtain ⟨zs, S', e1, e2, e3⟩ := comp_run' (t := t) (g := g) (c := c) (f := f) (ds := ds) (δ := maskL [i] (δ ++ List.replicate n none)) (fun i S ys => S = S0 ∧ ys = ((ds.take i).filter p).map h) hl (fun i S ys q => by rw [q.1]; exact hc)
    (fun i S ys d q hd => by
      obtain ⟨rfl, rfl⟩ := q
      have hm := List.mem_of_getElem? hd
      obtain ⟨δ1, s1, s2, s3⟩ := step d hm
      refine ⟨δ1, s1, p d, S, s2, ?_⟩
      have ht : ds.take (i + 1) = ds.take i ++ [d] := by
        rw [List.take_add_one, hd]
        rfl
      cases hp : p d with
      | true => exact .inl ⟨rfl, h d, S, s3 hp, rfl, by rw [ht]; simp [List.filter_append, hp]⟩
      | false => exact .inr ⟨rfl, rfl, by rw [ht]; simp [List.filter_append, hp]⟩) bigB 0 S0 [] (Nat.zero_le _) (by have := big_lim hl; omega) ⟨rfl, rfl⟩
  subst e2
  rw [List.nil_append, List.take_length] at e3
  unfold fComp
  rw [e, bind_ok, e1, bind_ok, e3]
  have hz : ((ds.filter p).map h).length ≤ lim := by
    rw [List.length_map]
    exact Nat.le_trans (List.length_filter_le _ _) hl
  unfold mkLst
  rw [if_pos hz]
  rfl
end
theorem it_rg1 {f : Fd} {δ : Dv} {S S1 : Sto} {n : Nat} (e : f δ S = .ok (.int (n : Int)) S1) (h : n < 2 ^ 62) : iRg1 (aCons f aNil) δ S = .ok (.its ((List.range n).map fun i => D.int (0 + (i : Nat)))) S1 := by
  have h' : -(2 ^ 62) ≤ (n : Int) ∧ (n : Int) < 2 ^ 62 := ⟨by omega, by omega⟩
  have e1 : aCons f aNil δ S = .ok [.int (n : Int)] S1 := by
    unfold aCons aNil
    rw [e]
    rfl
  have e2 : rng1 [.int (n : Int)] S1 = .ok (.its ((List.range n).map fun i => D.int (0 + (i : Nat)))) S1 := by
    unfold rng1
    simp only [h', and_self, if_true, Int.toNat_natCast]
  unfold iRg1
  rw [e1, bind_ok, e2]
theorem seq_ref {S : Sto} {n : Nat} {xs : List D} (e : S[n]? = some (.lst xs)) : seqD (.ref n) S = some xs := by
  show (match S[n]? with | some (.lst xs) => some xs | _ => none) = some xs
  rw [e]
theorem tuple_ref {S : Sto} {n : Nat} {xs : List D} (e : S[n]? = some (.lst xs)) (h : xs.length ≤ lim) : tupleD [.ref n] S = .ok (.tup xs) S := by
  show (match seqD (.ref n) S with | some xs => mkTup xs S | none => .fail) = _
  rw [seq_ref e]
  exact if_pos h
theorem tuple_last {S : Sto} {xs : List D} (h : xs.length ≤ lim) : tupleD [.ref S.length] (S ++ [.lst xs]) = .ok (.tup xs) (S ++ [.lst xs]) := tuple_ref (getElem?_snoc S _) h
section
variable {S : Sto} {f : Bool → Bool} {d e : D} {p : PyData}
end
section
variable {t : Itb} {g : Fg} {b : Fs} {ds : List D}
theorem for_run (I : Nat → Dv → Sto → Prop) (Q : D → Sto → Prop) (cu : ∀ i δ S, I i δ S → cur t S = some ds)
    (step : ∀ i δ S d, I i δ S → ds[i]? = some d → ∃ δ1, g d δ S = some δ1 ∧ ((∃ δ2 S2, (b δ1 S = .next δ2 S2 ∨ b δ1 S = .cnt δ2 S2) ∧ I (i + 1) δ2 S2) ∨ ∃ r S2, b δ1 S = .ret r S2 ∧ Q r S2)) :
    ∀ (m i : Nat) (δ : Dv) (S : Sto), i ≤ ds.length → ds.length - i < m → I i δ S → (∃ δ' S', forD t g b m i δ S = .next δ' S' ∧ I ds.length δ' S') ∨ ∃ r S', forD t g b m i δ S = .ret r S' ∧ Q r S'
  | 0, _, _, _, _, l, _ => by omega
  | m + 1, i, δ, S, hi, l, h => by
    unfold forD
    rw [cu i δ S h]
    dsimp only
    cases e : ds[i]? with
    | none =>
      have : ds.length ≤ i := List.getElem?_eq_none_iff.mp e
      refine .inl ⟨δ, S, rfl, ?_⟩
      rw [show ds.length = i by omega]
      exact h
    | some d =>
      obtain ⟨hlt, _⟩ := List.getElem?_eq_some_iff.mp e
      obtain ⟨δ1, e1, q⟩ := step i δ S d h e
      dsimp only
      rw [e1]
      dsimp only
      rcases q with ⟨δ2, S2, e2, h2⟩ | ⟨r, S2, e2, q⟩
      · have ih := for_run I Q cu step m (i + 1) δ2 S2 hlt (by omega) h2
        rcases e2 with e2 | e2 <;> (rw [e2]; exact ih)
      · rw [e2]
        exact .inr ⟨r, S2, rfl, q⟩
end
theorem isLstR_ref {S : Sto} {n : Nat} {xs : List D} (h : S[n]? = some (.lst xs)) : isLstR (.ref n) S = true := by
  simp [isLstR, h]
end L2
namespace L2.Gz
theorem gcd_turn (a b : Int) : Int.gcd b (Int.fmod a b) = Int.gcd a b := by
  rw [Int.fmod_def a b, Int.gcd_comm a b]
  exact Int.gcd_sub_mul_left_right _ _ _
theorem fmod_less (a : Int) {b : Int} (hb : b ≠ 0) : (Int.fmod a b).natAbs < b.natAbs := by
  rcases Int.lt_or_gt_of_ne hb with h | h
  · have e : Int.fmod a b = - Int.fmod (-a) (-b) := by rw [Int.neg_fmod_neg]; omega
    have h1 := Int.fmod_nonneg_of_pos (-a) (show 0 < -b by omega)
    have h2 := Int.fmod_lt_of_pos (-a) (show 0 < -b by omega)
    omega
  · have h1 := Int.fmod_nonneg_of_pos a h
    have h2 := Int.fmod_lt_of_pos a h
    omega
theorem gcd_pos {t b : Int} (hb : b ≠ 0) : 0 < (Int.gcd t b : Int) := by
  have := Int.gcd_pos_of_ne_zero_right t hb
  omega
theorem gcd_le {t b : Int} (hb : b ≠ 0) : (Int.gcd t b : Int) ≤ b.natAbs := by
  have h : Int.gcd t b ∣ b.natAbs := Int.gcd_dvd_natAbs_right _ _
  have := Nat.le_of_dvd (by omega) h
  omega
theorem fdiv_of {t d q : Int} (hd : d ≠ 0) (h : t = d * q) : Int.fdiv t d = q := by
  rw [h]; exact Int.mul_fdiv_cancel_left q hd
theorem low_num {t b : Int} (hb : b ≠ 0) : Int.fdiv t (if b < 0 then -(Int.gcd t b : Int) else (Int.gcd t b : Int)) = (Rat.divInt t b).num := by
  rw [Rat.num_divInt, Int.gcd_comm b t]
  have hp := gcd_pos (t := t) hb
  obtain ⟨q, hq⟩ : (Int.gcd t b : Int) ∣ t := Int.gcd_dvd_left _ _
  generalize (Int.gcd t b : Int) = g at *
  by_cases h : b < 0
  · rw [if_pos h, Int.sign_eq_neg_one_of_neg h, fdiv_of (q := -q) (by omega) (by rw [hq]; grind)]
    rw [hq]
    have : -1 * (g * q) = g * (-q) := by grind
    rw [this, Int.mul_ediv_cancel_left _ (by omega)]
  · rw [if_neg h, Int.sign_eq_one_of_pos (by omega), fdiv_of (q := q) (by omega) hq]
    rw [hq, Int.one_mul, Int.mul_ediv_cancel_left _ (by omega)]
theorem low_den {t b : Int} (hb : b ≠ 0) : Int.fdiv b (if b < 0 then -(Int.gcd t b : Int) else (Int.gcd t b : Int)) = ((Rat.divInt t b).den : Int) := by
  rw [Rat.den_divInt, if_neg hb, Int.gcd_comm b t]
  have hp := gcd_pos (t := t) hb
  obtain ⟨q, hq⟩ : Int.gcd t b ∣ b.natAbs := Int.gcd_dvd_natAbs_right _ _
  generalize Int.gcd t b = g at *
  have e : ((b.natAbs / g : Nat) : Int) = q := by
    rw [hq, Nat.mul_div_cancel_left _ (by omega)]
  rw [e]
  by_cases h : b < 0
  · rw [if_pos h]
    have : b = -(g : Int) * q := by
      have h2 : (b.natAbs : Int) = g * q := by rw [hq]; simp
      have h3 : (b.natAbs : Int) = -b := by omega
      grind
    exact fdiv_of (by omega) this
  · rw [if_neg h]
    have : b = (g : Int) * q := by
      have h2 : (b.natAbs : Int) = g * q := by rw [hq]; simp
      omega
    exact fdiv_of (by omega) this
theorem add_rat (a b : Rat) : Rat.divInt (a.num * (b.den : Int) + b.num * (a.den : Int)) ((a.den : Int) * (b.den : Int)) = a + b := by
  rw [Rat.add_def']
  have : ((a.den : Int) * (b.den : Int)) = ((a.den * b.den : Nat) : Int) := by simp
  rw [this, Rat.divInt_ofNat]
theorem sub_rat (a b : Rat) : Rat.divInt (a.num * (b.den : Int) - b.num * (a.den : Int)) ((a.den : Int) * (b.den : Int)) = a - b := by
  rw [Rat.sub_def']
  have : ((a.den : Int) * (b.den : Int)) = ((a.den * b.den : Nat) : Int) := by simp
  rw [this, Rat.divInt_ofNat]
theorem mul_rat (a b : Rat) : Rat.divInt (a.num * b.num) ((a.den : Int) * (b.den : Int)) = a * b := by
  rw [Rat.mul_def']
  have : ((a.den : Int) * (b.den : Int)) = ((a.den * b.den : Nat) : Int) := by simp
  rw [this, Rat.divInt_ofNat]
theorem num_le {t b : Int} (hb : b ≠ 0) : (Rat.divInt t b).num.natAbs ≤ t.natAbs := by
  rw [← low_num (t := t) hb]
  have hp := gcd_pos (t := t) hb
  obtain ⟨q, hq⟩ : (Int.gcd t b : Int) ∣ t := Int.gcd_dvd_left _ _
  have e : ∀ d : Int, (d = (Int.gcd t b : Int) ∨ d = -(Int.gcd t b : Int)) → (Int.fdiv t d).natAbs ≤ t.natAbs := by
    intro d hd
    have hg : 1 ≤ Int.gcd t b := by omega
    have hm : t.natAbs = Int.gcd t b * q.natAbs := by
      have h := congrArg Int.natAbs hq
      rw [Int.natAbs_mul] at h
      simpa using h
    have hle : q.natAbs ≤ t.natAbs := by
      rw [hm]
      exact Nat.le_mul_of_pos_left _ hg
    rcases hd with rfl | rfl
    · rw [fdiv_of (q := q) (by omega) hq]; exact hle
    · rw [fdiv_of (q := -q) (by omega) (by rw [Int.neg_mul_neg]; exact hq), Int.natAbs_neg]; exact hle
  split
  · exact e _ (.inr rfl)
  · exact e _ (.inl rfl)
theorem den_le {t b : Int} (hb : b ≠ 0) : ((Rat.divInt t b).den : Int).natAbs ≤ b.natAbs := by
  rw [Rat.den_divInt, if_neg hb]
  simp only [Int.natAbs_natCast]
  exact Nat.div_le_self _ _
noncomputable def Sz (n : Nat) (r : Rat) : Prop := Sm n r.num ∧ Sm n r.den
theorem Sz.mono {m n : Nat} {r : Rat} (h : Sz m r) (e : m ≤ n) : Sz n r := ⟨h.1.mono e, h.2.mono e⟩
theorem sz_divInt {n : Nat} {t b : Int} (ht : Sm n t) (hb : Sm n b) (h0 : b ≠ 0) : Sz n (Rat.divInt t b) := ⟨ht.of_le (num_le h0), hb.of_le (den_le h0)⟩
theorem den_ne (r : Rat) : (r.den : Int) ≠ 0 := by
  have := r.den_pos
  omega
theorem den_mul_ne (r s : Rat) : (r.den : Int) * (s.den : Int) ≠ 0 := Int.mul_ne_zero (den_ne r) (den_ne s)
theorem Sz.add {m n : Nat} {a b : Rat} (h : Sz m a) (k : Sz n b) : Sz (m + n + 1) (a + b) := by
  rw [← add_rat]
  refine sz_divInt ?_ ((h.2.mul k.2).mono (by omega)) (den_mul_ne a b)
  have := (h.1.mul k.2).add (k.1.mul h.2)
  exact this.mono (by omega)
theorem Sz.sub {m n : Nat} {a b : Rat} (h : Sz m a) (k : Sz n b) : Sz (m + n + 1) (a - b) := by
  rw [← sub_rat]
  refine sz_divInt ?_ ((h.2.mul k.2).mono (by omega)) (den_mul_ne a b)
  have := (h.1.mul k.2).sub (k.1.mul h.2)
  exact this.mono (by omega)
theorem Sz.mul {m n : Nat} {a b : Rat} (h : Sz m a) (k : Sz n b) : Sz (m + n) (a * b) := by
  rw [← mul_rat]
  exact sz_divInt (h.1.mul k.1) (h.2.mul k.2) (den_mul_ne a b)
end L2.Gz
namespace L2
open PySem PySem.Spec PyProof.Rows
theorem sto_nat {S : Sto} {n j : Nat} {xs : List D} {d : D} (h : S[n]? = some (.lst xs)) (hj : j < xs.length) : stoD (.ref n) (.int (j : Int)) d S = some (S.set n (.lst (xs.set j d))) := by
  unfold stoD
  simp only [h]
  have : ixN xs.length (j : Int) = some j := by
    unfold ixN
    simp [hj]
  rw [this]
  rfl
section
variable {t : Itb} {g : Fg} {b : Fs} {ds : List D}
end
theorem cur_lref {n : Nat} {S : Sto} {ds : List D} (h : S[n]? = some (.lst ds)) : cur (.lref n) S = some ds := by
  show (match S[n]? with | some (.lst xs) => some xs | _ => none) = _
  rw [h]
theorem iVal_ref {f : Fd} {δ : Dv} {S S1 : Sto} {n : Nat} {ds : List D} (e : f δ S = .ok (.ref n) S1) (h : S1[n]? = some (.lst ds)) : iVal f δ S = .ok (.lref n) S1 := by
  unfold iVal
  rw [e, bind_ok]
  simp [itD, h]
section
variable {G : Glo} {Φ : Phi} {i : Nat} {it : Ix} {b : List Sx} {t : Itb} {ds : List D} {δ : Dv} {S S0 : Sto}
end
section
variable {S : Sto} {a b c d e x : D} {xs : List D}
end
section
variable {G : Glo} {Φ : Phi} {i : Nat} {it : Ix} {b : List Sx} {t : Itb} {ds : List D} {δ : Dv} {S S0 : Sto}
end
section
variable {G : Glo} {Φ : Phi} {v : Nat} {it : Ix} {b : List Sx} {t : Itb} {ds : List D} {δ : Dv} {S S0 : Sto}
theorem ex_forI (P : Nat → Dv → Sto → Prop) (e : evI G Φ it δ S = .ok t S0) (hl : ds.length ≤ lim) (hc : ∀ i δ S, P i δ S → cur t S = some ds) (h0 : P 0 δ S0)
    (step : ∀ i δ S d, P i δ S → ds[i]? = some d → ∃ δ2 S2, exSs G Φ b (δ.set v (some d)) S = .next δ2 S2 ∧ P (i + 1) δ2 S2) : ∃ δ' S', exSs G Φ [.for_ v it b] δ S = .next δ' S' ∧ P ds.length δ' S' := by
  have key := for_run (t := t) (g := gSet v) (b := exSs G Φ b) (ds := ds) P (fun _ _ => False) (fun i δ S q => hc i δ S q)
    (fun i δ S d q hd => by
      obtain ⟨δ2, S2, h1, h2⟩ := step i δ S d q hd
      exact ⟨_, rfl, .inl ⟨δ2, S2, .inl h1, h2⟩⟩) bigB 0 δ S0 (Nat.zero_le _) (by have := big_lim hl; omega) h0
  rcases key with ⟨δ', S', k, q⟩ | ⟨r, S', _, q⟩
  · refine ⟨δ', S', ?_, q⟩
    rw [exSs, exS, sSeq, sFor, e]
    show (forD _ _ _ _ _ _ _).bind _ = _
    rw [k, seq_next, exSs]
    rfl
  · exact q.elim
end
section
variable {G : Glo} {Φ : Phi} {S S1 S2 : Sto} {δ : Dv} {n k : Nat} {C m x : Str} {fo : Fd} {fa : Fa} {fs : List (Str × D)} {ds : List D} {b : Bool} {t : String}
theorem meth_run (e : fo δ S = .ok (.ref n) S1) (hS : S1[n]? = some (.ins C fs)) (hm : G.mth C m = some (x, k)) (hi : G.ins C = true) (hl : fs.lookup m = none) (ea : fa δ S1 = .ok ds S2) (hk : ds.length + 1 = k) : fMeth G Φ m fo fa δ S = Φ x (.ref n :: ds) S2 := by
  unfold fMeth
  rw [e, bind_ok]
  dsimp only
  rw [hS]
  dsimp only
  rw [hm]
  dsimp only
  rw [if_pos ⟨hi, hl⟩, ea, bind_ok, if_pos hk]
theorem app_l {A : Sto} {j : Nat} {o : O} (h : S[j]? = some o) : (S ++ A)[j]? = some o := by
  have hj : j < S.length := (List.getElem?_eq_some_iff.mp h).1
  rw [List.getElem?_append_left hj]
  exact h
end
section
variable {G : Glo} {T : Str → Option Df} {x C f : Str} {fn : Df} {n : Nat} {ds : List D} {S S' S1 : Sto} {δ : Dv} {d : D} {fs : List (Str × D)} {fo : Fd}
theorem gc_len (h : S'.length = S.length) : gc S (.ok d S') = .ok d S' := by
  unfold gc
  dsimp only
  split
  · rename_i c
    rw [c.2.eq_of_length h.symm]
  · rfl
theorem gc_diff {i : Nat} {o : O} (h : S[i]? = some o) (k : S'[i]? ≠ some o) : gc S (.ok d S') = .ok d S' := by
  unfold gc
  dsimp only
  split
  · rename_i c
    exact absurd (by obtain ⟨t, rfl⟩ := c.2; exact app_l h) k
  · rfl
theorem call_end (h : T x = some fn) (hl : ds.length = fn.ps.length) (hr : exSs G (callD G T n) fn.code (startD fn.N ds) S = .next δ S') : callD G T (n + 1) x ds S = gc S (.ok .non S') := by
  rw [callD_eq h, if_pos hl, hr]
  rfl
theorem call_gc (h : T x = some fn) (hl : ds.length = fn.ps.length) (hr : exSs G (callD G T n) fn.code (startD fn.N ds) S = .ret d S') : callD G T (n + 1) x ds S = gc S (.ok d S') := by
  rw [callD_eq h, if_pos hl, hr]
  rfl
theorem fld_run (e : fo δ S = .ok (.ref n) S1) (hS : S1[n]? = some (.ins C fs)) (h1 : G.ins C = true) (h2 : G.fld C f = true) (hl : fs.lookup f = some d) : fFld G f fo δ S = .ok d S1 := by
  unfold fFld
  rw [e, bind_ok]
  show (match S1[n]? with
    | some (.ins C fs) => if G.ins C = true ∧ G.fld C f = true then (match fs.lookup f with | some d => R.ok d S1 | none => .fail) else .fail
    | _ => .fail) = _
  rw [hS]
  dsimp only
  rw [if_pos ⟨h1, h2⟩, hl]
theorem setF_run (hS : S[n]? = some (.ins C fs)) (h1 : G.ins C = true) (h2 : G.fld C f = true) (hl : fs.length < 1000) : setFD G f (.ref n) d S = some (S.set n (.ins C (putD f d fs))) := by
  show (match S[n]? with
    | some (.ins C fs) => if G.ins C = true ∧ G.fld C f = true ∧ fs.length < 1000 then some (S.set n (.ins C (putD f d fs))) else none
    | _ => none) = _
  rw [hS]
  dsimp only
  rw [if_pos ⟨h1, h2, hl⟩]
theorem dit_at {kvs : List (D × D)} (h : S[n]? = some (.dit kvs)) : ditD (.ref n) S = some kvs := by
  show (match S[n]? with | some (.dit kvs) => some kvs | _ => none) = _
  rw [h]
theorem dit_lst {xs : List D} (h : S[n]? = some (.lst xs)) : ditD (.ref n) S = none := by
  show (match S[n]? with | some (.dit kvs) => some kvs | _ => none) = _
  rw [h]
end
end L2
namespace L2.Gz
open PySem PySem.Spec PyProof.Rows
noncomputable def top (i : Nat) : Stmt := PySem.Challenge.pw_glazehall_k52_how_many_products.main.body.getD i (.Pass ⟨0, 0, 0, 0⟩)
noncomputable def con_IDENTITY : D := (.tup [(.tup [(.int 1), (.int 1)]), (.tup [(.int 0), (.int 1)]), (.tup [(.int 0), (.int 1)]), (.tup [(.int 1), (.int 1)]), (.tup [(.int 0), (.int 1)])])
noncomputable abbrev s_is_whole : Stmt := top 5
theorem sc_is_whole : FnScope ["thing"] ["thing"] (defScope s_is_whole) := fsc
noncomputable def c_is_whole : List Sx := [.ret (.and (.bf .inst [(.v 0), (.k (.ty "int"))]) (.not (.bf .inst [(.v 0), (.k (.ty "bool"))])))]
noncomputable abbrev f_is_whole : Df := ⟨["thing"], ["thing"], s_is_whole, c_is_whole⟩
noncomputable abbrev s_greatest_divisor : Stmt := top 7
theorem sc_greatest_divisor : FnScope ["one", "other", "both", "rest"] ["one", "other"] (defScope s_greatest_divisor) := fsc
noncomputable def c_greatest_divisor : List Sx := [.ite (.and (.cmp .gt (.v 1) (.k (.int 0))) (.cmp .eq (.bin .band (.v 1) (.bin .sub (.v 1) (.k (.int 1)))) (.k (.int 0))))
      [.set 2 (.bin .bor (.v 0) (.v 1)),
    .ret (.bin .band (.v 2) (.neg (.v 2)))]
      [],
    .whl (.cmp .ne (.v 1) (.k (.int 0))) [.set 3 (.bin .mod (.v 0) (.v 1)),
    .set 0 (.v 1),
    .set 1 (.v 3)],
    .ret (.v 0)]
noncomputable abbrev f_greatest_divisor : Df := ⟨["one", "other", "both", "rest"], ["one", "other"], s_greatest_divisor, c_greatest_divisor⟩
noncomputable abbrev s_lowest : Stmt := top 8
theorem sc_lowest : FnScope ["top", "bottom", "divisor"] ["top", "bottom"] (defScope s_lowest) := fsc
noncomputable def c_lowest : List Sx := [.set 2 (.call "greatest_divisor" [(.bf .abs [(.v 0)]), (.bf .abs [(.v 1)])]),
    .ite (.cmp .lt (.v 1) (.k (.int 0)))
      [.set 2 (.neg (.v 2))]
      [],
    .ret (.tup [(.bin .fdiv (.v 0) (.v 2)), (.bin .fdiv (.v 1) (.v 2))])]
noncomputable abbrev f_lowest : Df := ⟨["top", "bottom", "divisor"], ["top", "bottom"], s_lowest, c_lowest⟩
noncomputable abbrev s_plus : Stmt := top 9
theorem sc_plus : FnScope ["one", "other"] ["one", "other"] (defScope s_plus) := fsc
noncomputable def c_plus : List Sx := [.ret (.call "lowest" [(.bin .add (.bin .mul (.idx (.v 0) (.k (.int 0))) (.idx (.v 1) (.k (.int 1)))) (.bin .mul (.idx (.v 1) (.k (.int 0))) (.idx (.v 0) (.k (.int 1))))), (.bin .mul (.idx (.v 0) (.k (.int 1))) (.idx (.v 1) (.k (.int 1))))])]
noncomputable abbrev f_plus : Df := ⟨["one", "other"], ["one", "other"], s_plus, c_plus⟩
noncomputable abbrev s_times : Stmt := top 10
theorem sc_times : FnScope ["one", "other"] ["one", "other"] (defScope s_times) := fsc
noncomputable def c_times : List Sx := [.ret (.call "lowest" [(.bin .mul (.idx (.v 0) (.k (.int 0))) (.idx (.v 1) (.k (.int 0)))), (.bin .mul (.idx (.v 0) (.k (.int 1))) (.idx (.v 1) (.k (.int 1))))])]
noncomputable abbrev f_times : Df := ⟨["one", "other"], ["one", "other"], s_times, c_times⟩
noncomputable abbrev s_laid : Stmt := top 13
theorem sc_laid : FnScope ["rule", "value", "c", "t", "colour"] ["rule", "value"] (defScope s_laid) := fsc
noncomputable def c_laid : List Sx := [.set 2 (.idx (.v 1) (.k (.int 0))),
    .set 3 (.idx (.v 1) (.k (.int 1))),
    .set 4 (.call "plus" [(.call "plus" [(.call "times" [(.idx (.v 0) (.k (.int 0))), (.v 2)]), (.call "times" [(.idx (.v 0) (.k (.int 1))), (.v 3)])]), (.idx (.v 0) (.k (.int 2)))]),
    .ret (.tup [(.v 4), (.call "plus" [(.call "times" [(.idx (.v 0) (.k (.int 3))), (.v 3)]), (.idx (.v 0) (.k (.int 4)))])])]
noncomputable abbrev f_laid : Df := ⟨["rule", "value", "c", "t", "colour"], ["rule", "value"], s_laid, c_laid⟩
noncomputable abbrev s_behind : Stmt := top 14
theorem sc_behind : FnScope ["first", "second", "added", "g", "p"] ["first", "second"] (defScope s_behind) := fsc
noncomputable def c_behind : List Sx := [.set 2 (.call "laid" [(.v 1), (.tup [(.idx (.v 0) (.k (.int 2))), (.idx (.v 0) (.k (.int 4)))])]),
    .set 3 (.call "times" [(.idx (.v 1) (.k (.int 0))), (.idx (.v 0) (.k (.int 0)))]),
    .set 4 (.call "plus" [(.call "times" [(.idx (.v 1) (.k (.int 0))), (.idx (.v 0) (.k (.int 1)))]), (.call "times" [(.idx (.v 1) (.k (.int 1))), (.idx (.v 0) (.k (.int 3)))])]),
    .ret (.tup [(.v 3), (.v 4), (.idx (.v 2) (.k (.int 0))), (.call "times" [(.idx (.v 1) (.k (.int 3))), (.idx (.v 0) (.k (.int 3)))]), (.idx (.v 2) (.k (.int 1)))])]
noncomputable abbrev f_behind : Df := ⟨["first", "second", "added", "g", "p"], ["first", "second"], s_behind, c_behind⟩
noncomputable abbrev s__law_cell : Stmt := top 18
theorem sc__law_cell : FnScope ["_law_script", "_law_k"] ["_law_script", "_law_k"] (defScope s__law_cell) := fsc
noncomputable def c__law_cell : List Sx := [.ite (.cmp .lt (.v 1) (.bf .len [(.v 0)]))
      [.ret (.idx (.v 0) (.v 1))]
      [],
    .ret (.k (.int 0))]
noncomputable abbrev f__law_cell : Df := ⟨["_law_script", "_law_k"], ["_law_script", "_law_k"], s__law_cell, c__law_cell⟩
noncomputable abbrev s__law_mixed : Stmt := top 19
theorem sc__law_mixed : FnScope ["_law_cell_here", "_law_k", "_law_number"] ["_law_cell_here", "_law_k"] (defScope s__law_mixed) := fsc
noncomputable def c__law_mixed : List Sx := [.set 2 (.bin .mod (.bin .mul (.bin .add (.bin .add (.v 0) (.bin .mul (.k (.int 7919)) (.v 1))) (.k (.int 1))) (.k (.int 48271))) (.k (.int 2147483647))),
    .ret (.bin .mod (.bin .mul (.v 2) (.bin .add (.bin .fdiv (.v 2) (.k (.int 1009))) (.k (.int 69621)))) (.k (.int 2147483647)))]
noncomputable abbrev f__law_mixed : Df := ⟨["_law_cell_here", "_law_k", "_law_number"], ["_law_cell_here", "_law_k"], s__law_mixed, c__law_mixed⟩
noncomputable abbrev s__law_divisor : Stmt := top 20
theorem sc__law_divisor : FnScope ["_law_one", "_law_other"] ["_law_one", "_law_other"] (defScope s__law_divisor) := fsc
noncomputable def c__law_divisor : List Sx := [.whl (.cmp .ne (.v 1) (.k (.int 0))) [.par 0 1 (.v 1) (.bin .mod (.v 0) (.v 1))],
    .ret (.bf .abs [(.v 0)])]
noncomputable abbrev f__law_divisor : Df := ⟨["_law_one", "_law_other"], ["_law_one", "_law_other"], s__law_divisor, c__law_divisor⟩
noncomputable abbrev s__law_made : Stmt := top 21
theorem sc__law_made : FnScope ["_law_top", "_law_bottom", "_law_share"] ["_law_top", "_law_bottom"] (defScope s__law_made) := fsc
noncomputable def c__law_made : List Sx := [.set 2 (.call "_law_divisor" [(.v 0), (.v 1)]),
    .ite (.cmp .lt (.v 1) (.k (.int 0)))
      [.set 2 (.bin .sub (.k (.int 0)) (.v 2))]
      [],
    .ret (.tup [(.bin .fdiv (.v 0) (.v 2)), (.bin .fdiv (.v 1) (.v 2))])]
noncomputable abbrev f__law_made : Df := ⟨["_law_top", "_law_bottom", "_law_share"], ["_law_top", "_law_bottom"], s__law_made, c__law_made⟩
noncomputable abbrev s__law_make : Stmt := top 23
theorem sc__law_make : FnScope ["_law_cell_here", "_law_u", "_law_s", "_law_fork", "_law_tops"] ["_law_cell_here"] (defScope s__law_make) := fsc
noncomputable def c__law_make : List Sx := [.set 1 (.bin .mod (.bin .fdiv (.v 0) (.k (.int 6))) (.k (.int 17))),
    .set 2 (.bin .mod (.bin .fdiv (.v 0) (.k (.int 102))) (.bin .add (.v 1) (.k (.int 1)))),
    .set 3 (.bin .mod (.v 0) (.k (.int 6))),
    .ite (.cmp .eq (.v 3) (.k (.int 5)))
      [.ret (.bf .tuple [(.comp 5 1 (.call "_law_made" [(.v 5), (.k (.int 16))]) (.val (.lst [(.v 2), (.bin .sub (.v 1) (.v 2)), (.k (.int 0)), (.k (.int 16)), (.k (.int 0))])))])]
      [],
    .set 4 (.lst [(.lst [(.bin .sub (.k (.int 16)) (.v 1)), (.k (.int 0)), (.v 2), (.bin .sub (.k (.int 16)) (.v 1)), (.v 1)]), (.lst [(.k (.int 16)), (.bin .sub (.k (.int 0)) (.v 2)), (.v 2), (.bin .sub (.k (.int 16)) (.v 1)), (.v 1)]), (.lst [(.bin .sub (.k (.int 16)) (.v 2)), (.k (.int 0)), (.v 2), (.bin .sub (.k (.int 16)) (.v 1)), (.v 1)])]),
    .set 4 (.bin .add (.v 4) (.lst [(.lst [(.bin .sub (.bin .add (.v 2) (.k (.int 16))) (.v 1)), (.bin .sub (.k (.int 0)) (.v 2)), (.v 2), (.bin .sub (.k (.int 16)) (.v 1)), (.v 1)]), (.lst [(.bin .sub (.k (.int 16)) (.v 1)), (.v 2), (.k (.int 0)), (.k (.int 16)), (.k (.int 0))])])),
    .ret (.bf .tuple [(.comp 5 1 (.call "_law_made" [(.v 5), (.k (.int 16))]) (.val (.idx (.v 4) (.v 3))))])]
noncomputable abbrev f__law_make : Df := ⟨["_law_cell_here", "_law_u", "_law_s", "_law_fork", "_law_tops"], ["_law_cell_here"], s__law_make, c__law_make⟩
noncomputable abbrev s__law_height : Stmt := top 24
theorem sc__law_height : FnScope ["_law_many", "_law_high"] ["_law_many"] (defScope s__law_height) := fsc
noncomputable def c__law_height : List Sx := [.set 1 (.k (.int 0)),
    .whl (.cmp .lt (.call "_law_power" [(.v 1)]) (.v 0)) [.set 1 (.bin .add (.v 1) (.k (.int 1)))],
    .ret (.v 1)]
noncomputable abbrev f__law_height : Df := ⟨["_law_many", "_law_high"], ["_law_many"], s__law_height, c__law_height⟩
noncomputable abbrev s__law_power : Stmt := top 25
theorem sc__law_power : FnScope ["_law_high", "_law_wide", "_law_turn"] ["_law_high"] (defScope s__law_power) := fsc
noncomputable def c__law_power : List Sx := [.set 1 (.k (.int 1)),
    .for_ 2 (.rg1 (.v 0)) [.set 1 (.bin .mul (.v 1) (.k (.int 2)))],
    .ret (.v 1)]
noncomputable abbrev f__law_power : Df := ⟨["_law_high", "_law_wide", "_law_turn"], ["_law_high"], s__law_power, c__law_power⟩
noncomputable abbrev s__law_done : Stmt := top 26
theorem sc__law_done : FnScope ["_law_keeper", "_law_cell_here", "_law_many", "_law_rule", "_law_at"] ["_law_keeper", "_law_cell_here"] (defScope s__law_done) := fsc
noncomputable def c__law_done : List Sx := [.set 2 (.meth "many" (.v 0) []),
    .set 3 (.call "_law_make" [(.bin .fdiv (.v 1) (.k (.int 6)))]),
    .set 4 (.call "_law_mixed" [(.v 1), (.k (.int 3))]),
    .ite (.and (.cmp .lt (.bin .mod (.v 1) (.k (.int 6))) (.k (.int 3))) (.cmp .gt (.v 2) (.k (.int 0))))
      [.expr (.meth "put_at" (.v 0) [(.bin .mod (.v 4) (.v 2)), (.v 3)]),
    .ret (.k (.int 1))]
      [],
    .ite (.and (.cmp .eq (.bin .mod (.v 1) (.k (.int 6))) (.k (.int 3))) (.cmp .lt (.v 2) (.k (.int 17))))
      [.expr (.meth "put_in" (.v 0) [(.bin .mod (.v 4) (.bin .add (.v 2) (.k (.int 1)))), (.v 3)]),
    .ret (.k (.int 100))]
      [],
    .ite (.and (.cmp .eq (.bin .mod (.v 1) (.k (.int 6))) (.k (.int 4))) (.cmp .gt (.v 2) (.k (.int 0))))
      [.expr (.meth "take_out" (.v 0) [(.bin .mod (.v 4) (.v 2))]),
    .ret (.k (.int 100))]
      [],
    .ret (.k (.int 0))]
noncomputable abbrev f__law_done : Df := ⟨["_law_keeper", "_law_cell_here", "_law_many", "_law_rule", "_law_at"], ["_law_keeper", "_law_cell_here"], s__law_done, c__law_done⟩
noncomputable abbrev s_law : Stmt := top 27
theorem sc_law : FnScope ["_law_script", "_law_row", "_law_keeper", "_law_since", "_law_first", "_law_cell_here", "_law_ahead", "_law_many", "_law_most", "_law_found"] ["_law_script"] (defScope s_law) := fsc
noncomputable def c_law : List Sx := [.set 1 (.comp 5 0 (.call "_law_make" [(.v 5)]) (.val (.sl (.v 0) (.k (.int 2)) (.bin .add (.k (.int 2)) (.bin .mod (.call "_law_cell" [(.v 0), (.k (.int 0))]) (.k (.int 14))))))),
    .set 2 (.make "Keeper" "Keeper.__init__" 2 [(.v 1)]),
    .ite (.or (.cmp .ne (.meth "made" (.v 2) []) (.k (.int 0))) (.bf .inst [(.meth "made" (.v 2) []), (.k (.ty "bool"))]))
      [.ret (.k (.bl false))]
      [],
    .set 3 (.k (.int 100)),
    .set 4 (.k (.bl true)),
    .for_ 5 (.val (.bin .add (.sl (.v 0) (.k (.int 15)) (.k (.int 25))) (.sl (.v 0) (.k (.int 1)) (.k (.int 9))))) [.set 6 (.meth "made" (.v 2) []),
    .set 3 (.bin .add (.v 3) (.call "_law_done" [(.v 2), (.v 5)])),
    .set 7 (.meth "many" (.v 2) []),
    .ite (.or (.cmp .ne (.meth "made" (.v 2) []) (.v 6)) (.cmp .ne (.meth "height" (.v 2) []) (.call "_law_height" [(.v 7)])))
      [.ret (.k (.bl false))]
      [],
    .ite (.cmp .gt (.bin .mod (.bin .fdiv (.v 5) (.k (.int 6))) (.k (.int 3))) (.k (.int 0)))
      [.expr (.meth "whole" (.v 2) []),
    .set 8 (.bf .max [(.k (.int 0)), (.bin .sub (.v 7) (.k (.int 1)))]),
    .ite (.cmp .lt (.v 3) (.k (.int 100)))
      [.set 8 (.bf .min [(.v 8), (.bin .mul (.v 3) (.call "_law_height" [(.v 7)]))])]
      [],
    .set 9 (.meth "made" (.v 2) []),
    .ite (.or (.bf .inst [(.v 9), (.k (.ty "bool"))]) (.or (.cmp .gt (.bin .sub (.v 9) (.v 6)) (.v 8)) (.cmp .lt (.v 9) (.v 6))))
      [.ret (.k (.bl false))]
      [],
    .ite (.and (.v 4) (.cmp .ne (.v 9) (.bf .max [(.k (.int 0)), (.bin .sub (.v 7) (.k (.int 1)))])))
      [.ret (.k (.bl false))]
      [],
    .set 4 (.k (.bl false)),
    .set 3 (.k (.int 0)),
    .expr (.meth "whole" (.v 2) []),
    .ite (.cmp .ne (.meth "made" (.v 2) []) (.v 9))
      [.ret (.k (.bl false))]
      []]
      []],
    .ret (.k (.bl true))]
noncomputable abbrev f_law : Df := ⟨["_law_script", "_law_row", "_law_keeper", "_law_since", "_law_first", "_law_cell_here", "_law_ahead", "_law_many", "_law_most", "_law_found"], ["_law_script"], s_law, c_law⟩
noncomputable abbrev s_Keeper_dot___init__ : Stmt := inCls (top 16) 0
theorem sc_Keeper_dot___init__ : FnScope ["self", "rules"] ["self", "rules"] (defScope s_Keeper_dot___init__) := fsc
noncomputable def c_Keeper_dot___init__ : List Sx := [.setF "row" (.v 0) (.bf .list [(.v 1)]),
    .setF "kept" (.v 0) .dnewT,
    .setF "products" (.v 0) (.k (.int 0))]
noncomputable abbrev f_Keeper_dot___init__ : Df := ⟨["self", "rules"], ["self", "rules"], s_Keeper_dot___init__, c_Keeper_dot___init__⟩
noncomputable abbrev s_Keeper_dot_many : Stmt := inCls (top 16) 1
theorem sc_Keeper_dot_many : FnScope ["self"] ["self"] (defScope s_Keeper_dot_many) := fsc
noncomputable def c_Keeper_dot_many : List Sx := [.ret (.bf .len [(.fld "row" (.v 0))])]
noncomputable abbrev f_Keeper_dot_many : Df := ⟨["self"], ["self"], s_Keeper_dot_many, c_Keeper_dot_many⟩
noncomputable abbrev s_Keeper_dot_height : Stmt := inCls (top 16) 2
theorem sc_Keeper_dot_height : FnScope ["self", "reached", "steps"] ["self"] (defScope s_Keeper_dot_height) := fsc
noncomputable def c_Keeper_dot_height : List Sx := [.set 1 (.k (.int 1)),
    .set 2 (.k (.int 0)),
    .whl (.cmp .lt (.v 1) (.bf .len [(.fld "row" (.v 0))])) [.set 1 (.bin .mul (.k (.int 2)) (.v 1)),
    .set 2 (.bin .add (.v 2) (.k (.int 1)))],
    .ret (.v 2)]
noncomputable abbrev f_Keeper_dot_height : Df := ⟨["self", "reached", "steps"], ["self"], s_Keeper_dot_height, c_Keeper_dot_height⟩
noncomputable abbrev s_Keeper_dot_made : Stmt := inCls (top 16) 3
theorem sc_Keeper_dot_made : FnScope ["self"] ["self"] (defScope s_Keeper_dot_made) := fsc
noncomputable def c_Keeper_dot_made : List Sx := [.ret (.fld "products" (.v 0))]
noncomputable abbrev f_Keeper_dot_made : Df := ⟨["self"], ["self"], s_Keeper_dot_made, c_Keeper_dot_made⟩
noncomputable abbrev s_Keeper_dot_refuse_beyond : Stmt := inCls (top 16) 4
theorem sc_Keeper_dot_refuse_beyond : FnScope ["self", "k", "many"] ["self", "k", "many"] (defScope s_Keeper_dot_refuse_beyond) := fsc
noncomputable def c_Keeper_dot_refuse_beyond : List Sx := [.ite (.or (.not (.call "is_whole" [(.v 1)])) (.or (.cmp .lt (.v 1) (.k (.int 0))) (.cmp .ge (.v 1) (.v 2))))
      [.bad]
      []]
noncomputable abbrev f_Keeper_dot_refuse_beyond : Df := ⟨["self", "k", "many"], ["self", "k", "many"], s_Keeper_dot_refuse_beyond, c_Keeper_dot_refuse_beyond⟩
noncomputable abbrev s_Keeper_dot_put_at : Stmt := inCls (top 16) 6
theorem sc_Keeper_dot_put_at : FnScope ["self", "k", "rule", "ends"] ["self", "k", "rule"] (defScope s_Keeper_dot_put_at) := fsc
noncomputable def c_Keeper_dot_put_at : List Sx := [.expr (.meth "refuse_beyond" (.v 0) [(.v 1), (.bf .len [(.fld "row" (.v 0))])]),
    .sto (.fld "row" (.v 0)) (.v 1) (.v 2),
    .for_ 3 (.val (.bf .list [(.fld "kept" (.v 0))])) [.ite (.chain .le .lt (.idx (.v 3) (.k (.int 0))) (.v 1) (.idx (.v 3) (.k (.int 1))))
      [.expr (.mt .pop (.fld "kept" (.v 0)) [(.v 3)])]
      []]]
noncomputable abbrev f_Keeper_dot_put_at : Df := ⟨["self", "k", "rule", "ends"], ["self", "k", "rule"], s_Keeper_dot_put_at, c_Keeper_dot_put_at⟩
noncomputable abbrev s_Keeper_dot_put_in : Stmt := inCls (top 16) 7
theorem sc_Keeper_dot_put_in : FnScope ["self", "k", "rule"] ["self", "k", "rule"] (defScope s_Keeper_dot_put_in) := fsc
noncomputable def c_Keeper_dot_put_in : List Sx := [.expr (.meth "refuse_beyond" (.v 0) [(.v 1), (.bin .add (.bf .len [(.fld "row" (.v 0))]) (.k (.int 1)))]),
    .expr (.mt .insert (.fld "row" (.v 0)) [(.v 1), (.v 2)]),
    .expr (.mt .clear (.fld "kept" (.v 0)) [])]
noncomputable abbrev f_Keeper_dot_put_in : Df := ⟨["self", "k", "rule"], ["self", "k", "rule"], s_Keeper_dot_put_in, c_Keeper_dot_put_in⟩
noncomputable abbrev s_Keeper_dot_take_out : Stmt := inCls (top 16) 8
theorem sc_Keeper_dot_take_out : FnScope ["self", "k"] ["self", "k"] (defScope s_Keeper_dot_take_out) := fsc
noncomputable def c_Keeper_dot_take_out : List Sx := [.expr (.meth "refuse_beyond" (.v 0) [(.v 1), (.bf .len [(.fld "row" (.v 0))])]),
    .expr (.mt .pop (.fld "row" (.v 0)) [(.v 1)]),
    .expr (.mt .clear (.fld "kept" (.v 0)) [])]
noncomputable abbrev f_Keeper_dot_take_out : Df := ⟨["self", "k"], ["self", "k"], s_Keeper_dot_take_out, c_Keeper_dot_take_out⟩
noncomputable abbrev s_Keeper_dot_product : Stmt := inCls (top 16) 9
theorem sc_Keeper_dot_product : FnScope ["self", "low", "high", "middle"] ["self", "low", "high"] (defScope s_Keeper_dot_product) := fsc
noncomputable def c_Keeper_dot_product : List Sx := [.ite (.cmp .eq (.bin .sub (.v 2) (.v 1)) (.k (.int 1)))
      [.ret (.idx (.fld "row" (.v 0)) (.v 1))]
      [],
    .ite (.cmp .notin (.tup [(.v 1), (.v 2)]) (.fld "kept" (.v 0)))
      [.set 3 (.bin .fdiv (.bin .add (.v 1) (.v 2)) (.k (.int 2))),
    .stoT (.fld "kept" (.v 0)) [(.v 1), (.v 2)] (.call "behind" [(.meth "product" (.v 0) [(.v 1), (.v 3)]), (.meth "product" (.v 0) [(.v 3), (.v 2)])]),
    .setF "products" (.v 0) (.bin .add (.fld "products" (.v 0)) (.k (.int 1)))]
      [],
    .ret (.idx (.fld "kept" (.v 0)) (.tup [(.v 1), (.v 2)]))]
noncomputable abbrev f_Keeper_dot_product : Df := ⟨["self", "low", "high", "middle"], ["self", "low", "high"], s_Keeper_dot_product, c_Keeper_dot_product⟩
noncomputable abbrev s_Keeper_dot_whole : Stmt := inCls (top 16) 10
theorem sc_Keeper_dot_whole : FnScope ["self"] ["self"] (defScope s_Keeper_dot_whole) := fsc
noncomputable def c_Keeper_dot_whole : List Sx := [.ite (.cmp .eq (.bf .len [(.fld "row" (.v 0))]) (.k (.int 0)))
      [.ret (.k con_IDENTITY)]
      [],
    .ret (.meth "product" (.v 0) [(.k (.int 0)), (.bf .len [(.fld "row" (.v 0))])])]
noncomputable abbrev f_Keeper_dot_whole : Df := ⟨["self"], ["self"], s_Keeper_dot_whole, c_Keeper_dot_whole⟩
noncomputable def tab : List (Str × Df) := [(("is_whole" : Str), f_is_whole), (("greatest_divisor" : Str), f_greatest_divisor), (("lowest" : Str), f_lowest), (("plus" : Str), f_plus), (("times" : Str), f_times), (("laid" : Str), f_laid), (("behind" : Str), f_behind), (("_law_cell" : Str), f__law_cell), (("_law_mixed" : Str), f__law_mixed), (("_law_divisor" : Str), f__law_divisor), (("_law_made" : Str), f__law_made), (("_law_make" : Str), f__law_make), (("_law_height" : Str), f__law_height), (("_law_power" : Str), f__law_power), (("_law_done" : Str), f__law_done), (("law" : Str), f_law), (("Keeper.__init__" : Str), f_Keeper_dot___init__), (("Keeper.many" : Str), f_Keeper_dot_many), (("Keeper.height" : Str), f_Keeper_dot_height), (("Keeper.made" : Str), f_Keeper_dot_made), (("Keeper.refuse_beyond" : Str), f_Keeper_dot_refuse_beyond), (("Keeper.put_at" : Str), f_Keeper_dot_put_at), (("Keeper.put_in" : Str), f_Keeper_dot_put_in), (("Keeper.take_out" : Str), f_Keeper_dot_take_out), (("Keeper.product" : Str), f_Keeper_dot_product), (("Keeper.whole" : Str), f_Keeper_dot_whole)]
noncomputable abbrev T : Str → Option Df := tabOf tab
noncomputable def gl : Gl' where
  con := [("IDENTITY", con_IDENTITY)]
  own := ["isinstance", "int", "bool", "tuple", "list", "abs", "len", "min", "max", "range", "ValueError"]
  cls := ["HallError", "NoLayer", "Keeper"]
  exc := []
  subG := []
  subT := []
  exm := []
  ins := ["Keeper"]
  fld := [(("Keeper" : Str), ("kept" : Str)), (("Keeper" : Str), ("products" : Str)), (("Keeper" : Str), ("row" : Str))]
  mth := [(("Keeper" : Str), ("height" : Str), ("Keeper.height" : Str), 1), (("Keeper" : Str), ("made" : Str), ("Keeper.made" : Str), 1), (("Keeper" : Str), ("many" : Str), ("Keeper.many" : Str), 1), (("Keeper" : Str), ("product" : Str), ("Keeper.product" : Str), 3), (("Keeper" : Str), ("put_at" : Str), ("Keeper.put_at" : Str), 3), (("Keeper" : Str), ("put_in" : Str), ("Keeper.put_in" : Str), 3), (("Keeper" : Str), ("refuse_beyond" : Str), ("Keeper.refuse_beyond" : Str), 3), (("Keeper" : Str), ("take_out" : Str), ("Keeper.take_out" : Str), 2), (("Keeper" : Str), ("whole" : Str), ("Keeper.whole" : Str), 1)]
  ini := [("Keeper", some ("Keeper.__init__", 2))]
noncomputable abbrev G : Glo := gl.glo
theorem tr_is_whole : trS 40 (tcOf G T f_is_whole) (defBody s_is_whole) = some c_is_whole := by kernel_rfl
theorem T_is_whole : T "is_whole" = some f_is_whole := by kernel_rfl
theorem tr_greatest_divisor : trS 40 (tcOf G T f_greatest_divisor) (defBody s_greatest_divisor) = some c_greatest_divisor := by kernel_rfl
theorem T_greatest_divisor : T "greatest_divisor" = some f_greatest_divisor := by kernel_rfl
theorem tr_lowest : trS 40 (tcOf G T f_lowest) (defBody s_lowest) = some c_lowest := by kernel_rfl
theorem T_lowest : T "lowest" = some f_lowest := by kernel_rfl
theorem tr_plus : trS 40 (tcOf G T f_plus) (defBody s_plus) = some c_plus := by kernel_rfl
theorem T_plus : T "plus" = some f_plus := by kernel_rfl
theorem tr_times : trS 40 (tcOf G T f_times) (defBody s_times) = some c_times := by kernel_rfl
theorem T_times : T "times" = some f_times := by kernel_rfl
theorem tr_laid : trS 40 (tcOf G T f_laid) (defBody s_laid) = some c_laid := by kernel_rfl
theorem T_laid : T "laid" = some f_laid := by kernel_rfl
theorem tr_behind : trS 40 (tcOf G T f_behind) (defBody s_behind) = some c_behind := by kernel_rfl
theorem T_behind : T "behind" = some f_behind := by kernel_rfl
theorem tr__law_cell : trS 40 (tcOf G T f__law_cell) (defBody s__law_cell) = some c__law_cell := by kernel_rfl
theorem T__law_cell : T "_law_cell" = some f__law_cell := by kernel_rfl
theorem tr__law_mixed : trS 40 (tcOf G T f__law_mixed) (defBody s__law_mixed) = some c__law_mixed := by kernel_rfl
theorem T__law_mixed : T "_law_mixed" = some f__law_mixed := by kernel_rfl
theorem tr__law_divisor : trS 40 (tcOf G T f__law_divisor) (defBody s__law_divisor) = some c__law_divisor := by kernel_rfl
theorem T__law_divisor : T "_law_divisor" = some f__law_divisor := by kernel_rfl
theorem tr__law_made : trS 40 (tcOf G T f__law_made) (defBody s__law_made) = some c__law_made := by kernel_rfl
theorem T__law_made : T "_law_made" = some f__law_made := by kernel_rfl
theorem tr__law_make : trS 40 (tcOf G T f__law_make) (defBody s__law_make) = some c__law_make := by kernel_rfl
theorem T__law_make : T "_law_make" = some f__law_make := by kernel_rfl
theorem tr__law_height : trS 40 (tcOf G T f__law_height) (defBody s__law_height) = some c__law_height := by kernel_rfl
theorem T__law_height : T "_law_height" = some f__law_height := by kernel_rfl
theorem tr__law_power : trS 40 (tcOf G T f__law_power) (defBody s__law_power) = some c__law_power := by kernel_rfl
theorem T__law_power : T "_law_power" = some f__law_power := by kernel_rfl
theorem tr__law_done : trS 40 (tcOf G T f__law_done) (defBody s__law_done) = some c__law_done := by kernel_rfl
theorem T__law_done : T "_law_done" = some f__law_done := by kernel_rfl
theorem tr_law : trS 40 (tcOf G T f_law) (defBody s_law) = some c_law := by kernel_rfl
theorem T_law : T "law" = some f_law := by kernel_rfl
theorem tr_Keeper_dot___init__ : trS 40 (tcOf G T f_Keeper_dot___init__) (defBody s_Keeper_dot___init__) = some c_Keeper_dot___init__ := by kernel_rfl
theorem T_Keeper_dot___init__ : T "Keeper.__init__" = some f_Keeper_dot___init__ := by kernel_rfl
theorem tr_Keeper_dot_many : trS 40 (tcOf G T f_Keeper_dot_many) (defBody s_Keeper_dot_many) = some c_Keeper_dot_many := by kernel_rfl
theorem T_Keeper_dot_many : T "Keeper.many" = some f_Keeper_dot_many := by kernel_rfl
theorem tr_Keeper_dot_height : trS 40 (tcOf G T f_Keeper_dot_height) (defBody s_Keeper_dot_height) = some c_Keeper_dot_height := by kernel_rfl
theorem T_Keeper_dot_height : T "Keeper.height" = some f_Keeper_dot_height := by kernel_rfl
theorem tr_Keeper_dot_made : trS 40 (tcOf G T f_Keeper_dot_made) (defBody s_Keeper_dot_made) = some c_Keeper_dot_made := by kernel_rfl
theorem T_Keeper_dot_made : T "Keeper.made" = some f_Keeper_dot_made := by kernel_rfl
theorem tr_Keeper_dot_refuse_beyond : trS 40 (tcOf G T f_Keeper_dot_refuse_beyond) (defBody s_Keeper_dot_refuse_beyond) = some c_Keeper_dot_refuse_beyond := by kernel_rfl
theorem T_Keeper_dot_refuse_beyond : T "Keeper.refuse_beyond" = some f_Keeper_dot_refuse_beyond := by kernel_rfl
theorem tr_Keeper_dot_put_at : trS 40 (tcOf G T f_Keeper_dot_put_at) (defBody s_Keeper_dot_put_at) = some c_Keeper_dot_put_at := by kernel_rfl
theorem T_Keeper_dot_put_at : T "Keeper.put_at" = some f_Keeper_dot_put_at := by kernel_rfl
theorem tr_Keeper_dot_put_in : trS 40 (tcOf G T f_Keeper_dot_put_in) (defBody s_Keeper_dot_put_in) = some c_Keeper_dot_put_in := by kernel_rfl
theorem T_Keeper_dot_put_in : T "Keeper.put_in" = some f_Keeper_dot_put_in := by kernel_rfl
theorem tr_Keeper_dot_take_out : trS 40 (tcOf G T f_Keeper_dot_take_out) (defBody s_Keeper_dot_take_out) = some c_Keeper_dot_take_out := by kernel_rfl
theorem T_Keeper_dot_take_out : T "Keeper.take_out" = some f_Keeper_dot_take_out := by kernel_rfl
theorem tr_Keeper_dot_product : trS 40 (tcOf G T f_Keeper_dot_product) (defBody s_Keeper_dot_product) = some c_Keeper_dot_product := by kernel_rfl
theorem T_Keeper_dot_product : T "Keeper.product" = some f_Keeper_dot_product := by kernel_rfl
theorem tr_Keeper_dot_whole : trS 40 (tcOf G T f_Keeper_dot_whole) (defBody s_Keeper_dot_whole) = some c_Keeper_dot_whole := by kernel_rfl
theorem T_Keeper_dot_whole : T "Keeper.whole" = some f_Keeper_dot_whole := by kernel_rfl
end L2.Gz
namespace L2.Gz
open PySem PySem.Spec PyProof.Rows
local macro_rules | `(tactic| walk_at "ex") => `(tactic| simp (disch := first | (simp only [List.length_cons, List.length_nil]; omega) | omega | decide | (simp only [noRef_int, noRef_bl, noRef_str, noRef_non, noRef_tup, noRefs_nil, noRefs_cons, Bool.and_self]; done)) only [exSs, exS, ev, evs, sSeq, sSet, sRet, sExpr, sIf, sPar, sRaise, sNext, f2, f1, fNot, fAnd, fOr, fIf, fIsN, fNotN, fTup, fLst, fCall, fChain, fChain3, sFldD, aNil, aCons, okD, getV, bVal,
  bind_ok, bind_exc, toS_ok, toS_exc, seq_next, seq_ret, seq_brk, seq_cnt, seq_exc, isBl_bl, noxR_ok, noxS_next, noxS_ret, noxS_brk, noxS_cnt, add_int', sub_int', lt_int', le_int', gt_int', ge_int', neg_int', abs_int', min_int', max_int', len_tup, len_rol, mkTup_ok, fGc, idx_tup', idx_rol', idx_last', atR_0, atR_1, atR_2, atR_3, atR_4, atR_5, atR_6, atR_7, mkLst_ok, gc_same, gc_int, gc_bl, gc_str, gc_non, gc_pair, fdiv_pos, mod_pos, pow10,
  binD, cmpD, bfD, startD, endR, List.getElem?_cons_zero, List.getElem?_cons_succ, List.set_cons_zero, List.set_cons_succ, List.map_cons, List.map_nil, List.length_cons, List.length_nil, List.replicate, List.cons_append, List.nil_append,
  i_int_int, i_int_bool, i_int_str, i_int_tup, i_bl_int, i_bl_bool, i_bl_str, i_str_int, i_str_bool, i_str_str, i_non_int, i_non_bool, i_non_str, i_non_tup, i_tup_tup, i_tup_int, i_tup_bool, i_tup_str, if_true, Bool.false_eq_true, if_false, Bool.not_true, Bool.not_false, eq_int, Nat.reduceSub, Nat.reduceAdd, Bool.and_self, Bool.true_and, Bool.and_true, Bool.false_and, Bool.and_false, evI, sFor, iVal, itD, forD_big, forL, gSet, eq_pair, sAsg, gNames, setAll, sSto, fMt, mul_l, mul_r, eq_self, id])
local macro_rules | `(tactic| walk_at "exh") => `(tactic| simp (disch := first | (simp only [List.length_cons, List.length_nil]; omega) | omega | decide | (simp only [noRef_int, noRef_bl, noRef_str, noRef_non, noRef_tup, noRefs_nil, noRefs_cons, Bool.and_self]; done)) only [exSs, exS, ev, evs, sSeq, sSet, sRet, sExpr, sIf, sPar, sRaise, sNext, f2, f1, fNot, fAnd, fOr, fIf, fIsN, fNotN, fTup, fLst, fCall, fChain, fChain3, sFldD, aNil, aCons, okD, getV, bVal,
  bind_ok, bind_exc, toS_ok, toS_exc, seq_next, seq_ret, seq_brk, seq_cnt, seq_exc, isBl_bl, noxR_ok, noxS_next, noxS_ret, noxS_brk, noxS_cnt, add_int', sub_int', lt_int', le_int', gt_int', ge_int', neg_int', abs_int', min_int', max_int', len_tup, len_rol, mkTup_ok, fGc, idx_tup', idx_rol', idx_last', atR_0, atR_1, atR_2, atR_3, atR_4, atR_5, atR_6, atR_7, mkLst_ok, gc_same, gc_int, gc_bl, gc_str, gc_non, gc_pair, fdiv_pos, mod_pos, pow10,
  binD, cmpD, bfD, startD, endR, List.getElem?_cons_zero, List.getElem?_cons_succ, List.set_cons_zero, List.set_cons_succ, List.map_cons, List.map_nil, List.length_cons, List.length_nil, List.replicate, List.cons_append, List.nil_append,
  i_int_int, i_int_bool, i_int_str, i_int_tup, i_bl_int, i_bl_bool, i_bl_str, i_str_int, i_str_bool, i_str_str, i_non_int, i_non_bool, i_non_str, i_non_tup, i_tup_tup, i_tup_int, i_tup_bool, i_tup_str, if_true, Bool.false_eq_true, if_false, Bool.not_true, Bool.not_false, eq_int, Nat.reduceSub, Nat.reduceAdd, Bool.and_self, Bool.true_and, Bool.and_true, Bool.false_and, Bool.and_false, evI, sFor, iVal, itD, forD_big, forL, gSet, eq_pair, sAsg, gNames, setAll, sSto, fMt, mul_l, mul_r, eq_self, id, beq_self_eq_true, decide_true, decide_false, *])
theorem and_two (m k : Nat) : (2 * m) &&& (2 * k + 1) = 2 * (m &&& k) := by
  have h1 := @Nat.and_div_two (2 * m) (2 * k + 1)
  have h2 := @Nat.and_mod_two_eq_one (2 * m) (2 * k + 1)
  rw [show 2 * m / 2 = m by omega, show (2 * k + 1) / 2 = k by omega] at h1
  have h3 : ((2 * m) &&& (2 * k + 1)) % 2 ≠ 1 := fun e => by have := (h2.1 e).1; omega
  omega
theorem and_odd (m : Nat) : (2 * m + 1) &&& (2 * m) = 2 * m := by
  have h1 := @Nat.and_div_two (2 * m + 1) (2 * m)
  have h2 := @Nat.and_mod_two_eq_one (2 * m + 1) (2 * m)
  rw [show (2 * m + 1) / 2 = m by omega, show 2 * m / 2 = m by omega, Nat.and_self] at h1
  have h3 : ((2 * m + 1) &&& (2 * m)) % 2 ≠ 1 := fun e => by have := (h2.1 e).2; omega
  omega
theorem odd_co {a : Nat} (ha : a % 2 = 1) : ∀ m : Nat, 0 < m → m &&& (m - 1) = 0 → Nat.gcd a m = 1 := by
  intro m
  induction m using Nat.strongRecOn with
  | _ m ih =>
    intro h0 h
    rcases Nat.mod_two_eq_zero_or_one m with e | e
    · obtain ⟨x, rfl⟩ : ∃ x, m = 2 * x := ⟨m / 2, by omega⟩
      rw [show 2 * x - 1 = 2 * (x - 1) + 1 by omega, and_two] at h
      have i := ih x (by omega) (by omega) (by omega)
      have c2 : Nat.Coprime a 2 := by
        rw [Nat.coprime_comm, Nat.Coprime, Nat.gcd_rec, ha, Nat.gcd_one_left]
      exact Nat.Coprime.mul_right c2 i
    · obtain ⟨x, rfl⟩ : ∃ x, m = 2 * x + 1 := ⟨m / 2, by omega⟩
      rw [show 2 * x + 1 - 1 = 2 * x by omega, and_odd] at h
      rw [h, Nat.zero_add, Nat.gcd_one_right]
theorem low_bit (b : Nat) : 0 < b → b &&& (b - 1) = 0 → ∀ a : Nat, (a ||| b) - ((a ||| b) &&& ((a ||| b) - 1)) = Nat.gcd a b := by
  induction b using Nat.strongRecOn with
  | _ b ih =>
    intro h0 h a
    have o1 := @Nat.or_div_two a b
    have o2 := @Nat.or_mod_two_eq_one a b
    generalize hc : a ||| b = c at o1 o2
    by_cases e : c % 2 = 1
    · obtain ⟨x, rfl⟩ : ∃ x, c = 2 * x + 1 := ⟨c / 2, by omega⟩
      rw [show 2 * x + 1 - 1 = 2 * x by omega, and_odd]
      have g : Nat.gcd a b = 1 := by
        rcases o2.1 e with ea | eb
        · exact odd_co ea b h0 h
        · obtain ⟨y, rfl⟩ : ∃ y, b = 2 * y + 1 := ⟨b / 2, by omega⟩
          rw [show 2 * y + 1 - 1 = 2 * y by omega, and_odd] at h
          rw [h, Nat.zero_add, Nat.gcd_one_right]
      omega
    · have ea : a % 2 = 0 := by have := mt (fun h => o2.2 (.inl h)) e; omega
      have eb : b % 2 = 0 := by have := mt (fun h => o2.2 (.inr h)) e; omega
      obtain ⟨x, rfl⟩ : ∃ x, a = 2 * x := ⟨a / 2, by omega⟩
      obtain ⟨y, rfl⟩ : ∃ y, b = 2 * y := ⟨b / 2, by omega⟩
      rw [show 2 * y - 1 = 2 * (y - 1) + 1 by omega, and_two] at h
      have i := ih y (by omega) (by omega) (by omega) x
      rw [show 2 * x / 2 = x by omega, show 2 * y / 2 = y by omega] at o1
      rw [← o1] at i
      have cp : 0 < c := by
        have : y ≤ x ||| y := Nat.right_le_or
        omega
      obtain ⟨z, rfl⟩ : ∃ z, c = 2 * z := ⟨c / 2, by omega⟩
      rw [show 2 * z / 2 = z by omega] at i
      rw [show 2 * z - 1 = 2 * (z - 1) + 1 by omega, and_two, Nat.gcd_mul_left]
      have := @Nat.and_le_left z (z - 1)
      omega
theorem bnot_nn {x : Int} (h : 0 ≤ x) : ¬ 0 ≤ Builtin.bitNot x := by unfold Builtin.bitNot; omega
theorem band_nn {x y : Int} (hx : 0 ≤ x) (hy : 0 ≤ y) : Builtin.bitAnd x y = ((x.toNat &&& y.toNat : Nat) : Int) := by
  unfold Builtin.bitAnd
  rw [decide_eq_true hx, decide_eq_true hy]
theorem bor_nn {x y : Int} (hx : 0 ≤ x) (hy : 0 ≤ y) : Builtin.bitOr x y = ((x.toNat ||| y.toNat : Nat) : Int) := by
  unfold Builtin.bitOr Builtin.bitAnd
  rw [decide_eq_false (bnot_nn hx), decide_eq_false (bnot_nn hy)]
  simp only [Builtin.bitNot]
  rw [show -(-x - 1) - 1 = x by omega, show -(-y - 1) - 1 = y by omega]
  omega
theorem band_neg {c : Int} (h : 0 < c) : Builtin.bitAnd c (-c) = ((c.toNat - (c.toNat &&& (c.toNat - 1)) : Nat) : Int) := by
  unfold Builtin.bitAnd
  rw [decide_eq_true (show 0 ≤ c by omega), decide_eq_false (show ¬ 0 ≤ -c by omega)]
  have e : (Builtin.bitNot (-c)).toNat = c.toNat - 1 := by unfold Builtin.bitNot; omega
  rw [e]
  have := @Nat.and_le_left c.toNat (c.toNat - 1)
  show c - _ = _
  omega
theorem bits_gcd {a b : Int} (ha : 0 ≤ a) (hb : 0 < b) (h : Builtin.bitAnd b (b - 1) = 0) :
    Builtin.bitAnd (Builtin.bitOr a b) (-(Builtin.bitOr a b)) = (Int.gcd a b : Int) := by
  rw [band_nn (by omega) (by omega)] at h
  have h' : b.toNat &&& (b.toNat - 1) = 0 := by
    rw [show (b - 1).toNat = b.toNat - 1 by omega] at h
    omega
  have hc : 0 < Builtin.bitOr a b := by
    rw [bor_nn ha (by omega)]
    have : b.toNat ≤ a.toNat ||| b.toNat := Nat.right_le_or
    omega
  rw [band_neg hc, bor_nn ha (by omega), Int.toNat_natCast, low_bit b.toNat (by omega) h' a.toNat]
  congr 1
  unfold Int.gcd
  congr 1 <;> omega
theorem big_of {b : Int} {n : Nat} (h : Sm n b) (hn : n ≤ 20000) : b.natAbs < bigB := Nat.lt_of_lt_of_le h (Nat.pow_le_pow_right (by decide) hn)
noncomputable def μ1 (δ : Dv) : Nat := match (δ[1]? : Option (Option D)) with
  | some (some (D.int y)) => y.natAbs
  | _ => 0
theorem r_gcd (n : Nat) (S : Sto) {a b : Int} (ha : 0 ≤ a) (hb : 0 ≤ b) (hs : Sm 20000 b) : callD G T (n + 1) "greatest_divisor" [.int a, .int b] S = .ok (.int (Int.gcd a b)) S := by
  refine call_ret0 T_greatest_divisor rfl ?_
  unfold f_greatest_divisor c_greatest_divisor
  have ha' : ∀ (i j : Int) (S : Sto), bandD (.int i) (.int j) S = .ok (.int (Builtin.bitAnd i j)) S := fun _ _ _ => rfl
  have ho' : ∀ (i j : Int) (S : Sto), borD (.int i) (.int j) S = .ok (.int (Builtin.bitOr i j)) S := fun _ _ _ => rfl
  by_cases cp : 0 < b ∧ Builtin.bitAnd b (b - 1) = 0
  · have e := bits_gcd ha cp.1 cp.2
    have c1 : decide (0 < b) = true := decide_eq_true cp.1
    have c2 := cp.2
    clear cp ha hb hs
    walk_at "exh"
  have hc : exSs G (callD G T n) [.ite (.and (.cmp .gt (.v 1) (.k (.int 0))) (.cmp .eq (.bin .band (.v 1) (.bin .sub (.v 1) (.k (.int 1)))) (.k (.int 0)))) [.set 2 (.bin .bor (.v 0) (.v 1)), .ret (.bin .band (.v 2) (.neg (.v 2)))] []] [some (.int a), some (.int b), none, none] S = .next [some (.int a), some (.int b), none, none] S := by
    by_cases c1 : 0 < b
    · have c2 : (Builtin.bitAnd b (b - 1) == 0) = false := beq_eq_false_iff_ne.mpr fun h => cp ⟨c1, h⟩
      have c3 : decide (0 < b) = true := decide_eq_true c1
      clear cp ha hb hs c1
      walk_at "exh"
    · have c3 : decide (0 < b) = false := decide_eq_false c1
      clear cp ha hb hs c1
      walk_at "exh"
  clear cp ha' ho'
  show exSs G (callD G T n) ([.ite (.and (.cmp .gt (.v 1) (.k (.int 0))) (.cmp .eq (.bin .band (.v 1) (.bin .sub (.v 1) (.k (.int 1)))) (.k (.int 0)))) [.set 2 (.bin .bor (.v 0) (.v 1)), .ret (.bin .band (.v 2) (.neg (.v 2)))] []] ++ _) [some (.int a), some (.int b), none, none] S = _
  rw [exSs_app, hc, seq_next, exSs, exS, sSeq]
  refine while_down (μ := μ1) (P := fun δ S' => S' = S ∧ ∃ x y z, δ = [some (.int x), some (.int y), none, z] ∧ 0 ≤ x ∧ 0 ≤ y ∧ Int.gcd x y = Int.gcd a b) (Q := fun r => r.bind _ = _) ?_ bigB _ S ⟨rfl, a, b, none, rfl, ha, hb, rfl⟩ (big_of hs (Nat.le_refl _))
  rintro δ S' ⟨rfl, x, y, z, rfl, hx, hy, hg⟩
  by_cases c : y = 0
  · subst c
    refine .inl ⟨S', ?_, ?_⟩
    · walk_at "ex"
      simp
    · walk_at "ex"
      have e : x = (Int.gcd a b : Int) := by rw [← hg, Int.gcd_zero_right]; omega
      rw [e]
  · refine .inr ⟨S', ?_, [some (.int y), some (.int (x.fmod y)), none, some (.int (x.fmod y))], S', ?_, ⟨rfl, y, x.fmod y, _, rfl, hy, Int.fmod_nonneg_of_pos x (by omega), (gcd_turn x y).trans hg⟩, fmod_less x c⟩
    · walk_at "ex"
      simp [c]
    · simp only [exSs, exS, ev, evs, sSeq, sSet, f2, binD, getV, List.getElem?_cons_zero, List.getElem?_cons_succ, bind_ok, mod_ok c, toS_ok, seq_next, List.set_cons_zero, List.set_cons_succ, sNext]
noncomputable def frD (r : Rat) : D := .tup [.int r.num, .int (r.den : Int)]
theorem r_lowest (n : Nat) (S : Sto) {t b : Int} (hb : b ≠ 0) (hs : Sm 9000 b) : callD G T (n + 2) "lowest" [.int t, .int b] S = .ok (frD (Rat.divInt t b)) S := by
  refine call_ret0 T_lowest rfl ?_
  unfold f_lowest c_lowest
  have e0 : Sm 20000 (if b < 0 then -b else b) := by
    split
    · exact hs.neg.mono (by decide)
    · exact hs.mono (by decide)
  have h1 := r_gcd n S (a := if t < 0 then -t else t) (b := if b < 0 then -b else b) (by split <;> omega) (by split <;> omega) e0
  have eg : (Int.gcd (if t < 0 then -t else t) (if b < 0 then -b else b) : Int) = (Int.gcd t b : Int) := by
    congr 1
    split <;> split <;> simp [Int.gcd_neg, Int.neg_gcd]
  rw [eg] at h1
  have g0 := gcd_pos (t := t) hb
  have sg : Sm 9000 (Int.gcd t b : Int) := hs.of_le (by have := gcd_le (t := t) hb; omega)
  have k1 := low_num (t := t) hb
  have k2 := low_den (t := t) hb
  unfold frD
  rw [← k1, ← k2]
  by_cases c : b < 0
  · rw [if_pos c]
    walk_at "ex"
    simp only [h1, toS_ok, seq_next]
    walk_at "ex"
    simp only [c, decide_true, if_true, seq_next]
    walk_at "ex"
    simp only [fdiv_ok (show -(Int.gcd t b : Int) ≠ 0 by omega) sg.neg (Nat.le_refl _), bind_ok]
    walk_at "ex"
  · rw [if_neg c]
    walk_at "ex"
    simp only [h1, toS_ok, seq_next]
    walk_at "ex"
    simp only [c, decide_false, Bool.false_eq_true, if_false, seq_next]
    walk_at "ex"
    simp only [fdiv_ok (show (Int.gcd t b : Int) ≠ 0 by omega) sg (Nat.le_refl _), bind_ok]
    walk_at "ex"
theorem r_cell (n : Nat) (S : Sto) (ns : List Int) {k : Int} (hk : 0 ≤ k) : callD G T (n + 1) "_law_cell" [.rol (ns.map D.int), .int k] S = .ok (.int (ns.getD k.toNat 0)) S := by
  refine call_ret0 T__law_cell rfl ?_
  unfold f__law_cell c__law_cell
  by_cases c : k.toNat < ns.length
  · have e1 : decide (k < ((ns.map D.int).length : Int)) = true := by simp; omega
    have e2 : atI (ns.map D.int) k = some (.int (ns.getD k.toNat 0)) := by
      have e : k = ((k.toNat : Nat) : Int) := by omega
      have := atI_nat (xs := ns.map D.int) (j := k.toNat) (v := .int (ns.getD k.toNat 0)) (by rw [List.getElem?_map, List.getElem?_eq_getElem c]; simp [c])
      rw [← e] at this
      exact this
    have e3 : atR (ns.map D.int) k S = .ok (.int (ns.getD k.toNat 0)) S := by unfold atR; rw [e2]
    clear c hk
    walk_at "exh"
  · have e1 : decide (k < ((ns.map D.int).length : Int)) = false := by simp; omega
    have e2 : ns.getD k.toNat 0 = 0 := by
      rw [List.getD_eq_getElem?_getD, List.getElem?_eq_none (by omega)]
      rfl
    clear c hk
    walk_at "exh"
theorem r_divisor (n : Nat) (S : Sto) {a b : Int} (hs : Sm 20000 b) : callD G T (n + 1) "_law_divisor" [.int a, .int b] S = .ok (.int (Int.gcd a b)) S := by
  refine call_ret0 T__law_divisor rfl ?_
  unfold f__law_divisor c__law_divisor
  rw [exSs, exS, sSeq]
  refine while_down (μ := μ1) (P := fun δ S' => S' = S ∧ ∃ x y, δ = [some (.int x), some (.int y)] ∧ Int.gcd x y = Int.gcd a b) (Q := fun r => r.bind _ = _) ?_ bigB _ S ⟨rfl, a, b, rfl, rfl⟩ (big_of hs (Nat.le_refl _))
  rintro δ S' ⟨rfl, x, y, rfl, hg⟩
  by_cases c : y = 0
  · subst c
    refine .inl ⟨S', ?_, ?_⟩
    · walk_at "ex"
      simp
    · walk_at "ex"
      have e : (if x < 0 then -x else x) = (Int.gcd a b : Int) := by rw [← hg, Int.gcd_zero_right]; split <;> omega
      rw [e]
  · refine .inr ⟨S', ?_, [some (.int y), some (.int (x.fmod y))], S', ?_, ⟨rfl, y, x.fmod y, rfl, (gcd_turn x y).trans hg⟩, fmod_less x c⟩
    · walk_at "ex"
      simp [c]
    · have e := mod_ok (S := S') (i := x) c
      clear hg hs c
      walk_at "exh"
theorem r_law_made (n : Nat) (S : Sto) {t b : Int} (hb : b ≠ 0) (hs : Sm 9000 b) : callD G T (n + 2) "_law_made" [.int t, .int b] S = .ok (frD (Rat.divInt t b)) S := by
  refine call_ret0 T__law_made rfl ?_
  unfold f__law_made c__law_made
  have h1 := r_divisor n S (a := t) (b := b) (hs.mono (by decide))
  have g0 := gcd_pos (t := t) hb
  have sg : Sm 9000 (Int.gcd t b : Int) := hs.of_le (by have := gcd_le (t := t) hb; omega)
  have k1 := low_num (t := t) hb
  have k2 := low_den (t := t) hb
  unfold frD
  rw [← k1, ← k2]
  by_cases c : b < 0
  · rw [if_pos c]
    have e1 : decide (b < 0) = true := by simpa using c
    have e2 := fun i => fdiv_ok (S := S) (i := i) (show 0 - (Int.gcd t b : Int) ≠ 0 by omega) (by rw [Int.zero_sub]; exact sg.neg) (Nat.le_refl _)
    rw [← Int.zero_sub]
    clear k1 k2 hb hs sg g0 c
    walk_at "exh"
  · rw [if_neg c]
    have e1 : decide (b < 0) = false := by simpa using c
    have e2 := fun i => fdiv_ok (S := S) (i := i) (show (Int.gcd t b : Int) ≠ 0 by omega) sg (Nat.le_refl _)
    clear k1 k2 hb hs sg g0 c
    walk_at "exh"
theorem r_plus (n : Nat) (S : Sto) {k l : Nat} {a b : Rat} (ha : Sz k a) (hb : Sz l b) (h : k + l ≤ 9000 := by decide) : callD G T (n + 3) "plus" [frD a, frD b] S = .ok (frD (a + b)) S := by
  refine call_ret0 T_plus rfl ?_
  unfold f_plus c_plus
  have l := r_lowest n S (t := a.num * (b.den : Int) + b.num * (a.den : Int)) (b := (a.den : Int) * (b.den : Int)) (den_mul_ne a b) ((ha.2.mul hb.2).mono h)
  rw [add_rat] at l
  have e1 := mul_sm (S := S) ha.1 hb.2 (by omega)
  have e2 := mul_sm (S := S) hb.1 ha.2 (by omega)
  have e3 := mul_sm (S := S) ha.2 hb.2 (by omega)
  rw [show frD a = .tup [.int a.num, .int (a.den : Int)] from rfl, show frD b = .tup [.int b.num, .int (b.den : Int)] from rfl]
  clear ha hb h
  walk_at "exh"
theorem r_times (n : Nat) (S : Sto) {k l : Nat} {a b : Rat} (ha : Sz k a) (hb : Sz l b) (h : k + l ≤ 9000 := by decide) : callD G T (n + 3) "times" [frD a, frD b] S = .ok (frD (a * b)) S := by
  refine call_ret0 T_times rfl ?_
  unfold f_times c_times
  have l := r_lowest n S (t := a.num * b.num) (b := (a.den : Int) * (b.den : Int)) (den_mul_ne a b) ((ha.2.mul hb.2).mono h)
  rw [mul_rat] at l
  have e1 := mul_sm (S := S) ha.1 hb.1 (by omega)
  have e3 := mul_sm (S := S) ha.2 hb.2 (by omega)
  rw [show frD a = .tup [.int a.num, .int (a.den : Int)] from rfl, show frD b = .tup [.int b.num, .int (b.den : Int)] from rfl]
  clear ha hb h
  walk_at "exh"
structure Ru where
  g : Rat
  p : Rat
  a : Rat
  q : Rat
  b : Rat
noncomputable abbrev Va := Rat × Rat
noncomputable def ruD (r : Ru) : D := .tup [frD r.g, frD r.p, frD r.a, frD r.q, frD r.b]
noncomputable def vaD (v : Va) : D := .tup [frD v.1, frD v.2]
noncomputable def lay (r : Ru) (v : Va) : Va := (r.g * v.1 + r.p * v.2 + r.a, r.q * v.2 + r.b)
structure RSz (n : Nat) (r : Ru) : Prop where
  g : Sz n r.g
  p : Sz n r.p
  a : Sz n r.a
  q : Sz n r.q
  b : Sz n r.b
noncomputable def VSz (n : Nat) (v : Va) : Prop := Sz n v.1 ∧ Sz n v.2
noncomputable def idR : Ru := ⟨1, 0, 0, 1, 0⟩
noncomputable def grs : List D := [vaD (0, 0), vaD (0, 1), vaD (1, 1)]
theorem Ru.eq {r s : Ru} : r = s ↔ r.g = s.g ∧ r.p = s.p ∧ r.a = s.a ∧ r.q = s.q ∧ r.b = s.b := by
  cases r; cases s; simp
instance : DecidableEq Ru := fun r s => decidable_of_iff _ (Ru.eq (r := r) (s := s)).symm
theorem RSz.mono {k l : Nat} {r : Ru} (h : RSz k r) (e : k ≤ l) : RSz l r := ⟨h.g.mono e, h.p.mono e, h.a.mono e, h.q.mono e, h.b.mono e⟩
theorem VSz.mono {k l : Nat} {v : Va} (h : VSz k v) (e : k ≤ l) : VSz l v := ⟨h.1.mono e, h.2.mono e⟩
theorem r_laid (n : Nat) (S : Sto) {k l : Nat} {r : Ru} {v : Va} (h : RSz k r) (hv : VSz l v) (hk : 3 * k + 2 * l + 2 ≤ 9000 := by decide) : callD G T (n + 4) "laid" [ruD r, vaD v] S = .ok (vaD (lay r v)) S := by
  refine call_ret0 T_laid rfl ?_
  unfold f_laid c_laid ruD vaD lay
  have t1 := r_times n S h.g hv.1 (by omega)
  have t2 := r_times n S h.p hv.2 (by omega)
  have t3 := r_plus n S (h.g.mul hv.1) (h.p.mul hv.2) (by omega)
  have t4 := r_plus n S ((h.g.mul hv.1).add (h.p.mul hv.2)) h.a (by omega)
  have t5 := r_times n S h.q hv.2 (by omega)
  have t6 := r_plus n S (h.q.mul hv.2) h.b (by omega)
  clear h hv hk
  walk_at "exh"
noncomputable def beh (f s : Ru) : Ru := ⟨s.g * f.g, s.g * f.p + s.p * f.q, (lay s (f.a, f.b)).1, s.q * f.q, (lay s (f.a, f.b)).2⟩
theorem r_behind (n : Nat) (S : Sto) {k l : Nat} {f s : Ru} (h : RSz k f) (e : RSz l s) (hk : 2 * k + 3 * l + 2 ≤ 9000 := by decide) : callD G T (n + 5) "behind" [ruD f, ruD s] S = .ok (ruD (beh f s)) S := by
  refine call_ret0 T_behind rfl ?_
  have t0 := r_laid n S e (v := (f.a, f.b)) ⟨h.a, h.b⟩ (by omega)
  unfold f_behind c_behind beh
  have t1 := r_times (n + 1) S e.g h.g (by omega)
  have t2 := r_times (n + 1) S e.g h.p (by omega)
  have t3 := r_times (n + 1) S e.p h.q (by omega)
  have t4 := r_plus (n + 1) S (e.g.mul h.p) (e.p.mul h.q) (by omega)
  have t5 := r_times (n + 1) S e.q h.q (by omega)
  generalize lay s (f.a, f.b) = w at t0 ⊢
  unfold ruD vaD at *
  clear h e hk
  walk_at "exh"
theorem beh_assoc (a b c : Ru) : beh (beh a b) c = beh a (beh b c) := by
  rw [Ru.eq]
  simp only [beh, lay]
  grind
theorem beh_id (a : Ru) : beh a idR = a := by
  rw [Ru.eq]
  simp only [beh, lay, idR]
  grind
theorem id_beh (a : Ru) : beh idR a = a := by
  rw [Ru.eq]
  simp only [beh, lay, idR]
  grind
noncomputable def mixI (c k : Int) : Int := ((c + 7919 * k + 1) * 48271 % 2147483647) * ((c + 7919 * k + 1) * 48271 % 2147483647 / 1009 + 69621) % 2147483647
theorem r_mixed (n : Nat) (S : Sto) (c k : Int) : callD G T (n + 1) "_law_mixed" [.int c, .int k] S = .ok (.int (mixI c k)) S := by
  refine call_ret0 T__law_mixed rfl ?_
  unfold f__law_mixed c__law_mixed mixI
  have h0 : 0 ≤ (c + 7919 * k + 1) * 48271 % 2147483647 := Int.emod_nonneg _ (by decide)
  have h1 : (c + 7919 * k + 1) * 48271 % 2147483647 < 2147483647 := Int.emod_lt_of_pos _ (by decide)
  generalize hg : (c + 7919 * k + 1) * 48271 % 2147483647 = m at h0 h1
  walk_at "exh"
noncomputable def Dy (n : Nat) (a : Rat) : Prop := ∃ m : Int, a * ((16 ^ n : Int) : Rat) = (m : Rat) ∧ 3 * m ≤ 144 ^ n ∧ -(144 ^ n) ≤ 3 * m
theorem pow16 (n : Nat) : (0 : Int) < 16 ^ n := Int.pow_pos (by decide)
theorem pow144 (n : Nat) : (0 : Int) < 144 ^ n := Int.pow_pos (by decide)
theorem dy_0 (n : Nat) : Dy n 0 := ⟨0, by simp [Rat.zero_mul], by have := pow144 n; omega, by have := pow144 n; omega⟩
theorem pow_le : ∀ n : Nat, 1 ≤ n → 3 * (16 : Int) ^ n ≤ 144 ^ n
  | 1, _ => by decide
  | n + 2, _ => by
    have := pow_le (n + 1) (by omega)
    have := pow16 (n + 1)
    rw [Int.pow_succ 16 (n + 1), Int.pow_succ 144 (n + 1)]
    omega
theorem pow_lel {a b : Int} (h0 : 0 ≤ a) (h : a ≤ b) : ∀ n : Nat, a ^ n ≤ b ^ n
  | 0 => by simp
  | n + 1 => by
    rw [Int.pow_succ, Int.pow_succ]
    exact Int.mul_le_mul (pow_lel h0 h n) h h0 (Int.pow_nonneg (by omega))
theorem abs_mul {x y X Y : Int} (hx : 3 * x ≤ X) (hx' : -X ≤ 3 * x) (hy : 3 * y ≤ Y) (hy' : -Y ≤ 3 * y) : 9 * (x * y) ≤ X * Y ∧ -(X * Y) ≤ 9 * (x * y) := by
  have a1 : 0 ≤ (X - 3 * x) * (Y + 3 * y) := Int.mul_nonneg (by omega) (by omega)
  have a2 : 0 ≤ (X + 3 * x) * (Y - 3 * y) := Int.mul_nonneg (by omega) (by omega)
  have a3 : 0 ≤ (X + 3 * x) * (Y + 3 * y) := Int.mul_nonneg (by omega) (by omega)
  have a4 : 0 ≤ (X - 3 * x) * (Y - 3 * y) := Int.mul_nonneg (by omega) (by omega)
  constructor <;> grind
theorem dy3 {k l : Nat} {x1 x2 y1 y2 z : Rat} (hk : 1 ≤ k) (a1 : Dy k x1) (a2 : Dy k x2) (b1 : Dy l y1) (b2 : Dy l y2) (c : Dy l z) : Dy (k + l) (y1 * x1 + y2 * x2 + z) := by
  obtain ⟨m1, e1, u1, v1⟩ := a1
  obtain ⟨m2, e2, u2, v2⟩ := a2
  obtain ⟨n1, f1, s1, t1⟩ := b1
  obtain ⟨n2, f2, s2, t2⟩ := b2
  obtain ⟨o, g, s3, t3⟩ := c
  have hp := pow_le k hk
  have h16 := pow16 k
  refine ⟨m1 * n1 + m2 * n2 + 16 ^ k * o, ?_, ?_⟩
  · rw [Int.pow_add]
    simp only [Rat.intCast_add, Rat.intCast_mul]
    rw [← e1, ← e2, ← f1, ← f2, ← g]
    generalize ((16 ^ k : Int) : Rat) = p
    generalize ((16 ^ l : Int) : Rat) = q
    grind
  · rw [Int.pow_add]
    have q1 := abs_mul u1 v1 s1 t1
    have q2 := abs_mul u2 v2 s2 t2
    have q3 := abs_mul (x := 16 ^ k) hp (by omega) s3 t3
    generalize (144 : Int) ^ k * 144 ^ l = P at *
    omega
theorem Dy.sz {n : Nat} {a : Rat} (h : Dy n a) : Sz (8 * n + 1) a := by
  obtain ⟨m, e, u, v⟩ := h
  have h16 := pow16 n
  have ea : a = Rat.divInt m (16 ^ n) := by
    rw [Rat.divInt_eq_div, ← e]
    have : ((16 ^ n : Int) : Rat) ≠ 0 := by
      intro z
      have := Rat.intCast_inj.mp (z.trans (show (0 : Rat) = ((0 : Int) : Rat) from rfl))
      omega
    generalize ((16 ^ n : Int) : Rat) = p at *
    grind
  rw [ea]
  have p1 : (144 : Int) ^ n ≤ 2 ^ (8 * n) := by
    rw [Int.pow_mul]
    exact pow_lel (by decide) (by decide) n
  have p2 : (16 : Int) ^ n ≤ 2 ^ (8 * n) := by
    rw [Int.pow_mul]
    exact pow_lel (by decide) (by decide) n
  have p3 := pow144 n
  refine sz_divInt (sm_of_lt ?_ ?_) (sm_of_lt ?_ ?_) (by omega) <;> rw [Int.pow_succ] <;> omega
structure DyR (n : Nat) (r : Ru) : Prop where
  g : Dy n r.g
  p : Dy n r.p
  a : Dy n r.a
  q : Dy n r.q
  b : Dy n r.b
theorem DyR.sz {n : Nat} {r : Ru} (h : DyR n r) : RSz (8 * n + 1) r := ⟨h.g.sz, h.p.sz, h.a.sz, h.q.sz, h.b.sz⟩
theorem DyR.beh {k l : Nat} {f s : Ru} (hk : 1 ≤ k) (h : DyR k f) (e : DyR l s) : DyR (k + l) (beh f s) := by
  refine ⟨?_, ?_, ?_, ?_, ?_⟩
  · have := dy3 hk h.g (dy_0 k) e.g (dy_0 l) (dy_0 l)
    rwa [Rat.zero_mul, Rat.add_zero, Rat.add_zero] at this
  · have := dy3 hk h.p h.q e.g e.p (dy_0 l)
    rwa [Rat.add_zero] at this
  · exact dy3 hk h.a h.b e.g e.p e.a
  · have := dy3 hk h.q (dy_0 k) e.q (dy_0 l) (dy_0 l)
    rwa [Rat.zero_mul, Rat.add_zero, Rat.add_zero] at this
  · have := dy3 hk h.b (dy_0 k) e.q (dy_0 l) e.b
    rwa [Rat.zero_mul, Rat.add_zero] at this
theorem dy_16 {t : Int} (h0 : -16 ≤ t) (h1 : t ≤ 16) : Dy 1 (Rat.divInt t 16) := by
  refine ⟨t, ?_, by omega, by omega⟩
  rw [Rat.divInt_eq_div]
  show (t : Rat) / ((16 : Int) : Rat) * ((16 ^ 1 : Int) : Rat) = t
  have : ((16 : Int) : Rat) ≠ 0 := by decide +kernel
  rw [show (16 ^ 1 : Int) = 16 from rfl]
  generalize ((16 : Int) : Rat) = p at *
  grind
theorem id_dy : DyR 1 idR := by
  have e1 : (1 : Rat) = Rat.divInt 16 16 := by decide +kernel
  refine ⟨?_, dy_0 1, dy_0 1, ?_, dy_0 1⟩
  · show Dy 1 1
    rw [e1]; exact dy_16 (by decide) (by decide)
  · show Dy 1 1
    rw [e1]; exact dy_16 (by decide) (by decide)
noncomputable def pr : List Ru → Ru
  | [] => idR
  | r :: rs => beh r (pr rs)
theorem pr_app : ∀ a b : List Ru, pr (a ++ b) = beh (pr a) (pr b)
  | [], b => (id_beh _).symm
  | r :: a, b => by
    show beh r (pr (a ++ b)) = beh (beh r (pr a)) (pr b)
    rw [pr_app a b, beh_assoc]
theorem pr_one (r : Ru) : pr [r] = r := beh_id r
theorem pr_dy : ∀ {rs : List Ru}, (∀ r ∈ rs, DyR 1 r) → DyR (rs.length + 1) (pr rs)
  | [], _ => id_dy
  | r :: rs, h => by
    have := (h r List.mem_cons_self).beh (by decide) (pr_dy (rs := rs) fun x hx => h x (List.mem_cons_of_mem _ hx))
    rw [List.length_cons]
    rwa [Nat.add_comm 1] at this
noncomputable def str (rs : List Ru) (lo hi : Nat) : List Ru := (rs.drop lo).take (hi - lo)
theorem str_split {rs : List Ru} {lo m hi : Nat} (h1 : lo ≤ m) (h2 : m ≤ hi) : str rs lo m ++ str rs m hi = str rs lo hi := by
  unfold str
  have e : hi - lo = (m - lo) + (hi - m) := by omega
  rw [e, List.take_add, List.drop_drop, show lo + (m - lo) = m by omega]
theorem str_one {rs : List Ru} {lo : Nat} (h : lo < rs.length) : str rs lo (lo + 1) = [rs[lo]] := by
  unfold str
  rw [show lo + 1 - lo = 1 by omega, List.drop_eq_getElem_cons h]
  rfl
theorem str_all (rs : List Ru) : str rs 0 rs.length = rs := by
  unfold str
  simp
theorem str_mem {rs : List Ru} {lo hi : Nat} {r : Ru} (h : r ∈ str rs lo hi) : r ∈ rs := List.mem_of_mem_drop (List.mem_of_mem_take h)
theorem str_len {rs : List Ru} {lo hi : Nat} : (str rs lo hi).length ≤ hi - lo := by
  unfold str
  rw [List.length_take]
  omega
theorem pr_sz {rs : List Ru} {n : Nat} (h : ∀ r ∈ rs, DyR 1 r) (hl : rs.length ≤ n) : RSz (8 * n + 9) (pr rs) := (pr_dy h).sz.mono (by omega)
theorem str_set {rs : List Ru} {k lo hi : Nat} {r : Ru} (h : k < lo ∨ hi ≤ k) : str (rs.set k r) lo hi = str rs lo hi := by
  unfold str
  rcases h with h | h
  · rw [List.drop_set_of_lt h]
  · by_cases c : k < lo
    · rw [List.drop_set_of_lt c]
    · rw [List.drop_set, if_neg (by omega), List.take_set_of_le (by omega)]
section
variable {S : Sto} {n : Nat} {d : D} {k : List Key} {kvs : List (D × D)} {e : D}
theorem tget_run {y : D} (h : S[n]? = some (.dit kvs)) (hd : tkey e = some k) (hk : lkT kvs k = some y) : idxF (.ref n) e S = .ok y S := by
  show idxB (.ref n) e S = _
  unfold idxB
  rw [dit_at h]
  dsimp only
  rw [hd]
  dsimp only
  rw [hk]
theorem tin_run {neg : Bool} (h : S[n]? = some (.dit kvs)) (hd : tkey e = some k) : memB neg e (.ref n) S = .ok (.bl (if neg then !(lkT kvs k).isSome else (lkT kvs k).isSome)) S := by
  unfold memB
  rw [dit_at h]
  dsimp only
  rw [hd]
theorem tput_run {is : List D} (h : S[n]? = some (.dit kvs)) (hd : tkeys is = some k) (h1 : kvs.length < lim) (h2 : is.length ≤ lim) : tputD (.ref n) is d S = some (S.set n (.dit (putT kvs k d))) := by
  unfold tputD
  rw [dit_at h, hd]
  exact if_pos ⟨h1, h2⟩
theorem mtX_tit {fo : Fd} {fa : Fa} {S1 S2 : Sto} {δ : Dv} {es : List D} (m : Mt) (hm : m = .pop ∨ m = .clear) (e : fo δ S = .ok (.ref n) S1) (h : S1[n]? = some (.dit kvs)) (ea : fa δ S1 = .ok es S2) : fMtX m fo fa δ S = tmtD m (.ref n) es S2 := by
  rcases hm with rfl | rfl
  · show fMtB .pop fo fa δ S = _
    unfold fMtB
    rw [e, bind_ok, dit_at h, if_pos (show (some kvs).isSome = true from rfl), ea, bind_ok]
  · show fMtB .clear fo fa δ S = _
    unfold fMtB
    rw [e, bind_ok, dit_at h, if_pos (show (some kvs).isSome = true from rfl), ea, bind_ok]
theorem mtX_popL {fo : Fd} {fa : Fa} {S1 S2 : Sto} {δ : Dv} {es xs : List D} (e : fo δ S = .ok (.ref n) S1) (h : S1[n]? = some (.lst xs)) (ea : fa δ S1 = .ok es S2) : fMtX .pop fo fa δ S = mtD .pop (.ref n) es S2 := by
  show fMtB .pop fo fa δ S = _
  unfold fMtB
  rw [e, bind_ok, dit_lst h, if_neg (by decide), isLstR_ref h, if_pos rfl, ea, bind_ok]
theorem mtX_ins {fo : Fd} {fa : Fa} {S1 S2 : Sto} {δ : Dv} {es xs : List D} (e : fo δ S = .ok (.ref n) S1) (h : S1[n]? = some (.lst xs)) (ea : fa δ S1 = .ok es S2) : fMtX .insert fo fa δ S = mtD .insert (.ref n) es S2 := by
  show fMt .insert fo fa δ S = _
  unfold fMt
  rw [e, bind_ok, isLstR_ref h, if_pos rfl, ea, bind_ok]
theorem tclear_run (h : S[n]? = some (.dit kvs)) : tmtD .clear (.ref n) [] S = .ok .non (S.set n (.dit [])) := by
  show (match ditD (.ref n) S with | some _ => R.ok D.non (S.set n (.dit [])) | none => .fail) = _
  rw [dit_at h]
theorem tpop_run {y : D} (h : S[n]? = some (.dit kvs)) (hd : tkey e = some k) (hk : lkT kvs k = some y) : tmtD .pop (.ref n) [e] S = .ok y (S.set n (.dit (dropT kvs k))) := by
  show (match ditD (.ref n) S, tkey e with
    | some kvs, some k => (match lkT kvs k with | some x => R.ok x (S.set n (.dit (dropT kvs k))) | none => .fail)
    | _, _ => .fail) = _
  rw [dit_at h, hd]
  dsimp only
  rw [hk]
end
noncomputable def ke (x : Nat × Nat) : D := .tup [.int (x.1 : Nat), .int (x.2 : Nat)]
noncomputable def kk (x : Nat × Nat) : List Key := [.inl (x.1 : Nat), .inl (x.2 : Nat)]
noncomputable def ktD (rs : List Ru) (ks : List (Nat × Nat)) : List (D × D) := ks.map fun x => (ke x, ruD (pr (str rs x.1 x.2)))
theorem tkey_ke (x : Nat × Nat) : tkey (ke x) = some (kk x) := rfl
theorem ke_iff {x y : Nat × Nat} : (tkey (ke x) = some (kk y)) ↔ x = y := by
  rw [tkey_ke]
  constructor
  · intro z
    have := Option.some.inj z
    unfold kk at this
    simp at this
    exact Prod.ext (by omega) (by omega)
  · rintro rfl
    rfl
theorem lk_kt {rs : List Ru} {ks : List (Nat × Nat)} {y : Nat × Nat} : lkT (ktD rs ks) (kk y) = if y ∈ ks then some (ruD (pr (str rs y.1 y.2))) else none := by
  unfold lkT ktD
  induction ks with
  | nil => rfl
  | cons x ks ih =>
    rw [List.map_cons, List.find?_cons]
    by_cases c : x = y
    · subst c
      rw [decide_eq_true (ke_iff.mpr rfl), if_pos List.mem_cons_self]
      rfl
    · rw [decide_eq_false (fun z => c (ke_iff.mp z))]
      dsimp only
      rw [ih]
      by_cases m : y ∈ ks
      · rw [if_pos m, if_pos (List.mem_cons_of_mem _ m)]
      · rw [if_neg m, if_neg (fun z => (List.mem_cons.mp z).elim (fun z => c z.symm) m)]
theorem put_kt {rs : List Ru} {ks : List (Nat × Nat)} {y : Nat × Nat} (h : y ∉ ks) : putT (ktD rs ks) (kk y) (ruD (pr (str rs y.1 y.2))) = ktD rs (ks ++ [y]) := by
  unfold putT
  rw [if_neg]
  · unfold ktD
    rw [List.map_append]
    rfl
  · unfold ktD
    rw [List.any_map, List.any_eq_true]
    rintro ⟨x, hx, e⟩
    have := ke_iff.mp (of_decide_eq_true e)
    exact h (this ▸ hx)
theorem drop_kt {rs : List Ru} {ks : List (Nat × Nat)} {y : Nat × Nat} : dropT (ktD rs ks) (kk y) = ktD rs (ks.filter fun x => decide (x ≠ y)) := by
  unfold dropT ktD
  rw [List.filter_map]
  congr 1
  refine List.filter_congr fun x _ => ?_
  simp only [Function.comp, decide_eq_decide]
  exact not_congr ke_iff
structure Kp (S : Sto) (a r h : Nat) (rs : List Ru) (ks : List (Nat × Nat)) (p : Int) : Prop where
  ins : S[a]? = some (.ins "Keeper" [("row", .ref r), ("kept", .ref h), ("products", .int p)])
  row : S[r]? = some (.lst (rs.map ruD))
  kept : S[h]? = some (.dit (ktD rs ks))
  ok : ∀ x ∈ ks, x.1 + 2 ≤ x.2 ∧ x.2 ≤ rs.length
  nod : ks.Nodup
noncomputable def Fr (S S' : Sto) (a r h : Nat) : Prop := ∀ (j : Nat) (o : O), S[j]? = some o → j ≠ a → j ≠ r → j ≠ h → S'[j]? = some o
theorem lt_of {S : Sto} {j : Nat} {o : O} (h : S[j]? = some o) : j < S.length := (List.getElem?_eq_some_iff.mp h).1
theorem set_get_ne {S : Sto} {i j : Nat} {o : O} (h : i ≠ j) : (S.set i o)[j]? = S[j]? := List.getElem?_set_ne h
theorem set_get {S : Sto} {i : Nat} {o o' : O} (h : S[i]? = some o') : (S.set i o)[i]? = some o := by
  rw [List.getElem?_set_self (lt_of h)]
theorem Fr.refl {S : Sto} {a r h : Nat} : Fr S S a r h := fun _ _ q _ _ _ => q
theorem Fr.trans {S S' S'' : Sto} {a r h : Nat} (x : Fr S S' a r h) (y : Fr S' S'' a r h) : Fr S S'' a r h := fun j o q h1 h2 h3 => y j o (x j o q h1 h2 h3) h1 h2 h3
theorem g_ke : G.ins "Keeper" = true ∧ G.fld "Keeper" "row" = true ∧ G.fld "Keeper" "kept" = true ∧ G.fld "Keeper" "products" = true := ⟨by kernel_rfl, by kernel_rfl, by kernel_rfl, by kernel_rfl⟩
section
variable {S : Sto} {a r h : Nat} {rs : List Ru} {ks : List (Nat × Nat)} {p : Int}
theorem Kp.ar (K : Kp S a r h rs ks p) : a ≠ r := by
  rintro rfl
  have := K.ins.symm.trans K.row
  cases this
theorem Kp.ah (K : Kp S a r h rs ks p) : a ≠ h := by
  rintro rfl
  have := K.ins.symm.trans K.kept
  cases this
theorem Kp.rh (K : Kp S a r h rs ks p) : r ≠ h := by
  rintro rfl
  have := K.row.symm.trans K.kept
  cases this
theorem Kp.fr (K : Kp S a r h rs ks p) {δ : Dv} {fo : Fd} (e : fo δ S = .ok (.ref a) S) : fFld G "row" fo δ S = .ok (.ref r) S := fld_run e K.ins g_ke.1 g_ke.2.1 rfl
theorem Kp.fk (K : Kp S a r h rs ks p) {δ : Dv} {fo : Fd} (e : fo δ S = .ok (.ref a) S) : fFld G "kept" fo δ S = .ok (.ref h) S := fld_run e K.ins g_ke.1 g_ke.2.2.1 rfl
theorem Kp.fp (K : Kp S a r h rs ks p) {δ : Dv} {fo : Fd} (e : fo δ S = .ok (.ref a) S) : fFld G "products" fo δ S = .ok (.int p) S := fld_run e K.ins g_ke.1 g_ke.2.2.2 rfl
theorem Kp.setP (K : Kp S a r h rs ks p) (q : Int) : setFD G "products" (.ref a) (.int q) S = some (S.set a (.ins "Keeper" [("row", .ref r), ("kept", .ref h), ("products", .int q)])) ∧ Kp (S.set a (.ins "Keeper" [("row", .ref r), ("kept", .ref h), ("products", .int q)])) a r h rs ks q ∧ Fr S (S.set a (.ins "Keeper" [("row", .ref r), ("kept", .ref h), ("products", .int q)])) a r h :=
  ⟨setF_run K.ins g_ke.1 g_ke.2.2.2 (by show 3 < 1000; decide), ⟨set_get K.ins, by rw [set_get_ne K.ar]; exact K.row, by rw [set_get_ne K.ah]; exact K.kept, K.ok, K.nod⟩, fun j o q h1 _ _ => by rw [set_get_ne (Ne.symm h1)]; exact q⟩
theorem Kp.setK (K : Kp S a r h rs ks p) {ks' : List (Nat × Nat)} (ok : ∀ x ∈ ks', x.1 + 2 ≤ x.2 ∧ x.2 ≤ rs.length) (nod : ks'.Nodup) : Kp (S.set h (.dit (ktD rs ks'))) a r h rs ks' p ∧ Fr S (S.set h (.dit (ktD rs ks'))) a r h :=
  ⟨⟨by rw [set_get_ne K.ah.symm]; exact K.ins, by rw [set_get_ne K.rh.symm]; exact K.row, set_get K.kept, ok, nod⟩, fun j o q _ _ h3 => by rw [set_get_ne (Ne.symm h3)]; exact q⟩
theorem Kp.at (K : Kp S a r h rs ks p) {i : Nat} (hi : i < rs.length) : idxF (.ref r) (.int (i : Nat)) S = .ok (ruD rs[i]) S := by
  rw [idx_ref' K.row]
  unfold atR
  rw [atI_nat (j := i) (v := ruD rs[i]) (by rw [List.getElem?_map, List.getElem?_eq_getElem hi]; rfl)]
end
noncomputable def nd : Nat → Nat → Nat → List (Nat × Nat) → List (Nat × Nat)
  | 0, _, _, _ => []
  | j + 1, lo, hi, ks => if hi - lo = 1 ∨ (lo, hi) ∈ ks then [] else nd j lo ((lo + hi) / 2) ks ++ nd j ((lo + hi) / 2) hi (ks ++ nd j lo ((lo + hi) / 2) ks) ++ [(lo, hi)]
theorem nd_one {j lo hi : Nat} {ks : List (Nat × Nat)} (h : hi - lo = 1) : nd j lo hi ks = [] := by
  cases j with
  | zero => rfl
  | succ j => unfold nd; rw [if_pos (.inl h)]
theorem nd_in {j lo hi : Nat} {ks : List (Nat × Nat)} (h : (lo, hi) ∈ ks) : nd j lo hi ks = [] := by
  cases j with
  | zero => rfl
  | succ j => unfold nd; rw [if_pos (.inr h)]
theorem nd_len : ∀ {j lo hi : Nat} {ks : List (Nat × Nat)}, lo < hi → (nd j lo hi ks).length + 1 ≤ hi - lo
  | 0, lo, hi, ks, h => by
    show 0 + 1 ≤ hi - lo
    omega
  | j + 1, lo, hi, ks, h => by
    unfold nd
    split
    · show 0 + 1 ≤ hi - lo
      omega
    · rename_i c
      have h1 := nd_len (j := j) (lo := lo) (hi := (lo + hi) / 2) (ks := ks) (by omega)
      have h2 := nd_len (j := j) (lo := (lo + hi) / 2) (hi := hi) (ks := ks ++ nd j lo ((lo + hi) / 2) ks) (by omega)
      rw [List.length_append, List.length_append, List.length_singleton]
      omega
theorem nd_sub : ∀ {j lo hi : Nat} {ks : List (Nat × Nat)} {x : Nat × Nat}, x ∈ nd j lo hi ks → lo < hi → lo ≤ x.1 ∧ x.2 ≤ hi ∧ x.1 + 2 ≤ x.2
  | 0, lo, hi, ks, x, h, _ => nomatch h
  | j + 1, lo, hi, ks, x, h, hl => by
    unfold nd at h
    split at h
    · exact nomatch h
    · rename_i c
      rcases List.mem_append.mp h with h | h
      · rcases List.mem_append.mp h with h | h
        · have := nd_sub h (by omega)
          omega
        · have := nd_sub h (by omega)
          omega
      · have := List.mem_singleton.mp h
        subst this
        dsimp only
        omega
theorem m_prod : G.mth "Keeper" "product" = some (("Keeper.product" : Str), 3) := by kernel_rfl
theorem fdiv2 {S : Sto} {lo hi : Nat} : fdivD (.int ((lo : Int) + (hi : Int))) (.int 2) S = .ok (.int (((lo + hi) / 2 : Nat) : Int)) S := by
  rw [fdiv_ok (n := 2) (by decide) (sm_of_lt (by decide) (by decide)) (by decide), Int.fdiv_eq_ediv_of_nonneg _ (by decide)]
  congr 2
theorem prod_one {Φ : Phi} {S : Sto} {a r h lo hi : Nat} {rs : List Ru} {ks : List (Nat × Nat)} {p : Int} (K : Kp S a r h rs ks p) (h1 : hi = lo + 1) (h2 : hi ≤ rs.length) : exSs G Φ c_Keeper_dot_product [some (.ref a), some (.int (lo : Nat)), some (.int (hi : Nat)), none] S = .ret (ruD (pr (str rs lo hi))) S := by
  subst h1
  have f := K.fr (δ := [some (.ref a), some (.int (lo : Nat)), some (.int ((lo + 1 : Nat) : Int)), none]) (fo := getV 0) rfl
  have i := K.at (i := lo) (by omega)
  generalize hq : rs[lo] = q at i
  have e : (((lo + 1 : Nat) : Int) - (lo : Int) == 1) = true := by simp; omega
  rw [str_one (by omega), pr_one, hq]
  unfold c_Keeper_dot_product
  clear K hq h2
  walk_at "exh"
theorem prod_in {Φ : Phi} {S : Sto} {a r h lo hi : Nat} {rs : List Ru} {ks : List (Nat × Nat)} {p : Int} (K : Kp S a r h rs ks p) (h1 : hi - lo ≠ 1) (h2 : lo < hi) (hm : (lo, hi) ∈ ks) : exSs G Φ c_Keeper_dot_product [some (.ref a), some (.int (lo : Nat)), some (.int (hi : Nat)), none] S = .ret (ruD (pr (str rs lo hi))) S := by
  have f := K.fk (δ := [some (.ref a), some (.int (lo : Nat)), some (.int (hi : Nat)), none]) (fo := getV 0) rfl
  have i := tget_run (e := .tup [.int (lo : Nat), .int (hi : Nat)]) K.kept (tkey_ke (lo, hi)) (by rw [lk_kt, if_pos hm])
  have m := tin_run (neg := true) (e := .tup [.int (lo : Nat), .int (hi : Nat)]) K.kept (tkey_ke (lo, hi))
  rw [lk_kt, if_pos hm] at m
  have m' : memB true (.tup [.int (lo : Nat), .int (hi : Nat)]) (.ref h) S = .ok (.bl false) S := m
  have e : ((hi : Int) - (lo : Int) == 1) = false := by simp; omega
  unfold c_Keeper_dot_product
  clear K h1 h2 hm m
  walk_at "exh"
theorem prod_new {Φ : Phi} {S S1 S2 S3 S4 : Sto} {a h lo hi m : Nat} {p : Int} {x y z : Ru} (h1 : hi - lo ≠ 1) (h2 : lo < hi) (hm : m = (lo + hi) / 2)
    (f0 : fFld G "kept" (getV 0) [some (.ref a), some (.int (lo : Nat)), some (.int (hi : Nat)), none] S = .ok (.ref h) S)
    (mi : memB true (.tup [.int (lo : Nat), .int (hi : Nat)]) (.ref h) S = .ok (.bl true) S)
    (m1 : fMeth G Φ "product" (getV 0) (aCons (getV 1) (aCons (getV 3) aNil)) [some (.ref a), some (.int (lo : Nat)), some (.int (hi : Nat)), some (.int (m : Nat))] S = .ok (ruD x) S1)
    (m2 : fMeth G Φ "product" (getV 0) (aCons (getV 3) (aCons (getV 2) aNil)) [some (.ref a), some (.int (lo : Nat)), some (.int (hi : Nat)), some (.int (m : Nat))] S1 = .ok (ruD y) S2)
    (b : Φ "behind" [ruD x, ruD y] S2 = .ok (ruD z) S2)
    (f1 : fFld G "kept" (getV 0) [some (.ref a), some (.int (lo : Nat)), some (.int (hi : Nat)), some (.int (m : Nat))] S2 = .ok (.ref h) S2)
    (tp : tputD (.ref h) [.int (lo : Nat), .int (hi : Nat)] (ruD z) S2 = some S3)
    (f3 : fFld G "products" (getV 0) [some (.ref a), some (.int (lo : Nat)), some (.int (hi : Nat)), some (.int (m : Nat))] S3 = .ok (.int p) S3)
    (sf : setFD G "products" (.ref a) (.int (p + 1)) S3 = some S4)
    (f4 : fFld G "kept" (getV 0) [some (.ref a), some (.int (lo : Nat)), some (.int (hi : Nat)), some (.int (m : Nat))] S4 = .ok (.ref h) S4)
    (ix : idxF (.ref h) (.tup [.int (lo : Nat), .int (hi : Nat)]) S4 = .ok (ruD z) S4) :
    exSs G Φ c_Keeper_dot_product [some (.ref a), some (.int (lo : Nat)), some (.int (hi : Nat)), none] S = .ret (ruD z) S4 := by
  have e : ((hi : Int) - (lo : Int) == 1) = false := by simp; omega
  have us : ∀ (fo : Fd) (fi : Fa) (fe : Fd) (δ : Dv) (S : Sto), sStoT fo fi fe δ S = (fe δ S).toS δ fun d S1 => (fo δ S1).toS δ fun o S2 => (fi δ S2).toS δ fun is S3 => match tputD o is d S3 with | some S4 => .next δ S4 | none => .fail := fun _ _ _ _ _ => rfl
  have fd := fun S => fdiv2 (S := S) (lo := lo) (hi := hi)
  rw [← hm] at fd
  unfold c_Keeper_dot_product
  clear h1 h2 hm
  walk_at "exh"
theorem r_product {a r h : Nat} {rs : List Ru} (hd : ∀ x ∈ rs, DyR 1 x) (hr : rs.length ≤ 20) (n : Nat) : ∀ (j : Nat) {S : Sto} {lo hi : Nat} {ks : List (Nat × Nat)} {p : Int}, Kp S a r h rs ks p → lo < hi → hi ≤ rs.length → hi - lo ≤ 2 ^ j → ks.length + (hi - lo) ≤ 90000 →
    ∃ S', callD G T (n + 6 + j) "Keeper.product" [.ref a, .int (lo : Nat), .int (hi : Nat)] S = .ok (ruD (pr (str rs lo hi))) S' ∧ Kp S' a r h rs (ks ++ nd j lo hi ks) (p + (nd j lo hi ks).length) ∧ Fr S S' a r h ∧ S'.length = S.length := by
  intro j
  induction j with
  | zero =>
    intro S lo hi ks p K h1 h2 h3 h4
    have e : hi = lo + 1 := by
      have : (2 : Nat) ^ 0 = 1 := rfl
      omega
    refine ⟨S, call_ret0 T_Keeper_dot_product rfl (prod_one K e h2), ?_, .refl, rfl⟩
    show Kp S a r h rs (ks ++ []) (p + ((0 : Nat) : Int))
    rw [List.append_nil]
    simpa using K
  | succ j ih =>
    intro S lo hi ks p K h1 h2 h3 h4
    by_cases c1 : hi - lo = 1
    · refine ⟨S, call_ret0 T_Keeper_dot_product rfl (prod_one K (by omega) h2), ?_, .refl, rfl⟩
      rw [nd_one c1, List.append_nil]
      simpa using K
    by_cases c2 : (lo, hi) ∈ ks
    · refine ⟨S, call_ret0 T_Keeper_dot_product rfl (prod_in K c1 h1 c2), ?_, .refl, rfl⟩
      rw [nd_in c2, List.append_nil]
      simpa using K
    have en : nd (j + 1) lo hi ks = nd j lo ((lo + hi) / 2) ks ++ nd j ((lo + hi) / 2) hi (ks ++ nd j lo ((lo + hi) / 2) ks) ++ [(lo, hi)] := by
      rw [nd, if_neg (fun z => z.elim c1 c2)]
    rw [en]
    have hp : (2 : Nat) ^ (j + 1) = 2 * 2 ^ j := by rw [Nat.pow_succ]; omega
    generalize hm : (lo + hi) / 2 = m
    have l1 := nd_len (j := j) (lo := lo) (hi := m) (ks := ks) (by omega)
    obtain ⟨S1, q1, K1, F1, z1⟩ := ih K (lo := lo) (hi := m) (by omega) (by omega) (by omega) (by omega)
    have l2 := nd_len (j := j) (lo := m) (hi := hi) (ks := ks ++ nd j lo m ks) (by omega)
    obtain ⟨S2, q2, K2, F2, z2⟩ := ih K1 (lo := m) (hi := hi) (by omega) h2 (by omega) (by rw [List.length_append]; omega)
    have u2 : (lo, hi) ∉ ks ++ nd j lo m ks ++ nd j m hi (ks ++ nd j lo m ks) := by
      intro z
      rcases List.mem_append.mp z with z | z
      · rcases List.mem_append.mp z with z | z
        · exact c2 z
        · have := nd_sub z (by omega)
          dsimp only at this
          omega
      · have := nd_sub z (by omega)
        dsimp only at this
        omega
    have ok3 : ∀ x ∈ ks ++ nd j lo m ks ++ nd j m hi (ks ++ nd j lo m ks) ++ [(lo, hi)], x.1 + 2 ≤ x.2 ∧ x.2 ≤ rs.length := by
      intro x hx
      rcases List.mem_append.mp hx with hx | hx
      · exact K2.ok x hx
      · have := List.mem_singleton.mp hx
        subst this
        dsimp only
        omega
    obtain ⟨K3, F3⟩ := K2.setK ok3 (List.nodup_append.mpr ⟨K2.nod, by simp, fun x hx y hy z => u2 (by rw [← List.mem_singleton.mp hy, ← z]; exact hx)⟩)
    obtain ⟨sf, K4, F4⟩ := K3.setP (p + (nd j lo m ks).length + (nd j m hi (ks ++ nd j lo m ks)).length + 1)
    have tp := tput_run (d := ruD (pr (str rs lo hi))) (is := [.int (lo : Nat), .int (hi : Nat)]) (k := kk (lo, hi)) K2.kept rfl (by unfold ktD; rw [List.length_map, List.length_append, List.length_append]; unfold lim; omega) (by show 2 ≤ lim; decide)
    rw [put_kt u2] at tp
    have b := r_behind (n + 1 + j) S2 (pr_sz (rs := str rs lo m) (n := 20) (fun x hx => hd x (str_mem hx)) (by have := str_len (rs := rs) (lo := lo) (hi := m); omega)) (pr_sz (rs := str rs m hi) (n := 20) (fun x hx => hd x (str_mem hx)) (by have := str_len (rs := rs) (lo := m) (hi := hi); omega))
    rw [← pr_app, str_split (by omega) (by omega), show n + 1 + j + 5 = n + 6 + j by omega] at b
    have m1 := meth_run (G := G) (Φ := callD G T (n + 6 + j)) (m := "product") (δ := [some (.ref a), some (.int (lo : Nat)), some (.int (hi : Nat)), some (.int (m : Nat))]) (fo := getV 0) (fa := aCons (getV 1) (aCons (getV 3) aNil)) (S := S) (S1 := S) (S2 := S) (ds := [.int (lo : Nat), .int (m : Nat)]) rfl K.ins m_prod g_ke.1 rfl rfl rfl
    rw [q1] at m1
    have m2 := meth_run (G := G) (Φ := callD G T (n + 6 + j)) (m := "product") (δ := [some (.ref a), some (.int (lo : Nat)), some (.int (hi : Nat)), some (.int (m : Nat))]) (fo := getV 0) (fa := aCons (getV 3) (aCons (getV 2) aNil)) (S := S1) (S1 := S1) (S2 := S1) (ds := [.int (m : Nat), .int (hi : Nat)]) rfl K1.ins m_prod g_ke.1 rfl rfl rfl
    rw [q2] at m2
    have mi := tin_run (neg := true) (e := .tup [.int (lo : Nat), .int (hi : Nat)]) K.kept (tkey_ke (lo, hi))
    rw [lk_kt, if_neg c2] at mi
    have ix := tget_run (e := .tup [.int (lo : Nat), .int (hi : Nat)]) K4.kept (tkey_ke (lo, hi)) (by rw [lk_kt, if_pos (by simp)])
    refine ⟨_, ?_, ?_, ((F1.trans F2).trans F3).trans F4, by rw [List.length_set, List.length_set, z2, z1]⟩
    · rw [show n + 6 + (j + 1) = (n + 6 + j) + 1 from rfl, call_gc T_Keeper_dot_product rfl (prod_new c1 h1 hm.symm (K.fk rfl) mi m1 m2 b (K2.fk rfl) tp (K3.fp rfl) sf (K4.fk rfl) ix)]
      exact gc_len (by rw [List.length_set, List.length_set, z2, z1])
    · have e1 : ks ++ (nd j lo m ks ++ nd j m hi (ks ++ nd j lo m ks) ++ [(lo, hi)]) = ks ++ nd j lo m ks ++ nd j m hi (ks ++ nd j lo m ks) ++ [(lo, hi)] := by simp [List.append_assoc]
      rw [e1]
      have e2 : p + ((nd j lo m ks ++ nd j m hi (ks ++ nd j lo m ks) ++ [(lo, hi)]).length : Int) = p + (nd j lo m ks).length + (nd j m hi (ks ++ nd j lo m ks)).length + 1 := by
        rw [List.length_append, List.length_append, List.length_singleton]
        omega
      rw [e2]
      exact K4
section
variable {S : Sto} {a r h : Nat} {rs : List Ru} {ks : List (Nat × Nat)} {p : Int}
theorem r_is_whole (n : Nat) (S : Sto) (k : Int) : callD G T (n + 1) "is_whole" [.int k] S = .ok (.bl true) S := by
  refine call_ret0 T_is_whole rfl ?_
  unfold f_is_whole c_is_whole
  walk_at "ex"
theorem r_beyond_ok (n : Nat) (S : Sto) {o : D} {k many : Int} (h0 : 0 ≤ k) (h1 : k < many) : callD G T (n + 2) "Keeper.refuse_beyond" [o, .int k, .int many] S = .ok .non S := by
  rw [call_end (δ := [some o, some (.int k), some (.int many)]) (S' := S) T_Keeper_dot_refuse_beyond rfl ?_]
  · exact gc_len rfl
  have w := r_is_whole n S k
  have e1 : decide (k < 0) = false := by simp; omega
  have e2 : decide (k ≥ many) = false := by simp; omega
  unfold f_Keeper_dot_refuse_beyond c_Keeper_dot_refuse_beyond
  clear h0 h1
  walk_at "exh"
theorem m_bey : G.mth "Keeper" "refuse_beyond" = some (("Keeper.refuse_beyond" : Str), 3) := by kernel_rfl
theorem Kp.len (K : Kp S a r h rs ks p) : lenD [.ref r] S = .ok (.int (rs.length : Nat)) S := by
  have := len_ref K.row
  rwa [List.length_map] at this
theorem b_ok (n : Nat) (K : Kp S a r h rs ks p) {k : Int} {δ : Dv} {rest : List Sx} (h0 : 0 ≤ k) (h1 : k < rs.length) : exSs G (callD G T (n + 2)) (.expr (.meth "refuse_beyond" (.v 0) [(.v 1), (.bf .len [(.fld "row" (.v 0))])]) :: rest) (some (.ref a) :: some (.int k) :: δ) S = exSs G (callD G T (n + 2)) rest (some (.ref a) :: some (.int k) :: δ) S := by
  have f := K.fr (δ := some (.ref a) :: some (.int k) :: δ) (fo := getV 0) rfl
  have l := K.len
  have me := meth_run (G := G) (Φ := callD G T (n + 2)) (m := "refuse_beyond") (δ := some (.ref a) :: some (.int k) :: δ) (fo := getV 0) (fa := aCons (getV 1) (aCons (fCall lenD (aCons (fFld G "row" (getV 0)) aNil)) aNil)) (S := S) (S1 := S) (S2 := S) (ds := [.int k, .int (rs.length : Nat)]) rfl K.ins m_bey g_ke.1 rfl (by
    clear K h0 h1
    walk_at "exh") rfl
  rw [r_beyond_ok n S h0 h1] at me
  rw [exSs]
  clear K h0 h1
  walk_at "exh"
theorem b_in (n : Nat) (K : Kp S a r h rs ks p) {k : Int} {δ : Dv} {rest : List Sx} (h0 : 0 ≤ k) (h1 : k ≤ rs.length) : exSs G (callD G T (n + 2)) (.expr (.meth "refuse_beyond" (.v 0) [(.v 1), (.bin .add (.bf .len [(.fld "row" (.v 0))]) (.k (.int 1)))]) :: rest) (some (.ref a) :: some (.int k) :: δ) S = exSs G (callD G T (n + 2)) rest (some (.ref a) :: some (.int k) :: δ) S := by
  have f := K.fr (δ := some (.ref a) :: some (.int k) :: δ) (fo := getV 0) rfl
  have l := K.len
  have me := meth_run (G := G) (Φ := callD G T (n + 2)) (m := "refuse_beyond") (δ := some (.ref a) :: some (.int k) :: δ) (fo := getV 0) (fa := aCons (getV 1) (aCons (f2 addD (fCall lenD (aCons (fFld G "row" (getV 0)) aNil)) (okD (.int 1))) aNil)) (S := S) (S1 := S) (S2 := S) (ds := [.int k, .int ((rs.length : Nat) + 1)]) rfl K.ins m_bey g_ke.1 rfl (by
    clear K h0 h1
    walk_at "exh") rfl
  rw [r_beyond_ok n S h0 (by omega)] at me
  rw [exSs]
  clear K h0 h1
  walk_at "exh"
theorem r_many (n : Nat) (K : Kp S a r h rs ks p) : callD G T (n + 1) "Keeper.many" [.ref a] S = .ok (.int (rs.length : Nat)) S := by
  refine call_ret0 T_Keeper_dot_many rfl ?_
  unfold f_Keeper_dot_many c_Keeper_dot_many
  have f := K.fr (δ := [some (.ref a)]) (fo := getV 0) rfl
  have l := K.len
  clear K
  walk_at "exh"
noncomputable def ndW (rs : List Ru) (ks : List (Nat × Nat)) : List (Nat × Nat) := if rs = [] then [] else nd 5 0 rs.length ks
theorem r_whole (n : Nat) (K : Kp S a r h rs ks p) (hd : ∀ x ∈ rs, DyR 1 x) (hr : rs.length ≤ 20) (hk : ks.length ≤ 80000) : ∃ S', callD G T (n + 12) "Keeper.whole" [.ref a] S = .ok (ruD (pr rs)) S' ∧ Kp S' a r h rs (ks ++ ndW rs ks) (p + (ndW rs ks).length) ∧ Fr S S' a r h ∧ S'.length = S.length := by
  have f := K.fr (δ := [some (.ref a)]) (fo := getV 0) rfl
  have l := K.len
  by_cases c : rs = []
  · refine ⟨S, call_ret0 T_Keeper_dot_whole rfl ?_, ?_, .refl, rfl⟩
    · subst c
      have e : (((0 : Nat) : Int) == 0) = true := rfl
      have e' : ruD (pr []) = con_IDENTITY := rfl
      unfold f_Keeper_dot_whole c_Keeper_dot_whole
      rw [e']
      clear K hd hr hk e'
      walk_at "exh"
    · unfold ndW
      rw [if_pos c, List.append_nil]
      simpa using K
  · have pos : 0 < rs.length := List.length_pos_iff.mpr c
    obtain ⟨S', q, K', F, z⟩ := r_product hd hr n 5 K (lo := 0) (hi := rs.length) pos (Nat.le_refl _) (by have : (2 : Nat) ^ 5 = 32 := rfl; omega) (by omega)
    rw [str_all] at q
    have me := meth_run (G := G) (Φ := callD G T (n + 6 + 5)) (m := "product") (δ := [some (.ref a)]) (fo := getV 0) (fa := aCons (okD (.int 0)) (aCons (fCall lenD (aCons (fFld G "row" (getV 0)) aNil)) aNil)) (S := S) (S1 := S) (S2 := S) (ds := [.int 0, .int (rs.length : Nat)]) rfl K.ins m_prod g_ke.1 rfl (by
      clear K hd hr hk q K' F z pos c
      walk_at "exh") rfl
    have q' : callD G T (n + 6 + 5) "Keeper.product" [.ref a, .int 0, .int (rs.length : Nat)] S = .ok (ruD (pr rs)) S' := q
    rw [q'] at me
    refine ⟨S', ?_, ?_, F, z⟩
    · rw [show n + 12 = (n + 6 + 5) + 1 from rfl, call_gc (d := ruD (pr rs)) (S' := S') T_Keeper_dot_whole rfl ?_]
      · exact gc_len z
      have e : (((rs.length : Nat) : Int) == 0) = false := by simp; omega
      unfold f_Keeper_dot_whole c_Keeper_dot_whole
      clear K hd hr hk q q' K' F z pos c
      walk_at "exh"
    · unfold ndW
      rw [if_neg c]
      exact K'
theorem Kp.clr (K : Kp S a r h rs ks p) {rs' : List Ru} : Kp ((S.set r (.lst (rs'.map ruD))).set h (.dit [])) a r h rs' [] p ∧ Fr S ((S.set r (.lst (rs'.map ruD))).set h (.dit [])) a r h :=
  ⟨⟨by rw [set_get_ne K.ah.symm, set_get_ne K.ar.symm]; exact K.ins, by rw [set_get_ne K.rh.symm]; exact set_get K.row, set_get (o' := .dit (ktD rs ks)) (by rw [set_get_ne K.rh]; exact K.kept), fun x hx => (nomatch hx), .nil⟩,
    fun j o q _ h2 h3 => by rw [set_get_ne (Ne.symm h3), set_get_ne (Ne.symm h2)]; exact q⟩
theorem r_put_in (n : Nat) (K : Kp S a r h rs ks p) {i : Nat} {x : Ru} (hi : i ≤ rs.length) (hr : rs.length ≤ 20) : ∃ S', callD G T (n + 3) "Keeper.put_in" [.ref a, .int (i : Nat), ruD x] S = .ok .non S' ∧ Kp S' a r h (rs.take i ++ x :: rs.drop i) [] p ∧ Fr S S' a r h ∧ S'.length = S.length := by
  obtain ⟨K1, F1⟩ := K.clr (rs' := rs.take i ++ x :: rs.drop i)
  refine ⟨_, ?_, K1, F1, by rw [List.length_set, List.length_set]⟩
  have f := K.fr (δ := [some (.ref a), some (.int (i : Nat)), some (ruD x)]) (fo := getV 0) rfl
  have mi := mtX_ins (S := S) (δ := [some (.ref a), some (.int (i : Nat)), some (ruD x)]) (fo := fFld G "row" (getV 0)) (fa := aCons (getV 1) (aCons (getV 2) aNil)) (S2 := S) (es := [.int (i : Nat), ruD x]) f K.row rfl
  have mv : mtD .insert (.ref r) [.int (i : Nat), ruD x] S = .ok .non (S.set r (.lst ((rs.take i ++ x :: rs.drop i).map ruD))) := by
    show (match S[r]? with
      | some (.lst xs) => if 0 ≤ (i : Int) ∧ (i : Int) < 2 ^ 62 ∧ xs.length < lim then R.ok D.non (S.set r (.lst (xs.take (i : Int).toNat ++ ruD x :: xs.drop (i : Int).toNat))) else .fail
      | _ => .fail) = _
    rw [K.row]
    dsimp only
    rw [if_pos ⟨by omega, by omega, by rw [List.length_map]; unfold lim; omega⟩, Int.toNat_natCast, List.map_append, List.map_cons, List.map_take, List.map_drop]
  rw [mv] at mi
  have fk : fFld G "kept" (getV 0) [some (.ref a), some (.int (i : Nat)), some (ruD x)] (S.set r (.lst ((rs.take i ++ x :: rs.drop i).map ruD))) = .ok (.ref h) (S.set r (.lst ((rs.take i ++ x :: rs.drop i).map ruD))) := fld_run (n := a) rfl (by rw [set_get_ne K.ar.symm]; exact K.ins) g_ke.1 g_ke.2.2.1 rfl
  have hk : (S.set r (.lst ((rs.take i ++ x :: rs.drop i).map ruD)))[h]? = some (.dit (ktD rs ks)) := by rw [set_get_ne K.rh]; exact K.kept
  have mc := mtX_tit (S := S.set r (.lst ((rs.take i ++ x :: rs.drop i).map ruD))) (δ := [some (.ref a), some (.int (i : Nat)), some (ruD x)]) (fo := fFld G "kept" (getV 0)) (fa := aNil) .clear (.inr rfl) fk hk rfl
  rw [tclear_run hk] at mc
  rw [call_end (δ := [some (.ref a), some (.int (i : Nat)), some (ruD x)]) (S' := (S.set r (.lst ((rs.take i ++ x :: rs.drop i).map ruD))).set h (.dit [])) T_Keeper_dot_put_in rfl ?_]
  · exact gc_len (by rw [List.length_set, List.length_set])
  show exSs G (callD G T (n + 2)) (_ :: [_, _]) [some (.ref a), some (.int (i : Nat)), some (ruD x)] S = _
  rw [b_in n (δ := [some (ruD x)]) K (by omega) (by omega)]
  generalize S.set r (.lst ((rs.take i ++ x :: rs.drop i).map ruD)) = S1 at *
  clear K K1 F1 hi hr f mv fk hk
  walk_at "exh"
theorem r_take_out (n : Nat) (K : Kp S a r h rs ks p) {i : Nat} (hi : i < rs.length) (hr : rs.length ≤ 20) : ∃ S', callD G T (n + 3) "Keeper.take_out" [.ref a, .int (i : Nat)] S = .ok .non S' ∧ Kp S' a r h (rs.eraseIdx i) [] p ∧ Fr S S' a r h ∧ S'.length = S.length := by
  obtain ⟨K1, F1⟩ := K.clr (rs' := rs.eraseIdx i)
  refine ⟨_, ?_, K1, F1, by rw [List.length_set, List.length_set]⟩
  have f := K.fr (δ := [some (.ref a), some (.int (i : Nat))]) (fo := getV 0) rfl
  have mi := mtX_popL (S := S) (δ := [some (.ref a), some (.int (i : Nat))]) (fo := fFld G "row" (getV 0)) (fa := aCons (getV 1) aNil) (S2 := S) (es := [.int (i : Nat)]) f K.row rfl
  have mv : mtD .pop (.ref r) [.int (i : Nat)] S = .ok (ruD rs[i]) (S.set r (.lst ((rs.eraseIdx i).map ruD))) := by
    show (match S[r]? with
      | some (.lst xs) => if -(2 ^ 63) ≤ (i : Int) ∧ (i : Int) < 2 ^ 63 then (match seqIndex? (i : Int) xs.length with
        | some k => match xs[k]? with
          | some y => R.ok y (S.set r (.lst (xs.eraseIdx k)))
          | none => .fail
        | none => .fail) else .fail
      | _ => .fail) = _
    rw [K.row]
    dsimp only
    rw [if_pos (by omega)]
    have e : seqIndex? (i : Int) (rs.map ruD).length = some i := by
      unfold seqIndex?
      simp
      omega
    rw [e]
    dsimp only
    rw [List.getElem?_map, List.getElem?_eq_getElem hi]
    dsimp only [Option.map]
    rw [map_erase]
  rw [mv] at mi
  have fk : fFld G "kept" (getV 0) [some (.ref a), some (.int (i : Nat))] (S.set r (.lst ((rs.eraseIdx i).map ruD))) = .ok (.ref h) (S.set r (.lst ((rs.eraseIdx i).map ruD))) := fld_run (n := a) rfl (by rw [set_get_ne K.ar.symm]; exact K.ins) g_ke.1 g_ke.2.2.1 rfl
  have hk : (S.set r (.lst ((rs.eraseIdx i).map ruD)))[h]? = some (.dit (ktD rs ks)) := by rw [set_get_ne K.rh]; exact K.kept
  have mc := mtX_tit (S := S.set r (.lst ((rs.eraseIdx i).map ruD))) (δ := [some (.ref a), some (.int (i : Nat))]) (fo := fFld G "kept" (getV 0)) (fa := aNil) .clear (.inr rfl) fk hk rfl
  rw [tclear_run hk] at mc
  rw [call_end (δ := [some (.ref a), some (.int (i : Nat))]) (S' := (S.set r (.lst ((rs.eraseIdx i).map ruD))).set h (.dit [])) T_Keeper_dot_take_out rfl ?_]
  · exact gc_len (by rw [List.length_set, List.length_set])
  show exSs G (callD G T (n + 2)) (_ :: [_, _]) [some (.ref a), some (.int (i : Nat))] S = _
  rw [b_ok n (δ := []) K (by omega) (by omega)]
  generalize S.set r (.lst ((rs.eraseIdx i).map ruD)) = S1 at *
  generalize ruD rs[i] = y at *
  clear K K1 F1 hr f mv fk hk
  walk_at "exh"
end
section
variable {S : Sto} {a r h : Nat} {rs : List Ru} {ks : List (Nat × Nat)} {p : Int}
noncomputable def hits (k : Nat) (x : Nat × Nat) : Bool := decide (x.1 ≤ k) && decide (k < x.2)
noncomputable def clean (k : Nat) (ks : List (Nat × Nat)) : List (Nat × Nat) := ks.filter fun x => !hits k x
noncomputable def rem (k : Nat) (ks : List (Nat × Nat)) (i : Nat) : List (Nat × Nat) := clean k (ks.take i) ++ ks.drop i
theorem rem_all {k : Nat} : rem k ks ks.length = clean k ks := by
  unfold rem
  rw [List.take_of_length_le (Nat.le_refl _), List.drop_eq_nil_of_le (Nat.le_refl _), List.append_nil]
theorem rem_keep {k i : Nat} {x : Nat × Nat} (hx : ks[i]? = some x) (hh : hits k x = false) : rem k ks (i + 1) = rem k ks i := by
  obtain ⟨hi, rfl⟩ := List.getElem?_eq_some_iff.mp hx
  unfold rem clean
  rw [List.take_succ, hx]
  show List.filter _ (ks.take i ++ [ks[i]]) ++ _ = _
  rw [List.filter_append, List.filter_cons_of_pos (by simp [hh]), List.filter_nil, List.append_assoc, List.drop_eq_getElem_cons hi]
  rfl
theorem rem_drop {k i : Nat} {x : Nat × Nat} (nod : ks.Nodup) (hx : ks[i]? = some x) (hh : hits k x = true) : (rem k ks i).filter (fun y => decide (y ≠ x)) = rem k ks (i + 1) ∧ x ∈ rem k ks i := by
  obtain ⟨hi, rfl⟩ := List.getElem?_eq_some_iff.mp hx
  have sp : ks.take i ++ ks[i] :: ks.drop (i + 1) = ks := by rw [← List.drop_eq_getElem_cons hi, List.take_append_drop]
  rw [← sp, List.nodup_append] at nod
  obtain ⟨n1, n2, n3⟩ := nod
  rw [List.nodup_cons] at n2
  have e : rem k ks (i + 1) = clean k (ks.take i) ++ ks.drop (i + 1) := by
    unfold rem clean
    rw [List.take_succ, hx]
    show List.filter _ (ks.take i ++ [ks[i]]) ++ _ = _
    rw [List.filter_append, List.filter_cons_of_neg (by simp [hh]), List.filter_nil, List.append_nil]
  rw [e]
  unfold rem
  rw [List.drop_eq_getElem_cons hi]
  refine ⟨?_, List.mem_append_right _ List.mem_cons_self⟩
  rw [List.filter_append, List.filter_cons_of_neg (by simp)]
  congr 1
  · rw [List.filter_eq_self]
    intro y hy
    have := (List.mem_filter.mp hy).1
    simpa using n3 y this _ List.mem_cons_self
  · rw [List.filter_eq_self]
    intro y hy
    simp only [ne_eq, decide_not, Bool.not_eq_true', decide_eq_false_iff_not]
    rintro rfl
    exact n2.1 hy
theorem kt_set {k : Nat} {x : Ru} : ktD (rs.set k x) (clean k ks) = ktD rs (clean k ks) := by
  unfold ktD
  refine List.map_congr_left fun y hy => ?_
  have := (List.mem_filter.mp hy).2
  unfold hits at this
  simp at this
  rw [str_set (by omega)]
theorem clean_ok {k : Nat} {x : Ru} (ok : ∀ x ∈ ks, x.1 + 2 ≤ x.2 ∧ x.2 ≤ rs.length) : ∀ y ∈ clean k ks, y.1 + 2 ≤ y.2 ∧ y.2 ≤ (rs.set k x).length := fun y hy => by
  rw [List.length_set]
  exact ok y (List.mem_filter.mp hy).1
theorem clean_nod {k : Nat} (nod : ks.Nodup) : (clean k ks).Nodup := nod.sublist List.filter_sublist
theorem keys_kt : (ktD rs ks).map (·.1) = ks.map ke := by
  unfold ktD
  rw [List.map_map]
  rfl
theorem list_kt (hk : S[h]? = some (.dit (ktD rs ks))) (hl : ks.length ≤ lim) : listB [.ref h] S = .ok (.ref S.length) (S ++ [.lst (ks.map ke)]) := by
  unfold listB
  dsimp only
  rw [dit_at hk]
  dsimp only
  rw [keys_kt]
  exact if_pos (by rw [List.length_map]; exact hl)
theorem sto_row (K : Kp S a r h rs ks p) {k : Nat} {x : Ru} (hk : k < rs.length) : stoD (.ref r) (.int (k : Nat)) (ruD x) S = some (S.set r (.lst ((rs.set k x).map ruD))) := by
  rw [sto_nat K.row (by rw [List.length_map]; exact hk), List.map_set]
theorem gc_of {S S' : Sto} {d : D} (hd : noRef d = true) : ∃ S'', gc S (.ok d S') = .ok d S'' ∧ (S'' = S' ∨ (S'' = S ∧ S <+: S')) := by
  unfold gc
  dsimp only
  split
  · rename_i c
    exact ⟨S, rfl, .inr ⟨rfl, c.2⟩⟩
  · exact ⟨S', rfl, .inl rfl⟩
theorem pre_at {S S' : Sto} {j : Nat} {o o' : O} (h : S <+: S') (k : S'[j]? = some o) (e : S[j]? = some o') : S[j]? = some o := by
  obtain ⟨t, rfl⟩ := h
  have := app_l (A := t) e
  rw [k] at this
  cases this
  exact e
theorem r_put_at (n : Nat) (K : Kp S a r h rs ks p) {k : Nat} {x : Ru} (hk : k < rs.length) (hl : ks.length ≤ lim) : ∃ S', callD G T (n + 3) "Keeper.put_at" [.ref a, .int (k : Nat), ruD x] S = .ok .non S' ∧ Kp S' a r h (rs.set k x) (clean k ks) p ∧ Fr S S' a r h := by
  have s1 := sto_row K (x := x) hk
  have f := K.fr (δ := [some (.ref a), some (.int (k : Nat)), some (ruD x), none]) (fo := getV 0) rfl
  have i1 : (S.set r (.lst ((rs.set k x).map ruD)))[a]? = some (.ins "Keeper" [("row", .ref r), ("kept", .ref h), ("products", .int p)]) := by rw [set_get_ne K.ar.symm]; exact K.ins
  have i2 : (S.set r (.lst ((rs.set k x).map ruD)))[r]? = some (.lst ((rs.set k x).map ruD)) := set_get K.row
  have i3 : (S.set r (.lst ((rs.set k x).map ruD)))[h]? = some (.dit (ktD rs ks)) := by rw [set_get_ne K.rh]; exact K.kept
  have F1 : Fr S (S.set r (.lst ((rs.set k x).map ruD))) a r h := fun j o q _ h2 _ => by rw [set_get_ne (Ne.symm h2)]; exact q
  have hd2 : exSs G (callD G T (n + 2)) [.sto (.fld "row" (.v 0)) (.v 1) (.v 2)] [some (.ref a), some (.int (k : Nat)), some (ruD x), none] S = .next [some (.ref a), some (.int (k : Nat)), some (ruD x), none] (S.set r (.lst ((rs.set k x).map ruD))) := by
    clear K i1 i2 i3 F1 hk hl
    generalize S.set r (.lst ((rs.set k x).map ruD)) = S1 at *
    walk_at "exh"
  have ll : (S.set r (.lst ((rs.set k x).map ruD))).length = S.length := by rw [List.length_set]
  generalize S.set r (.lst ((rs.set k x).map ruD)) = S1 at *
  have lt1 := lt_of i1
  have lt2 := lt_of i2
  have lt3 := lt_of i3
  have li := list_kt i3 hl
  have fk1 : fFld G "kept" (getV 0) [some (.ref a), some (.int (k : Nat)), some (ruD x), none] S1 = .ok (.ref h) S1 := fld_run (n := a) rfl i1 g_ke.1 g_ke.2.2.1 rfl
  obtain ⟨δ', S2, lo, ⟨y, rfl⟩, j1, j2, j3, j4, F2⟩ := ex_forI (G := G) (Φ := callD G T (n + 2)) (v := 3) (it := .val (.bf .list [(.fld "kept" (.v 0))])) (b := [.ite (.chain .le .lt (.idx (.v 3) (.k (.int 0))) (.v 1) (.idx (.v 3) (.k (.int 1))))
      [.expr (.mt .pop (.fld "kept" (.v 0)) [(.v 3)])]
      []]) (t := .lref S1.length) (ds := ks.map ke) (δ := [some (.ref a), some (.int (k : Nat)), some (ruD x), none]) (S := S1) (S0 := S1 ++ [.lst (ks.map ke)])
    (fun i δ S' => (∃ y, δ = [some (.ref a), some (.int (k : Nat)), some (ruD x), y]) ∧ S'[a]? = some (.ins "Keeper" [("row", .ref r), ("kept", .ref h), ("products", .int p)]) ∧ S'[r]? = some (.lst ((rs.set k x).map ruD)) ∧ S'[h]? = some (.dit (ktD rs (rem k ks i))) ∧ S'[S1.length]? = some (.lst (ks.map ke)) ∧ ∀ (j : Nat) o, S1[j]? = some o → j ≠ h → S'[j]? = some o)
    (by
      have e5 : itD (.ref S1.length) (S1 ++ [.lst (ks.map ke)]) = .ok (.lref S1.length) (S1 ++ [.lst (ks.map ke)]) := by
        show (match (S1 ++ [O.lst (ks.map ke)])[S1.length]? with | some (.lst _) => R.ok (Itb.lref S1.length) _ | _ => .fail) = _
        rw [getElem?_snoc]
      clear K i1 i2 i3 F1 hd2 s1 f ll
      simp only [evI, ev, evs, iVal, fCall, aCons, aNil, bfD, fk1, bind_ok, li, e5])
    (by rw [List.length_map]; exact hl)
    (fun i δ S' q => by
      obtain ⟨_, _, _, _, q, _⟩ := q
      show (match S'[S1.length]? with | some (.lst xs) => some xs | _ => none) = _
      rw [q])
    ⟨⟨none, rfl⟩, app_l i1, app_l i2, by unfold rem clean; simpa using app_l i3, getElem?_snoc S1 _, fun j o q _ => app_l q⟩
    (fun i δ S' d q hd => by
      obtain ⟨⟨y, rfl⟩, q1, q2, q3, q4, q5⟩ := q
      rw [List.getElem?_map] at hd
      obtain ⟨e, he, rfl⟩ := Option.map_eq_some_iff.mp hd
      have fk2 : fFld G "kept" (getV 0) [some (.ref a), some (.int (k : Nat)), some (ruD x), some (ke e)] S' = .ok (.ref h) S' := fld_run (n := a) rfl q1 g_ke.1 g_ke.2.2.1 rfl
      show ∃ δ2 S2, exSs G (callD G T (n + 2)) _ [some (.ref a), some (.int (k : Nat)), some (ruD x), some (ke e)] S' = _ ∧ _
      have kd : ke e = .tup [.int (e.1 : Nat), .int (e.2 : Nat)] := rfl
      cases hh : hits k e with
      | false =>
        refine ⟨[some (.ref a), some (.int (k : Nat)), some (ruD x), some (ke e)], S', ?_, ⟨_, rfl⟩, q1, q2, ?_, q4, q5⟩
        · unfold hits at hh
          rw [kd]
          clear q1 q2 q3 q4 q5 fk2 fk1 li hd2 i1 i2 i3 K F1 f s1 kd hd he lt1 lt2 lt3
          by_cases c : e.1 ≤ k
          · have c1 : decide ((e.1 : Int) ≤ (k : Int)) = true := by simp; omega
            have c2 : decide ((k : Int) < (e.2 : Int)) = false := by simp at hh ⊢; omega
            clear hh c
            walk_at "exh"
          · have c1 : decide ((e.1 : Int) ≤ (k : Int)) = false := by simp; omega
            clear hh c
            walk_at "exh"
        · rw [rem_keep he hh]
          exact q3
      | true =>
        obtain ⟨d1, d2⟩ := rem_drop K.nod he hh
        have po := tpop_run (e := ke e) q3 (tkey_ke e) (by rw [lk_kt, if_pos d2])
        rw [drop_kt, d1] at po
        have mp := mtX_tit (S := S') (δ := [some (.ref a), some (.int (k : Nat)), some (ruD x), some (ke e)]) (fo := fFld G "kept" (getV 0)) (fa := aCons (getV 3) aNil) (es := [ke e]) .pop (.inl rfl) fk2 q3 rfl
        rw [po] at mp
        refine ⟨[some (.ref a), some (.int (k : Nat)), some (ruD x), some (ke e)], _, ?_, ⟨_, rfl⟩, ?_, ?_, set_get q3, ?_, ?_⟩
        · unfold hits at hh
          have c1 : decide ((e.1 : Int) ≤ (k : Int)) = true := by simp at hh ⊢; omega
          have c2 : decide ((k : Int) < (e.2 : Int)) = true := by simp at hh ⊢; omega
          generalize S'.set h (.dit (ktD rs (rem k ks (i + 1)))) = S3 at mp
          rw [kd] at mp ⊢
          clear q1 q2 q3 q4 q5 fk2 fk1 li hd2 i1 i2 i3 K F1 f s1 kd hd he lt1 lt2 lt3 hh po d1 d2
          walk_at "exh"
        · rw [set_get_ne (by rintro rfl; rw [q1] at q3; cases q3)]; exact q1
        · rw [set_get_ne (by rintro rfl; rw [q2] at q3; cases q3)]; exact q2
        · rw [set_get_ne (by omega)]; exact q4
        · intro j o q z
          rw [set_get_ne (Ne.symm z)]
          exact q5 j o q z)
  rw [List.length_map, rem_all] at j3
  have run : exSs G (callD G T (n + 2)) c_Keeper_dot_put_at [some (.ref a), some (.int (k : Nat)), some (ruD x), none] S = .next [some (.ref a), some (.int (k : Nat)), some (ruD x), y] S2 := by
    show exSs G (callD G T (n + 2)) (_ :: ([_] ++ [_])) [some (.ref a), some (.int (k : Nat)), some (ruD x), none] S = _
    rw [b_ok n (δ := [some (ruD x), none]) K (by omega) (by omega), exSs_app, hd2, seq_next]
    exact lo
  obtain ⟨S3, g1, g2⟩ := gc_of (S := S) (S' := S2) (d := .non) rfl
  refine ⟨S3, ?_, ?_⟩
  · rw [call_end T_Keeper_dot_put_at rfl run]
    exact g1
  have fr2 : Fr S S2 a r h := fun j o q h1 h2 h3 => F2 j o (F1 j o q h1 h2 h3) h3
  have ok' := clean_ok (k := k) (x := x) K.ok
  have nod' := clean_nod (k := k) K.nod
  rcases g2 with rfl | ⟨rfl, pre⟩
  · exact ⟨⟨j1, j2, by rw [kt_set]; exact j3, ok', nod'⟩, fr2⟩
  · exact ⟨⟨pre_at pre j1 K.ins, pre_at pre j2 K.row, by rw [kt_set]; exact pre_at pre j3 K.kept, ok', nod'⟩, .refl⟩
end
theorem comp_made (n : Nat) {S : Sto} {δ : Dv} {fi : Fi} {m : Nat} {xs : List Int} (hd : δ.length = 5) (hi : fi δ S = .ok (.lref m) S) (hm : S[m]? = some (.lst (xs.map D.int))) (hx : xs.length ≤ lim) :
    fComp fi [5] 1 (gSet 5) none (ev G (callD G T (n + 2)) (.call "_law_made" [(.v 5), (.k (.int 16))])) bigB δ S = .ok (.ref S.length) (S ++ [.lst (xs.map fun i => frD (Rat.divInt i 16))]) := by
  rw [comp_flat (t := .lref m) (ds := xs.map D.int) (S0 := S) (fun _ => true) (fun d => match d with | .int j => frD (Rat.divInt j 16) | d => d) hi (cur_lref hm) (by rw [List.length_map]; exact hx) (fun d hd' => by
    obtain ⟨j, _, rfl⟩ := List.mem_map.mp hd'
    obtain ⟨a, b, c, d, e, rfl⟩ : ∃ a b c d e, δ = [a, b, c, d, e] := by
      match δ, hd with
      | [a, b, c, d, e], _ => exact ⟨a, b, c, d, e, rfl⟩
    refine ⟨_, rfl, rfl, fun _ => ?_⟩
    have l := r_law_made n S (t := j) (b := 16) (by decide) (sm_of_lt (n := 9000) (by omega) (by omega))
    simp only [maskL, List.foldl_cons, List.foldl_nil, List.cons_append, List.nil_append, List.replicate, List.set_cons_zero, List.set_cons_succ, List.getElem?_cons_zero, List.getElem?_cons_succ]
    clear hi hm hx
    walk_at "exh")]
  rw [List.filter_eq_self.mpr (fun _ _ => rfl), List.map_map]
  rfl
noncomputable def r16 (a b c d e : Int) : Ru := ⟨Rat.divInt a 16, Rat.divInt b 16, Rat.divInt c 16, Rat.divInt d 16, Rat.divInt e 16⟩
theorem dy_r16 {a b c d e : Int} (h1 : -17 < a ∧ a < 17) (h2 : -17 < b ∧ b < 17) (h3 : -17 < c ∧ c < 17) (h4 : -17 < d ∧ d < 17) (h5 : -17 < e ∧ e < 17) : DyR 1 (r16 a b c d e) := ⟨dy_16 (by omega) (by omega), dy_16 (by omega) (by omega), dy_16 (by omega) (by omega), dy_16 (by omega) (by omega), dy_16 (by omega) (by omega)⟩
theorem add_refs {S : Sto} {m n : Nat} {xs ys : List D} (h : S[m]? = some (.lst xs)) (k : S[n]? = some (.lst ys)) (l : xs.length + ys.length ≤ lim) : addD (D.ref m) (D.ref n) S = R.ok (D.ref S.length) (S ++ [O.lst (xs ++ ys)]) := by
  show (match S[m]?, S[n]? with
    | some (.lst xs), some (.lst ys) => if xs.length + ys.length ≤ lim then R.ok (D.ref S.length) (S ++ [O.lst (xs ++ ys)]) else .fail
    | _, _ => .fail) = _
  rw [h, k]
  exact if_pos l
theorem r_lmake (n : Nat) (S : Sto) (c : Int) : ∃ r, DyR 1 r ∧ callD G T (n + 3) "_law_make" [.int c] S = .ok (ruD r) S := by
  have hu : 0 ≤ c / 6 % 17 ∧ c / 6 % 17 < 17 := ⟨Int.emod_nonneg _ (by decide), Int.emod_lt_of_pos _ (by decide)⟩
  have hs : 0 ≤ c / 102 % (c / 6 % 17 + 1) ∧ c / 102 % (c / 6 % 17 + 1) < c / 6 % 17 + 1 := ⟨Int.emod_nonneg _ (by omega), Int.emod_lt_of_pos _ (by omega)⟩
  have a : exSs G (callD G T (n + 2)) (c__law_make.take 3) [some (.int c), none, none, none, none] S = .next [some (.int c), some (.int (c / 6 % 17)), some (.int (c / 102 % (c / 6 % 17 + 1))), some (.int (c % 6)), none] S := by
    show exSs G (callD G T (n + 2)) [_, _, _] _ _ = _
    have hp : 0 < c / 6 % 17 + 1 := by omega
    clear hs
    walk_at "exh"
  generalize c / 102 % (c / 6 % 17 + 1) = s at *
  generalize c / 6 % 17 = u at *
  have go : ∀ (r : Ru) J, DyR 1 r → exSs G (callD G T (n + 2)) (c__law_make.drop 3) [some (.int c), some (.int u), some (.int s), some (.int (c % 6)), none] S = .ret (ruD r) (S ++ J) → ∃ r, DyR 1 r ∧ callD G T (n + 3) "_law_make" [.int c] S = .ok (ruD r) S := by
    intro r J hr e
    refine ⟨r, hr, call_ret (J := J) T__law_make rfl rfl ?_⟩
    show exSs G (callD G T (n + 2)) (c__law_make.take 3 ++ c__law_make.drop 3) [some (.int c), none, none, none, none] S = _
    rw [exSs_app, a, seq_next]
    exact e
  have tup5 : ∀ (S : Sto) (a b c d e : Int), tupleD [D.ref S.length] (S ++ [O.lst ([a, b, c, d, e].map fun i => frD (Rat.divInt i 16))]) = R.ok (ruD (r16 a b c d e)) (S ++ [O.lst ([a, b, c, d, e].map fun i => frD (Rat.divInt i 16))]) := fun S a b c d e => tuple_last (show 5 ≤ lim by decide)
  by_cases h5 : c % 6 = 5
  · refine go (r16 s (u - s) 0 16 0) ([.lst [.int s, .int (u - s), .int 0, .int 16, .int 0]] ++ [.lst ([s, u - s, 0, 16, 0].map fun i => frD (Rat.divInt i 16))]) (dy_r16 (by omega) (by omega) (by omega) (by omega) (by omega)) ?_
    rw [h5]
    show exSs G (callD G T (n + 2)) [_, _, _, _] _ _ = _
    have k5 : ((5 : Int) == 5) = true := rfl
    have hi : evI G (callD G T (n + 2)) (.val (.lst [(.v 2), (.bin .sub (.v 1) (.v 2)), (.k (.int 0)), (.k (.int 16)), (.k (.int 0))])) [some (.int c), some (.int u), some (.int s), some (.int 5), none] S = .ok (.lref S.length) (S ++ [.lst [.int s, .int (u - s), .int 0, .int 16, .int 0]]) := by
      rw [evI]
      refine iVal_ref ?_ (getElem?_snoc S _)
      walk_at "ex"
    have cm : ev G (callD G T (n + 2)) (.comp 5 1 (.call "_law_made" [(.v 5), (.k (.int 16))]) (.val (.lst [(.v 2), (.bin .sub (.v 1) (.v 2)), (.k (.int 0)), (.k (.int 16)), (.k (.int 0))]))) [some (.int c), some (.int u), some (.int s), some (.int 5), none] S = .ok (.ref (S ++ [O.lst [.int s, .int (u - s), .int 0, .int 16, .int 0]]).length) (S ++ [.lst [.int s, .int (u - s), .int 0, .int 16, .int 0]] ++ [.lst ([s, u - s, 0, 16, 0].map fun i => frD (Rat.divInt i 16))]) := by
      have q := comp_made n (S := S ++ [.lst [.int s, .int (u - s), .int 0, .int 16, .int 0]]) (δ := [some (.int c), some (.int u), some (.int s), some (.int 5), none]) (fi := fun _ S => .ok (.lref (S.length - 1)) S) (m := S.length) (xs := [s, u - s, 0, 16, 0]) rfl (by simp) (getElem?_snoc S _) (by show 5 ≤ lim; decide)
      rw [ev, fComp, hi]
      rw [fComp] at q
      simp only [bind_ok, List.length_append, List.length_cons, List.length_nil, Nat.add_sub_cancel, Nat.zero_add] at q ⊢
      exact q
    have t := tup5 (S ++ [.lst [.int s, .int (u - s), .int 0, .int 16, .int 0]]) s (u - s) 0 16 0
    have big : ev G (callD G T (n + 2)) (.bf .tuple [(.comp 5 1 (.call "_law_made" [(.v 5), (.k (.int 16))]) (.val (.lst [(.v 2), (.bin .sub (.v 1) (.v 2)), (.k (.int 0)), (.k (.int 16)), (.k (.int 0))])))]) [some (.int c), some (.int u), some (.int s), some (.int 5), none] S = .ok (ruD (r16 s (u - s) 0 16 0)) (S ++ [.lst [.int s, .int (u - s), .int 0, .int 16, .int 0]] ++ [.lst ([s, u - s, 0, 16, 0].map fun i => frD (Rat.divInt i 16))]) := by
      rw [ev, evs, evs, fCall, aCons, cm]
      simp only [bind_ok, aNil, bfD, t]
    simp only [exSs, exS, sSeq, sIf, sRet]
    rw [show bVal (ev G (callD G T (n + 2)) (.cmp .eq (.v 3) (.k (.int 5)))) [some (.int c), some (.int u), some (.int s), some (.int 5), none] S = .ok true S from by walk_at "exh"]
    rw [toS_ok, if_pos rfl, big]
    simp only [toS_ok, seq_ret, List.append_assoc]
  · have k5 : (c % 6 == 5) = false := by simpa using h5
    have hf : c % 6 = 0 ∨ c % 6 = 1 ∨ c % 6 = 2 ∨ c % 6 = 3 ∨ c % 6 = 4 := by omega
    let L0 : List O := [.lst [.int (16 - u), .int 0, .int s, .int (16 - u), .int u], .lst [.int 16, .int (0 - s), .int s, .int (16 - u), .int u], .lst [.int (16 - s), .int 0, .int s, .int (16 - u), .int u], .lst [.ref S.length, .ref (S.length + 1), .ref (S.length + 2)]]
    let L1 : List O := L0 ++ [.lst [.int (s + 16 - u), .int (0 - s), .int s, .int (16 - u), .int u], .lst [.int (16 - u), .int s, .int 0, .int 16, .int 0], .lst [.ref (S.length + 4), .ref (S.length + 5)], .lst [.ref S.length, .ref (S.length + 1), .ref (S.length + 2), .ref (S.length + 4), .ref (S.length + 5)]]
    have b : exSs G (callD G T (n + 2)) ((c__law_make.drop 3).take 3) [some (.int c), some (.int u), some (.int s), some (.int (c % 6)), none] S = .next [some (.int c), some (.int u), some (.int s), some (.int (c % 6)), some (.ref (S.length + 7))] (S ++ L1) := by
      show exSs G (callD G T (n + 2)) [_, _, _] _ _ = _
      have ad := add_refs (S := S ++ (L0 ++ [.lst [.int (s + 16 - u), .int (0 - s), .int s, .int (16 - u), .int u], .lst [.int (16 - u), .int s, .int 0, .int 16, .int 0], .lst [.ref (S.length + 4), .ref (S.length + 5)]])) (m := S.length + 3) (n := S.length + 6) (xs := [.ref S.length, .ref (S.length + 1), .ref (S.length + 2)]) (ys := [.ref (S.length + 4), .ref (S.length + 5)])
        (by rw [List.getElem?_append_right (by omega), Nat.add_sub_cancel_left]; rfl) (by rw [List.getElem?_append_right (by omega), Nat.add_sub_cancel_left]; rfl) (by show 5 ≤ lim; decide)
      simp only [L0, L1, List.append_assoc, List.cons_append, List.nil_append, List.length_append, List.length_cons, List.length_nil, Nat.reduceAdd, Nat.zero_add, Nat.add_assoc] at ad ⊢
      clear go a tup5 hu hs hf h5
      walk_at "exh"
      simp only [List.append_assoc, List.cons_append, List.nil_append, List.length_append, List.length_cons, List.length_nil, Nat.reduceAdd, Nat.zero_add, Nat.add_assoc]
      rw [ad]
      rfl
    have fin : ∀ (x1 x2 x3 x4 x5 : Int) (j : Nat), (S ++ L1)[S.length + j]? = some (.lst ([x1, x2, x3, x4, x5].map D.int)) → idxF (.ref (S.length + 7)) (.int (c % 6)) (S ++ L1) = .ok (.ref (S.length + j)) (S ++ L1) →
        exSs G (callD G T (n + 2)) ((c__law_make.drop 3).drop 3) [some (.int c), some (.int u), some (.int s), some (.int (c % 6)), some (.ref (S.length + 7))] (S ++ L1) = .ret (ruD (r16 x1 x2 x3 x4 x5)) (S ++ L1 ++ [.lst ([x1, x2, x3, x4, x5].map fun i => frD (Rat.divInt i 16))]) := by
      intro x1 x2 x3 x4 x5 j h1 h2
      have q := comp_made n (S := S ++ L1) (δ := [some (.int c), some (.int u), some (.int s), some (.int (c % 6)), some (.ref (S.length + 7))]) (fi := evI G (callD G T (n + 2)) (.val (.idx (.v 4) (.v 3)))) (m := S.length + j) (xs := [x1, x2, x3, x4, x5]) rfl (by
        rw [evI]
        refine iVal_ref ?_ h1
        simp only [ev, f2, getV, List.getElem?_cons_zero, List.getElem?_cons_succ, bind_ok]
        exact h2) h1 (by show 5 ≤ lim; decide)
      show exSs G (callD G T (n + 2)) [_] _ _ = _
      rw [exSs, exS, exSs, sSeq, sRet, ev, evs, evs, fCall, aCons, ev, q]
      have t := tup5 (S ++ L1) x1 x2 x3 x4 x5
      simp only [bind_ok, aNil, bfD, t, toS_ok, seq_ret]
    have ix : ∀ k : Nat, ∀ x, ([.ref S.length, .ref (S.length + 1), .ref (S.length + 2), .ref (S.length + 4), .ref (S.length + 5)] : List D)[k]? = some x → idxF (.ref (S.length + 7)) (.int (k : Int)) (S ++ L1) = .ok x (S ++ L1) := by
      intro k x hx
      rw [idx_ref' (ds := [.ref S.length, .ref (S.length + 1), .ref (S.length + 2), .ref (S.length + 4), .ref (S.length + 5)]) (by rw [List.getElem?_append_right (by omega), Nat.add_sub_cancel_left]; rfl)]
      exact atR_nat hx
    have gt : ∀ j o, L1[j]? = some o → (S ++ L1)[S.length + j]? = some o := by
      intro j o ho
      rw [List.getElem?_append_right (by omega), Nat.add_sub_cancel_left]
      exact ho
    have all : ∀ (x1 x2 x3 x4 x5 : Int) (j : Nat), -17 < x1 ∧ x1 < 17 → -17 < x2 ∧ x2 < 17 → -17 < x3 ∧ x3 < 17 → -17 < x4 ∧ x4 < 17 → -17 < x5 ∧ x5 < 17 → L1[j]? = some (.lst ([x1, x2, x3, x4, x5].map D.int)) → idxF (.ref (S.length + 7)) (.int (c % 6)) (S ++ L1) = .ok (.ref (S.length + j)) (S ++ L1) → ∃ r, DyR 1 r ∧ callD G T (n + 3) "_law_make" [.int c] S = .ok (ruD r) S := by
      intro x1 x2 x3 x4 x5 j a1 a2 a3 a4 a5 h1 h2
      refine go (r16 x1 x2 x3 x4 x5) (L1 ++ [.lst ([x1, x2, x3, x4, x5].map fun i => frD (Rat.divInt i 16))]) (dy_r16 a1 a2 a3 a4 a5) ?_
      show exSs G (callD G T (n + 2)) ((c__law_make.drop 3).take 3 ++ (c__law_make.drop 3).drop 3) _ _ = _
      rw [exSs_app, b, seq_next, fin x1 x2 x3 x4 x5 j (gt _ _ h1) h2, List.append_assoc]
    rcases hf with hf | hf | hf | hf | hf
    · exact all (16 - u) 0 s (16 - u) u 0 (by omega) (by omega) (by omega) (by omega) (by omega) rfl (by rw [hf]; exact ix 0 _ rfl)
    · exact all 16 (0 - s) s (16 - u) u 1 (by omega) (by omega) (by omega) (by omega) (by omega) rfl (by rw [hf]; exact ix 1 _ rfl)
    · exact all (16 - s) 0 s (16 - u) u 2 (by omega) (by omega) (by omega) (by omega) (by omega) rfl (by rw [hf]; exact ix 2 _ rfl)
    · exact all (s + 16 - u) (0 - s) s (16 - u) u 4 (by omega) (by omega) (by omega) (by omega) (by omega) rfl (by rw [hf]; exact ix 3 _ rfl)
    · exact all (16 - u) s 0 16 0 5 (by omega) (by omega) (by omega) (by omega) (by omega) rfl (by rw [hf]; exact ix 4 _ rfl)
theorem cut_ints (ns : List Int) (lo hi : Nat) : ∃ zs : List Int, cutD (ns.map D.int) (some (lo : Int)) (some (hi : Int)) = zs.map D.int ∧ zs.length ≤ hi - lo := by
  unfold cutD
  rw [HT.sIx_nat, HT.sIx_nat, List.length_map, ← List.map_drop, ← List.map_take]
  refine ⟨_, rfl, ?_⟩
  rw [List.length_take, List.length_drop]
  omega
theorem sl_run {ns : List Int} {fa fl fh : Fd} {δ : Dv} {S : Sto} {lo hi : Nat} (e1 : fa δ S = .ok (.rol (ns.map D.int)) S) (e2 : fl δ S = .ok (.int (lo : Nat)) S) (e3 : fh δ S = .ok (.int (hi : Nat)) S) (hh : hi ≤ 100) : ∃ zs : List Int, zs.length ≤ hi - lo ∧ fSl fa fl fh δ S = .ok (.ref S.length) (S ++ [.lst (zs.map D.int)]) := by
  obtain ⟨zs, h1, h2⟩ := cut_ints ns lo hi
  refine ⟨zs, h2, ?_⟩
  unfold fSl
  rw [e1, bind_ok, e2, bind_ok]
  show (R.bind (fh δ S) _) = _
  rw [e3, bind_ok]
  show mkLst (cutD (ns.map D.int) (some (lo : Int)) (some (hi : Int))) S = _
  rw [h1]
  exact if_pos (by rw [List.length_map]; unfold lim; omega)
theorem list_lst {S : Sto} {n : Nat} {xs : List D} (hx : S[n]? = some (.lst xs)) (hl : xs.length ≤ lim) : listB [.ref n] S = .ok (.ref S.length) (S ++ [.lst xs]) := by
  unfold listB
  dsimp only
  rw [dit_lst hx]
  show (match seqD (.ref n) S with | some xs => mkLst xs S | none => .fail) = _
  rw [show seqD (.ref n) S = some xs from by show (match S[n]? with | some (.lst xs) => some xs | _ => none) = _; rw [hx]]
  exact if_pos hl
theorem nd_else {j lo hi : Nat} {ks : List (Nat × Nat)} (c1 : ¬ hi - lo = 1) (c2 : ¬ (lo, hi) ∈ ks) : nd (j + 1) lo hi ks = nd j lo ((lo + hi) / 2) ks ++ nd j ((lo + hi) / 2) hi (ks ++ nd j lo ((lo + hi) / 2) ks) ++ [(lo, hi)] := by
  rw [nd, if_neg (fun z => z.elim c1 c2)]
theorem nd_fuel : ∀ {j lo hi : Nat} {ks : List (Nat × Nat)}, lo < hi → hi - lo ≤ 2 ^ j → nd (j + 1) lo hi ks = nd j lo hi ks
  | 0, lo, hi, ks, h, e => by
    have e1 : hi - lo = 1 := by
      have : (2 : Nat) ^ 0 = 1 := rfl
      omega
    rw [nd_one e1, nd_one e1]
  | j + 1, lo, hi, ks, h, e => by
    have hp : (2 : Nat) ^ (j + 1) = 2 * 2 ^ j := by rw [Nat.pow_succ]; omega
    by_cases c1 : hi - lo = 1
    · rw [nd_one c1, nd_one c1]
    by_cases c2 : (lo, hi) ∈ ks
    · rw [nd_in c2, nd_in c2]
    rw [nd_else (j := j + 1) c1 c2, nd_else (j := j) c1 c2, nd_fuel (j := j) (lo := lo) (hi := (lo + hi) / 2) (by omega) (by omega), nd_fuel (j := j) (lo := (lo + hi) / 2) (hi := hi) (by omega) (by omega)]
theorem nd_fuel' {j lo hi : Nat} {ks : List (Nat × Nat)} (h : lo < hi) (e : hi - lo ≤ 2 ^ j) : ∀ i, nd (j + i) lo hi ks = nd j lo hi ks
  | 0 => rfl
  | i + 1 => by
    rw [show j + (i + 1) = (j + i) + 1 from rfl, nd_fuel h (Nat.le_trans e (Nat.pow_le_pow_right (by decide) (by omega))), nd_fuel' h e i]
theorem nd_full : ∀ {j lo hi : Nat} {ks : List (Nat × Nat)}, lo < hi → hi - lo ≤ 2 ^ j → (∀ x ∈ ks, ¬ (lo ≤ x.1 ∧ x.2 ≤ hi)) → (nd j lo hi ks).length + 1 = hi - lo
  | 0, lo, hi, ks, h, e, _ => by
    have : (2 : Nat) ^ 0 = 1 := rfl
    show 0 + 1 = hi - lo
    omega
  | j + 1, lo, hi, ks, h, e, n => by
    have hp : (2 : Nat) ^ (j + 1) = 2 * 2 ^ j := by rw [Nat.pow_succ]; omega
    unfold nd
    split
    · rename_i c
      rcases c with c | c
      · show 0 + 1 = hi - lo
        omega
      · exact absurd ⟨Nat.le_refl _, Nat.le_refl _⟩ (n _ c)
    · rename_i c
      have h1 := nd_full (j := j) (lo := lo) (hi := (lo + hi) / 2) (ks := ks) (by omega) (by omega) (fun x hx z => n x hx (by omega))
      have h2 := nd_full (j := j) (lo := (lo + hi) / 2) (hi := hi) (ks := ks ++ nd j lo ((lo + hi) / 2) ks) (by omega) (by omega) (fun x hx z => by
        rcases List.mem_append.mp hx with hx | hx
        · exact n x hx (by omega)
        · have := nd_sub hx (by omega)
          omega)
      rw [List.length_append, List.length_append, List.length_singleton]
      omega
theorem nd_root {j lo hi : Nat} {ks : List (Nat × Nat)} (h : lo + 2 ≤ hi) : (lo, hi) ∈ ks ++ nd (j + 1) lo hi ks := by
  unfold nd
  split
  · rename_i c
    rcases c with c | c
    · omega
    · rw [List.append_nil]
      exact c
  · simp
noncomputable def Have (P : List Nat) (ks : List (Nat × Nat)) : Nat → Nat → Nat → Prop
  | 0, _, _ => True
  | j + 1, lo, hi => hi - lo = 1 ∨ (((lo, hi) ∈ ks ∨ ∃ k ∈ P, lo ≤ k ∧ k < hi) ∧ Have P ks j lo ((lo + hi) / 2) ∧ Have P ks j ((lo + hi) / 2) hi)
theorem Have.mono {P : List Nat} {ks ks' : List (Nat × Nat)} (s : ∀ x ∈ ks, x ∈ ks') : ∀ {j lo hi : Nat}, Have P ks j lo hi → Have P ks' j lo hi
  | 0, _, _, _ => trivial
  | j + 1, lo, hi, h => by
    unfold Have at h ⊢
    rcases h with h | ⟨h1, h2, h3⟩
    · exact .inl h
    · exact .inr ⟨h1.imp (s _) id, Have.mono s h2, Have.mono s h3⟩
theorem Have.down {P : List Nat} {ks : List (Nat × Nat)} : ∀ {j lo hi : Nat}, Have P ks (j + 1) lo hi → Have P ks j lo hi
  | 0, _, _, _ => trivial
  | j + 1, lo, hi, h => by
    rw [Have] at h ⊢
    rcases h with h | ⟨h1, h2, h3⟩
    · exact .inl h
    · exact .inr ⟨h1, h2.down, h3.down⟩
theorem Have.downs {P : List Nat} {ks : List (Nat × Nat)} {j lo hi : Nat} : ∀ i, Have P ks (j + i) lo hi → Have P ks j lo hi
  | 0, h => h
  | i + 1, h => Have.downs i (Have.down (j := j + i) h)
theorem have_range {n : Nat} {ks : List (Nat × Nat)} : ∀ {j lo hi : Nat}, lo < hi → hi ≤ n → Have (List.range n) ks j lo hi
  | 0, _, _, _, _ => trivial
  | j + 1, lo, hi, h, e => by
    unfold Have
    by_cases c : hi - lo = 1
    · exact .inl c
    · exact .inr ⟨.inr ⟨lo, List.mem_range.mpr (by omega), Nat.le_refl _, h⟩, have_range (by omega) (by omega), have_range (by omega) e⟩
theorem Have.put {P : List Nat} {ks : List (Nat × Nat)} {k : Nat} : ∀ {j lo hi : Nat}, Have P ks j lo hi → Have (k :: P) (clean k ks) j lo hi
  | 0, _, _, _ => trivial
  | j + 1, lo, hi, h => by
    unfold Have at h ⊢
    rcases h with h | ⟨h1, h2, h3⟩
    · exact .inl h
    · refine .inr ⟨?_, h2.put, h3.put⟩
      rcases h1 with h1 | ⟨q, hq, z⟩
      · by_cases c : lo ≤ k ∧ k < hi
        · exact .inr ⟨k, List.mem_cons_self, c⟩
        · refine .inl (List.mem_filter.mpr ⟨h1, ?_⟩)
          unfold hits
          simp
          omega
      · exact .inr ⟨q, List.mem_cons_of_mem _ hq, z⟩
noncomputable def ClIn (P : List Nat) (ks : List (Nat × Nat)) (lo hi : Nat) : Prop := ∀ x ∈ ks, lo ≤ x.1 → x.2 ≤ hi → ∀ k ∈ P, ¬ (x.1 ≤ k ∧ k < x.2)
theorem ClIn.put {P : List Nat} {ks : List (Nat × Nat)} {k lo hi : Nat} (h : ClIn P ks lo hi) : ClIn (k :: P) (clean k ks) lo hi := by
  intro x hx h1 h2 q hq
  obtain ⟨m1, m2⟩ := List.mem_filter.mp hx
  rcases List.mem_cons.mp hq with rfl | hq
  · unfold hits at m2
    simp at m2
    omega
  · exact h x m1 h1 h2 q hq
theorem Have.clean {P : List Nat} {ks : List (Nat × Nat)} : ∀ {j lo hi : Nat}, Have P ks j lo hi → lo < hi → (∀ k ∈ P, ¬ (lo ≤ k ∧ k < hi)) → Have [] ks j lo hi
  | 0, _, _, _, _, _ => trivial
  | j + 1, lo, hi, h, e, n => by
    unfold Have at h ⊢
    by_cases c : hi - lo = 1
    · exact .inl c
    rcases h with h | ⟨h1, h2, h3⟩
    · exact .inl h
    · refine .inr ⟨.inl ?_, h2.clean (by omega) (fun k hk z => n k hk (by omega)), h3.clean (by omega) (fun k hk z => n k hk (by omega))⟩
      rcases h1 with h1 | ⟨q, hq, z⟩
      · exact h1
      · exact absurd z (n q hq)
theorem have_all : ∀ {j lo hi : Nat} {ks : List (Nat × Nat)} {P : List Nat}, Have P ks j lo hi → ClIn P ks lo hi → lo < hi → Have [] (ks ++ nd j lo hi ks) j lo hi
  | 0, _, _, _, _, _, _, _ => trivial
  | j + 1, lo, hi, ks, P, h, cl, e => by
    by_cases c1 : hi - lo = 1
    · unfold Have
      exact .inl c1
    by_cases c2 : (lo, hi) ∈ ks
    · rw [nd_in c2, List.append_nil]
      exact h.clean e (fun k hk z => cl _ c2 (Nat.le_refl _) (Nat.le_refl _) k hk z)
    · rw [nd, if_neg (fun z => z.elim c1 c2)]
      unfold Have at h ⊢
      rcases h with h | ⟨h1, h2, h3⟩
      · exact absurd h c1
      · have q1 := have_all h2 (fun x hx a b => cl x hx a (by omega)) (by omega)
        have q2 := have_all (h3.mono (ks' := ks ++ nd j lo ((lo + hi) / 2) ks) (fun x hx => List.mem_append_left _ hx)) (fun x hx a b => by
          rcases List.mem_append.mp hx with hx | hx
          · exact cl x hx (by omega) b
          · have := nd_sub hx (by omega)
            omega) (by omega)
        refine .inr ⟨.inl (by simp), q1.mono (fun x hx => ?_), q2.mono (fun x hx => ?_)⟩
        · rcases List.mem_append.mp hx with hx | hx <;> simp [hx]
        · rcases List.mem_append.mp hx with hx | hx
          · rcases List.mem_append.mp hx with hx | hx <;> simp [hx]
          · simp [hx]
noncomputable def cnt (P : List Nat) (lo hi : Nat) : Nat := P.countP fun k => decide (lo ≤ k) && decide (k < hi)
theorem cnt_split {lo m hi : Nat} (h1 : lo ≤ m) (h2 : m ≤ hi) : ∀ P : List Nat, cnt P lo hi = cnt P lo m + cnt P m hi
  | [] => rfl
  | k :: P => by
    have ih := cnt_split h1 h2 P
    unfold cnt at ih ⊢
    rw [List.countP_cons, List.countP_cons, List.countP_cons, ih]
    by_cases a : lo ≤ k <;> by_cases b : k < m <;> by_cases c : k < hi <;> by_cases d : m ≤ k <;> simp [a, b, c, d] <;> omega
theorem cnt_pos {P : List Nat} {lo hi k : Nat} (h : k ∈ P) (a : lo ≤ k) (b : k < hi) : 1 ≤ cnt P lo hi := List.countP_pos_iff.mpr ⟨k, h, by simp [a, b]⟩
theorem nd_cost : ∀ {j lo hi : Nat} {ks : List (Nat × Nat)} {P : List Nat}, Have P ks j lo hi → lo < hi → (nd j lo hi ks).length ≤ cnt P lo hi * j
  | 0, _, _, _, _, _, _ => Nat.zero_le _
  | j + 1, lo, hi, ks, P, h, e => by
    by_cases c1 : hi - lo = 1
    · rw [nd_one c1]
      exact Nat.zero_le _
    by_cases c2 : (lo, hi) ∈ ks
    · rw [nd_in c2]
      exact Nat.zero_le _
    rw [nd, if_neg (fun z => z.elim c1 c2)]
    unfold Have at h
    rcases h with h | ⟨h1, h2, h3⟩
    · exact absurd h c1
    · have q1 := nd_cost h2 (by omega)
      have q2 := nd_cost (h3.mono (ks' := ks ++ nd j lo ((lo + hi) / 2) ks) (fun x hx => List.mem_append_left _ hx)) (by omega)
      have q3 : 1 ≤ cnt P lo hi := by
        rcases h1 with h1 | ⟨k, hk, a, b⟩
        · exact absurd h1 c2
        · exact cnt_pos hk a b
      have q4 := cnt_split (lo := lo) (m := (lo + hi) / 2) (hi := hi) (by omega) (by omega) P
      rw [List.length_append, List.length_append, List.length_singleton, Nat.mul_add, Nat.mul_one]
      generalize cnt P lo hi = c at *
      subst q4
      rw [Nat.add_mul]
      omega
theorem hg_ex {n : Nat} (h : n ≤ 32) : ∃ g, g ≤ 5 ∧ n ≤ 2 ^ g ∧ ∀ i, i < g → 2 ^ i < n := by
  have k : ∀ i, i < 5 → i = 0 ∨ i = 1 ∨ i = 2 ∨ i = 3 ∨ i = 4 := fun i hi => by omega
  by_cases c0 : n ≤ 1
  · exact ⟨0, by decide, by simpa using c0, fun i hi => absurd hi (Nat.not_lt_zero _)⟩
  by_cases c1 : n ≤ 2
  · exact ⟨1, by decide, by simpa using c1, fun i hi => by rcases k i (by omega) with rfl | rfl | rfl | rfl | rfl <;> omega⟩
  by_cases c2 : n ≤ 4
  · exact ⟨2, by decide, by simpa using c2, fun i hi => by rcases k i (by omega) with rfl | rfl | rfl | rfl | rfl <;> omega⟩
  by_cases c3 : n ≤ 8
  · exact ⟨3, by decide, by simpa using c3, fun i hi => by rcases k i (by omega) with rfl | rfl | rfl | rfl | rfl <;> omega⟩
  by_cases c4 : n ≤ 16
  · exact ⟨4, by decide, by simpa using c4, fun i hi => by rcases k i (by omega) with rfl | rfl | rfl | rfl | rfl <;> omega⟩
  · exact ⟨5, by decide, by simpa using h, fun i hi => by rcases k i (by omega) with rfl | rfl | rfl | rfl | rfl <;> omega⟩
theorem ndW_cost {rs : List Ru} {ks : List (Nat × Nat)} {P : List Nat} {g : Nat} (h : Have P ks 5 0 rs.length) (h5 : g ≤ 5) (hg : rs.length ≤ 2 ^ g) (hr : rs.length ≤ 32) : (ndW rs ks).length ≤ P.length * g ∧ (ndW rs ks).length + 1 ≤ max 1 rs.length := by
  unfold ndW
  split
  · exact ⟨Nat.zero_le _, by simp; omega⟩
  · rename_i c
    have pos := List.length_pos_iff.mpr c
    have q := nd_len (j := 5) (lo := 0) (hi := rs.length) (ks := ks) pos
    refine ⟨?_, by omega⟩
    obtain ⟨i, hi⟩ : ∃ i, g + i = 5 := ⟨5 - g, by omega⟩
    have e := nd_fuel' (ks := ks) pos (show rs.length - 0 ≤ 2 ^ g by omega) i
    rw [hi] at e
    rw [e]
    have hv : Have P ks g 0 rs.length := by
      rw [← hi] at h
      exact h.downs i
    exact Nat.le_trans (nd_cost hv pos) (Nat.mul_le_mul_right _ List.countP_le_length)
theorem two_le {k : Nat} (h : k ≤ 5) : 2 ^ k ≤ 32 := Nat.le_trans (Nat.pow_le_pow_right (by decide) h) (by decide)
theorem sm2 {k : Nat} (h : k ≤ 5) : Sm 40 ((2 ^ k : Nat) : Int) := by
  have := two_le h
  generalize (2 ^ k : Nat) = u at *
  exact sm_of_lt (by omega) (by omega)
theorem pow_loop {Φ : Phi} {S : Sto} {i : Nat} (hi : i ≤ 5) : ∃ y, exSs G Φ [.for_ 2 (.rg1 (.v 0)) [.set 1 (.bin .mul (.v 1) (.k (.int 2)))]] [some (.int (i : Nat)), some (.int 1), none] S = .next [some (.int (i : Nat)), some (.int ((2 ^ i : Nat) : Int)), y] S := by
  obtain ⟨δ', S', h1, ⟨y, rfl⟩, rfl⟩ := ex_forI (G := G) (Φ := Φ) (v := 2) (it := .rg1 (.v 0)) (b := [.set 1 (.bin .mul (.v 1) (.k (.int 2)))]) (t := .its ((List.range i).map fun k => D.int (0 + (k : Nat)))) (ds := (List.range i).map fun k => D.int (0 + (k : Nat))) (δ := [some (.int (i : Nat)), some (.int 1), none]) (S := S) (S0 := S)
    (fun k δ S' => (∃ y, δ = [some (.int (i : Nat)), some (.int ((2 ^ k : Nat) : Int)), y]) ∧ S' = S) (by
      rw [evI]
      exact it_rg1 (by rw [ev]; rfl) (by omega)) (by simp [lim]; omega) (fun _ _ _ _ => rfl) ⟨⟨none, rfl⟩, rfl⟩ (fun k δ S' d q hd => by
      obtain ⟨⟨y, rfl⟩, rfl⟩ := q
      have hk : k < i := by
        have := (List.getElem?_eq_some_iff.mp hd).1
        simpa using this
      have e := mul_sm (S := S') (sm2 (k := k) (by omega)) (show Sm 3 2 from sm_of_lt (by decide) (by decide)) (by decide)
      have e2 : ((2 ^ k : Nat) : Int) * 2 = ((2 ^ (k + 1) : Nat) : Int) := by rw [Nat.pow_succ]; omega
      rw [e2] at e
      refine ⟨[some (.int (i : Nat)), some (.int ((2 ^ (k + 1) : Nat) : Int)), some d], S', ?_, ⟨_, rfl⟩, rfl⟩
      show exSs G Φ _ [some (.int (i : Nat)), some (.int ((2 ^ k : Nat) : Int)), some d] S' = _
      generalize ((2 ^ k : Nat) : Int) = u at *
      generalize ((2 ^ (k + 1) : Nat) : Int) = w at *
      clear e2 hd
      walk_at "exh")
  rw [List.length_map, List.length_range] at h1
  exact ⟨y, h1⟩
theorem pow_run {Φ : Phi} {S : Sto} {i : Nat} {u : Int} {y : Option D} (h : exSs G Φ [.for_ 2 (.rg1 (.v 0)) [.set 1 (.bin .mul (.v 1) (.k (.int 2)))]] [some (.int (i : Nat)), some (.int 1), none] S = .next [some (.int (i : Nat)), some (.int u), y] S) : exSs G Φ c__law_power [some (.int (i : Nat)), none, none] S = .ret (.int u) S := by
  have e : c__law_power = [.set 1 (.k (.int 1))] ++ ([.for_ 2 (.rg1 (.v 0)) [.set 1 (.bin .mul (.v 1) (.k (.int 2)))]] ++ [.ret (.v 1)]) := rfl
  rw [e, exSs_app, show exSs G Φ [.set 1 (.k (.int 1))] [some (.int (i : Nat)), none, none] S = .next [some (.int (i : Nat)), some (.int 1), none] S from by walk_at "ex", seq_next, exSs_app, h, seq_next]
  clear h e
  walk_at "ex"
theorem r_power (n : Nat) (S : Sto) {i : Nat} (hi : i ≤ 5) : callD G T (n + 1) "_law_power" [.int (i : Nat)] S = .ok (.int ((2 ^ i : Nat) : Int)) S := by
  obtain ⟨y, h⟩ := pow_loop (Φ := callD G T n) (S := S) hi
  exact call_ret0 T__law_power rfl (pow_run h)
noncomputable def μa (k : Nat) (δ : Dv) : Nat := match δ[k]? with
  | some (some (.int i)) => 6 - i.toNat
  | _ => 0
theorem μa_le (k : Nat) (δ : Dv) : μa k δ ≤ 6 := by
  unfold μa
  split <;> omega
theorem lh_run {Φ : Phi} {S : Sto} {m g : Nat} (pw : ∀ i : Nat, i ≤ 5 → Φ "_law_power" [.int (i : Nat)] S = .ok (.int ((2 ^ i : Nat) : Int)) S) (h5 : g ≤ 5) (hm : m ≤ 2 ^ g) (hl : ∀ i, i < g → 2 ^ i < m) : exSs G Φ c__law_height [some (.int (m : Nat)), none] S = .ret (.int (g : Nat)) S := by
  have e0 : c__law_height = [.set 1 (.k (.int 0))] ++ [.whl (.cmp .lt (.call "_law_power" [(.v 1)]) (.v 0)) [.set 1 (.bin .add (.v 1) (.k (.int 1)))], .ret (.v 1)] := rfl
  rw [e0, exSs_app, show exSs G Φ [.set 1 (.k (.int 0))] [some (.int (m : Nat)), none] S = .next [some (.int (m : Nat)), some (.int 0)] S from by walk_at "ex", seq_next, exSs, exS, sSeq]
  refine while_down (μ := μa 1) (P := fun δ S' => S' = S ∧ ∃ i : Nat, i ≤ g ∧ δ = [some (.int (m : Nat)), some (.int (i : Nat))]) (Q := fun r => r.bind _ = _) ?_ bigB _ S ⟨rfl, 0, Nat.zero_le _, rfl⟩ (big_lim (Nat.le_trans (μa_le _ _) (by decide)))
  rintro δ S' ⟨rfl, i, hi, rfl⟩
  replace pw := pw i (by omega)
  by_cases c : i < g
  · have d1 : decide (((2 ^ i : Nat) : Int) < (m : Int)) = true := by have := hl i c; simpa using (by omega : ((2 ^ i : Nat) : Int) < (m : Int))
    refine .inr ⟨S', ?_, [some (.int (m : Nat)), some (.int ((i : Nat) + 1))], S', ?_, ⟨rfl, i + 1, by omega, rfl⟩, ?_⟩
    · generalize ((2 ^ i : Nat) : Int) = u at *
      clear hl hm e0
      walk_at "exh"
    · clear pw d1 hl hm e0
      walk_at "exh"
    · show 6 - ((i : Int) + 1).toNat < 6 - (i : Int).toNat
      omega
  · have e : i = g := by omega
    subst e
    have d1 : decide (((2 ^ i : Nat) : Int) < (m : Int)) = false := by simpa using (by omega : (m : Int) ≤ ((2 ^ i : Nat) : Int))
    refine .inl ⟨S', ?_, ?_⟩
    · generalize ((2 ^ i : Nat) : Int) = u at *
      clear hl hm e0
      walk_at "exh"
    · clear e0
      walk_at "ex"
theorem r_lheight (n : Nat) (S : Sto) {m g : Nat} (h5 : g ≤ 5) (hm : m ≤ 2 ^ g) (hl : ∀ i, i < g → 2 ^ i < m) : callD G T (n + 2) "_law_height" [.int (m : Nat)] S = .ok (.int (g : Nat)) S :=
  call_ret0 T__law_height rfl (lh_run (fun i hi => r_power n S hi) h5 hm hl)
section
variable {S : Sto} {a r h : Nat} {rs : List Ru} {ks : List (Nat × Nat)} {p : Int}
theorem r_kheight (n : Nat) (K : Kp S a r h rs ks p) {g : Nat} (h5 : g ≤ 5) (hm : rs.length ≤ 2 ^ g) (hl : ∀ i, i < g → 2 ^ i < rs.length) : callD G T (n + 1) "Keeper.height" [.ref a] S = .ok (.int (g : Nat)) S := by
  refine call_ret0 T_Keeper_dot_height rfl ?_
  show exSs G (callD G T n) ([_, _] ++ [_, _]) [some (.ref a), none, none] S = _
  rw [exSs_app, show exSs G (callD G T n) [.set 1 (.k (.int 1)), .set 2 (.k (.int 0))] [some (.ref a), none, none] S = .next [some (.ref a), some (.int 1), some (.int 0)] S from by walk_at "ex", seq_next, exSs, exS, sSeq]
  refine while_down (μ := μa 2) (P := fun δ S' => S' = S ∧ ∃ i : Nat, i ≤ g ∧ δ = [some (.ref a), some (.int ((2 ^ i : Nat) : Int)), some (.int (i : Nat))]) (Q := fun r => r.bind _ = _) ?_ bigB _ S ⟨rfl, 0, Nat.zero_le _, rfl⟩ (big_lim (Nat.le_trans (μa_le _ _) (by decide)))
  rintro δ S' ⟨rfl, i, hi, rfl⟩
  have f := K.fr (δ := [some (.ref a), some (.int ((2 ^ i : Nat) : Int)), some (.int (i : Nat))]) (fo := getV 0) rfl
  have l := K.len
  by_cases c : i < g
  · have d1 : decide (((2 ^ i : Nat) : Int) < ((rs.length : Nat) : Int)) = true := by have := hl i c; simpa using (by omega : ((2 ^ i : Nat) : Int) < ((rs.length : Nat) : Int))
    have e := mul_sm (S := S') (show Sm 3 2 from sm_of_lt (by decide) (by decide)) (sm2 (k := i) (by omega)) (by decide)
    have e2 : 2 * ((2 ^ i : Nat) : Int) = ((2 ^ (i + 1) : Nat) : Int) := by rw [Nat.pow_succ]; omega
    rw [e2] at e
    refine .inr ⟨S', ?_, [some (.ref a), some (.int ((2 ^ (i + 1) : Nat) : Int)), some (.int ((i : Nat) + 1))], S', ?_, ⟨rfl, i + 1, by omega, rfl⟩, ?_⟩
    · generalize ((2 ^ i : Nat) : Int) = u at *
      clear hl hm K e2
      walk_at "exh"
    · generalize ((2 ^ i : Nat) : Int) = u at *
      generalize ((2 ^ (i + 1) : Nat) : Int) = w at *
      clear f l d1 hl hm K e2
      walk_at "exh"
    · show 6 - ((i : Int) + 1).toNat < 6 - (i : Int).toNat
      omega
  · have e : i = g := by omega
    subst e
    have d1 : decide (((2 ^ i : Nat) : Int) < ((rs.length : Nat) : Int)) = false := by simpa using (by omega : ((rs.length : Nat) : Int) ≤ ((2 ^ i : Nat) : Int))
    refine .inl ⟨S', ?_, ?_⟩
    · generalize ((2 ^ i : Nat) : Int) = u at *
      clear hl hm K
      walk_at "exh"
    · walk_at "ex"
theorem r_kmade (n : Nat) (K : Kp S a r h rs ks p) : callD G T (n + 1) "Keeper.made" [.ref a] S = .ok (.int p) S := by
  refine call_ret0 T_Keeper_dot_made rfl ?_
  unfold f_Keeper_dot_made c_Keeper_dot_made
  have f := K.fp (δ := [some (.ref a)]) (fo := getV 0) rfl
  clear K
  walk_at "exh"
end
theorem mod_nat (i : Int) {n : Nat} (h : 0 < n) : ∃ j : Nat, i % (n : Int) = j ∧ j < n := by
  have h1 := Int.emod_nonneg i (show (n : Int) ≠ 0 by omega)
  have h2 := Int.emod_lt_of_pos i (show 0 < (n : Int) by omega)
  exact ⟨(i % (n : Int)).toNat, by omega, by omega⟩
theorem m_putat : G.mth "Keeper" "put_at" = some (("Keeper.put_at" : Str), 3) := by kernel_rfl
theorem m_putin : G.mth "Keeper" "put_in" = some (("Keeper.put_in" : Str), 3) := by kernel_rfl
theorem m_take : G.mth "Keeper" "take_out" = some (("Keeper.take_out" : Str), 2) := by kernel_rfl
theorem m_many : G.mth "Keeper" "many" = some (("Keeper.many" : Str), 1) := by kernel_rfl
theorem m_whole : G.mth "Keeper" "whole" = some (("Keeper.whole" : Str), 1) := by kernel_rfl
theorem m_made : G.mth "Keeper" "made" = some (("Keeper.made" : Str), 1) := by kernel_rfl
theorem m_height : G.mth "Keeper" "height" = some (("Keeper.height" : Str), 1) := by kernel_rfl
noncomputable def Did (rs rs' : List Ru) (ks ks' : List (Nat × Nat)) (d : Int) : Prop := (d = 1 ∧ rs'.length = rs.length ∧ rs ≠ [] ∧ ∃ k, ks' = clean k ks) ∨ (d = 100 ∧ ks' = []) ∨ (d = 0 ∧ ks' = ks ∧ rs' = rs)
theorem r_done (n : Nat) {S : Sto} {a r h : Nat} {rs : List Ru} {ks : List (Nat × Nat)} {p : Int} (c : Int) (K : Kp S a r h rs ks p) (hd : ∀ x ∈ rs, DyR 1 x) (hr : rs.length ≤ 17) (hk : ks.length ≤ lim) :
    ∃ S' rs' ks' d, callD G T (n + 5) "_law_done" [.ref a, .int c] S = .ok (.int d) S' ∧ Kp S' a r h rs' ks' p ∧ (∀ x ∈ rs', DyR 1 x) ∧ rs'.length ≤ 17 ∧ Fr S S' a r h ∧ Did rs rs' ks ks' d := by
  obtain ⟨x, hx, mk⟩ := r_lmake (n + 1) S (c / 6)
  have mx := r_mixed (n + 3) S c 3
  have mm := meth_run (G := G) (Φ := callD G T (n + 4)) (m := "many") (δ := [some (.ref a), some (.int c), none, none, none]) (fo := getV 0) (fa := aNil) (S := S) (S1 := S) (S2 := S) (ds := []) rfl K.ins m_many g_ke.1 rfl rfl rfl
  rw [r_many (n + 3) K] at mm
  have top : exSs G (callD G T (n + 4)) (c__law_done.take 3) [some (.ref a), some (.int c), none, none, none] S = .next [some (.ref a), some (.int c), some (.int (rs.length : Nat)), some (ruD x), some (.int (mixI c 3))] S := by
    show exSs G (callD G T (n + 4)) [_, _, _] _ _ = _
    clear K hd hr hk hx
    walk_at "exh"
  have fin : ∀ S' rs' ks' d, exSs G (callD G T (n + 4)) (c__law_done.drop 3) [some (.ref a), some (.int c), some (.int (rs.length : Nat)), some (ruD x), some (.int (mixI c 3))] S = .ret (.int d) S' → Kp S' a r h rs' ks' p → (∀ x ∈ rs', DyR 1 x) → rs'.length ≤ 17 → Fr S S' a r h → Did rs rs' ks ks' d → ∃ S' rs' ks' d, callD G T (n + 5) "_law_done" [.ref a, .int c] S = .ok (.int d) S' ∧ Kp S' a r h rs' ks' p ∧ (∀ x ∈ rs', DyR 1 x) ∧ rs'.length ≤ 17 ∧ Fr S S' a r h ∧ Did rs rs' ks ks' d := by
    intro S' rs' ks' d e K' d' l' f' w'
    obtain ⟨S3, g1, g2⟩ := gc_of (S := S) (S' := S') (d := .int d) rfl
    refine ⟨S3, rs', ks', d, ?_, ?_⟩
    · rw [call_gc (d := .int d) (S' := S') T__law_done rfl ?_]
      · exact g1
      show exSs G (callD G T (n + 4)) (c__law_done.take 3 ++ c__law_done.drop 3) [some (.ref a), some (.int c), none, none, none] S = _
      rw [exSs_app, top, seq_next]
      exact e
    · rcases g2 with rfl | ⟨rfl, pre⟩
      · exact ⟨K', d', l', f', w'⟩
      · exact ⟨⟨pre_at pre K'.ins K.ins, pre_at pre K'.row K.row, pre_at pre K'.kept K.kept, K'.ok, K'.nod⟩, d', l', .refl, w'⟩
  clear top mm mk mx
  generalize mixI c 3 = t at *
  have h6 : 0 ≤ c % 6 ∧ c % 6 < 6 := ⟨Int.emod_nonneg _ (by decide), Int.emod_lt_of_pos _ (by decide)⟩
  have none_ : (∃ b, decide (c % 6 < 3) = b ∧ (b = true → decide (((rs.length : Nat) : Int) > 0) = false)) → (∃ b, (c % 6 == 3) = b ∧ (b = true → decide (((rs.length : Nat) : Int) < 17) = false)) → (∃ b, (c % 6 == 4) = b ∧ (b = true → decide (((rs.length : Nat) : Int) > 0) = false)) → exSs G (callD G T (n + 4)) (c__law_done.drop 3) [some (.ref a), some (.int c), some (.int (rs.length : Nat)), some (ruD x), some (.int t)] S = .ret (.int 0) S := by
    rintro ⟨b1, e1, q1⟩ ⟨b2, e2, q2⟩ ⟨b3, e3, q3⟩
    show exSs G (callD G T (n + 4)) [_, _, _, _] _ _ = _
    clear fin K hd hr hk hx h6
    cases b1 with
    | true =>
      have q1' := q1 rfl
      cases b2 with
      | true =>
        have q2' := q2 rfl
        cases b3 with
        | true =>
          have q3' := q3 rfl
          clear q1 q2 q3
          walk_at "exh"
        | false =>
          clear q1 q2 q3
          walk_at "exh"
      | false =>
        cases b3 with
        | true =>
          have q3' := q3 rfl
          clear q1 q2 q3
          walk_at "exh"
        | false =>
          clear q1 q2 q3
          walk_at "exh"
    | false =>
      cases b2 with
      | true =>
        have q2' := q2 rfl
        cases b3 with
        | true =>
          have q3' := q3 rfl
          clear q1 q2 q3
          walk_at "exh"
        | false =>
          clear q1 q2 q3
          walk_at "exh"
      | false =>
        cases b3 with
        | true =>
          have q3' := q3 rfl
          clear q1 q2 q3
          walk_at "exh"
        | false =>
          clear q1 q2 q3
          walk_at "exh"
  by_cases cA : c % 6 < 3 ∧ 0 < rs.length
  · obtain ⟨j, hj, hj'⟩ := mod_nat t cA.2
    obtain ⟨S2, q2, K2, F2⟩ := r_put_at (n + 1) K (k := j) (x := x) hj' hk
    have md : ∀ S, modD (.int t) (.int (rs.length : Nat)) S = .ok (.int (t % (rs.length : Nat))) S := fun S => mod_pos (by omega)
    have me := meth_run (G := G) (Φ := callD G T (n + 4)) (m := "put_at") (δ := [some (.ref a), some (.int c), some (.int (rs.length : Nat)), some (ruD x), some (.int t)]) (fo := getV 0) (fa := aCons (f2 modD (getV 4) (getV 2)) (aCons (getV 3) aNil)) (S := S) (S1 := S) (S2 := S) (ds := [.int (t % (rs.length : Nat)), ruD x]) rfl K.ins m_putat g_ke.1 rfl (by
      clear K q2 K2 F2 fin none_ hj
      walk_at "exh") rfl
    rw [hj, q2] at me
    refine fin S2 (rs.set j x) (clean j ks) 1 ?_ K2 (fun y hy => by
      rcases List.mem_or_eq_of_mem_set hy with hy | rfl
      · exact hd y hy
      · exact hx) (by rw [List.length_set]; exact hr) F2 (.inl ⟨rfl, List.length_set, List.length_pos_iff.mp cA.2, j, rfl⟩)
    have d1 : decide (c % 6 < 3) = true := by simpa using cA.1
    have d2 : decide (((rs.length : Nat) : Int) > 0) = true := by simpa using (by omega : (0 : Int) < ((rs.length : Nat) : Int))
    show exSs G (callD G T (n + 4)) [_, _, _, _] _ _ = _
    clear K q2 K2 F2 fin none_ hj cA hd hx hr hk h6
    walk_at "exh"
  by_cases cB : c % 6 = 3 ∧ rs.length < 17
  · obtain ⟨j, hj, hj'⟩ := mod_nat t (n := rs.length + 1) (by omega)
    have hj2 : t % ((rs.length : Nat) + 1 : Int) = j := hj
    obtain ⟨S2, q2, K2, F2, z2⟩ := r_put_in (n + 1) K (i := j) (x := x) (by omega) (by omega)
    have md : ∀ S, modD (.int t) (.int ((rs.length : Nat) + 1)) S = .ok (.int (t % ((rs.length : Nat) + 1))) S := fun S => mod_pos (by omega)
    have me := meth_run (G := G) (Φ := callD G T (n + 4)) (m := "put_in") (δ := [some (.ref a), some (.int c), some (.int (rs.length : Nat)), some (ruD x), some (.int t)]) (fo := getV 0) (fa := aCons (f2 modD (getV 4) (f2 addD (getV 2) (okD (.int 1)))) (aCons (getV 3) aNil)) (S := S) (S1 := S) (S2 := S) (ds := [.int (t % ((rs.length : Nat) + 1)), ruD x]) rfl K.ins m_putin g_ke.1 rfl (by
      clear K q2 K2 F2 fin none_ hj hj2
      walk_at "exh") rfl
    rw [hj2, q2] at me
    refine fin S2 _ [] 100 ?_ K2 (fun y hy => by
      rcases List.mem_append.mp hy with hy | hy
      · exact hd y (List.mem_of_mem_take hy)
      · rcases List.mem_cons.mp hy with rfl | hy
        · exact hx
        · exact hd y (List.mem_of_mem_drop hy)) (by rw [List.length_append, List.length_cons, List.length_take, List.length_drop]; omega) F2 (.inr (.inl ⟨rfl, rfl⟩))
    have d1 : decide (c % 6 < 3) = false := by simpa using (by omega : (3 : Int) ≤ c % 6)
    have d2 : decide (((rs.length : Nat) : Int) < 17) = true := by simpa using (by omega : ((rs.length : Nat) : Int) < 17)
    have d3 : (c % 6 == 3) = true := by simpa using cB.1
    show exSs G (callD G T (n + 4)) [_, _, _, _] _ _ = _
    clear K q2 K2 F2 fin none_ hj hj2 cA cB hd hx hr hk h6
    walk_at "exh"
  by_cases cC : c % 6 = 4 ∧ 0 < rs.length
  · obtain ⟨j, hj, hj'⟩ := mod_nat t cC.2
    obtain ⟨S2, q2, K2, F2, z2⟩ := r_take_out (n + 1) K (i := j) hj' (by omega)
    have md : ∀ S, modD (.int t) (.int (rs.length : Nat)) S = .ok (.int (t % (rs.length : Nat))) S := fun S => mod_pos (by omega)
    have me := meth_run (G := G) (Φ := callD G T (n + 4)) (m := "take_out") (δ := [some (.ref a), some (.int c), some (.int (rs.length : Nat)), some (ruD x), some (.int t)]) (fo := getV 0) (fa := aCons (f2 modD (getV 4) (getV 2)) aNil) (S := S) (S1 := S) (S2 := S) (ds := [.int (t % (rs.length : Nat))]) rfl K.ins m_take g_ke.1 rfl (by
      clear K q2 K2 F2 fin none_ hj
      walk_at "exh") rfl
    rw [hj, q2] at me
    refine fin S2 _ [] 100 ?_ K2 (fun y hy => hd y (List.mem_of_mem_eraseIdx hy)) (by rw [List.length_eraseIdx, if_pos hj']; omega) F2 (.inr (.inl ⟨rfl, rfl⟩))
    have d1 : decide (c % 6 < 3) = false := by simpa using (by omega : (3 : Int) ≤ c % 6)
    have d2 : decide (((rs.length : Nat) : Int) > 0) = true := by simpa using (by omega : (0 : Int) < ((rs.length : Nat) : Int))
    have d3 : (c % 6 == 3) = false := by simpa using (by omega : ¬ c % 6 = 3)
    have d4 : (c % 6 == 4) = true := by simpa using cC.1
    show exSs G (callD G T (n + 4)) [_, _, _, _] _ _ = _
    clear K q2 K2 F2 fin none_ hj cA cB cC hd hx hr hk h6
    walk_at "exh"
  · refine fin S rs ks 0 (none_ ⟨_, rfl, fun e => ?_⟩ ⟨_, rfl, fun e => ?_⟩ ⟨_, rfl, fun e => ?_⟩) K hd hr .refl (.inr (.inr ⟨rfl, rfl, rfl⟩))
    · have := of_decide_eq_true e
      rw [decide_eq_false_iff_not]
      omega
    · have : c % 6 = 3 := by simpa using e
      rw [decide_eq_false_iff_not]
      omega
    · have : c % 6 = 4 := by simpa using e
      rw [decide_eq_false_iff_not]
      omega
theorem bind_nx (q : RS) : q.bind sNext = q := by cases q <;> rfl
theorem ite_no {Φ : Phi} {e : Ex} {u v : List Sx} {δ : Dv} {S S' : Sto} (k : bVal (ev G Φ e) δ S = .ok false S') : exSs G Φ [.ite e u v] δ S = exSs G Φ v δ S' := by
  rw [exSs, exS, sSeq, sIf, k, toS_ok, if_neg (by decide), exSs, bind_nx]
theorem ite_yes {Φ : Phi} {e : Ex} {u v : List Sx} {δ : Dv} {S S' : Sto} (k : bVal (ev G Φ e) δ S = .ok true S') : exSs G Φ [.ite e u v] δ S = exSs G Φ u δ S' := by
  rw [exSs, exS, sSeq, sIf, k, toS_ok, if_pos rfl, exSs, bind_nx]
structure Iv (S : Sto) (rs : List Ru) (ks : List (Nat × Nat)) (p since : Int) (first : Bool) : Prop where
  kp : Kp S 2 3 4 rs ks p
  dy : ∀ x ∈ rs, DyR 1 x
  len : rs.length ≤ 17
  inv : rs = [] ∨ ∃ P : List Nat, Have P ks 5 0 rs.length ∧ ClIn P ks 0 rs.length ∧ (since < 100 → (P.length : Int) ≤ since)
  s0 : 0 ≤ since
  fst : first = true → ks = [] ∧ p = 0
theorem Iv.did {S S' : Sto} {rs rs' : List Ru} {ks ks' : List (Nat × Nat)} {p since d : Int} {first : Bool} (I : Iv S rs ks p since first) (K : Kp S' 2 3 4 rs' ks' p) (dy : ∀ x ∈ rs', DyR 1 x) (len : rs'.length ≤ 17) (w : Did rs rs' ks ks' d) : Iv S' rs' ks' p (since + d) first := by
  rcases w with ⟨rfl, e1, e2, k, rfl⟩ | ⟨rfl, rfl⟩ | ⟨rfl, rfl, rfl⟩
  · refine ⟨K, dy, len, .inr ?_, by have := I.s0; omega, fun e => ⟨by rw [(I.fst e).1]; rfl, (I.fst e).2⟩⟩
    rcases I.inv with z | ⟨P, h1, h2, h3⟩
    · exact absurd z e2
    · refine ⟨k :: P, ?_, ?_, fun z => ?_⟩
      · rw [e1]; exact h1.put
      · rw [e1]; exact h2.put
      · have := h3 (by omega)
        rw [List.length_cons]
        omega
  · refine ⟨K, dy, len, ?_, by have := I.s0; omega, fun e => ⟨rfl, (I.fst e).2⟩⟩
    by_cases z : rs' = []
    · exact .inl z
    · exact .inr ⟨List.range rs'.length, have_range (List.length_pos_iff.mpr z) (Nat.le_refl _), fun x hx => (nomatch hx), fun z => by have := I.s0; omega⟩
  · refine ⟨K, dy, len, ?_, by have := I.s0; omega, I.fst⟩
    rcases I.inv with z | ⟨P, h1, h2, h3⟩
    · exact .inl z
    · exact .inr ⟨P, h1, h2, fun z => by have := h3 (by omega); omega⟩
theorem ndW_again {rs : List Ru} {ks : List (Nat × Nat)} : ndW rs (ks ++ ndW rs ks) = [] := by
  unfold ndW
  by_cases c : rs = []
  · rw [if_pos c]
  · rw [if_neg c, if_neg c]
    have := List.length_pos_iff.mpr c
    by_cases c1 : rs.length = 1
    · rw [nd_one (by omega)]
    · exact nd_in (nd_root (j := 4) (by omega))
theorem Iv.whole {S S' : Sto} {rs : List Ru} {ks : List (Nat × Nat)} {p q since : Int} {first : Bool} (I : Iv S rs ks p since first) (K : Kp S' 2 3 4 rs (ks ++ ndW rs ks) q) : Iv S' rs (ks ++ ndW rs ks) q 0 false := by
  refine ⟨K, I.dy, I.len, ?_, Int.le_refl _, fun e => nomatch e⟩
  rcases I.inv with z | ⟨P, h1, h2, h3⟩
  · exact .inl z
  · by_cases c : rs = []
    · exact .inl c
    · refine .inr ⟨[], ?_, fun x hx _ _ k hk => (nomatch hk), fun _ => Int.le_refl _⟩
      unfold ndW
      rw [if_neg c]
      exact have_all h1 h2 (List.length_pos_iff.mpr c)
theorem ndW_first {rs : List Ru} (hr : rs.length ≤ 17) : ((ndW rs []).length : Int) = if ((rs.length : Nat) : Int) - 1 > 0 then ((rs.length : Nat) : Int) - 1 else 0 := by
  unfold ndW
  by_cases c : rs = []
  · subst c
    rfl
  · rw [if_neg c]
    have pos := List.length_pos_iff.mpr c
    have := nd_full (j := 5) (lo := 0) (hi := rs.length) (ks := []) pos (by have : (2 : Nat) ^ 5 = 32 := rfl; omega) (fun x hx => nomatch hx)
    split <;> omega
theorem ndW_most {rs : List Ru} {ks : List (Nat × Nat)} {P : List Nat} {g : Nat} {since : Int} (hr : rs.length ≤ 17) (h5 : g ≤ 5) (hg : rs.length ≤ 2 ^ g) (h : rs = [] ∨ Have P ks 5 0 rs.length) (hs : (P.length : Int) ≤ since) (h0 : 0 ≤ since) : ((ndW rs ks).length : Int) ≤ since * (g : Nat) := by
  rcases h with h | h
  · unfold ndW
    rw [if_pos h]
    exact Int.mul_nonneg h0 (by omega)
  · have q := (ndW_cost h h5 hg (by omega)).1
    have q2 : ((P.length * g : Nat) : Int) ≤ since * (g : Nat) := by
      rw [Int.natCast_mul]
      exact Int.mul_le_mul_of_nonneg_right hs (by omega)
    omega
theorem ndW_max {rs : List Ru} {ks : List (Nat × Nat)} : ((ndW rs ks).length : Int) ≤ if ((rs.length : Nat) : Int) - 1 > 0 then ((rs.length : Nat) : Int) - 1 else 0 := by
  unfold ndW
  by_cases c : rs = []
  · subst c
    rw [if_pos rfl]
    decide
  · rw [if_neg c]
    have := nd_len (j := 5) (lo := 0) (hi := rs.length) (ks := ks) (List.length_pos_iff.mpr c)
    split <;> omega
noncomputable def lawC : List Sx := [.expr (.meth "whole" (.v 2) []),
    .set 8 (.bf .max [(.k (.int 0)), (.bin .sub (.v 7) (.k (.int 1)))]),
    .ite (.cmp .lt (.v 3) (.k (.int 100)))
      [.set 8 (.bf .min [(.v 8), (.bin .mul (.v 3) (.call "_law_height" [(.v 7)]))])]
      [],
    .set 9 (.meth "made" (.v 2) []),
    .ite (.or (.bf .inst [(.v 9), (.k (.ty "bool"))]) (.or (.cmp .gt (.bin .sub (.v 9) (.v 6)) (.v 8)) (.cmp .lt (.v 9) (.v 6))))
      [.ret (.k (.bl false))]
      [],
    .ite (.and (.v 4) (.cmp .ne (.v 9) (.bf .max [(.k (.int 0)), (.bin .sub (.v 7) (.k (.int 1)))])))
      [.ret (.k (.bl false))]
      [],
    .set 4 (.k (.bl false)),
    .set 3 (.k (.int 0)),
    .expr (.meth "whole" (.v 2) []),
    .ite (.cmp .ne (.meth "made" (.v 2) []) (.v 9))
      [.ret (.k (.bl false))]
      []]
noncomputable def lawB : List Sx := [.set 6 (.meth "made" (.v 2) []),
    .set 3 (.bin .add (.v 3) (.call "_law_done" [(.v 2), (.v 5)])),
    .set 7 (.meth "many" (.v 2) []),
    .ite (.or (.cmp .ne (.meth "made" (.v 2) []) (.v 6)) (.cmp .ne (.meth "height" (.v 2) []) (.call "_law_height" [(.v 7)])))
      [.ret (.k (.bl false))]
      [],
    .ite (.cmp .gt (.bin .mod (.bin .fdiv (.v 5) (.k (.int 6))) (.k (.int 3))) (.k (.int 0)))
      lawC
      []]
section
variable {L R1 : D} {x6 x7 x8 x9 : Option D} {S : Sto} {rs : List Ru} {ks : List (Nat × Nat)} {p since c : Int} {first : Bool} {q : Nat} {Q : O}
theorem turn_a {Φ : Phi} {S1 : Sto} {d : Int} {m g : Nat} (m0 : fMeth G Φ "made" (getV 2) aNil [some L, some R1, some (.ref 2), some (.int since), some (.bl first), some (.int c), x6, x7, x8, x9] S = .ok (.int p) S)
    (dn : Φ "_law_done" [.ref 2, .int c] S = .ok (.int d) S1)
    (m1 : fMeth G Φ "many" (getV 2) aNil [some L, some R1, some (.ref 2), some (.int (since + d)), some (.bl first), some (.int c), some (.int p), x7, x8, x9] S1 = .ok (.int (m : Nat)) S1)
    (m2 : fMeth G Φ "made" (getV 2) aNil [some L, some R1, some (.ref 2), some (.int (since + d)), some (.bl first), some (.int c), some (.int p), some (.int (m : Nat)), x8, x9] S1 = .ok (.int p) S1)
    (m3 : fMeth G Φ "height" (getV 2) aNil [some L, some R1, some (.ref 2), some (.int (since + d)), some (.bl first), some (.int c), some (.int p), some (.int (m : Nat)), x8, x9] S1 = .ok (.int (g : Nat)) S1)
    (lh : Φ "_law_height" [.int (m : Nat)] S1 = .ok (.int (g : Nat)) S1) :
    exSs G Φ (lawB.take 4) [some L, some R1, some (.ref 2), some (.int since), some (.bl first), some (.int c), x6, x7, x8, x9] S = .next [some L, some R1, some (.ref 2), some (.int (since + d)), some (.bl first), some (.int c), some (.int p), some (.int (m : Nat)), x8, x9] S1 := by
  show exSs G Φ [_, _, _, _] _ _ = _
  have e1 : (p == p) = true := by simp
  have e2 : (((g : Nat) : Int) == ((g : Nat) : Int)) = true := by simp
  walk_at "exh"
theorem turn_b {Φ : Phi} {S1 S2 S3 : Sto} {e M0 M : Int} {m g : Nat} {z : D}
    (w1 : fMeth G Φ "whole" (getV 2) aNil [some L, some R1, some (.ref 2), some (.int since), some (.bl first), some (.int c), some (.int p), some (.int (m : Nat)), x8, x9] S1 = .ok z S2)
    (hM : (if ((m : Nat) : Int) - 1 > 0 then ((m : Nat) : Int) - 1 else 0) = M0)
    (lh : Φ "_law_height" [.int (m : Nat)] S2 = .ok (.int (g : Nat)) S2)
    (mu : since < 100 → mulD (.int since) (.int (g : Nat)) S2 = .ok (.int (since * (g : Nat))) S2)
    (hm : M = if since < 100 then (if since * (g : Nat) < M0 then since * (g : Nat) else M0) else M0)
    (m2 : fMeth G Φ "made" (getV 2) aNil [some L, some R1, some (.ref 2), some (.int since), some (.bl first), some (.int c), some (.int p), some (.int (m : Nat)), some (.int M), x9] S2 = .ok (.int (p + e)) S2)
    (hb : e ≤ M) (h0 : 0 ≤ e) (hf : first = true → p + e = M0)
    (w2 : fMeth G Φ "whole" (getV 2) aNil [some L, some R1, some (.ref 2), some (.int 0), some (.bl false), some (.int c), some (.int p), some (.int (m : Nat)), some (.int M), some (.int (p + e))] S2 = .ok z S3)
    (m3 : fMeth G Φ "made" (getV 2) aNil [some L, some R1, some (.ref 2), some (.int 0), some (.bl false), some (.int c), some (.int p), some (.int (m : Nat)), some (.int M), some (.int (p + e))] S3 = .ok (.int (p + e)) S3) :
    exSs G Φ lawC [some L, some R1, some (.ref 2), some (.int since), some (.bl first), some (.int c), some (.int p), some (.int (m : Nat)), x8, x9] S1 = .next [some L, some R1, some (.ref 2), some (.int 0), some (.bl false), some (.int c), some (.int p), some (.int (m : Nat)), some (.int M), some (.int (p + e))] S3 := by
  have a1 : exSs G Φ (lawC.take 2) [some L, some R1, some (.ref 2), some (.int since), some (.bl first), some (.int c), some (.int p), some (.int (m : Nat)), x8, x9] S1 = .next [some L, some R1, some (.ref 2), some (.int since), some (.bl first), some (.int c), some (.int p), some (.int (m : Nat)), some (.int M0), x9] S2 := by
    show exSs G Φ [_, _] _ _ = _
    clear lh mu hm m2 hb h0 hf w2 m3
    walk_at "exh"
  have a2 : exSs G Φ ((lawC.drop 2).take 1) [some L, some R1, some (.ref 2), some (.int since), some (.bl first), some (.int c), some (.int p), some (.int (m : Nat)), some (.int M0), x9] S2 = .next [some L, some R1, some (.ref 2), some (.int since), some (.bl first), some (.int c), some (.int p), some (.int (m : Nat)), some (.int M), x9] S2 := by
    show exSs G Φ [_] _ _ = _
    by_cases cc : since < 100
    · have d1 : decide (since < 100) = true := by simpa using cc
      have mu' := mu cc
      rw [if_pos cc] at hm
      have hm' := hm.symm
      clear m2 hb h0 hf w2 m3 mu w1 hM hm a1
      walk_at "exh"
    · have d1 : decide (since < 100) = false := by simpa using cc
      rw [if_neg cc] at hm
      subst hm
      clear m2 hb h0 hf w2 m3 mu w1 hM lh a1
      walk_at "exh"
  have a3 : exSs G Φ ((lawC.drop 3).take 5) [some L, some R1, some (.ref 2), some (.int since), some (.bl first), some (.int c), some (.int p), some (.int (m : Nat)), some (.int M), x9] S2 = .next [some L, some R1, some (.ref 2), some (.int 0), some (.bl false), some (.int c), some (.int p), some (.int (m : Nat)), some (.int M), some (.int (p + e))] S2 := by
    show exSs G Φ [_, _, _, _, _] _ _ = _
    have d1 : decide (p + e - p > M) = false := by simpa using (by omega : p + e - p ≤ M)
    have d2 : decide (p + e < p) = false := by simpa using (by omega : p ≤ p + e)
    cases first with
    | true =>
      have d3 : (p + e == M0) = true := by simpa using hf rfl
      clear lh mu hm hb h0 hf w2 m3 w1 a1 a2
      walk_at "exh"
    | false =>
      clear lh mu hm hb h0 hf w2 m3 w1 a1 a2 hM
      walk_at "exh"
  show exSs G Φ (lawC.take 2 ++ ((lawC.drop 2).take 1 ++ ((lawC.drop 3).take 5 ++ lawC.drop 8))) _ _ = _
  rw [exSs_app, a1, seq_next, exSs_app, a2, seq_next, exSs_app, a3, seq_next]
  show exSs G Φ [_, _] _ _ = _
  have e1 : (p + e == p + e) = true := by simp
  clear a1 a2 a3 lh mu hm hb h0 hf w1 hM m2
  walk_at "exh"
theorem law_turn (I : Iv S rs ks p since first) (hk : ks.length ≤ 1000) (hs : since ≤ 1000000) (hq : S[q]? = some Q) (q5 : 5 ≤ q) :
    ∃ S' rs' ks' p' since' first' y6 y7 y8 y9, exSs G (callD G T 29) lawB [some L, some R1, some (.ref 2), some (.int since), some (.bl first), some (.int c), x6, x7, x8, x9] S = .next [some L, some R1, some (.ref 2), some (.int since'), some (.bl first'), some (.int c), y6, y7, y8, y9] S' ∧ Iv S' rs' ks' p' since' first' ∧ ks'.length ≤ ks.length + 20 ∧ since' ≤ since + 100 ∧ S'[q]? = some Q := by
  obtain ⟨S1, rs1, ks1, d, dn, K1, dy1, l1, F1, w⟩ := r_done 24 c I.kp I.dy I.len (by unfold lim; omega)
  have I1 := I.did K1 dy1 l1 w
  have k1 : ks1.length ≤ ks.length := by
    rcases w with ⟨_, _, _, k, rfl⟩ | ⟨_, rfl⟩ | ⟨_, rfl, _⟩
    · exact List.length_filter_le _ _
    · exact Nat.zero_le _
    · exact Nat.le_refl _
  have dd : 0 ≤ d ∧ d ≤ 100 := by rcases w with ⟨rfl, _⟩ | ⟨rfl, _⟩ | ⟨rfl, _⟩ <;> decide
  have hq1 := F1 _ _ hq (by omega) (by omega) (by omega)
  obtain ⟨g, g5, g1, g2⟩ := hg_ex (n := rs1.length) (by omega)
  have me : ∀ (m : Str) (x : Str) (S : Sto) (rs : List Ru) (ks : List (Nat × Nat)) (p : Int) (δ : Dv) (y : D) (S' : Sto), Kp S 2 3 4 rs ks p → δ[2]? = some (some (.ref 2)) → G.mth "Keeper" m = some (x, 1) → ([("row", .ref 3), ("kept", .ref 4), ("products", .int p)] : List (Str × D)).lookup m = none → callD G T 29 x [.ref 2] S = .ok y S' → fMeth G (callD G T 29) m (getV 2) aNil δ S = .ok y S' := by
    intro m x S rs ks p δ y S' K hδ hm hl hc
    have := meth_run (G := G) (Φ := callD G T 29) (m := m) (x := x) (k := 1) (δ := δ) (fo := getV 2) (fa := aNil) (S := S) (S1 := S) (S2 := S) (ds := []) (by unfold getV; rw [hδ]) K.ins hm g_ke.1 hl rfl rfl
    rw [this]
    exact hc
  have lh := r_lheight 27 S1 g5 g1 g2
  have ta := turn_a (L := L) (R1 := R1) (x6 := x6) (x7 := x7) (x8 := x8) (x9 := x9) (since := since) (first := first) (c := c) (Φ := callD G T 29) (me _ _ S rs ks p _ _ _ I.kp rfl m_made rfl (r_kmade 28 I.kp)) dn (me _ _ S1 rs1 ks1 p _ _ _ K1 rfl m_many rfl (r_many 28 K1)) (me _ _ S1 rs1 ks1 p _ _ _ K1 rfl m_made rfl (r_kmade 28 K1)) (me _ _ S1 rs1 ks1 p _ _ _ K1 rfl m_height rfl (r_kheight 28 K1 g5 g1 g2)) lh
  have sp : lawB = lawB.take 4 ++ [.ite (.cmp .gt (.bin .mod (.bin .fdiv (.v 5) (.k (.int 6))) (.k (.int 3))) (.k (.int 0))) lawC []] := rfl
  rw [sp, exSs_app, ta, seq_next]
  by_cases cc : c / 6 % 3 > 0
  · obtain ⟨S2, r2, K2, F2, z2⟩ := r_whole 17 K1 dy1 (by omega) (by omega)
    obtain ⟨S3, r3, K3, F3, z3⟩ := r_whole 17 K2 dy1 (by omega) (by
      have := ndW_max (rs := rs1) (ks := ks1)
      rw [List.length_append]
      split at this <;> omega)
    have ag := ndW_again (rs := rs1) (ks := ks1)
    have K3' : Kp S3 2 3 4 rs1 (ks1 ++ ndW rs1 ks1) (p + ((ndW rs1 ks1).length : Nat)) := by
      rw [ag, List.append_nil] at K3
      simpa using K3
    obtain ⟨M0, hM⟩ : ∃ M0, (if ((rs1.length : Nat) : Int) - 1 > 0 then ((rs1.length : Nat) : Int) - 1 else 0) = M0 := ⟨_, rfl⟩
    have b0 : ((ndW rs1 ks1).length : Int) ≤ M0 := by rw [← hM]; exact ndW_max
    have bM : ((ndW rs1 ks1).length : Int) ≤ if since + d < 100 then (if (since + d) * (g : Nat) < M0 then (since + d) * (g : Nat) else M0) else M0 := by
      split
      · rename_i cs
        have : ((ndW rs1 ks1).length : Int) ≤ (since + d) * (g : Nat) := by
          rcases I1.inv with z | ⟨P, h1, h2, h3⟩
          · exact ndW_most (P := []) l1 g5 g1 (.inl z) (by have := I1.s0; simpa using this) I1.s0
          · exact ndW_most l1 g5 g1 (.inr h1) (h3 cs) I1.s0
        split <;> omega
      · exact b0
    have tb := turn_b (L := L) (R1 := R1) (x8 := x8) (x9 := x9) (since := since + d) (first := first) (c := c) (p := p) (Φ := callD G T 29) (e := ((ndW rs1 ks1).length : Nat)) (m := rs1.length) (g := g) (M := if since + d < 100 then (if (since + d) * (g : Nat) < M0 then (since + d) * (g : Nat) else M0) else M0)
      (me _ _ S1 rs1 ks1 p _ _ _ K1 rfl m_whole rfl r2) hM (r_lheight 27 S2 g5 g1 g2)
      (fun cs => mul_sm (show Sm 10 (since + d) from sm_of_lt (by have := I1.s0; omega) (by omega)) (show Sm 10 ((g : Nat) : Int) from sm_of_lt (by omega) (by omega)) (by decide)) rfl
      (me _ _ S2 rs1 _ _ _ _ _ K2 rfl m_made rfl (r_kmade 28 K2)) bM (by omega)
      (fun e => by
        obtain ⟨e1, e2⟩ := I1.fst e
        rw [e1, e2, Int.zero_add, ← hM]
        exact ndW_first l1)
      (me _ _ S2 rs1 _ _ _ _ _ K2 rfl m_whole rfl r3) (me _ _ S3 rs1 _ _ _ _ _ K3' rfl m_made rfl (r_kmade 28 K3'))
    have d1 : decide (c / 6 % 3 > 0) = true := by simpa using cc
    refine ⟨S3, rs1, ks1 ++ ndW rs1 ks1, _, 0, false, _, _, _, _, (ite_yes (S' := S1) ?_).trans tb, I1.whole K3', ?_, by have := I.s0; omega, F3 _ _ (F2 _ _ hq1 (by omega) (by omega) (by omega)) (by omega) (by omega) (by omega)⟩
    · clear tb ta lh me K1 K2 K3 K3' I I1 r2 r3 dn hM b0 bM sp cc
      walk_at "exh"
    · have := ndW_max (rs := rs1) (ks := ks1)
      rw [List.length_append]
      split at this <;> omega
  · have d1 : decide (c / 6 % 3 > 0) = false := by simpa using cc
    refine ⟨S1, rs1, ks1, p, since + d, first, some (.int p), some (.int (rs1.length : Nat)), x8, x9, (ite_no (S' := S1) ?_).trans (by rw [exSs]; rfl), I1, by omega, by omega, hq1⟩
    clear ta lh me K1 I I1 dn sp cc
    walk_at "exh"
end
theorem r_init (n : Nat) {A R : O} {xs : List D} (hR : R = .lst xs) (hl : xs.length ≤ lim) : callD G T (n + 1) "Keeper.__init__" [.ref 2, .ref 1] [A, R, .ins "Keeper" []] = .ok .non [A, R, .ins "Keeper" [("row", .ref 3), ("kept", .ref 4), ("products", .int 0)], R, .dit []] := by
  subst hR
  have li : listB [.ref 1] [A, .lst xs, .ins "Keeper" []] = .ok (.ref 3) [A, .lst xs, .ins "Keeper" [], .lst xs] := list_lst (n := 1) rfl hl
  have s1 : setFD G "row" (.ref 2) (.ref 3) [A, .lst xs, .ins "Keeper" [], .lst xs] = some [A, .lst xs, .ins "Keeper" [("row", .ref 3)], .lst xs] := setF_run (n := 2) (C := "Keeper") (fs := []) rfl g_ke.1 g_ke.2.1 (by decide)
  have s2 : setFD G "kept" (.ref 2) (.ref 4) [A, .lst xs, .ins "Keeper" [("row", .ref 3)], .lst xs, .dit []] = some [A, .lst xs, .ins "Keeper" [("row", .ref 3), ("kept", .ref 4)], .lst xs, .dit []] := setF_run (n := 2) (C := "Keeper") (fs := [("row", .ref 3)]) rfl g_ke.1 g_ke.2.2.1 (by decide)
  have s3 : setFD G "products" (.ref 2) (.int 0) [A, .lst xs, .ins "Keeper" [("row", .ref 3), ("kept", .ref 4)], .lst xs, .dit []] = some [A, .lst xs, .ins "Keeper" [("row", .ref 3), ("kept", .ref 4), ("products", .int 0)], .lst xs, .dit []] := setF_run (n := 2) (C := "Keeper") (fs := [("row", .ref 3), ("kept", .ref 4)]) rfl g_ke.1 g_ke.2.2.2 (by decide)
  have dn : ∀ (δ : Dv) (S : Sto), fDnewT δ S = .ok (.ref S.length) (S ++ [.dit []]) := fun _ _ => rfl
  rw [call_end (δ := [some (.ref 2), some (.ref 1)]) (S' := [A, .lst xs, .ins "Keeper" [("row", .ref 3), ("kept", .ref 4), ("products", .int 0)], .lst xs, .dit []]) T_Keeper_dot___init__ rfl ?_]
  · exact gc_diff (i := 2) rfl (by intro z; cases z)
  unfold f_Keeper_dot___init__ c_Keeper_dot___init__
  clear hl
  walk_at "exh"
noncomputable abbrev NN : List (Option D) := [none, none, none, none]
theorem law_head {ns : List Int} : ∃ (zs : List Int) (rs : List Ru), rs.length ≤ 13 ∧ (∀ x ∈ rs, DyR 1 x) ∧ exSs G (callD G T 29) (c_law.take 1) [some (.rol (ns.map D.int)), none, none, none, none, none, none, none, none, none] [] = .next [some (.rol (ns.map D.int)), some (.ref 1), none, none, none, none, none, none, none, none] [.lst (zs.map D.int), .lst (rs.map ruD)] := by
  have hc := r_cell 28 [] ns (k := 0) (by decide)
  have k0 : (0 : Int).toNat = 0 := rfl
  rw [k0] at hc
  generalize ns.getD 0 0 = q at hc
  obtain ⟨j, hj, hj'⟩ := mod_nat q (n := 14) (by decide)
  have hj2 : q % 14 = (j : Int) := hj
  obtain ⟨zs, z1, z2⟩ := sl_run (ns := ns) (fa := getV 0) (fl := okD (.int 2)) (fh := ev G (callD G T 29) (.bin .add (.k (.int 2)) (.bin .mod (.call "_law_cell" [(.v 0), (.k (.int 0))]) (.k (.int 14))))) (δ := [some (.rol (ns.map D.int)), none, none, none, none, none, none, none, none, none]) (S := []) (lo := 2) (hi := 2 + j) rfl rfl (by
    have e : ((2 + j : Nat) : Int) = 2 + q % 14 := by omega
    rw [e]
    clear hj hj2 e
    walk_at "exh") (by omega)
  have it : evI G (callD G T 29) (.val (.sl (.v 0) (.k (.int 2)) (.bin .add (.k (.int 2)) (.bin .mod (.call "_law_cell" [(.v 0), (.k (.int 0))]) (.k (.int 14)))))) [some (.rol (ns.map D.int)), none, none, none, none, none, none, none, none, none] [] = .ok (.lref 0) [.lst (zs.map D.int)] := by
    rw [evI, ev]
    refine iVal_ref (n := 0) ?_ rfl
    rw [show ev G (callD G T 29) (.v 0) = getV 0 from by rw [ev], show ev G (callD G T 29) (.k (.int 2)) = okD (.int 2) from by rw [ev]]
    exact z2
  have pick : ∀ c : Int, ∃ r, DyR 1 r ∧ callD G T 29 "_law_make" [.int c] [.lst (zs.map D.int)] = .ok (ruD r) [.lst (zs.map D.int)] := fun c => r_lmake 26 [.lst (zs.map D.int)] c
  have cf := comp_flat (t := .lref 0) (ds := zs.map D.int) (fi := evI G (callD G T 29) (.val (.sl (.v 0) (.k (.int 2)) (.bin .add (.k (.int 2)) (.bin .mod (.call "_law_cell" [(.v 0), (.k (.int 0))]) (.k (.int 14))))))) (δ := [some (.rol (ns.map D.int)), none, none, none, none, none, none, none, none, none]) (S := []) (S0 := [.lst (zs.map D.int)]) (n := 0) (i := 5) (g := gSet 5) (c := none) (f := ev G (callD G T 29) (.call "_law_make" [(.v 5)]))
    (fun _ => true) (fun d => match d with | .int j => ruD (Classical.choose (pick j)) | d => d) it rfl (by rw [List.length_map]; unfold lim; omega) (fun d hd => by
      obtain ⟨c, _, rfl⟩ := List.mem_map.mp hd
      have mk := (Classical.choose_spec (pick c)).2
      refine ⟨_, rfl, rfl, fun _ => ?_⟩
      simp only [maskL, List.foldl_cons, List.foldl_nil, List.cons_append, List.nil_append, List.replicate, List.set_cons_zero, List.set_cons_succ, List.getElem?_cons_zero, List.getElem?_cons_succ, List.append_nil]
      generalize Classical.choose (pick c) = x at mk ⊢
      clear hd it z2 hc pick
      walk_at "exh")
  rw [List.filter_eq_self.mpr (fun _ _ => rfl), List.map_map] at cf
  refine ⟨zs, zs.map fun c => Classical.choose (pick c), by rw [List.length_map]; omega, fun x hx => ?_, ?_⟩
  · obtain ⟨c, _, rfl⟩ := List.mem_map.mp hx
    exact (Classical.choose_spec (pick c)).1
  show exSs G (callD G T 29) [_] _ _ = _
  rw [exSs, exS, sSeq, sSet, ev, List.map_map]
  refine (congrArg (fun r => RS.bind (R.toS r _ _) _) cf).trans ?_
  rfl
theorem law_mid {ns : List Int} {Z : O} {rs : List Ru} (hr : rs.length ≤ 13) (hd : ∀ x ∈ rs, DyR 1 x) : ∃ S, Iv S rs [] 0 100 true ∧ S.length = 5 ∧ exSs G (callD G T 29) ((c_law.drop 1).take 4) [some (.rol (ns.map D.int)), some (.ref 1), none, none, none, none, none, none, none, none] [Z, .lst (rs.map ruD)] = .next [some (.rol (ns.map D.int)), some (.ref 1), some (.ref 2), some (.int 100), some (.bl true), none, none, none, none, none] S := by
  have hl : (rs.map ruD).length ≤ lim := by rw [List.length_map]; unfold lim; omega
  have ini := r_init 28 (A := Z) (R := .lst (rs.map ruD)) rfl hl
  have mk : ev G (callD G T 29) (.make "Keeper" "Keeper.__init__" 2 [(.v 1)]) [some (.rol (ns.map D.int)), some (.ref 1), none, none, none, none, none, none, none, none] [Z, .lst (rs.map ruD)] = .ok (.ref 2) [Z, .lst (rs.map ruD), .ins "Keeper" [("row", .ref 3), ("kept", .ref 4), ("products", .int 0)], .lst (rs.map ruD), .dit []] := by
    rw [ev, evs, evs, ev]
    unfold fMake aCons aNil getV
    show (if 1 + 1 = 2 then (callD G T 29 "Keeper.__init__" [.ref 2, .ref 1] [Z, .lst (rs.map ruD), .ins "Keeper" []]).bind _ else R.fail) = _
    rw [if_pos rfl, ini, bind_ok]
    rfl
  have b : exSs G (callD G T 29) [.set 2 (.make "Keeper" "Keeper.__init__" 2 [(.v 1)])] [some (.rol (ns.map D.int)), some (.ref 1), none, none, none, none, none, none, none, none] [Z, .lst (rs.map ruD)] = .next [some (.rol (ns.map D.int)), some (.ref 1), some (.ref 2), none, none, none, none, none, none, none] [Z, .lst (rs.map ruD), .ins "Keeper" [("row", .ref 3), ("kept", .ref 4), ("products", .int 0)], .lst (rs.map ruD), .dit []] := by
    rw [exSs, exS, sSeq, sSet, mk, toS_ok, seq_next, exSs]
    rfl
  have K : Kp [Z, .lst (rs.map ruD), .ins "Keeper" [("row", .ref 3), ("kept", .ref 4), ("products", .int 0)], .lst (rs.map ruD), .dit []] 2 3 4 rs [] 0 := ⟨rfl, rfl, rfl, fun x hx => (nomatch hx), .nil⟩
  have mm := meth_run (G := G) (Φ := callD G T 29) (m := "made") (δ := [some (.rol (ns.map D.int)), some (.ref 1), some (.ref 2), none, none, none, none, none, none, none]) (fo := getV 2) (fa := aNil) (S1 := [Z, .lst (rs.map ruD), .ins "Keeper" [("row", .ref 3), ("kept", .ref 4), ("products", .int 0)], .lst (rs.map ruD), .dit []]) rfl K.ins m_made g_ke.1 rfl rfl rfl
  rw [r_kmade 28 K] at mm
  refine ⟨_, ⟨K, hd, by omega, ?_, by decide, fun _ => ⟨rfl, rfl⟩⟩, rfl, ?_⟩
  · by_cases z : rs = []
    · exact .inl z
    · exact .inr ⟨List.range rs.length, have_range (List.length_pos_iff.mpr z) (Nat.le_refl _), fun x hx => (nomatch hx), fun z => absurd z (by decide)⟩
  show exSs G (callD G T 29) ([_] ++ [_, _, _]) _ _ = _
  rw [exSs_app]
  refine (congrArg (fun r => RS.bind r _) b).trans ?_
  rw [seq_next]
  have e0 : ((0 : Int) == 0) = true := rfl
  clear b mk ini hl hd K
  generalize rs.map ruD = R at *
  generalize [Z, O.lst R, .ins "Keeper" [("row", .ref 3), ("kept", .ref 4), ("products", .int 0)], .lst R, .dit []] = S1 at *
  walk_at "exh"
theorem law_tail {ns : List Int} {S : Sto} {rs : List Ru} (o : Iv S rs [] 0 100 true) (h5 : S.length = 5) : ∃ S', exSs G (callD G T 29) (c_law.drop 5) [some (.rol (ns.map D.int)), some (.ref 1), some (.ref 2), some (.int 100), some (.bl true), none, none, none, none, none] S = .ret (.bl true) S' := by
  obtain ⟨z1, l1, e1⟩ := sl_run (ns := ns) (fa := getV 0) (fl := okD (.int 15)) (fh := okD (.int 25)) (δ := [some (.rol (ns.map D.int)), some (.ref 1), some (.ref 2), some (.int 100), some (.bl true), none, none, none, none, none]) (S := S) (lo := 15) (hi := 25) rfl rfl rfl (by decide)
  obtain ⟨z2, l2, e2⟩ := sl_run (ns := ns) (fa := getV 0) (fl := okD (.int 1)) (fh := okD (.int 9)) (δ := [some (.rol (ns.map D.int)), some (.ref 1), some (.ref 2), some (.int 100), some (.bl true), none, none, none, none, none]) (S := S ++ [.lst (z1.map D.int)]) (lo := 1) (hi := 9) rfl rfl rfl (by decide)
  have ad := add_refs (S := S ++ [.lst (z1.map D.int)] ++ [.lst (z2.map D.int)]) (m := S.length) (n := (S ++ [O.lst (z1.map D.int)]).length) (xs := z1.map D.int) (ys := z2.map D.int) (app_l (getElem?_snoc S _)) (getElem?_snoc _ _) (by rw [List.length_map, List.length_map]; unfold lim; omega)
  have hq : (S ++ [O.lst (z1.map D.int)] ++ [O.lst (z2.map D.int)] ++ [O.lst (z1.map D.int ++ z2.map D.int)])[(S ++ [O.lst (z1.map D.int)] ++ [O.lst (z2.map D.int)]).length]? = some (.lst (z1.map D.int ++ z2.map D.int)) := getElem?_snoc _ _
  have it : evI G (callD G T 29) (.val (.bin .add (.sl (.v 0) (.k (.int 15)) (.k (.int 25))) (.sl (.v 0) (.k (.int 1)) (.k (.int 9))))) [some (.rol (ns.map D.int)), some (.ref 1), some (.ref 2), some (.int 100), some (.bl true), none, none, none, none, none] S = .ok (.lref (S ++ [O.lst (z1.map D.int)] ++ [O.lst (z2.map D.int)]).length) (S ++ [.lst (z1.map D.int)] ++ [.lst (z2.map D.int)] ++ [.lst (z1.map D.int ++ z2.map D.int)]) := by
    rw [evI]
    refine iVal_ref ?_ hq
    have ek : ∀ d, ev G (callD G T 29) (.k d) = okD d := fun d => by rw [ev]
    have e0 : ev G (callD G T 29) (.v 0) = getV 0 := by rw [ev]
    rw [ev, f2, ev, e0, ek (.int 15), ek (.int 25), e1, bind_ok, ev, e0, ek (.int 1), ek (.int 9), e2, bind_ok]
    exact ad
  have o1 : Iv (S ++ [.lst (z1.map D.int)] ++ [.lst (z2.map D.int)] ++ [.lst (z1.map D.int ++ z2.map D.int)]) rs [] 0 100 true := ⟨⟨app_l (app_l (app_l o.kp.ins)), app_l (app_l (app_l o.kp.row)), app_l (app_l (app_l o.kp.kept)), o.kp.ok, o.kp.nod⟩, o.dy, o.len, o.inv, o.s0, o.fst⟩
  have q5 : 5 ≤ (S ++ [O.lst (z1.map D.int)] ++ [O.lst (z2.map D.int)]).length := by simp [h5]
  rw [← List.map_append] at it hq o1
  have zl : (z1 ++ z2).length ≤ 18 := by rw [List.length_append]; omega
  generalize (S ++ [O.lst (z1.map D.int)] ++ [O.lst (z2.map D.int)]).length = q at *
  generalize S ++ [O.lst (z1.map D.int)] ++ [O.lst (z2.map D.int)] ++ [O.lst ((z1 ++ z2).map D.int)] = S1 at *
  generalize z1 ++ z2 = zs at *
  obtain ⟨δ', S2, lp, _⟩ := ex_forI (G := G) (Φ := callD G T 29) (v := 5) (it := .val (.bin .add (.sl (.v 0) (.k (.int 15)) (.k (.int 25))) (.sl (.v 0) (.k (.int 1)) (.k (.int 9))))) (b := lawB) (t := .lref q) (ds := zs.map D.int) (δ := [some (.rol (ns.map D.int)), some (.ref 1), some (.ref 2), some (.int 100), some (.bl true), none, none, none, none, none]) (S := S) (S0 := S1)
    (fun i δ S' => ∃ rs ks p since first y5 y6 y7 y8 y9, δ = [some (.rol (ns.map D.int)), some (.ref 1), some (.ref 2), some (.int since), some (.bl first), y5, y6, y7, y8, y9] ∧ Iv S' rs ks p since first ∧ ks.length ≤ 20 * i ∧ since ≤ 100 + 100 * i ∧ S'[q]? = some (.lst (zs.map D.int))) it (by rw [List.length_map]; unfold lim; omega)
    (fun i δ S' h => by
      obtain ⟨_, _, _, _, _, _, _, _, _, _, _, _, _, _, h⟩ := h
      exact cur_lref h)
    ⟨rs, [], 0, 100, true, none, none, none, none, none, rfl, o1, Nat.zero_le _, by decide, hq⟩
    (fun i δ S' d h hd => by
      obtain ⟨rs, ks, p, since, first, y5, y6, y7, y8, y9, rfl, oo, ll, ls, hh⟩ := h
      have hi : i < 18 := by
        have := (List.getElem?_eq_some_iff.mp hd).1
        rw [List.length_map] at this
        omega
      rw [List.getElem?_map] at hd
      obtain ⟨c, _, rfl⟩ := Option.map_eq_some_iff.mp hd
      obtain ⟨S3, rs3, ks3, p3, s3, f3, a6, a7, a8, a9, t1, t2, t3, t4, t5⟩ := law_turn (L := .rol (ns.map D.int)) (R1 := .ref 1) (x6 := y6) (x7 := y7) (x8 := y8) (x9 := y9) (c := c) oo (by omega) (by omega) hh q5
      exact ⟨_, S3, t1, rs3, ks3, p3, s3, f3, some (.int c), a6, a7, a8, a9, rfl, t2, by omega, by omega, t5⟩)
  refine ⟨S2, ?_⟩
  show exSs G (callD G T 29) ([_] ++ [_]) _ _ = _
  rw [exSs_app]
  refine (congrArg (fun r => RS.bind r _) lp).trans ?_
  rw [seq_next]
  clear lp o o1 e1 e2 ad it hq
  walk_at "ex"
theorem lawOk : LawOk G T 30 := by
  intro ns hl
  obtain ⟨zs, rs, h1, h2, e1⟩ := law_head (ns := ns)
  obtain ⟨S, o, l5, e2⟩ := law_mid (ns := ns) (Z := .lst (zs.map D.int)) h1 h2
  obtain ⟨S', e3⟩ := law_tail (ns := ns) o l5
  refine ⟨[], call_ret (J := S') T_law rfl rfl ?_⟩
  show exSs G (callD G T 29) (c_law.take 1 ++ ((c_law.drop 1).take 4 ++ c_law.drop 5)) [some (.rol (ns.map D.int)), none, none, none, none, none, none, none, none, none] [] = _
  rw [exSs_app, e1, seq_next, exSs_app, e2, seq_next]
  exact e3
end L2.Gz
namespace PySem.W.Fast
theorem tw2305053521907700637 : 0=0:=rfl
theorem tw10648013556156870910 : 0=0:=rfl
theorem tw16490257464900516545 : 0=0:=rfl
theorem tw13768046376977224796 : 0=0:=rfl
theorem tw9757562630288933010 : 0=0:=rfl
theorem tw4700315151893709457 : 0=0:=rfl
theorem tw18274826608625782424 : 0=0:=rfl
theorem tw5837400680494496096 : 0=0:=rfl
theorem tw7435027526875247873 : 0=0:=rfl
theorem tw6375044962895621295 : 0=0:=rfl
theorem tw2762576549302303661 : 0=0:=rfl
theorem tw16730573823417423794 : 0=0:=rfl
theorem tw1002187313370033388 : 0=0:=rfl
theorem tw2363793658528516162 : 0=0:=rfl
theorem tw14171302222185650340 : 0=0:=rfl
theorem tw1370191760312845511 : 0=0:=rfl
theorem tw15772640948176862235 : 0=0:=rfl
theorem tw3054003700984865909 : 0=0:=rfl
theorem tw13764093155762055952 : 0=0:=rfl
theorem tw15017833004906430813 : 0=0:=rfl
theorem tw14906763226654123453 : 0=0:=rfl
theorem tw8873668735941347206 : 0=0:=rfl
theorem tw17654285189472884000 : 0=0:=rfl
theorem tw1079311685128106866 : 0=0:=rfl
theorem tw10093232308454927209 : 0=0:=rfl
theorem tw6579587337626598223 : 0=0:=rfl
theorem tw16632567507415046724 : 0=0:=rfl
theorem tw16658652131446008730 : 0=0:=rfl
theorem tw11387363268267448248 : 0=0:=rfl
theorem tw5858955336112595648 : 0=0:=rfl
theorem tw17534323244918602745 : 0=0:=rfl
theorem tw2537936766742507156 : 0=0:=rfl
theorem tw10400430338696552938 : 0=0:=rfl
theorem tw4259656904487110434 : 0=0:=rfl
theorem tw4075318437635357625 : 0=0:=rfl
theorem tw15249991013917648827 : 0=0:=rfl
theorem tw9243754295982930173 : 0=0:=rfl
theorem tw13147514763638339445 : 0=0:=rfl
theorem tw3432104205404799380 : 0=0:=rfl
theorem tw10582777522007886091 : 0=0:=rfl
theorem tw2834217799090608827 : 0=0:=rfl
theorem tw5169116322853462278 : 0=0:=rfl
theorem tw2370803624654146110 : 0=0:=rfl
theorem tw12056838826382041437 : 0=0:=rfl
theorem tw3632530323050991781 : 0=0:=rfl
theorem tw10782570903180943742 : 0=0:=rfl
theorem tw4111303959088445049 : 0=0:=rfl
theorem tw4218781231286948078 : 0=0:=rfl
theorem tw9866250449934366988 : 0=0:=rfl
theorem tw7756217718949776220 : 0=0:=rfl
theorem tw12797976223804661770 : 0=0:=rfl
theorem tw7780013184165986019 : 0=0:=rfl
theorem tw850723920837360188 : 0=0:=rfl
theorem tw8686071906182478632 : 0=0:=rfl
theorem tw9717512136723527345 : 0=0:=rfl
theorem tw9176166784027293848 : 0=0:=rfl
theorem tw6353101633771015304 : 0=0:=rfl
theorem tw7802112267452262039 : 0=0:=rfl
theorem tw720156753069379151 : 0=0:=rfl
theorem tw1290572505222166564 : 0=0:=rfl
theorem tw127883071881884254 : 0=0:=rfl
theorem tw8237187460436305265 : 0=0:=rfl
theorem tw8315143910060753298 : 0=0:=rfl
theorem tw142610280682907847 : 0=0:=rfl
theorem tw746463488173865629 : 0=0:=rfl
theorem tw18353909135548602193 : 0=0:=rfl
theorem tw11110035276477517200 : 0=0:=rfl
theorem tw9386418439942704587 : 0=0:=rfl
theorem tw12728993912615599484 : 0=0:=rfl
theorem tw3526724276410586333 : 0=0:=rfl
theorem tw17587999352192538047 : 0=0:=rfl
theorem tw1899524558649148394 : 0=0:=rfl
theorem tw7818850771185295228 : 0=0:=rfl
theorem tw7930039369341238845 : 0=0:=rfl
theorem tw8759752011408224271 : 0=0:=rfl
theorem tw17462610710168978671 : 0=0:=rfl
theorem tw18392500474492072004 : 0=0:=rfl
theorem tw950580294110984911 : 0=0:=rfl
theorem tw11092876449283195935 : 0=0:=rfl
theorem tw16580976689474308194 : 0=0:=rfl
theorem tw8188089631216442868 : 0=0:=rfl
theorem tw13157725216226244494 : 0=0:=rfl
theorem tw1738455661089276328 : 0=0:=rfl
theorem tw17830337717688844852 : 0=0:=rfl
theorem tw6486493896947149078 : 0=0:=rfl
theorem tw7887270577322746465 : 0=0:=rfl
theorem tw4706812908568925688 : 0=0:=rfl
theorem tw8162974949368240551 : 0=0:=rfl
theorem tw8184397284103570541 : 0=0:=rfl
theorem tw3222480068466730662 : 0=0:=rfl
theorem tw8215285058147952523 : 0=0:=rfl
theorem tw25293512359999270 : 0=0:=rfl
theorem tw16474953597050476976 : 0=0:=rfl
theorem tw8602424871635741720 : 0=0:=rfl
theorem tw17730656045527456138 : 0=0:=rfl
theorem tw14155675641688236255 : 0=0:=rfl
theorem tw11480521618760932398 : 0=0:=rfl
theorem tw5530062741431775250 : 0=0:=rfl
theorem tw5458342106063266461 : 0=0:=rfl
theorem tw10326260779511707982 : 0=0:=rfl
theorem tw957470116445071723 : 0=0:=rfl
theorem tw1029942769281120764 : 0=0:=rfl
theorem tw4401328465774931469 : 0=0:=rfl
theorem tw14371424765036550440 : 0=0:=rfl
theorem tw3366305968687245289 : 0=0:=rfl
theorem tw15057436263750552555 : 0=0:=rfl
theorem tw6214093456825973402 : 0=0:=rfl
theorem tw17836620463805360731 : 0=0:=rfl
theorem tw7307889566383836606 : 0=0:=rfl
theorem tw16200437660098873307 : 0=0:=rfl
theorem tw6991868592746887968 : 0=0:=rfl
theorem tw2718796918695102920 : 0=0:=rfl
theorem tw9993175253582278876 : 0=0:=rfl
theorem tw1182879750935282411 : 0=0:=rfl
theorem tw8375284052000142353 : 0=0:=rfl
theorem tw1961656326982541904 : 0=0:=rfl
theorem tw7797744503160704612 : 0=0:=rfl
theorem tw17645866413333135444 : 0=0:=rfl
theorem tw7551106290946202903 : 0=0:=rfl
theorem tw15550766927530993109 : 0=0:=rfl
theorem tw9697251389070305999 : 0=0:=rfl
theorem tw8010427978578933626 : 0=0:=rfl
theorem tw4227880490252697990 : 0=0:=rfl
theorem tw7534578918263952309 : 0=0:=rfl
theorem tw16438556415813157741 : 0=0:=rfl
theorem tw6183972418667393283 : 0=0:=rfl
theorem tw15661276532507304785 : 0=0:=rfl
theorem tw7043686220367486436 : 0=0:=rfl
theorem tw11588405887559117829 : 0=0:=rfl
theorem tw10200592148278748149 : 0=0:=rfl
theorem tw1505640752633052567 : 0=0:=rfl
theorem tw3895007334883308645 : 0=0:=rfl
theorem tw15547173254954353911 : 0=0:=rfl
theorem tw2367527077249127142 : 0=0:=rfl
theorem tw15557754570636494475 : 0=0:=rfl
theorem tw12865692350226778738 : 0=0:=rfl
theorem tw947333256296185542 : 0=0:=rfl
theorem tw6391665234201027319 : 0=0:=rfl
theorem tw12967425596690871636 : 0=0:=rfl
theorem tw390650397041496772 : 0=0:=rfl
theorem tw4800771132109648787 : 0=0:=rfl
theorem tw15127463831365342408 : 0=0:=rfl
theorem tw613438033184341236 : 0=0:=rfl
theorem tw4278581419169401430 : 0=0:=rfl
theorem tw17257326708082765835 : 0=0:=rfl
theorem tw9422925053146789206 : 0=0:=rfl
theorem tw8754987257858432865 : 0=0:=rfl
theorem tw17402733537770169151 : 0=0:=rfl
theorem tw12811520038413436144 : 0=0:=rfl
theorem tw13005646614935188099 : 0=0:=rfl
theorem tw9430678669689648485 : 0=0:=rfl
theorem tw14873536824595573502 : 0=0:=rfl
theorem tw1272033521958506488 : 0=0:=rfl
theorem tw10881312026404606033 : 0=0:=rfl
theorem tw16647680270108929408 : 0=0:=rfl
theorem tw4064447886255698112 : 0=0:=rfl
theorem tw9128833430769439132 : 0=0:=rfl
theorem tw14032798160223926887 : 0=0:=rfl
theorem tw3162607420911620757 : 0=0:=rfl
theorem tw2125347202573614411 : 0=0:=rfl
theorem tw8823283733362769837 : 0=0:=rfl
theorem tw17394642025267392487 : 0=0:=rfl
theorem tw5166862365322808030 : 0=0:=rfl
theorem tw7168206118409780582 : 0=0:=rfl
theorem tw10716112079614598875 : 0=0:=rfl
theorem tw12655542070297293651 : 0=0:=rfl
theorem tw9465041726267550308 : 0=0:=rfl
theorem tw9334359205702449306 : 0=0:=rfl
theorem tw1020718588409108409 : 0=0:=rfl
theorem tw9639307265869538562 : 0=0:=rfl
theorem tw7688043168046282325 : 0=0:=rfl
theorem tw11137172389006961528 : 0=0:=rfl
theorem tw6643183482023740130 : 0=0:=rfl
theorem tw1907646848750599068 : 0=0:=rfl
theorem tw3851376368047421588 : 0=0:=rfl
theorem tw15028466234774779032 : 0=0:=rfl
theorem tw10618635335910831805 : 0=0:=rfl
theorem tw3528649662262762074 : 0=0:=rfl
theorem tw14606317638609254609 : 0=0:=rfl
theorem tw2135157414018018359 : 0=0:=rfl
theorem tw11884552162232231493 : 0=0:=rfl
theorem tw9107567545333104221 : 0=0:=rfl
theorem tw16304537156157744704 : 0=0:=rfl
theorem tw382508450591515685 : 0=0:=rfl
theorem tw11646433464812983260 : 0=0:=rfl
theorem tw17270494102235339552 : 0=0:=rfl
theorem tw8117229812912283069 : 0=0:=rfl
theorem tw4642934601218937560 : 0=0:=rfl
theorem tw6171689866035613622 : 0=0:=rfl
theorem tw11665042415005695819 : 0=0:=rfl
theorem tw12925767299207343315 : 0=0:=rfl
theorem tw770241351557409809 : 0=0:=rfl
theorem tw17853378485788506762 : 0=0:=rfl
theorem tw10210241255703194096 : 0=0:=rfl
theorem tw3709244823793269652 : 0=0:=rfl
theorem tw6768785441288151178 : 0=0:=rfl
theorem tw4978982682829818200 : 0=0:=rfl
theorem tw17360843659015422582 : 0=0:=rfl
theorem tw11233862810318946479 : 0=0:=rfl
theorem tw12842970544495059276 : 0=0:=rfl
theorem tw17273030664522106600 : 0=0:=rfl
theorem tw7995933033556127435 : 0=0:=rfl
theorem tw15868850012165405210 : 0=0:=rfl
theorem tw8990563857023884868 : 0=0:=rfl
theorem tw12036890131705501274 : 0=0:=rfl
theorem tw2523682961602033605 : 0=0:=rfl
theorem tw13995333186080083121 : 0=0:=rfl
theorem tw8823622089703064803 : 0=0:=rfl
theorem tw15103481042221759007 : 0=0:=rfl
theorem tw10080603266785438536 : 0=0:=rfl
theorem tw804884528376014694 : 0=0:=rfl
theorem tw6121022133533128524 : 0=0:=rfl
theorem tw2707799136752343916 : 0=0:=rfl
theorem tw12916502251361591499 : 0=0:=rfl
theorem tw7708859622779817699 : 0=0:=rfl
theorem tw9022563543888889859 : 0=0:=rfl
theorem tw1559879163958497167 : 0=0:=rfl
theorem tw9573841737955013062 : 0=0:=rfl
theorem tw11102251523827480361 : 0=0:=rfl
theorem tw7576575723219909314 : 0=0:=rfl
theorem tw15839385873205096547 : 0=0:=rfl
theorem tw15792391320332526555 : 0=0:=rfl
theorem tw7036643834331560219 : 0=0:=rfl
theorem tw17421985224236704057 : 0=0:=rfl
theorem tw11392192262853143025 : 0=0:=rfl
theorem tw16388124747811711736 : 0=0:=rfl
theorem tw2850891380413132411 : 0=0:=rfl
theorem tw4886354656899174973 : 0=0:=rfl
theorem tw2782381313639452833 : 0=0:=rfl
theorem tw8677565325987716595 : 0=0:=rfl
theorem tw352743167970487580 : 0=0:=rfl
theorem tw15282611695638544474 : 0=0:=rfl
theorem tw1316871703421416305 : 0=0:=rfl
theorem tw1288999124394937977 : 0=0:=rfl
theorem tw10409180214326287890 : 0=0:=rfl
theorem tw6230562624931157562 : 0=0:=rfl
end PySem.W.Fast
open PySem PySem.W PyProof.Rows
set_option maxRecDepth 100000 in
set_option maxHeartbeats 0 in
theorem PySem.Challenge.cw_glazehall_k52_how_many_products_holds : PySem.Challenge.rw_glazehall_k52_how_many_products.Holds := by
  w_on; o_law; k_head; (case hw => w_witness2)
  k_fill
  refine L2.law_walk (l := PySem.Challenge.rw_glazehall_k52_how_many_products) (k := 29) (x := "_law_script") (G := L2.Gz.G) (T := L2.Gz.T) rfl rfl rfl ⟨rfl, by decide, by decide⟩ (L2.gt_ok (by kernel_rfl)) (fun w h Y => PySem.W.kIn_of Y) L2.Gz.T_law L2.Gz.lawOk ?F
  case F =>
    intro w mg h KX G
    have D_is_whole : L2.DefAt (L2.KOf KX) mg "is_whole" L2.Gz.s_is_whole ["thing"] := by
      dsimp only [L2.KOf]
      refine' L2.def_mk KX G ?a ?l ?c ?k ?b
      (case a => k_is); (case l => k_is); (case c => k_is); (case k => k_is)
      (case b => exact fun _ _ _ _ _ _ us hl => match us, hl with | [_], _ => rfl)
    have D_greatest_divisor : L2.DefAt (L2.KOf KX) mg "greatest_divisor" L2.Gz.s_greatest_divisor ["one", "other"] := by
      dsimp only [L2.KOf]
      refine' L2.def_mk KX G ?a ?l ?c ?k ?b
      (case a => k_is); (case l => k_is); (case c => k_is); (case k => k_is)
      (case b => exact fun _ _ _ _ _ _ us hl => match us, hl with | [_, _], _ => rfl)
    have D_lowest : L2.DefAt (L2.KOf KX) mg "lowest" L2.Gz.s_lowest ["top", "bottom"] := by
      dsimp only [L2.KOf]
      refine' L2.def_mk KX G ?a ?l ?c ?k ?b
      (case a => k_is); (case l => k_is); (case c => k_is); (case k => k_is)
      (case b => exact fun _ _ _ _ _ _ us hl => match us, hl with | [_, _], _ => rfl)
    have D_plus : L2.DefAt (L2.KOf KX) mg "plus" L2.Gz.s_plus ["one", "other"] := by
      dsimp only [L2.KOf]
      refine' L2.def_mk KX G ?a ?l ?c ?k ?b
      (case a => k_is); (case l => k_is); (case c => k_is); (case k => k_is)
      (case b => exact fun _ _ _ _ _ _ us hl => match us, hl with | [_, _], _ => rfl)
    have D_times : L2.DefAt (L2.KOf KX) mg "times" L2.Gz.s_times ["one", "other"] := by
      dsimp only [L2.KOf]
      refine' L2.def_mk KX G ?a ?l ?c ?k ?b
      (case a => k_is); (case l => k_is); (case c => k_is); (case k => k_is)
      (case b => exact fun _ _ _ _ _ _ us hl => match us, hl with | [_, _], _ => rfl)
    have D_laid : L2.DefAt (L2.KOf KX) mg "laid" L2.Gz.s_laid ["rule", "value"] := by
      dsimp only [L2.KOf]
      refine' L2.def_mk KX G ?a ?l ?c ?k ?b
      (case a => k_is); (case l => k_is); (case c => k_is); (case k => k_is)
      (case b => exact fun _ _ _ _ _ _ us hl => match us, hl with | [_, _], _ => rfl)
    have D_behind : L2.DefAt (L2.KOf KX) mg "behind" L2.Gz.s_behind ["first", "second"] := by
      dsimp only [L2.KOf]
      refine' L2.def_mk KX G ?a ?l ?c ?k ?b
      (case a => k_is); (case l => k_is); (case c => k_is); (case k => k_is)
      (case b => exact fun _ _ _ _ _ _ us hl => match us, hl with | [_, _], _ => rfl)
    have D__law_cell : L2.DefAt (L2.KOf KX) mg "_law_cell" L2.Gz.s__law_cell ["_law_script", "_law_k"] := by
      dsimp only [L2.KOf]
      refine' L2.def_mk KX G ?a ?l ?c ?k ?b
      (case a => k_is); (case l => k_is); (case c => k_is); (case k => k_is)
      (case b => exact fun _ _ _ _ _ _ us hl => match us, hl with | [_, _], _ => rfl)
    have D__law_mixed : L2.DefAt (L2.KOf KX) mg "_law_mixed" L2.Gz.s__law_mixed ["_law_cell_here", "_law_k"] := by
      dsimp only [L2.KOf]
      refine' L2.def_mk KX G ?a ?l ?c ?k ?b
      (case a => k_is); (case l => k_is); (case c => k_is); (case k => k_is)
      (case b => exact fun _ _ _ _ _ _ us hl => match us, hl with | [_, _], _ => rfl)
    have D__law_divisor : L2.DefAt (L2.KOf KX) mg "_law_divisor" L2.Gz.s__law_divisor ["_law_one", "_law_other"] := by
      dsimp only [L2.KOf]
      refine' L2.def_mk KX G ?a ?l ?c ?k ?b
      (case a => k_is); (case l => k_is); (case c => k_is); (case k => k_is)
      (case b => exact fun _ _ _ _ _ _ us hl => match us, hl with | [_, _], _ => rfl)
    have D__law_made : L2.DefAt (L2.KOf KX) mg "_law_made" L2.Gz.s__law_made ["_law_top", "_law_bottom"] := by
      dsimp only [L2.KOf]
      refine' L2.def_mk KX G ?a ?l ?c ?k ?b
      (case a => k_is); (case l => k_is); (case c => k_is); (case k => k_is)
      (case b => exact fun _ _ _ _ _ _ us hl => match us, hl with | [_, _], _ => rfl)
    have D__law_make : L2.DefAt (L2.KOf KX) mg "_law_make" L2.Gz.s__law_make ["_law_cell_here"] := by
      dsimp only [L2.KOf]
      refine' L2.def_mk KX G ?a ?l ?c ?k ?b
      (case a => k_is); (case l => k_is); (case c => k_is); (case k => k_is)
      (case b => exact fun _ _ _ _ _ _ us hl => match us, hl with | [_], _ => rfl)
    have D__law_height : L2.DefAt (L2.KOf KX) mg "_law_height" L2.Gz.s__law_height ["_law_many"] := by
      dsimp only [L2.KOf]
      refine' L2.def_mk KX G ?a ?l ?c ?k ?b
      (case a => k_is); (case l => k_is); (case c => k_is); (case k => k_is)
      (case b => exact fun _ _ _ _ _ _ us hl => match us, hl with | [_], _ => rfl)
    have D__law_power : L2.DefAt (L2.KOf KX) mg "_law_power" L2.Gz.s__law_power ["_law_high"] := by
      dsimp only [L2.KOf]
      refine' L2.def_mk KX G ?a ?l ?c ?k ?b
      (case a => k_is); (case l => k_is); (case c => k_is); (case k => k_is)
      (case b => exact fun _ _ _ _ _ _ us hl => match us, hl with | [_], _ => rfl)
    have D__law_done : L2.DefAt (L2.KOf KX) mg "_law_done" L2.Gz.s__law_done ["_law_keeper", "_law_cell_here"] := by
      dsimp only [L2.KOf]
      refine' L2.def_mk KX G ?a ?l ?c ?k ?b
      (case a => k_is); (case l => k_is); (case c => k_is); (case k => k_is)
      (case b => exact fun _ _ _ _ _ _ us hl => match us, hl with | [_, _], _ => rfl)
    have D_law : L2.DefAt (L2.KOf KX) mg "law" L2.Gz.s_law ["_law_script"] := by
      dsimp only [L2.KOf]
      refine' L2.def_mk KX G ?a ?l ?c ?k ?b
      (case a => k_is); (case l => k_is); (case c => k_is); (case k => k_is)
      (case b => exact fun _ _ _ _ _ _ us hl => match us, hl with | [_], _ => rfl)
    have O_0 : mg "isinstance" = none := by
      refine' PySem.W.mg_none_of KX G ?t
      (case t => k_is)
    have O_1 : mg "int" = none := by
      refine' PySem.W.mg_none_of KX G ?t
      (case t => k_is)
    have O_2 : mg "bool" = none := by
      refine' PySem.W.mg_none_of KX G ?t
      (case t => k_is)
    have O_3 : mg "tuple" = none := by
      refine' PySem.W.mg_none_of KX G ?t
      (case t => k_is)
    have O_4 : mg "list" = none := by
      refine' PySem.W.mg_none_of KX G ?t
      (case t => k_is)
    have O_5 : mg "abs" = none := by
      refine' PySem.W.mg_none_of KX G ?t
      (case t => k_is)
    have O_6 : mg "len" = none := by
      refine' PySem.W.mg_none_of KX G ?t
      (case t => k_is)
    have O_7 : mg "min" = none := by
      refine' PySem.W.mg_none_of KX G ?t
      (case t => k_is)
    have O_8 : mg "max" = none := by
      refine' PySem.W.mg_none_of KX G ?t
      (case t => k_is)
    have O_9 : mg "range" = none := by
      refine' PySem.W.mg_none_of KX G ?t
      (case t => k_is)
    have O_10 : mg "ValueError" = none := by
      refine' PySem.W.mg_none_of KX G ?t
      (case t => k_is)
    have K_IDENTITY : ∃ u v, mg "IDENTITY" = some u ∧ L2.RelV v u ∧ ∀ ι H, L2.RD ⟨L2.KOf KX, mg⟩ ι H v L2.Gz.con_IDENTITY := by
      dsimp only [L2.KOf]
      unfold L2.Gz.con_IDENTITY
      refine' L2.con_ref KX G ?m ?r
      (case m => k_is)
      case r =>
        refine' L2.rd_kt ?l ?z ?v ?r
        (case l => k_is)
        (case z => exact (show 5 ≤ sizeLine by decide))
        (case v => exact (.cons L2.relRef (.cons L2.relRef (.cons L2.relRef (.cons L2.relRef (.cons L2.relRef .nil))))))
        case r =>
          intro ι H
          refine .cons ?_ ?_
          · skip
            refine' L2.rd_kt ?l ?z ?v ?r ι H
            (case l => k_is)
            (case z => exact (show 2 ≤ sizeLine by decide))
            (case v => exact (.cons L2.relInt (.cons L2.relInt .nil)))
            case r =>
              intro ι H
              refine .cons (.int _) ?_
              refine .cons (.int _) ?_
              exact .nil
          refine .cons ?_ ?_
          · skip
            refine' L2.rd_kt ?l ?z ?v ?r ι H
            (case l => k_is)
            (case z => exact (show 2 ≤ sizeLine by decide))
            (case v => exact (.cons L2.relInt (.cons L2.relInt .nil)))
            case r =>
              intro ι H
              refine .cons (.int _) ?_
              refine .cons (.int _) ?_
              exact .nil
          refine .cons ?_ ?_
          · skip
            refine' L2.rd_kt ?l ?z ?v ?r ι H
            (case l => k_is)
            (case z => exact (show 2 ≤ sizeLine by decide))
            (case v => exact (.cons L2.relInt (.cons L2.relInt .nil)))
            case r =>
              intro ι H
              refine .cons (.int _) ?_
              refine .cons (.int _) ?_
              exact .nil
          refine .cons ?_ ?_
          · skip
            refine' L2.rd_kt ?l ?z ?v ?r ι H
            (case l => k_is)
            (case z => exact (show 2 ≤ sizeLine by decide))
            (case v => exact (.cons L2.relInt (.cons L2.relInt .nil)))
            case r =>
              intro ι H
              refine .cons (.int _) ?_
              refine .cons (.int _) ?_
              exact .nil
          refine .cons ?_ ?_
          · skip
            refine' L2.rd_kt ?l ?z ?v ?r ι H
            (case l => k_is)
            (case z => exact (show 2 ≤ sizeLine by decide))
            (case v => exact (.cons L2.relInt (.cons L2.relInt .nil)))
            case r =>
              intro ι H
              refine .cons (.int _) ?_
              refine .cons (.int _) ?_
              exact .nil
          exact .nil
    have m_HallError := (by refine' PySem.W.mg_of KX G ?m; (case m => k_is) : mg "HallError" = some (.ref _))
    have m_NoLayer := (by refine' PySem.W.mg_of KX G ?m; (case m => k_is) : mg "NoLayer" = some (.ref _))
    have m_Keeper := (by refine' PySem.W.mg_of KX G ?m; (case m => k_is) : mg "Keeper" = some (.ref _))
    have i_Keeper_dot___init__ := (by dsimp only [L2.KOf, L2.adr]; k_is : PySem.W.findIn (L2.KOf KX) (.ref (L2.adr m_Keeper)) "__init__" = some (some (.ref _)))
    have i_Keeper_dot_many := (by dsimp only [L2.KOf, L2.adr]; k_is : PySem.W.findIn (L2.KOf KX) (.ref (L2.adr m_Keeper)) "many" = some (some (.ref _)))
    have i_Keeper_dot_height := (by dsimp only [L2.KOf, L2.adr]; k_is : PySem.W.findIn (L2.KOf KX) (.ref (L2.adr m_Keeper)) "height" = some (some (.ref _)))
    have i_Keeper_dot_made := (by dsimp only [L2.KOf, L2.adr]; k_is : PySem.W.findIn (L2.KOf KX) (.ref (L2.adr m_Keeper)) "made" = some (some (.ref _)))
    have i_Keeper_dot_refuse_beyond := (by dsimp only [L2.KOf, L2.adr]; k_is : PySem.W.findIn (L2.KOf KX) (.ref (L2.adr m_Keeper)) "refuse_beyond" = some (some (.ref _)))
    have i_Keeper_dot_put_at := (by dsimp only [L2.KOf, L2.adr]; k_is : PySem.W.findIn (L2.KOf KX) (.ref (L2.adr m_Keeper)) "put_at" = some (some (.ref _)))
    have i_Keeper_dot_put_in := (by dsimp only [L2.KOf, L2.adr]; k_is : PySem.W.findIn (L2.KOf KX) (.ref (L2.adr m_Keeper)) "put_in" = some (some (.ref _)))
    have i_Keeper_dot_take_out := (by dsimp only [L2.KOf, L2.adr]; k_is : PySem.W.findIn (L2.KOf KX) (.ref (L2.adr m_Keeper)) "take_out" = some (some (.ref _)))
    have i_Keeper_dot_product := (by dsimp only [L2.KOf, L2.adr]; k_is : PySem.W.findIn (L2.KOf KX) (.ref (L2.adr m_Keeper)) "product" = some (some (.ref _)))
    have i_Keeper_dot_whole := (by dsimp only [L2.KOf, L2.adr]; k_is : PySem.W.findIn (L2.KOf KX) (.ref (L2.adr m_Keeper)) "whole" = some (some (.ref _)))
    have c_Keeper : L2.Cls (L2.KOf KX) (L2.adr m_Keeper) := by
      dsimp only [L2.KOf, L2.adr, L2.adf]
      exact ⟨(by kernel_rfl), (by kernel_rfl), (by kernel_rfl), (by kernel_rfl)⟩
    have d_Keeper : L2.ClsI (L2.KOf KX) (L2.adr m_Keeper) := by
      dsimp only [L2.KOf, L2.adr, L2.adf]
      exact ⟨(by kernel_rfl), (by kernel_rfl), (by kernel_rfl), (by kernel_rfl)⟩
    have n_Keeper_kept : L2.NoAttr (L2.KOf KX) (L2.adr m_Keeper) "kept" := by
      dsimp only [L2.KOf, L2.adr, L2.adf]
      unfold L2.NoAttr
      kernel_rfl
    have n_Keeper_products : L2.NoAttr (L2.KOf KX) (L2.adr m_Keeper) "products" := by
      dsimp only [L2.KOf, L2.adr, L2.adf]
      unfold L2.NoAttr
      kernel_rfl
    have n_Keeper_row : L2.NoAttr (L2.KOf KX) (L2.adr m_Keeper) "row" := by
      dsimp only [L2.KOf, L2.adr, L2.adf]
      unfold L2.NoAttr
      kernel_rfl
    have k_Keeper : L2.Mk (L2.KOf KX) (L2.adr m_Keeper) (L2.adf i_Keeper_dot___init__) := by
      dsimp only [L2.KOf, L2.adr, L2.adf]
      exact ⟨(by kernel_rfl), (by kernel_rfl), (by kernel_rfl), (by kernel_rfl)⟩
    have t_Keeper_height : L2.Meth (L2.KOf KX) (L2.adr m_Keeper) "height" (L2.adf i_Keeper_dot_height) := by
      dsimp only [L2.KOf, L2.adr, L2.adf]
      exact ⟨(by kernel_rfl), (by kernel_rfl), (by kernel_rfl)⟩
    have t_Keeper_made : L2.Meth (L2.KOf KX) (L2.adr m_Keeper) "made" (L2.adf i_Keeper_dot_made) := by
      dsimp only [L2.KOf, L2.adr, L2.adf]
      exact ⟨(by kernel_rfl), (by kernel_rfl), (by kernel_rfl)⟩
    have t_Keeper_many : L2.Meth (L2.KOf KX) (L2.adr m_Keeper) "many" (L2.adf i_Keeper_dot_many) := by
      dsimp only [L2.KOf, L2.adr, L2.adf]
      exact ⟨(by kernel_rfl), (by kernel_rfl), (by kernel_rfl)⟩
    have t_Keeper_product : L2.Meth (L2.KOf KX) (L2.adr m_Keeper) "product" (L2.adf i_Keeper_dot_product) := by
      dsimp only [L2.KOf, L2.adr, L2.adf]
      exact ⟨(by kernel_rfl), (by kernel_rfl), (by kernel_rfl)⟩
    have t_Keeper_put_at : L2.Meth (L2.KOf KX) (L2.adr m_Keeper) "put_at" (L2.adf i_Keeper_dot_put_at) := by
      dsimp only [L2.KOf, L2.adr, L2.adf]
      exact ⟨(by kernel_rfl), (by kernel_rfl), (by kernel_rfl)⟩
    have t_Keeper_put_in : L2.Meth (L2.KOf KX) (L2.adr m_Keeper) "put_in" (L2.adf i_Keeper_dot_put_in) := by
      dsimp only [L2.KOf, L2.adr, L2.adf]
      exact ⟨(by kernel_rfl), (by kernel_rfl), (by kernel_rfl)⟩
    have t_Keeper_refuse_beyond : L2.Meth (L2.KOf KX) (L2.adr m_Keeper) "refuse_beyond" (L2.adf i_Keeper_dot_refuse_beyond) := by
      dsimp only [L2.KOf, L2.adr, L2.adf]
      exact ⟨(by kernel_rfl), (by kernel_rfl), (by kernel_rfl)⟩
    have t_Keeper_take_out : L2.Meth (L2.KOf KX) (L2.adr m_Keeper) "take_out" (L2.adf i_Keeper_dot_take_out) := by
      dsimp only [L2.KOf, L2.adr, L2.adf]
      exact ⟨(by kernel_rfl), (by kernel_rfl), (by kernel_rfl)⟩
    have t_Keeper_whole : L2.Meth (L2.KOf KX) (L2.adr m_Keeper) "whole" (L2.adf i_Keeper_dot_whole) := by
      dsimp only [L2.KOf, L2.adr, L2.adf]
      exact ⟨(by kernel_rfl), (by kernel_rfl), (by kernel_rfl)⟩
    have F_Keeper_dot___init__ : (∃ fd, L2.Fun (L2.KOf KX) "__init__" "Keeper.__init__" L2.Gz.s_Keeper_dot___init__ (L2.adf i_Keeper_dot___init__) fd ∧ L2.Binds (L2.KOf KX) fd ["self", "rules"] []) := by
      dsimp only [L2.KOf, L2.adr, L2.adf]
      refine' L2.meth_fun ?l ?c ?k ?b
      (case l => k_is); (case c => k_is); (case k => k_is)
      (case b => exact fun _ _ _ _ _ _ us hl => match us, hl with | [_, _], _ => rfl)
    have F_Keeper_dot_many : (∃ fd, L2.Fun (L2.KOf KX) "many" "Keeper.many" L2.Gz.s_Keeper_dot_many (L2.adf i_Keeper_dot_many) fd ∧ L2.Binds (L2.KOf KX) fd ["self"] []) := by
      dsimp only [L2.KOf, L2.adr, L2.adf]
      refine' L2.meth_fun ?l ?c ?k ?b
      (case l => k_is); (case c => k_is); (case k => k_is)
      (case b => exact fun _ _ _ _ _ _ us hl => match us, hl with | [_], _ => rfl)
    have F_Keeper_dot_height : (∃ fd, L2.Fun (L2.KOf KX) "height" "Keeper.height" L2.Gz.s_Keeper_dot_height (L2.adf i_Keeper_dot_height) fd ∧ L2.Binds (L2.KOf KX) fd ["self"] []) := by
      dsimp only [L2.KOf, L2.adr, L2.adf]
      refine' L2.meth_fun ?l ?c ?k ?b
      (case l => k_is); (case c => k_is); (case k => k_is)
      (case b => exact fun _ _ _ _ _ _ us hl => match us, hl with | [_], _ => rfl)
    have F_Keeper_dot_made : (∃ fd, L2.Fun (L2.KOf KX) "made" "Keeper.made" L2.Gz.s_Keeper_dot_made (L2.adf i_Keeper_dot_made) fd ∧ L2.Binds (L2.KOf KX) fd ["self"] []) := by
      dsimp only [L2.KOf, L2.adr, L2.adf]
      refine' L2.meth_fun ?l ?c ?k ?b
      (case l => k_is); (case c => k_is); (case k => k_is)
      (case b => exact fun _ _ _ _ _ _ us hl => match us, hl with | [_], _ => rfl)
    have F_Keeper_dot_refuse_beyond : (∃ fd, L2.Fun (L2.KOf KX) "refuse_beyond" "Keeper.refuse_beyond" L2.Gz.s_Keeper_dot_refuse_beyond (L2.adf i_Keeper_dot_refuse_beyond) fd ∧ L2.Binds (L2.KOf KX) fd ["self", "k", "many"] []) := by
      dsimp only [L2.KOf, L2.adr, L2.adf]
      refine' L2.meth_fun ?l ?c ?k ?b
      (case l => k_is); (case c => k_is); (case k => k_is)
      (case b => exact fun _ _ _ _ _ _ us hl => match us, hl with | [_, _, _], _ => rfl)
    have F_Keeper_dot_put_at : (∃ fd, L2.Fun (L2.KOf KX) "put_at" "Keeper.put_at" L2.Gz.s_Keeper_dot_put_at (L2.adf i_Keeper_dot_put_at) fd ∧ L2.Binds (L2.KOf KX) fd ["self", "k", "rule"] []) := by
      dsimp only [L2.KOf, L2.adr, L2.adf]
      refine' L2.meth_fun ?l ?c ?k ?b
      (case l => k_is); (case c => k_is); (case k => k_is)
      (case b => exact fun _ _ _ _ _ _ us hl => match us, hl with | [_, _, _], _ => rfl)
    have F_Keeper_dot_put_in : (∃ fd, L2.Fun (L2.KOf KX) "put_in" "Keeper.put_in" L2.Gz.s_Keeper_dot_put_in (L2.adf i_Keeper_dot_put_in) fd ∧ L2.Binds (L2.KOf KX) fd ["self", "k", "rule"] []) := by
      dsimp only [L2.KOf, L2.adr, L2.adf]
      refine' L2.meth_fun ?l ?c ?k ?b
      (case l => k_is); (case c => k_is); (case k => k_is)
      (case b => exact fun _ _ _ _ _ _ us hl => match us, hl with | [_, _, _], _ => rfl)
    have F_Keeper_dot_take_out : (∃ fd, L2.Fun (L2.KOf KX) "take_out" "Keeper.take_out" L2.Gz.s_Keeper_dot_take_out (L2.adf i_Keeper_dot_take_out) fd ∧ L2.Binds (L2.KOf KX) fd ["self", "k"] []) := by
      dsimp only [L2.KOf, L2.adr, L2.adf]
      refine' L2.meth_fun ?l ?c ?k ?b
      (case l => k_is); (case c => k_is); (case k => k_is)
      (case b => exact fun _ _ _ _ _ _ us hl => match us, hl with | [_, _], _ => rfl)
    have F_Keeper_dot_product : (∃ fd, L2.Fun (L2.KOf KX) "product" "Keeper.product" L2.Gz.s_Keeper_dot_product (L2.adf i_Keeper_dot_product) fd ∧ L2.Binds (L2.KOf KX) fd ["self", "low", "high"] []) := by
      dsimp only [L2.KOf, L2.adr, L2.adf]
      refine' L2.meth_fun ?l ?c ?k ?b
      (case l => k_is); (case c => k_is); (case k => k_is)
      (case b => exact fun _ _ _ _ _ _ us hl => match us, hl with | [_, _, _], _ => rfl)
    have F_Keeper_dot_whole : (∃ fd, L2.Fun (L2.KOf KX) "whole" "Keeper.whole" L2.Gz.s_Keeper_dot_whole (L2.adf i_Keeper_dot_whole) fd ∧ L2.Binds (L2.KOf KX) fd ["self"] []) := by
      dsimp only [L2.KOf, L2.adr, L2.adf]
      refine' L2.meth_fun ?l ?c ?k ?b
      (case l => k_is); (case c => k_is); (case k => k_is)
      (case b => exact fun _ _ _ _ _ _ us hl => match us, hl with | [_], _ => rfl)
    obtain ⟨fd_Keeper_dot___init__, G_Keeper_dot___init__, B_Keeper_dot___init__⟩ := F_Keeper_dot___init__
    obtain ⟨fd_Keeper_dot_many, G_Keeper_dot_many, B_Keeper_dot_many⟩ := F_Keeper_dot_many
    obtain ⟨fd_Keeper_dot_height, G_Keeper_dot_height, B_Keeper_dot_height⟩ := F_Keeper_dot_height
    obtain ⟨fd_Keeper_dot_made, G_Keeper_dot_made, B_Keeper_dot_made⟩ := F_Keeper_dot_made
    obtain ⟨fd_Keeper_dot_refuse_beyond, G_Keeper_dot_refuse_beyond, B_Keeper_dot_refuse_beyond⟩ := F_Keeper_dot_refuse_beyond
    obtain ⟨fd_Keeper_dot_put_at, G_Keeper_dot_put_at, B_Keeper_dot_put_at⟩ := F_Keeper_dot_put_at
    obtain ⟨fd_Keeper_dot_put_in, G_Keeper_dot_put_in, B_Keeper_dot_put_in⟩ := F_Keeper_dot_put_in
    obtain ⟨fd_Keeper_dot_take_out, G_Keeper_dot_take_out, B_Keeper_dot_take_out⟩ := F_Keeper_dot_take_out
    obtain ⟨fd_Keeper_dot_product, G_Keeper_dot_product, B_Keeper_dot_product⟩ := F_Keeper_dot_product
    obtain ⟨fd_Keeper_dot_whole, G_Keeper_dot_whole, B_Keeper_dot_whole⟩ := F_Keeper_dot_whole
    refine ⟨L2.glo_ok (L2.fc K_IDENTITY L2.f0) (L2.fc O_0 (L2.fc O_1 (L2.fc O_2 (L2.fc O_3 (L2.fc O_4 (L2.fc O_5 (L2.fc O_6 (L2.fc O_7 (L2.fc O_8 (L2.fc O_9 (L2.fc O_10 L2.f0))))))))))) (L2.fc ⟨_, m_HallError⟩ (L2.fc ⟨_, m_NoLayer⟩ (L2.fc ⟨_, m_Keeper⟩ L2.f0))) L2.f0 L2.f0 L2.f0 L2.f0 (L2.fc ⟨_, m_Keeper, c_Keeper, d_Keeper⟩ L2.f0) (L2.fc (fun a h1 => (by cases m_Keeper.symm.trans h1; exact n_Keeper_kept)) (L2.fc (fun a h1 => (by cases m_Keeper.symm.trans h1; exact n_Keeper_products)) (L2.fc (fun a h1 => (by cases m_Keeper.symm.trans h1; exact n_Keeper_row)) L2.f0))) (L2.fc (fun h1 => (nomatch h1)) L2.f0), fun x f hx => ?_, ?_⟩
    · exact (show ∀ p ∈ L2.Gz.tab, L2.DfOk ⟨L2.KOf KX, mg⟩ L2.Gz.G L2.Gz.T p.1 p.2 from (L2.fc ⟨L2.top_at D_is_whole, L2.Gz.sc_is_whole, L2.Gz.tr_is_whole⟩ (L2.fc ⟨L2.top_at D_greatest_divisor, L2.Gz.sc_greatest_divisor, L2.Gz.tr_greatest_divisor⟩ (L2.fc ⟨L2.top_at D_lowest, L2.Gz.sc_lowest, L2.Gz.tr_lowest⟩ (L2.fc ⟨L2.top_at D_plus, L2.Gz.sc_plus, L2.Gz.tr_plus⟩ (L2.fc ⟨L2.top_at D_times, L2.Gz.sc_times, L2.Gz.tr_times⟩ (L2.fc ⟨L2.top_at D_laid, L2.Gz.sc_laid, L2.Gz.tr_laid⟩ (L2.fc ⟨L2.top_at D_behind, L2.Gz.sc_behind, L2.Gz.tr_behind⟩ (L2.fc ⟨L2.top_at D__law_cell, L2.Gz.sc__law_cell, L2.Gz.tr__law_cell⟩ (L2.fc ⟨L2.top_at D__law_mixed, L2.Gz.sc__law_mixed, L2.Gz.tr__law_mixed⟩ (L2.fc ⟨L2.top_at D__law_divisor, L2.Gz.sc__law_divisor, L2.Gz.tr__law_divisor⟩ (L2.fc ⟨L2.top_at D__law_made, L2.Gz.sc__law_made, L2.Gz.tr__law_made⟩ (L2.fc ⟨L2.top_at D__law_make, L2.Gz.sc__law_make, L2.Gz.tr__law_make⟩ (L2.fc ⟨L2.top_at D__law_height, L2.Gz.sc__law_height, L2.Gz.tr__law_height⟩ (L2.fc ⟨L2.top_at D__law_power, L2.Gz.sc__law_power, L2.Gz.tr__law_power⟩ (L2.fc ⟨L2.top_at D__law_done, L2.Gz.sc__law_done, L2.Gz.tr__law_done⟩ (L2.fc ⟨L2.top_at D_law, L2.Gz.sc_law, L2.Gz.tr_law⟩ (L2.fc ⟨L2.meth_at2 (L := []) (L' := [("Keeper", some ("Keeper.__init__", 2))]) (by kernel_rfl) (by kernel_rfl) G_Keeper_dot___init__ B_Keeper_dot___init__ (by kernel_rfl) L2.f0 (by kernel_rfl) (L2.fc ⟨_, m_Keeper, k_Keeper⟩ L2.f0), L2.Gz.sc_Keeper_dot___init__, L2.Gz.tr_Keeper_dot___init__⟩ (L2.fc ⟨L2.meth_at2 (L := [("Keeper", "many", "Keeper.many", 1)]) (L' := []) (by kernel_rfl) (by kernel_rfl) G_Keeper_dot_many B_Keeper_dot_many (by kernel_rfl) (L2.fc ⟨_, m_Keeper, t_Keeper_many⟩ L2.f0) (by kernel_rfl) L2.f0, L2.Gz.sc_Keeper_dot_many, L2.Gz.tr_Keeper_dot_many⟩ (L2.fc ⟨L2.meth_at2 (L := [("Keeper", "height", "Keeper.height", 1)]) (L' := []) (by kernel_rfl) (by kernel_rfl) G_Keeper_dot_height B_Keeper_dot_height (by kernel_rfl) (L2.fc ⟨_, m_Keeper, t_Keeper_height⟩ L2.f0) (by kernel_rfl) L2.f0, L2.Gz.sc_Keeper_dot_height, L2.Gz.tr_Keeper_dot_height⟩ (L2.fc ⟨L2.meth_at2 (L := [("Keeper", "made", "Keeper.made", 1)]) (L' := []) (by kernel_rfl) (by kernel_rfl) G_Keeper_dot_made B_Keeper_dot_made (by kernel_rfl) (L2.fc ⟨_, m_Keeper, t_Keeper_made⟩ L2.f0) (by kernel_rfl) L2.f0, L2.Gz.sc_Keeper_dot_made, L2.Gz.tr_Keeper_dot_made⟩ (L2.fc ⟨L2.meth_at2 (L := [("Keeper", "refuse_beyond", "Keeper.refuse_beyond", 3)]) (L' := []) (by kernel_rfl) (by kernel_rfl) G_Keeper_dot_refuse_beyond B_Keeper_dot_refuse_beyond (by kernel_rfl) (L2.fc ⟨_, m_Keeper, t_Keeper_refuse_beyond⟩ L2.f0) (by kernel_rfl) L2.f0, L2.Gz.sc_Keeper_dot_refuse_beyond, L2.Gz.tr_Keeper_dot_refuse_beyond⟩ (L2.fc ⟨L2.meth_at2 (L := [("Keeper", "put_at", "Keeper.put_at", 3)]) (L' := []) (by kernel_rfl) (by kernel_rfl) G_Keeper_dot_put_at B_Keeper_dot_put_at (by kernel_rfl) (L2.fc ⟨_, m_Keeper, t_Keeper_put_at⟩ L2.f0) (by kernel_rfl) L2.f0, L2.Gz.sc_Keeper_dot_put_at, L2.Gz.tr_Keeper_dot_put_at⟩ (L2.fc ⟨L2.meth_at2 (L := [("Keeper", "put_in", "Keeper.put_in", 3)]) (L' := []) (by kernel_rfl) (by kernel_rfl) G_Keeper_dot_put_in B_Keeper_dot_put_in (by kernel_rfl) (L2.fc ⟨_, m_Keeper, t_Keeper_put_in⟩ L2.f0) (by kernel_rfl) L2.f0, L2.Gz.sc_Keeper_dot_put_in, L2.Gz.tr_Keeper_dot_put_in⟩ (L2.fc ⟨L2.meth_at2 (L := [("Keeper", "take_out", "Keeper.take_out", 2)]) (L' := []) (by kernel_rfl) (by kernel_rfl) G_Keeper_dot_take_out B_Keeper_dot_take_out (by kernel_rfl) (L2.fc ⟨_, m_Keeper, t_Keeper_take_out⟩ L2.f0) (by kernel_rfl) L2.f0, L2.Gz.sc_Keeper_dot_take_out, L2.Gz.tr_Keeper_dot_take_out⟩ (L2.fc ⟨L2.meth_at2 (L := [("Keeper", "product", "Keeper.product", 3)]) (L' := []) (by kernel_rfl) (by kernel_rfl) G_Keeper_dot_product B_Keeper_dot_product (by kernel_rfl) (L2.fc ⟨_, m_Keeper, t_Keeper_product⟩ L2.f0) (by kernel_rfl) L2.f0, L2.Gz.sc_Keeper_dot_product, L2.Gz.tr_Keeper_dot_product⟩ (L2.fc ⟨L2.meth_at2 (L := [("Keeper", "whole", "Keeper.whole", 1)]) (L' := []) (by kernel_rfl) (by kernel_rfl) G_Keeper_dot_whole B_Keeper_dot_whole (by kernel_rfl) (L2.fc ⟨_, m_Keeper, t_Keeper_whole⟩ L2.f0) (by kernel_rfl) L2.f0, L2.Gz.sc_Keeper_dot_whole, L2.Gz.tr_Keeper_dot_whole⟩ L2.f0))))))))))))))))))))))))))) _ (L2.tab_mem hx)
    · refine' ⟨_, _, PySem.W.mg_of KX G ?a, ?b, L2.fun_mk ?l ?c ?k⟩
      (case a => k_is); (case l => k_is); (case c => k_is); (case k => k_is)
      (case b => exact fun s u => .of_eq rfl)