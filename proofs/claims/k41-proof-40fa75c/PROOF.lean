import PyProof.Rows.All
import Wide.All
import OpenK.AllK
import Wide.FinOn
import Lean
import PyProof.EqAt
import PyProof.EqKinds
import PyProof.TupleCall
import PySem.Challenge.RW_matepoint_k41_rules_and_kinds_borne
set_option Elab.async false
set_option linter.all false
set_option maxRecDepth 100000
section
set_option Elab.async false
set_option linter.all false
set_option maxRecDepth 100000
namespace L2
open PySem PySem.Spec PyProof.Rows
noncomputable abbrev Key := Sum Int Str
noncomputable def keyIs : Key → Value → Bool
  | .inl k, v => Value.isInt k v
  | .inr x, v => Value.isStrOf x v
noncomputable def keyH (w : World) : Key → Int
  | .inl k => hashInt k
  | .inr x => hashStr w x
theorem keyIs_shape : ∀ {k : Key} {v : Value}, keyIs k v = true → (∃ i t, k = Sum.inl i ∧ v = Value.int i t) ∨ (∃ x t, k = Sum.inr x ∧ v = Value.str x t)
  | .inl i, v, h => by
    obtain ⟨t, e⟩ := Value.isInt_shape (k := i) (v := v) h
    exact .inl ⟨i, t, rfl, e⟩
  | .inr x, v, h => by
    obtain ⟨t, e⟩ := Value.isStrOf_shape (x := x) (v := v) h
    exact .inr ⟨x, t, rfl, e⟩
theorem key_ll (a b : Int) : decide ((Sum.inl a : Key) = Sum.inl b) = (a == b) := by
  by_cases e : a = b
  · subst e; simp
  · have h : ¬ (Sum.inl a : Key) = Sum.inl b := fun q => e (Sum.inl.inj q)
    rw [decide_eq_false h]
    exact (beq_eq_false_iff_ne.mpr e).symm
theorem key_rr (a b : Str) : decide ((Sum.inr a : Key) = Sum.inr b) = decide (a = b) := by
  by_cases e : a = b
  · subst e; simp
  · have h : ¬ (Sum.inr a : Key) = Sum.inr b := fun q => e (Sum.inr.inj q)
    rw [decide_eq_false h, decide_eq_false e]
theorem key_lr (a : Int) (b : Str) : decide ((Sum.inl a : Key) = Sum.inr b) = false := decide_eq_false (fun q => nomatch q)
theorem key_rl (a : Str) (b : Int) : decide ((Sum.inr a : Key) = Sum.inl b) = false := decide_eq_false (fun q => nomatch q)
noncomputable def mixKind (prog : Program) (w : World) : PySem.KeyKind prog w Key where
  is := keyIs
  hash := keyH w
  inj := fun v a b ha hb => by
    rcases keyIs_shape ha with ⟨i, t, rfl, rfl⟩ | ⟨x, t, rfl, rfl⟩
    · rcases keyIs_shape hb with ⟨j, u, rfl, e⟩ | ⟨y, u, rfl, e⟩
      · injection e with e1 _; rw [e1]
      · exact nomatch e
    · rcases keyIs_shape hb with ⟨j, u, rfl, e⟩ | ⟨y, u, rfl, e⟩
      · exact nomatch e
      · injection e with e1 _; rw [e1]
  byValue := fun k v h => by
    rcases keyIs_shape h with ⟨i, t, rfl, rfl⟩ | ⟨x, t, rfl, rfl⟩ <;> rfl
  pyHash := fun hv h => by
    rcases keyIs_shape hv with ⟨i, t, rfl, rfl⟩ | ⟨x, t, rfl, rfl⟩
    · exact wpAny_pyHash_int h
    · exact wpAny_pyHash_str h
  eqBool := fun hu hv h => by
    rcases keyIs_shape hu with ⟨i, t, rfl, rfl⟩ | ⟨x, t, rfl, rfl⟩
    · rcases keyIs_shape hv with ⟨j, u, rfl, rfl⟩ | ⟨y, u, rfl, rfl⟩
      · rw [key_ll] at h; exact wpAny_eqBool_int h
      · rw [key_lr] at h; exact SeqAt.EqAt.int_str i t y u _ _ _ _ h
    · rcases keyIs_shape hv with ⟨j, u, rfl, rfl⟩ | ⟨y, u, rfl, rfl⟩
      · rw [key_rl] at h; exact SeqAt.EqAt.str_int x t j u _ _ _ _ h
      · rw [key_rr] at h; exact wpAny_eqBool_str h
  «strs» := fun k x t v h => by
    rcases keyIs_shape h with ⟨i, u, rfl, e⟩ | ⟨y, u, rfl, e⟩
    · exact nomatch e
    · injection e with e1 _
      subst e1
      cases v <;> rfl
end L2
namespace L2
open PySem PySem.Spec PyProof.Rows
inductive V where
  | non | bl (b : Bool) | int (i : Int) | str (x : Str) | byt (b : Array UInt8) | flt (b : UInt64) | ref (a : Addr) | ty (n : String)
  deriving DecidableEq
noncomputable def RelV : V → Value → Prop
  | .non, u => u = Value.none
  | .bl b, u => u = Value.bool b
  | .int i, u => ∃ t, u = Value.int i t
  | .str x, u => ∃ t, u = Value.str x t
  | .byt b, u => ∃ t, u = Value.bytes b t
  | .flt b, u => ∃ t, u = Value.float b t
  | .ref a, u => u = Value.ref a
  | .ty n, u => u = Value.type n
noncomputable abbrev Vals : List V → List Value → Prop := Paired RelV
theorem Vals.length {xs : List V} {us : List Value} (r : Vals xs us) : xs.length = us.length := Paired.length r
theorem Vals.get : ∀ {xs : List V} {us : List Value} {i : Nat} {x : V}, Vals xs us → xs[i]? = some x → ∃ u, us[i]? = some u ∧ RelV x u
  | _, _, _, _, .nil, e => by simp at e
  | _, _, 0, _, .cons r _, e => by simp at e; subst e; exact ⟨_, rfl, r⟩
  | _, _, i + 1, x, .cons _ t, e => by
    obtain ⟨u, h1, h2⟩ := Vals.get (i := i) (x := x) t (by simpa using e)
    exact ⟨u, by simpa using h1, h2⟩
theorem Vals.set {x : V} {u : Value} (r : RelV x u) : ∀ {xs : List V} {us : List Value} (i : Nat), Vals xs us → Vals (xs.set i x) (us.set i u)
  | _, _, _, .nil => .nil
  | _, _, 0, .cons _ t => .cons r t
  | _, _, i + 1, .cons q t => .cons q (Vals.set r i t)
theorem Vals.append : ∀ {xs ys : List V} {us ws : List Value}, Vals xs us → Vals ys ws → Vals (xs ++ ys) (us ++ ws)
  | _, _, _, _, .nil, s => s
  | _, _, _, _, .cons r t, s => .cons r (Vals.append t s)
theorem Vals.take : ∀ {xs : List V} {us : List Value} (n : Nat), Vals xs us → Vals (xs.take n) (us.take n)
  | _, _, 0, _ => .nil
  | _, _, _ + 1, .nil => .nil
  | _, _, n + 1, .cons r t => .cons r (Vals.take n t)
theorem Vals.drop : ∀ {xs : List V} {us : List Value} (n : Nat), Vals xs us → Vals (xs.drop n) (us.drop n)
  | _, _, 0, r => r
  | _, _, _ + 1, .nil => .nil
  | _, _, n + 1, .cons _ t => Vals.drop n t
noncomputable def RelO : Option V → Option Value → Prop
  | some v, some u => RelV v u
  | none, none => True
  | _, _ => False
noncomputable def KV {κ : Type} : List (κ × V) → List (κ × Value) → Prop := Paired fun (p : κ × V) (q : κ × Value) => p.1 = q.1 ∧ RelV p.2 q.2
noncomputable def kV : Key → V
  | .inl i => .int i
  | .inr x => .str x
inductive HO where
  | lst (xs : List V)
  | tup (xs : List V)
  | dK (kvs : List (Key × V)) | dT (kvs : List (List Key × V))
  | set (S : Int → Bool) (n : Nat)
  | ins (C dx : Addr) (fs : List (Str × V))
  | own (x : Addr)
  | xd (fs : List (Str × V))
  | met (f x : Addr)
  | rng (lo hi : Int)
  | frz (o : Obj) (u : HO)
  | tbl (ps : Array Value)
  | ext (φ : Heap → Prop)
noncomputable abbrev Hp := Addr → Option HO
noncomputable def upd (H : Hp) (a : Addr) (o : HO) : Hp := fun b => if b = a then some o else H b
theorem upd_same {H : Hp} {a : Addr} {o : HO} : upd H a o a = some o := by unfold upd; rw [if_pos rfl]
theorem upd_ne {H : Hp} {a b : Addr} {o : HO} (h : b ≠ a) : upd H a o b = H b := by unfold upd; rw [if_neg h]
theorem ne_of_none {H : Hp} {a b : Addr} {o : HO} (h : H a = some o) (h' : H b = none) : a ≠ b := by
  intro e; subst e; rw [h] at h'; cases h'
noncomputable def TupP (h : Heap) (a : Addr) (items : Array Value) : Prop := ∃ o, h.get? a = some o ∧ o.cls = .type "tuple" ∧ (∃ n, o.data = .seq items n) ∧ o.dict = none
theorem TupP.is {h : Heap} {a : Addr} {items : Array Value} (x : TupP h a items) : IsTup h a items := let ⟨o, h1, h2, h3, _⟩ := x; ⟨o, h1, h2, h3⟩
theorem TupP.new (h : Heap) (items : Array Value) : TupP (h.push { cls := .type "tuple", data := .seq items }) h.objs.size items := ⟨_, Heap.get?_push_size _ rfl, rfl, ⟨_, rfl⟩, rfl⟩
section
variable (P : Program) (w : World)
noncomputable def ObjOk (H : Hp) (h : Heap) (a : Addr) : HO → Prop
  | .lst xs => xs.length ≤ sizeLine ∧ ∃ (its : List Value) (n : Nat), Vals xs its ∧ h.get? a = some { cls := .type "list", data := .seq its.toArray n }
  | .tup xs => xs.length ≤ sizeLine ∧ ∃ its : List Value, Vals xs its ∧ TupP h a its.toArray
  | .dK kvs => kvs.length ≤ sizeLine ∧ (a == sysModules) = false ∧ ∃ vs, KV kvs vs ∧ h.DictOf (mixKind P w) a vs
  | .dT kvs => kvs.length ≤ sizeLine ∧ (a == sysModules) = false ∧ ∃ xs : List (List Key × Addr × Value),
      Paired (fun (p : List Key × V) (q : List Key × Addr × Value) => p.1 = q.1 ∧ H q.2.1 = some (.tup (p.1.map kV)) ∧ RelV p.2 q.2.2) kvs xs ∧
      ∃ o es ep, h.get? a = some o ∧ o.ExactDict ∧ o.data = .dict es ep ∧ es.toList = xs.map (entryOfKey (tupleKind (mixKind P w))) ∧ (xs.map (·.1)).Nodup
  | .set S n => h.SetOf (intKind P w) a S n
  | .ins C dx fs => H dx = some (.own a) ∧ fs.length ≤ 1000 ∧ dx ≠ a ∧ h.get? a = some (PySem.W.instObj C dx) ∧
      ∃ mA, h.Ns1 dx mA ∧ (∀ f, RelO (fs.lookup f) (mA f)) ∧ PySem.Within mA (fs.map (·.1))
  | .own _ => ∃ o, h.get? a = some o
  | .xd fs => ∃ mA, h.Ns1 a mA ∧ ∀ f, RelO (fs.lookup f) (mA f)
  | .rng lo hi => ∃ t u v, h.get? a = some { cls := .type "range", data := .fields #[.int lo t, .int hi u, .int 1 v] }
  | .frz o u => h.get? a = some o ∧ ObjOk H h a u
  | .tbl ps => h.get? a = some { cls := .none, data := .fields ps }
  | .met f x => h.get? a = some (PySem.W.methodObj (.ref f) (.ref x))
  | .ext φ => φ h ∧ (∃ o, h.get? a = some o) ∧ ∀ h1 h2 : Heap, φ h1 → (∀ o, h1.get? a = some o → h2.get? a = some o) → φ h2
noncomputable def HOk (H : Hp) (h : Heap) : Prop := ∀ a o, H a = some o → ObjOk P w H h a o
end
section
variable {P : Program} {w : World} {H H' : Hp} {h h' : Heap} {a : Addr} {o : HO}
theorem ObjOk.lt (x : ObjOk P w H h a o) : a < h.objs.size := by
  cases o with
  | lst xs => obtain ⟨_, _, _, _, e⟩ := x; exact Heap.lt_size e
  | tup xs => obtain ⟨_, _, _, p⟩ := x; exact p.is.lt
  | dK kvs => obtain ⟨_, _, _, _, o, _, _, e, _⟩ := x; exact Heap.lt_size e
  | dT kvs => obtain ⟨_, _, _, _, o, _, _, e, _⟩ := x; exact Heap.lt_size e
  | set S n => obtain ⟨o, _, _, _, e, _⟩ := x; exact Heap.lt_size e
  | ins C dx fs => obtain ⟨_, _, _, e, _⟩ := x; exact Heap.lt_size e
  | own y => obtain ⟨_, e⟩ := x; exact Heap.lt_size e
  | xd fs => obtain ⟨_, ⟨_, _, _, e, _⟩, _⟩ := x; exact Heap.lt_size e
  | rng lo hi => obtain ⟨_, _, _, e⟩ := x; exact Heap.lt_size e
  | frz ob u => obtain ⟨e, _⟩ := x; exact Heap.lt_size e
  | tbl ps => exact Heap.lt_size (show h.get? a = some _ from x)
  | met f y => exact Heap.lt_size (show h.get? a = some _ from x)
  | ext φ => obtain ⟨_, ⟨_, e⟩, _⟩ := x; exact Heap.lt_size e
theorem Paired.mapP {α β : Type} {F G : α → β → Prop} : ∀ {l₁ : List α} {l₂ : List β}, Paired F l₁ l₂ → (∀ a b, F a b → G a b) → Paired G l₁ l₂
  | _, _, .nil, _ => .nil
  | _, _, .cons r t, f => .cons (f _ _ r) (Paired.mapP t f)
theorem ObjOk.stay (x : ObjOk P w H h a o) (k : ∀ b u, (b = a ∨ H b = some (.own a)) → h.get? b = some u → h'.get? b = some u)
    (ho : ∀ b, H b = some (.own a) → H' b = some (.own a)) (ht : ∀ b xs, H b = some (.tup xs) → H' b = some (.tup xs)) : ObjOk P w H' h' a o := by
  induction o with
  | lst xs => obtain ⟨z, its, n, r, e⟩ := x; exact ⟨z, its, n, r, k _ _ (.inl rfl) e⟩
  | tup xs => obtain ⟨z, its, r, ob, e, c⟩ := x; exact ⟨z, its, r, ob, k _ _ (.inl rfl) e, c⟩
  | dK kvs => obtain ⟨z, y, vs, r, ob, es, ep, e, c⟩ := x; exact ⟨z, y, vs, r, ob, es, ep, k _ _ (.inl rfl) e, c⟩
  | dT kvs =>
    obtain ⟨z, y, xs, r, ob, es, ep, e, c⟩ := x
    exact ⟨z, y, xs, Paired.mapP r fun p q z => ⟨z.1, ht _ _ z.2.1, z.2.2⟩, ob, es, ep, k _ _ (.inl rfl) e, c⟩
  | set S n => obtain ⟨ob, es, ep, t, e, c⟩ := x; exact ⟨ob, es, ep, t, k _ _ (.inl rfl) e, c⟩
  | ins C dx fs =>
    obtain ⟨d, z, ne, e, mA, ⟨od, es, ep, e2, c⟩, r⟩ := x
    exact ⟨ho _ d, z, ne, k _ _ (.inl rfl) e, mA, ⟨od, es, ep, k _ _ (.inr d) e2, c⟩, r⟩
  | own y => obtain ⟨ob, e⟩ := x; exact ⟨ob, k _ _ (.inl rfl) e⟩
  | xd fs => obtain ⟨mA, ⟨od, es, ep, e, c⟩, r⟩ := x; exact ⟨mA, ⟨od, es, ep, k _ _ (.inl rfl) e, c⟩, r⟩
  | rng lo hi => obtain ⟨t, u, v, e⟩ := x; exact ⟨t, u, v, k _ _ (.inl rfl) e⟩
  | frz ob u ih => obtain ⟨e, q⟩ := x; exact ⟨k _ _ (.inl rfl) e, ih q⟩
  | tbl ps =>
    have e : h.get? a = some { cls := .none, data := .fields ps } := x
    show h'.get? a = some { cls := .none, data := .fields ps }
    exact k a _ (.inl rfl) e
  | met f y =>
    have e : h.get? a = some (PySem.W.methodObj (.ref f) (.ref y)) := x
    show h'.get? a = some (PySem.W.methodObj (.ref f) (.ref y))
    exact k a _ (.inl rfl) e
  | ext φ => obtain ⟨p, ⟨o, e⟩, st⟩ := x; exact ⟨st _ _ p fun o q => k _ _ (.inl rfl) q, ⟨o, k _ _ (.inl rfl) e⟩, st⟩
theorem HOk.lt (x : HOk P w H h) (e : H a = some o) : a < h.objs.size := (x a o e).lt
theorem HOk.fresh (x : HOk P w H h) (e : h.objs.size ≤ a) : H a = none := by
  cases q : H a with
  | none => rfl
  | some u => exact absurd (Nat.lt_of_lt_of_le (x.lt q) e) (Nat.lt_irrefl _)
theorem HOk.kept (x : HOk P w H h) (k : ∀ b u, h.get? b = some u → h'.get? b = some u) : HOk P w H h' := fun a o e =>
  (x a o e).stay (fun b u _ q => k b u q) (fun _ q => q) fun _ _ q => q
theorem HOk.laid (x : HOk P w H h) (k : ∀ b u, h.get? b = some u → h'.get? b = some u) (hp : h.objs.size ≤ a) (new : ObjOk P w (upd H a o) h' a o) : HOk P w (upd H a o) h' := fun b u e => by
  have hn := x.fresh hp
  by_cases hb : b = a
  · subst hb; rw [upd_same] at e; cases e; exact new
  · rw [upd_ne hb] at e
    exact (x b u e).stay (fun c v _ q => k c v q) (fun c q => by rw [upd_ne (ne_of_none q hn)]; exact q) fun c xs q => by rw [upd_ne (ne_of_none q hn)]; exact q
end
noncomputable def Rd (H : Hp) (a : Addr) (u : HO) : Prop := H a = some u ∨ ∃ o, H a = some (.frz o u)
theorem Rd.of {H : Hp} {a : Addr} {u : HO} (h : H a = some u) : Rd H a u := .inl h
theorem Rd.ok {P : Program} {w : World} {H : Hp} {h : Heap} {a : Addr} {u : HO} (r : Rd H a u) (x : HOk P w H h) : ObjOk P w H h a u := by
  rcases r with r | ⟨o, r⟩
  · exact x a u r
  · obtain ⟨_, q⟩ := x a _ r
    exact q
noncomputable def Mut : Option HO → Prop
  | some (.lst _) => True
  | some (.dK _) => True
  | some (.dT _) => True
  | some (.set _ _) => True
  | some (.ins _ _ _) => True
  | some (.ext _) => True
  | _ => False
section
variable {P : Program} {w : World} {H : Hp} {h h' : Heap} {x e : Addr} {o' : HO}
theorem HOk.write (ok : HOk P w H h) (mu : Mut (H x)) (he : e = x ∨ H e = some (.own x)) (k : ∀ b u, b ≠ e → h.get? b = some u → h'.get? b = some u) (heo : ∃ u, h'.get? e = some u)
    (new : ObjOk P w (upd H x o') h' x o') : HOk P w (upd H x o') h' := fun b u q => by
  have nown : ∀ c y, H c = some (.own y) → c ≠ x := fun c y r z => by subst z; rw [r] at mu; exact mu
  have ntup : ∀ c xs, H c = some (.tup xs) → c ≠ x := fun c xs r z => by subst z; rw [r] at mu; exact mu
  by_cases hb : b = x
  · subst hb; rw [upd_same] at q; cases q; exact new
  · rw [upd_ne hb] at q
    by_cases hbe : b = e
    · have q' : H b = some (.own x) := by
        rcases he with z | z
        · exact absurd (hbe.trans z) hb
        · rw [hbe]; exact z
      rw [q] at q'; cases q'
      obtain ⟨v, hv⟩ := heo
      exact ⟨v, by rw [hbe]; exact hv⟩
    · refine (ok b u q).stay (fun c v hc r => k c v ?_ r) (fun c r => by rw [upd_ne (nown c b r)]; exact r) fun c xs r => by rw [upd_ne (ntup c xs r)]; exact r
      rcases hc with rfl | hc
      · exact hbe
      · rintro rfl
        rcases he with z | z
        · exact nown c b hc z
        · rw [hc] at z; cases z; exact hb rfl
end
structure Un (fs ex : List Addr) (H H' : Hp) (h h' : Heap) : Prop where
  keep : ∀ b o, h.get? b = some o → H b = none → b ∉ fs → b ∉ ex → h'.get? b = some o
  slot : ∀ b o, h.get? b = some o → H b = none → b ∈ fs → b ∉ ex → ∃ sl, h'.get? b = some { o with slots := sl }
  free : ∀ b o, h.get? b = some o → H b = none → b ∉ ex → H' b = none
  there : ∀ b o, h.get? b = some o → b ∉ ex → ∃ o', h'.get? b = some o'
  tups : ∀ b xs, H b = some (.tup xs) → H' b = some (.tup xs)
  frzs : ∀ b o u, H b = some (.frz o u) → H' b = some (.frz o u)
  tbls : ∀ b ps, H b = some (.tbl ps) → ∃ more, H' b = some (.tbl (ps ++ more))
section
variable {fs fs' ex ex' : List Addr} {H H1 H2 : Hp} {h h1 h2 h' : Heap} {a x e : Addr} {o : HO}
theorem Un.any (u : Un fs ex H H1 h h1) {b : Addr} {ob : Obj} (q : h.get? b = some ob) (n : H b = none) (hx : b ∉ ex) : ∃ sl, h1.get? b = some { ob with slots := sl } := by
  by_cases hb : b ∈ fs
  · exact u.slot b ob q n hb hx
  · exact ⟨ob.slots, u.keep b ob q n hb hx⟩
theorem Un.trans (a : Un fs ex H H1 h h1) (b : Un fs ex H1 H2 h1 h2) : Un fs ex H H2 h h2 where
  keep := fun c ob q n hc hx => b.keep c ob (a.keep c ob q n hc hx) (a.free c ob q n hx) hc hx
  slot := fun c ob q n hc hx => by
    obtain ⟨sl, e1⟩ := a.slot c ob q n hc hx
    obtain ⟨sl', e2⟩ := b.slot c _ e1 (a.free c ob q n hx) hc hx
    exact ⟨sl', e2⟩
  free := fun c ob q n hx => by
    obtain ⟨o', e1⟩ := a.there c ob q hx
    exact b.free c o' e1 (a.free c ob q n hx) hx
  there := fun c ob q hx => by
    obtain ⟨o', e1⟩ := a.there c ob q hx
    exact b.there c o' e1 hx
  tups := fun c xs q => b.tups c xs (a.tups c xs q)
  frzs := fun c ob xs q => b.frzs c ob xs (a.frzs c ob xs q)
  tbls := fun c ps q => by
    obtain ⟨m1, e1⟩ := a.tbls c ps q
    obtain ⟨m2, e2⟩ := b.tbls c _ e1
    exact ⟨m1 ++ m2, by rw [e2, Array.append_assoc]⟩
theorem Un.kept (k : ∀ b u, h.get? b = some u → h'.get? b = some u) : Un fs ex H H h h' :=
  ⟨fun b ob q _ _ _ => k b ob q, fun b ob q _ _ _ => ⟨ob.slots, k b ob q⟩, fun _ _ _ n _ => n, fun b ob q _ => ⟨ob, k b ob q⟩, fun _ _ q => q, fun _ _ _ q => q, fun _ ps q => ⟨#[], by rw [q]; simp⟩⟩
theorem Un.refl : Un fs ex H H h h := Un.kept fun _ _ q => q
theorem Un.laid (k : ∀ b u, h.get? b = some u → h'.get? b = some u) (hp : h.objs.size ≤ a) (hn : H a = none) : Un fs ex H (upd H a o) h h' where
  keep := fun b u q _ _ _ => k b u q
  slot := fun b u q _ _ _ => ⟨u.slots, k b u q⟩
  free := fun b u q n _ => by rw [upd_ne (Nat.ne_of_lt (Nat.lt_of_lt_of_le (Heap.lt_size q) hp))]; exact n
  there := fun b u q _ => ⟨u, k b u q⟩
  tups := fun b xs q => by rw [upd_ne (ne_of_none q hn)]; exact q
  frzs := fun b u xs q => by rw [upd_ne (ne_of_none q hn)]; exact q
  tbls := fun b ps q => ⟨#[], by rw [upd_ne (ne_of_none q hn), q]; simp⟩
theorem Un.write (mu : Mut (H x)) (he : e = x ∨ H e = some (.own x)) (k : ∀ b u, b ≠ e → h.get? b = some u → h'.get? b = some u) (heo : ∃ u, h'.get? e = some u) : Un fs ex H (upd H x o) h h' := by
  have hx : ∀ b, H b = none → b ≠ x := fun b n z => by subst z; rw [n] at mu; exact mu
  have hb : ∀ b, H b = none → b ≠ e := fun b n z => by
    subst z
    rcases he with r | r
    · exact hx b n r
    · rw [n] at r; cases r
  have hm : ∀ b u, H b = some u → ¬ Mut (some u) → b ≠ x := fun b u q nm z => by subst z; rw [q] at mu; exact nm mu
  refine ⟨fun b u q n _ _ => k b u (hb b n) q, fun b u q n _ _ => ⟨u.slots, k b u (hb b n) q⟩, fun b u q n _ => by rw [upd_ne (hx b n)]; exact n, fun b u q _ => ?_,
    fun b xs q => by rw [upd_ne (hm b _ q fun z => z)]; exact q, fun b u xs q => by rw [upd_ne (hm b _ q fun z => z)]; exact q, fun b ps q => ⟨#[], by rw [upd_ne (hm b _ q fun z => z), q]; simp⟩⟩
  by_cases hbe : b = e
  · subst hbe; exact heo
  · exact ⟨u, k b u hbe q⟩
theorem Un.mono (u : Un fs ex H H1 h h1) (hs : ∀ b ∈ fs, b ∈ fs') (hx : ∀ b ∈ ex, b ∈ ex') : Un fs' ex' H H1 h h1 :=
  ⟨fun b ob q n hb he => u.keep b ob q n (fun z => hb (hs b z)) fun z => he (hx b z), fun _ _ q n _ he => u.any q n fun z => he (hx _ z), fun b ob q n he => u.free b ob q n fun z => he (hx b z), fun b ob q he => u.there b ob q fun z => he (hx b z), u.tups, u.frzs, u.tbls⟩
end
noncomputable def trk (h : Heap) (H : Hp) : List Addr := (List.range h.objs.size).filter fun a => (H a).isSome
noncomputable def hidT (h : Heap) (H : Hp) : Heap := PySem.W.hideAll h (trk h H)
theorem hidT_size (h : Heap) (H : Hp) : (hidT h H).objs.size = h.objs.size := PySem.W.hideAll_size _ _
theorem hidT_get {h : Heap} {H : Hp} {b : Addr} {o : Obj} (e : h.get? b = some o) (n : H b = none) : (hidT h H).get? b = some o :=
  PySem.W.hideAll_get _ e fun hm => by
    have q : (H b).isSome = true := (List.mem_filter.mp hm).2
    rw [n] at q; simp at q
theorem of_hidT {h : Heap} {H : Hp} {b : Addr} {o : Obj} (e : (hidT h H).get? b = some o) : h.get? b = some o ∧ H b = none := by
  have e' : h.get? b = some o := PySem.W.of_hideAll (trk h H) e
  refine ⟨e', ?_⟩
  cases q : H b with
  | none => rfl
  | some x =>
    have hm : b ∈ trk h H := List.mem_filter.mpr ⟨List.mem_range.mpr (Heap.lt_size e'), by simp [q]⟩
    have z : (hidT h H).get? b = none := PySem.W.hideAll_none (trk h H) hm
    rw [z] at e; cases e
noncomputable def allNews (g h : Heap) (L : Addr) : List (Addr × Obj) := (List.range h.objs.size).filterMap fun a => if a = L ∨ (g.get? a).isSome = true then none else (h.get? a).map fun o => (a, o)
noncomputable def rest (g h : Heap) (L d : Addr) : List (Addr × Obj) := (allNews g h L).filter fun p => decide (p.1 ≠ d)
end L2
namespace L2
open PySem PySem.Spec PyProof.Rows
structure Mod (K : PySem.W.Frag) (mg : Str → Option Value) (base : Heap) : Prop where
  kin : K.In base
  glob : base.Ns mainGlobals mg
  blt : ∃ mb, base.Ns builtinsNs mb ∧ ∀ x : Str, x ≠ "__name__" → mb x = bootBuiltins x
  nolimit : base.NoLimit
structure Cx where
  prog : Program
  w : World
  K : PySem.W.Frag
  mg : Str → Option Value
  base : Heap
  A : Around
  N : List Str
  s₀ : Shared
  H₀ : Hp
  env : Env
  outer : List Env
  stack : List Env
  ex : List Addr
  fn : Str → Bool
  calm : Bool
  pn : List (Addr × Obj)
  xe : Value → Shared → Prop
noncomputable def frs (l : List Env) : List Addr := l.filterMap (·.frame)
noncomputable abbrev Cx.fs (X : Cx) : List Addr := frs X.outer
noncomputable def Vis (sc : Scope) (x : Str) : Prop := sc.names.lookup x = some .local ∨ sc.names.lookup x = some .cell ∨ sc.names.lookup x = some .free
noncomputable def Loc (sc : Scope) (x : Str) : Prop := sc.names.lookup x = some .local ∨ sc.names.lookup x = some .cell
noncomputable def Look (env : Env) (h : Heap) (m : Str → Option Value) (x : Str) (u : Value) : Prop :=
  (env.kindOf x = some .local ∧ m x = some u) ∨ ((env.kindOf x = some .cell ∨ env.kindOf x = some .free) ∧ ∃ c, env.cells.lookup x = some c ∧ h.IsCell c (some u))
structure Cx.Ok (X : Cx) : Prop where
  mod : Mod X.K X.mg X.base
  kind : X.env.scope.kind = .function
  glob : X.env.globals = mainGlobals
  blt : X.env.builtins = builtinsNs
  above : X.s₀.heap.objs.size ≤ X.env.locals
  inj : ∀ x y c, X.env.cells.lookup x = some c → X.env.cells.lookup y = some c → x = y
  has : ∀ x, (X.env.kindOf x = some .cell ∨ X.env.kindOf x = some .free) → ∃ c, X.env.cells.lookup x = some c
  cab : ∀ x c, X.fn x = true → X.env.cells.lookup x = some c → X.s₀.heap.objs.size ≤ c
  hd : X.calm = true → X.A.handled = none
  frames : X.A.frames = some X.stack
  stk : X.stack = X.outer ∨ (X.stack = X.env :: X.outer ∧ X.env.frame = some X.env.locals)
  exf : ∀ b ∈ X.ex, b ≠ X.env.locals ∧ ∀ x c, X.env.cells.lookup x = some c → c ≠ b
  bs : ∀ b o, X.base.get? b = some o → X.s₀.heap.get? b = some o ∧ X.H₀ b = none
  bsz : X.base.objs.size ≤ X.s₀.heap.objs.size
  noex : ∀ b o, X.base.get? b = some o → b ∉ X.ex
  exfs : ∀ b ∈ X.ex, b ∉ X.fs
  funs : X.s₀.heap.FunFrames X.base X.outer
  frf : ∀ b ∈ X.fs, X.H₀ b = none
structure Inv (X : Cx) (pins : List (Addr × Obj)) (σ : List (Option V)) (H : Hp) (s : Shared) : Prop where
  ok : X.Ok
  os : s.os = X.s₀.os
  bare : AllBare s.gens
  base : Un X.fs X.ex X.H₀ H X.s₀.heap s.heap
  loc : ∃ m, s.heap.Ns X.env.locals m ∧ ∀ (i : Nat) (x : Str) (v : V), X.N[i]? = some x → σ[i]? = some (some v) → Vis X.env.scope x → ∃ u, RelV v u ∧ Look X.env s.heap m x u
  cell : ∀ x c, X.env.cells.lookup x = some c → ∃ v, s.heap.IsCell c v
  free : H X.env.locals = none
  freeC : ∀ x c, X.env.cells.lookup x = some c → H c = none
  pin : ∀ p ∈ X.pn ++ pins, s.heap.get? p.1 = some p.2 ∧ H p.1 = none ∧ p.1 ≠ X.env.locals ∧ p.1 ∉ X.fs ∧ ∀ v, p.2.data ≠ .cell v
  hok : HOk X.prog X.w H s.heap
  len : σ.length = X.N.length
section
variable {X : Cx} {pins : List (Addr × Obj)} {σ : List (Option V)} {H H' : Hp} {s : Shared} {h' : Heap}
theorem Cx.Ok.nofr (ok : X.Ok) {b : Addr} {o : Obj} (e : X.base.get? b = some o) : b ∉ X.fs := fun hb => by
  have := (ok.funs.mem hb).1
  rw [e] at this; cases this
theorem Inv.bs (I : Inv X pins σ H s) : ∀ b o, X.base.get? b = some o → s.heap.get? b = some o ∧ H b = none := fun b o e =>
  ⟨I.base.keep b o (I.ok.bs b o e).1 (I.ok.bs b o e).2 (I.ok.nofr e) (I.ok.noex b o e), I.base.free b o (I.ok.bs b o e).1 (I.ok.bs b o e).2 (I.ok.noex b o e)⟩
theorem Inv.bk (I : Inv X pins σ H s) : ∀ b o, X.base.get? b = some o → s.heap.get? b = some o := fun b o e => (I.bs b o e).1
theorem Inv.mod (I : Inv X pins σ H s) : Mod X.K X.mg X.base := I.ok.mod
theorem Inv.kIn (I : Inv X pins σ H s) : X.K.In s.heap := I.ok.mod.kin.keeps I.bk
theorem Inv.nolimit (I : Inv X pins σ H s) : s.heap.NoLimit := I.ok.mod.nolimit.keeps I.bk
theorem Inv.lt (I : Inv X pins σ H s) : X.env.locals < s.heap.objs.size := let ⟨_, hn, _⟩ := I.loc; hn.lt
theorem Inv.sz (I : Inv X pins σ H s) : X.s₀.heap.objs.size ≤ s.heap.objs.size := Nat.le_trans I.ok.above (Nat.le_of_lt I.lt)
theorem Inv.nofs (I : Inv X pins σ H s) {a : Addr} (h : s.heap.objs.size ≤ a) : a ∉ X.fs := fun hb => by
  obtain ⟨_, o, ho, _⟩ := I.ok.funs.mem hb
  exact absurd (Nat.lt_of_lt_of_le (Heap.lt_size ho) (Nat.le_trans I.sz h)) (Nat.lt_irrefl _)
theorem Inv.cne (I : Inv X pins σ H s) : ∀ x c, X.env.cells.lookup x = some c → c ≠ X.env.locals := fun x c e z => by
  obtain ⟨v, o, ho, hd⟩ := I.cell x c e
  obtain ⟨m, ⟨o', es, ep, ho', hd', _⟩, _⟩ := I.loc
  rw [z, ho'] at ho; cases ho; rw [hd'] at hd; cases hd
theorem Inv.funs (I : Inv X pins σ H s) : s.heap.FunFrames X.base X.outer := by
  have all : ∀ (l : List Env), (∀ b ∈ frs l, b ∈ X.fs) → X.s₀.heap.FunFrames X.base l → s.heap.FunFrames X.base l := by
    intro l
    induction l with
    | nil => intro _ _; trivial
    | cons env r ih =>
      intro hs hl
      obtain ⟨hk, ⟨L, o, hf, hn, ho, hd⟩, hr⟩ := hl
      have hL : L ∈ X.fs := hs L (by unfold frs; rw [List.filterMap_cons, hf]; exact List.mem_cons_self)
      obtain ⟨sl, e⟩ := I.base.slot L o ho (I.ok.frf L hL) hL fun z => I.ok.exfs L z hL
      exact ⟨hk, ⟨L, _, hf, hn, e, hd⟩, ih (fun b hb => hs b (by unfold frs; rw [List.filterMap_cons, hf]; exact List.mem_cons_of_mem _ hb)) hr⟩
  exact all X.outer (fun _ hb => hb) I.ok.funs
theorem Inv.stack (I : Inv X pins σ H s) : s.heap.FunFrames X.base X.stack := by
  rcases I.ok.stk with e | ⟨e, hf⟩
  · rw [e]; exact I.funs
  · rw [e]
    obtain ⟨m, hn, _⟩ := I.loc
    refine .cons (by rw [I.ok.kind]; decide) hf hn ?_ I.funs
    exact Heap.get?_none_of_le (Nat.le_trans I.ok.bsz I.ok.above)
theorem Inv.stkSub (I : Inv X pins σ H s) : ∀ b ∈ frs X.stack, b ∈ X.env.locals :: X.fs := fun b hb => by
  rcases I.ok.stk with e | ⟨e, hf⟩
  · rw [e] at hb; exact List.mem_cons_of_mem _ hb
  · rw [e] at hb
    unfold frs at hb
    rw [List.filterMap_cons, hf] at hb
    exact hb
theorem Inv.stkFree (I : Inv X pins σ H s) : ∀ b ∈ frs X.stack, H b = none := fun b hb => by
  rcases List.mem_cons.mp (I.stkSub b hb) with e | hb
  · rw [e]; exact I.free
  · obtain ⟨_, o, ho, _⟩ := I.ok.funs.mem hb
    exact I.base.free b o ho (I.ok.frf b hb) fun z => I.ok.exfs b z hb
theorem Inv.step {g' : Array GenState} {t' : Nat} {d' : Drawn} {ch : List Addr} (I : Inv X pins σ H s)
    (hch : ∀ b ∈ ch, (b ∈ X.ex ∨ X.s₀.heap.objs.size ≤ b) ∧ b ≠ X.env.locals ∧ (∀ x c, X.env.cells.lookup x = some c → c ≠ b) ∧ ∀ p ∈ X.pn ++ pins, p.1 ≠ b)
    (keep : ∀ b o, b ≠ X.env.locals → b ∉ X.fs → b ∉ ch → s.heap.get? b = some o → H b = none → h'.get? b = some o)
    (slot : ∀ b o, b ≠ X.env.locals → b ∈ X.fs → b ∉ ch → s.heap.get? b = some o → H b = none → ∃ sl, h'.get? b = some { o with slots := sl }) (free : ∀ b o, b ∉ ch → s.heap.get? b = some o → H b = none → H' b = none)
    (there : ∀ b o, b ∉ ch → s.heap.get? b = some o → ∃ o', h'.get? b = some o')
    (tups : ∀ b xs, H b = some (.tup xs) → H' b = some (.tup xs)) (frzs : ∀ b o u, H b = some (.frz o u) → H' b = some (.frz o u)) (tbls : ∀ b ps, H b = some (.tbl ps) → ∃ more, H' b = some (.tbl (ps ++ more)))
    (ns : ∀ m, s.heap.Ns X.env.locals m → h'.Ns X.env.locals m) (hok : HOk X.prog X.w H' h') (hg : AllBare g') :
    Inv X pins σ H' { s with heap := h', gens := g', drawn := d', toks := t' } := by
  have neL : ∀ b o, X.s₀.heap.get? b = some o → b ≠ X.env.locals := fun b o e => Nat.ne_of_lt (Nat.lt_of_lt_of_le (Heap.lt_size e) I.ok.above)
  have neC : ∀ b o, X.s₀.heap.get? b = some o → b ∉ X.ex → b ∉ ch := fun b o e hx hb => by
    rcases (hch b hb).1 with z | z
    · exact hx z
    · exact absurd (Nat.lt_of_lt_of_le (Heap.lt_size e) z) (Nat.lt_irrefl _)
  have cellK : ∀ x c, X.env.cells.lookup x = some c → ∀ v, s.heap.IsCell c v → h'.IsCell c v := fun x c e v ⟨o, ho, hd⟩ => by
    have nch : c ∉ ch := fun z => (hch c z).2.2.1 x c e rfl
    by_cases hc : c ∈ X.fs
    · obtain ⟨sl, q⟩ := slot c o (I.cne x c e) hc nch ho (I.freeC x c e)
      exact ⟨_, q, hd⟩
    · exact ⟨o, keep c o (I.cne x c e) hc nch ho (I.freeC x c e), hd⟩
  refine ⟨I.ok, I.os, hg, ⟨fun b o e n hb hx => ?_, fun b o e n hb hx => ?_, fun b o e n hx => ?_, fun b o e hx => ?_, fun b xs e => tups b xs (I.base.tups b xs e), fun b o xs e => frzs b o xs (I.base.frzs b o xs e), fun b ps e => ?_⟩, ?_, fun x c e => ?_, ?_, fun x c e => ?_, fun p hp => ?_, hok, I.len⟩
  · exact keep b o (neL b o e) hb (neC b o e hx) (I.base.keep b o e n hb hx) (I.base.free b o e n hx)
  · obtain ⟨sl, e1⟩ := I.base.slot b o e n hb hx
    obtain ⟨sl', e2⟩ := slot b _ (neL b o e) hb (neC b o e hx) e1 (I.base.free b o e n hx)
    exact ⟨sl', e2⟩
  · obtain ⟨o', e1⟩ := I.base.there b o e hx
    exact free b o' (neC b o e hx) e1 (I.base.free b o e n hx)
  · obtain ⟨o', e1⟩ := I.base.there b o e hx
    exact there b o' (neC b o e hx) e1
  · obtain ⟨m1, e1⟩ := I.base.tbls b ps e
    obtain ⟨m2, e2⟩ := tbls b _ e1
    exact ⟨m1 ++ m2, by rw [e2, Array.append_assoc]⟩
  · obtain ⟨m, hn, hl⟩ := I.loc
    refine ⟨m, ns m hn, fun i x v e1 e2 e3 => ?_⟩
    obtain ⟨u, r, l⟩ := hl i x v e1 e2 e3
    refine ⟨u, r, ?_⟩
    rcases l with l | ⟨k, c, e, z⟩
    · exact .inl l
    · exact .inr ⟨k, c, e, cellK x c e _ z⟩
  · obtain ⟨v, z⟩ := I.cell x c e
    exact ⟨v, cellK x c e v z⟩
  · obtain ⟨m, ⟨o, _, _, ho, _⟩, _⟩ := I.loc
    exact free _ o (fun z => (hch _ z).2.1 rfl) ho I.free
  · obtain ⟨v, o, ho, hd⟩ := I.cell x c e
    exact free c o (fun z => (hch c z).2.2.1 x c e rfl) ho (I.freeC x c e)
  · obtain ⟨e, n, ne, nf, d⟩ := I.pin p hp
    have nch : p.1 ∉ ch := fun z => (hch p.1 z).2.2.2 p hp rfl
    exact ⟨keep p.1 p.2 ne nf nch e n, free p.1 p.2 nch e n, ne, nf, d⟩
theorem Inv.un {t' : Nat} (I : Inv X pins σ H s) (u : Un X.fs [] H H' s.heap h') (hok : HOk X.prog X.w H' h') : Inv X pins σ H' { s with heap := h', toks := t' } := by
  obtain ⟨m, ⟨o, es, ep, ho, r⟩, _⟩ := id I.loc
  obtain ⟨sl, hL⟩ := u.any ho I.free (by simp)
  exact I.step (g' := s.gens) (d' := s.drawn) (ch := []) (fun _ z => nomatch z) (fun b o _ hb _ e n => u.keep b o e n hb (by simp)) (fun b o _ hb _ e n => u.slot b o e n hb (by simp)) (fun b o _ e n => u.free b o e n (by simp)) (fun b o _ e => u.there b o e (by simp)) u.tups u.frzs u.tbls (fun m' hm => by
    obtain ⟨o', es', ep', ho', r'⟩ := hm
    rw [ho] at ho'; cases ho'
    exact ⟨_, es', ep', hL, r'⟩) hok I.bare
theorem Inv.call {g' : Array GenState} {t' : Nat} {d' : Drawn} {ch : List Addr} (I : Inv X pins σ H s) (u : Un (frs X.stack) ch H H' s.heap h') (hok : HOk X.prog X.w H' h') (hg : AllBare g')
    (hch : ∀ b ∈ ch, (b ∈ X.ex ∨ X.s₀.heap.objs.size ≤ b) ∧ b ≠ X.env.locals ∧ (∀ x c, X.env.cells.lookup x = some c → c ≠ b) ∧ ∀ p ∈ X.pn ++ pins, p.1 ≠ b) :
    Inv X pins σ H' { s with heap := h', gens := g', drawn := d', toks := t' } := by
  obtain ⟨m, ⟨o, es, ep, ho, r⟩, _⟩ := id I.loc
  obtain ⟨sl, hL⟩ := u.any ho I.free fun z => (hch _ z).2.1 rfl
  exact I.step (ch := ch) hch (fun b o hL hb hc e n => u.keep b o e n (fun z => (List.mem_cons.mp (I.stkSub b z)).elim hL hb) hc) (fun b o _ _ hc e n => u.any e n hc) (fun b o hc e n => u.free b o e n hc) (fun b o hc e => u.there b o e hc) u.tups u.frzs u.tbls (fun m' hm => by
    obtain ⟨o', es', ep', ho', r'⟩ := hm
    rw [ho] at ho'; cases ho'
    exact ⟨_, es', ep', hL, r'⟩) hok hg
theorem Inv.turned {t' : Nat} {it : Addr} (I : Inv X pins σ H s) (k : ∀ b o, b ≠ it → s.heap.get? b = some o → h'.get? b = some o) (hn : H it = none) (hL : it ≠ X.env.locals)
    (h1 : it ∈ X.ex ∨ X.s₀.heap.objs.size ≤ it) (h2 : ∀ x c, X.env.cells.lookup x = some c → c ≠ it) (h3 : ∀ p ∈ X.pn ++ pins, p.1 ≠ it) : Inv X pins σ H { s with heap := h', toks := t' } := by
  have nit : ∀ b u, H b = some u → b ≠ it := fun b u e z => by rw [z, hn] at e; cases e
  refine I.step (g' := s.gens) (d' := s.drawn) (ch := [it]) (fun b hb => ?_) (fun b o _ _ hc e _ => k b o (fun z => hc (by simp [z])) e) (fun b o _ _ hc e _ => ⟨o.slots, k b o (fun z => hc (by simp [z])) e⟩) (fun _ _ _ _ n => n)
    (fun b o hc e => ⟨o, k b o (fun z => hc (by simp [z])) e⟩) (fun _ _ e => e) (fun _ _ _ e => e) (fun b ps e => ⟨#[], by rw [e]; simp⟩) (fun m hm => ?_) (fun b u e => ?_) I.bare
  · have e : b = it := by simpa using hb
    subst e
    exact ⟨h1, hL, h2, h3⟩
  · obtain ⟨o, es, ep, ho, r⟩ := hm
    exact ⟨o, es, ep, k _ o (Ne.symm hL) ho, r⟩
  · refine (I.hok b u e).stay (fun c v hc q => k c v ?_ q) (fun _ q => q) fun _ _ q => q
    rcases hc with z | z
    · rw [z]; exact nit b u e
    · exact nit c _ z
theorem Inv.tok (I : Inv X pins σ H s) (t : Nat) : Inv X pins σ H { s with toks := t } := I.un (h' := s.heap) (t' := t) Un.refl I.hok
theorem Inv.kept {t' : Nat} (I : Inv X pins σ H s) (k : ∀ b u, s.heap.get? b = some u → h'.get? b = some u) : Inv X pins σ H { s with heap := h', toks := t' } := I.un (Un.kept k) (I.hok.kept k)
theorem Inv.laid {a : Addr} {o : HO} {t' : Nat} (I : Inv X pins σ H s) (k : ∀ b u, s.heap.get? b = some u → h'.get? b = some u) (hp : s.heap.objs.size ≤ a) (new : ObjOk X.prog X.w (upd H a o) h' a o) :
    Inv X pins σ (upd H a o) { s with heap := h', toks := t' } := I.un (Un.laid k hp (I.hok.fresh hp)) (I.hok.laid k hp new)
theorem Inv.write {x e : Addr} {o : HO} {t' : Nat} (I : Inv X pins σ H s) (mu : Mut (H x)) (he : e = x ∨ H e = some (.own x)) (k : ∀ b u, b ≠ e → s.heap.get? b = some u → h'.get? b = some u) (heo : ∃ u, h'.get? e = some u)
    (new : ObjOk X.prog X.w (upd H x o) h' x o) : Inv X pins σ (upd H x o) { s with heap := h', toks := t' } := I.un (Un.write mu he k heo) (I.hok.write mu he k heo new)
theorem Inv.pins_of {pins' : List (Addr × Obj)} (I : Inv X pins σ H s) (h : ∀ p ∈ pins', s.heap.get? p.1 = some p.2 ∧ H p.1 = none ∧ p.1 ≠ X.env.locals ∧ p.1 ∉ X.fs ∧ ∀ v, p.2.data ≠ .cell v) : Inv X pins' σ H s :=
  ⟨I.ok, I.os, I.bare, I.base, I.loc, I.cell, I.free, I.freeC, fun p hp => (List.mem_append.mp hp).elim (fun z => I.pin p (List.mem_append_left _ z)) (h p), I.hok, I.len⟩
theorem nodup_ix {N : List Str} (hN : N.Nodup) {i j : Nat} {x : Str} (a : N[i]? = some x) (b : N[j]? = some x) : i = j := by
  obtain ⟨h1, e1⟩ := List.getElem?_eq_some_iff.mp a
  obtain ⟨h2, e2⟩ := List.getElem?_eq_some_iff.mp b
  exact (List.getElem_inj hN).mp (e1.trans e2.symm)
theorem store_ok2 {M : Model} {A : Around} {E : Value → Shared → Prop} {i : Nat} {x : Str} {v : V} {u : Value} {Q : Unit → Shared → Prop} (I : Inv X pins σ H s) (hN : X.N.Nodup) (hi : X.N[i]? = some x) (hx : Loc X.env.scope x) (r : RelV v u)
    (h : ∀ s', Inv X pins (σ.set i (some v)) H s' → (∃ a, Heap.SameBut a s.heap s'.heap ∧ (a = X.env.locals ∨ X.env.cells.lookup x = some a)) → Q () s') (hf : X.fn x = true ∨ X.env.scope.names.lookup x = some .local := by first | exact .inl rfl | exact .inr rfl | assumption) : wpAny M A (storeName X.env x u) Q E s := by
  obtain ⟨m, hn, hl⟩ := id I.loc
  have hcls : (X.env.scope.kind == .class || (X.env.scope.kind == .module && X.env.locals != X.env.globals)) = false := by rw [I.ok.kind]; rfl
  have hiσ : i < σ.length := by rw [I.len]; exact (List.getElem?_eq_some_iff.mp hi).1
  have cne := I.cne
  have tracked : ∀ {a : Addr} {h' : Heap}, (∃ o, s.heap.get? a = some o ∧ H a = none) → Heap.SameBut a s.heap h' → HOk X.prog X.w H h' := fun {a h'} ha hs b ob e => by
    obtain ⟨_, _, hfree⟩ := ha
    refine (I.hok b ob e).stay (fun c w' hc q => (hs.2 c ?_).trans q) (fun _ q => q) fun _ _ q => q
    rintro rfl
    rcases hc with rfl | hc
    · rw [hfree] at e; cases e
    · rw [hfree] at hc; cases hc
  rcases hx with hk | hk
  · refine wpAny_storeName_local hk hn (fun h' hn' hs => ?_) hcls
    obtain ⟨oL, _, _, hoL, _⟩ := id hn
    refine h _ ⟨I.ok, I.os, I.bare, ⟨fun b o e n hb hx => ?_, fun b o e n hb hx => ?_, I.base.free, fun b o e hx => ?_, I.base.tups, I.base.frzs, I.base.tbls⟩, ⟨_, hn', fun j y v' e1 e2 e3 => ?_⟩, fun y c e => ?_, I.free, I.freeC, fun p hp => ?_, tracked ⟨oL, hoL, I.free⟩ hs, by simpa using I.len⟩ ⟨_, hs, .inl rfl⟩
    · exact (hs.2 b (Nat.ne_of_lt (Nat.lt_of_lt_of_le (Heap.lt_size e) I.ok.above))).trans (I.base.keep b o e n hb hx)
    · obtain ⟨sl, e1⟩ := I.base.slot b o e n hb hx
      exact ⟨sl, (hs.2 b (Nat.ne_of_lt (Nat.lt_of_lt_of_le (Heap.lt_size e) I.ok.above))).trans e1⟩
    · obtain ⟨o', e1⟩ := I.base.there b o e hx
      exact ⟨o', (hs.2 b (Nat.ne_of_lt (Nat.lt_of_lt_of_le (Heap.lt_size e) I.ok.above))).trans e1⟩
    · by_cases hj : j = i
      · subst hj
        rw [hi] at e1; cases e1
        rw [List.getElem?_set_self hiσ] at e2
        cases e2
        exact ⟨u, r, .inl ⟨hk, by simp⟩⟩
      · rw [List.getElem?_set_ne (Ne.symm hj)] at e2
        obtain ⟨u', r', q⟩ := hl j y v' e1 e2 e3
        refine ⟨u', r', ?_⟩
        rcases q with ⟨k, e⟩ | ⟨k, c, e, z⟩
        · refine .inl ⟨k, ?_⟩
          have : y ≠ x := fun e => hj (nodup_ix hN e1 (e ▸ hi))
          simp [this, e]
        · exact .inr ⟨k, c, e, z.sameBut hs (cne y c e)⟩
    · obtain ⟨w', z⟩ := I.cell y c e
      exact ⟨w', z.sameBut hs (cne y c e)⟩
    · obtain ⟨e, n, ne, nf, d⟩ := I.pin p hp
      exact ⟨(hs.2 p.1 ne).trans e, n, ne, nf, d⟩
  · have hfn : X.fn x = true := by
      rcases hf with z | z
      · exact z
      · rw [z] at hk; cases hk
    obtain ⟨c, hc⟩ := I.ok.has x (.inl hk)
    obtain ⟨w', z⟩ := I.cell x c hc
    refine wpAny_storeName_cell I.ok.kind hk hc z (fun h' hc' hs => ?_)
    obtain ⟨oc, hoc, hocd⟩ := id z
    refine h { s with heap := h' } ⟨I.ok, I.os, I.bare, ⟨fun b o e n hb hx => ?_, fun b o e n hb hx => ?_, I.base.free, fun b o e hx => ?_, I.base.tups, I.base.frzs, I.base.tbls⟩, ⟨m, hn.sameBut hs (Ne.symm (cne x c hc)), fun j y v' e1 e2 e3 => ?_⟩, fun y c' e => ?_, I.free, I.freeC, fun p hp => ?_, tracked ⟨oc, hoc, I.freeC x c hc⟩ hs, by simpa using I.len⟩ ⟨c, hs, .inr hc⟩
    · exact (hs.2 b (Nat.ne_of_lt (Nat.lt_of_lt_of_le (Heap.lt_size e) (I.ok.cab x c hfn hc)))).trans (I.base.keep b o e n hb hx)
    · obtain ⟨sl, e1⟩ := I.base.slot b o e n hb hx
      exact ⟨sl, (hs.2 b (Nat.ne_of_lt (Nat.lt_of_lt_of_le (Heap.lt_size e) (I.ok.cab x c hfn hc)))).trans e1⟩
    · obtain ⟨o', e1⟩ := I.base.there b o e hx
      exact ⟨o', (hs.2 b (Nat.ne_of_lt (Nat.lt_of_lt_of_le (Heap.lt_size e) (I.ok.cab x c hfn hc)))).trans e1⟩
    · by_cases hj : j = i
      · subst hj
        rw [hi] at e1; cases e1
        rw [List.getElem?_set_self hiσ] at e2
        cases e2
        exact ⟨u, r, .inr ⟨.inl hk, c, hc, hc'⟩⟩
      · rw [List.getElem?_set_ne (Ne.symm hj)] at e2
        obtain ⟨u', r', q⟩ := hl j y v' e1 e2 e3
        refine ⟨u', r', ?_⟩
        rcases q with q | ⟨k, c', e, z'⟩
        · exact .inl q
        · refine .inr ⟨k, c', e, z'.sameBut hs ?_⟩
          rintro rfl
          exact hj (nodup_ix hN e1 (I.ok.inj _ _ _ e hc ▸ hi))
    · by_cases hcc : c' = c
      · subst hcc; exact ⟨_, hc'⟩
      · obtain ⟨w2, z2⟩ := I.cell y c' e
        exact ⟨w2, z2.sameBut hs hcc⟩
    · obtain ⟨e, n, ne, nf, d⟩ := I.pin p hp
      refine ⟨(hs.2 p.1 ?_).trans e, n, ne, nf, d⟩
      intro q
      rw [q, hoc] at e
      have q' : oc = p.2 := Option.some.inj e
      exact d w' (by rw [← q']; exact hocd)
theorem store_ok {M : Model} {A : Around} {E : Value → Shared → Prop} {i : Nat} {x : Str} {v : V} {u : Value} {Q : Unit → Shared → Prop} (I : Inv X pins σ H s) (hN : X.N.Nodup) (hi : X.N[i]? = some x) (hx : Loc X.env.scope x) (r : RelV v u)
    (h : ∀ s', Inv X pins (σ.set i (some v)) H s' → Q () s') (hf : X.fn x = true ∨ X.env.scope.names.lookup x = some .local := by first | exact .inl rfl | exact .inr rfl | assumption) : wpAny M A (storeName X.env x u) Q E s :=
  store_ok2 I hN hi hx r (fun s' I' _ => h s' I') hf
theorem Inv.call' {s' : Shared} {ch : List Addr} (I : Inv X pins σ H s) (ho : s'.os = s.os) (u : Un (frs X.stack) ch H H' s.heap s'.heap) (hok : HOk X.prog X.w H' s'.heap) (hg : AllBare s'.gens)
    (hch : ∀ b ∈ ch, (b ∈ X.ex ∨ X.s₀.heap.objs.size ≤ b) ∧ b ≠ X.env.locals ∧ (∀ x c, X.env.cells.lookup x = some c → c ≠ b) ∧ ∀ p ∈ X.pn ++ pins, p.1 ≠ b) : Inv X pins σ H' s' := by
  obtain ⟨h', g', d', t', o'⟩ := s'
  have e : o' = s.os := ho
  subst e
  exact I.call (g' := g') (t' := t') (d' := d') u hok hg hch
end
noncomputable abbrev XK := Value → Option Addr → Hp → Prop
noncomputable abbrev St := List (Option V)
noncomputable abbrev VK := V → Hp → Prop
noncomputable abbrev TE := St → Hp → VK → Prop
noncomputable abbrev TT := St → Hp → (Bool → Hp → Prop) → Prop
noncomputable abbrev TA := St → Hp → (List V → Hp → Prop) → Prop
structure Ends where
  nx : St → Hp → Prop
  rt : VK
  bk : St → Hp → Prop := fun _ _ => False
  ct : St → Hp → Prop := fun _ _ => False
noncomputable abbrev TS := Ends → St → Hp → Prop
noncomputable def EP (X : Cx) (pins : List (Addr × Obj)) (σ : St) (Q : VK) (u : Value) (s' : Shared) : Prop := ∃ v H', Inv X pins σ H' s' ∧ RelV v u ∧ Q v H'
noncomputable def TP (X : Cx) (pins : List (Addr × Obj)) (σ : St) (Q : Bool → Hp → Prop) (b : Bool) (s' : Shared) : Prop := ∃ H', Inv X pins σ H' s' ∧ Q b H'
noncomputable def AP (X : Cx) (pins : List (Addr × Obj)) (σ : St) (Q : List V → Hp → Prop) (us : List Value) (s' : Shared) : Prop := ∃ vs H', Inv X pins σ H' s' ∧ Vals vs us ∧ Q vs H'
noncomputable def SP (X : Cx) (pins : List (Addr × Obj)) (D : Ends) (f : Flow) (s' : Shared) : Prop :=
  match f with
  | .next => ∃ σ' H', Inv X pins σ' H' s' ∧ D.nx σ' H'
  | .brk => ∃ σ' H', Inv X pins σ' H' s' ∧ D.bk σ' H'
  | .cont => ∃ σ' H', Inv X pins σ' H' s' ∧ D.ct σ' H'
  | .ret u => ∃ v σ' H', Inv X pins σ' H' s' ∧ RelV v u ∧ D.rt v H'
noncomputable def PE (X : Cx) (e : Expr) (t : TE) : Prop :=
  ∀ (pins : List (Addr × Obj)) (s : Shared) (σ : St) (H : Hp) (Q : VK), Inv X pins σ H s → t σ H Q → wpAny (model X.prog X.w) X.A (eval e X.env) (EP X pins σ Q) X.xe s
noncomputable def PT (X : Cx) (e : Expr) (t : TT) : Prop :=
  ∀ (pins : List (Addr × Obj)) (s : Shared) (σ : St) (H : Hp) (Q : Bool → Hp → Prop), Inv X pins σ H s → t σ H Q → wpAny (model X.prog X.w) X.A (isTrue e X.env (eval e X.env)) (TP X pins σ Q) X.xe s
noncomputable def PW (X : Cx) (e : Expr) (t : TT) : Prop :=
  ∀ (whole : Sem Value) (pins : List (Addr × Obj)) (s : Shared) (σ : St) (H : Hp) (Q : Bool → Hp → Prop), Inv X pins σ H s → t σ H Q → wpAny (model X.prog X.w) X.A (isTrue e X.env whole) (TP X pins σ Q) X.xe s
theorem PW.pt {X : Cx} {e : Expr} {t : TT} (h : PW X e t) : PT X e t := h _
noncomputable def PA (X : Cx) (es : List Expr) (t : TA) : Prop :=
  ∀ (pos : Pos) (pins : List (Addr × Obj)) (s : Shared) (σ : St) (H : Hp) (Q : List V → Hp → Prop), Inv X pins σ H s → t σ H Q → wpAny (model X.prog X.w) X.A (spliced (backTo pos (starEach es X.env))) (AP X pins σ Q) X.xe s
noncomputable def PS (X : Cx) (st : Stmt) (t : TS) : Prop :=
  ∀ (pins : List (Addr × Obj)) (s : Shared) (σ : St) (H : Hp) (D : Ends), Inv X pins σ H s → t D σ H → wpAny (model X.prog X.w) X.A (exec st X.env) (SP X pins D) X.xe s
noncomputable def PSs (X : Cx) (st : List Stmt) (t : TS) : Prop :=
  ∀ (pins : List (Addr × Obj)) (s : Shared) (σ : St) (H : Hp) (D : Ends), Inv X pins σ H s → t D σ H → wpAny (model X.prog X.w) X.A (execs st X.env) (SP X pins D) X.xe s
theorem thn {α : Type} {t : Sem α} {Q Q' : α → Shared → Prop} {M : Model} {A : Around} {E : Value → Shared → Prop} {s : Shared} (h : wpAny M A t Q E s) (hQ : ∀ a s, Q a s → Q' a s) : wpAny M A t Q' E s := wpAny_mono h hQ fun _ _ x => x
end L2
namespace L2
open PySem PySem.Spec PyProof.Rows
section
variable {X : Cx}
theorem bin {a b : Expr} {ta tb : TE} (ha : PE X a ta) (hb : PE X b tb) {pins : List (Addr × Obj)} {s : Shared} {σ : St} {H : Hp} {R : V → V → Hp → Prop} (I : Inv X pins σ H s) (h : ta σ H fun x H1 => tb σ H1 fun y H2 => R x y H2)
    {α : Type} {Q : α → Shared → Prop} {f : Value → Value → Sem α}
    (hf : ∀ v u s2 x y H2, Inv X pins σ H2 s2 → RelV x v → RelV y u → R x y H2 → wpAny (model X.prog X.w) X.A (f v u) Q X.xe s2) :
    wpAny (model X.prog X.w) X.A (eval a X.env) (fun v s₁ => wpAny (model X.prog X.w) X.A (eval b X.env) (fun u s₂ => wpAny (model X.prog X.w) X.A (f v u) Q X.xe s₂) X.xe s₁) X.xe s := by
  refine thn (ha pins s σ H _ I h) fun v s1 ⟨x, H1, I1, r1, q1⟩ => ?_
  refine thn (hb pins s1 σ H1 _ I1 q1) fun u s2 ⟨y, H2, I2, r2, q2⟩ => ?_
  exact hf v u s2 x y H2 I2 r1 r2 q2
noncomputable def tVar (i : Nat) : TE := fun σ H Q => ∃ v, σ[i]? = some (some v) ∧ Q v H
noncomputable def tC (v : V) : TE := fun _ H Q => Q v H
theorem pe_var {i : Nat} {x : Str} {pos : Pos} (hN : X.N[i]? = some x) (hv : Vis X.env.scope x) (hd : (x == ("__debug__" : Str)) = false := by decide) (hcd : (x == ("__classdict__" : Str)) = false := by decide) : PE X (.Name x pos) (tVar i) := by
  intro pins s σ H Q I h
  obtain ⟨v, e, h⟩ := h
  obtain ⟨m, hn, hl⟩ := I.loc
  obtain ⟨u, r, l⟩ := hl i x v hN e hv
  have fin : EP X pins σ Q u s := ⟨v, H, I, r, h⟩
  rcases l with ⟨hk, hm⟩ | ⟨hk, c, hc, hcell⟩
  · exact wpAny_Name (wpAny_loadName_local I.ok.kind hk hn hm fin) hd
  · rcases hk with hk | hk
    · exact wpAny_Name (wpAny_loadName_cell I.ok.kind hk hc hcell fin) hd
    · exact wpAny_Name (wpAny_loadName_free I.ok.kind hk hc hcell fin hcd) hd
theorem pe_int {i j pos} : PE X (.Constant (.int i) j pos) (tC (.int i)) := fun _ _ _ H _ I h => wpAny_Constant_int ⟨.int i, H, I.tok _, ⟨_, rfl⟩, h⟩
theorem pe_bl {b j pos} : PE X (.Constant (.bool b) j pos) (tC (.bl b)) := fun _ _ _ H _ I h => Constant_bool ⟨.bl b, H, I, rfl, h⟩
theorem pe_non {j pos} : PE X (.Constant .none j pos) (tC .non) := fun _ _ _ H _ I h => Constant_none ⟨.non, H, I, rfl, h⟩
theorem pe_str {x j pos} : PE X (.Constant (.str x) j pos) (tC (.str x)) := fun _ _ _ H _ I h => Calls.Constant_str ⟨.str x, H, I.tok _, ⟨_, rfl⟩, h⟩
noncomputable def Gl (X : Cx) (x : Str) : Prop := X.env.kindOf x = some .globalImplicit
theorem ld_glob {E : Value → Shared → Prop} {pins : List (Addr × Obj)} {s : Shared} {σ : St} {H : Hp} {x : Str} {u : Value} {pos : Pos} {Q : Value → Shared → Prop} (I : Inv X pins σ H s) (hg : Gl X x) (hm : X.mg x = some u) (h : Q u s)
    (hd : (x == ("__debug__" : Str)) = false := by decide) : wpAny (model X.prog X.w) X.A (eval (.Name x pos) X.env) Q E s :=
  Calls.Name_function_global I.ok.kind hg (Calls.loadGlobal_global (by rw [I.ok.glob]; exact I.mod.glob.keeps I.bk) hm h) hd
theorem ld_blt {E : Value → Shared → Prop} {pins : List (Addr × Obj)} {s : Shared} {σ : St} {H : Hp} {x : Str} {u : Value} {pos : Pos} {Q : Value → Shared → Prop} (I : Inv X pins σ H s) (hg : Gl X x) (hm : X.mg x = none) (hv : bootBuiltins x = some u) (h : Q u s)
    (hn : x ≠ "__name__" := by decide) (hd : (x == ("__debug__" : Str)) = false := by decide) : wpAny (model X.prog X.w) X.A (eval (.Name x pos) X.env) Q E s := by
  obtain ⟨mb, h1, h2⟩ := I.mod.blt
  exact Calls.Name_function_global I.ok.kind hg (Calls.loadGlobal_builtin (by rw [I.ok.glob]; exact I.mod.glob.keeps I.bk) hm (by rw [I.ok.blt]; exact h1.keeps I.bk) ((h2 x hn).trans hv) h) hd
theorem pe_glob {x : Str} {v : V} {u : Value} {pos : Pos} (hg : Gl X x) (hm : X.mg x = some u) (r : RelV v u) (hd : (x == ("__debug__" : Str)) = false := by decide) : PE X (.Name x pos) (tC v) :=
  fun _ _ _ H _ I h => ld_glob I hg hm ⟨v, H, I, r, h⟩ hd
theorem pe_bltn {x : Str} {v : V} {u : Value} {pos : Pos} (hg : Gl X x) (hm : X.mg x = none) (hv : bootBuiltins x = some u) (r : RelV v u) (hn : x ≠ "__name__" := by decide) (hd : (x == ("__debug__" : Str)) = false := by decide) : PE X (.Name x pos) (tC v) :=
  fun _ _ _ H _ I h => ld_blt I hg hm hv ⟨v, H, I, r, h⟩ hn hd
variable {a b : Expr} {ta tb : TE} {pos : Pos}
variable {tA tB' : TT} {rest : List Expr}
noncomputable def tOr (t u : TT) : TT := fun σ H Q => t σ H fun c H1 => if c = true then Q true H1 else u σ H1 Q
noncomputable def tNot (t : TT) : TT := fun σ H Q => t σ H fun c H1 => Q (!c) H1
theorem pw_or1 (ha : PT X a tA) : PW X (.BoolOp .Or [a] pos) tA := by
  intro wh pins s σ H Q I h
  refine isTrue_or (thn (ha pins s σ H Q I h) fun c s1 e => ?_)
  cases c with
  | false => exact isTrue_or_nil e
  | true => exact e
theorem pw_or (ha : PT X a tA) (hb : PW X (.BoolOp .Or (b :: rest) pos) tB') : PW X (.BoolOp .Or (a :: b :: rest) pos) (tOr tA tB') := by
  intro wh pins s σ H Q I h
  refine isTrue_or (thn (ha pins s σ H _ I h) fun c s1 ⟨H1, I1, q1⟩ => ?_)
  cases c with
  | true => exact ⟨H1, I1, q1⟩
  | false => exact hb wh pins s1 σ H1 Q I1 q1
theorem pt_not (ha : PT X a tA) : PT X (.UnaryOp .Not a pos) (tNot tA) := by
  intro pins s σ H Q I h
  exact isTrue_not (ha pins s σ H (fun c H1 => Q (!c) H1) I h)
noncomputable def tAndV (ta tb : TE) : TE := fun σ H Q => ta σ H fun x H1 => ∃ c, x = .bl c ∧ if c = true then tb σ H1 Q else Q (.bl false) H1
theorem pe_one {op} {t : TE} (h : PE X a t) : PE X (.BoolOp op [a] pos) t := fun pins s σ H Q I hw => BoolOp_one (h pins s σ H Q I hw)
theorem pe_and (ha : PE X a ta) (hb : PE X (.BoolOp .And (b :: rest) pos) tb) : PE X (.BoolOp .And (a :: b :: rest) pos) (tAndV ta tb) := by
  intro pins s σ H Q I h
  refine BoolOp_and (thn (ha pins s σ H _ I h) fun v s1 ⟨x, H1, I1, r1, q1⟩ => ?_)
  obtain ⟨c, rfl, q1⟩ := q1
  cases r1
  refine wpAny_truthy_bool ?_
  cases c with
  | true => exact hb pins s1 σ H1 Q I1 q1
  | false => exact ⟨.bl false, H1, I1, rfl, q1⟩
end
end L2
namespace L2
open PySem PySem.Spec PyProof.Rows
noncomputable def SqL (K : PySem.W.Frag) (H : Hp) (a : Addr) (xs : List V) : Prop :=
  Rd H a (.lst xs) ∨
    ∃ (o : Obj) (its : Array Value) (n : Nat), K.lookup a = some o ∧ o.cls = .type "list" ∧ o.dict = none ∧ o.data = .seq its n ∧ its.size ≤ sizeLine ∧ Vals xs its.toList
noncomputable def SqT (K : PySem.W.Frag) (H : Hp) (a : Addr) (xs : List V) : Prop :=
  Rd H a (.tup xs) ∨
    ∃ (o : Obj) (its : Array Value) (n : Nat), K.lookup a = some o ∧ o.cls = .type "tuple" ∧ o.data = .seq its n ∧ its.size ≤ sizeLine ∧ Vals xs its.toList ∧ o.dict = none
noncomputable def absV : Value → Option V
  | .none => some .non
  | .bool b => some (.bl b)
  | .int i _ => some (.int i)
  | .str x _ => some (.str x)
  | .bytes b _ => some (.byt b)
  | .float b _ => some (.flt b)
  | .ref a => some (.ref a)
  | .type n => some (.ty n)
  | _ => none
theorem RelV.abs {x : V} {u : Value} (r : RelV x u) : absV u = some x := by
  cases x with
  | non => cases r; rfl
  | bl _ => cases r; rfl
  | int _ => obtain ⟨t, rfl⟩ := r; rfl
  | str _ => obtain ⟨t, rfl⟩ := r; rfl
  | byt _ => obtain ⟨t, rfl⟩ := r; rfl
  | flt _ => obtain ⟨t, rfl⟩ := r; rfl
  | ref _ => cases r; rfl
  | ty _ => cases r; rfl
theorem RelV.inj {x y : V} {u : Value} (r : RelV x u) (q : RelV y u) : x = y := Option.some.inj (r.abs.symm.trans q.abs)
theorem Vals.inj : ∀ {xs ys : List V} {us : List Value}, Vals xs us → Vals ys us → xs = ys
  | _, _, _, .nil, .nil => rfl
  | _, _, _, .cons r t, .cons r' t' => by rw [r.inj r', Vals.inj t t']
section
variable {X : Cx} {pins : List (Addr × Obj)} {σ : St} {H : Hp} {s : Shared} {a : Addr} {xs ys : List V}
theorem SqL.of {K : PySem.W.Frag} (h : H a = some (.lst xs)) : SqL K H a xs := .inl (.inl h)
theorem SqT.of {K : PySem.W.Frag} (h : H a = some (.tup xs)) : SqT K H a xs := .inl (.inl h)
theorem Inv.list (I : Inv X pins σ H s) (h : SqL X.K H a xs) : ∃ its : List Value, Vals xs its ∧ PlainL s.heap a its.toArray ∧ xs.length ≤ sizeLine := by
  rcases h with h | ⟨o, its, n, hk, hc, hd, hs, hz, r⟩
  · obtain ⟨z, its, n, r, e⟩ := h.ok I.hok
    exact ⟨its, r, ⟨_, n, e, rfl, rfl, rfl⟩, z⟩
  · refine ⟨its.toList, r, ⟨o, n, I.kIn a o hk, hc, hd, by simpa using hs⟩, ?_⟩
    have e := r.length
    simp only [Array.length_toList] at e
    omega
theorem Inv.tuple (I : Inv X pins σ H s) (h : SqT X.K H a xs) : ∃ its : List Value, Vals xs its ∧ IsTup s.heap a its.toArray ∧ xs.length ≤ sizeLine := by
  rcases h with h | ⟨o, its, n, hk, hc, hs, hz, r, hdn⟩
  · obtain ⟨z, its, r, p⟩ := h.ok I.hok
    exact ⟨its, r, p.is, z⟩
  · refine ⟨its.toList, r, ⟨o, I.kIn a o hk, hc, n, by simpa using hs⟩, ?_⟩
    have e := r.length
    simp only [Array.length_toList] at e
    omega
theorem Inv.list_inj (I : Inv X pins σ H s) (h : SqL X.K H a xs) (h' : SqL X.K H a ys) : xs = ys := by
  obtain ⟨its, r, ⟨o, n, e, _, _, d⟩, _⟩ := I.list h
  obtain ⟨its', r', ⟨o', n', e', _, _, d'⟩, _⟩ := I.list h'
  rw [e] at e'; cases e'
  rw [d] at d'
  injection d' with d1 _
  have : its = its' := by simpa using congrArg Array.toList d1
  subst this
  exact r.inj r'
theorem Inv.tuple_inj (I : Inv X pins σ H s) (h : SqT X.K H a xs) (h' : SqT X.K H a ys) : xs = ys := by
  obtain ⟨its, r, ⟨o, e, _, n, d⟩, _⟩ := I.tuple h
  obtain ⟨its', r', ⟨o', e', _, n', d'⟩, _⟩ := I.tuple h'
  rw [e] at e'; cases e'
  rw [d] at d'
  injection d' with d1 _
  have : its = its' := by simpa using congrArg Array.toList d1
  subst this
  exact r.inj r'
end
noncomputable abbrev Cx.wish (X : Cx) (E : Value → Shared → Prop) : Cx := { X with xe := E }
noncomputable abbrev Cx.nox (X : Cx) : Cx := X.wish fun _ _ => False
theorem Cx.Ok.wish {X : Cx} (ok : X.Ok) (E : Value → Shared → Prop) : (X.wish E).Ok :=
  ⟨ok.mod, ok.kind, ok.glob, ok.blt, ok.above, ok.inj, ok.has, ok.cab, ok.hd, ok.frames, ok.stk, ok.exf, ok.bs, ok.bsz, ok.noex, ok.exfs, ok.funs, ok.frf⟩
theorem Cx.Ok.unwish {X : Cx} {E : Value → Shared → Prop} (ok : (X.wish E).Ok) : X.Ok :=
  ⟨ok.mod, ok.kind, ok.glob, ok.blt, ok.above, ok.inj, ok.has, ok.cab, ok.hd, ok.frames, ok.stk, ok.exf, ok.bs, ok.bsz, ok.noex, ok.exfs, ok.funs, ok.frf⟩
section
variable {X : Cx} {pins : List (Addr × Obj)} {σ : St} {H : Hp} {s : Shared} {E : Value → Shared → Prop}
theorem Inv.wish (I : Inv X pins σ H s) (E : Value → Shared → Prop) : Inv (X.wish E) pins σ H s := ⟨I.ok.wish E, I.os, I.bare, I.base, I.loc, I.cell, I.free, I.freeC, I.pin, I.hok, I.len⟩
theorem Inv.unwish (I : Inv (X.wish E) pins σ H s) : Inv X pins σ H s := ⟨I.ok.unwish, I.os, I.bare, I.base, I.loc, I.cell, I.free, I.freeC, I.pin, I.hok, I.len⟩
theorem SP.unwish {D : Ends} {f : Flow} {s' : Shared} (h : SP (X.wish E) pins D f s') : SP X pins D f s' := by
  cases f with
  | next => obtain ⟨σ', H', I, q⟩ := h; exact ⟨σ', H', I.unwish, q⟩
  | brk => obtain ⟨σ', H', I, q⟩ := h; exact ⟨σ', H', I.unwish, q⟩
  | cont => obtain ⟨σ', H', I, q⟩ := h; exact ⟨σ', H', I.unwish, q⟩
  | ret u => obtain ⟨v, σ', H', I, r, q⟩ := h; exact ⟨v, σ', H', I.unwish, r, q⟩
theorem PE.nox {e : Expr} {t : TE} (h : PE X.nox e t) : PE X e t := fun pins s σ H Q I hw =>
  wpAny_mono (h pins s σ H Q (I.wish _) hw) (fun _ _ ⟨v, H', I', r, q⟩ => ⟨v, H', I'.unwish, r, q⟩) fun _ _ z => False.elim z
theorem PT.nox {e : Expr} {t : TT} (h : PT X.nox e t) : PT X e t := fun pins s σ H Q I hw =>
  wpAny_mono (h pins s σ H Q (I.wish _) hw) (fun _ _ ⟨H', I', q⟩ => ⟨H', I'.unwish, q⟩) fun _ _ z => False.elim z
theorem PSs.nox {st : List Stmt} {t : TS} (h : PSs X.nox st t) : PSs X st t := fun pins s σ H D I hw =>
  wpAny_mono (h pins s σ H D (I.wish _) hw) (fun _ _ q => q.unwish) fun _ _ z => False.elim z
end
section
variable {X : Cx} {st : Stmt} {rest : List Stmt} {t u : TS} {e : Expr} {te : TE} {pos : Pos}
noncomputable def tNext : TS := fun D σ H => D.nx σ H
noncomputable def tSeq (t u : TS) : TS := fun D σ H => t { D with nx := u D } σ H
theorem pss_nil : PSs X [] tNext := fun _ _ σ H _ I h => wpAny_execs_nil ⟨σ, H, I, h⟩
theorem pss_cons (h1 : PS X st t) (h2 : PSs X rest u) : PSs X (st :: rest) (tSeq t u) := by
  intro pins s σ H D I h
  refine wpAny_execs_cons (thn (h1 pins s σ H { D with nx := u D } I h) fun f s1 q => ?_)
  cases f with
  | next =>
    obtain ⟨σ', H', I', q⟩ := q
    exact h2 pins s1 σ' H' D I' q
  | ret v => exact q
  | brk => exact q
  | cont => exact q
theorem Inv.quiet {pins : List (Addr × Obj)} {σ : St} {H : Hp} {s : Shared} (I : Inv X pins σ H s) : interactive X.env = false := by simp [interactive, I.ok.kind]
noncomputable def tDrop (te : TE) : TS := fun D σ H => te σ H fun _ H1 => D.nx σ H1
theorem ps_expr (he : PE X e te) (hs : swapsWith e none pos.line X.env = pure false := by rfl) : PS X (.Expr e pos) (tDrop te) := by
  intro pins s σ H D I h
  exact wpAny_Expr_any (thn (he pins s σ H _ I h) fun v s1 ⟨x, H1, I1, r1, q1⟩ => ⟨σ, H1, I1, q1⟩) I.quiet hs
noncomputable def tRet (te : TE) : TS := fun D σ H => te σ H D.rt
theorem ps_ret (he : PE X e te) : PS X (.Return (some e) pos) (tRet te) := by
  intro pins s σ H D I h
  exact wpAny_Return_some (thn (he pins s σ H _ I h) fun v s1 ⟨x, H1, I1, r1, q1⟩ => ⟨x, σ, H1, I1, r1, q1⟩)
noncomputable def tIfS (c : TT) (t u : TS) : TS := fun D σ H => c σ H fun b H1 => if b = true then t D σ H1 else u D σ H1
theorem ps_if {c : Expr} {a b : List Stmt} {tc : TT} (hc : PT X c tc) (ha : PSs X a t) (hb : PSs X b u) : PS X (.If c a b pos) (tIfS tc t u) := by
  intro pins s σ H D I h
  refine wpAny_If (thn (hc pins s σ H _ I h) fun d s1 ⟨H1, I1, q1⟩ => ?_)
  cases d with
  | true => exact ha pins s1 σ H1 D I1 q1
  | false => exact hb pins s1 σ H1 D I1 q1
noncomputable def tNever : TS := fun _ _ _ => False
theorem pss_never {sts : List Stmt} : PSs X sts tNever := fun _ _ _ _ _ _ h => h.elim
end
noncomputable abbrev TG := V → St → Hp → (St → Hp → Prop) → Prop
noncomputable def PG (X : Cx) (target : Expr) (t : TG) : Prop :=
  ∀ (pins : List (Addr × Obj)) (s : Shared) (σ : St) (H : Hp) (v : V) (u : Value) (Q : St → Hp → Prop), Inv X pins σ H s → RelV v u → t v σ H Q →
    wpAny (model X.prog X.w) X.A (assign target X.env u) (fun _ s' => ∃ σ' H', Inv X pins σ' H' s' ∧ Q σ' H') X.xe s
noncomputable abbrev TSet := V → V → V → Hp → (Hp → Prop) → Prop
noncomputable def PSet (X : Cx) (t : TSet) : Prop :=
  ∀ (pins : List (Addr × Obj)) (s : Shared) (σ : St) (H : Hp) (o i v : V) (ov iv u : Value) (Q : Hp → Prop), Inv X pins σ H s → RelV o ov → RelV i iv → RelV v u → t o i v H Q →
    wpAny (model X.prog X.w) X.A (setItem ov iv u) (fun _ s' => ∃ H', Inv X pins σ H' s' ∧ Q H') X.xe s
section
variable {X : Cx} {pos : Pos}
noncomputable def gName (i : Nat) : TG := fun v σ H Q => Q (σ.set i (some v)) H
theorem pg_name {i : Nat} {x : Str} (hN : X.N.Nodup) (hi : X.N[i]? = some x) (hx : Loc X.env.scope x) (hf : X.fn x = true ∨ X.env.scope.names.lookup x = some .local := by first | exact .inl rfl | exact .inr rfl | assumption) : PG X (.Name x pos) (gName i) := by
  intro pins s σ H v u Q I r h
  exact wpAny_assign_Name (store_ok I hN hi hx r (fun s' I' => ⟨_, H, I', h⟩) hf)
noncomputable def gSub (to ti : TE) (t : TSet) : TG := fun v σ H Q => to σ H fun o H1 => ti σ H1 fun i H2 => t o i v H2 fun H3 => Q σ H3
theorem pg_sub {o i : Expr} {to ti : TE} {t : TSet} (ho : PE X o to) (hi : PE X i ti) (hs : PSet X t)
    (ha : ∀ v, assign (.Subscript o i pos) X.env v = (do
      let ov ← holding [v] (eval o X.env)
      let iv ← holding [v, ov] (eval i X.env)
      standAt pos
      holding [v, ov, iv] (setItem ov iv v)
      release [v, ov, iv] []) := by intro _; rfl) : PG X (.Subscript o i pos) (gSub to ti t) := by
  intro pins s σ H v u Q I r h
  rw [ha]
  refine wpAny_bind (wpAny_holding (thn (ho pins s σ H _ I h) fun ov s1 ⟨x, H1, I1, r1, q1⟩ => ?_))
  refine wpAny_bind (wpAny_holding (thn (hi pins s1 σ H1 _ I1 q1) fun iv s2 ⟨y, H2, I2, r2, q2⟩ => ?_))
  refine wpAny_bind (wpAny_standAt (wpAny_bind (wpAny_holding (thn (hs pins s2 σ H2 x y v ov iv u _ I2 r1 r2 r q2) fun _ s3 ⟨H3, I3, q3⟩ => ?_))))
  exact wpAny_release ⟨σ, H3, I3, q3⟩
noncomputable def tAsg (te : TE) (g : TG) : TS := fun D σ H => te σ H fun x H1 => g x σ H1 D.nx
theorem ps_asg {tg e : Expr} {te : TE} {g : TG} (he : PE X e te) (hg : PG X tg g) (hs : swapsWithSole [tg] e pos.line X.env = pure false := by rfl) (hw : swappedStores [tg] e X.env = pure none := by rfl)
    (h1 : (assignEach [tg] X.env).map (·.2) = [assign tg X.env] := by rfl) : PS X (.Assign [tg] e pos) (tAsg te g) := by
  intro pins s σ H D I h
  refine wpAny_Assign_stores (thn (he pins s σ H _ I h) fun v s1 ⟨x, H1, I1, r1, q1⟩ => ?_) hs hw
  rw [h1]
  exact thn (hg pins s1 σ H1 x v _ I1 r1 q1) fun _ s2 q => q
theorem ps_set {i : Nat} {x : Str} {e : Expr} {te : TE} {pos' : Pos} (hN : X.N.Nodup) (hi : X.N[i]? = some x) (hx : Loc X.env.scope x) (he : PE X e te) (hs : swapsWith e (some (.Name x pos')) pos.line X.env = pure false := by rfl) (hf : X.fn x = true ∨ X.env.scope.names.lookup x = some .local := by first | exact .inl rfl | exact .inr rfl | assumption) :
    PS X (.Assign [.Name x pos'] e pos) (tAsg te (gName i)) := by
  intro pins s σ H D I h
  refine wpAny_Assign_Name (thn (he pins s σ H _ I h) fun v s1 ⟨y, H1, I1, r1, q1⟩ => ?_) hs
  exact store_ok I1 hN hi hx r1 (fun s2 I2 => ⟨_, H1, I2, q1⟩) hf
end
section
variable {X : Cx} {pos : Pos}
end
structure It where
  go : Nat → Hp → Prop
  yld : Nat → Hp → V → Hp → Prop
  stop : Nat → Hp → Prop
noncomputable def FpOk (X : Cx) (pins : List (Addr × Obj)) (H : Hp) (b : Addr) : Prop :=
  H b = none ∧ b ≠ X.env.locals ∧ b ∉ X.fs ∧ (b ∈ X.ex ∨ X.s₀.heap.objs.size ≤ b) ∧ (∀ x c, X.env.cells.lookup x = some c → c ≠ b) ∧ ∀ p ∈ X.pn ++ pins, p.1 ≠ b
theorem Inv.fpOk {X : Cx} {pins : List (Addr × Obj)} {σ : St} {H H' : Hp} {s : Shared} {b : Addr} (I : Inv X pins σ H s) (hb : s.heap.objs.size ≤ b) (hn : H' b = none) : FpOk X pins H' b := by
  refine ⟨hn, Nat.ne_of_gt (Nat.lt_of_lt_of_le I.lt hb), I.nofs hb, .inr (Nat.le_trans I.sz hb), fun x c e z => ?_, fun p hp z => ?_⟩
  · obtain ⟨v, q⟩ := I.cell x c e
    exact absurd (Nat.lt_of_lt_of_le q.lt (by rw [z]; exact hb)) (Nat.lt_irrefl _)
  · exact absurd (Nat.lt_of_lt_of_le (Heap.lt_size (I.pin p hp).1) (by rw [z]; exact hb)) (Nat.lt_irrefl _)
structure Turn (P : Program) (w : World) (K : PySem.W.Frag) (tg : Expr) (J : It) (fp : List Addr) (it : Addr) (tn : Nat → Heap → Prop) : Prop where
  mem : it ∈ fp
  obj : ∀ i h, tn i h → ∀ b ∈ fp, ∃ o, h.get? b = some o ∧ ∀ v, o.data ≠ .cell v
  keep : ∀ i h h', tn i h → (∀ b ∈ fp, ∀ o, h.get? b = some o → h'.get? b = some o) → tn i h'
  item : ∀ (X : Cx), X.prog = P → X.w = w → X.K = K → X.calm = true → ∀ (i : Nat) (pins : List (Addr × Obj)) (s : Shared) (σ : St) (H : Hp) (E : Value → Shared → Prop), Inv X pins σ H s → (∀ b ∈ fp, FpOk X pins H b) → tn i s.heap → J.go i H →
    wpAny (model P w) X.A (pyNext (.ref it)) (fun r s1 => ∃ u, r = some u ∧
      wpAny (model P w) X.A (letOwnedTupleGo tg (.ref it) u) (fun _ s2 => ∃ x H', Inv X pins σ H' s2 ∧ RelV x u ∧ J.yld i H x H' ∧ tn (i + 1) s2.heap ∧ ∀ b ∈ fp, H' b = none) E s1) E s
  done : ∀ (X : Cx), X.prog = P → X.w = w → X.K = K → X.calm = true → ∀ (i : Nat) (pins : List (Addr × Obj)) (s : Shared) (σ : St) (H : Hp) (E : Value → Shared → Prop), Inv X pins σ H s → (∀ b ∈ fp, FpOk X pins H b) → tn i s.heap → J.stop i H →
    wpAny (model P w) X.A (pyNext (.ref it)) (fun r s1 => r = none ∧ Inv X pins σ H s1) E s
  self : ∀ (A : Around) (i : Nat) (s : Shared) (Q : Value → Shared → Prop) (E : Value → Shared → Prop), tn i s.heap → Q (.ref it) s → wpAny (model P w) A (pyIter (.ref it)) Q E s
noncomputable abbrev TI := St → Hp → (It → Hp → Prop) → Prop
noncomputable def PIE (X : Cx) (pins : List (Addr × Obj)) (σ : St) (tg : Expr) (R : It → Hp → Prop) (itv : Value) (s2 : Shared) : Prop :=
  ∃ (it : Addr) (fp : List Addr) (tn : Nat → Heap → Prop) (J : It) (H' : Hp), itv = .ref it ∧ Inv X pins σ H' s2 ∧ Turn X.prog X.w X.K tg J fp it tn ∧ tn 0 s2.heap ∧ (∀ b ∈ fp, FpOk X pins H' b) ∧ R J H'
noncomputable def PI (X : Cx) (tg iter : Expr) (wi : TI) : Prop :=
  ∀ (pins : List (Addr × Obj)) (s : Shared) (σ : St) (H : Hp) (R : It → Hp → Prop), Inv X pins σ H s → wi σ H R →
    wpAny (model X.prog X.w) X.A (eval iter X.env) (fun v s1 => wpAny (model X.prog X.w) X.A (pyIter v) (PIE X pins σ tg R) X.xe s1) X.xe s
theorem go_of {M : Model} {A : Around} {E : Value → Shared → Prop} {s : Shared} {tg : Expr} {it : Addr} {u : Value} {o : Obj} {n : String} {vs : Array Value} {Q : Unit → Shared → Prop} (ho : s.heap.get? it = some o) (hc : o.cls = .type n) (hd : o.data = .fields vs)
    (hn : ["enumerate", "zip", "dict_itemiterator", "dict_reverseitemiterator", "odict_iterator", "itertools.zip_longest", "itertools.pairwise"].contains n = false) (hQ : Q () s) : wpAny M A (letOwnedTupleGo tg (.ref it) u) Q E s := by
  unfold letOwnedTupleGo
  cases tg <;> first
    | exact wpAny_pure hQ
    | (cases u <;> first
        | exact wpAny_pure hQ
        | (refine wpAny_bind (wpAny_load ho ?_)
           rw [hc, hd]
           show wpAny M A (if (["enumerate", "zip", "dict_itemiterator", "dict_reverseitemiterator", "odict_iterator", "itertools.zip_longest", "itertools.pairwise"].contains n && vs[0]? == some (rawInt _)) = true then _ else _) Q E s
           rw [if_neg (by intro h; rw [hn, Bool.false_and] at h; cases h)]
           exact wpAny_pure hQ))
noncomputable def Itl (K : PySem.W.Frag) (a : Addr) : It :=
  ⟨fun i H => ∃ xs x, SqL K H a xs ∧ xs[i]? = some x, fun i H x H' => H' = H ∧ ∀ xs, SqL K H a xs → xs[i]? = some x, fun i H => ∃ xs, SqL K H a xs ∧ xs.length ≤ i⟩
noncomputable def Itt (K : PySem.W.Frag) (a : Addr) : It :=
  ⟨fun i H => ∃ xs x, SqT K H a xs ∧ xs[i]? = some x, fun i H x H' => H' = H ∧ ∀ xs, SqT K H a xs → xs[i]? = some x, fun i H => ∃ xs, SqT K H a xs ∧ xs.length ≤ i⟩
noncomputable def Itr (lo : Int) (n : Nat) : It := ⟨fun i _ => i < n, fun i H x H' => H' = H ∧ x = .int (lo + i), fun i _ => n ≤ i⟩
theorem turn_list {P : Program} {w : World} {K : PySem.W.Frag} {tg : Expr} (a it : Addr) : Turn P w K tg (Itl K a) [it] it (fun i h => h.IsListIter it a i) where
  mem := by simp
  obj := fun i h st b hb => by
    have e : b = it := by simpa using hb
    subst e
    obtain ⟨o, e, c, d⟩ := st
    exact ⟨o, e, fun v z => by rw [d] at z; cases z⟩
  keep := fun i h h' st k => st.at fun o e => k it (by simp) o e
  item := by
    intro X hP hw hK hc i pins s σ H E I hf st hg
    subst hP hw hK
    obtain ⟨xs, x, hq, hx⟩ := hg
    obtain ⟨its, rv, p, hz⟩ := I.list hq
    obtain ⟨u, hu, ru⟩ := rv.get hx
    obtain ⟨f0, f1, f2, f3, f4, f5⟩ := hf it (by simp)
    refine wpAny_pyNext_list_item st p.isList (x := u) (by simpa using hu) fun h' st' sb => ?_
    have I1 : Inv X pins σ H { s with heap := h' } := I.turned (t' := s.toks) (fun b o hb e => (sb.2 b hb).trans e) f0 f1 f3 f4 f5
    obtain ⟨o, e, c, d⟩ := id st'
    exact ⟨u, rfl, go_of (s := { s with heap := h' }) e c d (by decide) ⟨x, H, I1, ru, ⟨rfl, fun ys hy => by rw [I.list_inj hy hq]; exact hx⟩, st', fun b hb => (hf b hb).1⟩⟩
  done := by
    intro X hP hw hK hc i pins s σ H E I hf st hg
    subst hP hw hK
    obtain ⟨xs, hq, hx⟩ := hg
    obtain ⟨its, rv, p, hz⟩ := I.list hq
    obtain ⟨f0, f1, f2, f3, f4, f5⟩ := hf it (by simp)
    have hl := rv.length
    exact wpAny_pyNext_list_end (I.ok.hd hc) st p.isList (by simp; omega) fun h' eb => ⟨rfl, I.turned (t' := s.toks) (fun b o hb e => eb b o hb e) f0 f1 f3 f4 f5⟩
  self := fun _ _ _ _ _ st h => wpAny_pyIter_listiter st h
theorem turn_tuple {P : Program} {w : World} {K : PySem.W.Frag} {tg : Expr} (a it : Addr) : Turn P w K tg (Itt K a) [it] it (fun i h => h.IsTupleIter it a i) where
  mem := by simp
  obj := fun i h st b hb => by
    have e : b = it := by simpa using hb
    subst e
    obtain ⟨o, e, c, d⟩ := st
    exact ⟨o, e, fun v z => by rw [d] at z; cases z⟩
  keep := fun i h h' st k => st.at fun o e => k it (by simp) o e
  item := by
    intro X hP hw hK hc i pins s σ H E I hf st hg
    subst hP hw hK
    obtain ⟨xs, x, hq, hx⟩ := hg
    obtain ⟨its, rv, p, hz⟩ := I.tuple hq
    obtain ⟨u, hu, ru⟩ := rv.get hx
    obtain ⟨f0, f1, f2, f3, f4, f5⟩ := hf it (by simp)
    refine wpAny_pyNext_tuple_item st (show s.heap.IsTuple a its.toArray from p) (x := u) (by simpa using hu) fun h' st' sb => ?_
    have I1 : Inv X pins σ H { s with heap := h' } := I.turned (t' := s.toks) (fun b o hb e => (sb.2 b hb).trans e) f0 f1 f3 f4 f5
    obtain ⟨o, e, c, d⟩ := id st'
    exact ⟨u, rfl, go_of (s := { s with heap := h' }) e c d (by decide) ⟨x, H, I1, ru, ⟨rfl, fun ys hy => by rw [I.tuple_inj hy hq]; exact hx⟩, st', fun b hb => (hf b hb).1⟩⟩
  done := by
    intro X hP hw hK hc i pins s σ H E I hf st hg
    subst hP hw hK
    obtain ⟨xs, hq, hx⟩ := hg
    obtain ⟨its, rv, p, hz⟩ := I.tuple hq
    obtain ⟨f0, f1, f2, f3, f4, f5⟩ := hf it (by simp)
    have hl := rv.length
    exact wpAny_pyNext_tuple_end (I.ok.hd hc) st (show s.heap.IsTuple a its.toArray from p) (by simp; omega) fun h' eb => ⟨rfl, I.turned (t' := s.toks) (fun b o hb e => eb b o hb e) f0 f1 f3 f4 f5⟩
  self := fun _ _ _ _ _ st h => wpAny_pyIter_tupleiter st h
theorem turn_range {P : Program} {w : World} {K : PySem.W.Frag} {tg : Expr} (it : Addr) (lo : Int) (n : Nat) : Turn P w K tg (Itr lo n) [it] it (fun i h => IsRangeIter h it (lo + (i : Nat) * 1) ((n : Int) - (i : Nat)) 1) where
  mem := by simp
  obj := fun i h st b hb => by
    have e : b = it := by simpa using hb
    subst e
    exact ⟨_, st, fun v z => by
      have z' : Data.fields _ = Data.cell v := z
      cases z'⟩
  keep := fun i h h' st k => k it (by simp) _ st
  item := by
    intro X hP hw hK hc i pins s σ H E I hf st hg
    subst hP hw hK
    obtain ⟨f0, f1, f2, f3, f4, f5⟩ := hf it (by simp)
    have W := Walks.range (prog := X.prog) (w := X.w) (I.ok.hd hc) it lo 1 n
    refine W.item i s _ _ hg st fun v h' tk hv st' kk => ?_
    obtain ⟨t, rfl⟩ := hv
    have I1 : Inv X pins σ H { s with heap := h', toks := tk } := I.turned (fun b o hb e => kk b o (by simpa using hb) e) f0 f1 f3 f4 f5
    refine ⟨_, rfl, go_of (s := { s with heap := h', toks := tk }) (n := "range_iterator") st' rfl rfl (by decide) ⟨.int (lo + i), H, I1, ⟨t, ?_⟩, ⟨rfl, rfl⟩, st', fun b hb => (hf b hb).1⟩⟩
    rw [Int.mul_one]
  done := by
    intro X hP hw hK hc i pins s σ H E I hf st hg
    subst hP hw hK
    obtain ⟨f0, f1, f2, f3, f4, f5⟩ := hf it (by simp)
    exact wpAny_pyNext_range_end (I.ok.hd hc) st (by have : n ≤ i := hg; omega) fun h' eb => ⟨rfl, I.turned (t' := s.toks) (fun b o hb e => eb b o hb e) f0 f1 f3 f4 f5⟩
  self := fun _ _ _ _ _ st h => wpAny_pyIter_rangeiter st h
end L2
namespace L2
open PySem PySem.Spec PyProof.Rows
section
variable {X : Cx} {tg : Expr}
theorem range_it {pins : List (Addr × Obj)} {σ : St} {H : Hp} {s : Shared} {R : It → Hp → Prop} {E : Value → Shared → Prop} {lo hi : Int} {t u v : Tok} {tk : Nat} (I : Inv X pins σ H s) (h1 : -(2 ^ 62) ≤ lo) (h2 : lo < 2 ^ 62) (h3 : -(2 ^ 62) ≤ hi) (h4 : hi < 2 ^ 62)
    (q : R (Itr lo (hi - lo).toNat) H) : wpAny (model X.prog X.w) X.A (pyIter (.ref s.heap.objs.size)) (PIE X pins σ tg R) E { s with heap := s.heap.push { cls := .type "range", data := .fields #[.int lo t, .int hi u, .int 1 v] }, toks := tk } := by
  refine wpAny_pyIter_range (IsRange.new ..) (small_one h1 h2 h3 h4) ?_
  have I1 : Inv X pins σ H { s with heap := s.heap.push { cls := .type "range", data := .fields #[.int lo t, .int hi u, .int 1 v] }, toks := tk } := I.kept fun b o e => Heap.get?_push_of_some _ e
  refine ⟨(s.heap.push { cls := .type "range", data := .fields #[.int lo t, .int hi u, .int 1 v] }).objs.size, [(s.heap.push { cls := .type "range", data := .fields #[.int lo t, .int hi u, .int 1 v] }).objs.size], _, _, H, rfl,
    I1.kept (t' := tk) fun b o e => Heap.get?_push_of_some _ e, turn_range _ lo (hi - lo).toNat, ?_, fun b hb => ?_, q⟩
  · have e1 : lo + ((0 : Nat) : Int) * 1 = lo := by simp
    have e2 : (((hi - lo).toNat : Nat) : Int) - ((0 : Nat) : Int) = Builtin.Range.rangeSize lo hi 1 := by rw [rangeSize_one]; split <;> omega
    show IsRangeIter _ _ (lo + ((0 : Nat) : Int) * 1) ((((hi - lo).toNat : Nat) : Int) - ((0 : Nat) : Int)) 1
    rw [e1, e2]
    exact Heap.get?_push_size _ rfl
  · have e : b = (s.heap.push { cls := .type "range", data := .fields #[.int lo t, .int hi u, .int 1 v] }).objs.size := by simpa using hb
    subst e
    exact I1.fpOk (Nat.le_refl _) (I1.hok.fresh (Nat.le_refl _))
noncomputable def iRng1 (ta : TA) : TI := fun σ H R => ta σ H fun vs H1 => ∃ j : Int, vs = [.int j] ∧ -(2 ^ 62) ≤ j ∧ j < 2 ^ 62 ∧ R (Itr 0 j.toNat) H1
theorem pi_range1 {a : Expr} {ta : TA} {p pos : Pos} (hg : Gl X "range") (hm : X.mg "range" = none) (ha : PA X [a] ta) (hs : starEach [a] X.env = [(false, eval a X.env)] := by rfl) : PI X tg (.Call (.Name "range" p) [a] [] pos) (iRng1 ta) := by
  intro pins s σ H R I h
  refine Call_ (ld_blt I hg hm boot_range (PyProof.Rows.callWith_type1 (thn (ha pos pins s σ H _ I h) fun us s1 ⟨vs, H1, I1, r1, q1⟩ => ?_) hs rfl))
  obtain ⟨j, e, q1, q2, q⟩ := q1
  subst e
  cases r1 with
  | cons r rr =>
    cases rr
    obtain ⟨t, rfl⟩ := r
    exact call_range_1 (range_it I1 (by omega) (by omega) q1 q2 (by simpa using q))
noncomputable def tFor (wi : TI) (g : TG) (tb : TS) : TS := fun D σ H => wi σ H fun J H1 => ∃ W : Nat → Nat → St → Hp → Prop, (∃ m, W 0 m σ H1) ∧ ∀ i m σ H, W i m σ H →
  (J.stop i H ∧ D.nx σ H) ∨ (J.go i H ∧ ∃ N : St → Hp → Prop, (∀ σ' H', N σ' H' → ∃ m', m' < m ∧ W (i + 1) m' σ' H') ∧ ∀ x H', J.yld i H x H' → g x σ H' fun σ2 H2 => tb { D with nx := N, ct := N, bk := D.nx } σ2 H2)
noncomputable def pinsAt (fp : List Addr) (h : Heap) : List (Addr × Obj) := fp.filterMap fun b => (h.get? b).map fun o => (b, o)
theorem mem_pinsAt {fp : List Addr} {h : Heap} {b : Addr} {o : Obj} (hb : b ∈ fp) (e : h.get? b = some o) : (b, o) ∈ pinsAt fp h := List.mem_filterMap.mpr ⟨b, hb, by rw [e]; rfl⟩
theorem of_pinsAt {fp : List Addr} {h : Heap} {p : Addr × Obj} (hp : p ∈ pinsAt fp h) : p.1 ∈ fp ∧ h.get? p.1 = some p.2 := by
  obtain ⟨b, hb, e⟩ := List.mem_filterMap.mp hp
  cases q : h.get? b with
  | none => rw [q] at e; cases e
  | some o =>
    rw [q] at e
    have e' : (b, o) = p := Option.some.inj e
    subst e'
    exact ⟨hb, q⟩
theorem Inv.pinned {pins : List (Addr × Obj)} {σ : St} {H : Hp} {s : Shared} {fp : List Addr} (I : Inv X pins σ H s) (hf : ∀ b ∈ fp, FpOk X pins H b) (ho : ∀ b ∈ fp, ∃ o, s.heap.get? b = some o ∧ ∀ v, o.data ≠ .cell v) : Inv X (pins ++ pinsAt fp s.heap) σ H s :=
  I.pins_of fun p hp => (List.mem_append.mp hp).elim (fun z => I.pin p (List.mem_append_right _ z)) fun z => by
    obtain ⟨hb, e⟩ := of_pinsAt z
    obtain ⟨f0, f1, f2, _⟩ := hf p.1 hb
    obtain ⟨o, e', d⟩ := ho p.1 hb
    rw [e] at e'; cases e'
    exact ⟨e, f0, f1, f2, d⟩
theorem Inv.unpinned {pins pl : List (Addr × Obj)} {σ : St} {H : Hp} {s : Shared} (I : Inv X (pins ++ pl) σ H s) : Inv X pins σ H s := I.pins_of fun p hp => I.pin p (List.mem_append_right _ (List.mem_append_left _ hp))
theorem ps_for {iter : Expr} {body : List Stmt} {wi : TI} {g : TG} {tb : TS} {pos : Pos} (hp : PassesOwn (model X.prog X.w) X.A X.env X.xe) (hc : X.calm = true) (hi : PI X tg iter wi) (hg : PG X tg g) (hb : PSs X body tb)
    (hs : ∀ x, foldedSetIterable iter X.env x = pure x := by intro _; rfl) : PS X (.For tg iter body [] pos) (tFor wi g tb) := by
  intro pins s σ H D I h
  refine wpAny_For (thn (hi pins s σ H _ I h) fun v s1 h1 => thn h1 fun itv s2 h2 => ?_) hs
  obtain ⟨it, fp, tn, J, H2, e, I2, T, st2, f2, W, ⟨m0, w0⟩, turn⟩ := h2
  subst e
  -- what stays true of the iterator's objects through the loop
  have stat : ∀ {H' : Hp}, (∀ b ∈ fp, H' b = none) → ∀ b ∈ fp, FpOk X pins H' b := fun hn b hb => ⟨hn b hb, (f2 b hb).2⟩
  refine codeAny_forLoop_any (fun n s' => ∃ i σ' H', Inv X pins σ' H' s' ∧ tn i s'.heap ∧ (∀ b ∈ fp, H' b = none) ∧ W i n σ' H') ?_ m0 ⟨0, σ, H2, I2, st2, fun b hb => (f2 b hb).1, w0⟩
  rintro n s3 ⟨i, σ3, H3, I3, st3, fr3, w3⟩
  rcases turn i n σ3 H3 w3 with ⟨stop, qn⟩ | ⟨go, N, hN, step⟩
  · refine wpAny_passesOwn hp (thn (T.done X rfl rfl rfl hc i pins s3 σ3 H3 X.xe I3 (stat fr3) st3 stop) fun r s4 ⟨hr, I4⟩ => ?_)
    subst hr
    exact wpAny_execs_nil ⟨σ3, H3, I4, qn⟩
  · refine wpAny_passesOwn hp (thn (T.item X rfl rfl rfl hc i pins s3 σ3 H3 X.xe I3 (stat fr3) st3 go) fun r s4 ⟨u, hr, h4⟩ => ?_)
    subst hr
    refine wpAny_passesOwn hp (thn h4 fun _ s5 ⟨x, H5, I5, r5, y5, st5, fr5⟩ => ?_)
    have I5' := I5.pinned (stat fr5) (T.obj _ _ st5)
    refine wpAny_passesOwn hp (thn (hg _ s5 σ3 H5 x u _ I5' r5 (step x H5 y5)) fun _ s6 ⟨σ6, H6, I6, q6⟩ => ?_)
    refine wpAny_passesOwn hp (thn (hb _ s6 σ6 H6 _ I6 q6) fun f s7 q7 => ?_)
    have again : ∀ {σ7 : St} {H7 : Hp}, Inv X (pins ++ pinsAt fp s5.heap) σ7 H7 s7 → N σ7 H7 → ∃ m, m < n ∧ ∃ i σ' H', Inv X pins σ' H' s7 ∧ tn i s7.heap ∧ (∀ b ∈ fp, H' b = none) ∧ W i m σ' H' := fun {σ7 H7} I7 n7 => by
      obtain ⟨m', hm, w7⟩ := hN σ7 H7 n7
      refine ⟨m', hm, i + 1, σ7, H7, I7.unpinned, T.keep _ _ _ st5 fun b hb o e => (I7.pin (b, o) (List.mem_append_right _ (List.mem_append_right _ (mem_pinsAt hb e)))).1, fun b hb => ?_, w7⟩
      obtain ⟨o, e, d⟩ := T.obj _ _ st5 b hb
      exact (I7.pin (b, o) (List.mem_append_right _ (List.mem_append_right _ (mem_pinsAt hb e)))).2.1
    cases f with
    | next => obtain ⟨σ7, H7, I7, n7⟩ := q7; exact again I7 n7
    | cont => obtain ⟨σ7, H7, I7, n7⟩ := q7; exact again I7 n7
    | brk => obtain ⟨σ7, H7, I7, q7⟩ := q7; exact ⟨σ7, H7, I7.unpinned, q7⟩
    | ret v => obtain ⟨x7, σ7, H7, I7, r7, q7⟩ := q7; exact ⟨x7, σ7, H7, I7.unpinned, r7, q7⟩
end
end L2
namespace L2
open PySem PySem.Spec PyProof.Rows
noncomputable abbrev R2 := V → V → Hp → VK → Prop
noncomputable def OpR (X : Cx) (f : Value → Value → Sem Value) (r : R2) : Prop :=
  ∀ (pins : List (Addr × Obj)) (s : Shared) (σ : St) (H : Hp) (x y : V) (v u : Value) (Q : VK), Inv X pins σ H s → RelV x v → RelV y u → r x y H Q →
    wpAny (model X.prog X.w) X.A (f v u) (EP X pins σ Q) X.xe s
noncomputable def CallR (X : Cx) (f : Value) (r : List V → Hp → VK → Prop) : Prop :=
  ∀ (pins : List (Addr × Obj)) (s : Shared) (σ : St) (H : Hp) (xs : List V) (us : List Value) (Q : VK), Inv X pins σ H s → Vals xs us → r xs H Q →
    wpAny (model X.prog X.w) X.A (call f us) (EP X pins σ Q) X.xe s
noncomputable def TruR (X : Cx) (r : V → Hp → (Bool → Hp → Prop) → Prop) : Prop :=
  ∀ (pins : List (Addr × Obj)) (s : Shared) (σ : St) (H : Hp) (x : V) (v : Value) (Q : Bool → Hp → Prop), Inv X pins σ H s → RelV x v → r x H Q →
    wpAny (model X.prog X.w) X.A (truthy v) (TP X pins σ Q) X.xe s
noncomputable def tOp (r : R2) (ta tb : TE) : TE := fun σ H Q => ta σ H fun x H1 => tb σ H1 fun y H2 => r x y H2 Q
noncomputable def rI (C : Int → Int → Prop) (g : Int → Int → V) : R2 := fun x y H Q => ∃ i j, x = .int i ∧ y = .int j ∧ C i j ∧ Q (g i j) H
noncomputable def rI0 (g : Int → Int → V) : R2 := fun x y H Q => ∃ i j, x = .int i ∧ y = .int j ∧ Q (g i j) H
section
variable {X : Cx} {a b c : Expr} {ta tb tc : TE} {pos : Pos}
theorem binT (ha : PE X a ta) (hb : PE X b tb) {pins : List (Addr × Obj)} {s : Shared} {σ : St} {H : Hp} {R : V → V → Hp → Prop} (I : Inv X pins σ H s)
    (h : ta σ H fun x H1 => tb σ H1 fun y H2 => R x y H2) {Q : Value → Shared → Prop} {f : Value → Value → Sem Value}
    (hf : ∀ v u s2 x y H2, Inv X pins σ H2 s2 → RelV x v → RelV y u → R x y H2 → wpAny (model X.prog X.w) X.A (f v u) Q X.xe s2) :
    wpAny (model X.prog X.w) X.A (eval a X.env) (fun v s₁ => wpAny (model X.prog X.w) X.A (eval b X.env) (fun u s₂ => wpAny (model X.prog X.w) X.A (f v u) Q X.xe s₂) X.xe s₁) X.xe s := by
  refine thn (ha pins s σ H _ I h) fun v s1 ⟨x, H1, I1, r1, q1⟩ => ?_
  refine thn (hb pins s1 σ H1 _ I1 q1) fun u s2 ⟨y, H2, I2, r2, q2⟩ => ?_
  exact hf v u s2 x y H2 I2 r1 r2 q2
theorem pe_op {op : Operator} {r : R2} (ho : OpR X (binaryOp op) r) (ha : PE X a ta) (hb : PE X b tb) : PE X (.BinOp a op b pos) (tOp r ta tb) := by
  intro pins s σ H Q I h
  exact wpAny_BinOp (binT ha hb I h fun v u s2 x y H2 I2 rx ry q => ho pins s2 σ H2 x y v u Q I2 rx ry q)
theorem opI {f : Value → Value → Sem Value} {C : Int → Int → Prop} {g : Int → Int → Int}
    (rule : ∀ (i j : Int) (t u : Tok) (s : Shared) (Q : Value → Shared → Prop) (E : Value → Shared → Prop), C i j → Q (.int (g i j) s.toks) { s with toks := s.toks + 1 } → wpAny (model X.prog X.w) X.A (f (.int i t) (.int j u)) Q E s) :
    OpR X f (rI C fun i j => .int (g i j)) := by
  intro pins s σ H x y v u Q I rx ry h
  obtain ⟨i, j, rfl, rfl, hc, q⟩ := h
  obtain ⟨t, rfl⟩ := rx
  obtain ⟨t', rfl⟩ := ry
  exact rule i j t t' s _ _ hc ⟨.int (g i j), H, I.tok _, ⟨_, rfl⟩, q⟩
theorem opI0 {f : Value → Value → Sem Value} {g : Int → Int → Int}
    (rule : ∀ (i j : Int) (t u : Tok) (s : Shared) (Q : Value → Shared → Prop) (E : Value → Shared → Prop), Q (.int (g i j) s.toks) { s with toks := s.toks + 1 } → wpAny (model X.prog X.w) X.A (f (.int i t) (.int j u)) Q E s) :
    OpR X f (rI0 fun i j => .int (g i j)) := by
  intro pins s σ H x y v u Q I rx ry h
  obtain ⟨i, j, rfl, rfl, q⟩ := h
  obtain ⟨t, rfl⟩ := rx
  obtain ⟨t', rfl⟩ := ry
  exact rule i j t t' s _ _ ⟨.int (g i j), H, I.tok _, ⟨_, rfl⟩, q⟩
theorem opB0 {f : Value → Value → Sem Value} {g : Int → Int → Bool}
    (rule : ∀ (i j : Int) (t u : Tok) (s : Shared) (Q : Value → Shared → Prop) (E : Value → Shared → Prop), Q (.bool (g i j)) s → wpAny (model X.prog X.w) X.A (f (.int i t) (.int j u)) Q E s) :
    OpR X f (rI0 fun i j => .bl (g i j)) := by
  intro pins s σ H x y v u Q I rx ry h
  obtain ⟨i, j, rfl, rfl, q⟩ := h
  obtain ⟨t, rfl⟩ := rx
  obtain ⟨t', rfl⟩ := ry
  exact rule i j t t' s _ _ ⟨.bl (g i j), H, I, rfl, q⟩
noncomputable def CDiv (i j : Int) : Prop := 0 < j ∧ j < 1073741824
noncomputable def CPow (i j : Int) : Prop := 0 ≤ j ∧ j ≤ 1000000 ∧ i.natAbs < 2 ^ 64
noncomputable def CMul (i j : Int) : Prop := (-(2 ^ 64) < i ∧ i < 2 ^ 64) ∨ (-(2 ^ 64) < j ∧ j < 2 ^ 64)
theorem CMul.ok {i j : Int} (h : CMul i j) : IntMulOk i j := by
  rcases h with ⟨h1, h2⟩ | ⟨h1, h2⟩
  · exact .of_left (intBits_le_64 h1 h2)
  · exact .of_right (intBits_le_64 h1 h2)
theorem op_add : OpR X (binaryOp .Add) (rI0 fun i j => .int (i + j)) := opI0 fun _ _ _ _ _ _ _ q => add_int q
theorem op_sub : OpR X (binaryOp .Sub) (rI0 fun i j => .int (i - j)) := opI0 fun _ _ _ _ _ _ _ q => sub_int q
theorem op_fdiv : OpR X (binaryOp .FloorDiv) (rI CDiv fun i j => .int (i / j)) := opI fun i j _ _ _ _ _ hc q => by
  have h1 : (0 : Int) < j := hc.1
  have h2 : j < 1073741824 := hc.2
  exact floordiv_int (by omega) (by rw [Int.fdiv_eq_ediv_of_nonneg i (by omega)]; exact q) (.inl (PyProof.noPylong_small (by omega)))
theorem op_mod : OpR X (binaryOp .Mod) (rI (fun _ j => 0 < j) fun i j => .int (i % j)) := opI fun i j _ _ _ _ _ hc q => by
  have h1 : (0 : Int) < j := hc
  exact mod_int' (by omega) (by rw [Int.fmod_eq_emod_of_nonneg i (by omega)]; exact q)
theorem op_pow : OpR X (binaryOp .Pow) (rI CPow fun i j => .int (i ^ j.toNat)) := opI fun _ _ _ _ _ _ _ hc q => pow_int_small hc.1 hc.2.1 hc.2.2 q
end
noncomputable def scal : V → V → Bool
  | .non, .non => true | .non, .int _ => true | .int _, .non => true | .non, .bl _ => true | .bl _, .non => true | .non, .str _ => true | .str _, .non => true
  | .int _, .int _ => true | .bl _, .bl _ => true | .str _, .str _ => true | .byt _, .byt _ => true
  | .int _, .str _ => true | .str _, .int _ => true | .bl _, .str _ => true | .str _, .bl _ => true
  | _, _ => false
noncomputable def rEq : R2 := fun x y H Q => scal x y = true ∧ Q (.bl (decide (x = y))) H
noncomputable def rNe : R2 := fun x y H Q => scal x y = true ∧ Q (.bl (!decide (x = y))) H
theorem dec_int {i j : Int} : decide (V.int i = V.int j) = (i == j) := by
  rw [Bool.eq_iff_iff]
  simp
theorem dec_bl {i j : Bool} : decide (V.bl i = V.bl j) = (i == j) := by
  rw [Bool.eq_iff_iff]
  simp
theorem dec_str {i j : Str} : decide (V.str i = V.str j) = (i == j) := by
  rw [Bool.eq_iff_iff]
  simp
theorem dec_byt {i j : Array UInt8} : decide (V.byt i = V.byt j) = (i.toList == j.toList) := by
  rw [Bool.eq_iff_iff]
  cases i
  cases j
  simp
section
variable {X : Cx} {a b c : Expr} {ta tb tc : TE} {pos : Pos}
theorem fin_bl {pins : List (Addr × Obj)} {σ : St} {H : Hp} {s : Shared} {Q : VK} {k k' : Bool} (I : Inv X pins σ H s) (q : Q (.bl k) H) (e : k = k') : EP X pins σ Q (.bool k') s := by
  subst e
  exact ⟨.bl k, H, I, rfl, q⟩
theorem op_eq : OpR X (compareOp .Eq) rEq := by
  intro pins s σ H x y v u Q I rx ry h
  obtain ⟨hs, q⟩ := h
  cases x with
  | non =>
    cases rx
    cases y with
    | non => cases ry; exact PySem.EqNone.eq_none_none (fin_bl I q (by simp))
    | bl j => cases ry; exact PySem.EqNone.eq_none_bool (fin_bl I q (by simp))
    | int j => obtain ⟨t', rfl⟩ := ry; exact PySem.EqNone.eq_none_int (fin_bl I q (by simp))
    | str j => obtain ⟨t', rfl⟩ := ry; exact PySem.EqNone.eq_none_str (fin_bl I q (by simp))
    | _ => exact absurd (show false = true from hs) Bool.false_ne_true
  | bl i =>
    cases rx
    cases y with
    | non => cases ry; exact PySem.EqNone.eq_bool_none (fin_bl I q (by simp))
    | bl j => cases ry; exact eq_bool (fin_bl I q dec_bl)
    | str j => obtain ⟨t', rfl⟩ := ry; exact PySem.EqMixed.eq_bool_str (fin_bl I q (by simp))
    | _ => exact absurd (show false = true from hs) Bool.false_ne_true
  | int i =>
    obtain ⟨t, rfl⟩ := rx
    cases y with
    | non => cases ry; exact PySem.EqNone.eq_int_none (fin_bl I q (by simp))
    | int j => obtain ⟨t', rfl⟩ := ry; exact eq_int (fin_bl I q dec_int)
    | str j => obtain ⟨t', rfl⟩ := ry; exact PySem.EqMixed.eq_int_str (fin_bl I q (by simp))
    | _ => exact absurd (show false = true from hs) Bool.false_ne_true
  | str i =>
    obtain ⟨t, rfl⟩ := rx
    cases y with
    | non => cases ry; exact PySem.EqNone.eq_str_none (fin_bl I q (by simp))
    | bl j => cases ry; exact PySem.EqMixed.eq_str_bool (fin_bl I q (by simp))
    | int j => obtain ⟨t', rfl⟩ := ry; exact PySem.EqMixed.eq_str_int (fin_bl I q (by simp))
    | str j => obtain ⟨t', rfl⟩ := ry; exact eq_str (fin_bl I q dec_str)
    | _ => exact absurd (show false = true from hs) Bool.false_ne_true
  | byt i =>
    obtain ⟨t, rfl⟩ := rx
    cases y with
    | byt j => obtain ⟨t', rfl⟩ := ry; exact PySem.W.eq_bytes (fin_bl I q dec_byt)
    | _ => exact absurd (show false = true from hs) Bool.false_ne_true
  | _ => cases y <;> exact absurd (show false = true from hs) Bool.false_ne_true
theorem op_ne : OpR X (compareOp .NotEq) rNe := by
  intro pins s σ H x y v u Q I rx ry h
  obtain ⟨hs, q⟩ := h
  cases x with
  | non =>
    cases rx
    cases y with
    | non => cases ry; exact PySem.EqNone.ne_none_none (fin_bl I q (by simp))
    | bl j => cases ry; exact PySem.EqNone.ne_none_bool (fin_bl I q (by simp))
    | int j => obtain ⟨t', rfl⟩ := ry; exact PySem.EqNone.ne_none_int (fin_bl I q (by simp))
    | str j => obtain ⟨t', rfl⟩ := ry; exact PySem.EqNone.ne_none_str (fin_bl I q (by simp))
    | _ => exact absurd (show false = true from hs) Bool.false_ne_true
  | bl i =>
    cases rx
    cases y with
    | non => cases ry; exact PySem.EqNone.ne_bool_none (fin_bl I q (by simp))
    | bl j => cases ry; exact ne_bool (fin_bl I q (congrArg not dec_bl))
    | str j => obtain ⟨t', rfl⟩ := ry; exact PySem.EqMixed.ne_bool_str (fin_bl I q (by simp))
    | _ => exact absurd (show false = true from hs) Bool.false_ne_true
  | int i =>
    obtain ⟨t, rfl⟩ := rx
    cases y with
    | non => cases ry; exact PySem.EqNone.ne_int_none (fin_bl I q (by simp))
    | int j => obtain ⟨t', rfl⟩ := ry; exact ne_int (fin_bl I q (congrArg not dec_int))
    | str j => obtain ⟨t', rfl⟩ := ry; exact PySem.EqMixed.ne_int_str (fin_bl I q (by simp))
    | _ => exact absurd (show false = true from hs) Bool.false_ne_true
  | str i =>
    obtain ⟨t, rfl⟩ := rx
    cases y with
    | non => cases ry; exact PySem.EqNone.ne_str_none (fin_bl I q (by simp))
    | bl j => cases ry; exact PySem.EqMixed.ne_str_bool (fin_bl I q (by simp))
    | int j => obtain ⟨t', rfl⟩ := ry; exact PySem.EqMixed.ne_str_int (fin_bl I q (by simp))
    | str j => obtain ⟨t', rfl⟩ := ry; exact ne_str (fin_bl I q (congrArg not dec_str))
    | _ => exact absurd (show false = true from hs) Bool.false_ne_true
  | byt i =>
    obtain ⟨t, rfl⟩ := rx
    cases y with
    | byt j => obtain ⟨t', rfl⟩ := ry; exact PySem.W.ne_bytes (fin_bl I q (congrArg not dec_byt))
    | _ => exact absurd (show false = true from hs) Bool.false_ne_true
  | _ => cases y <;> exact absurd (show false = true from hs) Bool.false_ne_true
theorem op_lt : OpR X (compareOp .Lt) (rI0 fun i j => .bl (decide (i < j))) := opB0 fun _ _ _ _ _ _ _ q => lt_int q
theorem op_le : OpR X (compareOp .LtE) (rI0 fun i j => .bl (decide (i ≤ j))) := opB0 fun _ _ _ _ _ _ _ q => le_int q
theorem op_gt : OpR X (compareOp .Gt) (rI0 fun i j => .bl (decide (j < i))) := opB0 fun _ _ _ _ _ _ _ q => gt_int q
theorem op_ge : OpR X (compareOp .GtE) (rI0 fun i j => .bl (decide (j ≤ i))) := opB0 fun _ _ _ _ _ _ _ q => ge_int q
theorem op_lt_str : OpR X (compareOp .Lt) (fun x y H Q => ∃ i j, x = .str i ∧ y = .str j ∧ Q (.bl (decide (i.cps.toList < j.cps.toList))) H) := by
  intro pins s σ H x y v u Q I rx ry h
  obtain ⟨i, j, rfl, rfl, q⟩ := h
  obtain ⟨t, rfl⟩ := rx
  obtain ⟨t', rfl⟩ := ry
  exact lt_str (fin_bl I q rfl)
theorem op_in_str : OpR X (compareOp .In) (fun x y H Q => ∃ i j, x = .str i ∧ y = .str j ∧ Q (.bl (!(Builtin.Str.occurrences j i 0 j.length 1).isEmpty)) H) := by
  intro pins s σ H x y v u Q I rx ry h
  obtain ⟨i, j, rfl, rfl, q⟩ := h
  obtain ⟨t, rfl⟩ := rx
  obtain ⟨t', rfl⟩ := ry
  exact in_str (fin_bl I q rfl)
theorem op_isN : OpR X (compareOp .Is) (fun x y H Q => y = .non ∧ Q (.bl (decide (x = .non))) H) := by
  intro pins s σ H x y v u Q I rx ry h
  obtain ⟨rfl, q⟩ := h
  cases ry
  refine is_none_gen (fin_bl I q ?_)
  cases x <;> first
    | (cases rx; rfl)
    | (obtain ⟨t, rfl⟩ := rx; rfl)
theorem op_notN : OpR X (compareOp .IsNot) (fun x y H Q => y = .non ∧ Q (.bl (!decide (x = .non))) H) := by
  intro pins s σ H x y v u Q I rx ry h
  obtain ⟨rfl, q⟩ := h
  cases ry
  refine isnot_none_gen (fin_bl I q ?_)
  cases x <;> first
    | (cases rx; rfl)
    | (obtain ⟨t, rfl⟩ := rx; rfl)
theorem op_notin_str : OpR X (compareOp .NotIn) (fun x y H Q => ∃ i j, x = .str i ∧ y = .str j ∧ Q (.bl (!(!(Builtin.Str.occurrences j i 0 j.length 1).isEmpty))) H) := by
  intro pins s σ H x y v u Q I rx ry h
  obtain ⟨i, j, rfl, rfl, q⟩ := h
  obtain ⟨t, rfl⟩ := rx
  obtain ⟨t', rfl⟩ := ry
  exact notIn_str (fin_bl I q rfl)
theorem OpR.or {f : Value → Value → Sem Value} {r r' : R2} (h : OpR X f r) (h' : OpR X f r') : OpR X f (fun x y H Q => r x y H Q ∨ r' x y H Q) := by
  intro pins s σ H x y v u Q I rx ry q
  rcases q with q | q
  · exact h pins s σ H x y v u Q I rx ry q
  · exact h' pins s σ H x y v u Q I rx ry q
theorem pe_cmpR {op : CmpOp} {r : R2} (ho : OpR X (compareOp op) r) (ha : PE X a ta) (hb : PE X b tb) (hm : behindInMarks op b = false) : PE X (.Compare a [op] [b] pos) (tOp r ta tb) := by
  intro pins s σ H Q I h
  exact wpAny_Compare1 (binT ha hb I h fun v u s2 x y H2 I2 rx ry q => ho pins s2 σ H2 x y v u Q I2 rx ry q) hm
noncomputable def tTest (t : TE) : TT := fun σ H Q => t σ H fun x H' => ∃ k, x = .bl k ∧ Q k H'
theorem pt_cmpR {op : CmpOp} {r : R2} (ho : OpR X (compareOp op) r) (ha : PE X a ta) (hb : PE X b tb) (hm : behindInMarks op b = false) : PT X (.Compare a [op] [b] pos) (tTest (tOp r ta tb)) := by
  intro pins s σ H Q I h
  refine wpAny_isTrue_Compare1 (thn (ha pins s σ H _ I h) fun v s1 ⟨x, H1, I1, r1, q1⟩ => thn (hb pins s1 σ H1 _ I1 q1) fun u s2 ⟨y, H2, I2, r2, q2⟩ =>
    thn (ho pins s2 σ H2 x y v u _ I2 r1 r2 q2) fun c s3 ⟨z, H3, I3, r3, k, e, q3⟩ => ?_) hm
  subst e
  cases r3
  exact wpAny_truthy_bool ⟨H3, I3, q3⟩
noncomputable def TruV (K : PySem.W.Frag) (x : V) (H : Hp) (k : Bool) : Prop :=
  match x with
  | .non => k = false
  | .bl b => k = b
  | .int i => k = (i != 0)
  | .str y => y.length ≤ sizeLine ∧ k = ((y.length : Int) != 0)
  | .byt y => y.size ≤ sizeLine ∧ k = ((y.size : Int) != 0)
  | .ref p => (∃ xs, SqL K H p xs ∧ k = !xs.isEmpty) ∨ (∃ xs, SqT K H p xs ∧ k = !xs.isEmpty) ∨ ∃ kvs, H p = some (.dK kvs) ∧ k = !kvs.isEmpty
  | _ => False
theorem isEmpty_kv {κ : Type} {kvs : List (κ × V)} {vs : List (κ × Value)} (r : KV kvs vs) : (!vs.isEmpty) = !kvs.isEmpty := by
  cases r <;> rfl
theorem isEmpty_of {xs : List V} {its : List Value} (r : Vals xs its) : (!its.toArray.isEmpty) = !xs.isEmpty := by
  cases r <;> simp
theorem line63 : (sizeLine : Nat) < 2 ^ 63 := by rw [sizeLine_eq]; decide
theorem tru_ok : TruR X (fun x H Q => ∃ k, TruV X.K x H k ∧ Q k H) := by
  intro pins s σ H x v Q I rx h
  obtain ⟨k, e, q⟩ := h
  have hl := line63
  have hs : sizeLine = 16777216 := sizeLine_eq
  cases x with
  | non =>
    cases rx
    have e' : k = false := e
    subst e'
    exact truthy_none ⟨H, I, q⟩
  | bl b =>
    cases rx
    have e' : k = b := e
    subst e'
    exact wpAny_truthy_bool ⟨H, I, q⟩
  | int i =>
    obtain ⟨t, rfl⟩ := rx
    have e' : k = (i != 0) := e
    subst e'
    exact PySem.P.truthy_int ⟨H, I, q⟩
  | str y =>
    obtain ⟨t, rfl⟩ := rx
    obtain ⟨hy, e'⟩ : y.length ≤ sizeLine ∧ k = ((y.length : Int) != 0) := e
    subst e'
    exact PySem.P.truthy_str (by omega) ⟨H, I.tok _, q⟩
  | byt y =>
    obtain ⟨t, rfl⟩ := rx
    obtain ⟨hy, e'⟩ : y.size ≤ sizeLine ∧ k = ((y.size : Int) != 0) := e
    subst e'
    exact PySem.W.truthy_bytes (by omega) ⟨H, I.tok _, q⟩
  | ref p =>
    cases rx
    have e' : (∃ xs, SqL X.K H p xs ∧ k = !xs.isEmpty) ∨ (∃ xs, SqT X.K H p xs ∧ k = !xs.isEmpty) ∨ ∃ kvs, H p = some (.dK kvs) ∧ k = !kvs.isEmpty := e
    rcases e' with ⟨xs, hx, e'⟩ | ⟨xs, hx, e'⟩ | ⟨kvs, hx, e'⟩
    · subst e'
      obtain ⟨its, r, pl, hz⟩ := I.list hx
      have hlen := r.length
      exact wpAny_truthy_list pl.isList (by simp only [List.size_toArray]; omega) ⟨H, I.tok _, by rw [isEmpty_of r]; exact q⟩
    · subst e'
      obtain ⟨its, r, pl, hz⟩ := I.tuple hx
      have hlen := r.length
      exact truthy_tuple pl (by simp only [List.size_toArray]; omega) ⟨H, I.tok _, by rw [isEmpty_of r]; exact q⟩
    · subst e'
      obtain ⟨hz, hS, vs, r, m⟩ : kvs.length ≤ sizeLine ∧ (p == sysModules) = false ∧ ∃ vs, KV kvs vs ∧ s.heap.DictOf (mixKind X.prog X.w) p vs := I.hok p _ hx
      have hlen : kvs.length = vs.length := Paired.length r
      exact wpAny_truthy_dict hS m (by omega) ⟨H, I.tok _, by rw [isEmpty_kv r]; exact q⟩
  | _ => exact (show False from e).elim
theorem pt_truth (ha : PE X a ta) (he : ∀ whole, isTrue a X.env whole = (do let v ← whole; standAt a.pos; holding [v] (truthy v))) :
    PT X a (fun σ H Q => ta σ H fun x H' => ∃ k, TruV X.K x H' k ∧ Q k H') := by
  intro pins s σ H Q I h
  exact isTrue_plain (thn (ha pins s σ H _ I h) fun v s1 ⟨x, H1, I1, r1, q1⟩ => tru_ok pins s1 σ H1 x v Q I1 r1 q1) (he _)
theorem op_add_str : OpR X (binaryOp .Add) (fun x y H Q => ∃ i j, x = .str i ∧ y = .str j ∧ i.length + j.length ≤ sizeLine ∧ Q (.str (i ++ j)) H) := by
  intro pins s σ H x y v u Q I rx ry h
  obtain ⟨i, j, rfl, rfl, hz, q⟩ := h
  obtain ⟨t, rfl⟩ := rx
  obtain ⟨t', rfl⟩ := ry
  exact add_str (fun t' tk => ⟨.str (i ++ j), H, I.tok _, ⟨_, rfl⟩, q⟩) hz
theorem vals1 {x : V} {us : List Value} (r : Vals [x] us) : ∃ u, us = [u] ∧ RelV x u := by
  cases r with
  | cons r1 r2 => cases r2; exact ⟨_, rfl, r1⟩
theorem vals2 {x y : V} {us : List Value} (r : Vals [x, y] us) : ∃ u w', us = [u, w'] ∧ RelV x u ∧ RelV y w' := by
  cases r with
  | cons r1 r2 =>
    cases r2 with
    | cons r3 r4 => cases r4; exact ⟨_, _, rfl, r1, r3⟩
theorem call_int1 : CallR X (.type "int") (fun xs H Q => (∃ i, xs = [.int i] ∧ Q (.int i) H) ∨ ∃ k, xs = [.bl k] ∧ Q (.int (if k then 1 else 0)) H) := by
  intro pins s σ H xs us Q I r h
  rcases h with ⟨i, rfl, q⟩ | ⟨k, rfl, q⟩
  · obtain ⟨u, rfl, t, rfl⟩ := vals1 r
    exact call_int_int ⟨.int i, H, I, ⟨_, rfl⟩, q⟩
  · obtain ⟨u, rfl, r1⟩ := vals1 r
    cases r1
    exact call_int_bool ⟨.int (if k then 1 else 0), H, I.tok _, ⟨_, rfl⟩, q⟩
noncomputable def LenV (K : PySem.W.Frag) (x : V) (H : Hp) (n : Nat) : Prop :=
  match x with
  | .str y => y.length ≤ sizeLine ∧ n = y.length
  | .byt y => y.size ≤ sizeLine ∧ n = y.size
  | .ref p => (∃ xs, SqL K H p xs ∧ n = xs.length) ∨ ∃ xs, SqT K H p xs ∧ n = xs.length
  | _ => False
theorem call_len : CallR X (.builtin "len") (fun xs H Q => ∃ x n, xs = [x] ∧ LenV X.K x H n ∧ Q (.int n) H) := by
  intro pins s σ H xs us Q I r h
  obtain ⟨x, n, rfl, e, q⟩ := h
  obtain ⟨u, rfl, rx⟩ := vals1 r
  have hl := line63
  have hs : sizeLine = 16777216 := sizeLine_eq
  cases x with
  | str y =>
    obtain ⟨t, rfl⟩ := rx
    obtain ⟨hy, e'⟩ : y.length ≤ sizeLine ∧ n = y.length := e
    subst e'
    exact len_str (by omega) ⟨.int _, H, I.tok _, ⟨_, rfl⟩, q⟩
  | byt y =>
    obtain ⟨t, rfl⟩ := rx
    obtain ⟨hy, e'⟩ : y.size ≤ sizeLine ∧ n = y.size := e
    subst e'
    exact PySem.W.len_bytes (by omega) ⟨.int _, H, I.tok _, ⟨_, rfl⟩, q⟩
  | ref p =>
    cases rx
    have e' : (∃ xs, SqL X.K H p xs ∧ n = xs.length) ∨ ∃ xs, SqT X.K H p xs ∧ n = xs.length := e
    rcases e' with ⟨xs, hx, e'⟩ | ⟨xs, hx, e'⟩
    · subst e'
      obtain ⟨its, r', pl, hz⟩ := I.list hx
      have hlen := r'.length
      exact Calls.call_len_list pl.isList (by simp only [List.size_toArray]; omega) ⟨.int xs.length, H, I.tok _, ⟨_, by simp only [List.size_toArray]; rw [hlen]⟩, q⟩
    · subst e'
      obtain ⟨its, r', pl, hz⟩ := I.tuple hx
      have hlen := r'.length
      exact len_tuple pl (by simp only [List.size_toArray]; omega) ⟨.int xs.length, H, I.tok _, ⟨_, by simp only [List.size_toArray]; rw [hlen]⟩, q⟩
  | _ => exact (show False from e).elim
end
end L2
namespace L2
open PySem PySem.Spec PyProof.Rows
structure ObjM (h : Heap) (x dx C : Addr) (mA : Str → Option Value) : Prop where
  obj : h.get? x = some (PySem.W.instObj C dx)
  ns : h.Ns1 dx mA
  ne : dx ≠ x
theorem lookIn_ns {h : Heap} {dx : Addr} {mA : Str → Option Value} (n : h.Ns1 dx mA) : ∃ od, h.get? dx = some od ∧ ∀ name, PySem.W.lookIn name od = some (mA name) := by
  obtain ⟨o, es, ep, ho, hd, hk, _, hm⟩ := n
  refine ⟨o, ho, fun name => ?_⟩
  have e := hm name
  unfold nsFind findBy at e
  rw [← Array.find?_toList] at e
  unfold PySem.W.lookIn
  rw [hd]
  dsimp only
  split
  · rename_i y q
    rw [q] at e
    exact congrArg some e
  · rename_i q
    rw [q] at e
    have a : es.toList.any (·.refKey) = false := by
      rw [List.any_eq_false]
      intro y hy
      obtain ⟨z, t, hkey⟩ := hk y (Array.mem_toList_iff.mp hy)
      simp [DictEntry.refKey, hkey]
    have a' : ¬ es.toList.any (·.refKey) = true := by rw [a]; exact Bool.false_ne_true
    rw [if_neg a']
    exact congrArg some e
theorem ObjM.look {h : Heap} {x dx C : Addr} {mA : Str → Option Value} (I : ObjM h x dx C mA) : ∃ od, PySem.W.InstAt h x (PySem.W.instObj C dx) C (some od) ∧ ∀ name, PySem.W.lookIn name od = some (mA name) :=
  let ⟨od, ho, hl⟩ := lookIn_ns I.ns
  ⟨od, ⟨I.obj, rfl, rfl, ho⟩, hl⟩
section
variable {prog : Program} {w : World} {A : Around} {E : Value → Shared → Prop} {s : Shared} {K : PySem.W.Frag} {x dx C f : Addr} {mA : Str → Option Value} {name : Str} {v : Value}
end
section
variable {P : Program} {w : World} {H H' : Hp} {h h' : Heap} {a C dx : Addr} {fs fs' : List (Str × V)}
theorem ins_get (hok : HOk P w H h) (e : H a = some (.ins C dx fs)) : ∃ mA, ObjM h a dx C mA ∧ (∀ f, RelO (fs.lookup f) (mA f)) ∧ PySem.Within mA (fs.map (·.1)) ∧ fs.length ≤ 1000 ∧ H dx = some (.own a) := by
  obtain ⟨d, z, ne, ob, mA, n, r, q⟩ := (show ObjOk P w H h a (.ins C dx fs) from hok a _ e)
  exact ⟨mA, ⟨ob, n, ne⟩, r, q, z, d⟩
end
structure Cls (K : PySem.W.Frag) (C : Addr) : Prop where
  pg : PySem.W.plainGet K C Str.empty = true
  hd : PySem.W.hasDictIn K C = true
  po : PySem.W.plainOver K C = true
  sa : PySem.W.findIn K (.ref C) "__setattr__" = some (some (.builtin "object.__setattr__"))
theorem Cls.get {K : PySem.W.Frag} {C : Addr} (c : Cls K C) (f : Str) : PySem.W.plainGet K C f = true := c.pg
structure Con (K : PySem.W.Frag) (C : Addr) (f : Str) (v : V) (u : Value) : Prop where
  at_ : PySem.W.findIn K (.ref C) f = some (some u)
  rel : RelV v u
  get : PySem.W.specialIn K u "__get__" = some none
  cp : PySem.W.copiedNames.contains f = false
structure Meth (K : PySem.W.Frag) (C : Addr) (m : Str) (f : Addr) : Prop where
  at_ : PySem.W.findIn K (.ref C) m = some (some (.ref f))
  fn : PySem.W.isFn K (.ref f) = true
  kp : PySem.W.keepIn K (.ref f) = true
section
variable {X : Cx} {pins : List (Addr × Obj)} {σ : St} {H : Hp} {s : Shared} {a C dx : Addr} {fs : List (Str × V)} {f : Str} {v : V} {A : Around} {E : Value → Shared → Prop}
theorem Inv.made (I : Inv X pins σ H s) : Inv X pins σ (upd (upd H s.heap.objs.size (.own (s.heap.objs.size + 1))) (s.heap.objs.size + 1) (.ins C s.heap.objs.size []))
    { s with heap := (s.heap.push PySem.W.emptyDict).push (PySem.W.instObj C s.heap.objs.size) } := by
  have e1 : (s.heap.push PySem.W.emptyDict).get? s.heap.objs.size = some PySem.W.emptyDict := Heap.get?_push_size s.heap rfl
  have e2 : ((s.heap.push PySem.W.emptyDict).push (PySem.W.instObj C s.heap.objs.size)).get? (s.heap.objs.size + 1) = some (PySem.W.instObj C s.heap.objs.size) := by
    have := Heap.get?_push_size (s.heap.push PySem.W.emptyDict) (o := PySem.W.instObj C s.heap.objs.size) rfl
    rwa [Heap.size_push] at this
  have e3 : (s.heap.push PySem.W.emptyDict).Ns s.heap.objs.size (fun _ => none) := ⟨PySem.W.emptyDict, #[], _, e1, rfl, (fun e he => absurd he (by simp)), fun _ => rfl⟩
  have I1 := I.laid (a := s.heap.objs.size) (o := .own (s.heap.objs.size + 1)) (h' := s.heap.push PySem.W.emptyDict) (t' := s.toks) (fun b u q => Heap.get?_push_of_some _ q) (Nat.le_refl _) ⟨_, e1⟩
  refine I1.laid (a := s.heap.objs.size + 1) (o := .ins C s.heap.objs.size []) (t' := s.toks) (fun b u q => Heap.get?_push_of_some _ q) (Nat.le_of_eq (Heap.size_push _ _)) ?_
  have ne : s.heap.objs.size ≠ s.heap.objs.size + 1 := Nat.ne_of_lt (Nat.lt_succ_self _)
  refine ⟨by rw [upd_ne ne, upd_same], Nat.zero_le _, ne, e2, fun _ => none, (Heap.Ns1.of_empty e3).at fun o q => Heap.get?_push_of_some _ q, fun _ => True.intro, fun y hy => absurd rfl hy⟩
end
section
variable {X : Cx} {o e value : Expr} {f : Str} {pos pos' tpos : Pos} {ta tv : TE}
end
section
variable {X : Cx} {pins : List (Addr × Obj)} {σ : St} {H : Hp} {s : Shared} {A : Around} {E : Value → Shared → Prop} {Q : Value → Shared → Prop} {c : Value} {b : Bool}
inductive TyOf (K : PySem.W.Frag) (H : Hp) : V → Value → Prop where
  | non : TyOf K H .non (.type "NoneType")
  | bl (x : Bool) : TyOf K H (.bl x) (.type "bool")
  | int (i : Int) : TyOf K H (.int i) (.type "int")
  | str (x : Str) : TyOf K H (.str x) (.type "str")
  | flt (x : UInt64) : TyOf K H (.flt x) (.type "float")
  | lst {a : Addr} {xs : List V} (e : H a = some (.lst xs)) : TyOf K H (.ref a) (.type "list")
  | frz {a : Addr} {o : Obj} {xs : List V} (e : H a = some (.frz o (.lst xs))) : TyOf K H (.ref a) (.type "list")
  | tup {a : Addr} {xs : List V} (e : H a = some (.tup xs)) : TyOf K H (.ref a) (.type "tuple")
  | dK {a : Addr} {kvs : List (Key × V)} (e : H a = some (.dK kvs)) : TyOf K H (.ref a) (.type "dict")
  | dT {a : Addr} {kvs : List (List Key × V)} (e : H a = some (.dT kvs)) : TyOf K H (.ref a) (.type "dict")
  | ins {a C dx : Addr} {fs : List (Str × V)} (e : H a = some (.ins C dx fs)) (cl : Cls K C) (ha : PySem.W.findIn K (.ref C) "__class__" = some (some (.builtin "object.__class__")))
      (hn : PySem.W.specialIn K (.builtin "object.__class__") "__get__" = some (some (.builtin "getset_descriptor.__get__"))) (htk : PySem.W.takesIn K (.builtin "object.__class__") = some true)
      (hm : PySem.W.mroIn K C (.type "object") = some true) : TyOf K H (.ref a) (.ref C)
theorem isinst_ok {x : V} {u t : Value} (I : Inv X pins σ H s) (rx : RelV x u) (ty : TyOf X.K H x t) (e : PySem.W.kitOne X.K t c = some b) (h : ∀ tk, Q (.bool b) { s with toks := tk }) :
    wpAny (model X.prog X.w) A (call (.builtin "isinstance") [u, c]) Q E s := by
  cases ty with
  | non => cases (show u = Value.none from rx); exact PySem.W.kia_one PySem.W.kitx_none I.kIn True.intro e (fun z => nomatch z) h
  | bl y => cases (show u = Value.bool y from rx); exact PySem.W.kia_one PySem.W.kitx_bool I.kIn True.intro e (fun z => nomatch z) h
  | int i => obtain ⟨t, q⟩ := (show ∃ t, u = Value.int i t from rx); cases q; exact PySem.W.kia_one PySem.W.kitx_int I.kIn True.intro e (fun z => nomatch z) h
  | str y => obtain ⟨t, q⟩ := (show ∃ t, u = Value.str y t from rx); cases q; exact PySem.W.kia_one PySem.W.kitx_str I.kIn True.intro e (fun z => nomatch z) h
  | flt y => obtain ⟨t, q⟩ := (show ∃ t, u = Value.float y t from rx); cases q; exact PySem.W.kia_one PySem.W.kitx_float I.kIn True.intro e (fun z => nomatch z) h
  | @lst a xs ea =>
    cases (show u = Value.ref a from rx)
    obtain ⟨_, _, n, _, h1⟩ := (show ObjOk X.prog X.w H s.heap a (.lst xs) from I.hok a _ ea)
    exact PySem.W.kia_one PySem.W.kitx_list I.kIn ⟨_, h1, rfl⟩ e (fun z => nomatch z) h
  | @frz a ob xs ea =>
    cases (show u = Value.ref a from rx)
    obtain ⟨_, _, _, n, _, h1⟩ := (show ObjOk X.prog X.w H s.heap a (.frz ob (.lst xs)) from I.hok a _ ea)
    exact PySem.W.kia_one PySem.W.kitx_list I.kIn ⟨_, h1, rfl⟩ e (fun z => nomatch z) h
  | @tup a xs ea =>
    cases (show u = Value.ref a from rx)
    obtain ⟨_, _, _, p⟩ := (show ObjOk X.prog X.w H s.heap a (.tup xs) from I.hok a _ ea)
    obtain ⟨o, h1, h2, _⟩ := p
    exact PySem.W.kia_one PySem.W.kitx_tuple I.kIn ⟨o, h1, h2⟩ e (fun z => nomatch z) h
  | @dK a kvs ea =>
    cases (show u = Value.ref a from rx)
    obtain ⟨_, _, vs, _, p⟩ := (show ObjOk X.prog X.w H s.heap a (.dK kvs) from I.hok a _ ea)
    obtain ⟨o, es, ep, h1, h2, _⟩ := p
    exact PySem.W.kia_one PySem.W.kitx_dict I.kIn ⟨o, h1, h2.1⟩ e (fun z => nomatch z) h
  | @dT a kvs ea =>
    cases (show u = Value.ref a from rx)
    obtain ⟨_, _, xs, _, o, es, ep, h1, h2, _⟩ := (show ObjOk X.prog X.w H s.heap a (.dT kvs) from I.hok a _ ea)
    exact PySem.W.kia_one PySem.W.kitx_dict I.kIn ⟨o, h1, h2.1⟩ e (fun z => nomatch z) h
  | @ins a C dx fs ea cl ha hn htk hm =>
    cases (show u = Value.ref a from rx)
    obtain ⟨mA, O, _⟩ := ins_get I.hok ea
    obtain ⟨od, J, _⟩ := O.look
    exact PySem.W.kia_one (PySem.W.kitx_own (cl.get _) cl.hd ha hn htk hm) I.kIn J e (fun z => nomatch z) h
end
end L2
namespace L2
open PySem PySem.Spec PyProof.Rows
structure Room (k : Nat) (A : Around) : Prop where
  hd : A.handled = none
  dp : A.depth + 3 * k + 5 < recursionLimit
  un : A.units + 16 * k + 200 < cLine
theorem Room.mono {j k : Nat} {A : Around} (r : Room k A) (h : j ≤ k) : Room j A := ⟨r.hd, by have := r.dp; omega, by have := r.un; omega⟩
theorem Room.deeper {k : Nat} {A : Around} (r : Room (k + 1) A) (env : Env) : Room k (A.deeper env) :=
  ⟨r.hd, by have := r.dp; show A.depth + 1 + 3 * k + 5 < _; omega, by have := r.un; show A.units + 3 + 16 * k + 200 < _; omega⟩
theorem Room.in1 {k : Nat} {A : Around} (r : Room (k + 1) A) : Room k A.in1 :=
  ⟨r.hd, by have := r.dp; show A.depth + 3 * k + 5 < _; omega, by have := r.un; show A.units + 1 + 16 * k + 200 < _; omega⟩
theorem Room.depth {k : Nat} {A : Around} (r : Room k A) : A.depth < recursionLimit := by have := r.dp; omega
theorem Room.units {k : Nat} {A : Around} (r : Room k A) : A.units + 64 < cLine := by have := r.un; omega
noncomputable def tNil : TA := fun _ H Q => Q [] H
noncomputable def tCons (ta : TE) (tr : TA) : TA := fun σ H Q => ta σ H fun x H1 => tr σ H1 fun xs H2 => Q (x :: xs) H2
section
variable {X : Cx} {e : Expr} {es : List Expr} {te : TE} {t : TA} {pos : Pos}
theorem pa_nil : PA X [] tNil := fun _ _ _ _ H Q I h => Calls.spliced_nil ⟨[], H, I, .nil, h⟩
theorem pa_cons (ha : PE X e te) (hr : PA X es t) (hs : starEach (e :: es) X.env = (false, eval e X.env) :: starEach es X.env := by rfl) : PA X (e :: es) (tCons te t) := by
  intro pos pins s σ H Q I h
  rw [hs]
  show wpAny _ _ (spliced ((false, eval e X.env) :: backTo pos (starEach es X.env))) _ _ s
  refine Calls.spliced_cons (thn (ha pins s σ H _ I h) fun u s1 ⟨x, H1, I1, r1, q1⟩ => ?_)
  exact thn (hr pos pins s1 σ H1 _ I1 q1) fun us s2 ⟨xs, H2, I2, r2, q2⟩ => ⟨x :: xs, H2, I2, .cons r1 r2, q2⟩
noncomputable def tTup (t : TA) : TE := fun σ H Q => t σ H fun xs H1 => xs.length ≤ sizeLine ∧ ∀ p, H1 p = none → Q (.ref p) (upd H1 p (.tup xs))
noncomputable def tLst (t : TA) : TE := fun σ H Q => t σ H fun xs H1 => xs.length ≤ sizeLine ∧ ∀ p, H1 p = none → Q (.ref p) (upd H1 p (.lst xs))
theorem pe_tup {x1} (h : PA X es t) : PE X (.Tuple es x1 pos) (tTup t) := by
  intro pins s σ H Q I hq
  refine wpAny_Tuple_spliced (thn (h pos pins s σ H _ I hq) fun us s1 ⟨xs, H1, I1, r, z, q⟩ => ⟨by rw [← r.length]; exact z, ?_⟩)
  have hf : H1 s1.heap.objs.size = none := I1.hok.fresh (Nat.le_refl _)
  refine ⟨.ref s1.heap.objs.size, upd H1 s1.heap.objs.size (.tup xs), I1.laid (t' := s1.toks) (fun b u e => Heap.get?_push_of_some _ e) (Nat.le_refl _) ?_, rfl, q _ hf⟩
  exact ⟨z, us, r, ⟨_, Heap.get?_push_size _ rfl, rfl, ⟨_, rfl⟩, rfl⟩⟩
theorem pe_lst (h : PA X es t) : PE X (.List es pos) (tLst t) := by
  intro pins s σ H Q I hq
  refine wpAny_List_spliced (thn (h pos pins s σ H _ I hq) fun us s1 ⟨xs, H1, I1, r, z, q⟩ => ⟨by rw [← r.length]; exact z, ?_⟩)
  have hf : H1 s1.heap.objs.size = none := I1.hok.fresh (Nat.le_refl _)
  refine ⟨.ref s1.heap.objs.size, upd H1 s1.heap.objs.size (.lst xs), I1.laid (t' := s1.toks) (fun b u e => Heap.get?_push_of_some _ e) (Nat.le_refl _) ?_, rfl, q _ hf⟩
  exact ⟨z, us, 0, r, Heap.get?_push_size _ rfl⟩
end
noncomputable abbrev Sp := List V → Hp → VK → XK → Prop
noncomputable abbrev CXT := List Env → Hp → Shared → XK → Value → Shared → Prop
structure Env0 (P : Program) (w : World) (K : PySem.W.Frag) (mg : Str → Option Value) (base : Heap) (A : Around) (outer : List Env) (s : Shared) (H : Hp) : Prop where
  frames : A.frames = some outer
  mod : Mod K mg base
  bs : ∀ b o, base.get? b = some o → s.heap.get? b = some o ∧ H b = none
  bsz : base.objs.size ≤ s.heap.objs.size
  funs : s.heap.FunFrames base outer
  frf : ∀ b ∈ frs outer, H b = none
  hok : HOk P w H s.heap
  bare : AllBare s.gens
noncomputable def CE (outer : List Env) (P : Program) (w : World) (H : Hp) (s : Shared) (Q : VK) (u : Value) (s' : Shared) : Prop :=
  ∃ v H', s'.os = s.os ∧ AllBare s'.gens ∧ Un (frs outer) [] H H' s.heap s'.heap ∧ HOk P w H' s'.heap ∧ RelV v u ∧ Q v H'
noncomputable def CR (CX : CXT) (outer : List Env) (P : Program) (w : World) (H : Hp) (s : Shared) (Q : VK) (E : XK) (r : Result) (s' : Shared) : Prop :=
  match r with
  | .ok (.ret u) => CE outer P w H s Q u s'
  | .ok _ => False
  | .error e => CX outer H s E e s'
structure FnOk (P : Program) (w : World) (K : PySem.W.Frag) (mg : Str → Option Value) (base : Heap) (CX : CXT) (k : Nat) (f : Addr) (fd : FuncData) (ps : List Str) (sp : Sp) : Prop where
  len : ∀ vs H Q E, sp vs H Q E → vs.length = ps.length
  run : ∀ (A : Around) (outer : List Env) (s : Shared) (H : Hp) (args : Args) (us : List Value) (vs : List V) (Q : VK) (E : XK), Room k A → Env0 P w K mg base A outer s H → BindsTo s fd args (ps.zip us) → Vals vs us → sp vs H Q E →
    codeAny (model P w) A (.call (.ref f) args) (CR CX outer P w H s Q E) s
theorem FnOk.mono {P : Program} {w : World} {K : PySem.W.Frag} {mg : Str → Option Value} {base : Heap} {CX : CXT} {j k : Nat} {f : Addr} {fd : FuncData} {ps : List Str} {sp : Sp} (F : FnOk P w K mg base CX j f fd ps sp) (h : j ≤ k) :
    FnOk P w K mg base CX k f fd ps sp := ⟨F.len, fun A outer s H args us vs Q E hr => F.run A outer s H args us vs Q E (hr.mono h)⟩
theorem FnOk.imp {P : Program} {w : World} {K : PySem.W.Frag} {mg : Str → Option Value} {base : Heap} {CX : CXT} {k : Nat} {f : Addr} {fd : FuncData} {ps : List Str} {sp sp' : Sp} (F : FnOk P w K mg base CX k f fd ps sp)
    (h : ∀ vs H Q E, sp' vs H Q E → sp vs H Q E) : FnOk P w K mg base CX k f fd ps sp' :=
  ⟨fun vs H Q E q => F.len vs H Q E (h _ _ _ _ q), fun A outer s H args us vs Q E hr he hb hv hs => F.run A outer s H args us vs Q E hr he hb hv (h _ _ _ _ hs)⟩
theorem Env0.in1 {P : Program} {w : World} {K : PySem.W.Frag} {mg : Str → Option Value} {base : Heap} {A : Around} {outer : List Env} {s : Shared} {H : Hp} (e : Env0 P w K mg base A outer s H) :
    Env0 P w K mg base A.in1 outer s H := ⟨e.frames, e.mod, e.bs, e.bsz, e.funs, e.frf, e.hok, e.bare⟩
section
variable {X : Cx} {pins : List (Addr × Obj)} {σ : St} {H : Hp} {s s' : Shared}
theorem Inv.env0 (I : Inv X pins σ H s) : Env0 X.prog X.w X.K X.mg X.base X.A X.stack s H :=
  ⟨I.ok.frames, I.ok.mod, I.bs, Nat.le_trans I.ok.bsz I.sz, I.stack, I.stkFree, I.hok, I.bare⟩
theorem Inv.after {Q : VK} {u : Value} (I : Inv X pins σ H s) (h : CE X.stack X.prog X.w H s Q u s') : EP X pins σ Q u s' := by
  obtain ⟨v, H', os, bare, un, hok, r, q⟩ := h
  obtain ⟨hh, g, d, t, os'⟩ := s'
  obtain rfl : os' = s.os := os
  exact ⟨v, H', I.call (h' := hh) (g' := g) (d' := d) (t' := t) (ch := []) un hok bare (fun b z => absurd z (by simp)), r, q⟩
end
noncomputable def tCall (sp : Sp) (dvs : List V) (E : XK) (t : TA) : TE := fun σ H Q => t σ H fun vs H1 => sp (vs ++ dvs) H1 Q E
noncomputable def Binds (K : PySem.W.Frag) (fd : FuncData) (ps : List Str) (ds : List Value) : Prop :=
  ∀ (s : Shared) (us : List Value), K.In s.heap → (us ++ ds).length = ps.length → BindsTo s fd ⟨us, []⟩ (ps.zip (us ++ ds))
theorem Binds.all {K : PySem.W.Frag} {fd : FuncData} {ps : List Str} (h : ∀ us : List Value, us.length = ps.length → bindArgs fd ⟨us, []⟩ = pure (ps.zip us)) : Binds K fd ps [] := fun s us _ hl => by
  rw [List.append_nil] at hl ⊢
  exact .of_eq (h us hl)
noncomputable def Passes (CX : CXT) (X : Cx) (E : XK) : Prop := ∀ (pins : List (Addr × Obj)) (σ : St) (H : Hp) (s : Shared) (e : Value) (s' : Shared), Inv X pins σ H s → CX X.stack H s E e s' → X.xe e s'
section
variable {X : Cx} {CX : CXT} {k : Nat} {f C : Addr} {fd : FuncData} {ps : List Str} {sp : Sp} {dvs : List V} {ds : List Value} {E : XK} {x m : Str} {p pos apos : Pos} {e o : Expr} {es : List Expr} {ta : TE} {t : TA}
theorem run_fn {pins : List (Addr × Obj)} {σ : St} {H : Hp} {s : Shared} {Q : VK} {us : List Value} {vs : List V} (F : FnOk X.prog X.w X.K X.mg X.base CX k f fd ps sp) (hr : Room k X.A) (hb : Binds X.K fd ps ds) (hd : Vals dvs ds) (hx : Passes CX X E)
    (I : Inv X pins σ H s) (r : Vals vs us) (h : sp (vs ++ dvs) H Q E) : wpAny (model X.prog X.w) X.A (call (.ref f) us) (EP X pins σ Q) X.xe s := by
  have r2 : Vals (vs ++ dvs) (us ++ ds) := r.append hd
  have hl : (us ++ ds).length = ps.length := by rw [← r2.length]; exact F.len _ _ _ _ h
  refine wpAny_call (codeAny_mono (F.run X.A X.stack s H ⟨us, []⟩ (us ++ ds) (vs ++ dvs) Q E hr I.env0 (hb s us I.kIn hl) r2 h) fun r s' hq => ?_)
  cases r with
  | error e => exact hx pins σ H s e s' I hq
  | ok fl =>
    cases fl with
    | ret u => exact I.after hq
    | next => exact False.elim hq
    | brk => exact False.elim hq
    | cont => exact False.elim hq
theorem pe_call (F : FnOk X.prog X.w X.K X.mg X.base CX k f fd ps sp) (hr : Room k X.A) (hg : Gl X x) (hm : X.mg x = some (.ref f)) (hk : PySem.W.keepIn X.K (.ref f) = true) (hb : Binds X.K fd ps ds) (hd : Vals dvs ds) (hx : Passes CX X E)
    (ha : PA X (e :: es) t) (hdb : (x == ("__debug__" : Str)) = false := by decide) (he : starEach (e :: es) X.env = (false, eval e X.env) :: starEach es X.env := by rfl) (hpl : (backTo pos (starEach es X.env)).any (·.1) = false := by rfl) :
    PE X (.Call (.Name x p) (e :: es) [] pos) (tCall sp dvs E t) := by
  intro pins s σ H Q I h
  refine wpAny_Call_Name_kw (ld_glob I hg hm ?_ hdb)
  refine PySem.W.callWith_K (h₀ := X.base) I.ok.mod.kin hk (thn (ha pos pins s σ H _ I h) fun us s1 ⟨vs, H1, I1, r, q⟩ => ⟨I1.kIn, ?_⟩) he hpl
  exact run_fn F hr hb hd hx I1 r q
structure Mk (K : PySem.W.Frag) (C f : Addr) : Prop where
  makes : PySem.W.makesIn K C = true
  init : PySem.W.findIn K (.ref C) "__init__" = some (some (.ref f))
  fn : PySem.W.isFn K (.ref f) = true
  kp : PySem.W.keepIn K (.ref C) = true
end
section
variable {X : Cx} {CX : CXT} {k : Nat} {f C : Addr} {fd : FuncData} {ps ks : List Str} {sp : Sp} {E : XK} {x m : Str} {p pos apos kpos : Pos} {e o : Expr} {es : List Expr} {kws : List Keyword} {te ta : TE} {t tk : TA} {nm : Option Str}
structure KBinds (K : PySem.W.Frag) (fd : FuncData) (ps ks : List Str) (g : List Value → List Value → List Value) (gV : List V → List V → List V) : Prop where
  to : ∀ (s : Shared) (us ws : List Value), K.In s.heap → (g us ws).length = ps.length → BindsTo s fd ⟨us, ks.zip ws⟩ (ps.zip (g us ws))
  rel : ∀ {vs : List V} {us : List Value} {zs : List V} {ws : List Value}, Vals vs us → Vals zs ws → Vals (gV vs zs) (g us ws)
variable {g : List Value → List Value → List Value} {gV : List V → List V → List V}
end
structure FnScope (N P : List Str) (sc : Scope) : Prop where
  kind : sc.kind = .function
  co : sc.isCoroutine = false
  gen : sc.isGenerator = false
  nd : N.Nodup
  pre : N.take P.length = P
  par : ∀ x ∈ P, sc.names.lookup x = some .local ∨ sc.names.lookup x = some .cell
  nofree : ∀ y ∈ sc.names, y.2 ≠ .free
theorem bindL_out {kindOf : Str → Option NameKind} {x : Str} : ∀ {binds : List (Str × Value)} {m : Str → Option Value}, (∀ v, (x, v) ∉ binds) → bindL kindOf binds m x = m x
  | [], _, _ => rfl
  | (n, v) :: r, m, h => by
    unfold bindL
    rw [bindL_out fun w hw => h w (List.mem_cons_of_mem _ hw)]
    split
    · have : x ≠ n := by rintro rfl; exact h v List.mem_cons_self
      simp [this]
    · rfl
theorem bindC_out {kindOf : Str → Option NameKind} {x : Str} : ∀ {binds : List (Str × Value)} {m : Str → Option Value}, (∀ v, (x, v) ∉ binds) → bindC kindOf binds m x = m x
  | [], _, _ => rfl
  | (n, v) :: r, m, h => by
    unfold bindC
    rw [bindC_out fun w hw => h w (List.mem_cons_of_mem _ hw)]
    split
    · rfl
    · have : x ≠ n := by rintro rfl; exact h v List.mem_cons_self
      simp [this]
theorem bindL_get {kindOf : Str → Option NameKind} {x : Str} {v : Value} : ∀ {P : List Str} {vs : List Value} {i : Nat} {m : Str → Option Value}, P.Nodup → P[i]? = some x → vs[i]? = some v → kindOf x = some .local →
    bindL kindOf (P.zip vs) m x = some v
  | [], _, _, _, _, h, _, _ => by simp at h
  | _ :: _, [], _, _, _, _, h, _ => by simp at h
  | p :: P, w :: vs, 0, m, nd, h1, h2, hk => by
    simp at h1 h2; subst h1; subst h2
    show bindL kindOf ((p, w) :: P.zip vs) m p = _
    unfold bindL
    rw [bindL_out fun v hv => (List.nodup_cons.mp nd).1 (List.of_mem_zip hv).1, if_pos hk]
    simp
  | p :: P, w :: vs, i + 1, m, nd, h1, h2, hk => by
    show bindL kindOf ((p, w) :: P.zip vs) m x = _
    unfold bindL
    exact bindL_get (i := i) (List.nodup_cons.mp nd).2 (by simpa using h1) (by simpa using h2) hk
theorem bindC_get {kindOf : Str → Option NameKind} {x : Str} {v : Value} : ∀ {P : List Str} {vs : List Value} {i : Nat} {m : Str → Option Value}, P.Nodup → P[i]? = some x → vs[i]? = some v → kindOf x ≠ some .local →
    bindC kindOf (P.zip vs) m x = some v
  | [], _, _, _, _, h, _, _ => by simp at h
  | _ :: _, [], _, _, _, _, h, _ => by simp at h
  | p :: P, w :: vs, 0, m, nd, h1, h2, hk => by
    simp at h1 h2; subst h1; subst h2
    show bindC kindOf ((p, w) :: P.zip vs) m p = _
    unfold bindC
    rw [bindC_out fun v hv => (List.nodup_cons.mp nd).1 (List.of_mem_zip hv).1, if_neg hk]
    simp
  | p :: P, w :: vs, i + 1, m, nd, h1, h2, hk => by
    show bindC kindOf ((p, w) :: P.zip vs) m x = _
    unfold bindC
    exact bindC_get (i := i) (List.nodup_cons.mp nd).2 (by simpa using h1) (by simpa using h2) hk
noncomputable def start (N : List Str) (vs : List V) : St := vs.map some ++ List.replicate (N.length - vs.length) none
noncomputable def cxOf (CX : CXT) (P : Program) (w : World) (K : PySem.W.Frag) (mg : Str → Option Value) (base : Heap) (N : List Str) (qual : Str) (scope : Scope) (f : Addr) (cd : Value) (A : Around) (outer : List Env) (s : Shared) (H : Hp) (E : XK) : Cx where
  prog := P
  w := w
  K := K
  mg := mg
  base := base
  A := A.deeper (envOfC qual scope s.heap.objs.size f cd)
  N := N
  s₀ := s
  H₀ := H
  env := envOfC qual scope s.heap.objs.size f cd
  outer := outer
  stack := envOfC qual scope s.heap.objs.size f cd :: outer
  ex := []
  calm := true
  fn := fun _ => true
  pn := []
  xe := fun e s' => wpAny (model P w) (A.deeper (envOfC qual scope s.heap.objs.size f cd)) (leaving (envOfC qual scope s.heap.objs.size f cd) e) (fun _ s'' => CX outer H s E e s'') (fun e' s'' => CX outer H s E e' s'') s'
theorem cell_has {sc : Scope} {n : Nat} {x : Str} (h : sc.names.lookup x = some .cell) : ∃ c, (cellsFrom n sc.names []).lookup x = some c := by
  have q := PySem.W.cellsFrom_some sc.names n [] (.inl h)
  exact Option.isSome_iff_exists.mp q
theorem inv_start {CX : CXT} {P : Program} {w : World} {K : PySem.W.Frag} {mg : Str → Option Value} {base : Heap} {N ps : List Str} {qual : Str} {scope : Scope} {f : Addr} {cd : Value} {A : Around} {outer : List Env} {s s1 : Shared} {H : Hp} {E : XK} {us : List Value} {vs : List V}
    (S : FnScope N ps scope) (hd : A.handled = none) (e0 : Env0 P w K mg base A outer s H) (hl : vs.length = ps.length) (r : Vals vs us)
    (x : InCallC s s.heap.objs.size (bindL (envOfC qual scope s.heap.objs.size f cd).kindOf (ps.zip us) fun _ => none) (cellsFrom (s.heap.objs.size + 1) scope.names []) (bindC (envOfC qual scope s.heap.objs.size f cd).kindOf (ps.zip us) fun _ => none) s1) :
    Inv (cxOf CX P w K mg base N qual scope f cd A outer s H E) [] (start N vs) H s1 := by
  have hpl : ps.length ≤ N.length := by have := congrArg List.length S.pre; rw [List.length_take] at this; omega
  obtain ⟨h1, tk, rfl, hk⟩ := x.done
  have noA : ∀ b : Addr, b ∉ (cxOf CX P w K mg base N qual scope f cd A outer s H E).ex := fun b z => absurd (show b ∈ ([] : List Addr) from z) (by simp)
  refine ⟨⟨e0.mod, S.kind, rfl, rfl, Nat.le_refl _, fun y z c h1 h2 => ?_, fun y hy => ?_, fun y c _ h => ?_, fun _ => hd, Around.frames_deeper e0.frames, .inr ⟨rfl, rfl⟩, fun b z => absurd z (noA b), e0.bs, e0.bsz, fun b _ _ => noA b, fun b z => absurd z (noA b), e0.funs, e0.frf⟩,
    rfl, e0.bare, Un.kept hk, ⟨_, x.toInCall.ns, fun i y v h1 h2 h3 => ?_⟩, fun y c h => ⟨_, x.cell y c h⟩, e0.hok.fresh (Nat.le_refl _), fun y c h => ?_, fun p hp => absurd (show p ∈ ([] : List (Addr × Obj)) from hp) (by simp), e0.hok.kept hk, ?_⟩
  · exact name_of_addr x.apart (PySem.mem_of_lookup h1) (PySem.mem_of_lookup h2)
  · have hy : scope.names.lookup y = some .cell ∨ scope.names.lookup y = some .free := hy
    rcases hy with hy | hy
    · exact cell_has hy
    · exact absurd rfl (S.nofree _ (PySem.mem_of_lookup hy))
  · exact Nat.le_of_lt (x.above y c (PySem.mem_of_lookup h))
  · have hi : i < vs.length := by
      unfold start at h2
      by_cases hi : i < vs.length
      · exact hi
      · rw [List.getElem?_append_right (by simpa using hi)] at h2
        rw [List.getElem?_replicate] at h2
        split at h2 <;> cases h2
    have ha : vs[i]? = some v := by
      unfold start at h2
      rw [List.getElem?_append_left (by simpa using hi), List.getElem?_map] at h2
      cases e : vs[i]? with
      | none => rw [e] at h2; cases h2
      | some a => rw [e] at h2; cases h2; rfl
    obtain ⟨u, hu, rv⟩ := r.get ha
    have hp : ps[i]? = some y := by
      rw [← S.pre, List.getElem?_take_of_lt (by omega)]; exact h1
    have ndP : ps.Nodup := by rw [← S.pre]; exact S.nd.sublist (List.take_sublist _ _)
    refine ⟨u, rv, ?_⟩
    rcases S.par y (List.mem_of_getElem? hp) with k | k
    · exact .inl ⟨k, bindL_get ndP hp hu k⟩
    · obtain ⟨c, e⟩ := cell_has (n := s.heap.objs.size + 1) k
      refine .inr ⟨.inl k, c, e, ?_⟩
      have q := x.cell y c e
      rw [bindC_get ndP hp hu (by show scope.names.lookup y ≠ _; rw [k]; decide)] at q
      exact q
  · exact e0.hok.fresh (Nat.le_of_lt (x.above y c (PySem.mem_of_lookup h)))
  · unfold start
    show _ = N.length
    rw [List.length_append, List.length_map, List.length_replicate]
    omega
theorem fn_of {CX : CXT} {P : Program} {w : World} {K : PySem.W.Frag} {mg : Str → Option Value} {base : Heap} {k : Nat} {f : Addr} {name qual : Str} {params : Arguments} {body : List Stmt} {scope : Scope} {dV kV doc pm cdv ct oc : Value} {an od : Option Addr}
    {osl : Array (Option Value)} {N ps : List Str} {sp : Sp} (lk : K.lookup f = some ⟨oc, od, .func (PySem.W.fnOf name qual params body scope dV kV doc pm an cdv ct), osl⟩) (hcd : PySem.W.codeIn K cdv qual = true) (S : FnScope N ps scope)
    (len : ∀ vs H Q E, sp vs H Q E → vs.length = ps.length)
    (hbody : ∀ (A : Around) (outer : List Env) (s : Shared) (H : Hp) (vs : List V) (Q : VK) (E : XK), Room k (A.deeper (envOfC qual scope s.heap.objs.size f cdv)) → sp vs H Q E →
      ∃ t, PSs (cxOf CX P w K mg base N qual scope f cdv A outer s H E) body t ∧ t { nx := fun _ H' => Q .non H', rt := Q } (start N vs) H) :
    FnOk P w K mg base CX (k + 1) f (PySem.W.fnOf name qual params body scope dV kV doc pm an cdv ct) ps sp := by
  refine ⟨len, fun A outer s H args us vs Q E hr e0 hb r hsp => ?_⟩
  have hl := len _ _ _ _ hsp
  have KX : K.In s.heap := e0.mod.kin.keeps fun b o e => (e0.bs b o e).1
  have lim : s.heap.NoLimit := e0.mod.nolimit.keeps fun b o e => (e0.bs b o e).1
  have hkind : ∀ y ∈ ps.zip us, scope.names.lookup y.1 = some .local ∨ (scope.names.lookup y.1 = some .cell ∧ ((cellsFrom (s.heap.objs.size + 1) scope.names []).lookup y.1).isSome = true) := fun ⟨n, v⟩ hy => by
    rcases S.par n (List.of_mem_zip hy).1 with q | q
    · exact .inl q
    · exact .inr ⟨q, PySem.W.cellsFrom_some _ _ _ (.inl q)⟩
  refine codeAny_call_function hr.depth (KX _ _ lk) rfl S.co S.gen rfl (PySem.W.codeRec_of KX hcd) (hb _ _ _ _ ?_)
  refine wpAny_newFunctionEnv_cells S.kind hkind fun env he s1 x => ?_
  subst he
  refine ⟨lim.keeps x.toInCall.keep, codeAny_func ?_⟩
  obtain ⟨t, ht, hq⟩ := hbody A outer s H vs Q E (hr.deeper _) hsp
  have I : Inv (cxOf CX P w K mg base N qual scope f cdv A outer s H E) [] (start N vs) H s1 := inv_start S hr.hd e0 hl r x
  refine wpAny_mono (ht [] s1 (start N vs) H _ I hq) (fun fl s' hs => ?_) fun e s' hs => hs
  have fin : ∀ {σ' : St} {H' : Hp} {v : V} {u : Value}, Inv (cxOf CX P w K mg base N qual scope f cdv A outer s H E) [] σ' H' s' → RelV v u → Q v H' → CE outer P w H s Q u s' :=
    fun {σ' H' v u} J rv q => ⟨v, H', J.os, J.bare, J.base, J.hok, rv, q⟩
  cases fl with
  | ret u =>
    obtain ⟨v, σ', H', J, rv, q⟩ := hs
    exact fin J rv q
  | next =>
    obtain ⟨σ', H', J, q⟩ := hs
    exact fin (v := V.non) (u := Value.none) J rfl q
  | brk =>
    obtain ⟨_, _, _, q⟩ := hs
    exact False.elim q
  | cont =>
    obtain ⟨_, _, _, q⟩ := hs
    exact False.elim q
end L2
namespace L2
open PySem PySem.Spec PyProof.Rows
section
variable {X : Cx} {x : Str} {p pos : Pos} {e : Expr} {es : List Expr} {t : TA} {id T : String} {r : List V → Hp → VK → Prop}
noncomputable def tCB (r : List V → Hp → VK → Prop) (t : TA) : TE := fun σ H Q => t σ H fun vs H1 => r vs H1 Q
theorem pe_callB (hc : CallR X (.builtin id) r) (hg : Gl X x) (hm : X.mg x = none) (hv : bootBuiltins x = some (.builtin id)) (ha : PA X (e :: es) t) (hn : x ≠ "__name__" := by decide) (hdb : (x == ("__debug__" : Str)) = false := by decide)
    (he : starEach (e :: es) X.env = (false, eval e X.env) :: starEach es X.env := by rfl) (hpl : (backTo pos (starEach es X.env)).any (·.1) = false := by rfl) : PE X (.Call (.Name x p) (e :: es) [] pos) (tCB r t) := by
  intro pins s σ H Q I h
  refine wpAny_Call_Name_kw (ld_blt I hg hm hv ?_ hn hdb)
  exact PyProof.Rows.callWith_builtin1 (thn (ha pos pins s σ H _ I h) fun us s1 ⟨vs, H1, I1, r1, q1⟩ => hc pins s1 σ H1 vs us Q I1 r1 q1) he hpl
theorem pe_callTy (hc : CallR X (.type T) r) (hg : Gl X x) (hm : X.mg x = none) (hv : bootBuiltins x = some (.type T)) (ha : PA X (e :: es) t) (hn : x ≠ "__name__" := by decide) (hdb : (x == ("__debug__" : Str)) = false := by decide)
    (he : starEach (e :: es) X.env = (false, eval e X.env) :: starEach es X.env := by rfl) (hpl : (backTo pos (starEach es X.env)).any (·.1) = false := by rfl) : PE X (.Call (.Name x p) (e :: es) [] pos) (tCB r t) := by
  intro pins s σ H Q I h
  refine wpAny_Call_Name_kw (ld_blt I hg hm hv ?_ hn hdb)
  exact PyProof.Rows.callWith_type1 (thn (ha pos pins s σ H _ I h) fun us s1 ⟨vs, H1, I1, r1, q1⟩ => hc pins s1 σ H1 vs us Q I1 r1 q1) he hpl
end
end L2
namespace HT
open PySem PyProof.Rows
section
open PySem.SeqAt
open PySem.AutoSeq1 (wpAny_loadPart')
open PySem.MeetsSeq PySem.MeetsSeq2 PySem.MeetsSeq3
end
section
variable {prog : Program} {w : World} {A : Around} {E : Value → Shared → Prop} {s : Shared}
theorem cat_tup {t b : Addr} {vs ws : List Value} {Q : Value → Shared → Prop} (ht : IsTup s.heap t vs.toArray) (hb : IsTup s.heap b ws.toArray) (hv : vs ≠ [])
    (h1 : ws = [] → Q (.ref t) s) (h2 : ws ≠ [] → Q (.ref s.heap.objs.size) { s with heap := s.heap.push { cls := .type "tuple", data := .seq (vs ++ ws).toArray } })
    (hsz : vs.length + ws.length ≤ sizeLine) : wpAny (model prog w) A (binaryOp .Add (.ref t) (.ref b)) Q E s := by
  obtain ⟨⟨cls, dd, data, sl⟩, ho, hc, n, hd⟩ := id ht
  obtain ⟨⟨cls2, dd2, data2, sl2⟩, ho2, hc2, n2, hd2⟩ := id hb
  simp only at hc hd hc2 hd2
  subst hc hd hc2 hd2
  have e : vs.toArray ++ ws.toArray = (vs ++ ws).toArray := by simp
  by_cases hw : ws = []
  · exact concat_meets ⟨_, ho, rfl⟩ ⟨_, ho2, rfl⟩ noFill_tuple_add seq_tuple_add PySem.F.slot_tuple_add PySem.F.entry_tuple_add (PySem.F.args_tuple_add_2 _ _)
      (tuple_addW1 t b vs.toArray ws.toArray n n2 dd dd2 sl sl2 (by simpa using hv) (by simp [hw])) ⟨ho, ho2, h1 hw⟩
  · refine concat_meets ⟨_, ho, rfl⟩ ⟨_, ho2, rfl⟩ noFill_tuple_add seq_tuple_add PySem.F.slot_tuple_add PySem.F.entry_tuple_add (PySem.F.args_tuple_add_2 _ _)
      (tuple_addW2 t b vs.toArray ws.toArray n n2 dd dd2 sl sl2 (by simpa using hv) (by simpa using hw) (by rw [List.size_toArray, List.size_toArray]; exact hsz)) ⟨ho, ho2, ?_⟩
    rw [e]
    exact h2 hw
noncomputable def sIx (n d : Nat) : Option Int → Nat
  | none => d
  | some v => if v < 0 then (v + (n : Int)).toNat else min v.toNat n
theorem sIx_le (n d : Nat) (hd : d ≤ n) (o : Option Int) : sIx n d o ≤ n := by
  cases o with
  | none => exact hd
  | some v =>
    show (if v < 0 then (v + (n : Int)).toNat else min v.toNat n) ≤ n
    by_cases hv : v < 0
    · rw [if_pos hv]; omega
    · rw [if_neg hv]; exact Nat.min_le_right _ _
theorem clip_eq (v : Int) (n d : Nat) : (if v < 0 then max (v + (n : Int)) 0 else min v (n : Int)) = ((sIx n d (some v) : Nat) : Int) := by
  show (if v < 0 then max (v + (n : Int)) 0 else min v (n : Int)) = (((if v < 0 then (v + (n : Int)).toNat else min v.toNat n) : Nat) : Int)
  by_cases hv : v < 0
  · simp only [if_pos hv]; omega
  · simp only [if_neg hv]; omega
theorem adjust_gen (lo hi : Option Int) (n : Nat) : Builtin.Slice.sliceAdjust lo hi 1 (n : Int) = (((sIx n 0 lo : Nat) : Int), ((sIx n n hi : Nat) : Int)) := by
  have h1 : ¬ ((1 : Int) < 0) := by omega
  unfold Builtin.Slice.sliceAdjust
  simp only [h1, if_false]
  refine Prod.ext ?_ ?_
  · cases lo with
    | none => rfl
    | some v => exact clip_eq v n 0
  · cases hi with
    | none => rfl
    | some v => exact clip_eq v n n
theorem places_gen (i j : Nat) : Builtin.Slice.slicePlaces (i : Int) (j : Int) 1 = j - i := by
  unfold Builtin.Slice.slicePlaces
  have h1 : (1 : Int) > 0 := by omega
  simp only [h1, if_true, Int.ediv_one]
  split <;> omega
theorem slicePart_ {v : Value} {o : Option Int} {Q : Option Int → Shared → Prop} (p : IsPart v o) (h : Q o s) : wpAny (model prog w) A (Builtin.Slice.slicePartIndex v) Q E s := by
  cases p with
  | none => exact slicePart_none h
  | int i t => exact slicePart_int h
theorem sliceApplied_gen {sl : Addr} {vl vu : Value} {lo hi : Option Int} {n : Nat} {Q : Int × Int × Nat → Shared → Prop} (hs : s.heap.IsSliceOf sl vl vu .none) (pl : IsPart vl lo) (pu : IsPart vu hi)
    (h : Q (((sIx n 0 lo : Nat) : Int), 1, sIx n n hi - sIx n 0 lo) s) : wpAny (model prog w) A (Builtin.Slice.sliceApplied (.ref sl) (pure (n : Int))) Q E s := by
  obtain ⟨os, hos, hcs, hds⟩ := id hs
  unfold Builtin.Slice.sliceApplied Builtin.Slice.sliceFields
  refine wpAny_bind (wpAny_bind (wpAny_field hos hds (x := vl) rfl (wpAny_bind (wpAny_field hos hds (x := vu) rfl (wpAny_bind (wpAny_field hos hds (x := .none) rfl (wpAny_pure ?_)))))))
  refine wpAny_bind (slicePart_none ?_)
  show wpAny _ _ (if ((1 : Int) == 0) = true then _ else _) _ _ s
  rw [if_neg (by decide)]
  refine wpAny_bind (slicePart_ pl (wpAny_bind (slicePart_ pu (wpAny_bind (wpAny_pure ?_)))))
  show wpAny _ _ (match Builtin.Slice.sliceAdjust lo hi 1 (n : Int) with | (lo, hi) => pure (lo, (1 : Int), Builtin.Slice.slicePlaces lo hi 1)) _ _ s
  rw [adjust_gen lo hi n]
  show wpAny _ _ (pure (((sIx n 0 lo : Nat) : Int), (1 : Int), Builtin.Slice.slicePlaces ((sIx n 0 lo : Nat) : Int) ((sIx n n hi : Nat) : Int) 1)) _ _ s
  rw [places_gen]
  exact wpAny_pure h
theorem pick_gen (xs : Array Value) (i k : Nat) : ((List.range k).filterMap fun (m : Nat) => xs[((i : Int) + (m : Int) * 1).toNat]?).toArray = ((xs.toList.drop i).take k).toArray := by
  have e : (fun (m : Nat) => xs[((i : Int) + (m : Int) * 1).toNat]?) = fun m => xs[i + m]? := by
    funext m
    have : ((i : Int) + (m : Int) * 1).toNat = i + m := by omega
    rw [this]
  rw [e]
  have := pick_run xs i k
  rw [List.filterMap_map] at this
  have e2 : ((fun x => xs[x]?) ∘ fun x => i + x) = fun m => xs[i + m]? := rfl
  rw [e2] at this
  rw [this]
theorem getItem_tuple_cut {t sl : Addr} {items : Array Value} {vl vu : Value} {lo hi : Option Int} {Q : Value → Shared → Prop} (ht : IsTup s.heap t items) (hs : s.heap.IsSliceOf sl vl vu .none) (pl : IsPart vl lo) (pu : IsPart vu hi)
    (hw : ¬ (sIx items.size 0 lo = 0 ∧ sIx items.size items.size hi = items.size))
    (h : Q (.ref s.heap.objs.size) { s with heap := s.heap.push { cls := .type "tuple", data := .seq ((items.toList.drop (sIx items.size 0 lo)).take (sIx items.size items.size hi - sIx items.size 0 lo)).toArray } })
    (hsz : items.size ≤ sizeLine) : wpAny (model prog w) A (getItem (.ref t) (.ref sl)) Q E s := by
  have htake : sizeOk (.seq ((items.toList.drop (sIx items.size 0 lo)).take (sIx items.size items.size hi - sIx items.size 0 lo)).toArray) := by
    show ((items.toList.drop (sIx items.size 0 lo)).take (sIx items.size items.size hi - sIx items.size 0 lo)).toArray.size ≤ sizeLine
    rw [List.size_toArray, List.length_take, List.length_drop, Array.length_toList]
    omega
  have hj : sIx items.size items.size hi ≤ items.size := sIx_le _ _ (Nat.le_refl _) hi
  obtain ⟨os, hos, hcs, hds⟩ := id hs
  have hTs : s.TypeIs (.ref sl) "slice" := ⟨os, hos, hcs⟩
  unfold getItem
  try with_reducible refine wpAny_holding ?_
  first | refine wpAny_bind (wpAny_pure ?_) | skip
  refine wpAny_bind (wpAny_sequenceKey ht.typeIs (by decide) ?_)
  refine wpAny_bind (wpAny_callSpecial?_slot (name := Str.ofString "__getitem__") ht.typeIs PyProof.Rows.slot_tuple_getitem
    (wpAny_call_entry PyProof.Rows.slot_tuple_getitem ht.typeIs entry_tuple_getitem ?_ (args_tuple_getitem _ _)))
  show wpAny _ _ (Builtin.Tuple.tupleItemsOf (.ref t) >>= _) _ _ s
  refine wpAny_bind (tupleItemsOf_ ht ?_)
  refine wpAny_bind (wpAny_typeOf hTs ?_)
  rw [if_pos (by decide)]
  refine wpAny_bind (sliceApplied_gen hs pl pu ?_)
  have hno : ¬ ((((sIx items.size 0 lo : Nat) : Int) == 0 && (1 : Int) == 1 && (sIx items.size items.size hi - sIx items.size 0 lo) == items.size) = true) := by
    intro q
    rw [Bool.and_eq_true, Bool.and_eq_true] at q
    have q1 : ((sIx items.size 0 lo : Nat) : Int) = 0 := eq_of_beq q.1.1
    have q2 : sIx items.size items.size hi - sIx items.size 0 lo = items.size := eq_of_beq q.2
    exact hw ⟨by omega, by omega⟩
  show wpAny _ _ (if (((sIx items.size 0 lo : Nat) : Int) == 0 && (1 : Int) == 1 && (sIx items.size items.size hi - sIx items.size 0 lo) == items.size) = true then _ else _) _ _ s
  rw [if_neg hno, pick_gen]
  first
    | exact wpAny_bind (m := Builtin.Tuple.tupleExact _) (wpAny_newObj_type (wpAny_pure ⟨_, rfl, wpAny_pure h⟩) htake)
    | exact wpAny_bind (m := Builtin.Tuple.tupleExact _) (wpAny_newObj_type (wpAny_bind (wpAny_pure (wpAny_pure ⟨_, rfl, wpAny_pure h⟩))) htake)
    | exact wpAny_bind (wpAny_bind (m := Builtin.Tuple.tupleExact _) (wpAny_newObj_type (wpAny_pure (wpAny_pure ⟨_, rfl, wpAny_pure h⟩)) htake))
    | exact wpAny_bind (wpAny_bind (m := Builtin.Tuple.tupleExact _) (wpAny_newObj_type (wpAny_pure ⟨_, rfl, wpAny_pure h⟩) htake))
end
end HT
namespace L2
open PySem PySem.Spec PyProof.Rows
noncomputable abbrev TO := St → Hp → (Option Int → Hp → Prop) → Prop
noncomputable def PO (X : Cx) (e : Option Expr) (t : TO) : Prop :=
  ∀ (pins : List (Addr × Obj)) (s : Shared) (σ : St) (H : Hp) (Q : Option Int → Hp → Prop), Inv X pins σ H s → t σ H Q →
    wpAny (model X.prog X.w) X.A (evalPart e X.env) (fun u s' => ∃ o H', Inv X pins σ H' s' ∧ IsPart u o ∧ Q o H') X.xe s
noncomputable def tNoPart : TO := fun _ H Q => Q none H
noncomputable def tPart (t : TE) : TO := fun σ H Q => t σ H fun x H1 => ∃ i, x = .int i ∧ Q (some i) H1
section
variable {X : Cx} {e : Expr} {te : TE} {lo hi : Option Expr} {tl th : TO} {pos p2 : Pos}
theorem po_none : PO X none tNoPart := by
  intro pins s σ H Q I h
  rw [evalPart_none]
  exact wpAny_pure ⟨none, H, I, .none, h⟩
theorem po_some (h : PE X e te) : PO X (some e) (tPart te) := by
  intro pins s σ H Q I hw
  rw [evalPart_some]
  refine thn (h pins s σ H _ I hw) fun u s1 ⟨x, H1, I1, r1, q1⟩ => ?_
  obtain ⟨i, rfl, q⟩ := q1
  obtain ⟨t, rfl⟩ := r1
  exact ⟨some i, H1, I1, .int i t, q⟩
noncomputable def SlR (X : Cx) (r : V → Option Int → Option Int → Hp → VK → Prop) : Prop :=
  ∀ (pins : List (Addr × Obj)) (s : Shared) (σ : St) (H : Hp) (x : V) (v vl vu : Value) (lo hi : Option Int) (sl : Addr) (Q : VK), Inv X pins σ H s → RelV x v → s.heap.IsSliceOf sl vl vu .none → IsPart vl lo → IsPart vu hi → r x lo hi H Q →
    ∃ T id, typeLookup (.type T) "__getitem__" = pure (some (.builtin id)) ∧ s.TypeIs v T ∧ wpAny (model X.prog X.w) X.A (getItem v (.ref sl)) (EP X pins σ Q) X.xe s
theorem SlR.or {r r' : V → Option Int → Option Int → Hp → VK → Prop} (h : SlR X r) (h' : SlR X r') : SlR X (fun x lo hi H Q => r x lo hi H Q ∨ r' x lo hi H Q) := by
  intro pins s σ H x v vl vu lo hi sl Q I rx hs pl pu q
  rcases q with q | q
  · exact h pins s σ H x v vl vu lo hi sl Q I rx hs pl pu q
  · exact h' pins s σ H x v vl vu lo hi sl Q I rx hs pl pu q
noncomputable def tSl (r : V → Option Int → Option Int → Hp → VK → Prop) (te : TE) (tl th : TO) : TE := fun σ H Q => te σ H fun x H1 => tl σ H1 fun l H2 => th σ H2 fun u H3 => r x l u H3 Q
theorem pe_slice {r : V → Option Int → Option Int → Hp → VK → Prop} (hr : SlR X r) (he : PE X e te) (hl : PO X lo tl) (hu : PO X hi th) : PE X (.Subscript e (.Slice lo hi none p2) pos) (tSl r te tl th) := by
  intro pins s σ H Q I h
  refine Subscript_ (thn (he pins s σ H _ I h) fun v s1 ⟨x, H1, I1, r1, q1⟩ => ?_)
  refine wpAny_Slice (thn (hl pins s1 σ H1 _ I1 q1) fun vl s2 ⟨l, H2, I2, pl, q2⟩ => thn (hu pins s2 σ H2 _ I2 q2) fun vu s3 ⟨u, H3, I3, pu, q3⟩ => ?_)
  rw [evalPart_none]
  refine wpAny_pure ?_
  have I4 : Inv X pins σ H3 { s3 with heap := s3.heap.push { cls := .type "slice", data := .fields #[vl, vu, .none] } } := I3.kept (t' := s3.toks) fun b ob q => Heap.get?_push_of_some _ q
  obtain ⟨T, id, hT, ht, hg⟩ := hr pins { s3 with heap := s3.heap.push { cls := .type "slice", data := .fields #[vl, vu, .none] } } σ H3 x v vl vu l u s3.heap.objs.size Q I4 r1 (Heap.IsSliceOf.new ..) pl pu q3
  show wpAny (model X.prog X.w) X.A (subscriptTail e (.Slice lo hi none p2) v (.ref s3.heap.objs.size)) (EP X pins σ Q) X.xe { s3 with heap := s3.heap.push { cls := .type "slice", data := .fields #[vl, vu, .none] } }
  exact tail_any (ops := [.ref s3.heap.objs.size, v]) ht hT hg (by with_unfolding_all rfl)
noncomputable def cutV (xs : List V) (lo hi : Option Int) : List V := (xs.drop (HT.sIx xs.length 0 lo)).take (HT.sIx xs.length xs.length hi - HT.sIx xs.length 0 lo)
theorem cutV_length (xs : List V) (lo hi : Option Int) : (cutV xs lo hi).length ≤ xs.length := by
  unfold cutV
  rw [List.length_take, List.length_drop]
  omega
noncomputable def rSlT (K : PySem.W.Frag) : V → Option Int → Option Int → Hp → VK → Prop := fun x lo hi H Q => ∃ a xs, x = .ref a ∧ SqT K H a xs ∧
  ¬ (HT.sIx xs.length 0 lo = 0 ∧ HT.sIx xs.length xs.length hi = xs.length) ∧ ∀ p, H p = none → Q (.ref p) (upd H p (.tup (cutV xs lo hi)))
theorem sl_tup : SlR X (rSlT X.K) := by
  intro pins s σ H x v vl vu lo hi sl Q I rx hs pl pu h
  obtain ⟨a, xs, rfl, hx, hw, q⟩ := h
  cases rx
  obtain ⟨its, r, ht, hz⟩ := I.tuple hx
  have hlen : its.toArray.size = xs.length := by rw [List.size_toArray]; exact r.length.symm
  refine ⟨"tuple", _, PyProof.Rows.slot_tuple_getitem.lookup, ht.typeIs, ?_⟩
  refine HT.getItem_tuple_cut ht hs pl pu (by rw [hlen]; exact hw) ?_ (by rw [hlen]; exact hz)
  rw [hlen]
  refine ⟨.ref s.heap.objs.size, _, I.laid (t' := s.toks) (o := .tup (cutV xs lo hi)) (fun b ob q => Heap.get?_push_of_some _ q) (Nat.le_refl _) ?_, rfl, q _ (I.hok.fresh (Nat.le_refl _))⟩
  exact ⟨Nat.le_trans (cutV_length xs lo hi) hz, _, (r.drop (HT.sIx xs.length 0 lo)).take (HT.sIx xs.length xs.length hi - HT.sIx xs.length 0 lo), TupP.new _ _⟩
noncomputable def rCatT (K : PySem.W.Frag) : R2 := fun x y H Q => ∃ a b xs ys, x = .ref a ∧ y = .ref b ∧ SqT K H a xs ∧ SqT K H b ys ∧ xs ≠ [] ∧ xs.length + ys.length ≤ sizeLine ∧
  (ys = [] → Q (.ref a) H) ∧ (ys ≠ [] → ∀ p, H p = none → Q (.ref p) (upd H p (.tup (xs ++ ys))))
theorem Vals.nil_iff {xs : List V} {us : List Value} (r : Vals xs us) : us = [] ↔ xs = [] := by
  cases r with
  | nil => simp
  | cons _ _ => simp
theorem op_catT : OpR X (binaryOp .Add) (rCatT X.K) := by
  intro pins s σ H x y v u Q I rx ry h
  obtain ⟨a, b, xs, ys, rfl, rfl, ha, hb, hx, hz, q1, q2⟩ := h
  cases rx
  cases ry
  obtain ⟨its, r1, p1, _⟩ := I.tuple ha
  obtain ⟨its2, r2, p2, _⟩ := I.tuple hb
  refine HT.cat_tup p1 p2 (fun z => hx (r1.nil_iff.mp z)) (fun z => ⟨.ref a, H, I, rfl, q1 (r2.nil_iff.mp z)⟩) (fun z => ?_) (by rw [← r1.length, ← r2.length]; exact hz)
  refine ⟨.ref s.heap.objs.size, _, I.laid (t' := s.toks) (o := .tup (xs ++ ys)) (fun b ob q => Heap.get?_push_of_some _ q) (Nat.le_refl _) ?_, rfl, q2 (fun w => z (r2.nil_iff.mpr w)) _ (I.hok.fresh (Nat.le_refl _))⟩
  exact ⟨by rw [List.length_append]; exact hz, _, r1.append r2, TupP.new _ _⟩
end
end L2
namespace L2
open PySem PySem.Spec PyProof.Rows
noncomputable def ixN (n : Nat) (i : Int) : Option Nat := if 0 ≤ i then (if i < n then some i.toNat else none) else if -(n : Int) ≤ i then some (i + n).toNat else none
noncomputable def atI {α : Type} (xs : List α) (i : Int) : Option α := (ixN xs.length i).bind fun j => xs[j]?
theorem ixN_seq {n : Nat} {i : Int} {j : Nat} (h : ixN n i = some j) : seqIndex? i n = some j ∧ j < n ∧ -(n : Int) ≤ i ∧ i < n := by
  unfold ixN at h
  by_cases h0 : 0 ≤ i
  · rw [if_pos h0] at h
    by_cases h1 : i < n
    · rw [if_pos h1] at h
      have e : i.toNat = j := Option.some.inj h
      exact ⟨by rw [seqIndex_of h0 h1, e], by omega, by omega, h1⟩
    · rw [if_neg h1] at h; cases h
  · rw [if_neg h0] at h
    by_cases h1 : -(n : Int) ≤ i
    · rw [if_pos h1] at h
      have e : (i + n).toNat = j := Option.some.inj h
      exact ⟨by rw [seqIndex_neg (by omega) h1, e], by omega, h1, by omega⟩
    · rw [if_neg h1] at h; cases h
theorem atI_get {α : Type} {xs : List α} {i : Int} {v : α} (h : atI xs i = some v) : ∃ j, seqIndex? i xs.length = some j ∧ xs[j]? = some v ∧ j < xs.length ∧ -(xs.length : Int) ≤ i ∧ i < xs.length := by
  unfold atI at h
  cases e : ixN xs.length i with
  | none => rw [e] at h; cases h
  | some j =>
    rw [e] at h
    obtain ⟨h1, h2, h3, h4⟩ := ixN_seq e
    exact ⟨j, h1, h, h2, h3, h4⟩
noncomputable def PlainIx (b : Expr) : Prop := ∀ o i, subscripted b false o i = operate [o, i] (getItem o i)
noncomputable def IxR (X : Cx) (r : R2) : Prop :=
  ∀ (value slice : Expr) (pins : List (Addr × Obj)) (s : Shared) (σ : St) (H : Hp) (x y : V) (v u : Value) (Q : VK), Inv X pins σ H s → RelV x v → RelV y u → r x y H Q →
    subscripted slice false v u = operate [v, u] (getItem v u) → wpAny (model X.prog X.w) X.A (subscriptTail value slice v u) (EP X pins σ Q) X.xe s
noncomputable def MtR (X : Cx) (id : String) (r : V → List V → Hp → VK → Prop) : Prop :=
  ∀ (pins : List (Addr × Obj)) (s : Shared) (σ : St) (H : Hp) (x : V) (xs : List V) (v : Value) (us : List Value) (Q : VK), Inv X pins σ H s → RelV x v → Vals xs us → r x xs H Q →
    wpAny (model X.prog X.w) X.A (call (.builtin id) (v :: us)) (EP X pins σ Q) X.xe s
section
variable {X : Cx} {a b : Expr} {ta tb : TE} {pos : Pos}
theorem IxR.or {r r' : R2} (h : IxR X r) (h' : IxR X r') : IxR X (fun x y H Q => r x y H Q ∨ r' x y H Q) := by
  intro value slice pins s σ H x y v u Q I rx ry q hs
  rcases q with q | q
  · exact h value slice pins s σ H x y v u Q I rx ry q hs
  · exact h' value slice pins s σ H x y v u Q I rx ry q hs
theorem MtR.or {id : String} {r r' : V → List V → Hp → VK → Prop} (h : MtR X id r) (h' : MtR X id r') : MtR X id (fun x xs H Q => r x xs H Q ∨ r' x xs H Q) := by
  intro pins s σ H x xs v us Q I rx rs q
  rcases q with q | q
  · exact h pins s σ H x xs v us Q I rx rs q
  · exact h' pins s σ H x xs v us Q I rx rs q
theorem pe_ix {r : R2} (hr : IxR X r) (ha : PE X a ta) (hb : PE X b tb) (hs : PlainIx b) : PE X (.Subscript a b pos) (tOp r ta tb) := by
  intro pins s σ H Q I h
  exact Subscript_ (binT ha hb I h fun v u s2 x y H2 I2 rx ry q => hr a b pins s2 σ H2 x y v u Q I2 rx ry q (hs _ _))
noncomputable def rIxL (K : PySem.W.Frag) : R2 := fun x y H Q => ∃ p xs i v, x = .ref p ∧ y = .int i ∧ SqL K H p xs ∧ atI xs i = some v ∧ Q v H
noncomputable def rIxT (K : PySem.W.Frag) : R2 := fun x y H Q => ∃ p xs i v, x = .ref p ∧ y = .int i ∧ SqT K H p xs ∧ atI xs i = some v ∧ Q v H
noncomputable def rIxS : R2 := fun x y H Q => ∃ z i c, x = .str z ∧ y = .int i ∧ z.length ≤ sizeLine ∧ atI z.cps.toList i = some c ∧ Q (.str ⟨#[c]⟩) H
theorem ix_list : IxR X (rIxL X.K) := by
  intro value slice pins s σ H x y v u Q I rx ry h hs
  obtain ⟨p, xs, i, z, rfl, rfl, hq, he, q⟩ := h
  cases rx
  obtain ⟨t, rfl⟩ := ry
  obtain ⟨its, r, pl, hz⟩ := I.list hq
  obtain ⟨j, h1, h2, h3, h4, h5⟩ := atI_get he
  obtain ⟨w, ew, rw'⟩ := r.get h2
  have hl := r.length
  have hn := line63
  have fin : EP X pins σ Q w s := ⟨z, H, I, rw', q⟩
  by_cases h0 : 0 ≤ i
  · have hj : i.toNat = j := by
      rw [seqIndex_of h0 h5] at h1
      exact Option.some.inj h1
    exact item_listR pl.isList h0 (by omega) (by rw [hj]; simpa using ew) fin hs
  · have hj : (i + (its.toArray.size : Int)).toNat = j := by
      rw [seqIndex_neg (by omega) h4] at h1
      rw [List.size_toArray, ← hl]
      exact Option.some.inj h1
    exact subscriptTail_builtinR (x := w) pl.isList.typeIs slot_list_getitem.lookup
      (wpAny_getItem_list_neg (Q := fun r s' => r = w ∧ EP X pins σ Q r s') pl.isList (by omega) (by rw [List.size_toArray] <;> omega) (by omega) (by rw [hj]; simpa using ew) ⟨rfl, fin⟩) hs
theorem ix_tup : IxR X (rIxT X.K) := by
  intro value slice pins s σ H x y v u Q I rx ry h hs
  obtain ⟨p, xs, i, z, rfl, rfl, hq, he, q⟩ := h
  cases rx
  obtain ⟨t, rfl⟩ := ry
  obtain ⟨its, r, pl, hz⟩ := I.tuple hq
  obtain ⟨j, h1, h2, h3, h4, h5⟩ := atI_get he
  obtain ⟨w, ew, rw'⟩ := r.get h2
  have hl := r.length
  have hn := line63
  have fin : EP X pins σ Q w s := ⟨z, H, I, rw', q⟩
  exact subscriptTail_builtinR (x := w) pl.typeIs slot_tuple_getitem.lookup
    (getItem_tuple (j := j) (Q := fun r s' => r = w ∧ EP X pins σ Q r s') pl (by omega) (by omega) (by rw [List.size_toArray, ← hl]; exact h1) (by simpa using ew) ⟨rfl, fin⟩) hs
theorem ix_str : IxR X rIxS := by
  intro value slice pins s σ H x y v u Q I rx ry h hs
  obtain ⟨z, i, c, rfl, rfl, hz, he, q⟩ := h
  obtain ⟨t, rfl⟩ := rx
  obtain ⟨t', rfl⟩ := ry
  obtain ⟨j, h1, h2, h3, h4, h5⟩ := atI_get he
  have hl : z.cps.toList.length = z.length := by simp [Str.length]
  rw [hl] at h1 h4 h5
  have hn := line63
  exact tail_any (typeIs_str s z t) slot_str_getitem.lookup (getItem_str (c := c) (by
    have e1 : decide (i < -(2 ^ 63 : Int)) = false := decide_eq_false (by omega)
    have e2 : decide (i ≥ 2 ^ 63) = false := decide_eq_false (by omega)
    rw [e1, e2, Bool.or_false]) (by rw [h1]; simpa using h2) ⟨.str ⟨#[c]⟩, H, I.tok _, ⟨_, rfl⟩, q⟩) hs
theorem mapSeq_set (its : List Value) (n j : Nat) (u : Value) : Obj.mapSeq (·.setIfInBounds j u) { cls := .type "list", data := .seq its.toArray n } = { cls := .type "list", data := .seq (its.set j u).toArray n } := by
  simp [Obj.mapSeq]
theorem Inv.lst {pins : List (Addr × Obj)} {σ : St} {H : Hp} {s : Shared} {p : Addr} {xs : List V} (I : Inv X pins σ H s) (h : H p = some (.lst xs)) :
    ∃ (its : List Value) (n : Nat), Vals xs its ∧ s.heap.get? p = some { cls := .type "list", data := .seq its.toArray n } ∧ xs.length ≤ sizeLine := by
  obtain ⟨z, its, n, r, e⟩ := I.hok p _ h
  exact ⟨its, n, r, e, z⟩
theorem Inv.lstUpd {pins : List (Addr × Obj)} {σ : St} {H : Hp} {s : Shared} {p : Addr} {xs ys : List V} {its its' : List Value} {n n' : Nat} {f : Obj → Obj} (I : Inv X pins σ H s) (h : H p = some (.lst xs))
    (ho : s.heap.get? p = some { cls := .type "list", data := .seq its.toArray n }) (hf : f { cls := .type "list", data := .seq its.toArray n } = { cls := .type "list", data := .seq its'.toArray n' }) (r : Vals ys its') (hz : ys.length ≤ sizeLine) (t : Nat) :
    Inv X pins σ (upd H p (.lst ys)) { s with heap := s.heap.update p f, toks := t } := by
  have e : (s.heap.update p f).get? p = some { cls := .type "list", data := .seq its'.toArray n' } := by
    rw [Heap.get?_update_self f ho (by rw [hf] <;> rfl), hf]
  refine I.write (x := p) (e := p) (by rw [h]; trivial) (.inl rfl) (fun b u hb q => (Heap.get?_update_other _ _ (Ne.symm hb)).trans q) ⟨_, e⟩ ?_
  exact ⟨hz, its', n', r, e⟩
noncomputable def rSetL : V → V → V → Hp → (Hp → Prop) → Prop := fun o i v H Q => ∃ p xs k j, o = .ref p ∧ i = .int k ∧ H p = some (.lst xs) ∧ ixN xs.length k = some j ∧ Q (upd H p (.lst (xs.set j v)))
theorem set_list : PSet X rSetL := by
  intro pins s σ H o i v ov iv u Q I ro ri rv h
  obtain ⟨p, xs, k, j, rfl, rfl, hp, hj, q⟩ := h
  cases ro
  obtain ⟨t, rfl⟩ := ri
  obtain ⟨its, n, r, ho, hz⟩ := I.lst hp
  obtain ⟨h1, h2, h3, h4⟩ := ixN_seq hj
  have hl := r.length
  have hn := line63
  have I' : Inv X pins σ (upd H p (.lst (xs.set j v))) { s with heap := s.heap.update p (Obj.mapSeq (·.setIfInBounds j u)) } :=
    I.lstUpd hp ho (mapSeq_set its n j u) (r.set rv j) (by rw [List.length_set]; exact hz) s.toks
  by_cases h0 : 0 ≤ k
  · have hk : k.toNat = j := by
      rw [seqIndex_of h0 h4] at h1
      exact Option.some.inj h1
    exact PySem.W.ki_setAt ho h0 (by omega) (by rw [List.size_toArray, ← hl]; exact h4) (by rw [hk]; exact ⟨_, I', q⟩)
  · have hk : (k + (its.toArray.size : Int)).toNat = j := by
      rw [seqIndex_neg (by omega) h3] at h1
      rw [List.size_toArray, ← hl]
      exact Option.some.inj h1
    exact PySem.W.ki_setBack ho (by omega) (by rw [List.size_toArray, ← hl]; exact h3) (by omega) (by rw [hk]; exact ⟨_, I', q⟩)
theorem slice_bounds (lo hi : Option Int) (n : Nat) : (sliceBounds lo hi none n).1 = ((HT.sIx n 0 lo : Nat) : Int) ∧ (sliceBounds lo hi none n).2.1 = ((HT.sIx n n hi : Nat) : Int) ∧ (sliceBounds lo hi none n).2.2 = 1 := by
  refine ⟨?_, ?_, rfl⟩
  · cases lo with
    | none => simp [sliceBounds, HT.sIx]
    | some i =>
      simp only [sliceBounds, HT.sIx, Option.getD_none, show (1 : Int) > 0 by decide, if_true]
      by_cases h : i < 0
      · simp only [h, if_true] <;> omega
      · simp only [h, if_false] <;> omega
  · cases hi with
    | none => simp [sliceBounds, HT.sIx]
    | some i =>
      simp only [sliceBounds, HT.sIx, Option.getD_none, show (1 : Int) > 0 by decide, if_true]
      by_cases h : i < 0
      · simp only [h, if_true] <;> omega
      · simp only [h, if_false] <;> omega
theorem slicePick_cut (its : List Value) (lo hi : Option Int) : slicePick its.toArray lo hi none = ((its.drop (HT.sIx its.length 0 lo)).take (HT.sIx its.length its.length hi - HT.sIx its.length 0 lo)).toArray := by
  obtain ⟨h1, h2, h3⟩ := slice_bounds lo hi its.toArray.size
  unfold slicePick
  rw [h1, h2, h3]
  simp only [sliceRange_one, pick_run, List.size_toArray] <;> rfl
noncomputable def rSlL (K : PySem.W.Frag) : V → Option Int → Option Int → Hp → VK → Prop := fun x lo hi H Q => ∃ a xs, x = .ref a ∧ SqL K H a xs ∧ ∀ p, H p = none → Q (.ref p) (upd H p (.lst (cutV xs lo hi)))
theorem sl_list : SlR X (rSlL X.K) := by
  intro pins s σ H x v vl vu lo hi sl Q I rx hs pl pu h
  obtain ⟨a, xs, rfl, hx, q⟩ := h
  cases rx
  obtain ⟨its, r, ht, hz⟩ := I.list hx
  have hlen := r.length
  refine ⟨"list", _, slot_list_getitem.lookup, ht.isList.typeIs, ?_⟩
  refine wpAny_getItem_list_slice ht.isList hs pl pu .none (by simp) ?_ (by rw [List.size_toArray] <;> omega)
  rw [slicePick_cut, ← hlen]
  refine ⟨.ref s.heap.objs.size, _, I.laid (t' := s.toks) (o := .lst (cutV xs lo hi)) (fun b ob q => Heap.get?_push_of_some _ q) (Nat.le_refl _) ?_, rfl, q _ (I.hok.fresh (Nat.le_refl _))⟩
  exact ⟨Nat.le_trans (cutV_length xs lo hi) hz, _, 0, (r.drop (HT.sIx xs.length 0 lo)).take (HT.sIx xs.length xs.length hi - HT.sIx xs.length 0 lo), Heap.get?_push_size _ rfl⟩
noncomputable def flatV : V → Bool
  | .non => true
  | .bl _ => true
  | .int _ => true
  | .str _ => true
  | _ => false
noncomputable def eqV : V → V → Bool
  | .non, .non => true
  | .bl a, .bl b => a == b
  | .bl a, .int b => (if a then 1 else 0) == b
  | .int a, .bl b => a == (if b then 1 else 0)
  | .int a, .int b => a == b
  | .str a, .str b => a == b
  | _, _ => false
theorem eqAt_V {A : Around} {s : Shared} {y x : V} {u v : Value} (ry : RelV y u) (rx : RelV x v) (fy : flatV y = true) (fx : flatV x = true) : SeqAt.EqAt A s u v (eqV y x) := by
  cases y with
  | non =>
    cases ry
    cases x with
    | non => cases rx; exact SeqAt.EqAt.same _
    | bl b => cases rx; exact SeqAt.EqAt.none_bool b
    | int b => obtain ⟨t, rfl⟩ := rx; exact SeqAt.EqAt.none_int b t
    | str b => obtain ⟨t, rfl⟩ := rx; exact SeqAt.EqAt.none_str b t
    | _ => exact absurd (show false = true from fx) Bool.false_ne_true
  | bl a =>
    cases ry
    cases x with
    | non => cases rx; exact SeqAt.EqAt.bool_none a
    | bl b => cases rx; exact SeqAt.EqAt.bool_bool a b
    | int b => obtain ⟨t, rfl⟩ := rx; exact SeqAt.EqAt.bool_int a b t
    | str b => obtain ⟨t, rfl⟩ := rx; exact SeqAt.EqAt.bool_str a b t
    | _ => exact absurd (show false = true from fx) Bool.false_ne_true
  | int a =>
    obtain ⟨t', rfl⟩ := ry
    cases x with
    | non => cases rx; exact SeqAt.EqAt.int_none a t'
    | bl b => cases rx; exact SeqAt.EqAt.int_bool a t' b
    | int b => obtain ⟨t, rfl⟩ := rx; exact SeqAt.EqAt.int_int a t' b t
    | str b => obtain ⟨t, rfl⟩ := rx; exact SeqAt.EqAt.int_str a t' b t
    | _ => exact absurd (show false = true from fx) Bool.false_ne_true
  | str a =>
    obtain ⟨t', rfl⟩ := ry
    cases x with
    | non => cases rx; exact SeqAt.EqAt.str_none a t'
    | bl b => cases rx; exact SeqAt.EqAt.str_bool a t' b
    | int b => obtain ⟨t, rfl⟩ := rx; exact SeqAt.EqAt.str_int a t' b t
    | str b => obtain ⟨t, rfl⟩ := rx; exact SeqAt.EqAt.str_str a t' b t
    | _ => exact absurd (show false = true from fx) Bool.false_ne_true
  | _ => exact absurd (show false = true from fy) Bool.false_ne_true
noncomputable def eqU (x : V) (u : Value) : Bool := match u with
  | .none => eqV .non x
  | .bool b => eqV (.bl b) x
  | .int i _ => eqV (.int i) x
  | .str z _ => eqV (.str z) x
  | _ => false
theorem eqU_of {x y : V} {u : Value} (r : RelV y u) (f : flatV y = true) : eqU x u = eqV y x := by
  cases y with
  | non => cases r; rfl
  | bl b => cases r; rfl
  | int i => obtain ⟨t, rfl⟩ := r; rfl
  | str z => obtain ⟨t, rfl⟩ := r; rfl
  | _ => exact absurd (show false = true from f) Bool.false_ne_true
theorem any_eqU {x : V} : ∀ {xs : List V} {us : List Value}, Vals xs us → xs.all flatV = true → us.any (eqU x) = xs.any fun y => eqV y x
  | _, _, .nil, _ => rfl
  | y :: xs, u :: us, .cons r t, f => by
    rw [List.all_cons, Bool.and_eq_true] at f
    rw [List.any_cons, List.any_cons, eqU_of r f.1, any_eqU t f.2]
theorem mem_eqAt {A : Around} {s : Shared} {x : V} {v : Value} (rx : RelV x v) (fx : flatV x = true) : ∀ {xs : List V} {us : List Value}, Vals xs us → xs.all flatV = true → ∀ u ∈ us, SeqAt.EqAt A s u v (eqU x u)
  | _, _, .nil, _ => fun u hu => by cases hu
  | y :: xs, u :: us, .cons r t, f => fun u' hu => by
    rw [List.all_cons, Bool.and_eq_true] at f
    rcases List.mem_cons.mp hu with rfl | hu
    · rw [eqU_of r f.1]; exact eqAt_V r rx f.1 fx
    · exact mem_eqAt rx fx t f.2 u' hu
noncomputable def inV (x : V) (xs : List V) : Bool := xs.any fun y => eqV y x
noncomputable def rIn (K : PySem.W.Frag) (neg : Bool) : R2 := fun x y H Q => ∃ p xs, y = .ref p ∧ (SqL K H p xs ∨ SqT K H p xs) ∧ flatV x = true ∧ xs.all flatV = true ∧ Q (.bl (if neg then !inV x xs else inV x xs)) H
theorem op_in_seq : OpR X (compareOp .In) (rIn X.K false) := by
  intro pins s σ H x y v u Q I rx ry h
  obtain ⟨p, xs, rfl, hq, fx, fs, q⟩ := h
  cases ry
  rcases hq with hq | hq
  · obtain ⟨its, r, pl, hz⟩ := I.list hq
    refine SeqAt.in_listAt (eqU x) pl.isList (fun w hw => mem_eqAt rx fx r fs w (by simpa using hw)) ⟨.bl _, H, I, rfl, ?_⟩
    rw [show its.toArray.any (eqU x) = its.any (eqU x) by simp, any_eqU r fs]
    exact q
  · obtain ⟨its, r, pl, hz⟩ := I.tuple hq
    refine SeqAt.in_tupleAt (eqU x) pl (fun w hw => mem_eqAt rx fx r fs w (by simpa using hw)) ⟨.bl _, H, I, rfl, ?_⟩
    rw [show its.toArray.any (eqU x) = its.any (eqU x) by simp, any_eqU r fs]
    exact q
theorem op_notIn_seq : OpR X (compareOp .NotIn) (rIn X.K true) := by
  intro pins s σ H x y v u Q I rx ry h
  obtain ⟨p, xs, rfl, hq, fx, fs, q⟩ := h
  cases ry
  rcases hq with hq | hq
  · obtain ⟨its, r, pl, hz⟩ := I.list hq
    refine SeqAt.notIn_listAt (eqU x) pl.isList (fun w hw => mem_eqAt rx fx r fs w (by simpa using hw)) ⟨.bl _, H, I, rfl, ?_⟩
    rw [show its.toArray.any (eqU x) = its.any (eqU x) by simp, any_eqU r fs]
    exact q
  · obtain ⟨its, r, pl, hz⟩ := I.tuple hq
    refine SeqAt.notIn_tupleAt (eqU x) pl (fun w hw => mem_eqAt rx fx r fs w (by simpa using hw)) ⟨.bl _, H, I, rfl, ?_⟩
    rw [show its.toArray.any (eqU x) = its.any (eqU x) by simp, any_eqU r fs]
    exact q
theorem CallR.or {f : Value} {r r' : List V → Hp → VK → Prop} (h : CallR X f r) (h' : CallR X f r') : CallR X f (fun xs H Q => r xs H Q ∨ r' xs H Q) := by
  intro pins s σ H xs us Q I rs q
  rcases q with q | q
  · exact h pins s σ H xs us Q I rs q
  · exact h' pins s σ H xs us Q I rs q
theorem call_list_of : CallR X (.type "list") (fun xs H Q => ∃ p ys, xs = [.ref p] ∧ (SqL X.K H p ys ∨ SqT X.K H p ys) ∧ ∀ l, H l = none → Q (.ref l) (upd H l (.lst ys))) := by
  intro pins s σ H xs us Q I r h
  obtain ⟨p, ys, rfl, hq, q⟩ := h
  obtain ⟨u, rfl, rx⟩ := vals1 r
  cases rx
  have fin : ∀ (its : List Value), Vals ys its → ys.length ≤ sizeLine → ∀ (h' : Heap) (c' : Nat), (∀ b o', s.heap.get? b = some o' → h'.get? b = some o') →
      h'.get? s.heap.objs.size = some { cls := .type "list", dict := none, data := .seq its.toArray c', slots := #[] } → EP X pins σ Q (.ref s.heap.objs.size) { s with heap := h' } := fun its r' hz h' c' kp e =>
    ⟨.ref s.heap.objs.size, _, I.laid (t' := s.toks) kp (Nat.le_refl _) (show ObjOk X.prog X.w _ h' _ (.lst ys) from ⟨hz, its, c', r', e⟩), rfl, q _ (I.hok.fresh (Nat.le_refl _))⟩
  rcases hq with hq | hq
  · obtain ⟨its, r', pl, hz⟩ := I.list hq
    have hlen := r'.length
    obtain ⟨o, ho, hc, n, hd⟩ := pl.isList
    exact call_list_seq p (.inl rfl) ho hc hd (fun h' c' kp e => fin its r' hz h' c' kp e) (by simp only [List.size_toArray] <;> omega)
  · obtain ⟨its, r', pl, hz⟩ := I.tuple hq
    have hlen := r'.length
    obtain ⟨o, ho, hc, n, hd⟩ := pl
    exact call_list_seq p (.inr rfl) ho hc hd (fun h' c' kp e => fin its r' hz h' c' kp e) (by simp only [List.size_toArray] <;> omega)
theorem call_tuple_of : CallR X (.type "tuple") (fun xs H Q => ∃ p ys, xs = [.ref p] ∧ ((SqL X.K H p ys ∧ ∀ l, H l = none → Q (.ref l) (upd H l (.tup ys))) ∨ (SqT X.K H p ys ∧ Q (.ref p) H))) := by
  intro pins s σ H xs us Q I r h
  obtain ⟨p, ys, rfl, h⟩ := h
  obtain ⟨u, rfl, rx⟩ := vals1 r
  cases rx
  rcases h with ⟨hq, q⟩ | ⟨hq, q⟩
  · obtain ⟨its, r', pl, hz⟩ := I.list hq
    have hlen := r'.length
    refine call_tuple_list pl.isList (fun h' kp => ?_) (by simp only [List.size_toArray] <;> omega)
    have I1 : Inv X pins σ H { s with heap := h' } := I.kept (t' := s.toks) kp
    have I2 : Inv X pins σ (upd H h'.objs.size (.tup ys)) { s with heap := h'.push { cls := .type "tuple", data := .seq its.toArray } } :=
      I1.laid (t' := s.toks) (fun b o e => Heap.get?_push_of_some _ e) (Nat.le_refl _) (show ObjOk X.prog X.w _ _ _ (.tup ys) from ⟨hz, its, r', TupP.new _ _⟩)
    exact ⟨.ref h'.objs.size, _, I2, rfl, q _ (I1.hok.fresh (Nat.le_refl _))⟩
  · obtain ⟨its, r', pl, hz⟩ := I.tuple hq
    exact call_tuple_same pl ⟨.ref p, H, I, rfl, q⟩
noncomputable def tyV (K : PySem.W.Frag) (T : String) (x : V) (H : Hp) : Prop := match x with
  | .str _ => T = "str"
  | .int _ => T = "int"
  | .ref p => (T = "list" ∧ ∃ xs, SqL K H p xs) ∨ (T = "tuple" ∧ ∃ o, K.lookup p = some o ∧ o.cls = .type "tuple" ∧ o.dict = none) ∨
      (T = "dict" ∧ ((∃ kvs, H p = some (.dK kvs)) ∨ ∃ kvs, H p = some (.dT kvs))) ∨ (T = "set" ∧ ∃ S n, H p = some (.set S n))
  | _ => False
theorem tyV_is {pins : List (Addr × Obj)} {σ : St} {H : Hp} {s : Shared} {T : String} {x : V} {v : Value} (I : Inv X pins σ H s) (r : RelV x v) (ty : tyV X.K T x H) :
    s.TypeIs v T ∧ ∀ a, v = .ref a → ∃ ob, s.heap.get? a = some ob ∧ ob.dict = none := by
  cases x with
  | str z =>
    obtain ⟨t, rfl⟩ := r
    cases (show T = "str" from ty)
    exact ⟨typeIs_str s z t, fun _ e => nomatch e⟩
  | int i =>
    obtain ⟨t, rfl⟩ := r
    cases (show T = "int" from ty)
    exact ⟨typeIs_int s i t, fun _ e => nomatch e⟩
  | ref p =>
    cases r
    rcases ty with ⟨rfl, xs, hq⟩ | ⟨rfl, o, hk, hc, hd⟩ | ⟨rfl, hk⟩ | ⟨rfl, S, n, hk⟩
    · obtain ⟨its, _, pl, _⟩ := I.list hq
      refine ⟨pl.isList.typeIs, fun a e => ?_⟩
      cases e
      obtain ⟨o, n, e, c, hd, _⟩ := pl
      exact ⟨o, e, hd⟩
    · refine ⟨⟨o, I.kIn p o hk, hc⟩, fun a e => ?_⟩
      cases e
      exact ⟨o, I.kIn _ o hk, hd⟩
    · have z : ∃ o, s.heap.get? p = some o ∧ o.ExactDict := by
        rcases hk with ⟨kvs, hk⟩ | ⟨kvs, hk⟩
        · obtain ⟨_, _, _, _, o, _, _, e, ex, _⟩ := I.hok p _ hk
          exact ⟨o, e, ex⟩
        · obtain ⟨_, _, _, _, o, _, _, e, ex, _⟩ := I.hok p _ hk
          exact ⟨o, e, ex⟩
      obtain ⟨o, e, ex⟩ := z
      refine ⟨⟨o, e, ex.1⟩, fun a e2 => ?_⟩
      cases e2
      exact ⟨o, e, ex.2.1⟩
    · obtain ⟨o, _, _, _, e, ex, _⟩ := I.hok p _ hk
      refine ⟨⟨o, e, ex.1⟩, fun a e2 => ?_⟩
      cases e2
      exact ⟨o, e, ex.2.1⟩
  | _ => exact False.elim ty
noncomputable def tBM (K : PySem.W.Frag) (T : String) (r : V → List V → Hp → VK → Prop) (to : TE) (t : TA) : TE := fun σ H Q => to σ H fun x H1 => tyV K T x H1 ∧ t σ H1 fun xs H2 => r x xs H2 Q
variable {o e : Expr} {es : List Expr} {to : TE} {t : TA} {name : Str} {apos cpos : Pos} {T id : String} {r : V → List V → Hp → VK → Prop}
theorem pe_bm (pa : PlainAttrs T) (slot : Slot T name id) (hty : typeOf (.builtin id) = pure (.type "method_descriptor")) (hm : MtR X id r) (ho : PE X o to) (ha : PA X (e :: es) t)
    (hbase : attributeBase o name X.env (eval o X.env) = eval o X.env := by rfl)
    (hfew : ((backTo cpos (starEach (e :: es) X.env)).all (fun x => !x.1) && (backToKw cpos (keywordEach [] X.env)).all (fun x => x.1.isSome)
      && decide ((e :: es).length + ([] : List Keyword).length + (if ([] : List Keyword).isEmpty then 0 else 1) < 30)) = true := by rfl)
    (hline : (apos.endLine == cpos.line) = true := by rfl) (hs : starEach (e :: es) X.env = (false, eval e X.env) :: starEach es X.env := by rfl) (hplain : (backTo cpos (starEach es X.env)).any (·.1) = false := by rfl) :
    PE X (.Call (.Attribute o name apos) (e :: es) [] cpos) (tBM X.K T r to t) := by
  intro pins s σ H Q I h
  refine wpAny_Call_method_late hbase hfew hline rfl (thn (ho pins s σ H _ I h) fun v s1 ⟨x, H1, I1, r1, ty, q1⟩ => ?_)
  obtain ⟨h1, h2⟩ := tyV_is I1 r1 ty
  refine ⟨T, id, pa, slot, hty, h1, h2, ?_⟩
  have hA := ha cpos pins s1 σ H1 _ I1 q1
  rw [hs] at hA ⊢
  refine Calls.callWith_builtin (by show (false || (backTo cpos (starEach es X.env)).any (·.1)) = false; rw [hplain] <;> rfl) (Calls.evalArgs_plain ?_)
  exact thn hA fun us s2 ⟨vs, H2, I2, r2, q2⟩ => hm pins s2 σ H2 x vs v us Q I2 r1 r2 q2
end
end L2
namespace L2
open PySem PySem.Spec PyProof.Rows
noncomputable def MtM (X : Cx) (id : String) (r : V → List V → Hp → VK → Prop) : Prop :=
  ∀ (pins : List (Addr × Obj)) (s : Shared) (σ : St) (H : Hp) (x : V) (xs : List V) (v : Value) (us : List Value) (Q : VK), Inv X pins σ H s → RelV x v → Vals xs us → r x xs H Q →
    wpAny (model X.prog X.w) X.A (call (.builtin id) (v :: us)) (EP X pins σ Q) X.xe s
theorem Vals.one : ∀ {x : V} {us : List Value}, Vals [x] us → ∃ u, us = [u] ∧ RelV x u
  | _, _, .cons r .nil => ⟨_, rfl, r⟩
theorem Vals.two : ∀ {x y : V} {us : List Value}, Vals [x, y] us → ∃ u v, us = [u, v] ∧ RelV x u ∧ RelV y v
  | _, _, _, .cons r (.cons q .nil) => ⟨_, _, rfl, r, q⟩
theorem Vals.zero : ∀ {us : List Value}, Vals [] us → us = []
  | _, .nil => rfl
theorem Vals.dropLast {xs : List V} {us : List Value} (h : Vals xs us) : Vals xs.dropLast us.dropLast := by
  induction h with
  | nil => exact .nil
  | cons r t ih =>
    cases t with
    | nil => exact .nil
    | cons q t' => exact .cons r ih
theorem Vals.eraseIdx : ∀ {xs : List V} {us : List Value} (i : Nat), Vals xs us → Vals (xs.eraseIdx i) (us.eraseIdx i)
  | _, _, _, .nil => .nil
  | _, _, 0, .cons _ t => t
  | _, _, i + 1, .cons r t => .cons r (Vals.eraseIdx i t)
theorem Vals.reverse {xs : List V} {us : List Value} (h : Vals xs us) : Vals xs.reverse us.reverse := by
  induction h with
  | nil => exact .nil
  | cons r t ih => rw [List.reverse_cons, List.reverse_cons]; exact Vals.append ih (.cons r .nil)
theorem Vals.rep {xs : List V} {us : List Value} (h : Vals xs us) : ∀ k : Nat, Vals (List.replicate k xs).flatten (List.replicate k us).flatten
  | 0 => .nil
  | k + 1 => by
    rw [List.replicate_succ, List.replicate_succ, List.flatten_cons, List.flatten_cons]
    exact Vals.append h (Vals.rep h k)
theorem len_erase {α : Type} : ∀ (l : List α) (i : Nat), (l.eraseIdx i).length ≤ l.length
  | [], _ => Nat.le_refl _
  | _ :: _, 0 => Nat.le_succ _
  | _ :: r, i + 1 => Nat.succ_le_succ (len_erase r i)
theorem foldl_rep (its : List Value) : ∀ (k : Nat) (acc : List Value),
    List.foldl (fun x1 x2 => x1 ++ x2) acc.toArray (List.replicate k its.toArray) = (acc ++ (List.replicate k its).flatten).toArray
  | 0, acc => by simp
  | k + 1, acc => by
    have e : acc.toArray ++ its.toArray = (acc ++ its).toArray := by simp
    have e2 : (acc ++ its) ++ (List.replicate k its).flatten = acc ++ (List.replicate (k + 1) its).flatten := by
      rw [List.replicate_succ, List.flatten_cons, List.append_assoc]
    rw [← e2, ← foldl_rep its k (acc ++ its), ← e, List.replicate_succ, List.foldl_cons]
section
variable {X : Cx} {pins : List (Addr × Obj)} {σ : St} {H : Hp} {s : Shared} {l b : Addr} {xs ys zs : List V}
theorem Inv.lset {its its' : List Value} {n : Nat} {f : Array Value → Array Value} {t' : Nat} (I : Inv X pins σ H s) (hH : H l = some (.lst xs))
    (e : s.heap.get? l = some { cls := .type "list", data := .seq its.toArray n }) (hf : f its.toArray = its'.toArray) (hv : Vals ys its') (hz : ys.length ≤ sizeLine) :
    Inv X pins σ (upd H l (.lst ys)) { s with heap := s.heap.update l (Obj.mapSeq f), toks := t' } := by
  have q := PySem.IsL.update e f
  rw [hf] at q
  refine I.write (x := l) (e := l) (by rw [hH]; exact trivial) (.inl rfl) (fun b' u hb hu => (Heap.get?_update_other s.heap (Obj.mapSeq f) (Ne.symm hb)).trans hu) ⟨_, q⟩ ?_
  exact ⟨hz, its', _, hv, q⟩
theorem Inv.lnew {its : List Value} {t' : Nat} (I : Inv X pins σ H s) (hv : Vals ys its) (hz : ys.length ≤ sizeLine) :
    Inv X pins σ (upd H s.heap.objs.size (.lst ys)) { s with heap := s.heap.push { cls := .type "list", data := .seq its.toArray }, toks := t' } :=
  I.laid (fun _ _ q => Heap.get?_push_of_some _ q) (Nat.le_refl _) ⟨hz, its, 0, hv, Heap.get?_push_size _ rfl⟩
theorem Inv.fresh (I : Inv X pins σ H s) : H s.heap.objs.size = none := I.hok.fresh (Nat.le_refl _)
theorem Inv.lstM (I : Inv X pins σ H s) (hH : H l = some (.lst xs)) : xs.length ≤ sizeLine ∧ ∃ (its : List Value) (n : Nat), Vals xs its ∧ xs.length = its.length ∧ s.heap.get? l = some { cls := .type "list", data := .seq its.toArray n } := by
  obtain ⟨z, its, n, r, e⟩ := I.hok l _ hH
  exact ⟨z, its, n, r, r.length, e⟩
theorem notLongL {n : Nat} (h : n ≤ sizeLine) : Builtin.List.listTooLong n = false := by
  unfold Builtin.List.listTooLong
  exact decide_eq_false (by omega)
end
section
variable {X : Cx}
noncomputable def rAppend : V → List V → Hp → VK → Prop := fun x vs H Q => ∃ l xs y, x = .ref l ∧ vs = [y] ∧ H l = some (.lst xs) ∧ xs.length < sizeLine ∧ Q .non (upd H l (.lst (xs ++ [y])))
theorem mt_append : MtM X "list.append" rAppend := by
  intro pins s σ H x vs v us Q I rx rv h
  obtain ⟨l, xs, y, rfl, rfl, hH, hz, q⟩ := h
  cases rx
  obtain ⟨u, rfl, ru⟩ := rv.one
  obtain ⟨z, its, n, r, hl, e⟩ := I.lstM hH
  refine call_meets F.slot_list_append ⟨_, e, rfl⟩ F.entry_list_append (F.args_list_append_2 _ _) (PySem.list_append l its.toArray n u (by rw [List.size_toArray]; omega)) ⟨e, ?_⟩
  refine ⟨.non, _, I.lset (its' := its ++ [u]) hH e (by simp) (r.append (.cons ru .nil)) ?_, rfl, q⟩
  rw [List.length_append, List.length_singleton]
  omega
noncomputable def rPopAt : V → List V → Hp → VK → Prop := fun x vs H Q => ∃ l xs i k y, x = .ref l ∧ vs = [.int i] ∧ H l = some (.lst xs) ∧ -(2 ^ 63) ≤ i ∧ i < 2 ^ 63 ∧ seqIndex? i xs.length = some k ∧ xs[k]? = some y ∧ Q y (upd H l (.lst (xs.eraseIdx k)))
theorem mt_popAt : MtM X "list.pop" rPopAt := by
  intro pins s σ H x vs v us Q I rx rv h
  obtain ⟨l, xs, i, k, y, rfl, rfl, hH, h1, h2, hk, hy, q⟩ := h
  cases rx
  obtain ⟨u, rfl, ru⟩ := rv.one
  obtain ⟨t, rfl⟩ := ru
  obtain ⟨z, its, n, r, hl, e⟩ := I.lstM hH
  obtain ⟨w, hw, rw'⟩ := r.get hy
  refine call_meets F.slot_list_pop ⟨_, e, rfl⟩ F.entry_list_pop (F.args_list_pop_2 _ _)
    (MeetsSeq.list_pop_at l its.toArray n i t k w (fitsIndex_both h1 h2) (by rw [List.size_toArray, ← hl]; exact hk) (by rw [← Array.getElem?_toList]; exact hw) (by rw [List.size_toArray]; omega)) ⟨e, ?_⟩
  refine ⟨y, _, I.lset (its' := its.eraseIdx k) hH e ?_ (r.eraseIdx k) ?_, rw', q⟩
  · show its.toArray.eraseIdxIfInBounds k = (its.eraseIdx k).toArray
    rw [List.eraseIdxIfInBounds_toArray]
  · have := len_erase xs k
    omega
noncomputable def rCat : R2 := fun x y H Q => ∃ l b xs zs, x = .ref l ∧ y = .ref b ∧ H l = some (.lst xs) ∧ H b = some (.lst zs) ∧ xs.length + zs.length ≤ sizeLine ∧ ∀ p, H p = none → Q (.ref p) (upd H p (.lst (xs ++ zs)))
theorem op_cat : OpR X (binaryOp .Add) rCat := by
  intro pins s σ H x y v u Q I rx ry h
  obtain ⟨l, b, xs, zs, rfl, rfl, hH, hB, hz, q⟩ := h
  cases rx
  cases ry
  obtain ⟨z, its, n, r, hl, e⟩ := I.lstM hH
  obtain ⟨z2, its2, n2, r2, hl2, e2⟩ := I.lstM hB
  refine PySem.P.add_list e e2 ?_ (by rw [List.size_toArray, List.size_toArray]; omega)
  have ea : its.toArray ++ its2.toArray = (its ++ its2).toArray := by simp
  rw [ea]
  exact ⟨.ref _, _, I.lnew (t' := s.toks) (r.append r2) (by rw [List.length_append]; omega), rfl, q _ I.fresh⟩
noncomputable def rRep : R2 := fun x y H Q => ∃ l k xs, x = .ref l ∧ y = .int k ∧ H l = some (.lst xs) ∧ -(2 ^ 63) ≤ k ∧ k < 2 ^ 63 ∧ xs.length * k.toNat ≤ sizeLine ∧
  ∀ p, H p = none → Q (.ref p) (upd H p (.lst (List.replicate k.toNat xs).flatten))
theorem len_rep {α : Type} (xs : List α) (k : Nat) : (List.replicate k xs).flatten.length = k * xs.length := by
  induction k with
  | zero => simp
  | succ k ih => rw [List.replicate_succ, List.flatten_cons, List.length_append, ih, Nat.succ_mul, Nat.add_comm]
theorem op_rep : OpR X (binaryOp .Mult) rRep := by
  intro pins s σ H x y v u Q I rx ry h
  obtain ⟨l, k, xs, rfl, rfl, hH, h1, h2, hz, q⟩ := h
  cases rx
  obtain ⟨t, rfl⟩ := ry
  obtain ⟨z, its, n, r, hl, e⟩ := I.lstM hH
  have hlen : its.toArray.size * k.toNat ≤ sizeLine := by rw [List.size_toArray, ← hl]; exact hz
  have hcap : ¬ its.toArray.size * k.toNat > (2 ^ 63 - 1) / 8 := by
    have : (sizeLine : Nat) ≤ (2 ^ 63 - 1) / 8 := by decide
    omega
  have hfit : ¬ (!Builtin.List.listFitsIndex k) = true := by
    rw [fitsIndex_both h1 h2]
    exact Bool.false_ne_true
  have hlong : ¬ Builtin.List.listTooLong (its.toArray.size * k.toNat) = true := by
    rw [notLongL hlen]
    exact Bool.false_ne_true
  have hnew : List.foldl (fun x1 x2 => x1 ++ x2) #[] (List.replicate (if its.toArray.isEmpty = true then 0 else k.toNat) its.toArray) = (List.replicate k.toNat its).flatten.toArray := by
    have f0 : ∀ m : Nat, List.foldl (fun x1 x2 => x1 ++ x2) #[] (List.replicate m its.toArray) = (List.replicate m its).flatten.toArray := fun m => by
      have := foldl_rep its m []
      rw [List.nil_append] at this
      exact this
    rw [f0]
    cases its with
    | nil => simp
    | cons a r' => rw [if_neg (by simp)]
  refine wpAny_binaryOp_repeat_ref (T := "list") (U := "int") (by decide) ⟨_, e, rfl⟩ (fun s' => typeIs_int s' k t) noFill_list_mul F.fills_int_mul F.slot_int_rmul repeat_list F.slot_int_index.lookup
    (call_meets F.slot_int_rmul (typeIs_int s k t) F.entry_int_rmul (F.args_int_rmul_2 _ _) (int___rmul___int_list k t l its.toArray n)
      ⟨e, rfl, ⟨_, e, rfl⟩, call_meets F.slot_list_mul ⟨_, e, rfl⟩ F.entry_list_mul (F.args_list_mul_2 _ _) (AutoListH.list___mul___list_int_3 l its.toArray n k t hfit hcap hlong) ⟨e, ?_⟩⟩)
  rw [hnew]
  exact ⟨.ref _, _, I.lnew (t' := s.toks) (r.rep k.toNat) (by rw [len_rep, Nat.mul_comm]; exact hz), rfl, q _ I.fresh⟩
end
section
variable {prog : Program} {w : World} {A : Around} {E : Value → Shared → Prop} {s : Shared}
set_option maxRecDepth 100000 in
end
section
variable {X : Cx}
end
end L2
namespace Att
open PySem PySem.W PySem.Calls PyProof.Rows
theorem ints_of_wellAll {P : Params} {h : Heap} : ∀ (ns : List Int) (vs : List Value), WellAll P h vs (ns.map WData.int) → IntsAre vs ns := by
  intro ns
  induction ns with
  | nil =>
    intro vs w
    rw [List.map_nil] at w
    cases w
    exact .nil
  | cons n ns ih =>
    intro vs w
    rw [List.map_cons] at w
    cases w with
    | cons a b =>
      cases a
      exact .cons _ _ (ih _ b)
theorem script_of {l : OpenLaw} {n : Nat} (hn : l.most = some n) {P : Params} {h : Heap} {args : List WData} {vals : List Value}
    (hpre : l.row.toRowW.claim.pre args = true) (hwl : WellAll P h vals args) :
    ∃ a vs ns, vals = [Value.ref a] ∧ args = [WData.list (ns.map WData.int)] ∧ h.get? a = some { cls := .type "list", data := .seq vs.toArray } ∧ IntsAre vs ns ∧ ns.length ≤ n := by
  have hsh : WShape.hasAll [] args [.list .int] = true := (pre_splitW hpre).1
  have hc : l.pre.holds [] { args := args } = true := (pre_splitW hpre).2
  obtain ⟨d, r, rfl, h1, h2⟩ := hasAllW_cons hsh
  obtain rfl := hasAllW_nil h2
  obtain ⟨xs, rfl, h3⟩ := hasW_list h1
  obtain ⟨ns, rfl⟩ := items_int h3
  have hlen : ns.length ≤ n := by
    unfold OpenLaw.pre at hc
    have h4 : (WTm.not (.lt (.lit (.int (n : Int))) (.len (.arg 0)))).holds [] { args := [.list (ns.map .int)] } = true := by
      have h4 := (holds_andW hc).1
      rw [hn] at h4
      exact h4
    have h5 := condW_of h4 (w_not (w_lt w_lit (w_len_list (w_arg rfl))))
    rw [List.length_map] at h5
    refine Nat.le_of_not_lt fun q => ?_
    have q' : (n : Int) < ((ns.length : Nat) : Int) := by omega
    first
      | (rw [decide_eq_true q'] at h5; exact absurd h5 (by decide))
      | (simp at h5; omega)
  cases hwl with
  | cons w1 w2 =>
    cases w2
    cases w1 with
    | list ho hall => exact ⟨_, _, ns, rfl, rfl, ho, ints_of_wellAll ns _ hall, hlen⟩
theorem post_true (l : OpenLaw) (args : List WData) : l.row.toRowW.claim.post args (.bool true) args = true :=
  postW_of (r := l.row.toRowW) (X := (true == true))
    (show WShape.has [] (.bool true) .bool = true by first | rfl | decide | simp [WShape.has, WShape.arms, WShape.armsAll])
    (show (WTm.eq .res (.lit (.bool true))).value [] { args := args, res := some (.bool true), after := args } = some (.bool (true == true)) from w_eq_bool (w_res rfl) w_lit) rfl
theorem attach_call {l : OpenLaw} {n : Nat} {q : Program} {loose : List Str} {XP : (Str → Option Value) → Heap → Prop} {YP : World → Heap → Prop} {d : DefRec}
    (hn : l.most = some n) (hdf : d.params.defaults = [])
    (call : ∀ (w : World) (s₀ s₁ : Shared) (mg mb : Str → Option Value) (fa : Addr) (o : Obj) (pm cd doc : Value) (a : Addr) (vs : List Value) (ns : List Int),
      Ground q loose [] XP w s₀ mg mb s₁.heap → YP w s₁.heap →
      s₁.heap.get? fa = some o → o.data = .func (docDef d.name d.params d.body d.scope pm cd doc) → s₁.heap.CodeRec cd d.name → mg d.name = some (.ref fa) →
      s₁.heap.get? a = some { cls := .type "list", data := .seq vs.toArray } → IntsAre vs ns → ns.length ≤ n → s₁.gens = #[] →
      codeAny (model l.prog w) callerA (.call (.ref fa) ⟨[.ref a], []⟩) (fun r s' => r = .ok (.ret (.bool true)) ∧ OldK s₁.heap s'.heap ∧ s'.os = s₁.os ∧ AllBare s'.gens) s₁) :
    WalkO q loose XP YP l.row.toRowW d [] (fun f vs => PySem.call f vs) := by
  intro w s₀ s₁ mg mb G Y fa o pm cd doc dV kV ho hd hcd hD hmg hg args vals as hpre hlay hrd hwl hlo
  obtain rfl : dV = .none := Dflts.none hD hdf
  obtain rfl : kV = .none := Dflts.noKw hD
  obtain ⟨a, vs, ns, rfl, rfl, hobj, hints, hlen⟩ := script_of hn hpre hwl
  refine enter_call (codeAny_mono (call w s₀ s₁ mg mb fa o pm cd doc a vs ns G Y ho (fd_plain hd) hcd hmg hobj hints hlen hg) fun r s' hq => ?_)
  obtain ⟨rfl, h2, h3, h4⟩ := hq
  exact ⟨.inl ⟨.bool true, .bool true, [], rfl, fun _ => rfl, .bool true, post_true l _, fun _ => ⟨List.Pairwise.nil, fun _ hm => (nomatch hm)⟩⟩, h2, h3, h4⟩
section
variable {prog : Program} {w : World} {A : Around} {E : Value → Shared → Prop} {s : Shared} {K : Frag}
end
end Att
namespace L2
open PySem PySem.Spec PyProof.Rows
theorem vals_ints : ∀ {vs : List Value} {ns : List Int}, IntsAre vs ns → Vals (ns.map V.int) vs
  | _, _, .nil => .nil
  | _, _, .cons n t h => .cons ⟨t, rfl⟩ (vals_ints h)
noncomputable def Only (H : Hp) : Prop := ∀ b, H b = none ∨ ∃ o xs, H b = some (.frz o (.lst xs))
theorem law_call {P : Program} {w : World} {K : PySem.W.Frag} {mg mb : Str → Option Value} {CX : CXT} {k : Nat} {fa a : Addr} {fd : FuncData} {x : Str} {sp : Sp} {s₁ : Shared} {vs : List Value} {ns : List Int}
    (KX : K.In s₁.heap) (hns : s₁.heap.Ns mainGlobals mg) (hb : s₁.heap.Ns builtinsNs mb) (hbb : ∀ x : Str, x ≠ "__name__" → mb x = bootBuiltins x) (hlim : s₁.heap.NoLimit) (hg : s₁.gens = #[])
    (ha : s₁.heap.get? a = some { cls := .type "list", data := .seq vs.toArray }) (hi : IntsAre vs ns) (hl : ns.length ≤ sizeLine) (hr : Room k callerA)
    (F : ∀ base : Heap, K.In base → base.Ns mainGlobals mg → FnOk P w K mg base CX k fa fd [x] sp) (hbind : ∀ (s : Shared) (u : Value), BindsTo s fd ⟨[u], []⟩ [(x, u)])
    (hsp : ∀ H : Hp, Only H → SqL K H a (ns.map V.int) → sp [.ref a] H (fun v _ => v = .bl true) fun _ _ _ => False)
    (hCX : ∀ H e s', CX [] H s₁ (fun _ _ _ => False) e s' → False) :
    codeAny (model P w) callerA (.call (.ref fa) ⟨[.ref a], []⟩) (fun r s' => r = .ok (.ret (.bool true)) ∧ OldK s₁.heap s'.heap ∧ s'.os = s₁.os ∧ AllBare s'.gens) s₁ := by
  have rv := vals_ints hi
  have lenV := hi.length
  -- from an abstract heap in which nothing but the script may be tracked
  have core : ∀ H : Hp, Only H → SqL K H a (ns.map V.int) → HOk P w H s₁.heap → (∀ b, H b ≠ none → b = a) → (H a ≠ none → K.lookup a = none) →
      codeAny (model P w) callerA (.call (.ref fa) ⟨[.ref a], []⟩) (fun r s' => r = .ok (.ret (.bool true)) ∧ OldK s₁.heap s'.heap ∧ s'.os = s₁.os ∧ AllBare s'.gens) s₁ := by
    intro H hO hS hok hA hK
    have base_of : ∀ {b : Addr} {o : Obj}, s₁.heap.get? b = some o → H b = none → (hidT s₁.heap H).get? b = some o := fun e n => hidT_get e n
    have noA : ∀ {b : Addr} {o : Obj} {es : Array DictEntry} {ep : Nat}, s₁.heap.get? b = some o → o.data = .dict es ep → H b = none := fun {b o es ep} e d => by
      cases q : H b with
      | none => rfl
      | some u =>
        have e' : b = a := hA b (by rw [q]; simp)
        subst e'
        rw [ha] at e; cases e
        have d' : Data.seq vs.toArray _ = Data.dict es ep := d
        cases d'
    have nsK : ∀ {b : Addr} {m : Str → Option Value}, s₁.heap.Ns b m → (hidT s₁.heap H).Ns b m := fun {b m} ⟨o, es, ep, e, d, r⟩ => ⟨o, es, ep, base_of e (noA e d), d, r⟩
    have hKb : K.In (hidT s₁.heap H) := fun b o e => base_of (KX b o e) (by
      cases q : H b with
      | none => rfl
      | some u =>
        have e' : b = a := hA b (by rw [q]; simp)
        subst e'
        rw [hK (by rw [q]; simp)] at e; cases e)
    have hM : Mod K mg (hidT s₁.heap H) := ⟨hKb, nsK hns, ⟨mb, nsK hb, hbb⟩, let ⟨mc, h1, h2⟩ := hlim; ⟨mc, nsK h1, h2⟩⟩
    have e0 : Env0 P w K mg (hidT s₁.heap H) callerA [] s₁ H := ⟨rfl, hM, fun b o e => of_hidT e, Nat.le_of_eq (hidT_size _ _), trivial, fun b hb => absurd (show b ∈ ([] : List Addr) from hb) (by simp), hok, .of_eq hg⟩
    refine codeAny_mono ((F _ hKb (nsK hns)).run callerA [] s₁ H ⟨[.ref a], []⟩ [.ref a] [.ref a] _ _ hr e0 (hbind s₁ (.ref a)) (.cons rfl .nil) (hsp H hO hS)) fun r s' h => ?_
    cases r with
    | error e => exact (hCX H e s' h).elim
    | ok fl =>
      cases fl with
      | next => exact False.elim h
      | brk => exact False.elim h
      | cont => exact False.elim h
      | ret u =>
        obtain ⟨v, H', os, bare, un, hok', r', q⟩ := h
        have q' : v = .bl true := q
        subst q'
        obtain rfl : u = Value.bool true := r'
        refine ⟨rfl, OldK.of_keep fun b o e => ?_, os, bare⟩
        cases q : H b with
        | none => exact un.keep b o e q (by intro z; exact absurd (show b ∈ ([] : List Addr) from z) (by simp)) (by simp)
        | some u =>
          rcases hO b with z | ⟨ob, xs, z⟩
          · rw [q] at z; cases z
          · have z2 := un.frzs b ob _ z
            obtain ⟨e1, _⟩ := hok b _ z
            obtain ⟨e2, _⟩ := hok' b _ z2
            rw [e] at e1; cases e1
            exact e2
  cases hk : K.lookup a with
  | some o =>
    -- the script is one of the module's own objects
    have e := KX a o hk
    rw [ha] at e
    cases e
    refine core (fun _ => none) (fun _ => .inl rfl) (.inr ⟨_, vs.toArray, _, hk, rfl, rfl, rfl, by rw [List.size_toArray, lenV]; exact hl, by simpa using rv⟩) (fun b u z => by have z' : (none : Option HO) = some u := z; cases z') (fun b z => absurd rfl z) fun z => absurd rfl z
  | none =>
    refine core (fun b => if b = a then some (.frz { cls := .type "list", data := .seq vs.toArray } (.lst (ns.map V.int))) else none) (fun b => ?_) (.inl (.inr ⟨{ cls := .type "list", data := .seq vs.toArray }, if_pos rfl⟩)) (fun b u z => ?_) (fun b z => ?_) fun _ => hk
    · by_cases hb : b = a
      · exact .inr ⟨_, _, if_pos hb⟩
      · exact .inl (if_neg hb)
    · by_cases hb : b = a
      · have z' := (if_pos hb).symm.trans z
        cases z'
        subst hb
        exact ⟨ha, by rw [List.length_map]; exact hl, vs, _, rv, ha⟩
      · have z' := (if_neg hb).symm.trans z
        cases z'
    · by_cases hb : b = a
      · exact hb
      · exact absurd (if_neg hb) z
end L2
namespace L2
open PySem PySem.Spec PyProof.Rows
theorem walk_of {l : PySem.W.OpenLaw} {n k : Nat} {q : Program} {loose : List Str} {XP : (Str → Option Value) → Heap → Prop} {YP : World → Heap → Prop} {d : DefRec} {K : Params → PySem.W.Frag} {CX : World → CXT} {sp : World → Sp} {x : Str}
    (hn : l.most = some n) (hn2 : n ≤ sizeLine) (hdf : d.params.defaults = []) (hr : Room k callerA)
    (hY : ∀ (w : World) (h : Heap), YP w h → (K w.params).In h)
    (F : ∀ (w : World) (mg : Str → Option Value) (fa : Addr) (h : Heap), (K w.params).In h → h.Ns mainGlobals mg → mg d.name = some (.ref fa) →
      ∃ fd : FuncData, (∀ (s : Shared) (u : Value), BindsTo s fd ⟨[u], []⟩ [(x, u)]) ∧
        ∀ base : Heap, (K w.params).In base → base.Ns mainGlobals mg → FnOk l.prog w (K w.params) mg base (CX w) k fa fd [x] (sp w))
    (hsp : ∀ (w : World) (H : Hp) (a : Addr) (ns : List Int), ns.length ≤ n → Only H → SqL (K w.params) H a (ns.map V.int) → sp w [.ref a] H (fun v _ => v = .bl true) fun _ _ _ => False)
    (hCX : ∀ (w : World) (H : Hp) (s : Shared) (e : Value) (s' : Shared), CX w [] H s (fun _ _ _ => False) e s' → False) :
    PySem.W.WalkO q loose XP YP l.row.toRowW d [] (fun f vs => PySem.call f vs) := by
  refine Att.attach_call hn hdf fun w s₀ s₁ mg mb fa o pm cd doc a vs ns G Y ho hd hcd hmg hobj hints hlen hg => ?_
  have KX := hY w _ Y
  obtain ⟨fd, hb, hF⟩ := F w mg fa _ KX G.T.g hmg
  exact law_call KX G.T.g G.T.b G.T.builtins G.T.nolimit hg hobj hints (Nat.le_trans hlen hn2) hr hF hb (fun H hO hS => hsp w H a ns hlen hO hS) fun H e s' => hCX w H s₁ e s'
end L2
namespace L2
open PySem PySem.Spec PyProof.Rows
noncomputable def defArgs (s : Stmt) : Arguments := match s with
  | .FunctionDef _ a _ _ _ _ _ _ _ _ => a
  | _ => { posonlyargs := [], args := [], vararg := none, kwonlyargs := [], kw_defaults := [], kwarg := none, defaults := [] }
noncomputable def defBody (s : Stmt) : List Stmt := match s with
  | .FunctionDef _ _ b _ _ _ _ _ _ _ => b
  | _ => []
noncomputable def defScope (s : Stmt) : Scope := match s with
  | .FunctionDef _ _ _ _ _ _ sc _ _ _ => sc
  | _ => { kind := .function, names := [], isGenerator := false, isCoroutine := false }
noncomputable abbrev CX0 : CXT := fun _ _ _ _ _ _ => False
noncomputable abbrev E0 : XK := fun _ _ _ => False
theorem pass0 {X : Cx} : Passes CX0 X E0 := fun _ _ _ _ _ _ _ h => h.elim
structure Fun (K : PySem.W.Frag) (x qual : Str) (st : Stmt) (f : Addr) (fd : FuncData) : Prop where
  ex : ∃ (oc : Value) (od : Option Addr) (kV doc pm : Value) (an : Option Addr) (cdv ct : Value) (osl : Array (Option Value)),
    fd = PySem.W.fnOf x qual (defArgs st) (defBody st) (defScope st) .none kV doc pm an cdv ct ∧ K.lookup f = some ⟨oc, od, .func fd, osl⟩ ∧ PySem.W.codeIn K cdv qual = true
  kp : PySem.W.keepIn K (.ref f) = true
section
variable {P : Program} {w : World} {K : PySem.W.Frag} {mg : Str → Option Value} {base : Heap}
theorem Fun.ok {x qual : Str} {st : Stmt} {f : Addr} {fd : FuncData} {N ps : List Str} {k : Nat} {sp : Sp} (F : Fun K x qual st f fd) (S : FnScope N ps (defScope st)) (len : ∀ vs H Q E, sp vs H Q E → vs.length = ps.length)
    (hbody : ∀ (cdv : Value) (A : Around) (outer : List Env) (s : Shared) (H : Hp) (vs : List V) (Q : VK) (E : XK), Room k (A.deeper (envOfC qual (defScope st) s.heap.objs.size f cdv)) → sp vs H Q E →
      ∃ t, PSs (cxOf CX0 P w K mg base N qual (defScope st) f cdv A outer s H E).nox (defBody st) t ∧ t { nx := fun _ H' => Q .non H', rt := Q } (start N vs) H) : FnOk P w K mg base CX0 (k + 1) f fd ps sp := by
  obtain ⟨oc, od, kV, doc, pm, an, cdv, ct, osl, rfl, lk, hcd⟩ := F.ex
  refine fn_of lk hcd S len fun A outer s H vs Q E hr hsp => ?_
  obtain ⟨t, h, q⟩ := hbody cdv A outer s H vs Q E hr hsp
  exact ⟨t, h.nox, q⟩
theorem Fun.binds {x qual : Str} {st : Stmt} {f : Addr} {fd : FuncData} {ps : List Str} (F : Fun K x qual st f fd)
    (h : ∀ (kV doc pm : Value) (an : Option Addr) (cdv ct : Value) (us : List Value), us.length = ps.length → bindArgs (PySem.W.fnOf x qual (defArgs st) (defBody st) (defScope st) .none kV doc pm an cdv ct) ⟨us, []⟩ = pure (ps.zip us)) : Binds K fd ps [] := by
  obtain ⟨oc, od, kV, doc, pm, an, cdv, ct, osl, rfl, lk, hcd⟩ := F.ex
  exact .all (h kV doc pm an cdv ct)
theorem fun_mk {x qual : Str} {st : Stmt} {f : Addr} {oc : Value} {od an : Option Addr} {osl : Array (Option Value)} {kV doc pm cdv ct : Value} (l : K.lookup f = some ⟨oc, od, .func (PySem.W.fnOf x qual (defArgs st) (defBody st) (defScope st) .none kV doc pm an cdv ct), osl⟩)
    (c : PySem.W.codeIn K cdv qual = true) (k : PySem.W.keepIn K (.ref f) = true) : Fun K x qual st f (PySem.W.fnOf x qual (defArgs st) (defBody st) (defScope st) .none kV doc pm an cdv ct) := ⟨⟨oc, od, kV, doc, pm, an, cdv, ct, osl, rfl, l, c⟩, k⟩
end
section
variable {X : Cx}
end
theorem iteF {A B : Prop} (h : B) : if false = true then A else B := by
  rw [if_neg Bool.false_ne_true]
  exact h
theorem iteT {A B : Prop} (h : A) : if true = true then A else B := by
  rw [if_pos rfl]
  exact h
noncomputable def Same (H H' : Hp) : Prop := ∀ b o, H b = some o → H' b = some o
theorem Same.refl (H : Hp) : Same H H := fun _ _ h => h
theorem Same.trans {H H1 H2 : Hp} (a : Same H H1) (b : Same H1 H2) : Same H H2 := fun c o h => b c o (a c o h)
theorem Same.free {H H' : Hp} (e : Same H H') {l : Addr} (h : H' l = Option.none) : H l = Option.none := by
  cases q : H l with
  | none => rfl
  | some o =>
    rw [e l o q] at h
    cases h
theorem Same.seq {K : PySem.W.Frag} {H H' : Hp} {a : Addr} {xs : List V} (e : Same H H') (h : SqL K H a xs) : SqL K H' a xs := by
  rcases h with (h | ⟨o, h⟩) | h
  · exact .inl (.inl (e _ _ h))
  · exact .inl (.inr ⟨o, e _ _ h⟩)
  · exact .inr h
end L2
end
section
namespace L2
open PySem PySem.Spec PyProof.Rows
section
variable {κ : Type} [DecidableEq κ]
noncomputable def valV (kvs : List (κ × V)) (k : κ) : Option V := (kvs.find? fun kv => decide (kv.1 = k)).map (·.2)
noncomputable def putK (kvs : List (κ × V)) (k : κ) (v : V) : List (κ × V) :=
  if (kvs.any fun kv => decide (kv.1 = k)) = true then kvs.map (fun kv => if kv.1 = k then (kv.1, v) else kv) else kvs ++ [(k, v)]
noncomputable def dropK (kvs : List (κ × V)) (k : κ) : List (κ × V) := kvs.filter fun kv => decide (kv.1 ≠ k)
theorem valV_pos {p : κ × V} {r : List (κ × V)} {k : κ} (e : p.1 = k) : valV (p :: r) k = some p.2 := by simp [valV, List.find?_cons, e]
theorem valV_neg {p : κ × V} {r : List (κ × V)} {k : κ} (e : ¬ p.1 = k) : valV (p :: r) k = valV r k := by simp [valV, List.find?_cons, e]
theorem valV_any (k : κ) : ∀ kvs : List (κ × V), (kvs.any fun kv => decide (kv.1 = k)) = (valV kvs k).isSome
  | [] => rfl
  | p :: r => by
    rw [List.any_cons]
    by_cases e : p.1 = k
    · simp only [valV_pos e, decide_eq_true e, Bool.true_or, Option.isSome_some]
    · rw [valV_neg e, decide_eq_false e, Bool.false_or]; exact valV_any k r
theorem RelO.isSome_eq {o : Option V} {u : Option Value} (r : RelO o u) : o.isSome = u.isSome := by
  cases o with
  | none => cases u with
    | none => rfl
    | some _ => exact (show False from r).elim
  | some _ => cases u with
    | none => exact (show False from r).elim
    | some _ => rfl
theorem RelO.getD {o : Option V} {u : Option Value} {d : V} {d' : Value} (r : RelO o u) (rd : RelV d d') : RelV (o.getD d) (u.getD d') := by
  cases o with
  | none => cases u with
    | none => exact rd
    | some _ => exact (show False from r).elim
  | some _ => cases u with
    | none => exact (show False from r).elim
    | some _ => exact r
theorem KV.val {kvs : List (κ × V)} {vs : List (κ × Value)} (r : KV kvs vs) (k : κ) : RelO (valV kvs k) (valueAt vs k) := by
  unfold KV at r
  induction r with
  | nil => exact True.intro
  | @cons p q ps qs h t ih =>
    obtain ⟨h1, h2⟩ := h
    by_cases e : p.1 = k
    · have e' : q.1 = k := h1.symm.trans e
      have b : valueAt (q :: qs) k = some q.2 := by simp [valueAt, List.find?_cons, e']
      rw [valV_pos e, b]; exact h2
    · have e' : ¬ q.1 = k := fun z => e (h1.trans z)
      have b : valueAt (q :: qs) k = valueAt qs k := by simp [valueAt, List.find?_cons, e']
      rw [valV_neg e, b]; exact ih
theorem KV.any {kvs : List (κ × V)} {vs : List (κ × Value)} (r : KV kvs vs) (k : κ) : (kvs.any fun kv => decide (kv.1 = k)) = vs.any fun kv => decide (kv.1 = k) := by
  unfold KV at r
  induction r with
  | nil => rfl
  | cons h t ih => rw [List.any_cons, List.any_cons, ih, h.1]
theorem KV.repl {kvs : List (κ × V)} {vs : List (κ × Value)} (r : KV kvs vs) (k : κ) {y : V} {u : Value} (ry : RelV y u) :
    KV (kvs.map fun kv => if kv.1 = k then (kv.1, y) else kv) (vs.map fun kv => if kv.1 = k then (kv.1, u) else kv) := by
  unfold KV at r ⊢
  induction r with
  | nil => exact .nil
  | @cons p q ps qs h t ih =>
    rw [List.map_cons, List.map_cons]
    refine .cons ?_ ih
    obtain ⟨h1, h2⟩ := h
    by_cases e : p.1 = k
    · rw [if_pos e, if_pos (h1.symm.trans e)]; exact ⟨h1, ry⟩
    · rw [if_neg e, if_neg (fun z => e (h1.trans z))]; exact ⟨h1, h2⟩
theorem KV.put {kvs : List (κ × V)} {vs : List (κ × Value)} (r : KV kvs vs) (k : κ) {y : V} {u : Value} (ry : RelV y u) : KV (putK kvs k y) (stored vs k u) := by
  unfold putK stored
  rw [r.any k]
  by_cases e : (vs.any fun kv => decide (kv.1 = k)) = true
  · rw [if_pos e, if_pos e]; exact r.repl k ry
  · rw [if_neg e, if_neg e]; exact Paired.snoc r ⟨rfl, ry⟩
theorem KV.drop {kvs : List (κ × V)} {vs : List (κ × Value)} (r : KV kvs vs) (k : κ) : KV (dropK kvs k) (without vs k) := by
  unfold KV at r ⊢
  unfold dropK without
  induction r with
  | nil => exact .nil
  | @cons p q ps qs h t ih =>
    obtain ⟨h1, h2⟩ := h
    rw [List.filter_cons, List.filter_cons]
    by_cases e : p.1 = k
    · have a : ¬ decide (p.1 ≠ k) = true := by simp [e]
      have b : ¬ decide (q.1 ≠ k) = true := by simp [h1.symm.trans e]
      rw [if_neg a, if_neg b]; exact ih
    · have e' : ¬ q.1 = k := fun z => e (h1.trans z)
      have a : decide (p.1 ≠ k) = true := by simp [e]
      have b : decide (q.1 ≠ k) = true := by simp [e']
      rw [if_pos a, if_pos b]; exact .cons ⟨h1, h2⟩ ih
theorem KV.length {kvs : List (κ × V)} {vs : List (κ × Value)} (r : KV kvs vs) : kvs.length = vs.length := Paired.length r
end
noncomputable abbrev KT (H : Hp) : List (List Key × V) → List (List Key × Addr × Value) → Prop := Paired fun p q => p.1 = q.1 ∧ H q.2.1 = some (.tup (p.1.map kV)) ∧ RelV p.2 q.2.2
theorem KT.val {H : Hp} {kvs : List (List Key × V)} {xs : List (List Key × Addr × Value)} (r : KT H kvs xs) (k : List Key) : RelO (valV kvs k) ((atKey xs k).map (·.2)) := by
  induction r with
  | nil => exact True.intro
  | @cons p q ps qs h t ih =>
    obtain ⟨h1, _, h2⟩ := h
    by_cases e : p.1 = k
    · have e' : q.1 = k := h1.symm.trans e
      have b : atKey (q :: qs) k = some q.2 := by simp [atKey, List.find?_cons, e']
      rw [valV_pos e, b]; exact h2
    · have e' : ¬ q.1 = k := fun z => e (h1.trans z)
      have b : atKey (q :: qs) k = atKey qs k := by simp [atKey, List.find?_cons, e']
      rw [valV_neg e, b]; exact ih
theorem KT.repl {H : Hp} {kvs : List (List Key × V)} {xs : List (List Key × Addr × Value)} (r : KT H kvs xs) (k : List Key) {y : V} {u : Value} (ry : RelV y u) :
    KT H (kvs.map fun kv => if kv.1 = k then (kv.1, y) else kv) (xs.map (putAt k u)) := by
  induction r with
  | nil => exact .nil
  | @cons p q ps qs h t ih =>
    rw [List.map_cons, List.map_cons]
    refine .cons ?_ ih
    obtain ⟨h1, h2, h3⟩ := h
    unfold putAt
    by_cases e : p.1 = k
    · rw [if_pos e, if_pos (h1.symm.trans e)]; exact ⟨h1, h2, ry⟩
    · rw [if_neg e, if_neg (fun z => e (h1.trans z))]; exact ⟨h1, h2, h3⟩
theorem KT.put {H : Hp} {kvs : List (List Key × V)} {xs : List (List Key × Addr × Value)} (r : KT H kvs xs) (k : List Key) {b : Addr} {y : V} {u : Value} (hb : H b = some (.tup (k.map kV))) (ry : RelV y u) :
    KT H (putK kvs k y) (storedH xs k b u) := by
  have e : (kvs.any fun kv => decide (kv.1 = k)) = (atKey xs k).isSome := by
    rw [valV_any, (r.val k).isSome_eq, Option.isSome_map]
  unfold putK storedH
  rw [e]
  by_cases q : (atKey xs k).isSome = true
  · rw [if_pos q, if_pos q]; exact r.repl k ry
  · rw [if_neg q, if_neg q]; exact Paired.snoc r ⟨rfl, hb, ry⟩
theorem KT.keeps {H H' : Hp} {kvs : List (List Key × V)} {xs : List (List Key × Addr × Value)} (r : KT H kvs xs) (ht : ∀ b ys, H b = some (.tup ys) → H' b = some (.tup ys)) : KT H' kvs xs :=
  Paired.mapP r fun _ _ z => ⟨z.1, ht _ _ z.2.1, z.2.2⟩
section
variable {P : Program} {w : World} {H : Hp} {h : Heap} {a : Addr}
end
noncomputable def DGet (H : Hp) (a : Addr) (y : V) (r : Option V) : Prop :=
  (∃ kvs k, Rd H a (.dK kvs) ∧ y = kV k ∧ r = valV kvs k) ∨ ∃ kvs k b, Rd H a (.dT kvs) ∧ y = .ref b ∧ H b = some (.tup (k.map kV)) ∧ r = valV kvs k
noncomputable def DPut (H : Hp) (a : Addr) (y v : V) (H' : Hp) : Prop :=
  (∃ kvs k, H a = some (.dK kvs) ∧ y = kV k ∧ kvs.length < sizeLine ∧ H' = upd H a (.dK (putK kvs k v))) ∨
  ∃ kvs k b, H a = some (.dT kvs) ∧ y = .ref b ∧ H b = some (.tup (k.map kV)) ∧ kvs.length < sizeLine ∧ H' = upd H a (.dT (putK kvs k v))
theorem DGet.k {H : Hp} {a : Addr} {kvs : List (Key × V)} {k : Key} (e : H a = some (.dK kvs)) : DGet H a (kV k) (valV kvs k) := .inl ⟨kvs, k, .inl e, rfl, rfl⟩
theorem DGet.t {H : Hp} {a b : Addr} {kvs : List (List Key × V)} {k : List Key} (e : H a = some (.dT kvs)) (eb : H b = some (.tup (k.map kV))) : DGet H a (.ref b) (valV kvs k) := .inr ⟨kvs, k, b, .inl e, rfl, eb, rfl⟩
theorem DPut.k {H : Hp} {a : Addr} {kvs : List (Key × V)} {k : Key} {v : V} (e : H a = some (.dK kvs)) (hl : kvs.length < sizeLine) : DPut H a (kV k) v (upd H a (.dK (putK kvs k v))) := .inl ⟨kvs, k, e, rfl, hl, rfl⟩
theorem DPut.t {H : Hp} {a b : Addr} {kvs : List (List Key × V)} {k : List Key} {v : V} (e : H a = some (.dT kvs)) (eb : H b = some (.tup (k.map kV))) (hl : kvs.length < sizeLine) :
    DPut H a (.ref b) v (upd H a (.dT (putK kvs k v))) := .inr ⟨kvs, k, b, e, rfl, eb, hl, rfl⟩
section
variable {X : Cx} {pins : List (Addr × Obj)} {σ : St} {H : Hp} {s : Shared} {a : Addr} {y v : V} {u r : Value} {o : Option V} {A : Around} {E : Value → Shared → Prop}
theorem Inv.big (I : Inv X pins σ H s) : sysModules < s.heap.objs.size := by
  have h : mainGlobals < s.heap.objs.size := (I.mod.glob.keeps I.bk).lt
  exact Nat.lt_trans (by decide) h
end
section
variable {X : Cx} {pins : List (Addr × Obj)} {σ : St} {H : Hp} {s : Shared} {a : Addr} {kvs : List (Key × V)} {k : Key} {u : Value} {A : Around} {E : Value → Shared → Prop}
end
section
variable {X : Cx} {o i e value : Expr} {pos pos' tpos : Pos} {td ty tv : TE}
end
theorem dk_empty {P : Program} {w : World} {H : Hp} (h : Heap) (hb : sysModules < h.objs.size) : ObjOk P w H (h.push { cls := .type "dict", data := .dict #[] }) h.objs.size (.dK []) :=
  ⟨Nat.zero_le _, beq_eq_false_iff_ne.mpr (Ne.symm (Nat.ne_of_lt hb)), [], .nil, Heap.DictOf.new h⟩
noncomputable def tDNewK : TE := fun _ H Q => ∀ p, H p = none → Q (.ref p) (upd H p (.dK []))
section
variable {X : Cx} {pos : Pos}
theorem pe_dnewK : PE X (.Dict [] [] pos) tDNewK := fun pins s σ H Q I h =>
  wpAny_Dict_empty ⟨.ref s.heap.objs.size, _, I.laid (a := s.heap.objs.size) (o := .dK []) (t' := s.toks) (fun _ _ q => Heap.get?_push_of_some _ q) (Nat.le_refl _) (dk_empty s.heap I.big), rfl, h _ (I.hok.fresh (Nat.le_refl _))⟩
end
end L2
end
section
set_option linter.all false
set_option maxRecDepth 100000
namespace Mi
open PySem PySem.Spec PyProof.Rows L2
theorem orStandIn_led (t : SetTable) (n : Nat) : (t.orStandIn n).led = t.led := by unfold SetTable.orStandIn; split <;> rfl
theorem orStandIn_plain (t : SetTable) (n : Nat) (h : t.plain = false) : (t.orStandIn n).plain = false := by unfold SetTable.orStandIn; split <;> first | exact h | rfl
theorem layNew_led (t : SetTable) (es : Array (Int × Value)) (h : Int) (x : Value) : (layNew t es h x).2.1.led = t.led := by
  unfold layNew
  split
  · exact orStandIn_led _ _
  · rfl
theorem layNew_plain (t : SetTable) (es : Array (Int × Value)) (h : Int) (x : Value) (hp : t.plain = false) : (layNew t es h x).2.1.plain = false := by
  unfold layNew
  split
  · exact orStandIn_plain _ _ hp
  · rfl
theorem relaid_led {t t' : SetTable} {hs : Array Int} {n : Nat} {o : Array Nat} (h : t.relaid hs n = some (t', o)) : t'.led = t.led ∧ t'.plain = t.plain := by
  unfold SetTable.relaid SetTable.laid at h
  simp only [Option.bind_eq_bind] at h
  obtain ⟨w, _, h2⟩ := Option.bind_eq_some_iff.mp h
  cases h2
  exact ⟨rfl, rfl⟩
theorem relayAll_led (t : SetTable) (es : Array (Int × Value)) (n : Nat) : (relayAll t es n).2.1.led = t.led := by
  unfold relayAll
  split
  · rename_i t' o h
    dsimp only
    split
    · exact (relaid_led h).1
    · rfl
  · rfl
theorem relayAll_plain (t : SetTable) (es : Array (Int × Value)) (n : Nat) (hp : t.plain = false) : (relayAll t es n).2.1.plain = false := by
  unfold relayAll
  split
  · rename_i t' o h
    dsimp only
    split
    · exact (relaid_led h).2.trans hp
    · rfl
  · rfl
structure SetE (prog : Program) (w : World) (led : Bool) (o : Obj) (D : List Str) (es : Array (Int × Value)) (ep : Nat) (t : SetTable) : Prop where
  ex : o.ExactSet
  data : o.data = .set es ep t
  el : ElemsOf (PySem.strKind prog w) es.toList
  txs : (es.toList.map fun e => strOf e.2).Perm D
  nd : D.Nodup
  room : es.size < scanBound
  fits : t.fits es.size = true
  led : t.led = led
  plain : es.size ≠ 0 → t.plain = false
noncomputable def SetS (prog : Program) (w : World) (led : Bool) (h : Heap) (a : Addr) (D : List Str) : Prop := ∃ o es ep t, h.get? a = some o ∧ SetE prog w led o D es ep t
theorem isStr_strOf {x : Str} {v : Value} (h : Value.isStrOf x v = true) : strOf v = x := by
  obtain ⟨t, rfl⟩ := Value.isStrOf_shape h
  rfl
section
variable {prog : Program} {w : World} {A : Around} {E : Value → Shared → Prop} {s : Shared} {led : Bool}
theorem strOf_is {v : Value} (h : ∃ k, (PySem.strKind prog w).is k v = true) : Value.isStrOf (strOf v) v = true := by
  obtain ⟨k, hk⟩ := h
  have hk : Value.isStrOf k v = true := hk
  rw [isStr_strOf hk]
  exact hk
theorem mem_strs {es : List (Int × Value)} (he : ElemsOf (PySem.strKind prog w) es) (k : Str) : (∃ e ∈ es, (PySem.strKind prog w).is k e.2 = true) ↔ k ∈ es.map fun e => strOf e.2 := by
  constructor
  · rintro ⟨e, he, hk⟩
    exact List.mem_map.mpr ⟨e, he, isStr_strOf hk⟩
  · intro h
    obtain ⟨e, hm, rfl⟩ := List.mem_map.mp h
    obtain ⟨⟨k, hk, _⟩, _⟩ := he e hm
    exact ⟨e, hm, strOf_is ⟨k, hk⟩⟩
theorem add_str {a : Addr} {D : List Str} {x : Str} {tk : Tok} {Q : Bool → Shared → Prop} (hS : SetS prog w led s.heap a D) (hroom : D.length + 1 < scanBound)
    (h : ∀ h' b, Heap.SameBut a s.heap h' → SetS prog w led h' a (if x ∈ D then D else D ++ [x]) → Q b { s with heap := h' }) :
    wpAny (model prog w) A (setAddHashed a (.str x tk) (hashStr w x)) Q E s := by
  obtain ⟨o, es, ep, t, ho, hE⟩ := hS
  have hex := hE.ex
  have hd := hE.data
  have hel := hE.el
  have hf := hE.fits
  have hkey : (PySem.strKind prog w).is x (.str x tk) = true := by show Value.isStrOf x (.str x tk) = true; simp [Value.isStrOf]
  have hsc : (Value.str x tk).scannable = true := rfl
  have hlen : es.size = D.length := by rw [← hE.txs.length_eq, List.length_map, Array.length_toList]
  show wpAny (model prog w) A (setAddHashed a (.str x tk) ((PySem.strKind prog w).hash x)) Q E s
  unfold setAddHashed setAddHashedIn
  refine wpAny_holding (wpAny_bind (wpAny_setState_of ho hd hf ?_))
  dsimp only
  rw [byScan_of hsc hE.room hel]
  simp only [↓reduceIte]
  unfold setAddByScan
  refine wpAny_bind ?_
  refine wpAny_bind (wpAny_rule ?_)
  refine wpAny_bind (wpAny_setScan_of hkey ho hd hf hel ?_)
  cases hr : List.findIdx? (fun e => (PySem.strKind prog w).is x e.2) es.toList with
  | some j =>
    dsimp only
    obtain ⟨hj, hpj, _⟩ := List.findIdx?_eq_some_iff_getElem.mp hr
    have hm : x ∈ D := hE.txs.mem_iff.mp ((mem_strs hel x).mp ⟨_, List.getElem_mem hj, hpj⟩)
    refine wpAny_pure (wpAny_pure ?_)
    have := h s.heap false (Heap.SameBut.refl a s.heap) (by rw [if_pos hm]; exact ⟨o, es, ep, t, ho, hE⟩)
    exact this
  | none =>
    dsimp only
    have hm : x ∉ D := fun hx => by
      obtain ⟨e, he, hp⟩ := (mem_strs hel x).mpr (hE.txs.mem_iff.mpr hx)
      have := List.findIdx?_eq_none_iff.mp hr e he
      rw [hp] at this
      exact Bool.noConfusion this
    have hgw : ∀ (b : Bool) (s₁ : Shared) (Q' : Unit → Shared → Prop), Q' () s₁ → wpAny (model prog w) A (match b with | true => rule "set.scan.the-table-gave-way" | false => pure ()) Q' E s₁ :=
      fun b s₁ Q' hq => by cases b <;> first | exact wpAny_pure hq | exact wpAny_rule hq
    have hperm := layNew_perm t es ((PySem.strKind prog w).hash x) (.str x tk)
    have hfits := layNew_fits t es ((PySem.strKind prog w).hash x) (.str x tk)
    have hled := layNew_led t es ((PySem.strKind prog w).hash x) (.str x tk)
    have hplain := layNew_plain t es ((PySem.strKind prog w).hash x) (.str x tk)
    generalize hL : layNew t es ((PySem.strKind prog w).hash x) (.str x tk) = L at hperm hfits hled hplain ⊢
    obtain ⟨es1, t1, wasDummy, gave⟩ := L
    dsimp only at hperm hfits hled hplain ⊢
    rw [Array.toList_push] at hperm
    have hel1 : ElemsOf (PySem.strKind prog w) es1.toList := (hel.push hkey hsc).perm hperm
    have hsz1 : es1.size = es.size + 1 := by rw [← Array.length_toList, hperm.length_eq, List.length_append, Array.length_toList]; rfl
    have hb1 : es1.size < scanBound := by omega
    have hst1 : (es1.toList.map fun e => strOf e.2).Perm (D ++ [x]) := by
      refine (hperm.map _).trans ?_
      rw [List.map_append]
      exact hE.txs.append_right _
    have hnd : (D ++ [x]).Nodup := by
      rw [List.nodup_append]
      refine ⟨hE.nd, by simp, fun y hy z hz => ?_⟩
      rw [List.mem_singleton.mp hz]
      exact fun e => hm (e ▸ hy)
    -- the end, at a table that is plain no more
    have fin : ∀ t2 : SetTable, t2.led = led → t2.plain = false → t2.fits es1.size = true → wpAny (model prog w) A (do
        storeSet a es1 t2
        if (!wasDummy && t2.tooFull) = true then do
            (match (relayAll t2 es1 (SetTable.grown es1.size)).2.2 with | true => rule "set.scan.the-table-gave-way" | false => pure ())
            storeSet a (relayAll t2 es1 (SetTable.grown es1.size)).1 (relayAll t2 es1 (SetTable.grown es1.size)).2.1
            pure (some true)
          else pure (some true)) (fun r s' => match r with
            | some b => Q b s'
            | none => False) E s := fun t2 hl2 hp2 hf2 => by
      have hg1 : (s.heap.update a (Obj.putSet es1 t2)).get? a = some { o with data := .set es1 (ep + 1) t2 } := by
        have := Heap.get?_update_self (Obj.putSet es1 t2) ho (by rw [putSet_of es1 t2 hd]; rfl)
        rw [putSet_of es1 t2 hd] at this
        exact this
      have hsb1 := Heap.SameBut.update s.heap a (Obj.putSet es1 t2)
      refine wpAny_bind (wpAny_storeSet_of ho hd ?_ (fits_of_scanBound hb1))
      split
      · have hp := relayAll_perm t2 es1 (SetTable.grown es1.size)
        have hfr := relayAll_fits t2 es1 (SetTable.grown es1.size)
        have hrl := relayAll_led t2 es1 (SetTable.grown es1.size)
        have hrp := relayAll_plain t2 es1 (SetTable.grown es1.size) hp2
        generalize relayAll t2 es1 (SetTable.grown es1.size) = Rl at hp hfr hrl hrp ⊢
        obtain ⟨es2, t3, gave2⟩ := Rl
        dsimp only at hp hfr hrl hrp ⊢
        have hsz : es2.size = es1.size := by rw [← Array.length_toList, hp.length_eq, Array.length_toList]
        refine wpAny_bind (hgw _ _ _ ?_)
        refine wpAny_bind (wpAny_storeSet_of hg1 rfl ?_ (fits_of_scanBound (by omega)))
        have hg2 : ((s.heap.update a (Obj.putSet es1 t2)).update a (Obj.putSet es2 t3)).get? a = some { o with data := .set es2 (ep + 1 + 1) t3 } :=
          Heap.get?_update_self (Obj.putSet es2 t3) hg1 rfl
        refine wpAny_pure (h _ true (hsb1.trans (Heap.SameBut.update _ a _)) ?_)
        rw [if_neg hm]
        exact ⟨_, es2, _, t3, hg2, ⟨hex, rfl, hel1.perm hp, (hp.map _).trans hst1, hnd, by omega, hfr, hrl.trans hl2, fun _ => hrp⟩⟩
      · refine wpAny_pure (h _ true hsb1 ?_)
        rw [if_neg hm]
        exact ⟨_, es1, _, t2, hg1, ⟨hex, rfl, hel1, hst1, hnd, hb1, hf2, hl2, fun _ => hp2⟩⟩
    refine wpAny_bind (hgw _ _ _ ?_)
    have done : ∀ {r : Option Bool} {s' : Shared}, (match r with
        | some b => Q b s'
        | none => False) → wpAny (model prog w) A (match r with
          | some added => pure added
          | none => setAddHashedIn a (.str x tk) ((PySem.strKind prog w).hash x) 99999) Q E s' := fun {r s'} hr => by
      cases r with
      | none => exact hr.elim
      | some b => exact wpAny_pure hr
    split
    · refine wpAny_bind ?_
      rw [hashByValue_scannable 8 hsc]
      refine wpAny_pure ?_
      exact wpAny_mono (fin { t1 with plain := false } (hled.trans hE.led) rfl (SetTable.fits_plain_off hfits)) (fun r s' hr => done hr) fun _ _ e => e
    · rename_i hpl
      refine wpAny_bind (wpAny_pure ?_)
      simp only [↓reduceIte]
      exact wpAny_mono (fin t1 (hled.trans hE.led) (by simpa using hpl) hfits) (fun r s' hr => done hr) fun _ _ e => e
noncomputable def dd (val : Nat → Str) : Nat → List Str
  | 0 => []
  | i + 1 => if val i ∈ dd val i then dd val i else dd val i ++ [val i]
theorem dd_len (val : Nat → Str) : ∀ i, (dd val i).length ≤ i
  | 0 => Nat.le_refl _
  | i + 1 => by
    have := dd_len val i
    unfold dd
    split
    · omega
    · rw [List.length_append, List.length_singleton]; omega
noncomputable abbrev ledOf (w : World) : Bool := !w.params.followText "set-order"
theorem SetS.at' {h h' : Heap} {a : Addr} {D : List Str} (hS : SetS prog w led h a D) (k : ∀ o, h.get? a = some o → h'.get? a = some o) : SetS prog w led h' a D := by
  obtain ⟨o, es, ep, t, ho, hE⟩ := hS
  exact ⟨o, es, ep, t, k o ho, hE⟩
theorem set_loop {I : Addr} {fp wr : List Addr} {G : Array GenState → Array GenState → Prop} {n : Nat} {P : Nat → Value → Prop} {St : Nat → Shared → Prop} {R : Result → Shared → Prop} (W : WalksS prog w A.in1 I fp wr G n P St) (S : Addr) (hSf : S ∉ fp)
    (val : Nat → Str) (hval : ∀ i v, P i v → ∃ t, v = .str (val i) t) (hb : n + 1 < scanBound) : ∀ (k i : Nat) (s : Shared), n - i = k → i ≤ n → St i s → SetS prog w led s.heap S (dd val i) →
      (∀ s', Moved (S :: wr) G s s' → SetS prog w led s'.heap S (dd val n) → R (.ok (.ret .none)) s') → codeAny (model prog w) A (.builtin "set.update.loop" ⟨[.ref S, .ref I], []⟩) R s := by
  have hSw : S ∉ wr := fun h => hSf (W.sub _ h)
  have hsub : ∀ b ∈ wr, b ∈ S :: wr := fun b hb => List.mem_cons_of_mem _ hb
  intro k
  induction k with
  | zero =>
    intro i s hk hi hst hS hR
    have hin : i = n := by omega
    subst hin
    refine codeAny_builtin PyProof.Rows.F.entry_set_update_loop ?_
    rw [Around.under_plainId PyProof.Rows.F.plain_set_update_loop _]
    show wpAny _ A.in1 (pyNext (.ref I) >>= _) _ _ s
    refine wpAny_bind (W.done s _ _ hst fun s' hm => ?_)
    show wpAny _ A.in1 (ret Value.none) _ _ s'
    exact wpAny_pure (hR s' (hm.mono hsub) (hS.at' fun o ho => hm.heap S _ hSw ho))
  | succ k ih =>
    intro i s hk hi hst hS hR
    have hlt : i < n := by omega
    refine codeAny_builtin PyProof.Rows.F.entry_set_update_loop ?_
    rw [Around.under_plainId PyProof.Rows.F.plain_set_update_loop _]
    show wpAny _ A.in1 (pyNext (.ref I) >>= _) _ _ s
    refine wpAny_bind (W.item i s _ _ hlt hst fun v s' hP hst' hm => ?_)
    obtain ⟨t, rfl⟩ := hval i v hP
    have hS' : SetS prog w led s'.heap S (dd val i) := hS.at' fun o ho => hm.heap S _ hSw ho
    show wpAny _ A.in1 (holding [Value.str (val i) t] (setAdd S (.str (val i) t)) >>= _) _ _ s'
    refine wpAny_bind (wpAny_holding ?_)
    unfold setAdd
    refine wpAny_holding ?_
    refine wpAny_bind ((PySem.strKind prog w).pyHash (k := val i) (by show Value.isStrOf (val i) (.str (val i) t) = true; simp [Value.isStrOf]) ?_)
    have hroom : (dd val i).length + 1 < scanBound := by have := dd_len val i; omega
    refine add_str (s := { s' with toks := s'.toks + 1 }) hS' hroom fun h' b hsb hS2 => ?_
    refine wpAny_pure ⟨plainId_quiet PyProof.Rows.F.plain_set_update_loop _, ih (i + 1) _ (by omega) hlt (W.frame _ s' _ _ hst' (Nat.le_succ _) fun b hb o e => ?_) hS2 fun s'' hm'' hS'' => ?_⟩
    · rw [hsb.2 b (fun h : b = S => hSf (by rw [← h]; exact hb))]; exact e
    · refine hR s'' (Moved.trans W.gtrans ((hm.mono hsub).then_heap (Nat.le_succ _) fun b o hb e => ?_) hm'') hS''
      rw [hsb.2 b (fun h : b = S => hb (by rw [h]; exact List.mem_cons_self))]; exact e
theorem set_made (a : Value) {Q₁ : Value → Shared → Prop}
    (h : Q₁ (.ref s.heap.objs.size) { s with heap := s.heap.push { cls := .type "set", dict := none, data := .set #[] 0 (.fresh 0 0 (ledOf w)) } }) :
    codeAny (model prog w) A (.call (.builtin "set.__new__") ⟨[.type "set", a], []⟩) (wants Q₁ E) s := by
  refine codeAny_of_tree ?_
  show wpAny _ A.in1 (do checkBuiltinCall "set.__new__" ⟨[.type "set", a], []⟩; again (.builtin "set.__new__" ⟨[.type "set", a], []⟩)) _ _ s
  refine wpAny_bind (wpAny_of_eq (PySem.F.newCall_set_1 a) (wpAny_pure ⟨plainId_quiet PySem.F.plain_set_new _, codeAny_builtin PySem.F.entry_set_new ?_⟩))
  rw [Around.under_plainId PySem.F.plain_set_new _]
  unfold Builtin.«set.__new__» Builtin.Frozenset.newClass
  have hsub := sub_set_self
  obtain ⟨hp, g, d, tk, os⟩ := s
  dsimp only
  wp_walk
  refine wpAny_askSetting (wpAny_pure ?_)
  dsimp only
  simp only [newObj]
  refine wpAny_bind (wpAny_alloc (wpAny_pure ?_))
  exact wpAny_pure h
theorem fresh_set {h : Heap} {a : Addr} {led : Bool} (ha : h.get? a = some { cls := .type "set", dict := none, data := .set #[] 0 (.fresh 0 0 led) }) : SetS prog w led h a [] :=
  ⟨_, #[], 0, _, ha, ⟨⟨rfl, rfl, rfl⟩, rfl, fun e he => by simp at he, List.Perm.nil, List.nodup_nil, by unfold scanBound; decide, rfl, rfl, fun h => absurd rfl h⟩⟩
set_option maxHeartbeats 3200000 in
theorem call_set_strs {l : Addr} {items : Array Value} {val : Nat → Str} {Q : Value → Shared → Prop} (hh : A.handled = none) (hl : s.heap.IsList l items) (hv : ∀ (i : Nat) v, items[i]? = some v → ∃ t, v = .str (val i) t) (hb : items.size + 1 < scanBound)
    (h : ∀ (h' : Heap) (tk : Nat), SetS prog w (ledOf w) h' s.heap.objs.size (dd val items.size) → (∀ b o, s.heap.get? b = some o → h'.get? b = some o) → Q (.ref s.heap.objs.size) { s with heap := h', toks := tk }) :
    wpAny (model prog w) A (PySem.call (.type "set") [.ref l]) Q E s := by
  obtain ⟨c, tl, hmro⟩ := PySem.F.called_set.mro
  have hmade := PySem.F.called_set.made
  have hsub := PySem.F.called_set.sub
  refine wpAny_call (codeAny_of_tree ?_)
  show wpAny _ _ (callAny (.type "set") _) _ _ _
  refine wpAny_pure ⟨Code.quiet_builtin _ (by decide +kernel), codeAny_builtin PySem.F.entry_type_call ?_⟩
  rw [Around.under_plain (weight_type_call_type "set" [.ref l] []) rfl]
  have h1 := PySem.F.called_set.notType
  have h2 := PySem.F.called_set.canCreate
  have hct := PySem.F.typeCall_set_1 (.ref l)
  repeat (any_goals (first | assumption | wp_step))
  refine codeAny_mono (set_made (.ref l) (E := E) (Q₁ := fun obj s₁ => obj = .ref s.heap.objs.size ∧ s₁ = { s with heap := s.heap.push { cls := .type "set", dict := none, data := .set #[] 0 (.fresh 0 0 (ledOf w)) } }) ⟨rfl, rfl⟩) fun r s₁ hr => ?_
  cases r with
  | error e => exact hr
  | ok fl =>
    cases fl with
    | ret obj =>
      obtain ⟨rfl, rfl⟩ := hr
      have hS : (s.heap.push { cls := .type "set", dict := none, data := .set #[] 0 (.fresh 0 0 (ledOf w)) }).get? s.heap.objs.size = some { cls := .type "set", dict := none, data := .set #[] 0 (.fresh 0 0 (ledOf w)) } := Heap.get?_push_size _ rfl
      have hT : Shared.TypeIs { s with heap := s.heap.push { cls := .type "set", dict := none, data := .set #[] 0 (.fresh 0 0 (ledOf w)) } } (.ref s.heap.objs.size) "set" := ⟨_, hS, rfl⟩
      have hli := PySem.F.called_set.init.lookup
      have hbi := PySem.F.called_set.init.bind (.ref s.heap.objs.size)
      repeat (any_goals (first | assumption | wp_step))
      refine codeAny_mono (codeAny_call_builtin (R := wants (fun r s₂ => r = .none ∧ ∃ h' tk, s₂ = { s with heap := h', toks := tk } ∧ SetS prog w (ledOf w) h' s.heap.objs.size (dd val items.size) ∧ (∀ b o, s.heap.get? b = some o → h'.get? b = some o)) E) PySem.F.called_set.init.plain PySem.F.entry_set_init (check_set_init_1 hT ?_)) fun r₂ s₂ hr₂ => ?_
      · obtain ⟨ol, hol, hcl, nl, hdl⟩ := hl
        obtain ⟨ocls, odict, odata, oslots⟩ := ol
        simp only at hcl hdl
        subst hcl; subst hdl
        have hol' : (s.heap.push { cls := .type "set", dict := none, data := .set #[] 0 (.fresh 0 0 (ledOf w)) }).get? l = some { cls := .type "list", dict := odict, data := .seq items nl, slots := oslots } := Heap.get?_push_of_some _ hol
        have hsls := PySem.F.sub_list_set
        have hslf := PySem.F.sub_list_frozenset
        have hne : (Value.type "list" == Value.type "dict") = false := by decide
        have hl1 : (s.heap.push { cls := .type "set", dict := none, data := .set #[] 0 (.fresh 0 0 (ledOf w)) }).IsList l items := ⟨_, hol', rfl, nl, rfl⟩
        unfold Builtin.«set.__init__» noKeywords Builtin.Frozenset.updateFrom
        generalize hPI : pyIter = PI
        wp_walk
        subst hPI
        refine wpAny_pyIter_list hl1 ?_
        refine wpAny_bind (wpAny_runValue ?_)
        have hlS : l < s.heap.objs.size := Heap.lt_size hol
        have hh3 : A.in1.in1.in1.handled = none := by simp [hh]
        have hneI : l ≠ (s.heap.push { cls := .type "set", dict := none, data := .set #[] 0 (.fresh 0 0 (ledOf w)) }).objs.size := by
          rw [Heap.size_push]; exact Nat.ne_of_lt (Nat.lt_succ_of_lt hlS)
        have hSf : s.heap.objs.size ∉ [(s.heap.push { cls := .type "set", dict := none, data := .set #[] 0 (.fresh 0 0 (ledOf w)) }).objs.size, l] := by
          rw [Heap.size_push]; simp only [List.mem_cons, List.mem_singleton, List.not_mem_nil, or_false, not_or]
          exact ⟨Nat.ne_of_lt (Nat.lt_succ_self _), Nat.ne_of_gt hlS⟩
        refine set_loop (led := ledOf w) ((Walks.list hh3 _ l hneI items).toS) s.heap.objs.size hSf val hv hb (items.size - 0) 0 _ (by omega) (Nat.zero_le _)
          ⟨⟨_, Heap.get?_push_size _ rfl, rfl, rfl⟩, (hl1.push _)⟩ ?hS0 ?hR
        case hS0 =>
          exact fresh_set (led := ledOf w) (Heap.get?_push_of_some _ hS)
        case hR =>
          intro s' hm hS'
          obtain ⟨h', g', d', tk', os'⟩ := s'
          have eg : g' = s.gens := hm.gens
          have ed : d' = s.drawn := hm.drawn
          have eo : os' = s.os := hm.os
          subst eg; subst ed; subst eo
          show wpAny _ _ _ _ _ _
          refine wpAny_pure ?_
          show wpAny _ _ (ret Value.none) _ _ _
          refine wpAny_pure ⟨rfl, h', tk', rfl, hS', fun b o e => ?_⟩
          have hb := Heap.lt_size e
          have hb1 : b ≠ s.heap.objs.size := Nat.ne_of_lt hb
          have hb2 : b ≠ (s.heap.push { cls := .type "set", dict := none, data := .set #[] 0 (.fresh 0 0 (ledOf w)) }).objs.size := by
            rw [Heap.size_push]; exact Nat.ne_of_lt (Nat.lt_succ_of_lt hb)
          exact hm.heap b o (by simp only [List.mem_cons, List.mem_singleton, List.not_mem_nil, or_false, not_or]; exact ⟨hb1, hb2⟩) (Heap.get?_push_of_some _ (Heap.get?_push_of_some _ e))
      · cases r₂ with
        | error e => exact hr₂
        | ok fl₂ =>
          cases fl₂ with
          | ret r =>
            obtain ⟨rfl, h', tk, rfl, hS', hk'⟩ := hr₂
            repeat (any_goals (first | assumption | wp_step))
            exact h _ _ hS' hk'
          | _ => exact hr₂.elim
    | _ => exact hr.elim
end
end Mi
end
section
set_option linter.all false
set_option maxRecDepth 100000
namespace PySem.F
end PySem.F
namespace Mi
open PySem PySem.Spec PyProof.Rows L2
section
variable {M : Model} {A : Around} {E : Value → Shared → Prop} {s : Shared}
theorem perm_erase {α : Type} : ∀ (l : List α) (i : Nat) (h : i < l.length), (l[i] :: l.eraseIdx i).Perm l
  | _ :: _, 0, _ => .refl _
  | x :: l, i + 1, h => by
    have h' : i < l.length := by simpa using h
    show (l[i] :: x :: l.eraseIdx i).Perm (x :: l)
    exact (List.Perm.swap ..).trans ((perm_erase l i h').cons x)
end
section
variable {prog : Program} {w : World} {A : Around} {E : Value → Shared → Prop} {s : Shared}
noncomputable def ItRec (h : Heap) (it a : Addr) (first : Value) (i n ep : Nat) : Prop := ∃ o, h.get? it = some o ∧ o.cls = .type "set_iterator" ∧ o.data = .fields #[first, .int i 0, .ref a, .int n 0, .int ep 0]
theorem ItRec.typeIs {it a : Addr} {first : Value} {i n ep : Nat} (h : ItRec s.heap it a first i n ep) : s.TypeIs (.ref it) "set_iterator" := let ⟨o, ho, hc, _⟩ := h; ⟨o, ho, hc⟩
end
end Mi
end
section
set_option linter.all false
set_option maxRecDepth 100000
namespace PySem.F
end PySem.F
namespace Mi
open PySem PySem.Spec PyProof.Rows L2
section
variable {prog : Program} {w : World} {A : Around} {E : Value → Shared → Prop} {s : Shared}
theorem ItRec.at' {h h' : Heap} {it a : Addr} {f0 : Value} {i n ep : Nat} (x : ItRec h it a f0 i n ep) (k : ∀ o, h.get? it = some o → h'.get? it = some o) : ItRec h' it a f0 i n ep := let ⟨o, ho, r⟩ := x; ⟨o, k o ho, r⟩
inductive SetIt (w : World) (h : Heap) (it a tp : Addr) (vs : List Value) (i : Nat) : Prop where
  | drawn {o : Obj} {es : Array (Int × Value)} {ep : Nat} {t : SetTable} {pl : Array Value} : ItRec h it a (.ref tp) i es.size ep → h.get? a = some o → o.data = .set es ep t → t.fits es.size = true → h.IsTuple tp pl →
      (∀ (k : Nat) v, vs[k]? = some v → ∃ (pp : Nat) (e : Int × Value), pl[k]? = some (.int pp 0) ∧ es[pp]? = some e ∧ e.2 = v) → pl.size = vs.length → SetIt w h it a tp vs i
  | text {o : Obj} {es : Array (Int × Value)} {ep : Nat} {t : SetTable} : w.params.followText "set-order" = true → ItRec h it a (.int (0 : Nat) 0) i es.size ep → h.get? a = some o → o.data = .set es ep t → t.fits es.size = true →
      vs = (pickOrder (w.params.setOrder a ep) es).toList.map (·.2) → SetIt w h it a tp vs i
  | few {o : Obj} {es : Array (Int × Value)} {ep : Nat} {t : SetTable} {sl : Nat} : w.params.followText "set-order" = false → t.led = true → ItRec h it a (.int sl 0) i es.size ep → h.get? a = some o → o.data = .set es ep t → t.fits es.size = true → es.size ≤ 1 →
      vs = es.toList.map (·.2) → (i = 0 ∧ sl = 0 ∨ i = 1 ∧ es.size = 1 ∧ ∃ j, t.place = #[j] ∧ sl = j + 1) → SetIt w h it a tp vs i
theorem SetIt.at' {h h' : Heap} {it a tp : Addr} {vs : List Value} {i : Nat} (x : SetIt w h it a tp vs i) (k : ∀ b ∈ [it, a, tp], ∀ o, h.get? b = some o → h'.get? b = some o) : SetIt w h' it a tp vs i := by
  cases x with
  | drawn h1 h2 h3 h4 h5 h6 h7 => exact .drawn (h1.at' (k it (by simp))) (k a (by simp) _ h2) h3 h4 (let ⟨o, ho, r⟩ := h5; ⟨o, k tp (by simp) o ho, r⟩) h6 h7
  | text h0 h1 h2 h3 h4 h5 => exact .text h0 (h1.at' (k it (by simp))) (k a (by simp) _ h2) h3 h4 h5
  | few h0 hl h1 h2 h3 h4 h5 h6 h7 => exact .few h0 hl (h1.at' (k it (by simp))) (k a (by simp) _ h2) h3 h4 h5 h6 h7
end
end Mi
end
section
set_option linter.all false
set_option maxRecDepth 100000
namespace Mi
open PySem PySem.Spec PyProof.Rows L2
section
variable {prog : Program} {w : World} {A : Around} {E : Value → Shared → Prop} {s : Shared}
end
end Mi
end
section
set_option linter.all false
set_option maxRecDepth 100000
namespace Mi
open PySem PySem.Spec PyProof.Rows L2
section
variable {prog : Program} {w : World} {A : Around} {E : Value → Shared → Prop} {s : Shared}
end
end Mi
end
section
namespace Mi
open PySem
inductive T where
  | non | bl (b : Bool) | int (i : Int) | str (cs : List Nat)
  | tup (ts : List T) | lst (ts : List T)
  | dct (ks : List L2.Key) (ts : List T)
  | scr (ns : List Int)
  deriving Inhabited
inductive W where
  | t (x : T) | c (i : Nat) | f (a : Nat)
  deriving Inhabited
noncomputable abbrev Mem := List (Option (Bool × List T))
structure Exc where
  cls : Str
  flds : List T
inductive Res (a : Type) where
  | ok (x : a) (m : Mem) | exc (x : Exc) (m : Mem) | stuck
noncomputable def Res.bind {a b : Type} (r : Res a) (f : a → Mem → Res b) : Res b := match r with
  | .ok x m => f x m
  | .exc x m => .exc x m
  | .stuck => .stuck
noncomputable abbrev Env := List (Option W)
inductive B where
  | len | int | str | tuple | list | all | any | sum | min2 | max2 | sortset | sorted | dict | range1 | range2 | enum | zip2
  | bool | dget | din | dnot | zip4 | lenset | minl | isbis
  deriving DecidableEq
inductive Mt where
  | join | upper | append | pop | popat | insert | clear | count | get | index | split | partition | extend | reverse
  deriving DecidableEq
inductive Ty where
  | int | bool | str | tuple | list | dict
  deriving DecidableEq
inductive Tg where
  | nm (i : Nat) | tp (is : List Nat)
  deriving DecidableEq
mutual
inductive E where
  | var (i : Nat) | gl (k : Nat) | con (x : T)
  | bin (op : Operator) (a b : E) | neg (a : E) | not (a : E)
  | and (a b : E) | or (a b : E) | one (a : E)
  | cmp (op : CmpOp) (a b : E) | chn (op op' : CmpOp) (a b c : E)
  | ite (c a b : E)
  | tup (es : Es) | lst (es : Es) | cel (es : Es) | celL (a : E) | celA (a b : E) | dsp (ks vs : Es)
  | ix (a b : E) | slc (a lo hi : E) | rev (a : E) | hole
  | call (f : Nat) (es : Es) | blt (b : B) (es : Es) | mth (b : Mt) (o : E) (es : Es)
  | isi (a : E) (ty : Ty)
  | comp (own : Nat) (keep : List Nat) (it : E) (tg : Tg) (cs : Es) (inner : E)
  | more (it : E) (tg : Tg) (cs : Es) (inner : E)
  | emit (a : E)
  | tr (a : E)
  | fnv (j : Nat) | callV (i : Nat) (tab : List (Nat × Nat)) (es : Es)
inductive Es where
  | nil | cons (e : E) (es : Es)
end
noncomputable def isHole : E → Bool
  | .hole => true
  | _ => false
inductive S where
  | done
  | asg (i : Nat) (e : E) (k : S)
  | asgT (is : List Nat) (e : E) (k : S)
  | asgC (i : Nat) (e : E) (k : S)
  | set (o i v : E) (k : S)
  | aug (i : Nat) (op : Operator) (e : E) (k : S)
  | ife (c : E) (a b k : S)
  | forr (tg : Tg) (it : E) (body k : S)
  | whil (c : E) (body k : S)
  | ret (e : E) (k : S) | retN (k : S)
  | expr (e : E) (k : S) | pass (k : S) | brk (k : S) | cont (k : S)
noncomputable def lim : Nat := 1000000
noncomputable def nlt : List Nat → List Nat → Bool
  | [], [] => false
  | [], _ :: _ => true
  | _ :: _, [] => false
  | a :: x, b :: y => if a < b then true else if b < a then false else nlt x y
noncomputable def b2i (b : Bool) : Int := if b then 1 else 0
mutual
noncomputable def eqT : T → T → Bool
  | .non, .non => true
  | .bl a, .bl b => a == b
  | .bl a, .int b => b2i a == b
  | .int a, .bl b => a == b2i b
  | .int a, .int b => a == b
  | .str a, .str b => a == b
  | .tup a, .tup b => eqTs a b
  | .lst a, .lst b => eqTs a b
  | _, _ => false
noncomputable def eqTs : List T → List T → Bool
  | [], [] => true
  | a :: x, b :: y => eqT a b && eqTs x y
  | _, _ => false
end
mutual
noncomputable def deepT : Nat → T → Bool
  | _, .non => true
  | _, .bl _ => true
  | _, .int _ => true
  | _, .str cs => PyData.strOk ⟨cs.toArray⟩
  | n + 1, .tup ts => deepTs n ts
  | n + 1, .lst ts => deepTs n ts
  | _, _ => false
noncomputable def deepTs : Nat → List T → Bool
  | _, [] => true
  | n, t :: ts => deepT n t && deepTs n ts
end
noncomputable def flat : T → Bool
  | .non | .bl _ | .int _ | .str _ => true
  | _ => false
mutual
noncomputable def eqok : Nat → T → Bool
  | _, .non => true
  | _, .bl _ => true
  | _, .int _ => true
  | _, .str _ => true
  | n + 1, .tup ts => eqoks n ts
  | n + 1, .lst ts => eqoks n ts
  | _, _ => false
noncomputable def eqoks : Nat → List T → Bool
  | _, [] => true
  | n, t :: ts => eqok n t && eqoks n ts
end
noncomputable def truthT : T → Bool
  | .non => false
  | .bl b => b
  | .int i => i != 0
  | .str cs => !cs.isEmpty
  | .tup ts => !ts.isEmpty
  | .lst ts => !ts.isEmpty
  | .dct ks _ => !ks.isEmpty
  | .scr ns => !ns.isEmpty
noncomputable def ixOf (n : Nat) (i : Int) : Option Nat := if 0 ≤ i then (if i < n then some i.toNat else none) else if -(n : Int) ≤ i then some (i + n).toNat else none
noncomputable def atT {a : Type} (xs : List a) (i : Int) : Option a := (ixOf xs.length i).bind fun j => xs[j]?
noncomputable def cutIx (n d : Nat) : Option Int → Nat
  | none => d
  | some i => if i < 0 then (i + n).toNat else min i.toNat n
noncomputable def cut {a : Type} (xs : List a) (lo hi : Option Int) : List a :=
  (xs.drop (cutIx xs.length 0 lo)).take (cutIx xs.length xs.length hi - cutIx xs.length 0 lo)
noncomputable def repT {a : Type} (xs : List a) (k : Nat) : List a := (List.replicate k xs).flatten
noncomputable def bigN : Nat := (2 ^ 250) ^ 8
noncomputable def small (i : Int) : Bool := decide (i.natAbs < 2 ^ 64)
noncomputable def mulOk (i j : Int) : Bool := small i || small j || (decide (i.natAbs < bigN) && decide (j.natAbs < bigN))
noncomputable def addT : T → T → Option T
  | .int i, .int j => some (.int (i + j))
  | .str a, .str b => if a.length + b.length ≤ lim then some (.str (a ++ b)) else none
  | .tup a, .tup b => if a.length + b.length ≤ lim then some (.tup (a ++ b)) else none
  | .lst a, .lst b => if a.length + b.length ≤ lim then some (.lst (a ++ b)) else none
  | _, _ => none
noncomputable def mulT (x y : T) : Option T := match y with
  | .int k => match x with
    | .int i => if mulOk i k then some (.int (i * k)) else none
    | .tup a => if (-(lim : Int) ≤ k ∧ k ≤ lim) ∧ a.length * k.toNat ≤ lim then some (.tup (repT a k.toNat)) else none
    | .lst a => if (-(lim : Int) ≤ k ∧ k ≤ lim) ∧ a.length * k.toNat ≤ lim then some (.lst (repT a k.toNat)) else none
    | .str a => if k = 0 ∨ k = 1 then some (.str (repT a k.toNat)) else none
    | _ => none
  | _ => none
noncomputable def intT (f : Int → Int → Option T) (x y : T) : Option T := match x with
  | .int i => match y with
    | .int j => f i j
    | _ => none
  | _ => none
noncomputable def binT (op : Operator) (x y : T) : Option T :=
  match op with
  | .Add => addT x y
  | .Sub => intT (fun i j => some (.int (i - j))) x y
  | .Mult => mulT x y
  | .FloorDiv => intT (fun i j => if 0 < j ∧ j < 1073741824 then some (.int (i / j)) else none) x y
  | .Mod => intT (fun i j => if 0 < j then some (.int (i % j)) else none) x y
  | .Pow => intT (fun i j => if 0 ≤ j ∧ j ≤ 1000 ∧ i.natAbs < 2 ^ 64 then some (.int (i ^ j.toNat)) else none) x y
  | _ => none
noncomputable def augT (op : Operator) (x y : T) : Option T :=
  match op, x, y with
  | .Add, .int i, .int j => some (.int (i + j))
  | .Sub, .int i, .int j => some (.int (i - j))
  | _, _, _ => none
noncomputable def scalT (x y : T) : Bool := match x, y with
  | .bl _, .int _ => false
  | .int _, .bl _ => false
  | x, y => flat x && flat y
noncomputable def hasT (x : T) (y : T) : Option Bool :=
  match y with
  | .tup ts => if flat x && ts.all flat then some (ts.any fun t => eqT t x) else none
  | .lst ts => if flat x && ts.all flat then some (ts.any fun t => eqT t x) else none
  | _ => none
noncomputable def icmpT (f : Int → Int → Bool) (x y : T) : Option Bool := match x with
  | .int i => match y with
    | .int j => some (f i j)
    | _ => none
  | _ => none
noncomputable def ltT (x y : T) : Option Bool := match x with
  | .int i => match y with
    | .int j => some (decide (i < j))
    | _ => none
  | .str a => match y with
    | .str b => some (nlt a b)
    | _ => none
  | _ => none
noncomputable def inT (x y : T) : Option Bool := match x with
  | .str [a] => match y with
    | .str b => some (decide (a ∈ b))
    | y => hasT (.str [a]) y
  | x => hasT x y
noncomputable def sameT (x y : T) : Option Bool := match y with
  | .non => some (match x with | .non => true | _ => false)
  | .bl b => some (match x with | .bl a => a == b | _ => false)
  | _ => none
noncomputable def cmpT (op : CmpOp) (x y : T) : Option Bool :=
  match op with
  | .Lt => ltT x y
  | .LtE => icmpT (fun i j => decide (i ≤ j)) x y
  | .Gt => icmpT (fun i j => decide (j < i)) x y
  | .GtE => icmpT (fun i j => decide (j ≤ i)) x y
  | .Eq => if scalT x y || (deepT 60 x && deepT 60 y) then some (eqT x y) else none
  | .NotEq => if scalT x y || (deepT 60 x && deepT 60 y) then some (!eqT x y) else none
  | .In => inT x y
  | .NotIn => (inT x y).map (!·)
  | .Is => sameT x y
  | .IsNot => (sameT x y).map (!·)
noncomputable def isT (x : T) (ty : Ty) : Bool :=
  match x, ty with
  | .int _, .int => true
  | .bl _, .int => true
  | .bl _, .bool => true
  | .str _, .str => true
  | .tup _, .tuple => true
  | .lst _, .list => true
  | .scr _, .list => true
  | .dct _ _, .dict => true
  | _, _ => false
noncomputable def ixT (x i : T) : Option T :=
  match x, i with
  | .tup ts, .int k => atT ts k
  | .lst ts, .int k => atT ts k
  | .scr ns, .int k => (atT ns k).map .int
  | .str cs, .int k => if cs.length ≤ lim then (atT cs k).map fun c => .str [c] else none
  | _, _ => none
noncomputable def slT (x : T) (lo hi : Option Int) : Option T :=
  match x with
  | .tup ts => some (.tup (cut ts lo hi))
  | .lst ts => some (.lst (cut ts lo hi))
  | .scr ns => some (.lst ((cut ns lo hi).map .int))
  | .str cs => if cs.length ≤ lim then some (.str (cut cs lo hi)) else none
  | _ => none
noncomputable def insT (x : List Nat) : List (List Nat) → List (List Nat)
  | [] => [x]
  | y :: r => if nlt x y then x :: y :: r else if nlt y x then y :: insT x r else y :: r
noncomputable def sortSet (xs : List (List Nat)) : List (List Nat) := xs.foldr insT []
noncomputable def insN (x : List Nat) : List (List Nat) → List (List Nat)
  | [] => [x]
  | y :: r => if nlt y x then y :: insN x r else x :: y :: r
noncomputable def sortN (xs : List (List Nat)) : List (List Nat) := xs.foldr insN []
noncomputable def strs? : List T → Option (List (List Nat))
  | [] => some []
  | .str c :: r => (strs? r).map (c :: ·)
  | _ => none
noncomputable def ints? : List T → Option (List Int)
  | [] => some []
  | .int c :: r => (ints? r).map (c :: ·)
  | _ => none
noncomputable def bools? : List T → Option (List Bool)
  | [] => some []
  | .bl c :: r => (bools? r).map (c :: ·)
  | _ => none
noncomputable def joinN (sep : List Nat) : List (List Nat) → List Nat
  | [] => []
  | [x] => x
  | x :: r => x ++ sep ++ joinN sep r
noncomputable def upN (c : Nat) : Nat := if 97 ≤ c ∧ c ≤ 122 then c - 32 else c
noncomputable def asciiN (c : Nat) : Bool := decide (c < 128)
noncomputable def decI (i : Int) : List Nat := (Str.ofString (toString i)).cps.toList
noncomputable def rangeT (lo : Int) (n : Nat) : List T := (List.range n).map fun k : Nat => .int (lo + (k : Int))
noncomputable def itemsT : T → Option (List T)
  | .tup ts => some ts
  | .lst ts => some ts
  | .scr ns => some (ns.map .int)
  | .str cs => if cs.length ≤ lim then some (cs.map fun c => .str [c]) else none
  | _ => none
noncomputable def view (w : W) (m : Mem) : Option T := match w with
  | .t x => some x
  | .f _ => none
  | .c i => match m[i]? with
    | some (some (_, ts)) => some (.lst ts)
    | _ => none
noncomputable def pur (o : Option T) (m : Mem) : Res W := match o with
  | some t => .ok (.t t) m
  | none => .stuck
noncomputable def frz (w : W) (m : Mem) : Res T := match w with
  | .t x => .ok x m
  | .f _ => .stuck
  | .c i => match m[i]? with
    | some (some (false, ts)) => .ok (.lst ts) (m.set i none)
    | _ => .stuck
noncomputable def frzs : List W → Mem → Res (List T)
  | [], m => .ok [] m
  | w :: ws, m => (frz w m).bind fun t m => (frzs ws m).bind fun ts m => .ok (t :: ts) m
noncomputable def views : List W → Mem → Option (List T)
  | [], _ => some []
  | w :: ws, m => (view w m).bind fun t => (views ws m).map (t :: ·)
noncomputable def borrow (w : W) (m : Mem) : Res (List T) := match w with
  | .f _ => .stuck
  | .t x => match itemsT x with
    | some ts => .ok ts m
    | none => .stuck
  | .c i => match m[i]? with
    | some (some (_, ts)) => .ok ts (m.set i (some (true, ts)))
    | _ => .stuck
noncomputable def giveBack (w : W) (m0 m : Mem) : Mem := match w with
  | .t _ => m
  | .f _ => m
  | .c i => match m0[i]? with
    | some c => m.set i c
    | none => m
noncomputable def bindTg (tg : Tg) (t : T) (env : Env) : Option Env := match tg with
  | .nm i => some (env.set i (some (.t t)))
  | .tp is => match t with
    | .tup ts => if ts.length = is.length then some ((is.zip ts).foldl (fun env p => env.set p.1 (some (.t p.2))) env) else none
    | _ => none
noncomputable def one1 (f : T → Option T) : List T → Option T
  | [x] => f x
  | _ => none
noncomputable def two2 (f : Int → Int → Option T) : List T → Option T
  | [.int i, .int j] => f i j
  | _ => none
noncomputable def bLen : T → Option T
  | .str cs => if cs.length ≤ lim then some (.int cs.length) else none
  | .tup ts => some (.int ts.length)
  | .lst ts => some (.int ts.length)
  | .scr ns => some (.int ns.length)
  | _ => none
noncomputable def bInt : T → Option T
  | .int i => some (.int i)
  | .bl b => some (.int (b2i b))
  | _ => none
noncomputable def bStr : T → Option T
  | .int i => if i.natAbs < 2 ^ 250 then some (.str (decI i)) else none
  | _ => none
noncomputable def bTup : T → Option T
  | .tup ts => some (.tup ts)
  | .lst ts => some (.tup ts)
  | .str cs => if cs.length ≤ lim then some (.tup (cs.map fun c => .str [c])) else none
  | _ => none
noncomputable def bLst : T → Option T
  | .tup ts => some (.lst ts)
  | .lst ts => some (.lst ts)
  | _ => none
noncomputable def ofLst (f : List T → Option T) : T → Option T
  | .lst ts => f ts
  | _ => none
noncomputable def bRng : T → Option T
  | .int i => if i < 2 ^ 62 ∧ -(2 ^ 62) ≤ i then some (.lst (rangeT 0 i.toNat)) else none
  | _ => none
noncomputable def zipL (xs ys : List T) : List T := List.zipWith (fun x y => .tup [x, y]) xs ys
noncomputable def zipT : List T → Option T
  | [.tup xs, .tup ys] => if xs.length = ys.length ∧ xs.length ≤ lim then some (.lst (zipL xs ys)) else none
  | _ => none
noncomputable def zip4L (a b c d : List T) : List T := (a.zip (b.zip (c.zip d))).map fun p => .tup [p.1, p.2.1, p.2.2.1, p.2.2.2]
noncomputable def zip4T : List T → Option T
  | [.lst a, .lst b, .lst c, .lst d] => if (a.length = b.length ∧ a.length = c.length ∧ a.length = d.length) ∧ a.length ≤ lim then some (.lst (zip4L a b c d)) else none
  | _ => none
noncomputable def enumL (xs : List T) : List T := List.zipWith (fun (k : Nat) x => T.tup [.int (k : Int), x]) (List.range xs.length) xs
noncomputable def lensT (ts : List T) : Option T := (strs? ts).bind fun xs => if xs.length < 64 then some (.int ((sortSet xs).length : Int)) else none
noncomputable def minI (n : Int) (ns : List Int) : Int := ns.foldl (fun a b => if b < a then b else a) n
noncomputable def minlT (ts : List T) : Option T := (ints? ts).bind fun ns => match ns with
  | [] => none
  | n :: r => if r.length < 64 then some (.int (minI n r)) else none
noncomputable def keyT : T → Option L2.Key
  | .int i => some (.inl i)
  | .str cs => some (.inr ⟨cs.toArray⟩)
  | _ => none
noncomputable def pairs? : List T → Option (List (List Nat × T))
  | [] => some []
  | .tup [.str k, v] :: ts => (pairs? ts).map ((k, v) :: ·)
  | _ => none
noncomputable def dctT (ps : List (List Nat × T)) : T := .dct (ps.map fun p => .inr ⟨p.1.toArray⟩) (ps.map (·.2))
noncomputable def bDict : T → Option T
  | .tup ts => (pairs? ts).bind fun ps => if ts.length ≤ lim ∧ (ps.map (·.1)).Nodup then some (dctT ps) else none
  | _ => none
noncomputable def lookT (ks : List L2.Key) (ts : List T) (k : L2.Key) : Option T := ((ks.zip ts).find? fun p => decide (p.1 = k)).map (·.2)
noncomputable def dGetT : List T → Option T
  | [.dct ks vs, x] => (keyT x).bind (lookT ks vs)
  | _ => none
noncomputable def dInT (neg : Bool) : List T → Option T
  | [x, .dct ks vs] => (keyT x).map fun k => .bl (if neg then !(lookT ks vs k).isSome else (lookT ks vs k).isSome)
  | _ => none
noncomputable def ofSeq (f : List T → Option T) : T → Option T
  | .lst ts => f ts
  | .tup ts => f ts
  | _ => none
noncomputable def bltT (b : B) (ts : List T) : Option T :=
  match b with
  | .len => one1 bLen ts
  | .int => one1 bInt ts
  | .str => one1 bStr ts
  | .tuple => one1 bTup ts
  | .list => one1 bLst ts
  | .all => one1 (ofSeq fun ts => (bools? ts).map fun bs => .bl (bs.all id)) ts
  | .any => one1 (ofSeq fun ts => (bools? ts).map fun bs => .bl (bs.any id)) ts
  | .sum => one1 (ofLst fun ts => (ints? ts).map fun ns => .int ns.sum) ts
  | .sortset => one1 (ofLst fun ts => (strs? ts).bind fun xs => if xs.length < 64 then some (.lst ((sortSet xs).map .str)) else none) ts
  | .sorted => one1 (ofLst fun ts => (strs? ts).bind fun xs => if xs.length < 64 then some (.lst ((sortN xs).map .str)) else none) ts
  | .min2 => two2 (fun i j => some (.int (if j < i then j else i))) ts
  | .max2 => two2 (fun i j => some (.int (if j > i then j else i))) ts
  | .range1 => one1 bRng ts
  | .zip2 => zipT ts
  | .dict => one1 bDict ts
  | .zip4 => zip4T ts
  | .enum => one1 (ofLst fun ts => if ts.length ≤ lim then some (.lst (enumL ts)) else none) ts
  | .lenset => one1 (ofSeq lensT) ts
  | .minl => one1 (ofLst minlT) ts
  | .isbis => one1 (fun x => some (.bl (isT x .bool || isT x .int || isT x .str))) ts
  | .dget => dGetT ts
  | .din => dInT false ts
  | .dnot => dInT true ts
  | .range2 => two2 (fun i j => if (i < 2 ^ 62 ∧ -(2 ^ 62) ≤ i) ∧ j < 2 ^ 62 ∧ -(2 ^ 62) ≤ j then some (.lst (rangeT i (j - i).toNat)) else none) ts
  | _ => none
noncomputable def ofBl (f : Bool → Option T) : T → Option T
  | .bl b => f b
  | _ => none
noncomputable def idxT (xs : List T) (b : Bool) : Option T := (bools? xs).bind fun bs => if bs.length ≤ lim then (bs.findIdx? (· == b)).map fun k => .int (k : Int) else none
noncomputable def cntT (xs : List T) (b : Bool) : Option T := (bools? xs).bind fun bs => if bs.length ≤ lim then some (.int ((bs.countP (· == b) : Nat) : Int)) else none
noncomputable def mthT (b : Mt) (o : T) (ts : List T) : Option T :=
  match b with
  | .join => match o with
    | .str sep => one1 (ofLst fun xs => (strs? xs).bind fun ys => if (ys.map List.length).sum + ys.length * sep.length ≤ lim then some (.str (joinN sep ys)) else none) ts
    | _ => none
  | .index => match o with
    | .lst xs => one1 (ofBl (idxT xs)) ts
    | _ => none
  | .count => match o with
    | .lst xs => one1 (ofBl (cntT xs)) ts
    | _ => none
  | .get => match o with
    | .dct ks vs => one1 (fun x => (keyT x).map fun k => (lookT ks vs k).getD .non) ts
    | _ => none
  | .upper => match o with
    | .str cs => match ts with
      | [] => if cs.all asciiN && decide (cs.length ≤ lim) then some (.str (cs.map upN)) else none
      | _ => none
    | _ => none
  | _ => none
noncomputable def mutM (b : Mt) (xs : List T) (ts : List T) : Option (T × List T) :=
  match b, ts with
  | .append, [t] => if xs.length < lim then some (.non, xs ++ [t]) else none
  | .popat, [.int i] => match ixOf xs.length i with
    | some k => (xs[k]?).map fun t => (t, xs.eraseIdx k)
    | none => none
  | .pop, [] => match xs.getLast? with
    | some t => some (t, xs.dropLast)
    | none => none
  | _, _ => none
noncomputable def doM (b : Mt) (o : W) (ws : List W) (m : Mem) : Res W := match b with
  | .append | .pop | .popat | .insert | .clear | .extend | .reverse => match o with
    | .c i => (frzs ws m).bind fun ts m => match m[i]? with
      | some (some (false, xs)) => match mutM b xs ts with
        | some (t, ys) => .ok (.t t) (m.set i (some (false, ys)))
        | none => .stuck
      | _ => .stuck
    | .t _ => .stuck
    | .f _ => .stuck
  | _ => pur ((view o m).bind fun x => (views ws m).bind fun ts => mthT b x ts) m
noncomputable def addC (x y : W) (m : Mem) : Res W := match (view x m).bind fun x => (view y m).bind fun y => addT x y with
  | some (.lst ts) => .ok (.c m.length) (m ++ [some (false, ts)])
  | _ => .stuck
noncomputable def setM (o i v : W) (m : Mem) : Res Unit := match o, i with
  | .c c, .t (.int k) => (frz v m).bind fun t m => match m[c]? with
    | some (some (false, xs)) => match ixOf xs.length k with
      | some j => .ok () (m.set c (some (false, xs.set j t)))
      | none => .stuck
    | _ => .stuck
  | _, _ => .stuck
noncomputable def intP (w : W) (m : Mem) : Res (Option Int) := match w with
  | .t (.int i) => .ok (some i) m
  | _ => .stuck
noncomputable def dspT (ks vs : List W) (m : Mem) : Res W := match ks, vs with
  | [], [] => .ok (.t (.dct [] [])) m
  | [.t k], [.t v] => match keyT k with
    | some kk => .ok (.t (.dct [kk] [v])) m
    | none => .stuck
  | _, _ => .stuck
noncomputable def tyM (b : Mt) (w : W) (m : Mem) : Bool := match b with
  | .join | .upper | .split | .partition => match view w m with
    | some (.str _) => true
    | _ => false
  | .append | .pop | .popat | .insert | .clear | .extend | .reverse => match w with
    | .c i => match m[i]? with
      | some (some _) => true
      | _ => false
    | _ => false
  | .count | .index => match view w m with
    | some (.lst _) => true
    | _ => false
  | .get => match view w m with
    | some (.dct _ _) => true
    | _ => false
noncomputable def loopC (f : Env → Mem → Res (List T)) (tg : Tg) : List T → Env → Mem → Res (List T)
  | [], _, m => .ok [] m
  | t :: ts, env, m => match bindTg tg t env with
    | none => .stuck
    | some env' => (f env' m).bind fun xs m => (loopC f tg ts env m).bind fun ys m => .ok (xs ++ ys) m
noncomputable def Res.only {a : Type} (r : Res a) : Res a := match r with
  | .exc _ _ => .stuck
  | r => r
inductive Flow where
  | next (env : Env) | ret (w : W) | brk (env : Env) | cont (env : Env)
noncomputable def loopS (f : Env → Mem → Res Flow) (tg : Tg) : List T → Env → Mem → Res Flow
  | [], env, m => .ok (.next env) m
  | t :: ts, env, m => match bindTg tg t env with
    | none => .stuck
    | some env => (f env m).bind fun fl m => match fl with
      | .next env => loopS f tg ts env m
      | .cont env => loopS f tg ts env m
      | .brk env => .ok (.next env) m
      | .ret w => .ok (.ret w) m
noncomputable def whileS (c : Env → Mem → Res Bool) (f : Env → Mem → Res Flow) : Nat → Env → Mem → Res Flow
  | 0, _, _ => .stuck
  | n + 1, env, m => (c env m).bind fun b m => if b then (f env m).bind fun fl m => match fl with
      | .next env => whileS c f n env m
      | .cont env => whileS c f n env m
      | .brk env => .ok (.next env) m
      | .ret w => .ok (.ret w) m
    else .ok (.next env) m
noncomputable def turns : Nat := 1000000
noncomputable def fitT : T → Bool
  | .str cs => decide (cs.length ≤ lim)
  | _ => true
noncomputable def truthW (w : W) (m : Mem) : Res Bool := match view w m with
  | some t => if fitT t then .ok (truthT t) m else .stuck
  | none => .stuck
noncomputable def boolW (w : W) (m : Mem) : Res Bool := match w with
  | .t (.bl b) => .ok b m
  | _ => .stuck
noncomputable def asLst (w : W) (m : Mem) : Res (List T) := match w with
  | .t (.lst ts) => .ok ts m
  | _ => .stuck
noncomputable def treeW (w : W) (m : Mem) : Res W := match w with
  | .t x => .ok (.t x) m
  | .c _ => .stuck
  | .f _ => .stuck
noncomputable def lookF (gv : List T) (a : Nat) : List (Nat × Nat) → Option Nat
  | [] => none
  | (j, k) :: r => match gv[j]? with
    | some (.int b) => if b = (a : Int) then some k else lookF gv a r
    | _ => lookF gv a r
section
variable (call : Nat → List W → Mem → Res W) (gv : List T)
mutual
noncomputable def ev : E → Env → Mem → Res W
  | .var i, env, m => match env[i]? with
    | some (some w) => .ok w m
    | _ => .stuck
  | .gl k, _, m => pur gv[k]? m
  | .con t, _, m => .ok (.t t) m
  | .bin op a b, env, m => (ev a env m).bind fun x m => (ev b env m).bind fun y m => pur ((view x m).bind fun x => (view y m).bind fun y => binT op x y) m
  | .neg a, env, m => (ev a env m).bind fun x m => pur ((view x m).bind fun x => match x with
    | .int i => some (.int (-i))
    | _ => none) m
  | .not a, env, m => (ev a env m).bind fun x m => (boolW x m).bind fun k m => .ok (.t (.bl (!k))) m
  | .and a b, env, m => (ev a env m).bind fun x m => (boolW x m).bind fun k m => if k then ev b env m else .ok (.t (.bl false)) m
  | .or a b, env, m => (ev a env m).bind fun x m => (boolW x m).bind fun k m => if k then .ok (.t (.bl true)) m else ev b env m
  | .one a, env, m => ev a env m
  | .cmp op a b, env, m => (ev a env m).bind fun x m => (ev b env m).bind fun y m => pur (((view x m).bind fun x => (view y m).bind fun y => cmpT op x y).map .bl) m
  | .chn op op' a b c, env, m => (ev a env m).bind fun x m => (ev b env m).bind fun y m =>
      match (view x m).bind fun x => (view y m).bind fun y => cmpT op x y with
      | some true => (ev c env m).bind fun z m => pur (((view y m).bind fun y => (view z m).bind fun z => cmpT op' y z).map .bl) m
      | some false => .ok (.t (.bl false)) m
      | none => .stuck
  | .ite c a b, env, m => (ev c env m).bind fun x m => (truthW x m).bind fun k m => if k then ev a env m else ev b env m
  | .tup es, env, m => (evs es env m).bind fun ws m => (frzs ws m).bind fun ts m => if ts.length ≤ lim then .ok (.t (.tup ts)) m else .stuck
  | .lst es, env, m => (evs es env m).bind fun ws m => (frzs ws m).bind fun ts m => if ts.length ≤ lim then .ok (.t (.lst ts)) m else .stuck
  | .cel es, env, m => (evs es env m).bind fun ws m => (frzs ws m).bind fun ts m => if ts.length ≤ lim then .ok (.c m.length) (m ++ [some (false, ts)]) else .stuck
  | .celL a, env, m => (ev a env m).bind fun x m => match view x m with
    | some (.lst ts) => .ok (.c m.length) (m ++ [some (false, ts)])
    | some (.tup ts) => .ok (.c m.length) (m ++ [some (false, ts)])
    | _ => .stuck
  | .celA a b, env, m => (ev a env m).bind fun x m => (ev b env m).bind fun y m => addC x y m
  | .dsp ks vs, env, m => (evs ks env m).bind fun kw m => (evs vs env m).bind fun vw m => dspT kw vw m
  | .ix a b, env, m => (ev a env m).bind fun x m => (ev b env m).bind fun y m => pur ((view x m).bind fun x => (view y m).bind fun y => ixT x y) m
  | .slc a lo hi, env, m => (ev a env m).bind fun x m => (if isHole lo then Res.ok none m else (ev lo env m).bind intP).bind fun l m =>
      (if isHole hi then Res.ok none m else (ev hi env m).bind intP).bind fun h m => pur ((view x m).bind fun x => slT x l h) m
  | .hole, _, m => .ok (.t .non) m
  | .rev a, env, m => (ev a env m).bind fun x m => pur ((view x m).bind fun x => match x with
    | .tup ts => some (.tup ts.reverse)
    | .lst ts => some (.lst ts.reverse)
    | _ => none) m
  | .call f es, env, m => (evs es env m).bind fun ws m => call f ws m
  | .blt b es, env, m => (evs es env m).bind fun ws m => pur ((views ws m).bind fun ts => bltT b ts) m
  | .mth b o es, env, m => (ev o env m).bind fun x m => if tyM b x m then (evs es env m).bind fun ws m => doM b x ws m else .stuck
  | .isi a ty, env, m => (ev a env m).bind fun x m => pur ((view x m).map fun x => .bl (isT x ty)) m
  | .comp own keep it tg cs inner, env, m => (ev it env m).only.bind fun x m0 => (borrow x m0).bind fun ts m =>
      (loopC (fun env m => (tests cs env m).bind fun k m => if k then (ev inner env m).bind asLst else .ok [] m) tg ts (List.replicate own none ++ keep.map fun i => (env[i]?).join) m).only.bind fun out m =>
        if out.length ≤ lim then .ok (.t (.lst out)) (giveBack x m0 m) else .stuck
  | .more it tg cs inner, env, m => (ev it env m).bind fun x m0 => (borrow x m0).bind fun ts m =>
      (loopC (fun env m => (tests cs env m).bind fun k m => if k then (ev inner env m).bind asLst else .ok [] m) tg ts env m).bind fun out m => .ok (.t (.lst out)) (giveBack x m0 m)
  | .emit a, env, m => (ev a env m).bind fun x m => (frz x m).bind fun t m => .ok (.t (.lst [t])) m
  | .tr a, env, m => (ev a env m).bind treeW
  | .fnv j, _, m => match gv[j]? with
    | some (.int a) => .ok (.f a.toNat) m
    | _ => .stuck
  | .callV i tab es, env, m => match env[i]? with
    | some (some (.f a)) => match lookF gv a tab with
      | some k => (evs es env m).bind fun ws m => call k ws m
      | none => .stuck
    | _ => .stuck
noncomputable def evs : Es → Env → Mem → Res (List W)
  | .nil, _, m => .ok [] m
  | .cons e es, env, m => (ev e env m).bind fun w m => (evs es env m).bind fun ws m => .ok (w :: ws) m
noncomputable def tests : Es → Env → Mem → Res Bool
  | .nil, _, m => .ok true m
  | .cons e es, env, m => (ev e env m).bind fun x m => (truthW x m).bind fun k m => if k then tests es env m else .ok false m
end
noncomputable def ex : S → Env → Mem → Res Flow
  | .done, env, m => .ok (.next env) m
  | .asg i e k, env, m => (ev call gv e env m).bind fun w m => ex k (env.set i (some w)) m
  | .asgT is e k, env, m => (ev call gv e env m).bind fun w m => match w with
    | .t t => match bindTg (.tp is) t env with
      | some env => ex k env m
      | none => .stuck
    | .c _ => .stuck
    | .f _ => .stuck
  | .asgC i e k, env, m => (ev call gv e env m).bind fun w m => match w with
    | .t (.lst ts) => ex k (env.set i (some (.c m.length))) (m ++ [some (false, ts)])
    | _ => .stuck
  | .set o i v k, env, m => (ev call gv v env m).bind fun z m => (ev call gv o env m).bind fun x m => (ev call gv i env m).bind fun y m =>
      (setM x y z m).bind fun _ m => ex k env m
  | .aug i op e k, env, m => match env[i]? with
    | some (some x) => (ev call gv e env m).bind fun y m => (pur ((view x m).bind fun x => (view y m).bind fun y => augT op x y) m).bind fun z m => ex k (env.set i (some z)) m
    | _ => .stuck
  | .ife c a b k, env, m => (ev call gv c env m).bind fun x m => (truthW x m).bind fun t m =>
      (if t then ex a env m else ex b env m).bind fun fl m => match fl with
        | .next env => ex k env m
        | fl => .ok fl m
  | .forr tg it body k, env, m => (ev call gv it env m).bind fun x m0 => (borrow x m0).bind fun ts m =>
      (loopS (fun env m => ex body env m) tg ts env m).bind fun fl m => match fl with
        | .next env => ex k env (giveBack x m0 m)
        | .ret w => .ok (.ret w) (giveBack x m0 m)
        | _ => .stuck
  | .whil c body k, env, m => (whileS (fun env m => (ev call gv c env m).bind truthW) (fun env m => ex body env m) turns env m).bind fun fl m => match fl with
        | .next env => ex k env m
        | fl => .ok fl m
  | .ret e _, env, m => (ev call gv e env m).bind fun w m => .ok (.ret w) m
  | .retN _, _, m => .ok (.ret (.t .non)) m
  | .expr e k, env, m => (ev call gv e env m).bind fun _ m => ex k env m
  | .pass k, env, m => ex k env m
  | .brk _, env, m => .ok (.brk env) m
  | .cont _, env, m => .ok (.cont env) m
end
structure Fn where
  ps : Nat
  n : Nat
  body : S
  cell : Bool := false
noncomputable def fin (n : Nat) (cell : Bool) (fl : Flow) (m : Mem) : Res W := match fl with
  | .ret (.t t) => .ok (.t t) (m.take n)
  | .ret (.c i) => if i < n then .ok (.c i) (m.take n) else match m[i]? with
    | some (some (false, ts)) => if cell then .ok (.c n) (m.take n ++ [some (false, ts)]) else .ok (.t (.lst ts)) (m.take n)
    | _ => .stuck
  | .next _ => .ok (.t .non) (m.take n)
  | _ => .stuck
noncomputable def callF (fns : List Fn) (gv : List T) : Nat → Nat → List W → Mem → Res W
  | 0, _, _, _ => .stuck
  | n + 1, f, ws, m => match fns[f]? with
    | none => .stuck
    | some d => if ws.length = d.ps then (ex (callF fns gv n) gv d.body (ws.map some ++ List.replicate (d.n - d.ps) none) m).bind fun fl m' => fin m.length d.cell fl m' else .stuck
end Mi
end
section
namespace Mi
open PySem L2
section
variable (K : PySem.W.Frag)
noncomputable def NotLive (cm : List Addr) (m : Mem) (a : Addr) : Prop := ∀ (i : Nat) p, m[i]? = some (some p) → cm[i]? ≠ some a
noncomputable def ScrOk (H : Hp) (a : Addr) (ns : List Int) : Prop := (∃ o, H a = some (.frz o (.lst (ns.map V.int)))) ∨
    ∃ (o : Obj) (its : Array Value) (n : Nat), K.lookup a = some o ∧ o.cls = .type "list" ∧ o.dict = none ∧ o.data = .seq its n ∧ its.size ≤ sizeLine ∧ Vals (ns.map V.int) its.toList
inductive RT (cm : List Addr) (m : Mem) (H : Hp) : T → V → Prop where
  | non : RT cm m H .non .non
  | bl (b : Bool) : RT cm m H (.bl b) (.bl b)
  | int (i : Int) : RT cm m H (.int i) (.int i)
  | str (cs : List Nat) : RT cm m H (.str cs) (.str ⟨cs.toArray⟩)
  | tup {a : Addr} {ts : List T} {vs : List V} : SqT K H a vs → ts.length = vs.length → (∀ (i : Nat) t v, ts[i]? = some t → vs[i]? = some v → RT cm m H t v) → RT cm m H (.tup ts) (.ref a)
  | lst {a : Addr} {ts : List T} {vs : List V} : H a = some (.lst vs) → NotLive cm m a → ts.length = vs.length → (∀ (i : Nat) t v, ts[i]? = some t → vs[i]? = some v → RT cm m H t v) → RT cm m H (.lst ts) (.ref a)
  | dct {a : Addr} {ks : List Key} {ts : List T} {vs : List V} : H a = some (.dK (ks.zip vs)) → NotLive cm m a → ks.length = vs.length → ts.length = vs.length →
      (∀ (i : Nat) t v, ts[i]? = some t → vs[i]? = some v → RT cm m H t v) → RT cm m H (.dct ks ts) (.ref a)
  | scr {a : Addr} (ns : List Int) : ScrOk K H a ns → RT cm m H (.scr ns) (.ref a)
noncomputable abbrev RTs (cm : List Addr) (m : Mem) (H : Hp) (ts : List T) (vs : List V) : Prop := Paired (RT K cm m H) ts vs
noncomputable def RW (cm : List Addr) (m : Mem) (H : Hp) : W → V → Prop
  | .t x, v => RT K cm m H x v
  | .c i, v => ∃ a, cm[i]? = some a ∧ v = .ref a
  | .f a, v => v = .ref a
noncomputable abbrev RWs (cm : List Addr) (m : Mem) (H : Hp) (ws : List W) (vs : List V) : Prop := Paired (RW K cm m H) ws vs
structure MemR (cm : List Addr) (m : Mem) (H : Hp) : Prop where
  len : cm.length = m.length
  inj : ∀ (i j : Nat) a p q, m[i]? = some (some p) → m[j]? = some (some q) → cm[i]? = some a → cm[j]? = some a → i = j
  at' : ∀ (i : Nat) p, m[i]? = some (some p) → ∃ a vs, cm[i]? = some a ∧ H a = some (.lst vs) ∧ K.lookup a = none ∧ RTs K cm m H p.2 vs
noncomputable def EnvR (cm : List Addr) (m : Mem) (H : Hp) (env : Env) (σ : L2.St) : Prop := ∀ (i : Nat) w, env[i]? = some (some w) → ∃ v, σ[i]? = some (some v) ∧ RW K cm m H w v
structure Ext (cm : List Addr) (m : Mem) (H : Hp) (cm' : List Addr) (m' : Mem) (H' : Hp) : Prop where
  pre : ∀ (i : Nat) a, cm[i]? = some a → cm'[i]? = some a
  len : m.length ≤ m'.length
  lent : ∀ (i : Nat) ts, m[i]? = some (some (true, ts)) → m'[i]? = some (some (true, ts))
  keep : ∀ a o, H a = some o → NotLive cm m a → H' a = some o ∧ NotLive cm' m' a
end
section
variable {K : PySem.W.Frag} {cm cm' cm'' : List Addr} {m m' m'' : Mem} {H H' H'' : Hp}
theorem paired_of {α β : Type} {F : α → β → Prop} : ∀ {xs : List α} {ys : List β}, xs.length = ys.length → (∀ (i : Nat) x y, xs[i]? = some x → ys[i]? = some y → F x y) → Paired F xs ys
  | [], [], _, _ => .nil
  | x :: xs, y :: ys, hl, h => .cons (h 0 x y rfl rfl) (paired_of (by simpa using hl) fun i a b ha hb => h (i + 1) a b (by simpa using ha) (by simpa using hb))
  | [], _ :: _, hl, _ => by simp at hl
  | _ :: _, [], hl, _ => by simp at hl
theorem paired_at {α β : Type} {F : α → β → Prop} : ∀ {xs : List α} {ys : List β}, Paired F xs ys → ∀ (i : Nat) x y, xs[i]? = some x → ys[i]? = some y → F x y
  | _, _, .nil, i, x, y, h, _ => by simp at h
  | _, _, .cons r t, 0, x, y, h1, h2 => by simp at h1 h2; subst h1; subst h2; exact r
  | _, _, .cons r t, i + 1, x, y, h1, h2 => paired_at t i x y (by simpa using h1) (by simpa using h2)
theorem paired_get {α β : Type} {F : α → β → Prop} {xs : List α} {ys : List β} (h : Paired F xs ys) {i : Nat} {x : α} (hx : xs[i]? = some x) : ∃ y, ys[i]? = some y ∧ F x y := by
  have hl := h.length
  have hi := (List.getElem?_eq_some_iff.mp hx).1
  have hy : ys[i]? = some (ys[i]'(by omega)) := List.getElem?_eq_getElem (by omega)
  exact ⟨_, hy, paired_at h i _ _ hx hy⟩
theorem paired_append {α β : Type} {F : α → β → Prop} : ∀ {xs xs' : List α} {ys ys' : List β}, Paired F xs ys → Paired F xs' ys' → Paired F (xs ++ xs') (ys ++ ys')
  | _, _, _, _, .nil, h => h
  | _, _, _, _, .cons r t, h => .cons r (paired_append t h)
theorem paired_take {α β : Type} {F : α → β → Prop} : ∀ {xs : List α} {ys : List β} (n : Nat), Paired F xs ys → Paired F (xs.take n) (ys.take n)
  | _, _, 0, _ => .nil
  | _, _, _ + 1, .nil => .nil
  | _, _, n + 1, .cons r t => .cons r (paired_take n t)
theorem paired_drop {α β : Type} {F : α → β → Prop} : ∀ {xs : List α} {ys : List β} (n : Nat), Paired F xs ys → Paired F (xs.drop n) (ys.drop n)
  | _, _, 0, r => r
  | _, _, _ + 1, .nil => .nil
  | _, _, n + 1, .cons _ t => paired_drop n t
theorem paired_set {α β : Type} {F : α → β → Prop} {x : α} {y : β} (r : F x y) : ∀ {xs : List α} {ys : List β} (i : Nat), Paired F xs ys → Paired F (xs.set i x) (ys.set i y)
  | _, _, _, .nil => .nil
  | _, _, 0, .cons _ t => .cons r t
  | _, _, i + 1, .cons q t => .cons q (paired_set r i t)
theorem paired_mono {α β : Type} {F G : α → β → Prop} (f : ∀ a b, F a b → G a b) {xs : List α} {ys : List β} (h : Paired F xs ys) : Paired G xs ys := L2.Paired.mapP h f
theorem RT.mtup {a : Addr} {ts : List T} {vs : List V} (h : SqT K H a vs) (r : RTs K cm m H ts vs) : RT K cm m H (.tup ts) (.ref a) := .tup h r.length fun i t v h1 h2 => paired_at r i t v h1 h2
theorem RT.mlst {a : Addr} {ts : List T} {vs : List V} (h : H a = some (.lst vs)) (n : NotLive cm m a) (r : RTs K cm m H ts vs) : RT K cm m H (.lst ts) (.ref a) := .lst h n r.length fun i t v h1 h2 => paired_at r i t v h1 h2
theorem RT.itup {ts : List T} {v : V} (h : RT K cm m H (.tup ts) v) : ∃ a vs, v = .ref a ∧ SqT K H a vs ∧ RTs K cm m H ts vs := by
  cases h with
  | tup h1 h2 h3 => exact ⟨_, _, rfl, h1, paired_of h2 h3⟩
theorem RT.ilst {ts : List T} {v : V} (h : RT K cm m H (.lst ts) v) : ∃ a vs, v = .ref a ∧ H a = some (.lst vs) ∧ NotLive cm m a ∧ RTs K cm m H ts vs := by
  cases h with
  | lst h1 h2 h3 h4 => exact ⟨_, _, rfl, h1, h2, paired_of h3 h4⟩
theorem MemR.notK (M : MemR K cm m H) {a : Addr} {o : Obj} (h : K.lookup a = some o) : NotLive cm m a := fun i ts e z => by
  obtain ⟨b, vs, h1, _, h3, _⟩ := M.at' i ts e
  rw [h1] at z; cases z
  rw [h3] at h; cases h
theorem Ext.rd (x : Ext cm m H cm' m' H') {a : Addr} {u : HO} (h : Rd H a u) (n : NotLive cm m a) : Rd H' a u ∧ NotLive cm' m' a := by
  rcases h with h | ⟨o, h⟩
  · exact ⟨.inl (x.keep a _ h n).1, (x.keep a _ h n).2⟩
  · exact ⟨.inr ⟨o, (x.keep a _ h n).1⟩, (x.keep a _ h n).2⟩
theorem notLive_tup (M : MemR K cm m H) {a : Addr} {o : HO} (h : H a = some o) (hn : ∀ vs, o ≠ .lst vs) : NotLive cm m a := fun i ts e z => by
  obtain ⟨b, vs, h1, h2, _, _⟩ := M.at' i ts e
  rw [h1] at z; cases z
  rw [h2] at h; cases h
  exact hn _ rfl
theorem Ext.sqT (x : Ext cm m H cm' m' H') (M : MemR K cm m H) {a : Addr} {vs : List V} (h : SqT K H a vs) : SqT K H' a vs := by
  rcases h with (h | ⟨o, h⟩) | h
  · exact .inl (.inl (x.keep a _ h (notLive_tup M h (fun _ z => by cases z))).1)
  · exact .inl (.inr ⟨o, (x.keep a _ h (notLive_tup M h (fun _ z => by cases z))).1⟩)
  · exact .inr h
theorem Ext.scr (x : Ext cm m H cm' m' H') (M : MemR K cm m H) {a : Addr} {ns : List Int} (h : ScrOk K H a ns) : ScrOk K H' a ns := by
  rcases h with ⟨o, h⟩ | h
  · exact .inl ⟨o, (x.keep a _ h (notLive_tup M h (fun _ z => by cases z))).1⟩
  · exact .inr h
theorem ScrOk.sq {a : Addr} {ns : List Int} (h : ScrOk K H a ns) : SqL K H a (ns.map V.int) := by
  rcases h with ⟨o, h⟩ | h
  · exact .inl (.inr ⟨o, h⟩)
  · exact .inr h
theorem RT.ext (x : Ext cm m H cm' m' H') (M : MemR K cm m H) (M' : MemR K cm' m' H') {t : T} {v : V} (h : RT K cm m H t v) : RT K cm' m' H' t v := by
  induction h with
  | non => exact .non
  | bl b => exact .bl b
  | int i => exact .int i
  | str cs => exact .str cs
  | tup h1 h2 _ ih => exact .tup (x.sqT M h1) h2 ih
  | lst h1 h2 h3 _ ih => exact .lst (x.keep _ _ h1 h2).1 (x.keep _ _ h1 h2).2 h3 ih
  | scr ns h => exact .scr ns (x.scr M h)
  | dct h1 h2 h3 h4 _ ih => exact .dct (x.keep _ _ h1 h2).1 (x.keep _ _ h1 h2).2 h3 h4 ih
theorem RTs.ext (x : Ext cm m H cm' m' H') (M : MemR K cm m H) (M' : MemR K cm' m' H') {ts : List T} {vs : List V} (h : RTs K cm m H ts vs) : RTs K cm' m' H' ts vs := paired_mono (fun _ _ z => z.ext x M M') h
theorem RW.ext (x : Ext cm m H cm' m' H') (M : MemR K cm m H) (M' : MemR K cm' m' H') {w : W} {v : V} (h : RW K cm m H w v) : RW K cm' m' H' w v := by
  cases w with
  | t t => exact RT.ext x M M' h
  | c i => obtain ⟨a, h1, h2⟩ := h; exact ⟨a, x.pre i a h1, h2⟩
  | f a => exact h
theorem RWs.ext (x : Ext cm m H cm' m' H') (M : MemR K cm m H) (M' : MemR K cm' m' H') {ws : List W} {vs : List V} (h : RWs K cm m H ws vs) : RWs K cm' m' H' ws vs := paired_mono (fun _ _ z => RW.ext x M M' z) h
theorem EnvR.ext (x : Ext cm m H cm' m' H') (M : MemR K cm m H) (M' : MemR K cm' m' H') {env : Env} {σ : L2.St} (h : EnvR K cm m H env σ) : EnvR K cm' m' H' env σ := fun i w e => by
  obtain ⟨v, h1, h2⟩ := h i w e
  exact ⟨v, h1, h2.ext x M M'⟩
theorem Ext.refl : Ext cm m H cm m H := ⟨fun _ _ h => h, Nat.le_refl _, fun _ _ h => h, fun _ _ h n => ⟨h, n⟩⟩
theorem Ext.trans (x : Ext cm m H cm' m' H') (y : Ext cm' m' H' cm'' m'' H'') : Ext cm m H cm'' m'' H'' :=
  ⟨fun i a h => y.pre i a (x.pre i a h), Nat.le_trans x.len y.len, fun i ts h => y.lent i ts (x.lent i ts h), fun a o h n => y.keep a o (x.keep a o h n).1 (x.keep a o h n).2⟩
noncomputable abbrev XR := Exc → List Addr → Mem → Hp → Prop
variable (K) in
noncomputable def OkR {α : Type} (r : Res α) (xr : XR) (cm : List Addr) (m : Mem) (H : Hp) (k : α → List Addr → Mem → Hp → Prop) : Prop := match r with
  | .ok a m' => ∀ cm' H', Ext cm m H cm' m' H' → MemR K cm' m' H' → k a cm' m' H'
  | .exc x m' => ∀ cm' H', Ext cm m H cm' m' H' → MemR K cm' m' H' → xr x cm' m' H'
  | .stuck => False
variable {xr : XR}
theorem OkR.shift {α : Type} {r : Res α} {k : α → List Addr → Mem → Hp → Prop} (h : OkR K r xr cm m H k) (x : Ext cm m H cm' m' H') : OkR K r xr cm' m' H' k := by
  cases r with
  | ok a m2 => exact fun c h' e M => h c h' (x.trans e) M
  | exc a m2 => exact fun c h' e M => h c h' (x.trans e) M
  | stuck => exact h
theorem OkR.bind {α β : Type} {r : Res α} {f : α → Mem → Res β} {k : β → List Addr → Mem → Hp → Prop} (h : OkR K (r.bind f) xr cm m H k) :
    OkR K r xr cm m H fun a cm' m' H' => OkR K (f a m') xr cm' m' H' k := by
  cases r with
  | ok a m2 => exact fun c h' e M => OkR.shift (show OkR K (f a m2) xr cm m H k from h) e
  | exc a m2 => exact h
  | stuck => exact h
theorem OkR.bind0 {α β : Type} {r : Res α} {f : α → Mem → Res β} {k : β → List Addr → Mem → Hp → Prop} (h : OkR K (r.bind f) xr cm m H k) :
    OkR K r xr cm m H fun a _ m' _ => OkR K (f a m') xr cm m H k := by
  cases r with
  | ok a m2 => exact fun c h' e M => h
  | exc a m2 => exact h
  | stuck => exact h
theorem OkR.mono {α : Type} {r : Res α} {k k' : α → List Addr → Mem → Hp → Prop} (h : OkR K r xr cm m H k) (f : ∀ a cm' m' H', Ext cm m H cm' m' H' → MemR K cm' m' H' → k a cm' m' H' → k' a cm' m' H') : OkR K r xr cm m H k' := by
  cases r with
  | ok a m2 => exact fun c h' e M => f a c m2 h' e M (h c h' e M)
  | exc a m2 => exact h
  | stuck => exact h
theorem OkR.now {α : Type} {a : α} {k : α → List Addr → Mem → Hp → Prop} (h : OkR K (.ok a m) xr cm m H k) (M : MemR K cm m H) : k a cm m H := h cm H .refl M
theorem OkR.to {α : Type} {a : α} {m' : Mem} {k : α → List Addr → Mem → Hp → Prop} (h : OkR K (.ok a m') xr cm m H k) (x : Ext cm m H cm' m' H') (M : MemR K cm' m' H') : k a cm' m' H' := h cm' H' x M
end
section
variable (K : PySem.W.Frag) (call : Nat → List W → Mem → Res W) (gv : List T) (xr : XR)
noncomputable def tE (e : E) : TE := fun σ H Q => ∃ env cm m, EnvR K cm m H env σ ∧ MemR K cm m H ∧ OkR K (ev call gv e env m) xr cm m H fun w cm' m' H' => ∀ v, RW K cm' m' H' w v → Q v H'
noncomputable def tA (es : Es) : TA := fun σ H Q => ∃ env cm m, EnvR K cm m H env σ ∧ MemR K cm m H ∧ OkR K (evs call gv es env m) xr cm m H fun ws cm' m' H' => ∀ vs, RWs K cm' m' H' ws vs → Q vs H'
noncomputable def tT (e : E) : TT := fun σ H Q => ∃ env cm m, EnvR K cm m H env σ ∧ MemR K cm m H ∧ OkR K ((ev call gv e env m).bind truthW) xr cm m H fun k _ _ H' => Q k H'
noncomputable def r2 (f : W → W → Mem → Res W) : R2 := fun x y H Q => ∃ cm m a b, MemR K cm m H ∧ RW K cm m H a x ∧ RW K cm m H b y ∧ OkR K (f a b m) xr cm m H fun w cm' m' H' => ∀ v, RW K cm' m' H' w v → Q v H'
noncomputable def r1 (f : W → Mem → Res W) : V → Hp → VK → Prop := fun x H Q => ∃ cm m a, MemR K cm m H ∧ RW K cm m H a x ∧ OkR K (f a m) xr cm m H fun w cm' m' H' => ∀ v, RW K cm' m' H' w v → Q v H'
noncomputable def rN (f : List W → Mem → Res W) : List V → Hp → VK → Prop := fun xs H Q => ∃ cm m ws, MemR K cm m H ∧ RWs K cm m H ws xs ∧ OkR K (f ws m) xr cm m H fun w cm' m' H' => ∀ v, RW K cm' m' H' w v → Q v H'
end
section
variable {K : PySem.W.Frag} {call : Nat → List W → Mem → Res W} {gv : List T} {xr : XR} {X : Cx}
theorem PE.mono {e : Expr} {t t' : TE} (h : PE X e t) (f : ∀ σ H Q, t' σ H Q → t σ H Q) : PE X e t' := fun pins s σ H Q I q => h pins s σ H Q I (f σ H Q q)
theorem PT.mono {e : Expr} {t t' : TT} (h : PT X e t) (f : ∀ σ H Q, t' σ H Q → t σ H Q) : PT X e t' := fun pins s σ H Q I q => h pins s σ H Q I (f σ H Q q)
theorem PA.mono {e : List Expr} {t t' : TA} (h : PA X e t) (f : ∀ σ H Q, t' σ H Q → t σ H Q) : PA X e t' := fun pos pins s σ H Q I q => h pos pins s σ H Q I (f σ H Q q)
theorem t2_of {a b e : E} {f : W → W → Mem → Res W} (h : ∀ env m, ev call gv e env m = (ev call gv a env m).bind fun x m => (ev call gv b env m).bind fun y m => f x y m) (σ : L2.St) (H : Hp) (Q : VK) (q : tE K call gv xr e σ H Q) :
    tOp (r2 K xr f) (tE K call gv xr a) (tE K call gv xr b) σ H Q := by
  obtain ⟨env, cm, m, hE, hM, ho⟩ := q
  rw [h] at ho
  refine ⟨env, cm, m, hE, hM, ho.bind.mono fun w cm1 m1 H1 x1 M1 o1 v rv => ?_⟩
  refine ⟨env, cm1, m1, hE.ext x1 hM M1, M1, o1.bind.mono fun w2 cm2 m2 H2 x2 M2 o2 v2 rv2 => ?_⟩
  exact ⟨cm2, m2, w, w2, M2, rv.ext x2 M1 M2, rv2, o2⟩
end
end Mi
end
section
namespace Mi
open PySem PySem.Spec PyProof.Rows L2
section
variable {K : PySem.W.Frag} {cm : List Addr} {m : Mem} {H : Hp} {xr : XR} {X : Cx}
theorem view_t {w : W} {v : V} {t : T} (h : RW K cm m H w v) (e : view w m = some t) (n : ∀ ts, t ≠ .lst ts) : RT K cm m H t v := by
  cases w with
  | t x => cases e; exact h
  | f a => cases e
  | c i =>
    unfold view at e
    dsimp only at e
    split at e
    · cases e; exact absurd rfl (n _)
    · cases e
theorem view_lst {w : W} {v : V} {ts : List T} (M : MemR K cm m H) (h : RW K cm m H w v) (e : view w m = some (.lst ts)) : ∃ a vs, v = .ref a ∧ H a = some (.lst vs) ∧ RTs K cm m H ts vs := by
  cases w with
  | t x =>
    cases e
    obtain ⟨a, vs, h1, h2, _, h3⟩ := RT.ilst h
    exact ⟨a, vs, h1, h2, h3⟩
  | f a => cases e
  | c i =>
    unfold view at e
    dsimp only at e
    split at e
    · rename_i fl us hu
      cases e
      obtain ⟨a, h1, h2⟩ := h
      obtain ⟨b, vs, h3, h4, _, h5⟩ := M.at' i _ hu
      rw [h1] at h3; cases h3
      exact ⟨a, vs, h2, h4, h5⟩
    · cases e
theorem RT.vint {i : Int} {v : V} (h : RT K cm m H (.int i) v) : v = .int i := by cases h; rfl
theorem RT.vbl {b : Bool} {v : V} (h : RT K cm m H (.bl b) v) : v = .bl b := by cases h; rfl
theorem RT.vnon {v : V} (h : RT K cm m H .non v) : v = .non := by cases h; rfl
theorem RT.vstr {cs : List Nat} {v : V} (h : RT K cm m H (.str cs) v) : v = .str ⟨cs.toArray⟩ := by cases h; rfl
theorem RT.vscr {ns : List Int} {v : V} (h : RT K cm m H (.scr ns) v) : ∃ a, v = .ref a ∧ ScrOk K H a ns := by
  cases h with
  | scr _ h => exact ⟨_, rfl, h⟩
theorem notLive_new (M : MemR K cm m H) {p : Addr} (hp : H p = none) : NotLive cm m p := fun i ts e z => by
  obtain ⟨a, vs, h1, h2, _⟩ := M.at' i ts e
  rw [h1] at z; cases z
  rw [hp] at h2; cases h2
theorem Ext.new {p : Addr} {o : HO} (hp : H p = none) : Ext cm m H cm m (upd H p o) :=
  ⟨fun _ _ h => h, Nat.le_refl _, fun _ _ h => h, fun a u h n => ⟨by rw [upd_ne (ne_of_none h hp)]; exact h, n⟩⟩
theorem RT.same {H' : Hp} {cm' : List Addr} {m' : Mem} (h1 : ∀ a o, H a = some o → H' a = some o) (h2 : ∀ a, NotLive cm m a → H a ≠ none → NotLive cm' m' a) {t : T} {v : V} (h : RT K cm m H t v) : RT K cm' m' H' t v := by
  induction h with
  | non => exact .non
  | bl b => exact .bl b
  | int i => exact .int i
  | str cs => exact .str cs
  | tup q1 q2 _ ih =>
    refine .tup ?_ q2 ih
    rcases q1 with (q | ⟨o, q⟩) | q
    · exact .inl (.inl (h1 _ _ q))
    · exact .inl (.inr ⟨o, h1 _ _ q⟩)
    · exact .inr q
  | lst q1 q2 q3 _ ih => exact .lst (h1 _ _ q1) (h2 _ q2 (by rw [q1]; simp)) q3 ih
  | dct q1 q2 q3 q4 _ ih => exact .dct (h1 _ _ q1) (h2 _ q2 (by rw [q1]; simp)) q3 q4 ih
  | scr ns q =>
    refine .scr ns ?_
    rcases q with ⟨o, q⟩ | q
    · exact .inl ⟨o, h1 _ _ q⟩
    · exact .inr q
theorem upd_keeps {p : Addr} {o : HO} (hp : H p = none) : ∀ a u, H a = some u → upd H p o a = some u := fun a u h => by rw [upd_ne (ne_of_none h hp)]; exact h
theorem MemR.new (M : MemR K cm m H) {p : Addr} {o : HO} (hp : H p = none) : MemR K cm m (upd H p o) :=
  ⟨M.len, M.inj, fun i ts e => by
    obtain ⟨a, vs, h1, h2, h3, h4⟩ := M.at' i ts e
    exact ⟨a, vs, h1, upd_keeps hp _ _ h2, h3, paired_mono (fun _ _ z => z.same (upd_keeps hp) fun _ n _ => n) h4⟩⟩
theorem RTs.new {ts : List T} {vs : List V} (r : RTs K cm m H ts vs) {p : Addr} {o : HO} (hp : H p = none) : RTs K cm m (upd H p o) ts vs := paired_mono (fun _ _ z => z.same (upd_keeps hp) fun _ n _ => n) r
theorem RT.newTup {ts : List T} {vs : List V} (r : RTs K cm m H ts vs) {p : Addr} (hp : H p = none) : RT K cm m (upd H p (.tup vs)) (.tup ts) (.ref p) := .mtup (.of upd_same) (RTs.new r hp)
theorem RT.newLst (M : MemR K cm m H) {ts : List T} {vs : List V} (r : RTs K cm m H ts vs) {p : Addr} (hp : H p = none) : RT K cm m (upd H p (.lst vs)) (.lst ts) (.ref p) := .mlst upd_same (notLive_new M hp) (RTs.new r hp)
theorem live_snoc {p : Addr} {c : Bool × List T} (hl : cm.length = m.length) {a : Addr} (n : NotLive cm m a) (ne : a ≠ p) : NotLive (cm ++ [p]) (m ++ [some c]) a := fun i us e z => by
  by_cases hi : i < m.length
  · rw [List.getElem?_append_left hi] at e
    rw [List.getElem?_append_left (by omega)] at z
    exact n i us e z
  · by_cases hj : i = m.length
    · subst hj
      rw [← hl, List.getElem?_append_right (Nat.le_refl _)] at z
      simp at z
      exact ne z.symm
    · rw [List.getElem?_eq_none (by simp; omega)] at e
      cases e
theorem cell_new (M : MemR K cm m H) {ts : List T} {vs : List V} (r : RTs K cm m H ts vs) {p : Addr} (hp : H p = none) (hk : K.lookup p = none) :
    Ext cm m H (cm ++ [p]) (m ++ [some (false, ts)]) (upd H p (.lst vs)) ∧ MemR K (cm ++ [p]) (m ++ [some (false, ts)]) (upd H p (.lst vs)) ∧ RW K (cm ++ [p]) (m ++ [some (false, ts)]) (upd H p (.lst vs)) (.c m.length) (.ref p) := by
  have sm : ∀ {t : T} {v : V}, RT K cm m H t v → RT K (cm ++ [p]) (m ++ [some (false, ts)]) (upd H p (.lst vs)) t v := fun h =>
    h.same (upd_keeps hp) fun a n hn => live_snoc M.len n fun z => by subst z; exact hn hp
  have cs : ∀ {i : Nat} {c : Bool × List T}, (m ++ [some (false, ts)])[i]? = some (some c) → (m[i]? = some (some c) ∧ i < m.length) ∨ (i = m.length ∧ c = (false, ts)) := fun {i c} e => by
    by_cases hi : i < m.length
    · rw [List.getElem?_append_left hi] at e
      exact .inl ⟨e, hi⟩
    · by_cases hj : i = m.length
      · subst hj
        simp at e
        exact .inr ⟨rfl, e.symm⟩
      · rw [List.getElem?_eq_none (by simp; omega)] at e
        cases e
  have cl : ∀ {i : Nat}, i < m.length → (cm ++ [p])[i]? = cm[i]? := fun {i} h => List.getElem?_append_left (by rw [M.len]; exact h)
  have cp : (cm ++ [p])[m.length]? = some p := by rw [← M.len]; simp
  have np : ∀ {i : Nat} {c : Bool × List T} {a : Addr}, m[i]? = some (some c) → cm[i]? = some a → a ≠ p := fun {i c a} e1 e2 z => by
    subst z
    obtain ⟨b, ws, q1, q2, _⟩ := M.at' i c e1
    rw [e2] at q1; cases q1
    rw [hp] at q2; cases q2
  refine ⟨⟨fun i a h => ?_, by simp, fun i us h => ?_, fun a o h n => ⟨upd_keeps hp _ _ h, live_snoc M.len n (ne_of_none h hp)⟩⟩, ⟨by simp [M.len], fun i j a us us' e1 e2 f1 f2 => ?_, fun i us e => ?_⟩, ⟨p, cp, rfl⟩⟩
  · rw [List.getElem?_append_left (List.getElem?_eq_some_iff.mp h).1]; exact h
  · rw [List.getElem?_append_left (List.getElem?_eq_some_iff.mp h).1]; exact h
  · rcases cs e1 with ⟨g1, l1⟩ | ⟨k1, _⟩
    · rw [cl l1] at f1
      rcases cs e2 with ⟨g2, l2⟩ | ⟨k2, _⟩
      · rw [cl l2] at f2
        exact M.inj i j a _ _ g1 g2 f1 f2
      · rw [k2, cp] at f2; cases f2
        exact absurd rfl (np g1 f1)
    · rw [k1, cp] at f1; cases f1
      rcases cs e2 with ⟨g2, l2⟩ | ⟨k2, _⟩
      · rw [cl l2] at f2
        exact absurd rfl (np g2 f2)
      · rw [k1, k2]
  · rcases cs e with ⟨g, l⟩ | ⟨k, z⟩
    · obtain ⟨a, ws, q1, q2, q3, q4⟩ := M.at' i us g
      exact ⟨a, ws, by rw [cl l]; exact q1, upd_keeps hp _ _ q2, q3, paired_mono (fun _ _ z => sm z) q4⟩
    · rw [k, z]
      exact ⟨p, vs, cp, upd_same, hk, paired_mono (fun _ _ z => sm z) r⟩
theorem live_set {i : Nat} {c c' : Bool × List T} (e : m[i]? = some (some c)) {j : Nat} {d : Bool × List T} (q : (m.set i (some c'))[j]? = some (some d)) : ∃ d', m[j]? = some (some d') := by
  by_cases hj : j = i
  · subst hj; exact ⟨c, e⟩
  · rw [List.getElem?_set_ne (Ne.symm hj)] at q; exact ⟨d, q⟩
theorem cell_write (M : MemR K cm m H) {i : Nat} {ts ts' : List T} {a : Addr} {vs' : List V} (e : m[i]? = some (some (false, ts))) (hc : cm[i]? = some a) (r : RTs K cm m H ts' vs') :
    Ext cm m H cm (m.set i (some (false, ts'))) (upd H a (.lst vs')) ∧ MemR K cm (m.set i (some (false, ts'))) (upd H a (.lst vs')) := by
  have hi : i < m.length := (List.getElem?_eq_some_iff.mp e).1
  have nl : ∀ {b : Addr}, NotLive cm m b → NotLive cm (m.set i (some (false, ts'))) b := fun {b} n j us q => by
    obtain ⟨us', q'⟩ := live_set e q
    exact n j us' q'
  have ne : ∀ {b : Addr}, NotLive cm m b → b ≠ a := fun {b} n z => by subst z; exact n i _ e hc
  have x : Ext cm m H cm (m.set i (some (false, ts'))) (upd H a (.lst vs')) := ⟨fun _ _ h => h, by simp, fun j us h => by
    by_cases hj : j = i
    · subst hj; rw [e] at h; cases h
    · rw [List.getElem?_set_ne (Ne.symm hj)]; exact h, fun b o h n => ⟨by rw [upd_ne (ne n)]; exact h, nl n⟩⟩
  have sm : ∀ {t : T} {v : V}, RT K cm m H t v → RT K cm (m.set i (some (false, ts'))) (upd H a (.lst vs')) t v := fun {t v} h => by
    induction h with
    | non => exact .non
    | bl b => exact .bl b
    | int i => exact .int i
    | str cs => exact .str cs
    | tup q1 q2 _ ih => exact .tup (x.sqT M q1) q2 ih
    | lst q1 q2 q3 _ ih => exact .lst (x.keep _ _ q1 q2).1 (x.keep _ _ q1 q2).2 q3 ih
    | dct q1 q2 q3 q4 _ ih => exact .dct (x.keep _ _ q1 q2).1 (x.keep _ _ q1 q2).2 q3 q4 ih
    | scr ns q => exact .scr ns (x.scr M q)
  refine ⟨x, ⟨by simp [M.len], fun j k b us us' e1 e2 f1 f2 => ?_, fun j us q => ?_⟩⟩
  · obtain ⟨_, e1⟩ := live_set e e1
    obtain ⟨_, e2⟩ := live_set e e2
    exact M.inj j k b _ _ e1 e2 f1 f2
  · by_cases hj : j = i
    · subst hj
      rw [List.getElem?_set_self hi] at q
      cases q
      obtain ⟨b, ws, q1, _, q3, _⟩ := M.at' j _ e
      rw [hc] at q1; cases q1
      exact ⟨a, vs', hc, upd_same, q3, paired_mono (fun _ _ z => sm z) r⟩
    · rw [List.getElem?_set_ne (Ne.symm hj)] at q
      obtain ⟨b, ws, q1, q2, q3, q4⟩ := M.at' j us q
      have hb : b ≠ a := fun z => by
        subst z
        exact hj (M.inj j i b _ _ q e q1 hc)
      exact ⟨b, ws, q1, by rw [upd_ne hb]; exact q2, q3, paired_mono (fun _ _ z => sm z) q4⟩
theorem cell_dead (M : MemR K cm m H) {i : Nat} {ts : List T} (e : m[i]? = some (some (false, ts))) :
    ∃ a vs, cm[i]? = some a ∧ H a = some (.lst vs) ∧ K.lookup a = none ∧ Ext cm m H cm (m.set i none) H ∧ MemR K cm (m.set i none) H ∧ RTs K cm (m.set i none) H ts vs ∧ RT K cm (m.set i none) H (.lst ts) (.ref a) := by
  obtain ⟨a, vs, q1, q2, q3, q4⟩ := M.at' i _ e
  have hi : i < m.length := (List.getElem?_eq_some_iff.mp e).1
  have lv : ∀ {j : Nat} {us : Bool × List T}, (m.set i none)[j]? = some (some us) → m[j]? = some (some us) ∧ j ≠ i := fun {j us} q => by
    by_cases hj : j = i
    · subst hj; rw [List.getElem?_set_self hi] at q; cases q
    · rw [List.getElem?_set_ne (Ne.symm hj)] at q; exact ⟨q, hj⟩
  have nl : ∀ {b : Addr}, NotLive cm m b → NotLive cm (m.set i none) b := fun {b} n j us q => n j us (lv q).1
  have sm : ∀ {t : T} {v : V}, RT K cm m H t v → RT K cm (m.set i none) H t v := fun h => h.same (fun _ _ z => z) fun _ n _ => nl n
  have na : NotLive cm (m.set i none) a := fun j us q z => (lv q).2 (M.inj j i a _ _ (lv q).1 e z q1)
  have rs : RTs K cm (m.set i none) H ts vs := paired_mono (fun _ _ z => sm z) q4
  refine ⟨a, vs, q1, q2, q3, ⟨fun _ _ h => h, by simp, fun j us h => ?_, fun b o h n => ⟨h, nl n⟩⟩, ⟨by simp [M.len], fun j k b us us' e1 e2 => M.inj j k b _ _ (lv e1).1 (lv e2).1, fun j us q => ?_⟩, rs, .mlst q2 na rs⟩
  · by_cases hj : j = i
    · subst hj; rw [e] at h; cases h
    · rw [List.getElem?_set_ne (Ne.symm hj)]; exact h
  · obtain ⟨b, ws, p1, p2, p3, p4⟩ := M.at' j us (lv q).1
    exact ⟨b, ws, p1, p2, p3, paired_mono (fun _ _ z => sm z) p4⟩
theorem cell_mark (M : MemR K cm m H) {i : Nat} {b b' : Bool} {ts : List T} (e : m[i]? = some (some (b, ts))) :
    (∀ a, NotLive cm m a ↔ NotLive cm (m.set i (some (b', ts))) a) ∧ MemR K cm (m.set i (some (b', ts))) H ∧ (∀ t v, RT K cm m H t v → RT K cm (m.set i (some (b', ts))) H t v) := by
  have hi : i < m.length := (List.getElem?_eq_some_iff.mp e).1
  have nl : ∀ a, NotLive cm m a ↔ NotLive cm (m.set i (some (b', ts))) a := fun a => by
    constructor
    · intro n j us q
      obtain ⟨d, q'⟩ := live_set e q
      exact n j d q'
    · intro n j us q
      by_cases hj : j = i
      · subst hj
        exact n j _ (List.getElem?_set_self hi)
      · exact n j us (by rw [List.getElem?_set_ne (Ne.symm hj)]; exact q)
  have sm : ∀ t v, RT K cm m H t v → RT K cm (m.set i (some (b', ts))) H t v := fun t v h => h.same (fun _ _ z => z) fun a n _ => (nl a).mp n
  refine ⟨nl, ⟨by simp [M.len], fun j k a us us' e1 e2 f1 f2 => ?_, fun j us q => ?_⟩, sm⟩
  · obtain ⟨_, e1⟩ := live_set e e1
    obtain ⟨_, e2⟩ := live_set e e2
    exact M.inj j k a _ _ e1 e2 f1 f2
  · by_cases hj : j = i
    · subst hj
      rw [List.getElem?_set_self hi] at q
      cases q
      obtain ⟨a, vs, q1, q2, q3, q4⟩ := M.at' j _ e
      exact ⟨a, vs, q1, q2, q3, paired_mono (fun _ _ z => sm _ _ z) q4⟩
    · rw [List.getElem?_set_ne (Ne.symm hj)] at q
      obtain ⟨a, vs, q1, q2, q3, q4⟩ := M.at' j us q
      exact ⟨a, vs, q1, q2, q3, paired_mono (fun _ _ z => sm _ _ z) q4⟩
theorem cell_lend (M : MemR K cm m H) {i : Nat} {b : Bool} {ts : List T} (e : m[i]? = some (some (b, ts))) : Ext cm m H cm (m.set i (some (true, ts))) H ∧ MemR K cm (m.set i (some (true, ts))) H := by
  have hi : i < m.length := (List.getElem?_eq_some_iff.mp e).1
  obtain ⟨nl, M', _⟩ := cell_mark (b' := true) M e
  refine ⟨⟨fun _ _ h => h, by simp, fun j us h => ?_, fun a o h n => ⟨h, (nl a).mp n⟩⟩, M'⟩
  by_cases hj : j = i
  · subst hj
    rw [e] at h; cases h
    exact List.getElem?_set_self hi
  · rw [List.getElem?_set_ne (Ne.symm hj)]; exact h
theorem give_back {cm' : List Addr} {m1 m' : Mem} {H' : Hp} {w : W} {ts : List T} (M : MemR K cm m H) (e : borrow w m = .ok ts m1) (x : Ext cm m1 H cm' m' H') (M' : MemR K cm' m' H') :
    Ext cm m H cm' (giveBack w m m') H' ∧ MemR K cm' (giveBack w m m') H' ∧ ∀ t v, RT K cm' m' H' t v → RT K cm' (giveBack w m m') H' t v := by
  cases w with
  | t t =>
    unfold borrow at e
    dsimp only at e
    split at e <;> cases e
    exact ⟨x, M', fun _ _ h => h⟩
  | f a => cases e
  | c i =>
    unfold borrow at e
    dsimp only at e
    split at e
    · rename_i b us h
      cases e
      have hi : i < m.length := (List.getElem?_eq_some_iff.mp h).1
      have h' : m'[i]? = some (some (true, ts)) := x.lent i ts (List.getElem?_set_self hi)
      have hi' : i < m'.length := (List.getElem?_eq_some_iff.mp h').1
      obtain ⟨nl, M2, sm⟩ := cell_mark (b' := b) M' h'
      have eg : giveBack (.c i) m m' = m'.set i (some (b, ts)) := by unfold giveBack; dsimp only; rw [h]
      rw [eg]
      obtain ⟨nl0, M1, _⟩ := cell_mark (b' := true) M h
      refine ⟨⟨fun j a q => x.pre j a q, by rw [List.length_set]; have := x.len; rw [List.length_set] at this; exact this, fun j vs q => ?_, fun a o q n => ?_⟩, M2, sm⟩
      · by_cases hj : j = i
        · subst hj
          rw [h] at q; cases q
          exact List.getElem?_set_self hi'
        · rw [List.getElem?_set_ne (Ne.symm hj)]
          exact x.lent j vs (by rw [List.getElem?_set_ne (Ne.symm hj)]; exact q)
      · obtain ⟨q1, q2⟩ := x.keep a o q ((nl0 a).mp n)
        exact ⟨q1, (nl a).mp q2⟩
    · cases e
end
end Mi
end
section
set_option linter.all false
set_option maxRecDepth 100000
namespace Mi
open PySem PySem.Spec PyProof.Rows L2
section
variable {K : PySem.W.Frag} {cm : List Addr} {m : Mem} {H : Hp} {xr : XR} {X : Cx}
theorem line_lim : lim ≤ sizeLine := by rw [sizeLine_eq]; decide
theorem pur_ok {o : Option T} {k : W → List Addr → Mem → Hp → Prop} (h : OkR K (pur o m) xr cm m H k) : ∃ t, o = some t ∧ OkR K (.ok (.t t) m) xr cm m H k := by
  cases o with
  | none => exact h.elim
  | some t => exact ⟨t, rfl, h⟩
theorem bind2 {α : Type} {o p : Option T} {f : T → T → Option α} {z : α} (h : (o.bind fun x => p.bind fun y => f x y) = some z) : ∃ x y, o = some x ∧ p = some y ∧ f x y = some z := by
  cases o with
  | none => cases h
  | some x =>
    cases p with
    | none => cases h
    | some y => exact ⟨x, y, rfl, rfl, h⟩
theorem strApp (a b : List Nat) : (⟨a.toArray⟩ : Str) ++ ⟨b.toArray⟩ = ⟨(a ++ b).toArray⟩ := by
  show (⟨a.toArray ++ b.toArray⟩ : Str) = _
  simp
theorem strLen (a : List Nat) : (⟨a.toArray⟩ : Str).length = a.length := by simp [Str.length]
theorem ans {t : T} {Q : VK} (ho : OkR K (.ok (.t t) m) xr cm m H fun w cm' m' H' => ∀ v, RW K cm' m' H' w v → Q v H') (M : MemR K cm m H) {v : V} (r : RT K cm m H t v) : Q v H := ho.now M v r
theorem ansTup {ts : List T} {Q : VK} (ho : OkR K (.ok (.t (.tup ts)) m) xr cm m H fun w cm' m' H' => ∀ v, RW K cm' m' H' w v → Q v H') (M : MemR K cm m H) {vs : List V} (r : RTs K cm m H ts vs) {p : Addr} (hp : H p = none) :
    Q (.ref p) (upd H p (.tup vs)) := ho.to (.new hp) (M.new hp) _ (RT.newTup r hp)
theorem ansLst {ts : List T} {Q : VK} (ho : OkR K (.ok (.t (.lst ts)) m) xr cm m H fun w cm' m' H' => ∀ v, RW K cm' m' H' w v → Q v H') (M : MemR K cm m H) {vs : List V} (r : RTs K cm m H ts vs) {p : Addr} (hp : H p = none) :
    Q (.ref p) (upd H p (.lst vs)) := ho.to (.new hp) (M.new hp) _ (RT.newLst M r hp)
theorem mul_big {i j : Int} (h1 : i.natAbs < bigN) (h2 : j.natAbs < bigN) : IntMulOk i j := by
  have b : ∀ {k : Int}, k.natAbs < bigN → Builtin.Int.intBits k ≤ 2000 := fun {k} h => intBits_le (by
    have e : bigN = 2 ^ (250 * 8) := by unfold bigN; rw [← Nat.pow_mul]
    rw [e] at h
    exact h)
  exact mulOk_of_bits (b h1) (b h2) (by decide)
theorem small_iff {i : Int} (h : small i = true) : -(2 ^ 64) < i ∧ i < 2 ^ 64 := by
  have h' : i.natAbs < 2 ^ 64 := of_decide_eq_true h
  omega
theorem mulOk_ok {i j : Int} (h : mulOk i j = true) : IntMulOk i j := by
  unfold mulOk at h
  simp only [Bool.or_eq_true, Bool.and_eq_true, decide_eq_true_eq] at h
  rcases h with (h | h) | ⟨h1, h2⟩
  · exact CMul.ok (.inl (small_iff h))
  · exact CMul.ok (.inr (small_iff h))
  · exact mul_big h1 h2
theorem op_mulB : OpR X (binaryOp .Mult) (rI (fun i j => mulOk i j = true) fun i j => .int (i * j)) := opI fun _ _ _ _ _ _ _ hc q => mul_int q (mulOk_ok hc)
theorem cat_nil {prog : Program} {w : World} {A : Around} {E : Value → Shared → Prop} {s : Shared} {t b : Addr} {ws : List Value} {Q : Value → Shared → Prop} (ht : IsTup s.heap t ([] : List Value).toArray) (hb : IsTup s.heap b ws.toArray)
    (h : Q (.ref b) s) : wpAny (model prog w) A (binaryOp .Add (.ref t) (.ref b)) Q E s := by
  obtain ⟨⟨cls, dd, data, sl⟩, ho, hc, n, hd⟩ := id ht
  obtain ⟨⟨cls2, dd2, data2, sl2⟩, ho2, hc2, n2, hd2⟩ := id hb
  simp only at hc hd hc2 hd2
  subst hc hd hc2 hd2
  exact concat_meets ⟨_, ho, rfl⟩ ⟨_, ho2, rfl⟩ noFill_tuple_add seq_tuple_add PySem.F.slot_tuple_add PySem.F.entry_tuple_add (PySem.F.args_tuple_add_2 _ _)
      (tuple_addW0 t b ([] : List Value).toArray ws.toArray n n2 dd dd2 sl sl2 (by simp)) ⟨ho, ho2, h⟩
theorem op_nilT : OpR X (binaryOp .Add) (fun x y H Q => ∃ a b ys, x = .ref a ∧ y = .ref b ∧ SqT X.K H a [] ∧ SqT X.K H b ys ∧ Q (.ref b) H) := by
  intro pins s σ H x y v u Q I rx ry h
  obtain ⟨a, b, ys, rfl, rfl, ha, hb, q⟩ := h
  cases rx
  cases ry
  obtain ⟨its, r1, p1, _⟩ := I.tuple ha
  obtain ⟨its2, r2, p2, _⟩ := I.tuple hb
  cases r1
  exact cat_nil p1 p2 ⟨.ref b, H, I, rfl, q⟩
theorem intT_some {f : Int → Int → Option T} {x y t : T} (e : intT f x y = some t) : ∃ i j, x = .int i ∧ y = .int j ∧ f i j = some t := by
  cases x with
  | int i => cases y with
    | int j => exact ⟨i, j, rfl, rfl, e⟩
    | _ => cases e
  | _ => cases e
theorem icmpT_some {f : Int → Int → Bool} {x y : T} {c : Bool} (e : icmpT f x y = some c) : ∃ i j, x = .int i ∧ y = .int j ∧ f i j = c := by
  cases x with
  | int i => cases y with
    | int j => exact ⟨i, j, rfl, rfl, Option.some.inj e⟩
    | _ => cases e
  | _ => cases e
noncomputable def fBin (op : Operator) (x y : W) (m : Mem) : Res W := pur ((view x m).bind fun x => (view y m).bind fun y => binT op x y) m
theorem op_bin_add : OpR X (binaryOp .Add) (r2 X.K xr (fBin .Add)) := by
  rintro pins s σ H x y v u Q I rx ry ⟨cm, m, a, b, M, ra, rb, ho⟩
  obtain ⟨t, e, ho⟩ := pur_ok ho
  obtain ⟨ta, tb, ea, eb, e⟩ := bind2 e
  change addT ta tb = some t at e
  unfold addT at e
  have hz := line_lim
  split at e
  · cases e
    cases (view_t ra ea (fun _ z => by cases z)).vint
    cases (view_t rb eb (fun _ z => by cases z)).vint
    exact op_add pins s σ H _ _ v u Q I rx ry ⟨_, _, rfl, rfl, ans ho M (.int _)⟩
  · split at e <;> cases e
    cases (view_t ra ea (fun _ z => by cases z)).vstr
    cases (view_t rb eb (fun _ z => by cases z)).vstr
    exact op_add_str pins s σ H _ _ v u Q I rx ry ⟨_, _, rfl, rfl, by rw [strLen, strLen]; omega, by rw [strApp]; exact ans ho M (.str _)⟩
  · split at e <;> cases e
    obtain ⟨p, vs, rfl, h1, r1⟩ := (view_t ra ea (fun _ z => by cases z)).itup
    obtain ⟨q, us, rfl, h2, r2⟩ := (view_t rb eb (fun _ z => by cases z)).itup
    have l1 := r1.length
    have l2 := r2.length
    cases vs with
    | nil =>
      cases r1
      exact op_nilT pins s σ H _ _ v u Q I rx ry ⟨p, q, us, rfl, rfl, h1, h2, ans ho M (.mtup h2 r2)⟩
    | cons v1 vs =>
      refine op_catT pins s σ H _ _ v u Q I rx ry ⟨p, q, _, us, rfl, rfl, h1, h2, by simp, by omega, fun z => ?_, fun z l hl => ansTup ho M (paired_append r1 r2) hl⟩
      subst z
      cases r2
      rw [List.append_nil] at ho
      exact ans ho M (.mtup h1 r1)
  · split at e <;> cases e
    obtain ⟨p, vs, rfl, h1, r1⟩ := view_lst M ra ea
    obtain ⟨q, us, rfl, h2, r2⟩ := view_lst M rb eb
    have l1 := r1.length
    have l2 := r2.length
    exact op_cat pins s σ H _ _ v u Q I rx ry ⟨p, q, vs, us, rfl, rfl, h1, h2, by omega, fun l hl => ansLst ho M (paired_append r1 r2) hl⟩
  all_goals cases e
theorem op_bin_sub : OpR X (binaryOp .Sub) (r2 X.K xr (fBin .Sub)) := by
  rintro pins s σ H x y v u Q I rx ry ⟨cm, m, a, b, M, ra, rb, ho⟩
  obtain ⟨t, e, ho⟩ := pur_ok ho
  obtain ⟨ta, tb, ea, eb, e⟩ := bind2 e
  obtain ⟨i, j, rfl, rfl, e2⟩ := intT_some e
  cases (view_t ra ea (fun _ z => by cases z)).vint
  cases (view_t rb eb (fun _ z => by cases z)).vint
  cases e2
  exact op_sub pins s σ H _ _ v u Q I rx ry ⟨_, _, rfl, rfl, ans ho M (.int _)⟩
theorem op_bin_fdiv : OpR X (binaryOp .FloorDiv) (r2 X.K xr (fBin .FloorDiv)) := by
  rintro pins s σ H x y v u Q I rx ry ⟨cm, m, a, b, M, ra, rb, ho⟩
  obtain ⟨t, e, ho⟩ := pur_ok ho
  obtain ⟨ta, tb, ea, eb, e⟩ := bind2 e
  obtain ⟨i, j, rfl, rfl, e2⟩ := intT_some e
  cases (view_t ra ea (fun _ z => by cases z)).vint
  cases (view_t rb eb (fun _ z => by cases z)).vint
  split at e2 <;> cases e2
  exact op_fdiv pins s σ H _ _ v u Q I rx ry ⟨_, _, rfl, rfl, ‹_ ∧ _›, ans ho M (.int _)⟩
theorem op_bin_mod : OpR X (binaryOp .Mod) (r2 X.K xr (fBin .Mod)) := by
  rintro pins s σ H x y v u Q I rx ry ⟨cm, m, a, b, M, ra, rb, ho⟩
  obtain ⟨t, e, ho⟩ := pur_ok ho
  obtain ⟨ta, tb, ea, eb, e⟩ := bind2 e
  obtain ⟨i, j, rfl, rfl, e2⟩ := intT_some e
  cases (view_t ra ea (fun _ z => by cases z)).vint
  cases (view_t rb eb (fun _ z => by cases z)).vint
  split at e2 <;> cases e2
  exact op_mod pins s σ H _ _ v u Q I rx ry ⟨_, _, rfl, rfl, ‹_›, ans ho M (.int _)⟩
theorem op_bin_pow : OpR X (binaryOp .Pow) (r2 X.K xr (fBin .Pow)) := by
  rintro pins s σ H x y v u Q I rx ry ⟨cm, m, a, b, M, ra, rb, ho⟩
  obtain ⟨t, e, ho⟩ := pur_ok ho
  obtain ⟨ta, tb, ea, eb, e⟩ := bind2 e
  obtain ⟨i, j, rfl, rfl, e2⟩ := intT_some e
  cases (view_t ra ea (fun _ z => by cases z)).vint
  cases (view_t rb eb (fun _ z => by cases z)).vint
  have hc : 0 ≤ j ∧ j ≤ 1000 ∧ i.natAbs < 2 ^ 64 := by
    by_cases hc : 0 ≤ j ∧ j ≤ 1000 ∧ i.natAbs < 2 ^ 64
    · exact hc
    · rw [if_neg hc] at e2; cases e2
  rw [if_pos hc] at e2
  cases e2
  exact op_pow pins s σ H _ _ v u Q I rx ry ⟨_, _, rfl, rfl, ⟨hc.1, by omega, hc.2.2⟩, ans ho M (.int _)⟩
theorem paired_rep {α β : Type} {F : α → β → Prop} {xs : List α} {ys : List β} (h : Paired F xs ys) : ∀ k : Nat, Paired F (repT xs k) (List.replicate k ys).flatten
  | 0 => .nil
  | k + 1 => by
    unfold repT
    rw [List.replicate_succ, List.replicate_succ, List.flatten_cons, List.flatten_cons]
    exact paired_append h (paired_rep h k)
end
end Mi
end
section
set_option linter.all false
set_option maxRecDepth 100000
namespace Mi
open PySem PySem.Spec PyProof.Rows L2
section
variable {K : PySem.W.Frag} {cm : List Addr} {m : Mem} {H : Hp} {xr : XR} {X : Cx}
noncomputable def fCmp (op : CmpOp) (x y : W) (m : Mem) : Res W := pur (((view x m).bind fun x => (view y m).bind fun y => cmpT op x y).map .bl) m
theorem cmp_ok {op : CmpOp} {a b : W} {k : W → List Addr → Mem → Hp → Prop} (h : OkR K (fCmp op a b m) xr cm m H k) : ∃ ta tb c, view a m = some ta ∧ view b m = some tb ∧ cmpT op ta tb = some c ∧ OkR K (.ok (.t (.bl c)) m) xr cm m H k := by
  obtain ⟨t, e, ho⟩ := pur_ok h
  cases q : ((view a m).bind fun x => (view b m).bind fun y => cmpT op x y) with
  | none => rw [q] at e; cases e
  | some c =>
    rw [q] at e; cases e
    obtain ⟨ta, tb, ea, eb, e⟩ := bind2 q
    exact ⟨ta, tb, c, ea, eb, e, ho⟩
noncomputable def flV : T → V
  | .bl b => .bl b
  | .int i => .int i
  | .str cs => .str ⟨cs.toArray⟩
  | _ => .non
theorem RT.fl {t : T} {v : V} (h : RT K cm m H t v) (f : flat t = true) : v = flV t := by
  cases h <;> first | rfl | cases f
theorem flat_view {w : W} {v : V} {t : T} (h : RW K cm m H w v) (e : view w m = some t) (f : flat t = true) : v = flV t :=
  (view_t h e (fun ts z => by subst z; cases f)).fl f
theorem str_inj {a b : List Nat} : (⟨a.toArray⟩ : Str) = ⟨b.toArray⟩ ↔ a = b := by
  constructor
  · intro h
    injection h with h
    simpa using h
  · intro h; rw [h]
theorem dec_strs {a b : List Nat} : decide (V.str ⟨a.toArray⟩ = V.str ⟨b.toArray⟩) = (a == b) := by
  by_cases h : a = b
  · subst h; simp
  · rw [beq_eq_false_iff_ne.mpr h]
    exact decide_eq_false fun z => h (str_inj.mp (V.str.inj z))
theorem scal_fl {x y : T} (h : scalT x y = true) : flat x = true ∧ flat y = true ∧ scal (flV x) (flV y) = true ∧ decide (flV x = flV y) = eqT x y := by
  cases x <;> cases y <;> first
    | (cases h; done)
    | (refine ⟨rfl, rfl, rfl, ?_⟩; unfold eqT; first | exact dec_int | exact dec_bl | exact dec_strs | exact decide_eq_true rfl | exact decide_eq_false (fun z => nomatch z))
theorem cmpT_eq (x y : T) : cmpT .Eq x y = if scalT x y || (deepT 60 x && deepT 60 y) then some (eqT x y) else none := by cases x <;> cases y <;> rfl
theorem cmpT_ne (x y : T) : cmpT .NotEq x y = if scalT x y || (deepT 60 x && deepT 60 y) then some (!eqT x y) else none := by cases x <;> cases y <;> rfl
mutual
noncomputable def pyT : T → PyData
  | .bl b => .bool b
  | .int i => .int i
  | .str cs => .str ⟨cs.toArray⟩
  | .tup ts => .tuple (pyTs ts)
  | .lst ts => .list (pyTs ts)
  | _ => .none
noncomputable def pyTs : List T → List PyData
  | [] => []
  | t :: ts => pyT t :: pyTs ts
end
mutual
theorem py_lay : ∀ (n : Nat) (t : T), deepT n t = true → PyData.canLay0 (pyT t) = true ∧ PyData.depth (pyT t) ≤ n
  | n, .non, h => ⟨by simp [pyT, PyData.canLay0], by simp [pyT, PyData.depth]⟩
  | n, .bl b, h => ⟨by rw [pyT]; simp [PyData.canLay0], by rw [pyT]; simp [PyData.depth]⟩
  | n, .int i, h => ⟨by rw [pyT]; simp [PyData.canLay0], by rw [pyT]; simp [PyData.depth]⟩
  | n, .str cs, h => ⟨by rw [pyT, PyData.canLay0]; rw [deepT] at h; exact h, by rw [pyT]; simp [PyData.depth]⟩
  | 0, .tup ts, h => by simp [deepT] at h
  | 0, .lst ts, h => by simp [deepT] at h
  | n + 1, .tup ts, h => by
    rw [deepT] at h
    have := py_lays n ts h
    exact ⟨by rw [pyT, PyData.canLay0]; exact this.1, by rw [pyT]; simp only [PyData.depth]; omega⟩
  | n + 1, .lst ts, h => by
    rw [deepT] at h
    have := py_lays n ts h
    exact ⟨by rw [pyT, PyData.canLay0]; exact this.1, by rw [pyT]; simp only [PyData.depth]; omega⟩
  | n, .dct _ _, h => by cases n <;> simp [deepT] at h
  | n, .scr _, h => by cases n <;> simp [deepT] at h
theorem py_lays : ∀ (n : Nat) (ts : List T), deepTs n ts = true → PyData.canLayAll0 (pyTs ts) = true ∧ PyData.depthAll (pyTs ts) ≤ n
  | n, [], h => ⟨by rw [pyTs]; simp [PyData.canLayAll0], by rw [pyTs]; simp [PyData.depthAll]⟩
  | n, t :: ts, h => by
    rw [deepTs, Bool.and_eq_true] at h
    have h1 := py_lay n t h.1
    have h2 := py_lays n ts h.2
    refine ⟨by rw [pyTs, PyData.canLayAll0, h1.1, h2.1]; rfl, ?_⟩
    rw [pyTs, PyData.depthAll]
    omega
end
theorem str_beq {a b : List Nat} : ((⟨a.toArray⟩ : Str) == ⟨b.toArray⟩) = (a == b) := by
  by_cases h : a = b
  · subst h; simp
  · rw [beq_eq_false_iff_ne.mpr h, beq_eq_false_iff_ne.mpr fun z => h (str_inj.mp z)]
mutual
theorem py_eqv : ∀ (n k : Nat) (x y : T), deepT n x = true → deepT k y = true → PyData.eqv (pyT x) (pyT y) = eqT x y
  | n, k, .tup xs, .tup ys, h1, h2 => by
    cases n with
    | zero => simp [deepT] at h1
    | succ n => cases k with
      | zero => simp [deepT] at h2
      | succ k =>
        rw [deepT] at h1 h2
        rw [pyT, pyT, PyData.eqv, eqT]
        exact py_eqvs n k xs ys h1 h2
  | n, k, .lst xs, .lst ys, h1, h2 => by
    cases n with
    | zero => simp [deepT] at h1
    | succ n => cases k with
      | zero => simp [deepT] at h2
      | succ k =>
        rw [deepT] at h1 h2
        rw [pyT, pyT, PyData.eqv, eqT]
        exact py_eqvs n k xs ys h1 h2
  | n, k, .str xs, .str ys, _, _ => by rw [pyT, pyT, PyData.eqv, eqT]; exact str_beq
  | n, k, .non, y, _, h2 => by cases y <;> first | (simp [pyT, PyData.eqv, eqT]; done) | (cases k <;> simp [deepT] at h2)
  | n, k, .bl b, y, _, h2 => by cases y <;> first | (simp [pyT, PyData.eqv, eqT, b2i]; done) | (cases k <;> simp [deepT] at h2)
  | n, k, .int b, y, _, h2 => by cases y <;> first | (simp [pyT, PyData.eqv, eqT, b2i]; done) | (cases k <;> simp [deepT] at h2)
  | n, k, .str xs, .non, _, _ => by simp [pyT, PyData.eqv, eqT]
  | n, k, .str xs, .bl _, _, _ => by simp [pyT, PyData.eqv, eqT]
  | n, k, .str xs, .int _, _, _ => by simp [pyT, PyData.eqv, eqT]
  | n, k, .str xs, .tup _, _, _ => by simp [pyT, PyData.eqv, eqT]
  | n, k, .str xs, .lst _, _, _ => by simp [pyT, PyData.eqv, eqT]
  | n, k, .tup xs, .non, _, _ => by simp [pyT, PyData.eqv, eqT]
  | n, k, .tup xs, .bl _, _, _ => by simp [pyT, PyData.eqv, eqT]
  | n, k, .tup xs, .int _, _, _ => by simp [pyT, PyData.eqv, eqT]
  | n, k, .tup xs, .str _, _, _ => by simp [pyT, PyData.eqv, eqT]
  | n, k, .tup xs, .lst _, _, _ => by simp [pyT, PyData.eqv, eqT]
  | n, k, .lst xs, .non, _, _ => by simp [pyT, PyData.eqv, eqT]
  | n, k, .lst xs, .bl _, _, _ => by simp [pyT, PyData.eqv, eqT]
  | n, k, .lst xs, .int _, _, _ => by simp [pyT, PyData.eqv, eqT]
  | n, k, .lst xs, .str _, _, _ => by simp [pyT, PyData.eqv, eqT]
  | n, k, .lst xs, .tup _, _, _ => by simp [pyT, PyData.eqv, eqT]
  | n, k, x, .dct _ _, _, h2 => by cases k <;> simp [deepT] at h2
  | n, k, x, .scr _, _, h2 => by cases k <;> simp [deepT] at h2
  | n, k, .dct _ _, y, h1, _ => by cases n <;> simp [deepT] at h1
  | n, k, .scr _, y, h1, _ => by cases n <;> simp [deepT] at h1
theorem py_eqvs : ∀ (n k : Nat) (xs ys : List T), deepTs n xs = true → deepTs k ys = true → PyData.eqvAll (pyTs xs) (pyTs ys) = eqTs xs ys
  | n, k, [], [], _, _ => by rw [pyTs, PyData.eqvAll, eqTs]
  | n, k, [], _ :: _, _, _ => by rw [pyTs, pyTs, PyData.eqvAll, eqTs] <;> simp
  | n, k, _ :: _, [], _, _ => by rw [pyTs, pyTs, PyData.eqvAll, eqTs] <;> simp
  | n, k, x :: xs, y :: ys, h1, h2 => by
    rw [deepTs, Bool.and_eq_true] at h1 h2
    rw [pyTs, pyTs, PyData.eqvAll, eqTs, py_eqv n k x y h1.1 h2.1, py_eqvs n k xs ys h1.2 h2.2]
end
theorem reads_all {pins : List (Addr × Obj)} {σ : L2.St} {s : Shared} (I : Inv X pins σ H s) : ∀ {ts : List T} {vs : List V} {us : List Value}, ts.length = vs.length → (∀ (i : Nat) t v u, ts[i]? = some t → vs[i]? = some v → RelV v u → ∃ as, Reads s.heap u (pyT t) as) → Vals vs us → ∃ as, ReadsAll s.heap us (pyTs ts) as
  | [], [], _, _, _, .nil => ⟨_, by rw [pyTs]; exact .nil⟩
  | t :: ts, v :: vs, _, hl, h, .cons r rs => by
    obtain ⟨as, h1⟩ := h 0 t v _ rfl rfl r
    obtain ⟨bs, h2⟩ := reads_all I (ts := ts) (vs := vs) (by simpa using hl) (fun i t v u a b c => h (i + 1) t v u (by simpa using a) (by simpa using b) c) rs
    exact ⟨_, by rw [pyTs]; exact .cons h1 h2⟩
  | [], _ :: _, _, hl, _, _ => by simp at hl
  | _ :: _, [], _, hl, _, _ => by simp at hl
theorem RT.reads {pins : List (Addr × Obj)} {σ : L2.St} {s : Shared} {K : PySem.W.Frag} (hK : X.K = K) (I : Inv X pins σ H s) {t : T} {v : V} (h : RT K cm m H t v) : ∀ {n : Nat} {u : Value}, deepT n t = true → RelV v u → ∃ as, Reads s.heap u (pyT t) as := by
  subst hK
  induction h with
  | non => intro n u _ r; cases r; exact ⟨[], by simp only [pyT]; exact .none⟩
  | bl b => intro n u _ r; cases r; exact ⟨_, by rw [pyT]; exact .bool b⟩
  | int i => intro n u _ r; obtain ⟨t, rfl⟩ := r; exact ⟨_, by rw [pyT]; exact .int i t⟩
  | str cs => intro n u _ r; obtain ⟨t, rfl⟩ := r; exact ⟨_, by rw [pyT]; exact .str _ t⟩
  | @tup a ts vs h1 h2 h3 ih =>
    intro n u hd r
    cases n with
    | zero => simp [deepT] at hd
    | succ n =>
      rw [deepT] at hd
      cases r
      obtain ⟨its, rv, ⟨o, ho, hc, k, hdt⟩, hz⟩ := I.tuple h1
      have hall : ∀ (i : Nat) t, ts[i]? = some t → deepT n t = true := fun i t e => by
        have : ∀ {l : List T}, deepTs n l = true → ∀ x ∈ l, deepT n x = true := fun {l} => by
          induction l with
          | nil => intro _ x hx; cases hx
          | cons y l ih => intro h x hx; rw [deepTs, Bool.and_eq_true] at h; rcases List.mem_cons.mp hx with rfl | hx; exact h.1; exact ih h.2 x hx
        exact this hd t (List.mem_of_getElem? e)
      obtain ⟨as, hr⟩ := reads_all I h2 (fun i t v u e1 e2 r => ih i t v e1 e2 (hall i t e1) r) rv
      exact ⟨_, by rw [pyT]; exact .tuple ho hc hdt (by simpa using hr)⟩
  | @lst a ts vs h1 h2 h3 h4 ih =>
    intro n u hd r
    cases n with
    | zero => simp [deepT] at hd
    | succ n =>
      rw [deepT] at hd
      cases r
      obtain ⟨its, k, rv, ho, hz⟩ := I.lst h1
      have hall : ∀ (i : Nat) t, ts[i]? = some t → deepT n t = true := fun i t e => by
        have : ∀ {l : List T}, deepTs n l = true → ∀ x ∈ l, deepT n x = true := fun {l} => by
          induction l with
          | nil => intro _ x hx; cases hx
          | cons y l ih => intro h x hx; rw [deepTs, Bool.and_eq_true] at h; rcases List.mem_cons.mp hx with rfl | hx; exact h.1; exact ih h.2 x hx
        exact this hd t (List.mem_of_getElem? e)
      obtain ⟨as, hr⟩ := reads_all I h3 (fun i t v u e1 e2 r => ih i t v e1 e2 (hall i t e1) r) rv
      exact ⟨_, by rw [pyT]; exact .list ho rfl rfl (by simpa using hr)⟩
  | dct _ _ _ _ _ _ => intro n u hd _; cases n <;> simp [deepT] at hd
  | scr _ _ => intro n u hd _; cases n <;> simp [deepT] at hd
theorem view_reads {pins : List (Addr × Obj)} {σ : L2.St} {s : Shared} (I : Inv X pins σ H s) (M : MemR X.K cm m H) {w : W} {t : T} {v : V} {u : Value} (r : RW X.K cm m H w v) (e : view w m = some t) (rv : RelV v u) {n : Nat} (hd : deepT n t = true) : ∃ as, Reads s.heap u (pyT t) as := by
  cases t with
  | lst ts =>
    cases n with
    | zero => simp [deepT] at hd
    | succ n =>
      rw [deepT] at hd
      obtain ⟨a, vs, rfl, h1, rr⟩ := view_lst M r e
      cases rv
      obtain ⟨its, k, rv, ho, hz⟩ := I.lst h1
      obtain ⟨as, hr⟩ := reads_all I rr.length (fun i t v u e1 e2 r => RT.reads rfl I (paired_at rr i t v e1 e2) (n := n) (by
        have : ∀ {l : List T}, deepTs n l = true → ∀ x ∈ l, deepT n x = true := fun {l} => by
          induction l with
          | nil => intro _ x hx; cases hx
          | cons y l ih => intro h x hx; rw [deepTs, Bool.and_eq_true] at h; rcases List.mem_cons.mp hx with rfl | hx; exact h.1; exact ih h.2 x hx
        exact this hd t (List.mem_of_getElem? e1)) r) rv
      exact ⟨_, by rw [pyT]; exact .list ho rfl rfl (by simpa using hr)⟩
  | _ => exact RT.reads rfl I (view_t r e (fun _ z => by cases z)) hd rv
theorem op_cmp_eq (hu : X.A.units + 64 < cLine) : OpR X (compareOp .Eq) (r2 X.K xr (fCmp .Eq)) := by
  rintro pins s σ H x y v u Q I rx ry ⟨cm, m, a, b, M, ra, rb, ho⟩
  obtain ⟨ta, tb, c, ea, eb, e, ho⟩ := cmp_ok ho
  rw [cmpT_eq] at e
  split at e <;> cases e
  rename_i hs
  rw [Bool.or_eq_true] at hs
  rcases hs with hs | hs
  · obtain ⟨f1, f2, f3, f4⟩ := scal_fl hs
    cases flat_view ra ea f1
    cases flat_view rb eb f2
    exact op_eq pins s σ H _ _ v u Q I rx ry ⟨f3, by rw [f4]; exact ans ho M (.bl _)⟩
  · rw [Bool.and_eq_true] at hs
    obtain ⟨as, ha⟩ := view_reads I M ra ea rx hs.1
    obtain ⟨bs, hb⟩ := view_reads I M rb eb ry hs.2
    have d1 := py_lay 60 ta hs.1
    have d2 := py_lay 60 tb hs.2
    refine SeqAt.compareEq_reads ha hb d1.1 d2.1 (by omega) ⟨.bl (eqT ta tb), H, I, ?_, ans ho M (.bl _)⟩
    rw [py_eqv 60 60 ta tb hs.1 hs.2]
    rfl
theorem op_cmp_ne (hu : X.A.units + 64 < cLine) : OpR X (compareOp .NotEq) (r2 X.K xr (fCmp .NotEq)) := by
  rintro pins s σ H x y v u Q I rx ry ⟨cm, m, a, b, M, ra, rb, ho⟩
  obtain ⟨ta, tb, c, ea, eb, e, ho⟩ := cmp_ok ho
  rw [cmpT_ne] at e
  split at e <;> cases e
  rename_i hs
  rw [Bool.or_eq_true] at hs
  rcases hs with hs | hs
  · obtain ⟨f1, f2, f3, f4⟩ := scal_fl hs
    cases flat_view ra ea f1
    cases flat_view rb eb f2
    exact op_ne pins s σ H _ _ v u Q I rx ry ⟨f3, by rw [f4]; exact ans ho M (.bl _)⟩
  · rw [Bool.and_eq_true] at hs
    obtain ⟨as, ha⟩ := view_reads I M ra ea rx hs.1
    obtain ⟨bs, hb⟩ := view_reads I M rb eb ry hs.2
    have d1 := py_lay 60 ta hs.1
    have d2 := py_lay 60 tb hs.2
    refine SeqAt.compareNe_reads ha hb d1.1 d2.1 (by omega) ⟨.bl (!eqT ta tb), H, I, ?_, ans ho M (.bl _)⟩
    rw [py_eqv 60 60 ta tb hs.1 hs.2]
    rfl
theorem nlt_lt : ∀ a b : List Nat, nlt a b = decide (a < b)
  | [], [] => by simp [nlt]
  | [], _ :: _ => by simp [nlt]
  | _ :: _, [] => by simp [nlt]
  | a :: x, b :: y => by
    unfold nlt
    rw [nlt_lt x y]
    by_cases h : a < b
    · rw [if_pos h]
      exact (decide_eq_true (List.cons_lt_cons_iff.mpr (.inl h))).symm
    · rw [if_neg h]
      by_cases h2 : b < a
      · rw [if_pos h2]
        refine (decide_eq_false fun z => ?_).symm
        rcases List.cons_lt_cons_iff.mp z with z | ⟨z, _⟩ <;> omega
      · rw [if_neg h2]
        have e : a = b := by omega
        subst e
        simp
theorem op_cmp_lt : OpR X (compareOp .Lt) (r2 X.K xr (fCmp .Lt)) := by
  rintro pins s σ H x y v u Q I rx ry ⟨cm, m, a, b, M, ra, rb, ho⟩
  obtain ⟨ta, tb, c, ea, eb, e, ho⟩ := cmp_ok ho
  change ltT ta tb = some c at e
  cases ta with
  | int i => cases tb with
    | int j =>
      cases e
      cases (view_t ra ea (fun _ z => by cases z)).vint
      cases (view_t rb eb (fun _ z => by cases z)).vint
      exact op_lt pins s σ H _ _ v u Q I rx ry ⟨_, _, rfl, rfl, ans ho M (.bl _)⟩
    | _ => cases e
  | str i => cases tb with
    | str j =>
      cases e
      cases (view_t ra ea (fun _ z => by cases z)).vstr
      cases (view_t rb eb (fun _ z => by cases z)).vstr
      refine op_lt_str pins s σ H _ _ v u Q I rx ry ⟨_, _, rfl, rfl, ?_⟩
      have := ans ho M (.bl _)
      rw [nlt_lt] at this
      exact this
    | _ => cases e
  | _ => cases e
theorem op_cmp_le : OpR X (compareOp .LtE) (r2 X.K xr (fCmp .LtE)) := by
  rintro pins s σ H x y v u Q I rx ry ⟨cm, m, a, b, M, ra, rb, ho⟩
  obtain ⟨ta, tb, c, ea, eb, e, ho⟩ := cmp_ok ho
  obtain ⟨i, j, rfl, rfl, rfl⟩ := icmpT_some e
  cases (view_t ra ea (fun _ z => by cases z)).vint
  cases (view_t rb eb (fun _ z => by cases z)).vint
  exact op_le pins s σ H _ _ v u Q I rx ry ⟨_, _, rfl, rfl, ans ho M (.bl _)⟩
theorem op_cmp_gt : OpR X (compareOp .Gt) (r2 X.K xr (fCmp .Gt)) := by
  rintro pins s σ H x y v u Q I rx ry ⟨cm, m, a, b, M, ra, rb, ho⟩
  obtain ⟨ta, tb, c, ea, eb, e, ho⟩ := cmp_ok ho
  obtain ⟨i, j, rfl, rfl, rfl⟩ := icmpT_some e
  cases (view_t ra ea (fun _ z => by cases z)).vint
  cases (view_t rb eb (fun _ z => by cases z)).vint
  exact op_gt pins s σ H _ _ v u Q I rx ry ⟨_, _, rfl, rfl, ans ho M (.bl _)⟩
theorem op_cmp_ge : OpR X (compareOp .GtE) (r2 X.K xr (fCmp .GtE)) := by
  rintro pins s σ H x y v u Q I rx ry ⟨cm, m, a, b, M, ra, rb, ho⟩
  obtain ⟨ta, tb, c, ea, eb, e, ho⟩ := cmp_ok ho
  obtain ⟨i, j, rfl, rfl, rfl⟩ := icmpT_some e
  cases (view_t ra ea (fun _ z => by cases z)).vint
  cases (view_t rb eb (fun _ z => by cases z)).vint
  exact op_ge pins s σ H _ _ v u Q I rx ry ⟨_, _, rfl, rfl, ans ho M (.bl _)⟩
theorem eqV_strs {a b : List Nat} : eqV (.str ⟨a.toArray⟩) (.str ⟨b.toArray⟩) = (a == b) := by
  show ((⟨a.toArray⟩ : Str) == ⟨b.toArray⟩) = (a == b)
  by_cases h : a = b
  · subst h; simp
  · rw [beq_eq_false_iff_ne.mpr h, beq_eq_false_iff_ne.mpr fun z => h (str_inj.mp z)]
theorem fl_eqV {x y : T} (f : flat x = true) (g : flat y = true) : eqV (flV y) (flV x) = eqT y x := by
  cases x <;> cases y <;> first
    | (cases f; done)
    | (cases g; done)
    | (unfold eqT; exact eqV_strs)
    | (unfold eqT; rfl)
theorem RTs.fl {ts : List T} {vs : List V} (h : RTs K cm m H ts vs) (f : ts.all flat = true) : vs = ts.map flV ∧ vs.all flatV = true := by
  induction h with
  | nil => exact ⟨rfl, rfl⟩
  | @cons t v _ _ r _ ih =>
    rw [List.all_cons, Bool.and_eq_true] at f
    obtain ⟨h1, h2⟩ := ih f.2
    have h3 := r.fl f.1
    subst h3
    refine ⟨by rw [List.map_cons, h1], ?_⟩
    rw [List.all_cons, h2, Bool.and_true]
    cases t <;> first | rfl | (cases f.1)
theorem any_fl {x : T} (f : flat x = true) : ∀ {ts : List T}, ts.all flat = true → inV (flV x) (ts.map flV) = ts.any fun t => eqT t x
  | [], _ => rfl
  | t :: ts, g => by
    rw [List.all_cons, Bool.and_eq_true] at g
    have ih := any_fl f g.2
    unfold inV at ih ⊢
    rw [List.map_cons, List.any_cons, List.any_cons, ih, fl_eqV f g.1]
theorem flatV_of {x : T} (f : flat x = true) : flatV (flV x) = true := by cases x <;> first | rfl | cases f
end
end Mi
end
section
set_option linter.all false
set_option maxRecDepth 100000
namespace Mi
open PySem PySem.Spec PyProof.Rows L2
section
variable {K : PySem.W.Frag} {cm : List Addr} {m : Mem} {H : Hp} {xr : XR} {X : Cx}
theorem found1 (b : List Nat) (a : Nat) : (!(Builtin.Str.occurrences ⟨b.toArray⟩ ⟨#[a]⟩ 0 (⟨b.toArray⟩ : Str).length 1).isEmpty) = decide (a ∈ b) := by
  have := PySem.StrLaws.found_one (⟨b.toArray⟩ : Str) a
  simpa using this
theorem cmpT_in_cases {x y : T} {c : Bool} (e : cmpT .In x y = some c) : (∃ a b, x = .str [a] ∧ y = .str b ∧ c = decide (a ∈ b)) ∨ (flat x = true ∧ ∃ ts, (y = .tup ts ∨ y = .lst ts) ∧ ts.all flat = true ∧ c = ts.any fun t => eqT t x) := by
  have hh : ∀ {x y : T} {c : Bool}, hasT x y = some c → flat x = true ∧ ∃ ts, (y = .tup ts ∨ y = .lst ts) ∧ ts.all flat = true ∧ c = ts.any fun t => eqT t x := by
    intro x y c e
    unfold hasT at e
    split at e
    · split at e <;> cases e
      rename_i h
      rw [Bool.and_eq_true] at h
      exact ⟨h.1, _, .inl rfl, h.2, rfl⟩
    · split at e <;> cases e
      rename_i h
      rw [Bool.and_eq_true] at h
      exact ⟨h.1, _, .inr rfl, h.2, rfl⟩
    · cases e
  cases x with
  | str cs =>
    cases cs with
    | nil => cases y <;> exact .inr (hh e)
    | cons a r =>
      cases r with
      | nil =>
        cases y with
        | str b => cases e; exact .inl ⟨a, b, rfl, rfl, rfl⟩
        | _ => exact .inr (hh e)
      | cons _ _ => cases y <;> exact .inr (hh e)
  | _ => cases y <;> exact .inr (hh e)
theorem cmpT_notin (x y : T) : cmpT .NotIn x y = (cmpT .In x y).map (!·) := by
  cases x with
  | str cs =>
    cases cs with
    | nil => cases y <;> rfl
    | cons a r => cases r <;> cases y <;> rfl
  | _ => cases y <;> rfl
theorem op_cmp_in : OpR X (compareOp .In) (r2 X.K xr (fCmp .In)) := by
  rintro pins s σ H x y v u Q I rx ry ⟨cm, m, a, b, M, ra, rb, ho⟩
  obtain ⟨ta, tb, c, ea, eb, e, ho⟩ := cmp_ok ho
  rcases cmpT_in_cases e with ⟨p, q, rfl, rfl, rfl⟩ | ⟨f, ts, hy, g, rfl⟩
  · cases (view_t ra ea (fun _ z => by cases z)).vstr
    cases (view_t rb eb (fun _ z => by cases z)).vstr
    exact op_in_str pins s σ H _ _ v u Q I rx ry ⟨_, _, rfl, rfl, by rw [found1]; exact ans ho M (.bl _)⟩
  · cases flat_view ra ea f
    have fin : ∀ {vs : List V}, RTs X.K cm m H ts vs → vs = ts.map flV ∧ vs.all flatV = true ∧ Q (.bl (inV (flV ta) vs)) H := fun r => by
      obtain ⟨h1, h2⟩ := RTs.fl r g
      exact ⟨h1, h2, by rw [h1, any_fl f g]; exact ans ho M (.bl _)⟩
    rcases hy with rfl | rfl
    · obtain ⟨p, vs, rfl, h1, r⟩ := (view_t rb eb (fun _ z => by cases z)).itup
      obtain ⟨_, f2, f3⟩ := fin r
      exact op_in_seq pins s σ H _ _ v u Q I rx ry ⟨p, vs, rfl, .inr h1, flatV_of f, f2, f3⟩
    · obtain ⟨p, vs, rfl, h1, r⟩ := view_lst M rb eb
      obtain ⟨_, f2, f3⟩ := fin r
      exact op_in_seq pins s σ H _ _ v u Q I rx ry ⟨p, vs, rfl, .inl (.of h1), flatV_of f, f2, f3⟩
theorem op_cmp_notin : OpR X (compareOp .NotIn) (r2 X.K xr (fCmp .NotIn)) := by
  rintro pins s σ H x y v u Q I rx ry ⟨cm, m, a, b, M, ra, rb, ho⟩
  obtain ⟨ta, tb, c', ea, eb, e, ho⟩ := cmp_ok ho
  rw [cmpT_notin] at e
  cases e2 : cmpT .In ta tb with
  | none => rw [e2] at e; cases e
  | some c =>
  rw [e2] at e; cases e
  rcases cmpT_in_cases e2 with ⟨p, q, rfl, rfl, rfl⟩ | ⟨f, ts, hy, g, rfl⟩
  · cases (view_t ra ea (fun _ z => by cases z)).vstr
    cases (view_t rb eb (fun _ z => by cases z)).vstr
    exact op_notin_str pins s σ H _ _ v u Q I rx ry ⟨_, _, rfl, rfl, by rw [found1]; exact ans ho M (.bl _)⟩
  · cases flat_view ra ea f
    have fin : ∀ {vs : List V}, RTs X.K cm m H ts vs → vs = ts.map flV ∧ vs.all flatV = true ∧ Q (.bl (!inV (flV ta) vs)) H := fun r => by
      obtain ⟨h1, h2⟩ := RTs.fl r g
      exact ⟨h1, h2, by rw [h1, any_fl f g]; exact ans ho M (.bl _)⟩
    rcases hy with rfl | rfl
    · obtain ⟨p, vs, rfl, h1, r⟩ := (view_t rb eb (fun _ z => by cases z)).itup
      obtain ⟨_, f2, f3⟩ := fin r
      exact op_notIn_seq pins s σ H _ _ v u Q I rx ry ⟨p, vs, rfl, .inr h1, flatV_of f, f2, f3⟩
    · obtain ⟨p, vs, rfl, h1, r⟩ := view_lst M rb eb
      obtain ⟨_, f2, f3⟩ := fin r
      exact op_notIn_seq pins s σ H _ _ v u Q I rx ry ⟨p, vs, rfl, .inl (.of h1), flatV_of f, f2, f3⟩
noncomputable def hdV : V → Option (Option Bool)
  | .non => some none
  | .bl b => some (some b)
  | _ => none
noncomputable def hdT : T → Option (Option Bool)
  | .non => some none
  | .bl b => some (some b)
  | _ => none
theorem RW.hd {w : W} {v : V} {t : T} (M : MemR K cm m H) (h : RW K cm m H w v) (e : view w m = some t) : hdV v = hdT t := by
  cases t with
  | lst ts => obtain ⟨a, vs, rfl, _⟩ := view_lst M h e; rfl
  | _ => cases view_t h e (fun _ z => by cases z) <;> rfl
theorem is_bl {prog : Program} {w : World} {A : Around} {E : Value → Shared → Prop} {s : Shared} {x : V} {v : Value} {b : Bool} {Q : Value → Shared → Prop} (rx : RelV x v) (h : Q (.bool (hdV x == some (some b))) s) :
    wpAny (model prog w) A (compareOp .Is v (.bool b)) Q E s := by
  cases x with
  | bl c =>
    cases rx
    refine wpAny_is_plain rfl ?_
    have e : ((Value.bool c) == (Value.bool b)) = (hdV (.bl c) == some (some b)) := by cases c <;> cases b <;> rfl
    rw [e]; exact h
  | non => cases rx; exact wpAny_is_other rfl (fun z => nomatch z) h
  | int i => obtain ⟨t, rfl⟩ := rx; exact wpAny_is_other rfl (fun z => nomatch z) h
  | str i => obtain ⟨t, rfl⟩ := rx; exact wpAny_is_other rfl (fun z => nomatch z) h
  | byt i => obtain ⟨t, rfl⟩ := rx; exact wpAny_is_other rfl (fun z => nomatch z) h
  | flt i => obtain ⟨t, rfl⟩ := rx; exact wpAny_is_other rfl (fun z => nomatch z) h
  | ref a => cases rx; exact wpAny_is_other rfl (fun z => nomatch z) h
  | ty n => cases rx; exact wpAny_is_other rfl (fun z => nomatch z) h
theorem isnot_bl {prog : Program} {w : World} {A : Around} {E : Value → Shared → Prop} {s : Shared} {x : V} {v : Value} {b : Bool} {Q : Value → Shared → Prop} (rx : RelV x v) (h : Q (.bool (!(hdV x == some (some b)))) s) :
    wpAny (model prog w) A (compareOp .IsNot v (.bool b)) Q E s := by
  cases x with
  | bl c =>
    cases rx
    refine wpAny_isNot_plain rfl ?_
    have e : ((Value.bool c) == (Value.bool b)) = (hdV (.bl c) == some (some b)) := by cases c <;> cases b <;> rfl
    rw [e]; exact h
  | non => cases rx; exact wpAny_isNot_other rfl (fun z => nomatch z) h
  | int i => obtain ⟨t, rfl⟩ := rx; exact wpAny_isNot_other rfl (fun z => nomatch z) h
  | str i => obtain ⟨t, rfl⟩ := rx; exact wpAny_isNot_other rfl (fun z => nomatch z) h
  | byt i => obtain ⟨t, rfl⟩ := rx; exact wpAny_isNot_other rfl (fun z => nomatch z) h
  | flt i => obtain ⟨t, rfl⟩ := rx; exact wpAny_isNot_other rfl (fun z => nomatch z) h
  | ref a => cases rx; exact wpAny_isNot_other rfl (fun z => nomatch z) h
  | ty n => cases rx; exact wpAny_isNot_other rfl (fun z => nomatch z) h
theorem cmpT_is {x y : T} {c : Bool} (e : cmpT .Is x y = some c) : (y = .non ∧ c = (hdT x == some none)) ∨ ∃ b, y = .bl b ∧ c = (hdT x == some (some b)) := by
  cases y with
  | non => cases x <;> (cases e; exact .inl ⟨rfl, rfl⟩)
  | bl b =>
    refine .inr ⟨b, rfl, ?_⟩
    cases x with
    | bl a => cases e; cases a <;> cases b <;> rfl
    | _ => cases e; rfl
  | _ => cases x <;> cases e
theorem cmpT_isnot (x y : T) : cmpT .IsNot x y = (cmpT .Is x y).map (!·) := by
  cases y with
  | non => cases x <;> rfl
  | bl b => cases x <;> first | rfl | (rename_i a; cases a <;> cases b <;> rfl)
  | _ => cases x <;> rfl
theorem hd_non {x : V} : decide (x = .non) = (hdV x == some none) := by cases x <;> first | rfl | exact decide_eq_true rfl | exact decide_eq_false (fun z => nomatch z)
theorem op_cmp_is : OpR X (compareOp .Is) (r2 X.K xr (fCmp .Is)) := by
  rintro pins s σ H x y v u Q I rx ry ⟨cm, m, a, b, M, ra, rb, ho⟩
  obtain ⟨ta, tb, c, ea, eb, e, ho⟩ := cmp_ok ho
  have hx := RW.hd M ra ea
  rcases cmpT_is e with ⟨rfl, rfl⟩ | ⟨k, rfl, rfl⟩
  · cases (view_t rb eb (fun _ z => by cases z)).vnon
    refine op_isN pins s σ H _ _ v u Q I rx ry ⟨rfl, ?_⟩
    rw [hd_non, hx]
    exact ans ho M (.bl _)
  · cases (view_t rb eb (fun _ z => by cases z)).vbl
    cases ry
    refine is_bl rx ⟨.bl _, H, I, rfl, ?_⟩
    rw [hx]
    exact ans ho M (.bl _)
theorem op_cmp_isnot : OpR X (compareOp .IsNot) (r2 X.K xr (fCmp .IsNot)) := by
  rintro pins s σ H x y v u Q I rx ry ⟨cm, m, a, b, M, ra, rb, ho⟩
  obtain ⟨ta, tb, c', ea, eb, e, ho⟩ := cmp_ok ho
  have hx := RW.hd M ra ea
  rw [cmpT_isnot] at e
  cases e2 : cmpT .Is ta tb with
  | none => rw [e2] at e; cases e
  | some c =>
  rw [e2] at e; cases e
  rcases cmpT_is e2 with ⟨rfl, rfl⟩ | ⟨k, rfl, rfl⟩
  · cases (view_t rb eb (fun _ z => by cases z)).vnon
    refine op_notN pins s σ H _ _ v u Q I rx ry ⟨rfl, ?_⟩
    rw [hd_non, hx]
    exact ans ho M (.bl _)
  · cases (view_t rb eb (fun _ z => by cases z)).vbl
    cases ry
    refine isnot_bl rx ⟨.bl _, H, I, rfl, ?_⟩
    rw [hx]
    exact ans ho M (.bl _)
theorem op_cmp (hu : X.A.units + 64 < cLine) : ∀ op : CmpOp, OpR X (compareOp op) (r2 X.K xr (fCmp op))
  | .Eq => op_cmp_eq hu
  | .NotEq => op_cmp_ne hu
  | .Lt => op_cmp_lt
  | .LtE => op_cmp_le
  | .Gt => op_cmp_gt
  | .GtE => op_cmp_ge
  | .Is => op_cmp_is
  | .IsNot => op_cmp_isnot
  | .In => op_cmp_in
  | .NotIn => op_cmp_notin
noncomputable def fIx (x y : W) (m : Mem) : Res W := pur ((view x m).bind fun x => (view y m).bind fun y => ixT x y) m
theorem ixOf_eq (n : Nat) (i : Int) : ixOf n i = ixN n i := rfl
theorem atI_paired {α β : Type} {F : α → β → Prop} {xs : List α} {ys : List β} (h : Paired F xs ys) {i : Int} {x : α} (e : atT xs i = some x) : ∃ y, atI ys i = some y ∧ F x y := by
  unfold atT at e
  unfold atI
  rw [← h.length]
  cases q : ixOf xs.length i with
  | none => rw [q] at e; cases e
  | some j =>
    rw [q] at e
    rw [ixOf_eq] at q
    obtain ⟨y, e1, e2⟩ := paired_get h e
    exact ⟨y, by rw [q]; exact e1, e2⟩
theorem scr_paired (ns : List Int) : RTs K cm m H (ns.map .int) (ns.map V.int) := by
  induction ns with
  | nil => exact .nil
  | cons n ns ih => exact .cons (.int n) ih
theorem atT_map {α β : Type} (f : α → β) (xs : List α) (i : Int) : atT (xs.map f) i = (atT xs i).map f := by
  unfold atT
  rw [List.length_map]
  cases ixOf xs.length i with
  | none => rfl
  | some j => simp
theorem ix_ix : IxR X (r2 X.K xr fIx) := by
  rintro value slice pins s σ H x y v u Q I rx ry ⟨cm, m, a, b, M, ra, rb, ho⟩ hs
  obtain ⟨t, e, ho⟩ := pur_ok ho
  obtain ⟨ta, tb, ea, eb, e⟩ := bind2 e
  unfold ixT at e
  have hz := line_lim
  split at e
  · cases (view_t rb eb (fun _ z => by cases z)).vint
    obtain ⟨p, vs, rfl, h1, r⟩ := (view_t ra ea (fun _ z => by cases z)).itup
    obtain ⟨z, e1, e2⟩ := atI_paired r e
    exact ix_tup value slice pins s σ H _ _ v u Q I rx ry ⟨p, vs, _, z, rfl, rfl, h1, e1, ans ho M e2⟩ hs
  · cases (view_t rb eb (fun _ z => by cases z)).vint
    obtain ⟨p, vs, rfl, h1, r⟩ := view_lst M ra ea
    obtain ⟨z, e1, e2⟩ := atI_paired r e
    exact ix_list value slice pins s σ H _ _ v u Q I rx ry ⟨p, vs, _, z, rfl, rfl, .of h1, e1, ans ho M e2⟩ hs
  · cases (view_t rb eb (fun _ z => by cases z)).vint
    obtain ⟨p, rfl, h1⟩ := (view_t ra ea (fun _ z => by cases z)).vscr
    rw [← atT_map] at e
    obtain ⟨z, e1, e2⟩ := atI_paired (scr_paired (K := X.K) (cm := cm) (m := m) (H := H) _) e
    exact ix_list value slice pins s σ H _ _ v u Q I rx ry ⟨p, _, _, z, rfl, rfl, h1.sq, e1, ans ho M e2⟩ hs
  · split at e
    · rename_i cs k hl
      cases (view_t rb eb (fun _ z => by cases z)).vint
      cases (view_t ra ea (fun _ z => by cases z)).vstr
      cases q : atT cs k with
      | none => rw [q] at e; cases e
      | some c =>
        rw [q] at e; cases e
        exact ix_str value slice pins s σ H _ _ v u Q I rx ry ⟨_, k, c, rfl, rfl, by rw [strLen]; omega, q, ans ho M (.str [c])⟩ hs
    · cases e
  · cases e
end
end Mi
end
section
set_option linter.all false
namespace Mi
open PySem PySem.Spec PyProof.Rows L2
section
variable {P : Program} {w : World} {A : Around} {E : Value → Shared → Prop} {s : Shared}
structure Side (z TI TO i j a b : Addr) (k : Nat) (h : Heap) : Prop where
  zip : IsZip h z TI TO .none
  its : IsPair h TI (.ref i) (.ref j)
  out : ∃ p q, IsPair h TO p q
  one : h.IsTupleIter i a k
  two : h.IsTupleIter j b k
end
noncomputable def Itz (K : PySem.W.Frag) (a b : Addr) : It :=
  ⟨fun i H => ∃ xs ys x y, SqT K H a xs ∧ SqT K H b ys ∧ xs[i]? = some x ∧ ys[i]? = some y,
   fun i H v H' => ∃ x y c, (∀ xs, SqT K H a xs → xs[i]? = some x) ∧ (∀ ys, SqT K H b ys → ys[i]? = some y) ∧ H c = none ∧ v = .ref c ∧ H' = upd H c (.tup [x, y]),
   fun i H => ∃ xs, SqT K H a xs ∧ xs.length ≤ i⟩
end Mi
end
section
set_option linter.all false
set_option maxRecDepth 100000
namespace Mi
open PySem PySem.Spec PyProof.Rows L2
theorem apn (n : Nat) {a b : Nat} (h : a ≠ b) : n + a ≠ n + b := by omega
theorem apl {n l : Nat} (a : Nat) (h : l < n) : l ≠ n + a := by omega
noncomputable def It4 (n : Nat) (l : Nat → Nat) (xs : Nat → Array Value) (p : Nat → Nat) (h : Heap) : Prop := ∀ j : Nat, j < 4 → h.IsListIter (n + j) (l j) (p j) ∧ h.IsList (l j) (xs j) ∧ l j < n
theorem It4.but {n : Nat} {l : Nat → Nat} {xs : Nat → Array Value} {p : Nat → Nat} {h g : Heap} {c : Nat} (J : It4 n l xs p h) (sb : Heap.SameBut (n + c) h g) (hc : 4 ≤ c) : It4 n l xs p g := by
  intro j hj
  obtain ⟨a, b, c'⟩ := J j hj
  have hne : j ≠ c := by omega
  exact ⟨a.extBut sb.extBut (apn n hne), b.extBut sb.extBut (apl _ c'), c'⟩
theorem It4.push {n : Nat} {l : Nat → Nat} {xs : Nat → Array Value} {p : Nat → Nat} {h : Heap} (J : It4 n l xs p h) (o : Obj) : It4 n l xs p (h.push o) := fun j hj =>
  let ⟨a, b, c'⟩ := J j hj
  ⟨a.at fun o' e => Heap.get?_push_of_some _ e, b.push _, c'⟩
noncomputable abbrev IsZ (h : Heap) (n : Nat) (f0 : Value) (f1 : Bool) : Prop :=
  h.get? (n + 6) = some { cls := .type "zip", dict := none, data := .fields #[f0, .bool f1, .bool false, .ref (n + 4), .ref (n + 5)], slots := #[] }
noncomputable abbrev IsQ (h : Heap) (t : Nat) (a b c d : Value) : Prop := h.get? t = some { cls := .type "tuple", data := .seq #[a, b, c, d] }
section
variable {P : Program} {w : World} {A : Around} {E : Value → Shared → Prop} {s : Shared} {n : Nat} {l : Nat → Nat} {xs : Nat → Array Value} {p : Nat → Nat}
noncomputable def Free (h : Heap) (n : Nat) : Prop := ∃ f1, IsZ h n .none f1 ∨ ∃ a : Nat, IsZ h n (rawInt a) f1
structure Sd (n : Nat) (l : Nat → Nat) (k : Nat) (h : Heap) : Prop where
  zip : Free h n
  its : IsQ h (n + 4) (.ref (n + 0)) (.ref (n + 1)) (.ref (n + 2)) (.ref (n + 3))
  out : ∃ a b c d, IsQ h (n + 5) a b c d
  pos : ∀ j : Nat, j < 4 → h.IsListIter (n + j) (l j) k ∧ l j < n
noncomputable def Kp (n : Nat) (h g : Heap) : Prop := g.objs.size = h.objs.size ∧ ∀ c o, (c < n ∨ n + 7 ≤ c) → h.get? c = some o → g.get? c = some o
theorem Kp.refl (n : Nat) (h : Heap) : Kp n h h := ⟨rfl, fun _ _ _ e => e⟩
theorem Kp.step {n j : Nat} {h g g' : Heap} (k : Kp n h g) (sb : Heap.SameBut (n + j) g g') (hj : j < 7) : Kp n h g' := by
  refine ⟨sb.1.trans k.1, fun c o hc e => sb.extBut _ _ ?_ (k.2 c o hc e)⟩
  intro h
  subst h
  omega
end
noncomputable abbrev fp4 (n : Nat) : List Addr := [n + 6, n + 4, n + 5, n + 0, n + 1, n + 2, n + 3]
theorem Sd.at' {n : Nat} {l : Nat → Nat} {k : Nat} {h : Heap} (S : Sd n l k h) : ∀ c ∈ fp4 n, ∃ o, h.get? c = some o ∧ ∀ v, o.data ≠ .cell v := by
  obtain ⟨hz, hI, ⟨a, b, c', d, hO⟩, hp⟩ := S
  have hit : ∀ j : Nat, j < 4 → ∃ o, h.get? (n + j) = some o ∧ ∀ v, o.data ≠ .cell v := fun j hj => by
    obtain ⟨⟨o, e, _, dd⟩, _⟩ := hp j hj
    exact ⟨o, e, fun v y => by rw [dd] at y; cases y⟩
  intro c hc
  simp only [fp4, List.mem_cons, List.not_mem_nil, or_false] at hc
  rcases hc with rfl | rfl | rfl | rfl | rfl | rfl | rfl
  · obtain ⟨f1, hz | ⟨a, hz⟩⟩ := hz
    · exact ⟨_, hz, fun v y => by cases (show Data.fields _ = Data.cell v from y)⟩
    · exact ⟨_, hz, fun v y => by cases (show Data.fields _ = Data.cell v from y)⟩
  · exact ⟨_, hI, fun v y => by cases (show Data.seq _ _ = Data.cell v from y)⟩
  · exact ⟨_, hO, fun v y => by cases (show Data.seq _ _ = Data.cell v from y)⟩
  · exact hit 0 (by decide)
  · exact hit 1 (by decide)
  · exact hit 2 (by decide)
  · exact hit 3 (by decide)
theorem Sd.keep {n : Nat} {l : Nat → Nat} {k : Nat} {h h' : Heap} (S : Sd n l k h) (f : ∀ b ∈ fp4 n, ∀ o, h.get? b = some o → h'.get? b = some o) : Sd n l k h' := by
  obtain ⟨hz, hI, ⟨a, b, c', d, hO⟩, hp⟩ := S
  refine ⟨?_, f _ (by simp [fp4]) _ hI, ⟨a, b, c', d, f _ (by simp [fp4]) _ hO⟩, fun j hj => ⟨(hp j hj).1.at fun o e => f _ ?_ o e, (hp j hj).2⟩⟩
  · obtain ⟨f1, hz | ⟨a, hz⟩⟩ := hz
    · exact ⟨f1, .inl (f _ (by simp [fp4]) _ hz)⟩
    · exact ⟨f1, .inr ⟨a, f _ (by simp [fp4]) _ hz⟩⟩
  · match j, hj with
    | 0, _ => simp [fp4]
    | 1, _ => simp [fp4]
    | 2, _ => simp [fp4]
    | 3, _ => simp [fp4]
noncomputable def Itz4 (K : PySem.W.Frag) (l : Nat → Nat) : It :=
  ⟨fun i H => ∃ (xs : Nat → List V) (x : Nat → V), ∀ j : Nat, j < 4 → SqL K H (l j) (xs j) ∧ (xs j)[i]? = some (x j),
   fun i H v H' => ∃ (x : Nat → V) (c : Addr), (∀ j : Nat, j < 4 → ∀ ys, SqL K H (l j) ys → ys[i]? = some (x j)) ∧ H c = none ∧ v = .ref c ∧ H' = upd H c (.tup [x 0, x 1, x 2, x 3]),
   fun i H => ∃ xs, SqL K H (l 0) xs ∧ xs.length ≤ i⟩
noncomputable def pick4 {α : Type} (a b c d : α) : Nat → α
  | 0 => a
  | 1 => b
  | 2 => c
  | _ => d
theorem all4 {Q : Nat → Prop} (h0 : Q 0) (h1 : Q 1) (h2 : Q 2) (h3 : Q 3) : ∀ j : Nat, j < 4 → Q j
  | 0, _ => h0
  | 1, _ => h1
  | 2, _ => h2
  | 3, _ => h3
end Mi
end
section
set_option linter.all false
namespace Mi
open PySem PySem.Spec PyProof.Rows L2
noncomputable def Ite (K : PySem.W.Frag) (l : Addr) : It :=
  ⟨fun i H => ∃ xs x, SqL K H l xs ∧ xs[i]? = some x,
   fun i H v H' => ∃ x c, (∀ xs, SqL K H l xs → xs[i]? = some x) ∧ H c = none ∧ v = .ref c ∧ H' = upd H c (.tup [.int (i : Int), x]),
   fun i H => ∃ xs, SqL K H l xs ∧ xs.length ≤ i⟩
end Mi
end
section
set_option linter.all false
set_option maxRecDepth 100000
namespace Mi
open PySem PySem.Spec PyProof.Rows L2
noncomputable def Its (cs : List Nat) : It := ⟨fun i _ => i < cs.length, fun i H x H' => H' = H ∧ ∃ c, cs[i]? = some c ∧ x = .str ⟨#[c]⟩, fun i _ => cs.length ≤ i⟩
theorem turn_str {P : Program} {w : World} {K : PySem.W.Frag} {tg : Expr} {cs : List Nat} {it : Addr} {cl : String} {t : Tok}
    (hcl : ["enumerate", "zip", "dict_itemiterator", "dict_reverseitemiterator", "odict_iterator", "itertools.zip_longest", "itertools.pairwise"].contains cl = false)
    (hself : ∀ (A : Around) (i : Nat) (s : Shared) (Q : Value → Shared → Prop) (E : Value → Shared → Prop), s.heap.IsStrIter it cl ⟨cs.toArray⟩ t i → Q (.ref it) s → wpAny (model P w) A (pyIter (.ref it)) Q E s)
    (W : ∀ A' : Around, A'.handled = none → Walks P w A' it [it] [it] cs.length (SignAt ⟨cs.toArray⟩) (fun i h => h.IsStrIter it cl ⟨cs.toArray⟩ t i)) : Turn P w K tg (Its cs) [it] it (fun i h => h.IsStrIter it cl ⟨cs.toArray⟩ t i ∧ i ≤ cs.length) where
  mem := by simp
  obj := fun i h st b hb => by
    have e : b = it := by simpa using hb
    subst e
    obtain ⟨⟨o, e, c, d⟩, _⟩ := st
    exact ⟨o, e, fun v z => by rw [d] at z; cases z⟩
  keep := fun i h h' st k => ⟨let ⟨⟨o, ho, r⟩, _⟩ := st; ⟨o, k it (by simp) o ho, r⟩, st.2⟩
  item := by
    intro X hP hw hK hc i pins s σ H E I hf st hg
    subst hP hw hK
    obtain ⟨f0, f1, f2, f3, f4, f5⟩ := hf it (by simp)
    have hg' : i < cs.length := hg
    refine (W X.A (I.ok.hd hc)).item i s _ _ hg' st.1 fun v h' tk hv st' kk => ?_
    obtain ⟨c, u, hc', rfl⟩ := hv
    have I1 : Inv X pins σ H { s with heap := h', toks := tk } := I.turned (fun b o hb e => kk b o (by simpa using hb) e) f0 f1 f3 f4 f5
    obtain ⟨o, e, cc, d⟩ := id st'
    refine ⟨_, rfl, go_of (s := { s with heap := h', toks := tk }) e cc d hcl ⟨.str ⟨#[c]⟩, H, I1, ⟨u, rfl⟩, ⟨rfl, c, by simpa using hc', rfl⟩, ⟨st', by omega⟩, fun b hb => (hf b hb).1⟩⟩
  done := by
    intro X hP hw hK hc i pins s σ H E I hf st hg
    subst hP hw hK
    obtain ⟨f0, f1, f2, f3, f4, f5⟩ := hf it (by simp)
    have hg' : cs.length ≤ i := hg
    have e : i = cs.length := by have := st.2; omega
    subst e
    exact (W X.A (I.ok.hd hc)).done s _ _ st.1 fun h' tk kk => ⟨rfl, I.turned (fun b o hb e => kk b o (by simpa using hb) e) f0 f1 f3 f4 f5⟩
  self := fun A i s Q E st h => hself A i s Q E st.1 h
section
variable {K : PySem.W.Frag} {cm cm' : List Addr} {m m' : Mem} {H H' : Hp} {xr : XR} {X : Cx}
variable (K) in
inductive Src (cm : List Addr) (m : Mem) (H : Hp) : It → List T → Prop where
  | tup {a : Addr} {vs : List V} {ts : List T} : SqT K H a vs → RTs K cm m H ts vs → Src cm m H (Itt K a) ts
  | lst {a : Addr} {vs : List V} {ts : List T} : H a = some (.lst vs) → NotLive cm m a → RTs K cm m H ts vs → Src cm m H (Itl K a) ts
  | cel {a : Addr} {i : Nat} {ts : List T} : m[i]? = some (some (true, ts)) → cm[i]? = some a → Src cm m H (Itl K a) ts
  | scr {a : Addr} (ns : List Int) : ScrOk K H a ns → Src cm m H (Itl K a) (ns.map .int)
  | str (cs : List Nat) : Src cm m H (Its cs) (cs.map fun c => .str [c])
  | rng (lo : Int) (n : Nat) : Src cm m H (Itr lo n) (rangeT lo n)
  | zip {a b : Addr} {xs ys : List V} {ts us : List T} : SqT K H a xs → SqT K H b ys → RTs K cm m H ts xs → RTs K cm m H us ys → ts.length = us.length → Src cm m H (Itz K a b) (zipL ts us)
  | zip4 {l : Nat → Nat} {vs : Nat → List V} {ts : Nat → List T} : (∀ j : Nat, j < 4 → H (l j) = some (.lst (vs j)) ∧ NotLive cm m (l j) ∧ RTs K cm m H (ts j) (vs j)) → (∀ j : Nat, j < 4 → (ts 0).length = (ts j).length) → Src cm m H (Itz4 K l) (zip4L (ts 0) (ts 1) (ts 2) (ts 3))
  | enm {a : Addr} {vs : List V} {ts : List T} : H a = some (.lst vs) → NotLive cm m a → RTs K cm m H ts vs → Src cm m H (Ite K a) (enumL ts)
theorem Src.ext (x : Ext cm m H cm' m' H') (M : MemR K cm m H) (M' : MemR K cm' m' H') {J : It} {ts : List T} (h : Src K cm m H J ts) : Src K cm' m' H' J ts := by
  cases h with
  | tup h1 h2 => exact .tup (x.sqT M h1) (RTs.ext x M M' h2)
  | lst h1 h2 h3 => exact .lst (x.keep _ _ h1 h2).1 (x.keep _ _ h1 h2).2 (RTs.ext x M M' h3)
  | cel h1 h2 => exact .cel (x.lent _ _ h1) (x.pre _ _ h2)
  | scr ns h => exact .scr ns (x.scr M h)
  | str cs => exact .str cs
  | rng lo n => exact .rng lo n
  | zip h1 h2 h3 h4 h5 => exact .zip (x.sqT M h1) (x.sqT M h2) (RTs.ext x M M' h3) (RTs.ext x M M' h4) h5
  | zip4 h1 h2 => exact .zip4 (fun j hj => let ⟨a, b, c⟩ := h1 j hj; ⟨(x.keep _ _ a b).1, (x.keep _ _ a b).2, RTs.ext x M M' c⟩) h2
  | enm h1 h2 h3 => exact .enm (x.keep _ _ h1 h2).1 (x.keep _ _ h1 h2).2 (RTs.ext x M M' h3)
theorem stay (M : MemR K cm m H) (z : H' = H) {t : T} {x : V} (r : RT K cm m H t x) : Ext cm m H cm m H' ∧ MemR K cm m H' ∧ RT K cm m H' t x := by
  subst z
  exact ⟨.refl, M, r⟩
theorem zipL_get {xs ys : List T} {i : Nat} {t : T} (e : (zipL xs ys)[i]? = some t) : ∃ x y, xs[i]? = some x ∧ ys[i]? = some y ∧ t = .tup [x, y] := by
  unfold zipL at e
  rw [List.getElem?_zipWith] at e
  split at e
  · rename_i x y h1 h2
    cases e
    exact ⟨x, y, h1, h2, rfl⟩
  · cases e
theorem zip4L_get {a b c d : List T} {i : Nat} {t : T} (e : (zip4L a b c d)[i]? = some t) : ∃ x y z w, a[i]? = some x ∧ b[i]? = some y ∧ c[i]? = some z ∧ d[i]? = some w ∧ t = .tup [x, y, z, w] := by
  unfold zip4L at e
  rw [List.getElem?_map] at e
  obtain ⟨p, h1, h2⟩ := Option.map_eq_some_iff.mp e
  obtain ⟨q1, q2⟩ := List.getElem?_zip_eq_some.mp h1
  obtain ⟨q3, q4⟩ := List.getElem?_zip_eq_some.mp q2
  obtain ⟨q5, q6⟩ := List.getElem?_zip_eq_some.mp q4
  exact ⟨_, _, _, _, q1, q3, q5, q6, h2.symm⟩
theorem enumL_get {xs : List T} {i : Nat} {t : T} (e : (enumL xs)[i]? = some t) : ∃ x, xs[i]? = some x ∧ t = .tup [.int (i : Int), x] := by
  unfold enumL at e
  rw [List.getElem?_zipWith] at e
  split at e
  · rename_i k y h1 h2
    cases e
    have hi := (List.getElem?_eq_some_iff.mp h1).1
    rw [List.length_range] at hi
    rw [List.getElem?_range hi] at h1
    cases h1
    exact ⟨y, h2, rfl⟩
  · cases e
theorem enumL_length (xs : List T) : (enumL xs).length = xs.length := by
  unfold enumL
  rw [List.length_zipWith, List.length_range, Nat.min_self]
theorem Src.go (M : MemR K cm m H) {J : It} {ts : List T} (h : Src K cm m H J ts) {i : Nat} {t : T} (e : ts[i]? = some t) : J.go i H ∧ ∀ x H', J.yld i H x H' → Ext cm m H cm m H' ∧ MemR K cm m H' ∧ RT K cm m H' t x := by
  cases h with
  | tup h1 h2 =>
    obtain ⟨v, e1, e2⟩ := paired_get h2 e
    refine ⟨⟨_, v, h1, e1⟩, fun x H' ⟨z, q⟩ => stay M z ?_⟩
    have := q _ h1
    rw [e1] at this; cases this
    exact e2
  | lst h1 h2 h3 =>
    obtain ⟨v, e1, e2⟩ := paired_get h3 e
    refine ⟨⟨_, v, .of h1, e1⟩, fun x H' ⟨z, q⟩ => stay M z ?_⟩
    have := q _ (.of h1)
    rw [e1] at this; cases this
    exact e2
  | cel h1 h2 =>
    obtain ⟨b, vs, q1, q2, q3, q4⟩ := M.at' _ _ h1
    rw [h2] at q1; cases q1
    obtain ⟨v, e1, e2⟩ := paired_get q4 e
    refine ⟨⟨_, v, .of q2, e1⟩, fun x H' ⟨z, q⟩ => stay M z ?_⟩
    have := q _ (.of q2)
    rw [e1] at this; cases this
    exact e2
  | scr ns h =>
    obtain ⟨v, e1, e2⟩ := paired_get (scr_paired (K := K) (cm := cm) (m := m) (H := H) ns) e
    refine ⟨⟨_, v, h.sq, e1⟩, fun x H' ⟨z, q⟩ => stay M z ?_⟩
    have := q _ h.sq
    rw [e1] at this; cases this
    exact e2
  | str cs =>
    rw [List.getElem?_map] at e
    cases q : cs[i]? with
    | none => rw [q] at e; cases e
    | some c =>
      rw [q] at e; cases e
      refine ⟨(List.getElem?_eq_some_iff.mp q).1, fun x H' ⟨z, c', q', e'⟩ => stay M z ?_⟩
      rw [q] at q'; cases q'
      subst e'
      exact .str [c]
  | rng lo n =>
    unfold rangeT at e
    rw [List.getElem?_map] at e
    cases q : (List.range n)[i]? with
    | none => rw [q] at e; cases e
    | some k =>
      rw [q] at e; cases e
      have hi := (List.getElem?_eq_some_iff.mp q).1
      rw [List.length_range] at hi
      rw [List.getElem?_range hi] at q
      cases q
      exact ⟨hi, fun x H' ⟨z, e'⟩ => stay M z (by subst e'; exact .int _)⟩
  | zip h1 h2 h3 h4 h5 =>
    obtain ⟨x, y, hx, hy, rfl⟩ := zipL_get e
    obtain ⟨u, e1, r1⟩ := paired_get h3 hx
    obtain ⟨v, e2, r2⟩ := paired_get h4 hy
    refine ⟨⟨_, _, u, v, h1, h2, e1, e2⟩, ?_⟩
    rintro x' H' ⟨u', v', c, q1, q2, hc, rfl, rfl⟩
    have z1 := q1 _ h1
    rw [e1] at z1; cases z1
    have z2 := q2 _ h2
    rw [e2] at z2; cases z2
    exact ⟨.new hc, M.new hc, RT.newTup (.cons r1 (.cons r2 .nil)) hc⟩
  | @zip4 l vs ts h1 h2 =>
    obtain ⟨x0, x1, x2, x3, e0, e1, e2, e3, rfl⟩ := zip4L_get e
    obtain ⟨q0, _, p0⟩ := h1 0 (by decide)
    obtain ⟨q1, _, p1⟩ := h1 1 (by decide)
    obtain ⟨q2, _, p2⟩ := h1 2 (by decide)
    obtain ⟨q3, _, p3⟩ := h1 3 (by decide)
    obtain ⟨u0, f0, r0⟩ := paired_get p0 e0
    obtain ⟨u1, f1, r1⟩ := paired_get p1 e1
    obtain ⟨u2, f2, r2⟩ := paired_get p2 e2
    obtain ⟨u3, f3, r3⟩ := paired_get p3 e3
    refine ⟨⟨vs, pick4 u0 u1 u2 u3, all4 ⟨.of q0, f0⟩ ⟨.of q1, f1⟩ ⟨.of q2, f2⟩ ⟨.of q3, f3⟩⟩, ?_⟩
    rintro x' H' ⟨x, c, q, hc, rfl, rfl⟩
    have z0 := q 0 (by decide) _ (.of q0)
    rw [f0] at z0
    have z1 := q 1 (by decide) _ (.of q1)
    rw [f1] at z1
    have z2 := q 2 (by decide) _ (.of q2)
    rw [f2] at z2
    have z3 := q 3 (by decide) _ (.of q3)
    rw [f3] at z3
    rw [← Option.some.inj z0, ← Option.some.inj z1, ← Option.some.inj z2, ← Option.some.inj z3]
    exact ⟨.new hc, M.new hc, RT.newTup (.cons r0 (.cons r1 (.cons r2 (.cons r3 .nil)))) hc⟩
  | enm h1 h2 h3 =>
    obtain ⟨x, hx, rfl⟩ := enumL_get e
    obtain ⟨u, e1, r1⟩ := paired_get h3 hx
    refine ⟨⟨_, u, .of h1, e1⟩, ?_⟩
    rintro x' H' ⟨u', c, q1, hc, rfl, rfl⟩
    have z1 := q1 _ (.of h1)
    rw [e1] at z1; cases z1
    exact ⟨.new hc, M.new hc, RT.newTup (.cons (.int _) (.cons r1 .nil)) hc⟩
theorem Src.stop (M : MemR K cm m H) {J : It} {ts : List T} (h : Src K cm m H J ts) {i : Nat} (e : ts[i]? = none) : J.stop i H := by
  have l := List.getElem?_eq_none_iff.mp e
  cases h with
  | tup h1 h2 => exact ⟨_, h1, by rw [← h2.length]; exact l⟩
  | lst h1 h2 h3 => exact ⟨_, .of h1, by rw [← h3.length]; exact l⟩
  | cel h1 h2 =>
    obtain ⟨b, vs, q1, q2, q3, q4⟩ := M.at' _ _ h1
    rw [h2] at q1; cases q1
    exact ⟨_, .of q2, by rw [← q4.length]; exact l⟩
  | scr ns h => exact ⟨_, h.sq, by rw [List.length_map] at l ⊢; exact l⟩
  | str cs => rw [List.length_map] at l; exact l
  | rng lo n =>
    unfold rangeT at l
    rw [List.length_map, List.length_range] at l
    exact l
  | zip h1 h2 h3 h4 h5 =>
    refine ⟨_, h1, ?_⟩
    unfold zipL at l
    rw [List.length_zipWith] at l
    rw [← h3.length]
    omega
  | @zip4 l vs ts h1 h2 =>
    obtain ⟨q0, _, p0⟩ := h1 0 (by decide)
    refine ⟨_, .of q0, ?_⟩
    have l1 := h2 1 (by decide)
    have l2 := h2 2 (by decide)
    have l3 := h2 3 (by decide)
    unfold zip4L at l
    rw [List.length_map, List.length_zip, List.length_zip, List.length_zip] at l
    rw [← p0.length]
    omega
  | enm h1 h2 h3 =>
    refine ⟨_, .of h1, ?_⟩
    rw [enumL_length] at l
    rw [← h3.length]
    exact l
variable (K) in
noncomputable def tI (call : Nat → List W → Mem → Res W) (gv : List T) (xr : XR) (it : E) : TI := fun σ H R => ∃ env cm m, EnvR K cm m H env σ ∧ MemR K cm m H ∧
  OkR K (ev call gv it env m) xr cm m H fun x cm1 m1 H1 => ∃ ts m2, borrow x m1 = .ok ts m2 ∧ ∀ J, Src K cm1 m2 H1 J ts → R J H1
theorem PI.mono {tg iter : Expr} {t t' : TI} (h : PI X tg iter t) (f : ∀ σ H R, t' σ H R → t σ H R) : PI X tg iter t' := fun pins s σ H R I q => h pins s σ H R I (f σ H R q)
theorem pi_of {tg iter : Expr} {call : Nat → List W → Mem → Res W} {gv : List T} {it : E} (h : PE X iter (tE X.K call gv xr it)) : PI X tg iter (tI X.K call gv xr it) := by
  rintro pins s σ H R I ⟨env, cm, m, hE, hM, ho⟩
  refine thn (h pins s σ H (fun v H1 => ∃ cm1 m1 w, MemR X.K cm1 m1 H1 ∧ RW X.K cm1 m1 H1 w v ∧ ∃ ts m2, borrow w m1 = .ok ts m2 ∧ ∀ J, Src X.K cm1 m2 H1 J ts → R J H1) I
    ⟨env, cm, m, hE, hM, ho.mono fun w cm1 m1 H1 x1 M1 o1 v rv => ⟨cm1, m1, w, M1, rv, o1⟩⟩) fun v s1 ⟨x, H1, I1, r1, cm1, m1, w, M1, rw1, ts0, m2, eb, o1⟩ => ?_
  -- an iterator over a list that stands at a
  have onList : ∀ (a : Addr) (vs : List V), x = .ref a → SqL X.K H1 a vs → R (Itl X.K a) H1 → wpAny (model X.prog X.w) X.A (pyIter v) (PIE X pins σ tg R) X.xe s1 := fun a vs e hq q => by
    subst e
    cases r1
    obtain ⟨its, rv, p, hz⟩ := I1.list hq
    refine wpAny_pyIter_list p.isList ?_
    refine ⟨s1.heap.objs.size, [s1.heap.objs.size], _, _, H1, rfl, I1.kept (t' := s1.toks) fun b o e => Heap.get?_push_of_some _ e, turn_list a _, ⟨_, Heap.get?_push_size _ rfl, rfl, rfl⟩, fun b hb => ?_, q⟩
    have e : b = s1.heap.objs.size := by simpa using hb
    subst e
    exact I1.fpOk (Nat.le_refl _) (I1.hok.fresh (Nat.le_refl _))
  cases w with
  | f a => cases eb
  | c i =>
    unfold borrow at eb
    dsimp only at eb
    split at eb
    · rename_i fl ts e
      cases eb
      obtain ⟨a, vs, q1, q2, _⟩ := M1.at' i _ e
      obtain ⟨b, h1, h2⟩ := rw1
      rw [q1] at h1; cases h1
      exact onList a vs h2 (.of q2) (o1 _ (.cel (List.getElem?_set_self (List.getElem?_eq_some_iff.mp e).1) q1))
    · cases eb
  | t t =>
    unfold borrow at eb
    dsimp only at eb
    cases t with
    | tup ts =>
      cases eb
      obtain ⟨a, vs, e, h1, h2⟩ := RT.itup rw1
      subst e
      cases r1
      obtain ⟨its, rv, p, hz⟩ := I1.tuple h1
      refine wpAny_pyIter_tuple (show s1.heap.IsTuple a its.toArray from p) ?_
      refine ⟨s1.heap.objs.size, [s1.heap.objs.size], _, _, H1, rfl, I1.kept (t' := s1.toks) fun b o e => Heap.get?_push_of_some _ e, turn_tuple a _, ⟨_, Heap.get?_push_size _ rfl, rfl, rfl⟩, fun b hb => ?_, o1 _ (.tup h1 h2)⟩
      have e : b = s1.heap.objs.size := by simpa using hb
      subst e
      exact I1.fpOk (Nat.le_refl _) (I1.hok.fresh (Nat.le_refl _))
    | lst ts =>
      cases eb
      obtain ⟨a, vs, e, h1, h2, h3⟩ := RT.ilst rw1
      exact onList a vs e (.of h1) (o1 _ (.lst h1 h2 h3))
    | scr ns =>
      cases eb
      obtain ⟨a, e, h1⟩ := RT.vscr rw1
      exact onList a _ e h1.sq (o1 _ (.scr ns h1))
    | str cs =>
      unfold itemsT at eb
      dsimp only at eb
      split at eb
      · rename_i ts e
        split at e <;> cases e
        cases eb
        cases RT.vstr rw1
        obtain ⟨t, rfl⟩ := r1
        have q := o1 _ (.str cs)
        have I2 : ∀ o : Obj, Inv X pins σ H1 { s1 with heap := s1.heap.push o } := fun o => I1.kept (t' := s1.toks) fun b o e => Heap.get?_push_of_some _ e
        have fpk : ∀ b ∈ [s1.heap.objs.size], FpOk X pins H1 b := fun b hb => by
          have e : b = s1.heap.objs.size := by simpa using hb
          subst e
          exact I1.fpOk (Nat.le_refl _) (I1.hok.fresh (Nat.le_refl _))
        cases ha : (⟨cs.toArray⟩ : Str).cps.all (· < 128)
        · refine wpAny_pyIter_wide ha ?_
          exact ⟨s1.heap.objs.size, [s1.heap.objs.size], _, _, H1, rfl, I2 _, turn_str (cl := "str_iterator") (t := t) (by decide) (fun A i s Q E st h => wpAny_pyIter_striter_wide st h) (fun A' hA => by simpa using Walks.strWide hA _ ⟨cs.toArray⟩ t), ⟨⟨_, Heap.get?_push_size _ rfl, rfl, rfl⟩, Nat.zero_le _⟩, fpk, q⟩
        · refine wpAny_pyIter_ascii ha ?_
          exact ⟨s1.heap.objs.size, [s1.heap.objs.size], _, _, H1, rfl, I2 _, turn_str (cl := "str_ascii_iterator") (t := t) (by decide) (fun A i s Q E st h => wpAny_pyIter_striter_ascii st h) (fun A' hA => by simpa using Walks.strAscii hA _ ⟨cs.toArray⟩ t), ⟨⟨_, Heap.get?_push_size _ rfl, rfl, rfl⟩, Nat.zero_le _⟩, fpk, q⟩
      · cases eb
    | _ => cases eb
end
end Mi
end
section
set_option linter.all false
set_option maxRecDepth 100000
namespace Mi
open PySem PySem.Spec PyProof.Rows L2
theorem compTurn_last {elt : Expr} {gens : List Comprehension} {scope : Scope} {pos : Pos} {d : Nat} {target iter : Expr} {ifs : List Expr} {it acc : Value} {env : PySem.Env} (hg : gens[d]? = some ⟨target, iter, ifs, 0⟩) (hn : gens[d + 1]? = none) :
    compTurn (.ListComp elt gens scope pos) d it acc env = (do
      standAt iter.pos
      match ← pyNext it with
      | none => pure (.done .next)
      | some v =>
        letOwnedTupleGo target it v
        assign target env v
        let mut ok := true
        for c in ifs do
          if ok then ok ← isTrue c env (eval c env)
        if ok then
          (do let _ ← call (.builtin "list.append") [acc, ← eval elt env])
        again (.compLoop (.ListComp elt gens scope pos) d it acc env)) := by
  unfold compTurn
  simp only [hg, hn]
  rfl
theorem compTurn_more {elt : Expr} {gens : List Comprehension} {scope : Scope} {pos : Pos} {d : Nat} {target iter : Expr} {ifs : List Expr} {it acc : Value} {env : PySem.Env} {target' iter' : Expr} {ifs' : List Expr} (hg : gens[d]? = some ⟨target, iter, ifs, 0⟩) (hn : gens[d + 1]? = some ⟨target', iter', ifs', 0⟩) :
    compTurn (.ListComp elt gens scope pos) d it acc env = (do
      standAt iter.pos
      match ← pyNext it with
      | none => pure (.done .next)
      | some v =>
        letOwnedTupleGo target it v
        assign target env v
        let mut ok := true
        for c in ifs do
          if ok then ok ← isTrue c env (eval c env)
        if ok then
          let x ← eval iter' env
          standAt iter'.pos
          let x ← foldedSetIterable iter' env x
          let _ ← runOwn (.compStart (.ListComp elt gens scope pos) (d + 1) (← holding [x] (pyIter x)) acc env) env
        again (.compLoop (.ListComp elt gens scope pos) d it acc env)) := by
  unfold compTurn
  simp only [hg, hn]
  rfl
section
variable {K : PySem.W.Frag} {cm cm' : List Addr} {m m' : Mem} {H H' : Hp} {xr : XR} {Y : Cx}
noncomputable def AccAt (h : Heap) (D : Addr) (vs : List V) : Prop := vs.length ≤ sizeLine ∧ ∃ (its : List Value) (n : Nat), Vals vs its ∧ h.get? D = some { cls := .type "list", data := .seq its.toArray n }
structure DOk (Y : Cx) (pins : List (Addr × Obj)) (H : Hp) (D : Addr) : Prop where
  free : H D = none
  loc : D ≠ Y.env.locals
  nofs : D ∉ Y.fs
  own : D ∈ Y.ex ∨ Y.s₀.heap.objs.size ≤ D
  cell : ∀ x c, Y.env.cells.lookup x = some c → c ≠ D
  pin : ∀ p ∈ Y.pn ++ pins, p.1 ≠ D
theorem pe_run {e : Expr} {call : Nat → List W → Mem → Res W} {gv : List T} {a : E} (h : PE Y e (tE Y.K call gv xr a)) {pins : List (Addr × Obj)} {s : Shared} {σ : L2.St} {env : Env} {w : W} (I : Inv Y pins σ H s) (hE : EnvR Y.K cm m H env σ) (M : MemR Y.K cm m H)
    (ok : ev call gv a env m = .ok w m') : wpAny (model Y.prog Y.w) Y.A (eval e Y.env) (EP Y pins σ fun v H' => ∃ cm', Ext cm m H cm' m' H' ∧ MemR Y.K cm' m' H' ∧ RW Y.K cm' m' H' w v) Y.xe s := by
  refine h pins s σ H _ I ⟨env, cm, m, hE, M, ?_⟩
  rw [ok]
  exact fun cm' H' x M' v r => ⟨cm', x, M', r⟩
theorem pt_run {e : Expr} {call : Nat → List W → Mem → Res W} {gv : List T} {a : E} (h : PT Y e (tT Y.K call gv xr a)) {pins : List (Addr × Obj)} {s : Shared} {σ : L2.St} {env : Env} {k : Bool} (I : Inv Y pins σ H s) (hE : EnvR Y.K cm m H env σ) (M : MemR Y.K cm m H)
    (ok : (ev call gv a env m).bind truthW = .ok k m') : wpAny (model Y.prog Y.w) Y.A (isTrue e Y.env (eval e Y.env)) (TP Y pins σ fun b H' => b = k ∧ ∃ cm', Ext cm m H cm' m' H' ∧ MemR Y.K cm' m' H') Y.xe s := by
  refine h pins s σ H _ I ⟨env, cm, m, hE, M, ?_⟩
  rw [ok]
  exact fun cm' H' x M' => ⟨rfl, cm', x, M'⟩
noncomputable def PTs (Y : Cx) (call : Nat → List W → Mem → Res W) (gv : List T) (xr : XR) : Es → List Expr → Prop
  | .nil, [] => True
  | .cons a es, e :: r => PT Y e (tT Y.K call gv xr a) ∧ PTs Y call gv xr es r
  | _, _ => False
theorem tests_false {env : PySem.Env} {M : Model} {A : Around} {E : Value → Shared → Prop} {s : Shared} {Q : Bool → Shared → Prop} (h : Q false s) : ∀ ifs : List Expr,
    wpAny M A (forIn ifs false fun c r => if r = true then do let ok ← isTrue c env (eval c env); pure (ForInStep.yield ok) else pure (ForInStep.yield r)) Q E s
  | [] => wpAny_pure h
  | _ :: r => by
    simp only [List.forIn_cons, Bool.false_eq_true, if_false]
    exact wpAny_bind (wpAny_pure (tests_false h r))
theorem tests_run {call : Nat → List W → Mem → Res W} {gv : List T} {pins : List (Addr × Obj)} {σ : L2.St} {env : Env} : ∀ {cs : Es} {ifs : List Expr} {cm : List Addr} {m m' : Mem} {H : Hp} {s : Shared} {k : Bool}, PTs Y call gv xr cs ifs → Inv Y pins σ H s → EnvR Y.K cm m H env σ → MemR Y.K cm m H →
    tests call gv cs env m = .ok k m' →
    wpAny (model Y.prog Y.w) Y.A (forIn ifs true fun c r => if r = true then do let ok ← isTrue c Y.env (eval c Y.env); pure (ForInStep.yield ok) else pure (ForInStep.yield r))
      (fun b s' => b = k ∧ ∃ H' cm', Inv Y pins σ H' s' ∧ Ext cm m H cm' m' H' ∧ MemR Y.K cm' m' H') Y.xe s
  | .nil, [], cm, m, m', H, s, k, _, I, hE, M, ok => by
    unfold tests at ok
    cases ok
    exact wpAny_pure ⟨rfl, H, cm, I, .refl, M⟩
  | .cons a es, e :: r, cm, m, m', H, s, k, hp, I, hE, M, ok => by
    unfold tests at ok
    obtain ⟨h1, h2⟩ := hp
    simp only [List.forIn_cons, if_true]
    cases e1 : ev call gv a env m with
    | ok w m1 =>
      rw [e1] at ok
      change (truthW w m1).bind _ = _ at ok
      cases e2 : truthW w m1 with
      | ok b m2 =>
        rw [e2] at ok
        change (if b = true then _ else _) = _ at ok
        refine wpAny_bind (wpAny_bind (thn (pt_run h1 I hE M (m' := m2) (k := b) (by rw [e1]; exact e2)) fun c s1 ⟨H1, I1, hb, cm1, x1, M1⟩ => wpAny_pure ?_))
        subst hb
        cases c with
        | true =>
          rw [if_pos rfl] at ok
          exact thn (tests_run h2 I1 (hE.ext x1 M M1) M1 ok) fun b' s2 ⟨hb', H2, cm2, I2, x2, M2⟩ => ⟨hb', H2, cm2, I2, x1.trans x2, M2⟩
        | false =>
          rw [if_neg Bool.false_ne_true] at ok
          cases ok
          exact tests_false (Q := fun b s' => b = false ∧ ∃ H' cm', Inv Y pins σ H' s' ∧ Ext cm m H cm' m' H' ∧ MemR Y.K cm' m' H') ⟨rfl, H1, cm1, I1, x1, M1⟩ r
      | exc _ _ => rw [e2] at ok; cases ok
      | stuck => rw [e2] at ok; cases ok
    | exc _ _ => rw [e1] at ok; cases ok
    | stuck => rw [e1] at ok; cases ok
  | .nil, _ :: _, _, _, _, _, _, _, hp, _, _, _, _ => hp.elim
  | .cons _ _, [], _, _, _, _, _, _, hp, _, _, _, _ => hp.elim
noncomputable def tgS : Tg → List Nat
  | .nm i => [i]
  | .tp is => is
noncomputable def Agree (S : List Nat) (σ σ' : L2.St) : Prop := ∀ i, i ∉ S → σ'[i]? = σ[i]?
noncomputable def setAll : List Nat → List V → L2.St → L2.St
  | i :: is, v :: vs, σ => setAll is vs (σ.set i (some v))
  | _, _, σ => σ
variable (K) in
noncomputable def gT : Tg → TG
  | .nm i => gName i
  | .tp is => fun v σ H Q => ∃ a xs, v = .ref a ∧ SqT K H a xs ∧ xs.length = is.length ∧ Q (setAll is xs σ) H
theorem setAll_agree : ∀ (is : List Nat) (vs : List V) (σ : L2.St), Agree is σ (setAll is vs σ)
  | [], _, _ => fun _ _ => by unfold setAll; rfl
  | _ :: _, [], _ => fun _ _ => by unfold setAll; rfl
  | i :: is, v :: vs, σ => fun j hj => by
    unfold setAll
    rw [List.mem_cons] at hj
    rw [setAll_agree is vs _ j fun z => hj (.inr z), List.getElem?_set_ne fun z => hj (.inl z.symm)]
theorem EnvR.set {env : Env} {σ : L2.St} (h : EnvR K cm m H env σ) {w : W} {v : V} (r : RW K cm m H w v) (i : Nat) (hi : i < σ.length) : EnvR K cm m H (env.set i (some w)) (σ.set i (some v)) := fun j u e => by
  by_cases hj : j = i
  · subst hj
    have hl : j < env.length := by
      have := (List.getElem?_eq_some_iff.mp e).1
      rwa [List.length_set] at this
    rw [List.getElem?_set_self hl] at e
    cases e
    exact ⟨v, List.getElem?_set_self hi, r⟩
  · rw [List.getElem?_set_ne (Ne.symm hj)] at e
    obtain ⟨v', h1, h2⟩ := h j u e
    exact ⟨v', by rw [List.getElem?_set_ne (Ne.symm hj)]; exact h1, h2⟩
theorem EnvR.setAll : ∀ {is : List Nat} {ts : List T} {vs : List V} {env : Env} {σ : L2.St}, EnvR K cm m H env σ → RTs K cm m H ts vs → (∀ i ∈ is, i < σ.length) →
    EnvR K cm m H ((is.zip ts).foldl (fun env p => env.set p.1 (some (.t p.2))) env) (Mi.setAll is vs σ)
  | [], _, _, _, _, h, _, _ => by unfold Mi.setAll; exact h
  | _ :: _, [], _, _, _, h, .nil, _ => by unfold Mi.setAll; exact h
  | i :: is, t :: ts, v :: vs, env, σ, h, .cons r rs, hi => by
    unfold Mi.setAll
    rw [List.zip_cons_cons, List.foldl_cons]
    refine EnvR.setAll (h.set (w := .t t) r i (hi i List.mem_cons_self)) rs fun j hj => ?_
    rw [List.length_set]
    exact hi j (List.mem_cons_of_mem _ hj)
theorem gT_ok {tg : Tg} {t : T} {v : V} {env env' : Env} {σ : L2.St} (hE : EnvR K cm m H env σ) (hi : ∀ i ∈ tgS tg, i < σ.length) (r : RT K cm m H t v) (e : bindTg tg t env = some env') {Q : L2.St → Hp → Prop}
    (q : ∀ σ', EnvR K cm m H env' σ' → Agree (tgS tg) σ σ' → Q σ' H) : gT K tg v σ H Q := by
  cases tg with
  | nm i =>
    cases e
    refine q _ (hE.set (w := .t t) r i (hi i (by simp [tgS]))) fun j hj => ?_
    rw [List.getElem?_set_ne]
    intro z
    exact hj (by simp [tgS, z])
  | tp is =>
    unfold bindTg at e
    dsimp only at e
    split at e
    · split at e <;> cases e
      rename_i ts hl
      obtain ⟨a, vs, rfl, h1, h2⟩ := RT.itup r
      exact ⟨a, vs, rfl, h1, by rw [← h2.length]; exact hl, q _ (EnvR.setAll hE h2 hi) (setAll_agree is vs σ)⟩
    · cases e
end
end Mi
end
section
set_option linter.all false
set_option maxRecDepth 100000
namespace Mi
open PySem PySem.Spec PyProof.Rows L2
noncomputable def innS : E → List Nat
  | .more _ tg _ inner => tgS tg ++ innS inner
  | _ => []
section
variable {xr : XR} {Y : Cx} {call : Nat → List W → Mem → Res W} {gv : List T}
variable (Y call gv xr) in
noncomputable def Ins (elt : Expr) (gens : List Comprehension) : Nat → E → Prop
  | d, .emit a => gens[d + 1]? = none ∧ PE Y elt (tE Y.K call gv xr a)
  | d, .more it tg cs inner => (∃ target iter ifs, gens[d + 1]? = some ⟨target, iter, ifs, 0⟩ ∧ PI Y target iter (tI Y.K call gv xr it) ∧ (∀ x, foldedSetIterable iter Y.env x = pure x) ∧ PG Y target (gT Y.K tg) ∧ PTs Y call gv xr cs ifs) ∧
      (∀ i ∈ tgS tg, i ∉ innS inner) ∧ (∀ i ∈ tgS tg ++ innS inner, i < Y.N.length) ∧ Ins elt gens (d + 1) inner
  | _, _ => False
theorem no_xe {α : Type} {M : Model} {A : Around} {t : Sem α} {Q : α → Shared → Prop} {E : Value → Shared → Prop} {s : Shared} (hxe : ∀ e s, ¬ Y.xe e s) (h : wpAny M A t Q Y.xe s) : wpAny M A t Q E s := wpAny_mono h (fun _ _ q => q) fun _ _ z => (hxe _ _ z).elim
noncomputable abbrev turnF (call : Nat → List W → Mem → Res W) (gv : List T) (cs : Es) (inner : E) : Env → Mem → Res (List T) := fun env m => (tests call gv cs env m).bind fun k m => if k then (ev call gv inner env m).bind asLst else .ok [] m
noncomputable def CEndG (Y : Cx) (Acc : Heap → List V → Prop) (D : Addr) (S : List Nat) (pins : List (Addr × Obj)) (σ : L2.St) (cm : List Addr) (m : Mem) (H : Hp) (vs : List V) (out : List T) (m' : Mem) (s' : Shared) : Prop :=
  ∃ σ' H' cm' vs', Inv Y pins σ' H' s' ∧ Ext cm m H cm' m' H' ∧ MemR Y.K cm' m' H' ∧ RTs Y.K cm' m' H' out vs' ∧ Acc s'.heap (vs ++ vs') ∧ Agree S σ σ' ∧ H' D = none
noncomputable abbrev CEnd (Y : Cx) (D : Addr) := CEndG Y (fun h vs => AccAt h D vs) D
theorem AccAt.keep {h h' : Heap} {D : Addr} {vs : List V} (a : AccAt h D vs) (k : ∀ o, h.get? D = some o → h'.get? D = some o) : AccAt h' D vs := by
  obtain ⟨z, its, n, r, e⟩ := a
  exact ⟨z, its, n, r, k _ e⟩
theorem EnvR.agree {K : PySem.W.Frag} {cm : List Addr} {m : Mem} {H : Hp} {env : Env} {σ σ' : L2.St} {S : List Nat} (h : EnvR K cm m H env σ) (a : Agree S σ σ') (n : ∀ i ∈ S, ∀ w, env[i]? ≠ some (some w)) : EnvR K cm m H env σ' := fun i w e => by
  obtain ⟨v, h1, h2⟩ := h i w e
  refine ⟨v, ?_, h2⟩
  rw [a i fun z => n i z w e]
  exact h1
theorem Agree.trans {S : List Nat} {a b c : L2.St} (h : Agree S a b) (g : Agree S b c) : Agree S a c := fun i hi => (g i hi).trans (h i hi)
theorem Agree.mono {S S' : List Nat} {a b : L2.St} (h : Agree S a b) (g : ∀ i ∈ S, i ∈ S') : Agree S' a b := fun i hi => h i fun z => hi (g i z)
theorem Agree.refl {S : List Nat} {a : L2.St} : Agree S a a := fun _ _ => rfl
theorem bindTg_none {tg : Tg} {t : T} {env env' : Env} (e : bindTg tg t env = some env') {i : Nat} (hi : i ∉ tgS tg) : env'[i]? = env[i]? := by
  cases tg with
  | nm j =>
    cases e
    rw [List.getElem?_set_ne]
    intro z; exact hi (by simp [tgS, z])
  | tp is =>
    unfold bindTg at e
    dsimp only at e
    split at e
    · split at e <;> cases e
      rename_i ts hl
      have : ∀ (is : List Nat) (ts : List T) (env : Env), i ∉ is → ((is.zip ts).foldl (fun env p => env.set p.1 (some (.t p.2))) env)[i]? = env[i]? := by
        intro is
        induction is with
        | nil => intro ts env _; rfl
        | cons j is ih =>
          intro ts env h
          cases ts with
          | nil => rfl
          | cons t ts =>
            rw [List.mem_cons] at h
            rw [List.zip_cons_cons, List.foldl_cons, ih ts _ fun z => h (.inr z), List.getElem?_set_ne fun z => h (.inl z.symm)]
      exact this is ts env hi
    · cases e
theorem bind_inv {α β : Type} {r : Res α} {f : α → Mem → Res β} {y : β} {m' : Mem} (h : r.bind f = .ok y m') : ∃ x m, r = .ok x m ∧ f x m = .ok y m' := by
  cases r with
  | ok x m => exact ⟨x, m, rfl, h⟩
  | exc _ _ => cases h
  | stuck => cases h
theorem asLst_inv {w : W} {m m' : Mem} {ts : List T} (h : asLst w m = .ok ts m') : w = .t (.lst ts) ∧ m' = m := by
  unfold asLst at h
  split at h <;> cases h
  exact ⟨rfl, rfl⟩
theorem frz_ok {K : PySem.W.Frag} {cm : List Addr} {m m' : Mem} {H : Hp} {w : W} {v : V} {t : T} (M : MemR K cm m H) (r : RW K cm m H w v) (e : frz w m = .ok t m') : Ext cm m H cm m' H ∧ MemR K cm m' H ∧ RT K cm m' H t v := by
  cases w with
  | t x => cases e; exact ⟨.refl, M, r⟩
  | f a => cases e
  | c i =>
    unfold frz at e
    dsimp only at e
    split at e
    · rename_i ts h
      cases e
      obtain ⟨a, vs, q1, q2, q3, q4, q5, q6, q7⟩ := cell_dead M h
      obtain ⟨b, h1, h2⟩ := r
      rw [q1] at h1; cases h1
      subst h2
      exact ⟨q4, q5, q7⟩
    · cases e
theorem fp_more {pins : List (Addr × Obj)} {H : Hp} {b : Addr} {fp : List Addr} {h : Heap} (f : FpOk Y pins H b) (n : b ∉ fp) : FpOk Y (pins ++ pinsAt fp h) H b :=
  ⟨f.1, f.2.1, f.2.2.1, f.2.2.2.1, f.2.2.2.2.1, fun p hp z => by
    rw [← List.append_assoc] at hp
    rcases List.mem_append.mp hp with hp | hp
    · exact f.2.2.2.2.2 p hp z
    · exact n (by rw [← z]; exact (of_pinsAt hp).1)⟩
structure AccK (D : Addr) (Acc : Heap → List V → Prop) : Prop where
  obj : ∀ {h vs}, Acc h vs → ∃ o, h.get? D = some o ∧ ∀ v, o.data ≠ .cell v
  keep : ∀ {h h' vs}, Acc h vs → (∀ o, h.get? D = some o → h'.get? D = some o) → Acc h' vs
theorem accK_lst (D : Addr) : AccK D (fun h vs => AccAt h D vs) := ⟨fun ⟨_, _, _, _, e⟩ => ⟨_, e, fun v z => by cases z⟩, fun a k => a.keep k⟩
theorem acc_pinG {pins : List (Addr × Obj)} {s : Shared} {σ : L2.St} {H : Hp} {D : Addr} {Acc : Heap → List V → Prop} (hA : AccK D Acc) {vs : List V} (I : Inv Y pins σ H s) (f : FpOk Y pins H D) (a : Acc s.heap vs) : Inv Y (pins ++ pinsAt [D] s.heap) σ H s := by
  refine I.pinned (fun b hb => ?_) fun b hb => ?_
  · have e : b = D := by simpa using hb
    rw [e]; exact f
  · have e : b = D := by simpa using hb
    obtain ⟨o, q, n⟩ := hA.obj a
    rw [e]
    exact ⟨_, q, n⟩
theorem acc_atG {pins : List (Addr × Obj)} {h : Heap} {s : Shared} {σ : L2.St} {H : Hp} {D : Addr} {Acc : Heap → List V → Prop} (hA : AccK D Acc) {vs : List V} (a : Acc h vs) (I : Inv Y pins σ H s) (hp : ∀ o, h.get? D = some o → (D, o) ∈ pins) : Acc s.heap vs ∧ H D = none := by
  obtain ⟨o, q, _⟩ := hA.obj a
  obtain ⟨h1, h2, _⟩ := I.pin _ (List.mem_append_right _ (hp _ q))
  refine ⟨hA.keep a fun o' e => ?_, h2⟩
  rw [q] at e; cases e
  exact h1
theorem acc_pin {pins : List (Addr × Obj)} {s : Shared} {σ : L2.St} {H : Hp} {D : Addr} {vs : List V} (I : Inv Y pins σ H s) (f : FpOk Y pins H D) (a : AccAt s.heap D vs) : Inv Y (pins ++ pinsAt [D] s.heap) σ H s := acc_pinG (accK_lst D) I f a
theorem acc_at {pins : List (Addr × Obj)} {h : Heap} {s : Shared} {σ : L2.St} {H : Hp} {D : Addr} {vs : List V} (a : AccAt h D vs) (I : Inv Y pins σ H s) (hp : ∀ o, h.get? D = some o → (D, o) ∈ pins) : AccAt s.heap D vs ∧ H D = none := acc_atG (accK_lst D) a I hp
noncomputable abbrev turnCode (target iter : Expr) (ifs : List Expr) (env : PySem.Env) (it : Value) (c : Code) (br : Sem PySem.Fin) : Sem PySem.Fin :=
  standAt iter.pos >>= fun _ => pyNext it >>= fun r => match r with
    | none => pure (.done .next)
    | some v => letOwnedTupleGo target it v >>= fun _ => assign target env v >>= fun _ =>
      (forIn ifs true fun c r => if r = true then do let ok ← isTrue c env (eval c env); pure (ForInStep.yield ok) else pure (ForInStep.yield r)) >>= fun ok => if ok = true then br else again c
theorem loop_any (hc : Y.calm = true) (hxe : ∀ e s, ¬ Y.xe e s) {ce : Expr} {D : Addr} {Acc : Heap → List V → Prop} (hA : AccK D Acc) {L : Nat} {Pt : T → Prop} {inner : E} {d : Nat} {target iter : Expr} {ifs : List Expr} {tg : Tg} {cs : Es} {it : Addr} {br : Sem PySem.Fin}
    (hu : Y.A.under (.compLoop ce d (.ref it) (.ref D) Y.env) = Y.A) (hd : (model Y.prog Y.w).den (.compLoop ce d (.ref it) (.ref D) Y.env) = (compTurn ce d (.ref it) (.ref D) Y.env).onRaise (fun x => do noteFrame x Y.env; theTreesLotGoes x))
    (code : compTurn ce d (.ref it) (.ref D) Y.env = turnCode target iter ifs Y.env (.ref it) (.compLoop ce d (.ref it) (.ref D) Y.env) br)
    (hg : PG Y target (gT Y.K tg)) (ht : PTs Y call gv xr cs ifs) (hdis : ∀ i ∈ tgS tg, i ∉ innS inner) (hlt : ∀ i ∈ tgS tg ++ innS inner, i < Y.N.length)
    (hbr : ∀ {pins : List (Addr × Obj)} {s : Shared} {σ : L2.St} {H : Hp} {cm : List Addr} {m m' : Mem} {env : Env} {out : List T} {vs : List V}, Inv Y pins σ H s → FpOk Y pins H D → Acc s.heap vs → EnvR Y.K cm m H env σ → (∀ i ∈ innS inner, ∀ w, env[i]? ≠ some (some w)) → MemR Y.K cm m H →
      (ev call gv inner env m).bind asLst = .ok out m' → vs.length + out.length ≤ L → (∀ t ∈ out, Pt t) →
      wpAny (model Y.prog Y.w) Y.A br (fun fin s' => fin = .again (.compLoop ce d (.ref it) (.ref D) Y.env) ∧ CEndG Y Acc D (innS inner) pins σ cm m H vs out m' s') Y.xe s)
    {pins : List (Addr × Obj)} {s : Shared} {σ : L2.St} {H : Hp} {cm : List Addr} {m m' : Mem} {env : Env} {ts out : List T} {J : It} {fp : List Addr} {tn : Nat → Heap → Prop} {vs : List V} (I : Inv Y pins σ H s) (hD : FpOk Y pins H D) (ha : Acc s.heap vs)
    (hT : Turn Y.prog Y.w Y.K target J fp it tn) (h0 : tn 0 s.heap) (hf : ∀ b ∈ fp, FpOk Y pins H b) (hDf : D ∉ fp) (hE : EnvR Y.K cm m H env σ) (hn : ∀ i ∈ tgS tg ++ innS inner, ∀ w, env[i]? ≠ some (some w)) (M : MemR Y.K cm m H) (hs : Src Y.K cm m H J ts)
    (ok : loopC (turnF call gv cs inner) tg ts env m = .ok out m') (hl : vs.length + out.length ≤ L) (hpt : ∀ t ∈ out, Pt t) :
    codeAny (model Y.prog Y.w) Y.A (.compLoop ce d (.ref it) (.ref D) Y.env) (fun r s' => r = .ok .next ∧ CEndG Y Acc D (tgS tg ++ innS inner) pins σ cm m H vs out m' s') s := by
  have statD : ∀ {H1 : Hp}, H1 D = none → FpOk Y pins H1 D := fun h => ⟨h, hD.2⟩
  have stat : ∀ {H1 : Hp}, (∀ b ∈ fp, H1 b = none) → ∀ b ∈ fp, FpOk Y pins H1 b := fun h b hb => ⟨h b hb, (hf b hb).2⟩
  refine codeAny_loop rfl (fun n s1 => ∃ i σ1 H1 cm1 m1 vs1 done rest, Inv Y pins σ1 H1 s1 ∧ tn i s1.heap ∧ (∀ b ∈ fp, H1 b = none) ∧ H1 D = none ∧ Ext cm m H cm1 m1 H1 ∧ MemR Y.K cm1 m1 H1 ∧ Agree (tgS tg ++ innS inner) σ σ1 ∧
      Acc s1.heap (vs ++ vs1) ∧ RTs Y.K cm1 m1 H1 done vs1 ∧ loopC (turnF call gv cs inner) tg (ts.drop i) env m1 = .ok rest m' ∧ out = done ++ rest ∧ n = ts.length + 1 - i ∧ i ≤ ts.length) ?_ (ts.length + 1)
    ⟨0, σ, H, cm, m, [], [], out, I, h0, fun b hb => (hf b hb).1, hD.1, .refl, M, .refl, by rw [List.append_nil]; exact ha, .nil, by rw [List.drop_zero]; exact ok, rfl, rfl, Nat.zero_le _⟩
  rintro n s1 ⟨i, σ1, H1, cm1, m1, vs1, done, rest, I1, st1, fr1, d1, x1, M1, ag1, a1, r1, ok1, eo, rfl, hi⟩
  rw [hu, hd]
  refine wpAny_noted ?_
  rw [code]
  refine wpAny_bind (wpAny_standAt (wpAny_bind ?_))
  have hE1 : EnvR Y.K cm1 m1 H1 env σ1 := (hE.ext x1 M M1).agree ag1 hn
  have s1' := hs.ext x1 M M1
  have I1D := acc_pinG hA I1 (statD d1) a1
  have fpD : ∀ {H1 : Hp}, (∀ b ∈ fp, H1 b = none) → ∀ b ∈ fp, FpOk Y (pins ++ pinsAt [D] s1.heap) H1 b := fun h b hb => fp_more (stat h b hb) fun z => hDf (by
    have e : b = D := by simpa using z
    rw [← e]; exact hb)
  have inD : ∀ o, s1.heap.get? D = some o → (D, o) ∈ pins ++ pinsAt [D] s1.heap := fun o e => List.mem_append_right _ (mem_pinsAt (by simp) e)
  cases et : ts[i]? with
  | none =>
    refine no_xe hxe (thn (hT.done Y rfl rfl rfl hc i _ s1 σ1 H1 Y.xe I1D (fpD fr1) st1 (Src.stop M1 s1' et)) fun r s2 ⟨hr, I2⟩ => ?_)
    subst hr
    have hd : ts.drop i = [] := List.drop_eq_nil_of_le (List.getElem?_eq_none_iff.mp et)
    rw [hd] at ok1
    unfold loopC at ok1
    cases ok1
    rw [List.append_nil] at eo
    subst eo
    exact wpAny_pure ⟨rfl, σ1, H1, cm1, vs1, I2.unpinned, x1, M1, r1, (acc_atG hA a1 I2 inD).1, ag1, (acc_atG hA a1 I2 inD).2⟩
  | some t =>
    obtain ⟨go, yl⟩ := Src.go M1 s1' et
    have hit : i < ts.length := (List.getElem?_eq_some_iff.mp et).1
    have hd : ts.drop i = t :: ts.drop (i + 1) := by
      rw [List.drop_eq_getElem_cons hit]
      congr 1
      exact Option.some.inj ((List.getElem?_eq_getElem hit).symm.trans et)
    rw [hd] at ok1
    unfold loopC at ok1
    split at ok1
    · cases ok1
    · rename_i env' eb
      obtain ⟨xs, m2, ok2, ok3⟩ := bind_inv ok1
      obtain ⟨ys, m3, ok4, ok5⟩ := bind_inv ok3
      cases ok5
      obtain ⟨k, m4, okt, okb⟩ := bind_inv ok2
      refine no_xe hxe (thn (hT.item Y rfl rfl rfl hc i _ s1 σ1 H1 Y.xe I1D (fpD fr1) st1 go) fun r s2 ⟨u, hr, h2⟩ => ?_)
      subst hr
      refine wpAny_bind (no_xe hxe (thn h2 fun _ s3 ⟨x, H3, I3, rx, y3, st3, fr3⟩ => ?_))
      obtain ⟨xy, My, rt⟩ := yl x H3 y3
      have hE1 := hE1.ext xy M1 My
      have x1 := x1.trans xy
      have r1 := RTs.ext xy M1 My r1
      have M1 := My
      -- pinned: the list that is filled, and the iterator
      have I3' := I3.pinned (fpD fr3) (hT.obj _ _ st3)
      refine wpAny_bind (no_xe hxe (thn (hg _ s3 σ1 H3 x u (fun σ' H' => H' = H3 ∧ EnvR Y.K cm1 m1 H3 env' σ' ∧ Agree (tgS tg) σ1 σ') I3' rx (gT_ok hE1 (fun j hj => by rw [I3.len]; exact hlt j (List.mem_append_left _ hj)) rt eb fun σ' h1 h2 => ⟨rfl, h1, h2⟩)) fun _ s4 ⟨σ4, H4, I4, e4, hE4, ag4⟩ => ?_))
      subst e4
      refine wpAny_bind (no_xe hxe (thn (tests_run ht I4 hE4 M1 okt) fun b s5 ⟨hb, H5, cm5, I5, x5, M5⟩ => ?_))
      subst hb
      have a5 := acc_atG hA a1 I5 fun o e => List.mem_append_left _ (inD o e)
      have st5 : tn (i + 1) s5.heap := hT.keep _ _ _ st3 fun b hb o e => (I5.pin (b, o) (List.mem_append_right _ (List.mem_append_right _ (mem_pinsAt hb e)))).1
      have f5 : ∀ b ∈ fp, H5 b = none := fun b hb => by
        obtain ⟨o, e, dd⟩ := hT.obj _ _ st3 b hb
        exact (I5.pin (b, o) (List.mem_append_right _ (List.mem_append_right _ (mem_pinsAt hb e)))).2.1
      have ag45 : Agree (tgS tg ++ innS inner) σ σ4 := ag1.trans (ag4.mono fun i hi => List.mem_append_left _ hi)
      cases b with
      | false =>
        rw [if_neg Bool.false_ne_true] at okb ⊢
        cases okb
        rw [List.nil_append] at eo
        exact wpAny_pure ⟨rfl, _, by omega, i + 1, σ4, H5, cm5, m2, vs1, done, ys, I5.unpinned.unpinned, st5, f5, a5.2, x1.trans x5, M5, ag45, a5.1, RTs.ext x5 M1 M5 r1, ok4, eo, rfl, hit⟩
      | true =>
        rw [if_pos rfl] at okb ⊢
        have I6 : Inv Y (pins ++ pinsAt fp s5.heap) σ4 H5 s5 := I5.unpinned.unpinned.pinned (stat f5) (hT.obj _ _ st5)
        have hv := r1.length
        have hz : (vs ++ vs1).length + xs.length ≤ L := by
          rw [List.length_append, ← hv]
          rw [eo, List.length_append, List.length_append] at hl
          omega
        have hn6 : ∀ j ∈ innS inner, ∀ w, env'[j]? ≠ some (some w) := fun j hj w => by
          rw [bindTg_none eb fun z => hdis j z hj]
          exact hn j (List.mem_append_right _ hj) w
        refine no_xe hxe (thn (hbr I6 (fp_more (statD a5.2) hDf) a5.1 (hE4.ext x5 M1 M5) hn6 M5 okb hz fun t ht' => hpt t (by rw [eo]; exact List.mem_append_right _ (List.mem_append_left _ ht'))) fun fin s7 ⟨hfin, σ7, H7, cm7, vs7, I7, x7, M7, r7, a7, ag7, d7⟩ => ?_)
        subst hfin
        have keep7 : ∀ b ∈ fp, ∀ o, s5.heap.get? b = some o → s7.heap.get? b = some o := fun b hb o e => (I7.pin (b, o) (List.mem_append_right _ (List.mem_append_right _ (mem_pinsAt hb e)))).1
        refine ⟨rfl, _, by omega, i + 1, σ7, H7, cm7, m2, vs1 ++ vs7, done ++ xs, ys, I7.unpinned, hT.keep _ _ _ st5 keep7, fun b hb => ?_, ?_, (x1.trans x5).trans x7, M7, ag45.trans (ag7.mono fun i hi => List.mem_append_right _ hi), by rw [← List.append_assoc]; exact a7,
          paired_append (RTs.ext x7 M5 M7 (RTs.ext x5 M1 M5 r1)) r7, ok4, by rw [eo, List.append_assoc], rfl, hit⟩
        · obtain ⟨o, e, dd⟩ := hT.obj _ _ st5 b hb
          exact (I7.pin (b, o) (List.mem_append_right _ (List.mem_append_right _ (mem_pinsAt hb e)))).2.1
        · exact d7
end
end Mi
end
section
set_option linter.all false
set_option maxRecDepth 100000
namespace Mi
open PySem PySem.Spec PyProof.Rows L2
section
variable {xr : XR} {Y : Cx} {call : Nat → List W → Mem → Res W} {gv : List T}
theorem compStart_gen {prog : Program} {w : World} {A : Around} {R : Result → Shared → Prop} {s : Shared} {elt : Expr} {gens : List Comprehension} {scope : Scope} {pos : Pos} {d : Nat} {target iter : Expr} {ifs : List Expr} {it acc : Value} {env : PySem.Env} (hg : gens[d]? = some ⟨target, iter, ifs, 0⟩)
    (h0 : codeAny (model prog w) A (.compLoop (.ListComp elt gens scope pos) d it acc env) R s)
    (h : wpAny (model prog w) A (pyIter it) (fun it' s' => codeAny (model prog w) A (.compLoop (.ListComp elt gens scope pos) d it' acc env) R s') (notedBy (model prog w) A env fun x s' => R (.error x) s') s) :
    codeAny (model prog w) A (.compStart (.ListComp elt gens scope pos) d it acc env) R s := by
  refine codeAny_of_tree ?_
  show wpAny _ _ ((compStart (.ListComp elt gens scope pos) d it acc env).onRaise (fun x => do noteFrame x env; standAt theWindowsPlace)) _ _ s
  refine wpAny_notedAt ?_
  unfold compStart
  have e : (clausesOf (.ListComp elt gens scope pos))[d]? = some ⟨target, iter, ifs, 0⟩ := hg
  rw [e]
  show wpAny _ _ (ask >>= _) _ _ s
  refine wpAny_bind (wpAny_askSetting (wpAny_ite ?_))
  split
  · first
      | exact wpAny_bind (wpAny_pure (wpAny_pure (And.intro rfl h0)))
      | exact wpAny_pure (And.intro rfl h0)
  · first
      | exact wpAny_bind (wpAny_rule (wpAny_bind (wpAny_standAt (wpAny_bind (wpAny_mono h (fun it' s' h' => wpAny_pure (And.intro rfl h')) fun _ _ x => x)))))
      | (refine wpAny_bind (wpAny_rule ?_); show wpAny _ _ (standAt iter.pos >>= _) _ _ s; exact wpAny_bind (wpAny_standAt (wpAny_bind (wpAny_mono h (fun it' s' h' => wpAny_pure (And.intro rfl h')) fun _ _ x => x))))
theorem acc_append {pins : List (Addr × Obj)} {s : Shared} {σ : L2.St} {H : Hp} {D : Addr} {vs : List V} {v : V} {u : Value} {E : Value → Shared → Prop} {Q : Value → Shared → Prop} (I : Inv Y pins σ H s) (f : FpOk Y pins H D) (a : AccAt s.heap D vs) (r : RelV v u) (hz : vs.length < sizeLine)
    (q : ∀ s', Inv Y pins σ H s' → AccAt s'.heap D (vs ++ [v]) → Q .none s') : wpAny (model Y.prog Y.w) Y.A (PySem.call (.builtin "list.append") [.ref D, u]) Q E s := by
  obtain ⟨z, its, n, rv, e⟩ := a
  have hl := rv.length
  refine call_meets F.slot_list_append ⟨_, e, rfl⟩ F.entry_list_append (F.args_list_append_2 _ _) (PySem.list_append D its.toArray n u (by rw [List.size_toArray]; omega)) ⟨e, ?_⟩
  have e2 := PySem.IsL.update e (·.push u)
  have hf : its.toArray.push u = (its ++ [u]).toArray := by simp
  rw [hf] at e2
  obtain ⟨f0, f1, f2, f3, f4, f5⟩ := f
  refine q _ (I.turned (t' := s.toks) (it := D) (fun b o hb eb => (Heap.get?_update_other s.heap (Obj.mapSeq (·.push u)) (Ne.symm hb)).trans eb) f0 f1 f3 f4 f5) ⟨?_, its ++ [u], _, rv.append (.cons r .nil), e2⟩
  rw [List.length_append, List.length_singleton]
  omega
theorem borrow_ok {K : PySem.W.Frag} {cm : List Addr} {m m1 : Mem} {H : Hp} {w : W} {ts : List T} (M : MemR K cm m H) (e : borrow w m = .ok ts m1) : Ext cm m H cm m1 H ∧ MemR K cm m1 H := by
  cases w with
  | t t =>
    unfold borrow at e
    dsimp only at e
    split at e <;> cases e
    exact ⟨.refl, M⟩
  | f a => cases e
  | c i =>
    unfold borrow at e
    dsimp only at e
    split at e
    · cases e
      exact cell_lend M (by assumption)
    · cases e
theorem loop_ok (hc : Y.calm = true) (hxe : ∀ e s, ¬ Y.xe e s) {elt : Expr} {gens : List Comprehension} {scope : Scope} {pos : Pos} {D : Addr} : ∀ (inner : E) (d : Nat) (target iter : Expr) (ifs : List Expr) (tg : Tg) (cs : Es), gens[d]? = some ⟨target, iter, ifs, 0⟩ →
    PG Y target (gT Y.K tg) → PTs Y call gv xr cs ifs → Ins xr Y call gv elt gens d inner → (∀ i ∈ tgS tg, i ∉ innS inner) → (∀ i ∈ tgS tg ++ innS inner, i < Y.N.length) →
    ∀ {pins : List (Addr × Obj)} {s : Shared} {σ : L2.St} {H : Hp} {cm : List Addr} {m m' : Mem} {env : Env} {ts out : List T} {J : It} {it : Addr} {fp : List Addr} {tn : Nat → Heap → Prop} {vs : List V}, Inv Y pins σ H s → FpOk Y pins H D → AccAt s.heap D vs →
      Turn Y.prog Y.w Y.K target J fp it tn → tn 0 s.heap → (∀ b ∈ fp, FpOk Y pins H b) → D ∉ fp → EnvR Y.K cm m H env σ → (∀ i ∈ tgS tg ++ innS inner, ∀ w, env[i]? ≠ some (some w)) → MemR Y.K cm m H → Src Y.K cm m H J ts →
      loopC (turnF call gv cs inner) tg ts env m = .ok out m' → vs.length + out.length ≤ lim →
      codeAny (model Y.prog Y.w) Y.A (.compLoop (.ListComp elt gens scope pos) d (.ref it) (.ref D) Y.env) (fun r s' => r = .ok .next ∧ CEnd Y D (tgS tg ++ innS inner) pins σ cm m H vs out m' s') s
  | .emit a => @fun d target iter ifs tg cs hg pg pt hin hdis hlt pins s σ H cm m m' env ts out J it fp tn vs I hD ha hT h0 hf hDf hE hn M hs ok hl => by
    obtain ⟨hnx, pe⟩ := hin
    refine loop_any hc hxe (accK_lst D) (br := do (do let _ ← PySem.call (.builtin "list.append") [.ref D, ← eval elt Y.env]); again (.compLoop (.ListComp elt gens scope pos) d (.ref it) (.ref D) Y.env)) rfl rfl (compTurn_last hg hnx) pg pt hdis hlt ?_ I hD ha hT h0 hf hDf hE hn M hs ok hl (Pt := fun _ => True) (fun _ _ => trivial)
    intro pins s σ H cm m m' env out vs I hD ha hE hn M ok hl _
    obtain ⟨w, m1, ok1, ok2⟩ := bind_inv ok
    obtain ⟨rfl, rfl⟩ := asLst_inv ok2
    unfold ev at ok1
    obtain ⟨w1, m2, ok3, ok4⟩ := bind_inv ok1
    obtain ⟨t, m3, ok5, ok6⟩ := bind_inv ok4
    cases ok6
    have hz := line_lim
    refine wpAny_bind (wpAny_bind (thn (pe_run pe (acc_pin I hD ha) hE M ok3) fun u s1 ⟨v, H1, I1, rv, cm1, x1, M1, r1⟩ => ?_))
    obtain ⟨a1, d1⟩ := acc_at ha I1 fun o e => List.mem_append_right _ (mem_pinsAt (by simp) e)
    obtain ⟨x2, M2, r2⟩ := frz_ok M1 r1 ok5
    have I1' : Inv Y pins σ H1 s1 := I1.unpinned
    refine wpAny_bind (acc_append I1' ⟨d1, hD.2⟩ a1 rv (by simp at hl; omega) fun s2 I2 a2 => wpAny_pure (wpAny_pure ⟨rfl, σ, H1, cm1, [v], I2, x1.trans x2, M2, .cons r2 .nil, a2, .refl, d1⟩))
  | .more it' tg' cs' inner' => @fun d target iter ifs tg cs hg pg pt hin hdis hlt pins s σ H cm m m' env ts out J it fp tn vs I hD ha hT h0 hf hDf hE hn M hs ok hl => by
    obtain ⟨⟨target', iter', ifs', hnx, pi, hfs, pg', pt'⟩, hdis', hlt', hin'⟩ := hin
    have rec_ := @loop_ok hc hxe elt gens scope pos D inner' (d + 1) target' iter' ifs' tg' cs' hnx pg' pt' hin' hdis' hlt'
    refine loop_any hc hxe (accK_lst D) rfl rfl (compTurn_more hg hnx) pg pt hdis hlt ?_ I hD ha hT h0 hf hDf hE hn M hs ok hl (Pt := fun _ => True) (fun _ _ => trivial)
    intro pins s σ H cm m m' env out vs I hD ha hE hn M ok hl _
    obtain ⟨w, m1, ok1, ok2⟩ := bind_inv ok
    obtain ⟨rfl, rfl⟩ := asLst_inv ok2
    unfold ev at ok1
    obtain ⟨w1, m2, ok3, ok4⟩ := bind_inv ok1
    obtain ⟨ts', m3, ok5, ok6⟩ := bind_inv ok4
    obtain ⟨out', m4, ok7, ok8⟩ := bind_inv ok6
    cases ok8
    have hz := line_lim
    refine wpAny_bind (thn (pi _ s σ H (fun J H1 => ∃ cm1, Ext cm m H cm1 m2 H1 ∧ MemR Y.K cm1 m2 H1 ∧ Src Y.K cm1 m3 H1 J ts') (acc_pin I hD ha) ⟨env, cm, m, hE, M, by
      rw [ok3]
      exact fun cm1 H1 x M1 => ⟨ts', m3, ok5, fun J hs => ⟨cm1, x, M1, hs⟩⟩⟩) fun xv s1 h1 => ?_)
    refine wpAny_bind (wpAny_standAt (wpAny_bind (wpAny_of_eq (hfs xv) (wpAny_bind (wpAny_holding (thn h1 fun itv s2 h2 => ?_))))))
    obtain ⟨it2, fp2, tn2, J2, H2, rfl, I2, T2, st2, f2, cm2, x2, M2, hs2⟩ := h2
    obtain ⟨a2, d2⟩ := acc_at ha I2 fun o e => List.mem_append_right _ (mem_pinsAt (by simp) e)
    have hDf2 : D ∉ fp2 := fun z => by
      obtain ⟨_, its, n, _, e⟩ := id ha
      exact (f2 D z).2.2.2.2.2 (D, _) (List.mem_append_right _ (List.mem_append_right _ (mem_pinsAt (by simp) e))) rfl
    have f2' : ∀ b ∈ fp2, FpOk Y pins H2 b := fun b hb => ⟨(f2 b hb).1, (f2 b hb).2.1, (f2 b hb).2.2.1, (f2 b hb).2.2.2.1, (f2 b hb).2.2.2.2.1, fun p hp => (f2 b hb).2.2.2.2.2 p (by rw [← List.append_assoc]; exact List.mem_append_left _ hp)⟩
    have hb3 : Ext cm2 m2 H2 cm2 m3 H2 ∧ MemR Y.K cm2 m3 H2 := borrow_ok M2 ok5
    have E2 : EnvR Y.K cm2 m3 H2 env σ := (hE.ext x2 M M2).ext hb3.1 M2 hb3.2
    have go := rec_ I2.unpinned ⟨d2, hD.2⟩ a2 T2 st2 f2' hDf2 E2 hn hb3.2 hs2 ok7 hl
    have self : codeAny (model Y.prog Y.w) Y.A (.compStart (.ListComp elt gens scope pos) (d + 1) (.ref it2) (.ref D) Y.env) _ s2 := compStart_gen hnx go (T2.self Y.A 0 s2 _ _ st2 go)
    refine wpAny_bind (wpAny_runOwn (codeAny_mono self fun r s3 ⟨hr, σ3, H3, cm3, vs3, I3, x3, M3, r3, a3, ag3, d3⟩ => ?_))
    subst hr
    obtain ⟨x4, M4, sm⟩ := give_back M2 ok5 x3 M3
    exact wpAny_pure ⟨rfl, σ3, H3, cm3, vs3, I3, x2.trans x4, M4, paired_mono (fun _ _ z => sm _ _ z) r3, a3, ag3, d3⟩
  | .var _ => @fun d target iter ifs tg cs hg pg pt hin => hin.elim
  | .gl _ => @fun d target iter ifs tg cs hg pg pt hin => hin.elim
  | .con _ => @fun d target iter ifs tg cs hg pg pt hin => hin.elim
  | .bin _ _ _ => @fun d target iter ifs tg cs hg pg pt hin => hin.elim
  | .neg _ => @fun d target iter ifs tg cs hg pg pt hin => hin.elim
  | .not _ => @fun d target iter ifs tg cs hg pg pt hin => hin.elim
  | .and _ _ => @fun d target iter ifs tg cs hg pg pt hin => hin.elim
  | .or _ _ => @fun d target iter ifs tg cs hg pg pt hin => hin.elim
  | .one _ => @fun d target iter ifs tg cs hg pg pt hin => hin.elim
  | .cmp _ _ _ => @fun d target iter ifs tg cs hg pg pt hin => hin.elim
  | .chn _ _ _ _ _ => @fun d target iter ifs tg cs hg pg pt hin => hin.elim
  | .ite _ _ _ => @fun d target iter ifs tg cs hg pg pt hin => hin.elim
  | .tup _ => @fun d target iter ifs tg cs hg pg pt hin => hin.elim
  | .lst _ => @fun d target iter ifs tg cs hg pg pt hin => hin.elim
  | .cel _ => @fun d target iter ifs tg cs hg pg pt hin => hin.elim
  | .celL _ => @fun d target iter ifs tg cs hg pg pt hin => hin.elim
  | .celA _ _ => @fun d target iter ifs tg cs hg pg pt hin => hin.elim
  | .dsp _ _ => @fun d target iter ifs tg cs hg pg pt hin => hin.elim
  | .ix _ _ => @fun d target iter ifs tg cs hg pg pt hin => hin.elim
  | .slc _ _ _ => @fun d target iter ifs tg cs hg pg pt hin => hin.elim
  | .rev _ => @fun d target iter ifs tg cs hg pg pt hin => hin.elim
  | .hole => @fun d target iter ifs tg cs hg pg pt hin => hin.elim
  | .call _ _ => @fun d target iter ifs tg cs hg pg pt hin => hin.elim
  | .blt _ _ => @fun d target iter ifs tg cs hg pg pt hin => hin.elim
  | .mth _ _ _ => @fun d target iter ifs tg cs hg pg pt hin => hin.elim
  | .isi _ _ => @fun d target iter ifs tg cs hg pg pt hin => hin.elim
  | .comp _ _ _ _ _ _ => @fun d target iter ifs tg cs hg pg pt hin => hin.elim
  | .tr _ => @fun d target iter ifs tg cs hg pg pt hin => hin.elim
  | .fnv _ => @fun d target iter ifs tg cs hg pg pt hin => hin.elim
  | .callV _ _ _ => @fun d target iter ifs tg cs hg pg pt hin => hin.elim
end
end Mi
end
section
set_option linter.all false
set_option maxRecDepth 100000
namespace Mi
open PySem PySem.Spec PyProof.Rows L2
theorem closure_ok {scope : Scope} {env : PySem.Env} (h : ∀ x, (x, NameKind.free) ∈ scope.names → ∃ c, env.cells.lookup x = some c) :
    ∃ cl, closureFor scope env = pure cl ∧ (∀ x c, cl.lookup x = some c → env.cells.lookup x = some c) ∧ ∀ x, (x, NameKind.free) ∈ scope.names → ∃ c, cl.lookup x = some c := by
  have go : ∀ (ns : List (Str × NameKind)) (acc : List (Str × Addr)), (∀ x, (x, NameKind.free) ∈ ns → ∃ c, env.cells.lookup x = some c) → (∀ x c, acc.lookup x = some c → env.cells.lookup x = some c) →
      ∃ cl, (forIn ns acc fun (x : Str × NameKind) cs => (match x with | (name, kind) => if (kind == NameKind.free) = true then do let a ← cellOf env name; pure (ForInStep.yield ((name, a) :: cs)) else pure (ForInStep.yield cs) : Sem (ForInStep (List (Str × Addr))))) = pure cl ∧
        (∀ x c, cl.lookup x = some c → env.cells.lookup x = some c) ∧ (∀ x, (x, NameKind.free) ∈ ns → ∃ c, cl.lookup x = some c) ∧ ∀ x c, acc.lookup x = some c → ∃ c, cl.lookup x = some c := by
    intro ns
    induction ns with
    | nil => intro acc _ h2; exact ⟨acc, rfl, h2, fun x hx => absurd hx (by simp), fun x c e => ⟨c, e⟩⟩
    | cons p ns ih =>
      intro acc h1 h2
      obtain ⟨n, k⟩ := p
      have h1' : ∀ x, (x, NameKind.free) ∈ ns → ∃ c, env.cells.lookup x = some c := fun x hx => h1 x (List.mem_cons_of_mem _ hx)
      by_cases hk : k = .free
      · subst hk
        obtain ⟨c, hc⟩ := h1 n List.mem_cons_self
        have h2' : ∀ x d, ((n, c) :: acc).lookup x = some d → env.cells.lookup x = some d := fun x d e => by
          rw [List.lookup_cons] at e
          cases hx : x == n with
          | true => rw [hx] at e; cases e; rw [eq_of_beq hx]; exact hc
          | false => rw [hx] at e; exact h2 x d e
        obtain ⟨cl, e1, e2, e3, e4⟩ := ih ((n, c) :: acc) h1' h2'
        refine ⟨cl, ?_, e2, fun x hx => ?_, fun x d e => ?_⟩
        · rw [List.forIn_cons]
          simp only [beq_self_eq_true, if_true, cellOf, hc, pure_bind]
          exact e1
        · rcases List.mem_cons.mp hx with z | z
          · cases z
            exact e4 n c (by rw [List.lookup_cons, beq_self_eq_true])
          · exact e3 x z
        · by_cases hx : x = n
          · subst hx; exact e4 x c (by rw [List.lookup_cons, beq_self_eq_true])
          · exact e4 x d (by rw [List.lookup_cons, beq_eq_false_iff_ne.mpr hx]; exact e)
      · obtain ⟨cl, e1, e2, e3, e4⟩ := ih acc h1' h2
        have hb : (k == NameKind.free) = false := beq_eq_false_iff_ne.mpr hk
        refine ⟨cl, ?_, e2, fun x hx => ?_, e4⟩
        · rw [List.forIn_cons]
          simp only [hb, Bool.false_eq_true, if_false, pure_bind]
          exact e1
        · rcases List.mem_cons.mp hx with z | z
          · cases z; exact absurd rfl hk
          · exact e3 x z
  obtain ⟨cl, e1, e2, e3, _⟩ := go scope.names [] h (fun x c e => by simp at e)
  refine ⟨cl, ?_, e2, e3⟩
  unfold closureFor
  have : (forIn scope.names ([] : List (Str × Addr)) fun (x : Str × NameKind) cs => (match x with | (name, kind) => if (kind == NameKind.free) = true then do let a ← cellOf env name; pure (ForInStep.yield ((name, a) :: cs)) else pure (ForInStep.yield cs) : Sem (ForInStep (List (Str × Addr))))) >>= (fun cs => pure cs) = (pure cl : Sem (List (Str × Addr))) := by rw [e1]; rfl
  exact this
end Mi
end
section
set_option linter.all false
set_option maxRecDepth 100000
namespace Mi
open PySem PySem.Spec PyProof.Rows L2
section
variable {xr : XR} {X : Cx} {call : Nat → List W → Mem → Res W} {gv : List T}
noncomputable abbrev compCx (X : Cx) (N' : List Str) (scope : Scope) (cl : List (Str × Addr)) (C : Addr) (s2 : Shared) (H2 : Hp) (fp : List Addr) : Cx :=
  { X with N := N', s₀ := s2, H₀ := H2, env := compEnvC scope cl C X.env, outer := X.stack, stack := X.stack, ex := fp, fn := fun _ => false, pn := [], xe := fun _ _ => False }
structure CompSc (X : Cx) (N' : List Str) (scope : Scope) : Prop where
  kind : scope.kind = .function
  cell : ∀ y ∈ scope.names, y.2 ≠ NameKind.cell
  look : ∀ p ∈ scope.names, scope.names.lookup p.1 = some p.2
  free : ∀ x, (x, NameKind.free) ∈ scope.names → X.env.kindOf x = some .cell ∨ X.env.kindOf x = some .free
theorem relabel_look {scope : Scope} {env : PySem.Env} (look : ∀ p ∈ scope.names, scope.names.lookup p.1 = some p.2) {x : Str} {k : NameKind} (h : (relabel scope env).names.lookup x = some k) :
    ∃ k', scope.names.lookup x = some k' ∧ (k = k' ∨ (k' = .free ∧ k = .cell)) := by
  have go : ∀ (ns : List (Str × NameKind)), (ns.map fun (n, k) => if (k == NameKind.free && env.scope.kind == .function && env.kindOf n == some .cell) then (n, NameKind.cell) else (n, k)).lookup x = some k → ∃ k', ns.lookup x = some k' ∧ (k = k' ∨ (k' = .free ∧ k = .cell)) := by
    intro ns
    induction ns with
    | nil => intro h; simp at h
    | cons p r ih =>
      obtain ⟨n, q⟩ := p
      intro h
      rw [List.map_cons] at h
      by_cases hc : (q == NameKind.free && env.scope.kind == .function && env.kindOf n == some .cell) = true
      · simp only [hc, if_true] at h
        rw [List.lookup_cons] at h ⊢
        cases hx : x == n with
        | true =>
          rw [hx] at h; cases h
          rw [Bool.and_eq_true, Bool.and_eq_true] at hc
          exact ⟨q, rfl, .inr ⟨eq_of_beq hc.1.1, rfl⟩⟩
        | false => rw [hx] at h; exact ih h
      · simp only [hc, Bool.false_eq_true, if_false] at h
        rw [List.lookup_cons] at h ⊢
        cases hx : x == n with
        | true => rw [hx] at h; cases h; exact ⟨_, rfl, .inl rfl⟩
        | false => rw [hx] at h; exact ih h
  exact go scope.names h
theorem mem_of_look {ns : List (Str × NameKind)} {x : Str} {k : NameKind} (h : ns.lookup x = some k) : (x, k) ∈ ns := PySem.mem_of_lookup h
theorem comp_enter {pins : List (Addr × Obj)} {s : Shared} {σ σ' : L2.St} {H : Hp} {fp : List Addr} {N' : List Str} {scope : Scope} {cl : List (Str × Addr)} {C : Addr} {h1 : Heap} {t : Nat} (I : Inv X pins σ H s) (S : CompSc X N' scope) (hf : ∀ b ∈ fp, FpOk X pins H b) (hlt : ∀ b ∈ fp, b < s.heap.objs.size)
    (hC : s.heap.objs.size ≤ C) (hns : ∃ m, h1.Ns C m) (hk : ∀ b o, s.heap.get? b = some o → h1.get? b = some o)
    (hcl1 : ∀ x c, cl.lookup x = some c → X.env.cells.lookup x = some c) (hcl2 : ∀ x, (x, NameKind.free) ∈ scope.names → ∃ c, cl.lookup x = some c) (hl : σ'.length = N'.length)
    (hσ : ∀ (i : Nat) (x : Str) (v : V), N'[i]? = some x → σ'[i]? = some (some v) → ∃ j : Nat, X.N[j]? = some x ∧ σ[j]? = some (some v) ∧ (x, NameKind.free) ∈ scope.names) :
    Inv (compCx X N' scope cl C s H fp) [] σ' H { s with heap := h1, toks := t } := by
  have hfree : ∀ x k, (relabel scope X.env).names.lookup x = some k → (k = .cell ∨ k = .free) → (x, NameKind.free) ∈ scope.names := fun x k h hk' => by
    obtain ⟨k', h1, h2⟩ := relabel_look S.look h
    rcases h2 with rfl | ⟨rfl, _⟩
    · rcases hk' with rfl | rfl
      · exact absurd rfl (S.cell _ (mem_of_look h1))
      · exact mem_of_look h1
    · exact mem_of_look h1
  obtain ⟨mm, hns⟩ := hns
  refine ⟨⟨I.ok.mod, S.kind, I.ok.glob, I.ok.blt, hC, fun x y c e1 e2 => I.ok.inj x y c (hcl1 x c e1) (hcl1 y c e2), fun x hx => ?_, fun x c h => ?_, I.ok.hd, I.ok.frames, .inl rfl, fun b hb => ⟨Nat.ne_of_lt (Nat.lt_of_lt_of_le (hlt b hb) hC), fun x c e => (hf b hb).2.2.2.2.1 x c (hcl1 x c e)⟩, I.bs, Nat.le_trans I.ok.bsz I.sz, fun b o e hb => ?_, fun b hb z => ?_, I.stack, I.stkFree⟩,
    rfl, I.bare, Un.kept hk, ⟨mm, hns, fun i x v e1 e2 e3 => ?_⟩, fun x c e => ?_, I.hok.fresh hC, fun x c e => I.freeC x c (hcl1 x c e), fun p hp => absurd (show p ∈ ([] : List (Addr × Obj)) from hp) (by simp), I.hok.kept hk, hl⟩
  · rcases hx with hx | hx
    · exact hcl2 x (hfree x _ hx (.inl rfl))
    · exact hcl2 x (hfree x _ hx (.inr rfl))
  · exact absurd (show false = true from h) Bool.false_ne_true
  · rcases (hf b hb).2.2.2.1 with z | z
    · exact I.ok.noex b o e z
    · exact absurd (Nat.lt_of_lt_of_le (Heap.lt_size e) (Nat.le_trans I.ok.bsz z)) (Nat.lt_irrefl _)
  · rcases List.mem_cons.mp (I.stkSub b z) with q | q
    · exact (hf b hb).2.1 q
    · exact (hf b hb).2.2.1 q
  · obtain ⟨j, h1', h2', h3'⟩ := hσ i x v e1 e2
    obtain ⟨m0, hn0, hl0⟩ := I.loc
    have kx := S.free x h3'
    obtain ⟨u, ru, lu⟩ := hl0 j x v h1' h2' (kx.elim (fun z => .inr (.inl z)) fun z => .inr (.inr z))
    refine ⟨u, ru, .inr ?_⟩
    obtain ⟨c, ec, ic⟩ : ∃ c, X.env.cells.lookup x = some c ∧ s.heap.IsCell c (some u) := by
      rcases lu with ⟨q, _⟩ | ⟨_, c, q1, q2⟩
      · rcases kx with z | z
        · rw [z] at q; cases q
        · rw [z] at q; cases q
      · exact ⟨c, q1, q2⟩
    obtain ⟨c', ec'⟩ := hcl2 x h3'
    have : c' = c := by
      have := hcl1 x c' ec'
      rw [ec] at this; exact (Option.some.inj this).symm
    subst this
    obtain ⟨o, ho, hd⟩ := ic
    refine ⟨?_, c', ec', o, hk _ _ ho, hd⟩
    rcases e3 with e3 | e3 | e3
    · obtain ⟨k', q1, q2⟩ := relabel_look S.look e3
      rw [S.look _ h3'] at q1; cases q1
      rcases q2 with q2 | ⟨_, q2⟩ <;> cases q2
    · exact .inl e3
    · exact .inr e3
  · obtain ⟨v, o, ho, hd⟩ := I.cell x c (hcl1 x c e)
    exact ⟨v, o, hk _ _ ho, hd⟩
theorem comp_leave {pins : List (Addr × Obj)} {s s' : Shared} {σ σ' : L2.St} {H H' : Hp} {fp : List Addr} {N' : List Str} {scope : Scope} {cl : List (Str × Addr)} {C : Addr} (I : Inv X pins σ H s) (hf : ∀ b ∈ fp, FpOk X pins H b) (J : Inv (compCx X N' scope cl C s H fp) [] σ' H' s') :
    Inv X pins σ H' s' :=
  I.call' J.os J.base J.hok J.bare fun b hb => ⟨(hf b hb).2.2.2.1, (hf b hb).2.1, (hf b hb).2.2.2.2.1, (hf b hb).2.2.2.2.2⟩
theorem Inv.adopt {pins : List (Addr × Obj)} {s : Shared} {σ : L2.St} {H : Hp} {D : Addr} {vs : List V} (I : Inv X pins σ H s) (f : FpOk X pins H D) (a : AccAt s.heap D vs) : Inv X pins σ (upd H D (.lst vs)) s := by
  obtain ⟨f0, f1, f2, f3, f4, f5⟩ := f
  have hne : ∀ b u, H b = some u → b ≠ D := fun b u e z => by subst z; rw [f0] at e; cases e
  refine I.call' (ch := [D]) rfl ⟨fun b o e _ _ _ => e, fun b o e _ _ _ => ⟨o.slots, e⟩, fun b o e n hx => by rw [upd_ne (by simpa using hx)]; exact n, fun b o e _ => ⟨o, e⟩, fun b xs e => by rw [upd_ne (hne b _ e)]; exact e, fun b o u e => by rw [upd_ne (hne b _ e)]; exact e,
    fun b ps e => ⟨#[], by rw [upd_ne (hne b _ e), e]; simp⟩⟩ (fun b u e => ?_) I.bare fun b hb => ?_
  · by_cases hb : b = D
    · subst hb
      rw [upd_same] at e; cases e
      exact a
    · rw [upd_ne hb] at e
      exact (I.hok b u e).stay (fun _ _ _ q => q) (fun c q => by rw [upd_ne (hne c _ q)]; exact q) fun c xs q => by rw [upd_ne (hne c _ q)]; exact q
  · have e : b = D := by simpa using hb
    subst e
    exact ⟨f3, f1, f4, f5⟩
end
end Mi
end
section
set_option linter.all false
set_option maxRecDepth 100000
namespace Mi
open PySem PySem.Spec PyProof.Rows L2
section
variable {xr : XR} {X : Cx} {call : Nat → List W → Mem → Res W} {gv : List T}
noncomputable def CompIn (X : Cx) (xr : XR) (call : Nat → List W → Mem → Res W) (gv : List T) (N' : List Str) (scope : Scope) (elt target : Expr) (ifs : List Expr) (gens : List Comprehension) (tg : Tg) (cs : Es) (inner : E) : Prop :=
  ∀ (cl : List (Str × Addr)) (C : Addr) (s2 : Shared) (H2 : Hp) (fp : List Addr), PG (compCx X N' scope cl C s2 H2 fp) target (gT X.K tg) ∧ PTs (compCx X N' scope cl C s2 H2 fp) call gv xr cs ifs ∧ Ins xr (compCx X N' scope cl C s2 H2 fp) call gv elt gens 0 inner
noncomputable def envC (own : Nat) (keep : List Nat) (env : Env) : Env := List.replicate own none ++ keep.map fun i => (env[i]?).join
noncomputable def stC (own : Nat) (keep : List Nat) (σ : L2.St) : L2.St := List.replicate own none ++ keep.map fun i => (σ[i]?).join
theorem envC_R {K : PySem.W.Frag} {cm : List Addr} {m : Mem} {H : Hp} {env : Env} {σ : L2.St} {own : Nat} {keep : List Nat} (h : EnvR K cm m H env σ) : EnvR K cm m H (envC own keep env) (stC own keep σ) := fun i w e => by
  unfold envC at e
  unfold stC
  by_cases hi : i < own
  · rw [List.getElem?_append_left (by simpa using hi), List.getElem?_replicate] at e
    split at e <;> cases e
  · rw [List.getElem?_append_right (by simpa using hi), List.length_replicate, List.getElem?_map] at e
    rw [List.getElem?_append_right (by simpa using hi), List.length_replicate, List.getElem?_map]
    cases q : keep[i - own]? with
    | none => rw [q] at e; cases e
    | some j =>
      rw [q] at e
      have e' : (env[j]?).join = some w := Option.some.inj e
      cases r : env[j]? with
      | none => rw [r] at e'; cases e'
      | some o =>
        rw [r] at e'
        have e2 : o = some w := e'
        subst e2
        obtain ⟨v, h1, h2⟩ := h j w r
        exact ⟨v, by simp [h1], h2⟩
theorem only_inv {α : Type} {r : Res α} {x : α} {m : Mem} (h : r.only = .ok x m) : r = .ok x m := by
  cases r with
  | ok _ _ => exact h
  | exc _ _ => cases h
  | stuck => cases h
theorem only_noexc {α β : Type} {r : Res α} {f : α → Mem → Res β} (hf : ∀ x m e m', f x m ≠ .exc e m') (e : Exc) (m' : Mem) : r.only.bind f ≠ .exc e m' := by
  cases r with
  | ok x m => exact hf x m e m'
  | exc _ _ => intro h; cases h
  | stuck => intro h; cases h
theorem comp_noexc {own : Nat} {keep : List Nat} {it : E} {tg : Tg} {cs : Es} {inner : E} {env : Env} {m : Mem} (e : Exc) (m' : Mem) : ev call gv (.comp own keep it tg cs inner) env m ≠ .exc e m' := by
  unfold ev
  refine only_noexc (fun x m0 e m' => ?_) e m'
  cases h : borrow x m0 with
  | ok ts m1 =>
    refine only_noexc (fun out m2 e m' => ?_) e m'
    split <;> (intro h; cases h)
  | exc _ _ =>
    unfold borrow at h
    split at h <;> first
      | (cases h; done)
      | (split at h <;> cases h)
  | stuck => intro h; cases h
theorem comp_form {own : Nat} {keep : List Nat} {it : E} {tg : Tg} {cs : Es} {inner : E} {env : Env} {m m' : Mem} {w : W} (h : ev call gv (.comp own keep it tg cs inner) env m = .ok w m') : ∃ out, w = .t (.lst out) := by
  unfold ev at h
  obtain ⟨_, _, _, h⟩ := bind_inv h
  obtain ⟨_, _, _, h⟩ := bind_inv h
  obtain ⟨out, _, _, h⟩ := bind_inv h
  split at h <;> cases h
  exact ⟨_, rfl⟩
theorem comp_core {elt target iter : Expr} {ifs : List Expr} {gs : List Comprehension} {scope : Scope} {pos pos' : Pos} {N' : List Str} {own : Nat} {keep : List Nat} {it : E} {tg : Tg} {cs : Es} {inner : E} {use : Option (Value → Sem Unit)}
    (hc : X.calm = true) (S : CompSc X N' scope) (hown : N'.length = own + keep.length) (hkeep : ∀ (i : Nat) x, N'[own + i]? = some x → ∃ j, keep[i]? = some j ∧ X.N[j]? = some x ∧ (x, NameKind.free) ∈ scope.names)
    (hlocal : ∀ x ∈ scope.names, x.2 = NameKind.local → scope.names.lookup x.1 = some .local)
    (pi : PI X target iter (tI X.K call gv xr it)) (hfs : ∀ x, foldedSetIterable iter X.env x = pure x) (hY : CompIn X xr call gv N' scope elt target ifs (⟨target, iter, ifs, 0⟩ :: gs) tg cs inner)
    (hdis : ∀ i ∈ tgS tg, i ∉ innS inner) (hsl : ∀ i ∈ tgS tg ++ innS inner, i < own)
    {pins : List (Addr × Obj)} {s : Shared} {σ : L2.St} {H : Hp} {cm : List Addr} {m m' : Mem} {env : Env} {out : List T} {Q : Value → Shared → Prop} (I : Inv X pins σ H s) (hE : EnvR X.K cm m H env σ) (M : MemR X.K cm m H)
    (ok : ev call gv (.comp own keep it tg cs inner) env m = .ok (.t (.lst out)) m')
    (fin : ∀ (D C : Addr) (s3 : Shared) (H3 : Hp) (cm3 : List Addr) (vs : List V), Inv X pins σ (upd H3 D (.lst vs)) s3 → H3 D = none → X.K.lookup D = none → Ext cm m H cm3 m' H3 → MemR X.K cm3 m' H3 → RTs X.K cm3 m' H3 out vs → (∃ mm, s3.heap.Ns C mm) → FpOk X pins (upd H3 D (.lst vs)) C →
      compPost (model X.prog X.w) X.A X.xe use Q (.ref D) C (.ok .next) s3) :
    wpAny (model X.prog X.w) X.A (comprehension (.ListComp elt (⟨target, iter, ifs, 0⟩ :: gs) scope pos) scope X.env pos' (newList []) false (eval iter X.env) use) Q X.xe s := by
  obtain ⟨cl, hclos, hcl1, hcl2⟩ := closure_ok (scope := scope) (env := X.env) fun x hx => I.ok.has x (S.free x hx)
  unfold ev at ok
  obtain ⟨w1, m1, ok0, ok2⟩ := bind_inv ok
  have ok1 := only_inv ok0
  obtain ⟨ts, m2, ok3, ok4⟩ := bind_inv ok2
  obtain ⟨out', m3, ok5, ok6⟩ := bind_inv ok4
  split at ok6 <;> cases ok6
  rename_i hlen
  have ok5' : loopC (turnF call gv cs inner) tg ts (envC own keep env) m2 = .ok out m3 := only_inv ok5
  have hz := line_lim
  refine wpAny_comprehension_free rfl hfs hclos S.kind hlocal (thn (pi pins s σ H (fun J H1 => ∃ cm1, Ext cm m H cm1 m1 H1 ∧ MemR X.K cm1 m1 H1 ∧ Src X.K cm1 m2 H1 J ts) I ⟨env, cm, m, hE, M, by
      rw [ok1]
      exact fun cm1 H1 x M1 => ⟨ts, m2, ok3, fun J hs => ⟨cm1, x, M1, hs⟩⟩⟩) fun xv s1 h1 => thn h1 fun itv s2 h2 => ?_)
  obtain ⟨it2, fp, tn, J, H2, rfl, I2, T2, st2, f2, cm2, x2, M2, hs2⟩ := h2
  refine wpAny_newObj_type (wpAny_newFunctionEnv S.cell (by intro y hy; simp at hy) (fun h₁ hns₁ hsb₁ => ?_) S.kind)
  dsimp only at hns₁ hsb₁ ⊢
  generalize hH2 : s2.heap.push { cls := .type "list", dict := none, data := .seq ([] : List Value).toArray } = P2 at hns₁ hsb₁ ⊢
  have hCs : P2.objs.size = s2.heap.objs.size + 1 := by rw [← hH2, Heap.size_push]
  have hDC : s2.heap.objs.size ≠ P2.objs.size := by omega
  have below : ∀ b, b < s2.heap.objs.size → b ≠ P2.objs.size := fun b hb => by omega
  have old : ∀ b o, s2.heap.get? b = some o → h₁.get? b = some o := fun b o e => hsb₁.extBut b o (below b (Heap.lt_size e)) (Heap.get?_push_of_some _ (hH2 ▸ Heap.get?_push_of_some _ e))
  have hacc : h₁.get? s2.heap.objs.size = some { cls := .type "list", data := .seq ([] : List Value).toArray } := hsb₁.extBut _ _ hDC (Heap.get?_push_of_some _ (hH2 ▸ Heap.get?_push_size _ rfl))
  have flt : ∀ b ∈ fp, b < s2.heap.objs.size := fun b hb => by
    obtain ⟨o, e, _⟩ := T2.obj _ _ st2 b hb
    exact Heap.lt_size e
  have hb3 := borrow_ok M2 ok3
  have E2 : EnvR X.K cm2 m2 H2 env σ := (hE.ext x2 M M2).ext hb3.1 M2 hb3.2
  have hσl : (stC own keep σ).length = N'.length := by unfold stC; simp [hown]
  have J0 : Inv (compCx X N' scope cl P2.objs.size s2 H2 fp) [] (stC own keep σ) H2 { s2 with heap := h₁, toks := s2.toks + ([] : List (Str × Value)).length } :=
    comp_enter I2 S f2 flt (by omega) ⟨_, hns₁⟩ old hcl1 hcl2 hσl fun i x v e1 e2 => by
      unfold stC at e2
      by_cases hi : i < own
      · rw [List.getElem?_append_left (by simpa using hi), List.getElem?_replicate] at e2
        split at e2 <;> cases e2
      · rw [List.getElem?_append_right (by simpa using hi), List.length_replicate, List.getElem?_map] at e2
        have ei : N'[own + (i - own)]? = some x := by rw [show own + (i - own) = i by omega]; exact e1
        obtain ⟨j, q1, q2, q3⟩ := hkeep (i - own) x ei
        rw [q1] at e2
        have e3 : (σ[j]?).join = some v := Option.some.inj e2
        refine ⟨j, q2, ?_, q3⟩
        cases r : σ[j]? with
        | none => rw [r] at e3; cases e3
        | some o => rw [r] at e3; exact congrArg some e3
  obtain ⟨pg, pt, hin⟩ := hY cl P2.objs.size s2 H2 fp
  have fD : FpOk (compCx X N' scope cl P2.objs.size s2 H2 fp) [] H2 s2.heap.objs.size := by
    refine ⟨I2.hok.fresh (Nat.le_refl _), hDC, fun z => ?_, .inr (Nat.le_refl _), fun x c e z => ?_, fun p hp => absurd (show p ∈ ([] : List (Addr × Obj)) from hp) (by simp)⟩
    · have := I2.stkSub _ z
      rcases List.mem_cons.mp this with q | q
      · exact absurd I2.lt (by rw [← q]; exact Nat.lt_irrefl _)
      · exact I2.nofs (Nat.le_refl _) q
    · obtain ⟨v, q⟩ := I2.cell x c (hcl1 x c e)
      exact absurd q.lt (by rw [z]; exact Nat.lt_irrefl _)
  have fF : ∀ b ∈ fp, FpOk (compCx X N' scope cl P2.objs.size s2 H2 fp) [] H2 b := fun b hb => by
    refine ⟨(f2 b hb).1, below b (flt b hb), fun z => ?_, .inl hb, fun x c e => (f2 b hb).2.2.2.2.1 x c (hcl1 x c e), fun p hp => absurd (show p ∈ ([] : List (Addr × Obj)) from hp) (by simp)⟩
    rcases List.mem_cons.mp (I2.stkSub b z) with q | q
    · exact (f2 b hb).2.1 q
    · exact (f2 b hb).2.2.1 q
  have st2' : tn 0 h₁ := T2.keep _ _ _ st2 fun b _ o e => old b o e
  have hDf : s2.heap.objs.size ∉ fp := fun z => absurd (flt _ z) (Nat.lt_irrefl _)
  have hnone : ∀ i ∈ tgS tg ++ innS inner, ∀ w, (envC own keep env)[i]? ≠ some (some w) := fun i hi w e => by
    unfold envC at e
    rw [List.getElem?_append_left (by simpa using hsl i hi), List.getElem?_replicate] at e
    split at e <;> cases e
  have go := loop_ok (Y := compCx X N' scope cl P2.objs.size s2 H2 fp) (xr := xr) (call := call) (gv := gv) hc (fun _ _ z => z) (elt := elt) (scope := scope) (pos := pos) (D := s2.heap.objs.size) inner 0 target iter ifs tg cs rfl pg pt hin hdis (fun i hi => by
    show i < N'.length
    rw [hown]
    have := hsl i hi
    omega) J0 fD (vs := []) ⟨Nat.zero_le _, [], 0, .nil, hacc⟩ T2 st2' fF hDf (envC_R E2) hnone hb3.2 hs2 ok5' (by rw [List.length_nil, Nat.zero_add]; exact hlen)
  have fine : ∀ r s3, (r = .ok .next ∧ CEnd (compCx X N' scope cl P2.objs.size s2 H2 fp) s2.heap.objs.size (tgS tg ++ innS inner) [] (stC own keep σ) cm2 m2 H2 [] out m3 s3) → compPost (model X.prog X.w) X.A X.xe use Q (.ref s2.heap.objs.size) P2.objs.size r s3 := fun r s3 ⟨hr, σ3, H3, cm3, vs3, J3, x3, M3, r3, a3, ag3, d3⟩ => by
    subst hr
    rw [List.nil_append] at a3
    obtain ⟨x4, M4, sm⟩ := give_back M2 ok3 x3 M3
    have I3 : Inv X pins σ H3 s3 := comp_leave I2 f2 J3
    have fX : ∀ b, s2.heap.objs.size ≤ b → ∀ H', H' b = none → FpOk X pins H' b := fun b hb H' hn => I2.fpOk hb hn
    obtain ⟨mm, hmm, _⟩ := J3.loc
    have neC : P2.objs.size ≠ s2.heap.objs.size := Ne.symm hDC
    refine fin s2.heap.objs.size P2.objs.size s3 H3 cm3 vs3 (Inv.adopt I3 (fX _ (Nat.le_refl _) _ d3) a3) d3 ?_ (x2.trans x4) M4 (paired_mono (fun _ _ z => sm _ _ z) r3) ⟨mm, hmm⟩ (fX _ (by omega) _ ?_)
    · cases q : X.K.lookup s2.heap.objs.size with
      | none => rfl
      | some o => exact absurd (Heap.lt_size (I2.kIn _ _ q)) (Nat.lt_irrefl _)
    · rw [upd_ne neC]; exact J3.free
  exact codeAny_mono (compStart_gen (gens := ⟨target, iter, ifs, 0⟩ :: gs) rfl go (T2.self X.A 0 { s2 with heap := h₁, toks := s2.toks + ([] : List (Str × Value)).length } _ _ st2' go)) fine
structure CompK (X : Cx) (xr : XR) (call : Nat → List W → Mem → Res W) (gv : List T) (N' : List Str) (scope : Scope) (own : Nat) (keep : List Nat) (elt target iter : Expr) (ifs : List Expr) (gs : List Comprehension) (it : E) (tg : Tg) (cs : Es) (inner : E) : Prop where
  sc : CompSc X N' scope
  hown : N'.length = own + keep.length
  hkeep : ∀ (i : Nat) x, N'[own + i]? = some x → ∃ j, keep[i]? = some j ∧ X.N[j]? = some x ∧ (x, NameKind.free) ∈ scope.names
  pi : PI X target iter (tI X.K call gv xr it)
  fs : ∀ x, foldedSetIterable iter X.env x = pure x
  ins : CompIn X xr call gv N' scope elt target ifs (⟨target, iter, ifs, 0⟩ :: gs) tg cs inner
  dis : ∀ i ∈ tgS tg, i ∉ innS inner
  slt : ∀ i ∈ tgS tg ++ innS inner, i < own
variable {elt target iter : Expr} {ifs : List Expr} {gs : List Comprehension} {scope : Scope} {pos : Pos} {N' : List Str} {own : Nat} {keep : List Nat} {it : E} {tg : Tg} {cs : Es} {inner : E}
theorem pe_comp (hc : X.calm = true) (k : CompK X xr call gv N' scope own keep elt target iter ifs gs it tg cs inner) :
    PE X (.ListComp elt (⟨target, iter, ifs, 0⟩ :: gs) scope pos) (tE X.K call gv xr (.comp own keep it tg cs inner)) := by
  rintro pins s σ H Q I ⟨env, cm, m, hE, M, ho⟩
  cases h : ev call gv (.comp own keep it tg cs inner) env m with
  | stuck => rw [h] at ho; exact ho.elim
  | exc e m' => exact absurd h (comp_noexc e m')
  | ok w m' =>
    obtain ⟨out, rfl⟩ := comp_form h
    rw [h] at ho
    rw [eval_ListComp]
    refine comp_core (use := none) hc k.sc k.hown k.hkeep (fun x hx e => by rw [k.sc.look x hx, e]) k.pi k.fs k.ins k.dis k.slt I hE M h ?_
    rintro D C s3 H3 cm3 vs I3 hD _ x3 M3 r3 ⟨mm, hm⟩ fC
    refine ⟨mm, hm, fun h' hs' => ?_⟩
    have I4 : Inv X pins σ (upd H3 D (.lst vs)) { s3 with heap := h' } := I3.turned (t' := s3.toks) (it := C) (fun b o hb e => (hs'.2 b hb).trans e) fC.1 fC.2.1 fC.2.2.2.1 fC.2.2.2.2.1 fC.2.2.2.2.2
    exact ⟨.ref D, _, I4, rfl, OkR.to ho (x3.trans (.new hD)) (M3.new hD) _ (RT.newLst M3 r3 hD)⟩
theorem comp_asg {i : Nat} {x : Str} {px spos : Pos} (hc : X.calm = true) (k : CompK X xr call gv N' scope own keep elt target iter ifs gs it tg cs inner) (hN : X.N.Nodup) (hi : X.N[i]? = some x) (hx : X.env.scope.names.lookup x = some .local)
    (hsw : swapsWith (.ListComp elt (⟨target, iter, ifs, 0⟩ :: gs) scope pos) (some (.Name x px)) spos.line X.env = pure true)
    {pins : List (Addr × Obj)} {s : Shared} {σ : L2.St} {H : Hp} {cm : List Addr} {m m' : Mem} {env : Env} {out : List T} {D : Ends} (I : Inv X pins σ H s) (hE : EnvR X.K cm m H env σ) (M : MemR X.K cm m H)
    (ok : ev call gv (.comp own keep it tg cs inner) env m = .ok (.t (.lst out)) m')
    (q : ∀ (p : Addr) (H3 : Hp) (cm3 : List Addr) (vs : List V), H3 p = none → X.K.lookup p = none → Ext cm m H cm3 m' H3 → MemR X.K cm3 m' H3 → RTs X.K cm3 m' H3 out vs → D.nx (σ.set i (some (.ref p))) (upd H3 p (.lst vs))) :
    wpAny (model X.prog X.w) X.A (exec (.Assign [.Name x px] (.ListComp elt (⟨target, iter, ifs, 0⟩ :: gs) scope pos) spos) X.env) (SP X pins D) X.xe s := by
  rw [exec_Assign_Name_used _ _ _ _ hsw]
  refine wpAny_bind (wpAny_standAt (wpAny_bind ?_))
  show wpAny _ _ (do let _ ← comprehension (.ListComp elt (⟨target, iter, ifs, 0⟩ :: gs) scope pos) scope X.env _ (newList []) false (eval iter X.env) (some (assign (.Name x px) X.env))) _ _ s
  refine wpAny_bind (thn (comp_core (use := some (assign (.Name x px) X.env)) (Q := fun _ s' => SP X pins D .next s') hc k.sc k.hown k.hkeep (fun x hx e => by rw [k.sc.look x hx, e]) k.pi k.fs k.ins k.dis k.slt I hE M ok ?_) fun _ s' h => wpAny_pure (wpAny_pure h))
  rintro p C s3 H3 cm3 vs I3 hD hK x3 M3 r3 ⟨mm, hm⟩ fC
  show wpAny _ _ (assign (.Name x px) X.env (.ref p)) _ _ s3
  refine wpAny_assign_Name (store_ok2 I3 hN hi (.inl hx) (v := .ref p) rfl (fun s4 I4 ⟨a, hs4, ha⟩ => ?_) (.inr hx))
  have hac : C ≠ a := by
    rcases ha with rfl | ha
    · exact fC.2.1
    · exact fun z => fC.2.2.2.2.1 x a ha z.symm
  refine ⟨mm, hm.sameBut hs4 hac, fun h' hs' => ?_⟩
  have I5 : Inv X pins (σ.set i (some (.ref p))) (upd H3 p (.lst vs)) { s4 with heap := h' } := I4.turned (t' := s4.toks) (it := C) (fun b o hb e => (hs'.2 b hb).trans e) fC.1 fC.2.1 fC.2.2.2.1 fC.2.2.2.2.1 fC.2.2.2.2.2
  exact ⟨_, _, I5, q p H3 cm3 vs hD hK x3 M3 r3⟩
end
end Mi
end
section
set_option linter.all false
set_option maxRecDepth 100000
namespace Mi
open PySem PySem.Spec PyProof.Rows L2
section
variable {xr : XR} {Y : Cx} {call : Nat → List W → Mem → Res W} {gv : List T}
end
section
variable {xr : XR} {X : Cx} {call : Nat → List W → Mem → Res W} {gv : List T}
end
end Mi
end
section
set_option linter.all false
set_option maxRecDepth 100000
namespace Mi
open PySem PySem.Spec PyProof.Rows L2
section
variable {K : PySem.W.Frag} {cm : List Addr} {m : Mem} {H : Hp} {xr : XR} {X : Cx} {call : Nat → List W → Mem → Res W} {gv : List T}
theorem RTs.nil_iff {ts : List T} {vs : List V} (h : RTs K cm m H ts vs) : (!ts.isEmpty) = !vs.isEmpty := by cases h <;> rfl
theorem tru_of {w : W} {v : V} {t : T} (M : MemR K cm m H) (r : RW K cm m H w v) (e : view w m = some t) (f : fitT t = true) : TruV K v H (truthT t) := by
  have hz := line_lim
  cases t with
  | lst ts =>
    obtain ⟨a, vs, rfl, h1, h2⟩ := view_lst M r e
    exact .inl ⟨vs, .of h1, h2.nil_iff⟩
  | non => cases (view_t r e (fun _ z => by cases z)).vnon; exact rfl
  | bl b => cases (view_t r e (fun _ z => by cases z)).vbl; exact rfl
  | int i => cases (view_t r e (fun _ z => by cases z)).vint; exact rfl
  | str cs =>
    cases (view_t r e (fun _ z => by cases z)).vstr
    have hl : cs.length ≤ lim := of_decide_eq_true f
    refine ⟨by rw [strLen]; omega, ?_⟩
    rw [strLen]
    cases cs with
    | nil => rfl
    | cons c cs =>
      show true = _
      symm
      simp
      omega
  | tup ts =>
    obtain ⟨a, vs, rfl, h1, h2⟩ := (view_t r e (fun _ z => by cases z)).itup
    exact .inr (.inl ⟨vs, h1, h2.nil_iff⟩)
  | dct ks ts =>
    have h := view_t r e (fun _ z => by cases z)
    cases h with
    | @dct a ks ts vs h1 h2 h3 h4 h5 =>
      refine .inr (.inr ⟨_, h1, ?_⟩)
      cases ks with
      | nil => rfl
      | cons k ks =>
        cases vs with
        | nil => simp at h3
        | cons v vs => rfl
  | scr ns =>
    obtain ⟨a, rfl, h1⟩ := (view_t r e (fun _ z => by cases z)).vscr
    exact .inl ⟨_, h1.sq, by cases ns <;> rfl⟩
theorem truthW_ok {w : W} {k : Bool → List Addr → Mem → Hp → Prop} (h : OkR K (truthW w m) xr cm m H k) : ∃ t, view w m = some t ∧ fitT t = true ∧ OkR K (.ok (truthT t) m) xr cm m H k := by
  unfold truthW at h
  split at h
  · split at h
    · exact ⟨_, ‹_›, ‹_›, h⟩
    · exact h.elim
  · exact h.elim
theorem boolW_ok {w : W} {k : Bool → List Addr → Mem → Hp → Prop} (h : OkR K (boolW w m) xr cm m H k) : ∃ b, w = .t (.bl b) ∧ OkR K (.ok b m) xr cm m H k := by
  unfold boolW at h
  split at h
  · exact ⟨_, rfl, h⟩
  · exact h.elim
theorem pt_of {e : Expr} {a : E} (h : PE X e (tE X.K call gv xr a)) (he : ∀ whole, isTrue e X.env whole = (do let v ← whole; standAt e.pos; holding [v] (truthy v))) : PT X e (tT X.K call gv xr a) := by
  refine PT.mono (pt_truth h he) fun σ H Q ⟨env, cm, m, hE, M, ho⟩ => ⟨env, cm, m, hE, M, ho.bind.mono fun w cm1 m1 H1 x1 M1 o1 v rv => ?_⟩
  obtain ⟨t, e1, f1, o2⟩ := truthW_ok o1
  exact ⟨truthT t, tru_of M1 rv e1 f1, OkR.now o2 M1⟩
theorem pe_andW {a b : Expr} {rest : List Expr} {pos : Pos} {ea eb : E} (ha : PE X a (tE X.K call gv xr ea)) (hb : PE X (.BoolOp .And (b :: rest) pos) (tE X.K call gv xr eb)) : PE X (.BoolOp .And (a :: b :: rest) pos) (tE X.K call gv xr (.and ea eb)) := by
  refine PE.mono (pe_and ha hb) ?_
  rintro σ H Q ⟨env, cm, m, hE, M, ho⟩
  unfold ev at ho
  refine ⟨env, cm, m, hE, M, ho.bind.mono fun w cm1 m1 H1 x1 M1 o1 v rv => ?_⟩
  obtain ⟨c, rfl, o2⟩ := boolW_ok o1.bind
  cases RT.vbl rv
  have o3 := OkR.now o2 M1
  refine ⟨c, rfl, ?_⟩
  cases c with
  | true => exact iteT ⟨env, cm1, m1, hE.ext x1 M M1, M1, o3⟩
  | false => exact iteF (OkR.now o3 M1 _ (.bl false))
theorem tT_bool {a : E} {σ : L2.St} {H : Hp} {env : Env} {cm : List Addr} {m : Mem} {f : Bool → Mem → Res W} {Q : Bool → Hp → Prop} (hE : EnvR K cm m H env σ) (M : MemR K cm m H)
    (ho : OkR K (((ev call gv a env m).bind fun x m => (boolW x m).bind f).bind truthW) xr cm m H fun k _ _ H' => Q k H') :
    tT K call gv xr a σ H fun c H1 => ∃ cm1 m1, Ext cm m H cm1 m1 H1 ∧ MemR K cm1 m1 H1 ∧ OkR K ((f c m1).bind truthW) xr cm1 m1 H1 fun k _ _ H' => Q k H' := by
  refine ⟨env, cm, m, hE, M, ?_⟩
  cases h : ev call gv a env m with
  | stuck => rw [h] at ho; exact ho.elim
  | exc e m' => rw [h] at ho; exact ho
  | ok w m1 =>
    rw [h] at ho
    have ho' : OkR K (((boolW w m1).bind f).bind truthW) xr cm m H fun k _ _ H' => Q k H' := ho
    cases w with
    | f a => exact ho'.elim
    | c i => exact ho'.elim
    | t x =>
      cases x with
      | bl b => exact fun cm1 H1 x1 M1 => ⟨cm1, m1, x1, M1, OkR.shift ho' x1⟩
      | _ => exact ho'.elim
theorem pw_orW {a b : Expr} {rest : List Expr} {pos : Pos} {ea eb : E} (ha : PT X a (tT X.K call gv xr ea)) (hb : PW X (.BoolOp .Or (b :: rest) pos) (tT X.K call gv xr eb)) : PW X (.BoolOp .Or (a :: b :: rest) pos) (tT X.K call gv xr (.or ea eb)) := by
  rintro whole pins s σ H Q I ⟨env, cm, m, hE, M, ho⟩
  unfold ev at ho
  obtain ⟨env', cm', m', hE', M', ho'⟩ := tT_bool hE M ho
  refine pw_or ha hb whole pins s σ H Q I ⟨env', cm', m', hE', M', ho'.mono fun c cm1 m1 H1 _ _ ⟨cm2, m2, x2, M2, o2⟩ => ?_⟩
  cases c with
  | true => exact iteT (OkR.now (show OkR X.K (.ok true m2) xr cm2 m2 H1 _ from o2) M2)
  | false => exact iteF ⟨env, cm2, m2, hE.ext x2 M M2, M2, o2⟩
theorem pt_notW {a : Expr} {pos : Pos} {ea : E} (ha : PT X a (tT X.K call gv xr ea)) : PT X (.UnaryOp .Not a pos) (tT X.K call gv xr (.not ea)) := by
  refine PT.mono (pt_not ha) ?_
  rintro σ H Q ⟨env, cm, m, hE, M, ho⟩
  unfold ev at ho
  obtain ⟨env', cm', m', hE', M', ho'⟩ := tT_bool hE M ho
  exact ⟨env', cm', m', hE', M', ho'.mono fun c cm1 m1 H1 _ _ ⟨cm2, m2, x2, M2, o2⟩ => OkR.now (show OkR X.K (.ok (!c) m2) xr cm2 m2 H1 _ from o2) M2⟩
end
end Mi
end
section
set_option linter.all false
set_option maxRecDepth 100000
namespace Mi
open PySem PySem.Spec PyProof.Rows L2
open Builtin
theorem noFill_tuple_mul : fillsNumberSlot (.type "tuple") "mul" = pure false :=
  PySem.fillsNumberSlot_seq (id := "tuple.__mul__") (r := some (.builtin "tuple.__rmul__")) F.slot_tuple_mul.lookup (by decide +kernel) F.slot_tuple_rmul.lookup (by decide +kernel)
theorem repeat_tuple : seqRepeat? (.type "tuple") = pure (some (.builtin "tuple.__mul__")) := by
  unfold seqRepeat?
  rw [PySem.seqSlot_of (T := "tuple") (name := "__mul__") (id := "tuple.__mul__") F.slot_tuple_mul.lookup (by decide +kernel), PySem.seqSlot_of (T := "tuple") (name := "__rmul__") (id := "tuple.__rmul__") F.slot_tuple_rmul.lookup (by decide +kernel)]
  rfl
theorem rmul_tuple (a : Int) (t : Tok) (l : Addr) (items : Array Value) (n : Nat) (dd : Option Addr) (sl : Array (Option Value)) :
    Meets (Builtin.«int.__rmul__» ⟨[.int a t, .ref l], []⟩) (fun _ R s => s.heap.get? l = some { cls := .type "tuple", dict := dd, data := .seq items n, slots := sl } ∧ R (.ok (.ret Value.notImplemented)) s) :=
  .of_wp fun prog w A R s h => by obtain ⟨hp, g, d, tk, os⟩ := s; obtain ⟨hl, h⟩ := h; wp_walk; exact ⟨_, rfl, h⟩
theorem tmul0 (l : Addr) (items : Array Value) (n : Nat) (dd : Option Addr) (sl : Array (Option Value)) (k : Int) (u : Tok) (h1 : (decide (k < -(2 ^ 63)) || decide (k ≥ 2 ^ 63)) = false) (hc : (items.isEmpty || k == 1) = true) :
    Meets (Builtin.«tuple.__mul__» ⟨[.ref l, .int k u], []⟩) (fun _ R s => s.heap.get? l = some { cls := .type "tuple", dict := dd, data := .seq items n, slots := sl } ∧ R (.ok (.ret (Value.ref l))) s) :=
  .of_wp fun prog w A R s h => by obtain ⟨hp, g, d, tk, os⟩ := s; obtain ⟨hl, h⟩ := h; have f1 := AutoSeq1.idx_int; have f2 := AutoSeq1.sub_tuple_tuple; wp_walk; refine wpAny_ite_false (decide_eq_false (Bool.eq_false_iff.mp h1)) ?_; wp_walk using wpAny_loadPart' hl; exact ⟨_, rfl, h⟩
theorem tmul1 (l : Addr) (items : Array Value) (n : Nat) (dd : Option Addr) (sl : Array (Option Value)) (k : Int) (u : Tok) (h1 : (decide (k < -(2 ^ 63)) || decide (k ≥ 2 ^ 63)) = false) (hc : ¬ (items.isEmpty || k == 1) = true) (hc1 : (decide (k ≤ 0) || items.isEmpty) = true) :
    Meets (Builtin.«tuple.__mul__» ⟨[.ref l, .int k u], []⟩) (fun _ R s => s.heap.get? l = some { cls := .type "tuple", dict := dd, data := .seq items n, slots := sl } ∧ R (.ok (.ret (Value.ref s.heap.objs.size))) { s with heap := s.heap.push { cls := Value.type "tuple", data := Data.seq #[] }, toks := s.toks }) :=
  .of_wp fun prog w A R s h => by obtain ⟨hp, g, d, tk, os⟩ := s; obtain ⟨hl, h⟩ := h; have f1 := AutoSeq1.idx_int; have f2 := AutoSeq1.sub_tuple_tuple; wp_walk; refine wpAny_ite_false (decide_eq_false (Bool.eq_false_iff.mp h1)) ?_; wp_walk using wpAny_loadPart' hl; exact ⟨_, rfl, h⟩
theorem tmul2 (l : Addr) (items : Array Value) (n : Nat) (dd : Option Addr) (sl : Array (Option Value)) (k : Int) (u : Tok) (h1 : (decide (k < -(2 ^ 63)) || decide (k ≥ 2 ^ 63)) = false) (hc : ¬ (items.isEmpty || k == 1) = true) (hc1 : ¬ (decide (k ≤ 0) || items.isEmpty) = true)
    (hc2 : ¬ (items.size : Int) * k > (2 ^ 63 - 1) / 8) (hc3 : ¬ Tuple.tupleTooMany ((items.size : Int) * k) = true) (hz : (List.foldl (fun x1 x2 => x1 ++ x2) #[] (List.replicate k.toNat items)).size ≤ sizeLine) :
    Meets (Builtin.«tuple.__mul__» ⟨[.ref l, .int k u], []⟩) (fun _ R s => s.heap.get? l = some { cls := .type "tuple", dict := dd, data := .seq items n, slots := sl } ∧ R (.ok (.ret (Value.ref s.heap.objs.size))) { s with heap := s.heap.push { cls := Value.type "tuple", data := Data.seq (List.foldl (fun x1 x2 => x1 ++ x2) #[] (List.replicate k.toNat items)) }, toks := s.toks }) :=
  .of_wp fun prog w A R s h => by obtain ⟨hp, g, d, tk, os⟩ := s; obtain ⟨hl, h⟩ := h; have f1 := AutoSeq1.idx_int; have f2 := AutoSeq1.sub_tuple_tuple; wp_walk; refine wpAny_ite_false (decide_eq_false (Bool.eq_false_iff.mp h1)) ?_; wp_walk using wpAny_loadPart' hl; refine wpAny_ite_false (decide_eq_false hc2) ?_; wp_walk using wpAny_loadPart' hl; exact ⟨_, rfl, h⟩
section
variable {X : Cx}
theorem tooMany_no {n : Nat} (h : n ≤ sizeLine) : ¬ Tuple.tupleTooMany (n : Int) = true := by
  unfold Tuple.tupleTooMany
  intro hc
  have := of_decide_eq_true hc
  have e := sizeLine_eq
  omega
theorem op_repT : OpR X (binaryOp .Mult) (fun x y H Q => ∃ l k xs, x = .ref l ∧ y = .int k ∧ SqT X.K H l xs ∧ (-(2 ^ 63) ≤ k ∧ k < 2 ^ 63) ∧ xs.length * k.toNat ≤ sizeLine ∧ ((xs = [] ∨ k = 1) → Q (.ref l) H) ∧
    (¬ (xs = [] ∨ k = 1) → ∀ p, H p = none → Q (.ref p) (upd H p (.tup (List.replicate k.toNat xs).flatten)))) := by
  intro pins s σ H x y v u Q I rx ry h
  obtain ⟨l, k, xs, rfl, rfl, hH, ⟨h1, h2⟩, hz, q1, q2⟩ := h
  cases rx
  obtain ⟨t, rfl⟩ := ry
  obtain ⟨its, r, ⟨⟨cls, dd, data, sl⟩, ho, hc, n, hd⟩, hz2⟩ := I.tuple hH
  simp only at hc hd
  subst hc hd
  have hl := r.length
  have g1 : (decide (k < -(2 ^ 63)) || decide (k ≥ 2 ^ 63)) = false := by
    rw [decide_eq_false (by omega), decide_eq_false (by omega)]; rfl
  have road : ∀ {Q' : Value → Shared → Prop}, wpAny (model X.prog X.w) X.A (call (.builtin "tuple.__mul__") [.ref l, .int k t]) Q' X.xe s → wpAny (model X.prog X.w) X.A (binaryOp .Mult (.ref l) (.int k t)) Q' X.xe s := fun hq =>
    wpAny_binaryOp_repeat_ref (T := "tuple") (U := "int") (by decide) ⟨_, ho, rfl⟩ (fun s' => typeIs_int s' k t) noFill_tuple_mul F.fills_int_mul F.slot_int_rmul repeat_tuple F.slot_int_index.lookup
      (call_meets F.slot_int_rmul (typeIs_int s k t) F.entry_int_rmul (F.args_int_rmul_2 _ _) (rmul_tuple k t l its.toArray n dd sl) ⟨ho, rfl, ⟨_, ho, rfl⟩, hq⟩)
  refine road ?_
  by_cases hc : xs = [] ∨ k = 1
  · have g2 : (its.toArray.isEmpty || k == 1) = true := by
      rcases hc with rfl | rfl
      · cases r; rfl
      · simp
    exact call_meets F.slot_tuple_mul ⟨_, ho, rfl⟩ F.entry_tuple_mul (F.args_tuple_mul_2 _ _) (tmul0 l its.toArray n dd sl k t g1 g2) ⟨ho, .ref l, H, I, rfl, q1 hc⟩
  · have hne : its ≠ [] := fun e => hc (.inl (r.nil_iff.mp e))
    have g2 : ¬ (its.toArray.isEmpty || k == 1) = true := by
      intro hh
      rw [Bool.or_eq_true] at hh
      rcases hh with hh | hh
      · exact hne (by simpa using hh)
      · exact hc (.inr (eq_of_beq hh))
    have fin : ∀ arr : Array Value, arr = (List.replicate k.toNat its).flatten.toArray → EP X pins σ Q (.ref s.heap.objs.size) { s with heap := s.heap.push { cls := .type "tuple", data := .seq arr } } := fun arr e => by
      subst e
      refine ⟨.ref s.heap.objs.size, _, I.laid (t' := s.toks) (o := .tup (List.replicate k.toNat xs).flatten) (fun b ob q => Heap.get?_push_of_some _ q) (Nat.le_refl _) ?_, rfl, q2 hc _ (I.hok.fresh (Nat.le_refl _))⟩
      exact ⟨by rw [len_rep, Nat.mul_comm]; exact hz, _, r.rep k.toNat, TupP.new _ _⟩
    by_cases h0 : k ≤ 0
    · have g3 : (decide (k ≤ 0) || its.toArray.isEmpty) = true := by rw [decide_eq_true h0]; rfl
      refine call_meets F.slot_tuple_mul ⟨_, ho, rfl⟩ F.entry_tuple_mul (F.args_tuple_mul_2 _ _) (tmul1 l its.toArray n dd sl k t g1 g2 g3) ⟨ho, fin #[] ?_⟩
      have : k.toNat = 0 := by omega
      rw [this]; rfl
    · have g3 : ¬ (decide (k ≤ 0) || its.toArray.isEmpty) = true := by
        intro hh
        rw [Bool.or_eq_true] at hh
        rcases hh with hh | hh
        · exact h0 (of_decide_eq_true hh)
        · exact hne (by simpa using hh)
      have hk : (k.toNat : Int) = k := by omega
      have hs : (its.toArray.size : Int) * k = ((xs.length * k.toNat : Nat) : Int) := by
        rw [List.size_toArray, ← hl, Int.natCast_mul, hk]
      have hsl : (sizeLine : Nat) = 16777216 := sizeLine_eq
      have hf : List.foldl (fun x1 x2 => x1 ++ x2) #[] (List.replicate k.toNat its.toArray) = (List.replicate k.toNat its).flatten.toArray := by
        have := foldl_rep its k.toNat []
        rw [List.nil_append] at this
        exact this
      refine call_meets F.slot_tuple_mul ⟨_, ho, rfl⟩ F.entry_tuple_mul (F.args_tuple_mul_2 _ _) (tmul2 l its.toArray n dd sl k t g1 g2 g3 (by rw [hs]; omega) (by rw [hs]; exact tooMany_no hz) ?_) ⟨ho, fin _ hf⟩
      rw [hf, List.size_toArray, len_rep, ← hl, Nat.mul_comm]
      exact hz
end
end Mi
end
section
set_option linter.all false
set_option maxRecDepth 100000
namespace Mi
open PySem PySem.Spec PyProof.Rows L2
section
variable {K : PySem.W.Frag} {cm : List Addr} {m : Mem} {H : Hp} {xr : XR} {X : Cx} {call : Nat → List W → Mem → Res W} {gv : List T}
theorem pe_varW {i : Nat} {x : Str} {pos : Pos} (hN : X.N[i]? = some x) (hv : Vis X.env.scope x) (hd : (x == ("__debug__" : Str)) = false) (hcd : (x == ("__classdict__" : Str)) = false) : PE X (.Name x pos) (tE X.K call gv xr (.var i)) := by
  refine PE.mono (pe_var hN hv hd hcd) ?_
  rintro σ H Q ⟨env, cm, m, hE, M, ho⟩
  unfold ev at ho
  split at ho
  · rename_i w e
    obtain ⟨v, h1, h2⟩ := hE i w e
    exact ⟨v, h1, OkR.now ho M v h2⟩
  · exact ho.elim
noncomputable def GlobOk (K : PySem.W.Frag) (mg : Str → Option Value) (x : Str) (t : T) : Prop := ∃ u v, mg x = some u ∧ RelV v u ∧ ∀ cm m H, RT K cm m H t v
theorem pe_glW {k : Nat} {x : Str} {t : T} {pos : Pos} (hg : Gl X x) (hk : gv[k]? = some t) (ok : GlobOk X.K X.mg x t) (hd : (x == ("__debug__" : Str)) = false) : PE X (.Name x pos) (tE X.K call gv xr (.gl k)) := by
  obtain ⟨u, v, h1, h2, h3⟩ := ok
  refine PE.mono (pe_glob hg h1 h2 hd) ?_
  rintro σ H Q ⟨env, cm, m, hE, M, ho⟩
  unfold ev at ho
  rw [hk] at ho
  exact OkR.now (a := W.t t) ho M v (h3 cm m H)
theorem pe_intW {i : Int} {j pos} : PE X (.Constant (.int i) j pos) (tE X.K call gv xr (.con (.int i))) := PE.mono pe_int fun σ H Q ⟨env, cm, m, hE, M, ho⟩ => by
  unfold ev at ho
  exact OkR.now ho M _ (.int i)
theorem pe_blW {b : Bool} {j pos} : PE X (.Constant (.bool b) j pos) (tE X.K call gv xr (.con (.bl b))) := PE.mono pe_bl fun σ H Q ⟨env, cm, m, hE, M, ho⟩ => by
  unfold ev at ho
  exact OkR.now ho M _ (.bl b)
theorem pe_nonW {j pos} : PE X (.Constant .none j pos) (tE X.K call gv xr (.con .non)) := PE.mono pe_non fun σ H Q ⟨env, cm, m, hE, M, ho⟩ => by
  unfold ev at ho
  exact OkR.now ho M _ .non
theorem str_of {x : Str} {cs : List Nat} (h : x.cps.toList = cs) : x = ⟨cs.toArray⟩ := by
  subst h
  cases x
  simp
theorem pe_strW {x : Str} {cs : List Nat} {j pos} (h : x.cps.toList = cs) : PE X (.Constant (.str x) j pos) (tE X.K call gv xr (.con (.str cs))) := PE.mono pe_str fun σ H Q ⟨env, cm, m, hE, M, ho⟩ => by
  unfold ev at ho
  have := OkR.now ho M _ (.str cs)
  rw [str_of h]
  exact this
theorem op_bin_mul : OpR X (binaryOp .Mult) (r2 X.K xr (fBin .Mult)) := by
  rintro pins s σ H x y v u Q I rx ry ⟨cm, m, a, b, M, ra, rb, ho⟩
  obtain ⟨t, e, ho⟩ := pur_ok ho
  obtain ⟨ta, tb, ea, eb, e⟩ := bind2 e
  change mulT ta tb = some t at e
  unfold mulT at e
  split at e
  rotate_left
  · cases e
  rename_i k
  split at e
  · split at e <;> cases e
    cases (view_t ra ea (fun _ z => by cases z)).vint
    cases (view_t rb eb (fun _ z => by cases z)).vint
    exact op_mulB pins s σ H _ _ v u Q I rx ry ⟨_, _, rfl, rfl, ‹_›, ans ho M (.int _)⟩
  · split at e <;> cases e
    rename_i ts hc
    obtain ⟨p, vs, rfl, h1, r1⟩ := (view_t ra ea (fun _ z => by cases z)).itup
    cases (view_t rb eb (fun _ z => by cases z)).vint
    have l1 := r1.length
    have hz := line_lim
    have hl : (lim : Int) < 2 ^ 63 := by unfold lim; decide
    refine op_repT pins s σ H _ _ v u Q I rx ry ⟨p, _, vs, rfl, rfl, h1, by omega, by rw [← l1]; omega, fun hq => ?_, fun _ l hl => ansTup ho M (paired_rep r1 _) hl⟩
    have e : repT ts k.toNat = ts := by
      rcases hq with rfl | rfl
      · cases r1; simp [repT]
      · simp [repT]
    rw [e] at ho
    exact ans ho M (.mtup h1 r1)
  · split at e <;> cases e
    rename_i hc
    obtain ⟨p, vs, rfl, h1, r1⟩ := view_lst M ra ea
    cases (view_t rb eb (fun _ z => by cases z)).vint
    have l1 := r1.length
    have hz := line_lim
    have hl : (lim : Int) < 2 ^ 63 := by unfold lim; decide
    exact op_rep pins s σ H _ _ v u Q I rx ry ⟨p, _, vs, rfl, rfl, h1, by omega, by omega, by rw [← l1]; omega, fun l hl => ansLst ho M (paired_rep r1 _) hl⟩
  · split at e <;> cases e
    rename_i cs hc
    cases (view_t ra ea (fun _ z => by cases z)).vstr
    cases (view_t rb eb (fun _ z => by cases z)).vint
    obtain ⟨tx, rfl⟩ := rx
    obtain ⟨ty, rfl⟩ := ry
    rcases hc with rfl | rfl
    · refine SB.mul ⟨by decide, fun h => absurd (by decide) h, fun h => absurd (by decide) h⟩ fun t' k => ⟨.str ⟨([] : List Nat).toArray⟩, H, I.tok _, ⟨t', ?_⟩, ans ho M (.str _)⟩
      rfl
    · refine SB.mul ⟨by decide, fun _ h => ?_, fun _ h => ?_⟩ fun t' k => ⟨.str ⟨cs.toArray⟩, H, I.tok _, ⟨t', ?_⟩, ?_⟩
      · simp at h
      · simp at h
      · unfold Txt.mul; rw [if_neg (by decide), if_pos (by simp)]
      · have := ans ho M (.str _)
        rw [show repT cs (1 : Int).toNat = cs by simp [repT]] at this
        exact this
  all_goals cases e
theorem op_no {op : Operator} (h : ∀ x y, binT op x y = none) : OpR X (binaryOp op) (r2 X.K xr (fBin op)) := by
  rintro pins s σ H x y v u Q I rx ry ⟨cm, m, a, b, M, ra, rb, ho⟩
  obtain ⟨t, e, ho⟩ := pur_ok ho
  obtain ⟨ta, tb, ea, eb, e⟩ := bind2 e
  rw [h] at e
  cases e
theorem op_bin (op : Operator) : OpR X (binaryOp op) (r2 X.K xr (fBin op)) := by
  cases op <;> first | exact op_bin_add | exact op_bin_sub | exact op_bin_mul | exact op_bin_fdiv | exact op_bin_mod | exact op_bin_pow | exact op_no fun x y => by cases x <;> cases y <;> rfl
variable {a b c : Expr} {ea eb ec : E} {pos : Pos}
theorem pe_binW {op : Operator} (ha : PE X a (tE X.K call gv xr ea)) (hb : PE X b (tE X.K call gv xr eb)) : PE X (.BinOp a op b pos) (tE X.K call gv xr (.bin op ea eb)) :=
  PE.mono (pe_op (op_bin op) ha hb) (t2_of fun env m => by rw [ev]; rfl)
theorem pe_cmpW {op : CmpOp} (ha : PE X a (tE X.K call gv xr ea)) (hb : PE X b (tE X.K call gv xr eb)) (hm : behindInMarks op b = false) (hu : X.A.units + 64 < cLine) : PE X (.Compare a [op] [b] pos) (tE X.K call gv xr (.cmp op ea eb)) :=
  PE.mono (pe_cmpR (op_cmp hu op) ha hb hm) (t2_of fun env m => by rw [ev]; rfl)
theorem fCmp_bl {op : CmpOp} {x y w : W} {m m' : Mem} (h : fCmp op x y m = .ok w m') : ∃ k, w = .t (.bl k) ∧ m' = m := by
  unfold fCmp at h
  cases q : ((view x m).bind fun x => (view y m).bind fun y => cmpT op x y) with
  | none => rw [q] at h; cases h
  | some k => rw [q] at h; cases h; exact ⟨k, rfl, rfl⟩
theorem pt_bool {f : Env → Mem → Res W} {e : Expr} {te : TE} {a : E} (h : PT X e (tTest te)) (hk : ∀ env m w m', ev call gv a env m = .ok w m' → ∃ k, w = .t (.bl k)) (he : ∀ σ H Q, tE X.K call gv xr a σ H Q → te σ H Q) : PT X e (tT X.K call gv xr a) := by
  refine PT.mono h fun σ H Q ⟨env, cm, m, hE, M, ho⟩ => he σ H _ ⟨env, cm, m, hE, M, ?_⟩
  cases q : ev call gv a env m with
  | stuck => rw [q] at ho; exact ho.elim
  | exc e m' => rw [q] at ho; exact ho
  | ok w m' =>
    obtain ⟨k, rfl⟩ := hk env m w m' q
    rw [q] at ho
    intro cm1 H1 x1 M1 v rv
    cases RT.vbl rv
    exact ⟨k, rfl, (show OkR X.K (.ok k m') xr cm m H _ from ho) cm1 H1 x1 M1⟩
theorem pt_cmpW {op : CmpOp} (ha : PE X a (tE X.K call gv xr ea)) (hb : PE X b (tE X.K call gv xr eb)) (hm : behindInMarks op b = false) (hu : X.A.units + 64 < cLine) : PT X (.Compare a [op] [b] pos) (tT X.K call gv xr (.cmp op ea eb)) := by
  refine pt_bool (f := fun _ _ => .stuck) (pt_cmpR (op_cmp hu op) ha hb hm) (fun env m w m' h => ?_) (t2_of fun env m => by rw [ev]; rfl)
  rw [ev] at h
  obtain ⟨x, m1, _, h⟩ := bind_inv h
  obtain ⟨y, m2, _, h⟩ := bind_inv h
  obtain ⟨k, hk, _⟩ := fCmp_bl h
  exact ⟨k, hk⟩
theorem pe_ixW (ha : PE X a (tE X.K call gv xr ea)) (hb : PE X b (tE X.K call gv xr eb)) (hs : PlainIx b) : PE X (.Subscript a b pos) (tE X.K call gv xr (.ix ea eb)) :=
  PE.mono (pe_ix ix_ix ha hb hs) (t2_of fun env m => by rw [ev]; rfl)
end
end Mi
end
section
set_option linter.all false
set_option maxRecDepth 100000
namespace Mi
open PySem PySem.Spec PyProof.Rows L2
section
variable {K : PySem.W.Frag} {cm : List Addr} {m : Mem} {H : Hp} {xr : XR} {X : Cx} {call : Nat → List W → Mem → Res W} {gv : List T}
variable {a b c e : Expr} {es : List Expr} {ea eb ec : E} {eas : Es} {pos p : Pos}
noncomputable def notStar : Expr → Bool
  | .Starred _ _ => false
  | _ => true
theorem star_c {env : PySem.Env} (h : notStar e = true) : starEach (e :: es) env = (false, eval e env) :: starEach es env := by
  cases e <;> first | rfl | cases h
theorem star_f {env : PySem.Env} : ∀ {es : List Expr}, es.all notStar = true → (backTo pos (starEach es env)).all (fun x => !x.1) = true
  | [], _ => rfl
  | e :: es, h => by
    rw [List.all_cons, Bool.and_eq_true] at h
    rw [star_c h.1]
    show (!false && (backTo pos (starEach es env)).all (fun x => !x.1)) = true
    rw [star_f h.2]
    rfl
theorem star_a {env : PySem.Env} {es : List Expr} (h : es.all notStar = true) : (backTo pos (starEach es env)).any (·.1) = false := by
  have h1 := star_f (pos := pos) (env := env) h
  rw [List.any_eq_false]
  intro x hx
  have := List.all_eq_true.mp h1 x hx
  simpa using this
theorem pa_nilW : PA X [] (tA X.K call gv xr .nil) := PA.mono pa_nil fun σ H Q ⟨env, cm, m, hE, M, ho⟩ => by
  rw [evs] at ho
  exact OkR.now ho M [] .nil
theorem pa_consW (ha : PE X e (tE X.K call gv xr ea)) (hr : PA X es (tA X.K call gv xr eas)) (hs : notStar e = true) : PA X (e :: es) (tA X.K call gv xr (.cons ea eas)) := by
  refine PA.mono (pa_cons ha hr (star_c hs)) ?_
  rintro σ H Q ⟨env, cm, m, hE, M, ho⟩
  rw [evs] at ho
  refine ⟨env, cm, m, hE, M, ho.bind.mono fun w cm1 m1 H1 x1 M1 o1 v rv => ?_⟩
  exact ⟨env, cm1, m1, hE.ext x1 M M1, M1, o1.bind.mono fun ws cm2 m2 H2 x2 M2 o2 vs rvs => OkR.now o2 M2 (v :: vs) (.cons (rv.ext x2 M1 M2) rvs)⟩
theorem frz_noexc {w : W} {m m' : Mem} {x : Exc} : frz w m ≠ .exc x m' := by
  intro h
  unfold frz at h
  split at h
  · cases h
  · cases h
  · split at h <;> cases h
theorem frzs_noexc : ∀ {ws : List W} {m m' : Mem} {x : Exc}, frzs ws m ≠ .exc x m'
  | [], _, _, _ => fun h => by cases h
  | w :: ws, m, m', x => fun h => by
    rw [frzs] at h
    cases q : frz w m with
    | stuck => rw [q] at h; cases h
    | exc y m1 => exact frz_noexc q
    | ok t m1 =>
      rw [q] at h
      have h' : ((frzs ws m1).bind fun ts m => Res.ok (t :: ts) m) = .exc x m' := h
      cases q2 : frzs ws m1 with
      | stuck => rw [q2] at h'; cases h'
      | exc y m2 => exact frzs_noexc q2
      | ok ts m2 => rw [q2] at h'; cases h'
theorem frzs_ok : ∀ {ws : List W} {vs : List V} {ts : List T} {m m' : Mem}, MemR K cm m H → RWs K cm m H ws vs → frzs ws m = .ok ts m' → Ext cm m H cm m' H ∧ MemR K cm m' H ∧ RTs K cm m' H ts vs
  | [], _, _, _, _, M, .nil, e => by cases e; exact ⟨.refl, M, .nil⟩
  | w :: ws, v :: vs, ts, m, m', M, .cons r rs, e => by
    rw [frzs] at e
    obtain ⟨t, m1, e1, e⟩ := bind_inv e
    obtain ⟨us, m2, e2, e⟩ := bind_inv e
    cases e
    obtain ⟨x1, M1, r1⟩ := frz_ok M r e1
    obtain ⟨x2, M2, r2⟩ := frzs_ok M1 (RWs.ext x1 M M1 rs) e2
    exact ⟨x1.trans x2, M2, .cons (RT.ext x2 M1 M2 r1) r2⟩
theorem frzs_get {α : Type} {ws : List W} {f : List T → Mem → Res α} {k : α → List Addr → Mem → Hp → Prop} (h : OkR K ((frzs ws m).bind f) xr cm m H k) : ∃ ts m', frzs ws m = .ok ts m' ∧ OkR K (f ts m') xr cm m H k := by
  cases q : frzs ws m with
  | stuck => rw [q] at h; exact h.elim
  | exc x m' => exact absurd q frzs_noexc
  | ok ts m' => rw [q] at h; exact ⟨ts, m', rfl, h⟩
theorem if_get {α : Type} {c : Prop} [Decidable c] {r : Res α} {k : α → List Addr → Mem → Hp → Prop} (h : OkR K (if c then r else .stuck) xr cm m H k) : c ∧ OkR K r xr cm m H k := by
  by_cases hc : c
  · rw [if_pos hc] at h; exact ⟨hc, h⟩
  · rw [if_neg hc] at h; exact h.elim
theorem pe_tupW {x1} (h : PA X es (tA X.K call gv xr eas)) : PE X (.Tuple es x1 pos) (tE X.K call gv xr (.tup eas)) := by
  refine PE.mono (pe_tup h) ?_
  rintro σ H Q ⟨env, cm, m, hE, M, ho⟩
  rw [ev] at ho
  refine ⟨env, cm, m, hE, M, ho.bind.mono fun ws cm1 m1 H1 x1 M1 o1 vs rvs => ?_⟩
  obtain ⟨ts, m2, e2, o2⟩ := frzs_get o1
  obtain ⟨hl, o3⟩ := if_get o2
  obtain ⟨x2, M2, r2⟩ := frzs_ok M1 rvs e2
  have l2 := r2.length
  have hz := line_lim
  exact ⟨by omega, fun p hp => ansTup (OkR.shift o3 x2) M2 r2 hp⟩
theorem pe_lstW (h : PA X es (tA X.K call gv xr eas)) : PE X (.List es pos) (tE X.K call gv xr (.lst eas)) := by
  refine PE.mono (pe_lst h) ?_
  rintro σ H Q ⟨env, cm, m, hE, M, ho⟩
  rw [ev] at ho
  refine ⟨env, cm, m, hE, M, ho.bind.mono fun ws cm1 m1 H1 x1 M1 o1 vs rvs => ?_⟩
  obtain ⟨ts, m2, e2, o2⟩ := frzs_get o1
  obtain ⟨hl, o3⟩ := if_get o2
  obtain ⟨x2, M2, r2⟩ := frzs_ok M1 rvs e2
  have l2 := r2.length
  have hz := line_lim
  exact ⟨by omega, fun p hp => ansLst (OkR.shift o3 x2) M2 r2 hp⟩
noncomputable def tLstN (K : PySem.W.Frag) (t : TA) : TE := fun σ H Q => t σ H fun xs H1 => xs.length ≤ sizeLine ∧ ∀ p, H1 p = none → K.lookup p = none → Q (.ref p) (upd H1 p (.lst xs))
theorem Inv.notK {pins : List (Addr × Obj)} {σ : L2.St} {H : Hp} {s : Shared} (I : Inv X pins σ H s) : X.K.lookup s.heap.objs.size = none := by
  cases q : X.K.lookup s.heap.objs.size with
  | none => rfl
  | some o => exact absurd (Heap.lt_size (I.kIn _ _ q)) (Nat.lt_irrefl _)
theorem pe_lstN {t : TA} (h : PA X es t) : PE X (.List es pos) (tLstN X.K t) := by
  intro pins s σ H Q I hq
  refine wpAny_List_spliced (thn (h pos pins s σ H _ I hq) fun us s1 ⟨xs, H1, I1, r, z, q⟩ => ⟨by rw [← r.length]; exact z, ?_⟩)
  have hf : H1 s1.heap.objs.size = none := I1.hok.fresh (Nat.le_refl _)
  refine ⟨.ref s1.heap.objs.size, upd H1 s1.heap.objs.size (.lst xs), I1.laid (t' := s1.toks) (fun b u e => Heap.get?_push_of_some _ e) (Nat.le_refl _) ?_, rfl, q _ hf (Mi.Inv.notK I1)⟩
  exact ⟨z, us, 0, r, Heap.get?_push_size _ rfl⟩
theorem pe_celW (h : PA X es (tA X.K call gv xr eas)) : PE X (.List es pos) (tE X.K call gv xr (.cel eas)) := by
  refine PE.mono (pe_lstN h) ?_
  rintro σ H Q ⟨env, cm, m, hE, M, ho⟩
  rw [ev] at ho
  refine ⟨env, cm, m, hE, M, ho.bind.mono fun ws cm1 m1 H1 x1 M1 o1 vs rvs => ?_⟩
  obtain ⟨ts, m2, e2, o2⟩ := frzs_get o1
  obtain ⟨hl, o3⟩ := if_get o2
  obtain ⟨x2, M2, r2⟩ := frzs_ok M1 rvs e2
  have l2 := r2.length
  have hz := line_lim
  refine ⟨by omega, fun p hp hk => ?_⟩
  obtain ⟨x3, M3, r3⟩ := cell_new M2 r2 hp hk
  exact OkR.to o3 (x2.trans x3) M3 _ r3
theorem cut_eq {α : Type} (xs : List α) (lo hi : Option Int) : cut xs lo hi = (xs.drop (HT.sIx xs.length 0 lo)).take (HT.sIx xs.length xs.length hi - HT.sIx xs.length 0 lo) := by
  have e : ∀ n d o, cutIx n d o = HT.sIx n d o := fun n d o => by cases o <;> rfl
  unfold cut
  rw [e, e]
theorem paired_cut {α β : Type} {F : α → β → Prop} {xs : List α} {ys : List β} (h : Paired F xs ys) (lo hi : Option Int) : Paired F (cut xs lo hi) (cut ys lo hi) := by
  rw [cut_eq, cut_eq, ← h.length]
  exact paired_take _ (paired_drop _ h)
theorem cutV_eq (xs : List V) (lo hi : Option Int) : cutV xs lo hi = cut xs lo hi := (cut_eq xs lo hi).symm
theorem range_eq (x y : Nat) : sliceRange (x : Int) (y : Int) 1 = (List.range (y - x)).map fun k => x + k := by
  unfold sliceRange
  simp only [show ((1 : Int) > 0) = True from by simp, if_true]
  by_cases h : (x : Int) < y
  · have e3 : (((y : Int) - x + 1 - 1) / 1).toNat = y - x := by first | omega | (simp; done) | (simp; omega)
    rw [if_pos h, e3]
    refine List.map_congr_left fun k _ => ?_
    omega
  · have e3 : y - x = 0 := by omega
    rw [if_neg h, e3]
    rfl
theorem clip_one (n d : Nat) (v : Int) : max 0 (min (if v < 0 then v + n else v) (n : Int)) = ((HT.sIx n d (some v) : Nat) : Int) := by
  show max 0 (min (if v < 0 then v + n else v) (n : Int)) = (((if v < 0 then (v + (n : Int)).toNat else min v.toNat n) : Nat) : Int)
  split <;> omega
theorem indices_eq (lo hi : Option Int) (n : Nat) : (Builtin.Str.strSliceIndices lo hi 1 n) = (List.range (HT.sIx n n hi - HT.sIx n 0 lo)).map fun k => HT.sIx n 0 lo + k := by
  rw [← range_eq]
  unfold Builtin.Str.strSliceIndices
  cases lo with
  | none =>
    cases hi with
    | none => rfl
    | some j =>
      rw [← clip_one]
      rfl
  | some i =>
    cases hi with
    | none =>
      rw [← clip_one]
      rfl
    | some j =>
      rw [← clip_one, ← clip_one]
      rfl
noncomputable def fSl (w : W) (lo hi : Option Int) (m : Mem) : Res W := pur ((view w m).bind fun x => slT x lo hi) m
noncomputable def rSl (K : PySem.W.Frag) (xr : XR) : V → Option Int → Option Int → Hp → VK → Prop := fun x lo hi H Q => ∃ cm m w, MemR K cm m H ∧ RW K cm m H w x ∧ OkR K (fSl w lo hi m) xr cm m H fun w cm' m' H' => ∀ v, RW K cm' m' H' w v → Q v H'
theorem slice_str {prog : Program} {w : World} {A : Around} {E : Value → Shared → Prop} {s : Shared} {cs : List Nat} {t : Tok} {sl : Addr} {vl vu : Value} {lo hi : Option Int} {Q : Value → Shared → Prop} (hs : s.heap.IsSliceOf sl vl vu .none) (pl : IsPart vl lo) (pu : IsPart vu hi) (hz : cs.length ≤ lim)
    (h : ∀ t' k, Q (.str ⟨(cut cs lo hi).toArray⟩ t') { s with toks := k }) : wpAny (model prog w) A (getItem (.str ⟨cs.toArray⟩ t) (.ref sl)) Q E s := by
  have hl := line_lim
  obtain ⟨l, e1, e2⟩ : ∃ l : Option (Int × Tok), vl = partValue l ∧ l.map (·.1) = lo := by
    cases pl with
    | none => exact ⟨none, rfl, rfl⟩
    | int i t => exact ⟨some (i, t), rfl, rfl⟩
  obtain ⟨u, f1, f2⟩ : ∃ l : Option (Int × Tok), vu = partValue l ∧ l.map (·.1) = hi := by
    cases pu with
    | none => exact ⟨none, rfl, rfl⟩
    | int i t => exact ⟨some (i, t), rfl, rfl⟩
  subst e1 f1
  refine wpAny_getItem_str_slice (l := l) (u := u) (st := none) hs (by rfl) ?_
  have pk : slicePicked ⟨cs.toArray⟩ l u none = (List.range (HT.sIx cs.length cs.length hi - HT.sIx cs.length 0 lo)).map fun k => HT.sIx cs.length 0 lo + k := by
    unfold slicePicked
    rw [e2, f2, strLen]
    exact indices_eq lo hi cs.length
  have hn : HT.sIx cs.length cs.length hi ≤ cs.length := HT.sIx_le _ _ (Nat.le_refl _) hi
  have fm : ((slicePicked ⟨cs.toArray⟩ l u none).filterMap ((⟨cs.toArray⟩ : Str).cps[·]?)) = cut cs lo hi := by
    rw [pk, cut_eq]
    by_cases hle : HT.sIx cs.length 0 lo ≤ HT.sIx cs.length cs.length hi
    · have := StrLaws.picks cs (HT.sIx cs.length cs.length hi - HT.sIx cs.length 0 lo) (HT.sIx cs.length 0 lo) (by omega)
      rw [← this]
      simp
    · have : HT.sIx cs.length cs.length hi - HT.sIx cs.length 0 lo = 0 := by omega
      rw [this]
      simp
  unfold sliceMade
  split
  · rename_i hw
    rw [Bool.and_eq_true] at hw
    have q : (slicePicked ⟨cs.toArray⟩ l u none).length = cs.length := by rw [eq_of_beq hw.2, strLen]
    rw [pk, List.length_map, List.length_range] at q
    have e : cut cs lo hi = cs := by
      rw [cut_eq]
      have : HT.sIx cs.length 0 lo = 0 ∨ cs.length = 0 := by omega
      rcases this with h0 | h0
      · rw [h0] at q ⊢
        rw [List.drop_zero, q]
        exact List.take_length
      · rw [List.length_eq_zero_iff] at h0
        subst h0
        simp
    have := h t s.toks
    rw [e] at this
    exact this
  · rw [fm]
    have hc : (cut cs lo hi).length ≤ cs.length := by
      rw [cut_eq, List.length_take, List.length_drop]; omega
    exact ⟨by show (cut cs lo hi).toArray.size ≤ _; rw [List.size_toArray]; omega, h _ _⟩
theorem whole_tup {prog : Program} {w : World} {A : Around} {E : Value → Shared → Prop} {s : Shared} {t sl : Addr} {items : Array Value} {vl vu : Value} {lo hi : Option Int} {Q : Value → Shared → Prop} (ht : IsTup s.heap t items) (hs : s.heap.IsSliceOf sl vl vu .none) (pl : IsPart vl lo) (pu : IsPart vu hi)
    (hw : HT.sIx items.size 0 lo = 0 ∧ HT.sIx items.size items.size hi = items.size) (h : Q (.ref t) s) : wpAny (model prog w) A (getItem (.ref t) (.ref sl)) Q E s := by
  obtain ⟨os, hos, hcs, hds⟩ := id hs
  have hTs : s.TypeIs (.ref sl) "slice" := ⟨os, hos, hcs⟩
  unfold getItem
  try with_reducible refine wpAny_holding ?_
  first | refine wpAny_bind (wpAny_pure ?_) | skip
  refine wpAny_bind (wpAny_sequenceKey ht.typeIs (by decide) ?_)
  refine wpAny_bind (wpAny_callSpecial?_slot (name := Str.ofString "__getitem__") ht.typeIs PyProof.Rows.slot_tuple_getitem
    (wpAny_call_entry PyProof.Rows.slot_tuple_getitem ht.typeIs entry_tuple_getitem ?_ (args_tuple_getitem _ _)))
  show wpAny _ _ (Builtin.Tuple.tupleItemsOf (.ref t) >>= _) _ _ s
  refine wpAny_bind (tupleItemsOf_ ht ?_)
  refine wpAny_bind (wpAny_typeOf hTs ?_)
  rw [if_pos (by decide)]
  refine wpAny_bind (HT.sliceApplied_gen hs pl pu ?_)
  show wpAny _ _ (if (((HT.sIx items.size 0 lo : Nat) : Int) == 0 && (1 : Int) == 1 && (HT.sIx items.size items.size hi - HT.sIx items.size 0 lo) == items.size) = true then _ else _) _ _ s
  rw [if_pos (by rw [hw.1, hw.2]; simp)]
  refine wpAny_bind ?_
  unfold Builtin.Tuple.tupleIsExact
  refine wpAny_bind (wpAny_typeOf ht.typeIs (wpAny_pure ?_))
  rw [if_pos (by decide)]
  exact wpAny_bind (wpAny_rule (wpAny_pure ⟨_, rfl, wpAny_pure h⟩))
theorem sl_whole {pins : List (Addr × Obj)} {s : Shared} {σ : L2.St} {H : Hp} {x : V} {v vl vu : Value} {lo hi : Option Int} {sl : Addr} {Q : VK} {a : Addr} {xs : List V} (I : Inv X pins σ H s) (rx : RelV x v) (hs : s.heap.IsSliceOf sl vl vu .none) (pl : IsPart vl lo) (pu : IsPart vu hi) (e : x = .ref a) (hx : SqT X.K H a xs)
    (hw : HT.sIx xs.length 0 lo = 0 ∧ HT.sIx xs.length xs.length hi = xs.length) (q : Q (.ref a) H) : ∃ T id, typeLookup (.type T) "__getitem__" = pure (some (.builtin id)) ∧ s.TypeIs v T ∧ wpAny (model X.prog X.w) X.A (getItem v (.ref sl)) (EP X pins σ Q) X.xe s := by
  subst e
  cases rx
  obtain ⟨its, r, ht, hz⟩ := I.tuple hx
  have hlen : its.toArray.size = xs.length := by rw [List.size_toArray]; exact r.length.symm
  exact ⟨"tuple", _, PyProof.Rows.slot_tuple_getitem.lookup, ht.typeIs, whole_tup ht hs pl pu (by rw [hlen]; exact hw) ⟨.ref a, H, I, rfl, q⟩⟩
theorem sl_any : SlR X (rSl X.K xr) := by
  rintro pins s σ H x v vl vu lo hi sl Q I rx hs pl pu ⟨cm, m, w, M, rw', ho⟩
  obtain ⟨t, e, ho⟩ := pur_ok ho
  cases q : view w m with
  | none => rw [q] at e; cases e
  | some tw =>
    rw [q] at e
    have e : slT tw lo hi = some t := e
    cases tw with
    | tup ts =>
      cases e
      obtain ⟨a, vs, rfl, h1, r1⟩ := (view_t rw' q (fun _ z => by cases z)).itup
      have l1 := r1.length
      have e : ∀ n d o, cutIx n d o = HT.sIx n d o := fun n d o => by cases o <;> rfl
      by_cases hc : HT.sIx vs.length 0 lo = 0 ∧ HT.sIx vs.length vs.length hi = vs.length
      · refine sl_whole I rx hs pl pu rfl h1 hc ?_
        have ec : cut ts lo hi = ts := by
          unfold cut
          rw [e, e, l1, hc.1, hc.2, List.drop_zero, Nat.sub_zero, ← l1, List.take_length]
        rw [ec] at ho
        exact ans ho M (.mtup h1 r1)
      · refine sl_tup pins s σ H _ v vl vu lo hi sl Q I rx hs pl pu ⟨a, vs, rfl, h1, hc, fun p hp => ?_⟩
        rw [cutV_eq]; exact ansTup ho M (paired_cut r1 lo hi) hp
    | lst ts =>
      cases e
      obtain ⟨a, vs, rfl, h1, r1⟩ := view_lst M rw' q
      exact sl_list pins s σ H _ v vl vu lo hi sl Q I rx hs pl pu ⟨a, vs, rfl, .of h1, fun p hp => by rw [cutV_eq]; exact ansLst ho M (paired_cut r1 lo hi) hp⟩
    | scr ns =>
      cases e
      obtain ⟨a, rfl, h1⟩ := (view_t rw' q (fun _ z => by cases z)).vscr
      refine sl_list pins s σ H _ v vl vu lo hi sl Q I rx hs pl pu ⟨a, _, rfl, h1.sq, fun p hp => ?_⟩
      rw [cutV_eq]
      refine ansLst ho M ?_ hp
      have := paired_cut (scr_paired (K := X.K) (cm := cm) (m := m) (H := H) ns) lo hi
      have e : cut (ns.map T.int) lo hi = (cut ns lo hi).map T.int := by
        rw [cut_eq, cut_eq, List.length_map, List.map_take, List.map_drop]
      rw [e] at this
      exact this
    | str cs =>
      unfold slT at e
      dsimp only at e
      split at e <;> cases e
      rename_i hc
      cases (view_t rw' q (fun _ z => by cases z)).vstr
      obtain ⟨t, rfl⟩ := rx
      exact ⟨"str", _, slot_str_getitem.lookup, typeIs_str s _ t, slice_str hs pl pu hc fun t' k => ⟨.str ⟨(cut cs lo hi).toArray⟩, H, I.tok _, ⟨t', rfl⟩, ans ho M (.str _)⟩⟩
    | _ => cases e
noncomputable def evP (call : Nat → List W → Mem → Res W) (gv : List T) (lo : E) (env : Env) (m : Mem) : Res (Option Int) := if isHole lo then Res.ok none m else (ev call gv lo env m).bind intP
noncomputable def tP (K : PySem.W.Frag) (call : Nat → List W → Mem → Res W) (gv : List T) (xr : XR) (lo : E) : TO := fun σ H Q => ∃ env cm m, EnvR K cm m H env σ ∧ MemR K cm m H ∧ OkR K (evP call gv lo env m) xr cm m H fun o cm' m' H' => Q o H'
theorem po_noneW : PO X none (tP X.K call gv xr .hole) := fun pins s σ H Q I ⟨env, cm, m, hE, M, ho⟩ => po_none pins s σ H Q I (OkR.now ho M)
theorem po_someW {lo : Expr} (h : PE X lo (tE X.K call gv xr ea)) (hn : evP call gv ea = fun env m => (ev call gv ea env m).bind intP) : PO X (some lo) (tP X.K call gv xr ea) := fun pins s σ H Q I ⟨env, cm, m, hE, M, ho⟩ => by
  rw [hn] at ho
  refine po_some h pins s σ H Q I ⟨env, cm, m, hE, M, (OkR.bind ho).mono fun w cm1 m1 H1 x1 M1 o1 v rv => ?_⟩
  unfold intP at o1
  split at o1
  · cases RT.vint rv
    exact ⟨_, rfl, OkR.now o1 M1⟩
  · exact o1.elim
theorem pe_slcW {lo hi : Option Expr} {p2 : Pos} (he : PE X e (tE X.K call gv xr ea)) (hl : PO X lo (tP X.K call gv xr eb)) (hu : PO X hi (tP X.K call gv xr ec)) : PE X (.Subscript e (.Slice lo hi none p2) pos) (tE X.K call gv xr (.slc ea eb ec)) := by
  refine PE.mono (pe_slice (sl_any (xr := xr)) he hl hu) ?_
  rintro σ H Q ⟨env, cm, m, hE, M, ho⟩
  have e : ev call gv (.slc ea eb ec) env m = (ev call gv ea env m).bind fun x m => (evP call gv eb env m).bind fun l m => (evP call gv ec env m).bind fun h m => fSl x l h m := by
    rw [ev]
    rfl
  rw [e] at ho
  refine ⟨env, cm, m, hE, M, ho.bind.mono fun w cm1 m1 H1 x1 M1 o1 v rv => ?_⟩
  refine ⟨env, cm1, m1, hE.ext x1 M M1, M1, o1.bind.mono fun l cm2 m2 H2 x2 M2 o2 => ?_⟩
  refine ⟨env, cm2, m2, (hE.ext x1 M M1).ext x2 M1 M2, M2, o2.bind.mono fun h cm3 m3 H3 x3 M3 o3 => ?_⟩
  exact ⟨cm3, m3, w, M3, (rv.ext x2 M1 M2).ext x3 M2 M3, o3⟩
noncomputable def fBlt (b : B) (ws : List W) (m : Mem) : Res W := pur ((views ws m).bind fun ts => bltT b ts) m
theorem tcb_of {b : B} (σ : L2.St) (H : Hp) (Q : VK) (q : tE X.K call gv xr (.blt b eas) σ H Q) : tCB (rN X.K xr (fBlt b)) (tA X.K call gv xr eas) σ H Q := by
  obtain ⟨env, cm, m, hE, M, ho⟩ := q
  rw [ev] at ho
  exact ⟨env, cm, m, hE, M, ho.bind.mono fun ws cm1 m1 H1 x1 M1 o1 vs rvs => ⟨cm1, m1, ws, M1, rvs, o1⟩⟩
theorem pe_bltB {b : B} {id : String} {x : Str} (hc : CallR X (.builtin id) (rN X.K xr (fBlt b))) (hv : bootBuiltins x = some (.builtin id)) (hg : Gl X x) (hm : X.mg x = none) (ha : PA X (e :: es) (tA X.K call gv xr eas)) (hn : x ≠ "__name__") (hdb : (x == ("__debug__" : Str)) = false)
    (he : notStar e = true) (hpl : es.all notStar = true) : PE X (.Call (.Name x p) (e :: es) [] pos) (tE X.K call gv xr (.blt b eas)) :=
  PE.mono (pe_callB hc hg hm hv ha hn hdb (star_c he) (star_a hpl)) tcb_of
theorem pe_bltT {b : B} {id : String} {x : Str} (hc : CallR X (.type id) (rN X.K xr (fBlt b))) (hv : bootBuiltins x = some (.type id)) (hg : Gl X x) (hm : X.mg x = none) (ha : PA X (e :: es) (tA X.K call gv xr eas)) (hn : x ≠ "__name__") (hdb : (x == ("__debug__" : Str)) = false)
    (he : notStar e = true) (hpl : es.all notStar = true) : PE X (.Call (.Name x p) (e :: es) [] pos) (tE X.K call gv xr (.blt b eas)) :=
  PE.mono (pe_callTy hc hg hm hv ha hn hdb (star_c he) (star_a hpl)) tcb_of
theorem blt1 {b : B} {ws : List W} {vs : List V} {k : W → List Addr → Mem → Hp → Prop} (r : RWs K cm m H ws vs) (h1 : ∀ ts t, bltT b ts = some t → ts.length = 1) (h : OkR K (fBlt b ws m) xr cm m H k) :
    ∃ w v t r, ws = [w] ∧ vs = [v] ∧ RW K cm m H w v ∧ view w m = some t ∧ bltT b [t] = some r ∧ OkR K (.ok (.t r) m) xr cm m H k := by
  obtain ⟨t, e, ho⟩ := pur_ok h
  cases q : views ws m with
  | none => rw [q] at e; cases e
  | some ts =>
    rw [q] at e
    have e : bltT b ts = some t := e
    have hl := h1 ts t e
    have hvl : ∀ (ws : List W) (ts : List T), views ws m = some ts → ts.length = ws.length := fun ws => by
      induction ws with
      | nil => intro ts h; cases h; rfl
      | cons w ws ih =>
        intro ts h
        unfold views at h
        cases q1 : view w m with
        | none => rw [q1] at h; cases h
        | some t1 =>
          rw [q1] at h
          cases q2 : views ws m with
          | none => rw [q2] at h; cases h
          | some us => rw [q2] at h; cases h; simp [ih us q2]
    have hw := hvl ws ts q
    match ws, vs, r with
    | [], _, _ => rw [hl] at hw; simp at hw
    | w :: w' :: ws, _, _ => rw [hl] at hw; simp at hw
    | [w], _, .cons rv .nil =>
      unfold views at q
      cases q1 : view w m with
      | none => rw [q1] at q; cases q
      | some t1 =>
        rw [q1] at q
        cases q
        exact ⟨w, _, t1, t, rfl, rfl, rv, q1, e, ho⟩
theorem one1_some {f : T → Option T} : ∀ {ts : List T} {t : T}, one1 f ts = some t → ∃ x, ts = [x] ∧ f x = some t
  | [], _, h => by cases h
  | [x], _, h => ⟨x, rfl, h⟩
  | _ :: _ :: _, _, h => by cases h
theorem blt_one {b : B} (hb : b ≠ .min2 ∧ b ≠ .max2 ∧ b ≠ .range2 ∧ b ≠ .zip2 ∧ b ≠ .zip4 ∧ b ≠ .dget ∧ b ≠ .din ∧ b ≠ .dnot) : ∀ ts t, bltT b ts = some t → ts.length = 1 := by
  intro ts t h
  have h1 : ∀ f : T → Option T, one1 f ts = some t → ts.length = 1 := fun f h => by
    obtain ⟨x, rfl, _⟩ := one1_some h
    rfl
  cases b <;> first | exact h1 _ h | exact absurd hb (by decide) | cases h
theorem call_lenW : CallR X (.builtin "len") (rN X.K xr (fBlt .len)) := by
  rintro pins s σ H xs us Q I r ⟨cm, m, ws, M, rws, ho⟩
  obtain ⟨w, v, t, rr, rfl, rfl, rv, e, eb, ho⟩ := blt1 rws (blt_one (by decide)) ho
  have hz := line_lim
  cases t with
  | str cs =>
    change (if cs.length ≤ lim then some (T.int cs.length) else none) = some rr at eb
    split at eb <;> cases eb
    cases (view_t rv e (fun _ z => by cases z)).vstr
    exact call_len pins s σ H _ us Q I r ⟨_, _, rfl, ⟨by rw [strLen]; omega, rfl⟩, by rw [strLen]; exact ans ho M (.int _)⟩
  | tup ts =>
    cases eb
    obtain ⟨a, vs, rfl, h1, r1⟩ := (view_t rv e (fun _ z => by cases z)).itup
    exact call_len pins s σ H _ us Q I r ⟨_, _, rfl, .inr ⟨vs, h1, r1.length⟩, ans ho M (.int _)⟩
  | lst ts =>
    cases eb
    obtain ⟨a, vs, rfl, h1, r1⟩ := view_lst M rv e
    exact call_len pins s σ H _ us Q I r ⟨_, _, rfl, .inl ⟨vs, .of h1, r1.length⟩, ans ho M (.int _)⟩
  | scr ns =>
    cases eb
    obtain ⟨a, rfl, h1⟩ := (view_t rv e (fun _ z => by cases z)).vscr
    exact call_len pins s σ H _ us Q I r ⟨_, _, rfl, .inl ⟨_, h1.sq, by simp⟩, ans ho M (.int _)⟩
  | _ => cases eb
theorem call_intW : CallR X (.type "int") (rN X.K xr (fBlt .int)) := by
  rintro pins s σ H xs us Q I r ⟨cm, m, ws, M, rws, ho⟩
  obtain ⟨w, v, t, rr, rfl, rfl, rv, e, eb, ho⟩ := blt1 rws (blt_one (by decide)) ho
  cases t with
  | int i =>
    cases eb
    cases (view_t rv e (fun _ z => by cases z)).vint
    exact call_int1 pins s σ H _ us Q I r (.inl ⟨_, rfl, ans ho M (.int _)⟩)
  | bl b =>
    cases eb
    cases (view_t rv e (fun _ z => by cases z)).vbl
    exact call_int1 pins s σ H _ us Q I r (.inr ⟨_, rfl, ans ho M (.int _)⟩)
  | _ => cases eb
theorem chars_rt (cs : List Nat) : RTs K cm m H (cs.map fun c => T.str [c]) (cs.map fun c => V.str ⟨#[c]⟩) := by
  induction cs with
  | nil => exact .nil
  | cons c cs ih => exact .cons (.str [c]) ih
theorem chars_vals {x : Str} : ∀ (cs : List Nat) (k : Nat) (vs : List Value), vs.length = cs.length → (∀ (j : Nat) (v : Value), vs[j]? = some v → ∃ c u, cs[j]? = some c ∧ v = Value.str ⟨#[c]⟩ u) → Vals (cs.map fun c => V.str ⟨#[c]⟩) vs
  | [], _, [], _, _ => .nil
  | [], _, _ :: _, h, _ => by simp at h
  | _ :: _, _, [], h, _ => by simp at h
  | c :: cs, k, v :: vs, hl, h => by
    obtain ⟨c', u, e1, e2⟩ := h 0 v rfl
    cases e1
    exact .cons ⟨u, e2⟩ (chars_vals (x := x) cs k vs (by simpa using hl) fun j w hw => h (j + 1) w (by simpa using hw))
theorem call_tupleW (hcalm : X.calm = true) : CallR X (.type "tuple") (rN X.K xr (fBlt .tuple)) := by
  rintro pins s σ H xs us Q I r ⟨cm, m, ws, M, rws, ho⟩
  obtain ⟨w, v, t, rr, rfl, rfl, rv, e, eb, ho⟩ := blt1 rws (blt_one (by decide)) ho
  cases t with
  | tup ts =>
    cases eb
    obtain ⟨a, vs, rfl, h1, r1⟩ := (view_t rv e (fun _ z => by cases z)).itup
    exact call_tuple_of pins s σ H _ us Q I r ⟨a, vs, rfl, .inr ⟨h1, ans ho M (.mtup h1 r1)⟩⟩
  | lst ts =>
    cases eb
    obtain ⟨a, vs, rfl, h1, r1⟩ := view_lst M rv e
    exact call_tuple_of pins s σ H _ us Q I r ⟨a, vs, rfl, .inl ⟨.of h1, fun l hl => ansTup ho M r1 hl⟩⟩
  | str cs =>
    change (if cs.length ≤ lim then some (T.tup (cs.map fun c => T.str [c])) else none) = some rr at eb
    split at eb <;> cases eb
    rename_i hc
    cases (view_t rv e (fun _ z => by cases z)).vstr
    obtain ⟨u, rfl, ru⟩ := vals1 r
    obtain ⟨tk, rfl⟩ := ru
    have hz := line_lim
    refine call_tuple_str (I.ok.hd hcalm) ⟨cs.toArray⟩ tk (fun h' tk' acc hk hit => ?_) (by show cs.toArray.size ≤ _; rw [List.size_toArray]; omega)
    obtain ⟨h1, h2⟩ := hit
    have I1 : Inv X pins σ H { s with heap := h', toks := tk' } := I.kept hk
    have rv2 : Vals (cs.map fun c => V.str ⟨#[c]⟩) acc.toList := chars_vals (x := ⟨cs.toArray⟩) cs 0 acc.toList (by simpa using h1) fun j w hw => by
      obtain ⟨c, u, e1, e2⟩ := h2 j w (by simpa using hw)
      exact ⟨c, u, by simpa using e1, e2⟩
    refine ⟨.ref h'.objs.size, _, I1.laid (t' := tk') (o := .tup (cs.map fun c => V.str ⟨#[c]⟩)) (fun b ob q => Heap.get?_push_of_some _ q) (Nat.le_refl _) ?_, rfl, ansTup ho M (chars_rt cs) (I1.hok.fresh (Nat.le_refl _))⟩
    refine ⟨by rw [List.length_map]; omega, acc.toList, rv2, ?_⟩
    have := TupP.new h' acc.toList.toArray
    simpa using this
  | _ => cases eb
theorem call_listW : CallR X (.type "list") (rN X.K xr (fBlt .list)) := by
  rintro pins s σ H xs us Q I r ⟨cm, m, ws, M, rws, ho⟩
  obtain ⟨w, v, t, rr, rfl, rfl, rv, e, eb, ho⟩ := blt1 rws (blt_one (by decide)) ho
  cases t with
  | tup ts =>
    cases eb
    obtain ⟨a, vs, rfl, h1, r1⟩ := (view_t rv e (fun _ z => by cases z)).itup
    exact call_list_of pins s σ H _ us Q I r ⟨a, vs, rfl, .inr h1, fun l hl => ansLst ho M r1 hl⟩
  | lst ts =>
    cases eb
    obtain ⟨a, vs, rfl, h1, r1⟩ := view_lst M rv e
    exact call_list_of pins s σ H _ us Q I r ⟨a, vs, rfl, .inl (.of h1), fun l hl => ansLst ho M r1 hl⟩
  | _ => cases eb
theorem RTs.bools : ∀ {ts : List T} {vs : List V} {bs : List Bool}, RTs K cm m H ts vs → bools? ts = some bs → vs = bs.map V.bl
  | [], _, _, .nil, e => by cases e; rfl
  | t :: ts, _, bs, .cons r rs, e => by
    cases t with
    | bl c =>
      unfold bools? at e
      cases q : bools? ts with
      | none => rw [q] at e; cases e
      | some cs =>
        rw [q] at e; cases e
        cases RT.vbl r
        rw [RTs.bools rs q]
        rfl
    | _ => cases e
theorem vals_bools : ∀ {bs : List Bool} {us : List Value}, Vals (bs.map V.bl) us → us = bs.map Value.bool
  | [], _, .nil => rfl
  | b :: bs, _, .cons r rs => by
    cases r
    rw [vals_bools rs]
    rfl
theorem kept_it {s : Shared} {h' : Heap} {o : Obj} (hk : ∀ b x, b ∉ [s.heap.objs.size] → (s.heap.push o).get? b = some x → h'.get? b = some x) : ∀ b x, s.heap.get? b = some x → h'.get? b = some x :=
  fun b x e => hk b x (fun hm => by rw [List.mem_singleton.mp hm] at e; exact Nat.lt_irrefl _ (Heap.lt_size e)) (Heap.get?_push_of_some _ e)
theorem ranged {α : Type} (f : List α → Bool) (bs : List Bool) (d : Bool) : (List.range bs.length).map (fun i => (bs[i]?).getD d) = bs := by
  apply List.ext_getElem?
  intro i
  rw [List.getElem?_map]
  by_cases h : i < bs.length
  · rw [List.getElem?_range h]; simp [h]
  · simp [h]
theorem call_allW (hc : X.calm = true) : CallR X (.builtin "all") (rN X.K xr (fBlt .all)) := by
  rintro pins s σ H xs us Q I r ⟨cm, m, ws, M, rws, ho⟩
  obtain ⟨w, v, t, rr, rfl, rfl, rv, e, eb, ho⟩ := blt1 rws (blt_one (by decide)) ho
  cases t with
  | lst ts =>
    have eb : (bools? ts).map (fun bs => T.bl (bs.all id)) = some rr := eb
    cases q : bools? ts with
    | none => rw [q] at eb; cases eb
    | some bs =>
      rw [q] at eb; cases eb
      obtain ⟨a, vs, rfl, h1, r1⟩ := view_lst M rv e
      obtain ⟨u, rfl, ru⟩ := vals1 r
      cases ru
      obtain ⟨its, rv', pl, hz⟩ := I.list (.of h1)
      cases RTs.bools r1 q
      cases vals_bools rv'
      have hl := pl.isList
      have hlt : a < s.heap.objs.size := by obtain ⟨_, e, _⟩ := hl; exact Heap.lt_size e
      refine call_all_walk (wpAny_pyIter_list hl ?_)
      refine ⟨s.heap.objs.size, [s.heap.objs.size, a], [s.heap.objs.size], (bs.map Value.bool).toArray.size, _, _, fun i => (bs[i]?).getD true, rfl, Walks.list (A := X.A.in1) (I.ok.hd hc) _ a (Nat.ne_of_lt hlt) (bs.map Value.bool).toArray,
        ⟨⟨_, Heap.get?_push_size _ rfl, rfl, rfl⟩, hl.push _⟩, fun i v s' Q' E' hP hQ => ?_, fun h' tk hk => ?_⟩
      · have hP' : (bs.map Value.bool)[i]? = some v := by simpa using hP
        rw [List.getElem?_map] at hP'
        cases qq : bs[i]? with
        | none => rw [qq] at hP'; cases hP'
        | some b =>
          rw [qq] at hP'; cases hP'
          dsimp only at hQ
          rw [qq] at hQ
          exact wpAny_truthy_bool hQ
      · have e : ((List.range (bs.map Value.bool).toArray.size).all fun i => (bs[i]?).getD true) = bs.all id := by
          rw [List.size_toArray, List.length_map]
          have := congrArg (fun l => l.all id) (ranged (α := Nat) (fun _ => true) bs true)
          rw [← this, List.all_map]
          rfl
        rw [e]
        exact ⟨.bl _, H, I.kept (kept_it hk), rfl, ans ho M (.bl _)⟩
  | tup ts =>
    have eb : (bools? ts).map (fun bs => T.bl (bs.all id)) = some rr := eb
    cases q : bools? ts with
    | none => rw [q] at eb; cases eb
    | some bs =>
      rw [q] at eb; cases eb
      obtain ⟨a, vs, rfl, h1, r1⟩ := RT.itup (view_t rv e (fun _ z => by cases z))
      obtain ⟨u, rfl, ru⟩ := vals1 r
      cases ru
      obtain ⟨its, rv', pl, hz⟩ := I.tuple h1
      cases RTs.bools r1 q
      cases vals_bools rv'
      have hl : s.heap.IsTuple a (bs.map Value.bool).toArray := pl
      have hlt : a < s.heap.objs.size := by obtain ⟨_, e, _⟩ := hl; exact Heap.lt_size e
      refine call_all_walk (wpAny_pyIter_tuple hl ?_)
      refine ⟨s.heap.objs.size, [s.heap.objs.size, a], [s.heap.objs.size], (bs.map Value.bool).toArray.size, _, _, fun i => (bs[i]?).getD true, rfl, Walks.tuple (A := X.A.in1) (I.ok.hd hc) _ a (Nat.ne_of_lt hlt) (bs.map Value.bool).toArray,
        ⟨⟨_, Heap.get?_push_size _ rfl, rfl, rfl⟩, (show Heap.IsTuple (s.heap.push _) a _ from let ⟨o, ho, r⟩ := hl; ⟨o, Heap.get?_push_of_some _ ho, r⟩)⟩, fun i v s' Q' E' hP hQ => ?_, fun h' tk hk => ?_⟩
      · have hP' : (bs.map Value.bool)[i]? = some v := by simpa using hP
        rw [List.getElem?_map] at hP'
        cases qq : bs[i]? with
        | none => rw [qq] at hP'; cases hP'
        | some b =>
          rw [qq] at hP'; cases hP'
          dsimp only at hQ
          rw [qq] at hQ
          exact wpAny_truthy_bool hQ
      · have e : ((List.range (bs.map Value.bool).toArray.size).all fun i => (bs[i]?).getD true) = bs.all id := by
          rw [List.size_toArray, List.length_map]
          have := congrArg (fun l => l.all id) (ranged (α := Nat) (fun _ => true) bs true)
          rw [← this, List.all_map]
          rfl
        rw [e]
        exact ⟨.bl _, H, I.kept (kept_it hk), rfl, ans ho M (.bl _)⟩
  | _ => cases eb
end
end Mi
end
section
set_option linter.all false
set_option maxRecDepth 100000
namespace Mi
open PySem PySem.Spec PyProof.Rows L2
section
variable {K : PySem.W.Frag} {cm : List Addr} {m : Mem} {H : Hp} {xr : XR} {X : Cx} {call : Nat → List W → Mem → Res W} {gv : List T}
variable {a b c e : Expr} {es : List Expr} {ea eb ec : E} {eas : Es} {pos p p2 : Pos}
noncomputable def tyN : Ty → String
  | .int => "int"
  | .bool => "bool"
  | .str => "str"
  | .tuple => "tuple"
  | .list => "list"
  | .dict => "dict"
noncomputable def tyT : T → String
  | .non => "NoneType"
  | .bl _ => "bool"
  | .int _ => "int"
  | .str _ => "str"
  | .tup _ => "tuple"
  | .lst _ => "list"
  | .dct _ _ => "dict"
  | .scr _ => "list"
theorem kit_all (t : T) (ty : Ty) : PySem.W.kitOne K (.type (tyT t)) (.type (tyN ty)) = some (isT t ty) := by cases t <;> cases ty <;> rfl
theorem isi_run {pins : List (Addr × Obj)} {σ : L2.St} {s : Shared} {A : Around} {E : Value → Shared → Prop} {Q : Value → Shared → Prop} {w : W} {v : V} {u : Value} {t : T} {ty : Ty} (I : Inv X pins σ H s) (M : MemR X.K cm m H) (rx : RelV v u) (r : RW X.K cm m H w v) (ew : view w m = some t) (h : ∀ tk, Q (.bool (isT t ty)) { s with toks := tk }) :
    wpAny (model X.prog X.w) A (PySem.call (.builtin "isinstance") [u, .type (tyN ty)]) Q E s := by
  have k := kit_all (K := X.K) t ty
  have onL : ∀ (a : Addr) (vs : List V), v = .ref a → SqL X.K H a vs → tyT t = "list" → wpAny (model X.prog X.w) A (PySem.call (.builtin "isinstance") [u, .type (tyN ty)]) Q E s := fun a vs e hq et => by
    subst e
    cases rx
    obtain ⟨its, _, pl, _⟩ := I.list hq
    obtain ⟨o, n, e, c, _⟩ := pl
    rw [et] at k
    exact PySem.W.kia_one PySem.W.kitx_list I.kIn ⟨o, e, c⟩ k (fun z => nomatch z) h
  cases t with
  | non => cases (view_t r ew (fun _ z => by cases z)).vnon; exact isinst_ok I rx .non k h
  | bl y => cases (view_t r ew (fun _ z => by cases z)).vbl; exact isinst_ok I rx (.bl y) k h
  | int i => cases (view_t r ew (fun _ z => by cases z)).vint; exact isinst_ok I rx (.int i) k h
  | str cs => cases (view_t r ew (fun _ z => by cases z)).vstr; exact isinst_ok I rx (.str _) k h
  | tup ts =>
    obtain ⟨a, vs, rfl, h1, _⟩ := (view_t r ew (fun _ z => by cases z)).itup
    cases rx
    obtain ⟨its, _, p, _⟩ := I.tuple h1
    obtain ⟨o, h1, h2, _⟩ := p
    exact PySem.W.kia_one PySem.W.kitx_tuple I.kIn ⟨o, h1, h2⟩ k (fun z => nomatch z) h
  | lst ts =>
    obtain ⟨a, vs, e, h1, _⟩ := view_lst M r ew
    exact onL a vs e (.of h1) rfl
  | scr ns =>
    obtain ⟨a, e, h1⟩ := (view_t r ew (fun _ z => by cases z)).vscr
    exact onL a _ e h1.sq rfl
  | dct ks ts =>
    have r' := view_t r ew (fun _ z => by cases z)
    cases r' with
    | dct q1 q2 q3 q4 q5 => exact isinst_ok I rx (.dK q1) k h
noncomputable def fIsi (ty : Ty) (w : W) (m : Mem) : Res W := pur ((view w m).map fun x => .bl (isT x ty)) m
theorem call_isi {ty : Ty} : CallR X (.builtin "isinstance") (fun xs H Q => ∃ x, xs = [x, .ty (tyN ty)] ∧ r1 X.K xr (fIsi ty) x H Q) := by
  rintro pins s σ H xs us Q I r ⟨x, e, cm, m, w, M, rw', ho⟩
  subst e
  obtain ⟨u1, u2, rfl, ru1, ru2⟩ := vals2 r
  cases (show u2 = Value.type (tyN ty) from ru2)
  obtain ⟨t, et, ho⟩ := pur_ok ho
  cases q : view w m with
  | none => rw [q] at et; cases et
  | some tw =>
    rw [q] at et; cases et
    exact isi_run I M ru1 rw' q fun tk => ⟨.bl _, H, I.tok _, rfl, ans ho M (.bl _)⟩
theorem pe_isiW {ty : Ty} {x : Str} (ha : PE X a (tE X.K call gv xr ea)) (hg : Gl X "isinstance") (hm : X.mg "isinstance" = none) (hgT : Gl X x) (hmT : X.mg x = none) (hv : bootBuiltins x = some (.type (tyN ty)))
    (hn : x ≠ "__name__" := by decide) (hd : (x == ("__debug__" : Str)) = false := by decide)
    (hs : notStar a = true := by rfl) :
    PE X (.Call (.Name "isinstance" p) [a, .Name x p2] [] pos) (tE X.K call gv xr (.isi ea ty)) := by
  refine PE.mono (pe_callB (call_isi (ty := ty) (xr := xr)) hg hm (by decide +kernel) (pa_cons ha (pa_cons (pe_bltn (v := .ty (tyN ty)) hgT hmT hv rfl hn hd) pa_nil (star_c rfl)) (star_c hs)) (by decide) (by decide) (star_c hs) (star_a rfl)) ?_
  rintro σ H Q ⟨env, cm, m, hE, M, ho⟩
  rw [ev] at ho
  exact ⟨env, cm, m, hE, M, ho.bind.mono fun w cm1 m1 H1 x1 M1 o1 v rv => ⟨v, rfl, cm1, m1, w, M1, rv, o1⟩⟩
noncomputable def rM (K : PySem.W.Frag) (xr : XR) (b : Mt) : V → List V → Hp → VK → Prop := fun x xs H Q => ∃ cm m w ws, MemR K cm m H ∧ RW K cm m H w x ∧ RWs K cm m H ws xs ∧ OkR K (doM b w ws m) xr cm m H fun w cm' m' H' => ∀ v, RW K cm' m' H' w v → Q v H'
theorem join_eq (sep : List Nat) : ∀ xs : List (List Nat), Str.join ⟨sep.toArray⟩ (xs.map fun c => (⟨c.toArray⟩ : Str)) = ⟨(joinN sep xs).toArray⟩
  | [] => rfl
  | [x] => rfl
  | x :: y :: r => by
    show (⟨x.toArray⟩ : Str) ++ ⟨sep.toArray⟩ ++ Str.join ⟨sep.toArray⟩ ((y :: r).map fun c => (⟨c.toArray⟩ : Str)) = ⟨(x ++ sep ++ joinN sep (y :: r)).toArray⟩
    rw [join_eq sep (y :: r), strApp, strApp]
theorem RTs.strs : ∀ {ts : List T} {vs : List V} {bs : List (List Nat)}, RTs K cm m H ts vs → strs? ts = some bs → vs = bs.map fun c => V.str ⟨c.toArray⟩
  | [], _, _, .nil, e => by cases e; rfl
  | t :: ts, _, bs, .cons r rs, e => by
    cases t with
    | str c =>
      unfold strs? at e
      cases q : strs? ts with
      | none => rw [q] at e; cases e
      | some cs =>
        rw [q] at e; cases e
        cases RT.vstr r
        rw [RTs.strs rs q]
        rfl
    | _ => cases e
theorem vals_strs : ∀ {bs : List (List Nat)} {us : List Value}, Vals (bs.map fun c => V.str ⟨c.toArray⟩) us → StrsAre us (bs.map fun c => (⟨c.toArray⟩ : Str))
  | [], _, .nil => .nil
  | b :: bs, _, .cons ⟨t, e⟩ rs => by
    cases e
    exact .cons _ t (vals_strs rs)
theorem views_one {ws : List W} {t : T} (h : views ws m = some [t]) : ∃ w, ws = [w] ∧ view w m = some t := by
  cases ws with
  | nil => cases h
  | cons w ws =>
    unfold views at h
    cases q1 : view w m with
    | none => rw [q1] at h; cases h
    | some t1 =>
      rw [q1] at h
      have h : (views ws m).map (t1 :: ·) = some [t] := h
      cases q2 : views ws m with
      | none => rw [q2] at h; cases h
      | some ts =>
        rw [q2] at h
        cases h
        cases ws with
        | nil => exact ⟨w, rfl, by rw [q1]⟩
        | cons w2 ws =>
          unfold views at q2
          cases q3 : view w2 m with
          | none => rw [q3] at q2; cases q2
          | some t3 =>
            rw [q3] at q2
            cases q4 : views ws m with
            | none => rw [q4] at q2; cases q2
            | some t4 => rw [q4] at q2; cases q2
theorem mth_ok {b : Mt} {w : W} {ws : List W} {k : W → List Addr → Mem → Hp → Prop} (h : OkR K (pur ((view w m).bind fun x => (views ws m).bind fun ts => mthT b x ts) m) xr cm m H k) : ∃ x ts t, view w m = some x ∧ views ws m = some ts ∧ mthT b x ts = some t ∧ OkR K (.ok (.t t) m) xr cm m H k := by
  obtain ⟨t, e, ho⟩ := pur_ok h
  cases q1 : view w m with
  | none => rw [q1] at e; cases e
  | some x =>
    cases q2 : views ws m with
    | none => rw [q1, q2] at e; cases e
    | some ts => rw [q1, q2] at e; exact ⟨x, ts, t, rfl, rfl, e, ho⟩
theorem mt_joinW : MtR X "str.join" (rM X.K xr .join) := by
  rintro pins s σ H x xs v us Q I rx rs ⟨cm, m, w, ws, M, rw', rws, ho⟩
  obtain ⟨tw, ts, t, q1, q2, e, hz9⟩ := mth_ok (b := .join) ho
  clear ho
  cases tw with
  | str sep =>
    match ts, e, q2 with
    | [.lst ys], e, q2 =>
      have e : ((strs? ys).bind fun zs => if (zs.map List.length).sum + zs.length * sep.length ≤ lim then some (T.str (joinN sep zs)) else none) = some t := e
      cases q3 : strs? ys with
      | none => rw [q3] at e; cases e
      | some zs =>
        rw [q3] at e
        have e : (if (zs.map List.length).sum + zs.length * sep.length ≤ lim then some (T.str (joinN sep zs)) else none) = some t := e
        split at e <;> cases e
        rename_i hc
        obtain ⟨w1, rfl, q4⟩ := views_one q2
        cases rws with
        | cons rv r0 =>
          cases r0
          cases (view_t rw' q1 (fun _ z => by cases z)).vstr
          obtain ⟨tt, rfl⟩ := rx
          obtain ⟨a, vs, rfl, h1, r1⟩ := view_lst M rv q4
          obtain ⟨u, rfl, ru⟩ := vals1 rs
          cases ru
          obtain ⟨its, rv', pl, hz⟩ := I.list (.of h1)
          cases RTs.strs r1 q3
          refine join_list pl.isList (vals_strs rv') ?_ fun t' k => ?_
          · rw [List.map_map, strLen, List.length_map]
            have e5 : ((fun x : Str => x.length) ∘ fun c : List Nat => (⟨c.toArray⟩ : Str)) = List.length := by funext c; exact strLen c
            have e6 : (lim : Nat) ≤ 16777216 := by decide
            rw [e5]
            omega
          · refine ⟨.str ⟨(joinN sep zs).toArray⟩, H, I.tok _, ⟨t', ?_⟩, ans hz9 M (.str _)⟩
            show Value.str (Txt.join _ _) t' = _
            unfold Txt.join
            rw [StrLaws.glued_eq_join, join_eq]
    | [], e, _ => cases e
    | [.non], e, _ => cases e
    | [.bl _], e, _ => cases e
    | [.int _], e, _ => cases e
    | [.str _], e, _ => cases e
    | [.tup _], e, _ => cases e
    | [.dct _ _], e, _ => cases e
    | [.scr _], e, _ => cases e
    | x1 :: _ :: _, e, _ => cases x1 <;> cases e
  | _ => cases e
theorem ty_str {w : W} {v : V} {b : Mt} (hb : b = .join ∨ b = .upper) (r : RW K cm m H w v) (h : tyM b w m = true) : tyV K "str" v H := by
  have h' : (match view w m with | some (.str _) => true | _ => false) = true := by
    rcases hb with rfl | rfl <;> exact h
  split at h'
  · rename_i cs e
    cases (view_t r e (fun _ z => by cases z)).vstr
    rfl
  · cases h'
theorem few1 {cpos : Pos} (hs : notStar e = true) : ((backTo cpos (starEach [e] X.env)).all (fun x => !x.1) && (backToKw cpos (keywordEach [] X.env)).all (fun x => x.1.isSome)
      && decide ([e].length + ([] : List Keyword).length + (if ([] : List Keyword).isEmpty then 0 else 1) < 30)) = true := by
  rw [star_f (by rw [List.all_cons, hs]; rfl)]
  rfl
theorem pe_joinW {o : Expr} {apos cpos : Pos} (ho : PE X o (tE X.K call gv xr ea)) (ha : PA X [e] (tA X.K call gv xr eas))
    (hbase : attributeBase o "join" X.env (eval o X.env) = eval o X.env := by rfl)
    (hline : (apos.endLine == cpos.line) = true := by rfl) (hs : notStar e = true := by rfl) :
    PE X (.Call (.Attribute o "join" apos) [e] [] cpos) (tE X.K call gv xr (.mth .join ea eas)) := by
  refine PE.mono (pe_bm PySem.F.plainAttrs_str PySem.F.slot_str_join PySem.F.type_str_join (mt_joinW (xr := xr)) ho ha hbase (few1 hs) hline (star_c hs) (star_a rfl)) ?_
  rintro σ H Q ⟨env, cm, m, hE, M, hq⟩
  rw [ev] at hq
  refine ⟨env, cm, m, hE, M, hq.bind.mono fun w cm1 m1 H1 x1 M1 o1 v rv => ?_⟩
  obtain ⟨ht, o1⟩ := if_get o1
  refine ⟨ty_str (.inl rfl) rv ht, env, cm1, m1, hE.ext x1 M M1, M1, o1.bind.mono fun ws cm2 m2 H2 x2 M2 o2 vs rvs => ?_⟩
  exact ⟨cm2, m2, w, ws, M2, rv.ext x2 M1 M2, rvs, o2⟩
structure At (X : Cx) (call : Nat → List W → Mem → Res W) (gv : List T) (e : Expr) (a : E) (f : L2.St → Option V) : Prop where
  pe : PE X e (fun σ H Q => ∃ v, f σ = some v ∧ Q v H)
  rd : ∀ env cm m H σ, EnvR X.K cm m H env σ → (∃ w v, ev call gv a env m = .ok w m ∧ f σ = some v ∧ RW X.K cm m H w v) ∨ ev call gv a env m = .stuck
theorem pi_range1W {tg : Expr} (hg : Gl X "range") (hm : X.mg "range" = none) (ha : PA X [a] (tA X.K call gv xr eas)) (hs : notStar a = true := by rfl) : PI X tg (.Call (.Name "range" p) [a] [] pos) (tI X.K call gv xr (.blt .range1 eas)) := by
  refine PI.mono (pi_range1 hg hm ha (star_c hs)) ?_
  rintro σ H R ⟨env, cm, m, hE, M, ho⟩
  rw [ev] at ho
  refine ⟨env, cm, m, hE, M, ho.bind.mono fun ws cm1 m1 H1 x1 M1 o1 vs rvs => ?_⟩
  obtain ⟨w, v, t, rr, rfl, rfl, rv, e, eb, o2⟩ := blt1 (b := .range1) rvs (blt_one (by decide)) o1
  cases t with
  | int i =>
    change (if i < 2 ^ 62 ∧ -(2 ^ 62) ≤ i then some (T.lst (rangeT 0 i.toNat)) else none) = some rr at eb
    split at eb <;> cases eb
    rename_i hc
    cases (view_t rv e (fun _ z => by cases z)).vint
    obtain ⟨ts, m2, q1, q2⟩ := OkR.now o2 M1
    cases q1
    exact ⟨_, rfl, hc.2, hc.1, q2 _ (.rng 0 _)⟩
  | _ => cases eb
end
end Mi
end
section
set_option linter.all false
set_option maxRecDepth 100000
namespace Mi
open PySem PySem.Spec PyProof.Rows L2
section
variable (K : PySem.W.Frag) (call : Nat → List W → Mem → Res W) (gv : List T) (xr : XR)
noncomputable def endsR (n : Nat) (D : Ends) (fl : Flow) (cm : List Addr) (m : Mem) (H : Hp) : Prop := match fl with
  | .next env => ∀ σ : L2.St, σ.length = n → EnvR K cm m H env σ → D.nx σ H
  | .ret w => ∀ v, RW K cm m H w v → D.rt v H
  | .brk env => ∀ σ : L2.St, σ.length = n → EnvR K cm m H env σ → D.bk σ H
  | .cont env => ∀ σ : L2.St, σ.length = n → EnvR K cm m H env σ → D.ct σ H
noncomputable def tS (n : Nat) (s : S) : TS := fun D σ H => σ.length = n ∧ ∃ env cm m, EnvR K cm m H env σ ∧ MemR K cm m H ∧ OkR K (ex call gv s env m) xr cm m H fun fl cm' m' H' => endsR K n D fl cm' m' H'
end
section
variable {K : PySem.W.Frag} {cm : List Addr} {m : Mem} {H : Hp} {xr : XR} {X : Cx} {call : Nat → List W → Mem → Res W} {gv : List T}
variable {a b c e : Expr} {es : List Expr} {ea eb ec : E} {eas : Es} {pos p p2 : Pos} {rest : List Stmt} {k : S} {n : Nat}
theorem PSs.mono {sts : List Stmt} {t t' : TS} (h : PSs X sts t) (f : ∀ D σ H, t' D σ H → t D σ H) : PSs X sts t' := fun pins s σ H D I q => h pins s σ H D I (f D σ H q)
theorem PS.mono {st : Stmt} {t t' : TS} (h : PS X st t) (f : ∀ D σ H, t' D σ H → t D σ H) : PS X st t' := fun pins s σ H D I q => h pins s σ H D I (f D σ H q)
theorem pss_nilW : PSs X [] (tS X.K call gv xr n .done) := PSs.mono pss_nil fun D σ H ⟨hl, env, cm, m, hE, M, ho⟩ => by
  rw [ex] at ho
  exact OkR.now ho M σ hl hE
theorem pss_retW (h : PE X e (tE X.K call gv xr ea)) : PSs X (.Return (some e) pos :: rest) (tS X.K call gv xr n (.ret ea k)) := PSs.mono (pss_cons (ps_ret h) pss_never) fun D σ H ⟨hl, env, cm, m, hE, M, ho⟩ => by
  rw [ex] at ho
  exact ⟨env, cm, m, hE, M, ho.bind.mono fun w cm1 m1 H1 x1 M1 o1 v rv => OkR.now o1 M1 v rv⟩
theorem pss_exprW (h : PE X e (tE X.K call gv xr ea)) (hk : PSs X rest (tS X.K call gv xr n k)) (hs : swapsWith e none pos.line X.env = pure false := by rfl) : PSs X (.Expr e pos :: rest) (tS X.K call gv xr n (.expr ea k)) := PSs.mono (pss_cons (ps_expr h hs) hk) fun D σ H ⟨hl, env, cm, m, hE, M, ho⟩ => by
  rw [ex] at ho
  exact ⟨env, cm, m, hE, M, ho.bind.mono fun w cm1 m1 H1 x1 M1 o1 v rv => ⟨hl, env, cm1, m1, hE.ext x1 M M1, M1, o1⟩⟩
theorem pss_asgW {i : Nat} {x : Str} {px : Pos} (hN : X.N.Nodup) (hn : X.N.length = n) (hi : X.N[i]? = some x) (hx : Loc X.env.scope x) (h : PE X e (tE X.K call gv xr ea)) (hk : PSs X rest (tS X.K call gv xr n k))
    (hs : swapsWith e (some (.Name x px)) pos.line X.env = pure false := by rfl) (hf : X.fn x = true ∨ X.env.scope.names.lookup x = some .local := by first | exact .inl rfl | exact .inr rfl | assumption) : PSs X (.Assign [.Name x px] e pos :: rest) (tS X.K call gv xr n (.asg i ea k)) := PSs.mono (pss_cons (ps_set hN hi hx h hs hf) hk) fun D σ H ⟨hl, env, cm, m, hE, M, ho⟩ => by
  rw [ex] at ho
  have hi' : i < σ.length := by rw [hl, ← hn]; exact (List.getElem?_eq_some_iff.mp hi).1
  exact ⟨env, cm, m, hE, M, ho.bind.mono fun w cm1 m1 H1 x1 M1 o1 v rv => ⟨by rw [List.length_set]; exact hl, env.set i (some w), cm1, m1, EnvR.set (hE.ext x1 M M1) rv i hi', M1, o1⟩⟩
theorem pss_setW {o i v : Expr} {eo ei ev' : E} {tp : Pos} (hv : PE X v (tE X.K call gv xr ev')) (ho : PE X o (tE X.K call gv xr eo)) (hi : PE X i (tE X.K call gv xr ei)) (hk : PSs X rest (tS X.K call gv xr n k))
    (ha : ∀ v, assign (.Subscript o i tp) X.env v = (do
      let ov ← holding [v] (eval o X.env)
      let iv ← holding [v, ov] (eval i X.env)
      standAt tp
      holding [v, ov, iv] (setItem ov iv v)
      release [v, ov, iv] []) := by intro _; rfl)
    (hs : swapsWithSole [.Subscript o i tp] v pos.line X.env = pure false := by rfl) (hw : swappedStores [.Subscript o i tp] v X.env = pure none := by rfl)
    (h1 : (assignEach [.Subscript o i tp] X.env).map (·.2) = [assign (.Subscript o i tp) X.env] := by rfl) : PSs X (.Assign [.Subscript o i tp] v pos :: rest) (tS X.K call gv xr n (.set eo ei ev' k)) :=
  PSs.mono (pss_cons (ps_asg hv (pg_sub ho hi set_list ha) hs hw h1) hk) fun D σ H ⟨hl, env, cm, m, hE, M, hq⟩ => by
    rw [ex] at hq
    refine ⟨env, cm, m, hE, M, hq.bind.mono fun z cm1 m1 H1 x1 M1 o1 vz rz => ?_⟩
    refine ⟨env, cm1, m1, hE.ext x1 M M1, M1, o1.bind.mono fun x cm2 m2 H2 x2 M2 o2 vx rx => ?_⟩
    refine ⟨env, cm2, m2, (hE.ext x1 M M1).ext x2 M1 M2, M2, o2.bind.mono fun y cm3 m3 H3 x3 M3 o3 vy ry => ?_⟩
    unfold setM at o3
    split at o3
    · rename_i cc kk
      cases q : frz z m3 with
      | stuck => rw [q] at o3; exact o3.elim
      | exc e' m' => exact absurd q frz_noexc
      | ok t m4 =>
        rw [q] at o3
        obtain ⟨x4, M4, r4⟩ := frz_ok M3 ((rz.ext x2 M1 M2).ext x3 M2 M3) q
        have rx' : RW X.K cm3 m4 H3 (.c cc) vx := (rx.ext x3 M2 M3).ext x4 M3 M4
        cases RT.vint ry
        obtain ⟨a, ha1, rfl⟩ := rx'
        have o3 : OkR X.K ((match m4[cc]? with
          | some (some (false, xs)) => match ixOf xs.length kk with
            | some j => Res.ok () (m4.set cc (some (false, xs.set j t)))
            | none => .stuck
          | _ => .stuck).bind fun _ m => ex call gv k env m) xr cm3 m3 H3 _ := o3
        split at o3
        · rename_i xs e1
          split at o3
          · rename_i j e2
            obtain ⟨b, vs, q1, q2, q3, q4⟩ := M4.at' cc _ e1
            rw [ha1] at q1; cases q1
            have l4 := q4.length
            dsimp only at l4
            obtain ⟨x5, M5⟩ := cell_write M4 e1 ha1 (paired_set r4 j q4)
            refine ⟨a, vs, kk, j, rfl, rfl, q2, by rw [← l4]; exact e2, ?_⟩
            have xx := (x4.trans x5)
            exact ⟨hl, env, cm3, _, (((hE.ext x1 M M1).ext x2 M1 M2).ext x3 M2 M3).ext xx M3 M5, M5, OkR.shift (show OkR X.K (ex call gv k env _) xr cm3 m3 H3 _ from o3) xx⟩
          · exact o3.elim
        · exact o3.elim
    · exact o3.elim
theorem bind_assoc {α β γ : Type} (r : Res α) (f : α → Mem → Res β) (g : β → Mem → Res γ) : (r.bind f).bind g = r.bind fun a m => (f a m).bind g := by cases r <;> rfl
theorem pss_ifW {A B : List Stmt} {sa sb : S} (hc : PT X c (tT X.K call gv xr ec)) (ha : PSs X A (tS X.K call gv xr n sa)) (hb : PSs X B (tS X.K call gv xr n sb)) (hk : PSs X rest (tS X.K call gv xr n k)) : PSs X (.If c A B pos :: rest) (tS X.K call gv xr n (.ife ec sa sb k)) :=
  PSs.mono (pss_cons (ps_if hc ha hb) hk) fun D σ H ⟨hl, env, cm, m, hE, M, ho⟩ => by
    rw [ex, ← bind_assoc] at ho
    refine ⟨env, cm, m, hE, M, ho.bind.mono fun t cm1 m1 H1 x1 M1 o1 => ?_⟩
    have go : ∀ s : S, OkR X.K ((ex call gv s env m1).bind fun fl m => match fl with | .next env => ex call gv k env m | fl => .ok fl m) xr cm1 m1 H1 (fun fl cm' m' H' => endsR X.K n D fl cm' m' H') → tS X.K call gv xr n s { D with nx := tS X.K call gv xr n k D } σ H1 := fun s o => by
      refine ⟨hl, env, cm1, m1, hE.ext x1 M M1, M1, o.bind.mono fun fl cm2 m2 H2 x2 M2 o2 => ?_⟩
      cases fl with
      | next env' => exact fun σ' hl' hE' => ⟨hl', env', cm2, m2, hE', M2, o2⟩
      | ret w => exact OkR.now (xr := xr) (a := Flow.ret w) o2 M2
      | brk env' => exact OkR.now (xr := xr) (a := Flow.brk env') o2 M2
      | cont env' => exact OkR.now (xr := xr) (a := Flow.cont env') o2 M2
    cases t with
    | true => exact iteT (go sa o1)
    | false => exact iteF (go sb o1)
theorem setAll_length : ∀ (is : List Nat) (vs : List V) (σ : L2.St), (setAll is vs σ).length = σ.length
  | [], _, _ => by unfold setAll; rfl
  | _ :: _, [], _ => by unfold setAll; rfl
  | i :: is, v :: vs, σ => by unfold setAll; rw [setAll_length, List.length_set]
theorem gT_len {tg : Tg} {v : V} {σ : L2.St} {Q : L2.St → Hp → Prop} (h : gT K tg v σ H Q) : gT K tg v σ H fun σ' H' => σ'.length = σ.length ∧ Q σ' H' := by
  cases tg with
  | nm i => exact ⟨List.length_set, h⟩
  | tp is =>
    obtain ⟨a, xs, h1, h2, h3, h4⟩ := h
    exact ⟨a, xs, h1, h2, h3, setAll_length _ _ _, h4⟩
theorem EnvR.same {cm : List Addr} {m m' : Mem} {H : Hp} {env : Env} {σ : L2.St} (h : EnvR K cm m H env σ) (f : ∀ t v, RT K cm m H t v → RT K cm m' H t v) : EnvR K cm m' H env σ := fun i w e => by
  obtain ⟨v, h1, h2⟩ := h i w e
  refine ⟨v, h1, ?_⟩
  cases w with
  | t t => exact f t v h2
  | f a => exact h2
  | c i => exact h2
theorem pss_forW {tgt iter : Expr} {body : List Stmt} {tg : Tg} {it : E} {sb : S} (hc : X.calm = true) (hp : PassesOwn (model X.prog X.w) X.A X.env X.xe) (hi : PI X tgt iter (tI X.K call gv xr it)) (hg : PG X tgt (gT X.K tg)) (ht : ∀ i ∈ tgS tg, i < n)
    (hb : PSs X body (tS X.K call gv xr n sb)) (hk : PSs X rest (tS X.K call gv xr n k)) (hs : ∀ x, foldedSetIterable iter X.env x = pure x := by intro _; rfl) : PSs X (.For tgt iter body [] pos :: rest) (tS X.K call gv xr n (.forr tg it sb k)) :=
  PSs.mono (pss_cons (ps_for hp hc hi hg hb hs) hk) fun D σ0 H0 ⟨hl0, env0, cm0, m0, hE0, M0, ho⟩ => by
    rw [ex] at ho
    refine ⟨env0, cm0, m0, hE0, M0, ho.bind.mono fun x cm1 m1 H1 x1 M1 o1 => ?_⟩
    cases hbr : borrow x m1 with
    | stuck => rw [hbr] at o1; exact o1.elim
    | exc e' m' =>
      exfalso
      unfold borrow at hbr
      split at hbr <;> first | (cases hbr; done) | (split at hbr <;> cases hbr)
    | ok ts m2 =>
      rw [hbr] at o1
      obtain ⟨xb, Mb⟩ := borrow_ok M1 hbr
      let g : Flow → Mem → Res Flow := fun fl m => match fl with
        | .next env => ex call gv k env (giveBack x m1 m)
        | .ret w => .ok (.ret w) (giveBack x m1 m)
        | _ => .stuck
      have o1 : OkR X.K ((loopS (fun env m => ex call gv sb env m) tg ts env0 m2).bind g) xr cm1 m1 H1 (fun fl cm' m' H' => endsR X.K n D fl cm' m' H') := o1
      refine ⟨ts, m2, rfl, fun J hJ => ?_⟩
      let P : Flow → List Addr → Mem → Hp → Prop := fun fl _ m' _ => OkR X.K (g fl m') xr cm1 m1 H1 (fun fl cm' m' H' => endsR X.K n D fl cm' m' H')
      -- behind the walk
      have fin : ∀ env cm m H σ, σ.length = n → EnvR X.K cm m H env σ → MemR X.K cm m H → Ext cm1 m2 H1 cm m H → P (.next env) cm m H → tS X.K call gv xr n k D σ H := fun env cm m H σ hl hE M xx hP => by
        obtain ⟨xg, Mg, fg⟩ := give_back M1 hbr xx M
        exact ⟨hl, env, cm, _, EnvR.same hE fg, Mg, OkR.shift (show OkR X.K (ex call gv k env (giveBack x m1 m)) xr cm1 m1 H1 _ from hP) xg⟩
      refine ⟨fun i μ σ H => μ = ts.length - i ∧ σ.length = n ∧ ∃ env cm m, EnvR X.K cm m H env σ ∧ MemR X.K cm m H ∧ Ext cm1 m2 H1 cm m H ∧ OkR X.K (loopS (fun env m => ex call gv sb env m) tg (ts.drop i) env m) xr cm m H P, ⟨ts.length - 0, rfl, hl0, env0, cm1, m2, (hE0.ext x1 M0 M1).ext xb M1 Mb, Mb, .refl, ?_⟩, ?_⟩
      · rw [List.drop_zero]
        exact OkR.shift o1.bind0 xb
      · rintro i μ σ H ⟨rfl, hl, env, cm, m, hE, M, xx, hq⟩
        have sJ := hJ.ext xx Mb M
        cases e : ts[i]? with
        | none =>
          have ed : ts.drop i = [] := List.drop_eq_nil_iff.mpr (List.getElem?_eq_none_iff.mp e)
          rw [ed, loopS] at hq
          exact .inl ⟨sJ.stop M e, fin env cm m H σ hl hE M xx (OkR.now hq M)⟩
        | some t =>
          have hlt := (List.getElem?_eq_some_iff.mp e).1
          have ed : ts.drop i = t :: ts.drop (i + 1) := by
            rw [List.drop_eq_getElem_cons hlt]
            rw [(List.getElem?_eq_some_iff.mp e).2]
          rw [ed, loopS] at hq
          obtain ⟨go, hy⟩ := sJ.go M e
          refine .inr ⟨go, fun σ' H' => σ'.length = n ∧ ∃ env cm m, EnvR X.K cm m H' env σ' ∧ MemR X.K cm m H' ∧ Ext cm1 m2 H1 cm m H' ∧ OkR X.K (loopS (fun env m => ex call gv sb env m) tg (ts.drop (i + 1)) env m) xr cm m H' P,
            fun σ' H' hN => ⟨ts.length - (i + 1), by omega, rfl, hN⟩, fun v H' y => ?_⟩
          obtain ⟨xy, My, rt⟩ := hy v H' y
          have hE := hE.ext xy M My
          have xx := xx.trans xy
          have hq := OkR.shift hq xy
          have M := My
          split at hq
          · exact hq.elim
          · rename_i env' eb
            have := gT_len (gT_ok (Q := fun σ' H2 => H2 = H' ∧ EnvR X.K cm m H' env' σ') hE (fun j hj => by rw [hl]; exact ht j hj) rt eb fun σ' hE' _ => ⟨rfl, hE'⟩)
            have mono : ∀ {Q Q' : L2.St → Hp → Prop}, gT X.K tg v σ H' Q → (∀ σ' H', Q σ' H' → Q' σ' H') → gT X.K tg v σ H' Q' := fun {Q Q'} h f => by
              cases tg with
              | nm j => exact f _ _ h
              | tp is =>
                obtain ⟨a1, xs, z1, z2, z3, z4⟩ := h
                exact ⟨a1, xs, z1, z2, z3, f _ _ z4⟩
            refine mono this ?_
            rintro σ2 H2 ⟨hl2, e2, hE2⟩
            subst e2
            refine ⟨hl2.trans hl, env', cm, m, hE2, M, hq.bind.mono fun fl cm3 m3 H3 x3 M3 o3 => ?_⟩
            cases fl with
            | next env3 => exact fun σ3 hl3 hE3 => ⟨hl3, env3, cm3, m3, hE3, M3, xx.trans x3, o3⟩
            | cont env3 => exact fun σ3 hl3 hE3 => ⟨hl3, env3, cm3, m3, hE3, M3, xx.trans x3, o3⟩
            | brk env3 => exact fun σ3 hl3 hE3 => fin env3 cm3 m3 H3 σ3 hl3 hE3 M3 (xx.trans x3) (OkR.now (a := Flow.next env3) o3 M3)
            | ret w =>
              intro v3 rv3
              have hP : P (.ret w) cm3 m3 H3 := OkR.now (a := Flow.ret w) o3 M3
              obtain ⟨xg, Mg, fg⟩ := give_back M1 hbr (xx.trans x3) M3
              refine OkR.to (a := Flow.ret w) (m' := giveBack x m1 m3) hP xg Mg v3 ?_
              cases w with
              | t t => exact fg t v3 rv3
              | f a => exact rv3
              | c j => exact rv3
theorem pss_asgL {elt target iter : Expr} {ifs : List Expr} {gs : List Comprehension} {scope : Scope} {N' : List Str} {own : Nat} {keep : List Nat} {it : E} {tg : Tg} {cs : Es} {inner : E} {i : Nat} {x : Str} {px spos : Pos}
    (hc : X.calm = true) (kk : CompK X xr call gv N' scope own keep elt target iter ifs gs it tg cs inner) (hN : X.N.Nodup) (hn : X.N.length = n) (hi : X.N[i]? = some x) (hx : X.env.scope.names.lookup x = some .local)
    (hk : PSs X rest (tS X.K call gv xr n k))
    (hsw : swapsWith (.ListComp elt (⟨target, iter, ifs, 0⟩ :: gs) scope pos) (some (.Name x px)) spos.line X.env = pure true := by rfl) :
    PSs X (.Assign [.Name x px] (.ListComp elt (⟨target, iter, ifs, 0⟩ :: gs) scope pos) spos :: rest) (tS X.K call gv xr n (.asg i (.comp own keep it tg cs inner) k)) := by
  have h1 : PS X (.Assign [.Name x px] (.ListComp elt (⟨target, iter, ifs, 0⟩ :: gs) scope pos) spos) (fun D σ H => ∃ env cm m m' out, EnvR X.K cm m H env σ ∧ MemR X.K cm m H ∧ ev call gv (.comp own keep it tg cs inner) env m = .ok (.t (.lst out)) m' ∧
      ∀ (p : Addr) (H3 : Hp) (cm3 : List Addr) (vs : List V), H3 p = none → X.K.lookup p = none → Ext cm m H cm3 m' H3 → MemR X.K cm3 m' H3 → RTs X.K cm3 m' H3 out vs → D.nx (σ.set i (some (.ref p))) (upd H3 p (.lst vs))) :=
    fun pins s σ H D I ⟨env, cm, m, m', out, hE, M, ok, q⟩ => comp_asg hc kk hN hi hx hsw I hE M ok q
  refine PSs.mono (pss_cons h1 hk) ?_
  rintro D σ H ⟨hl, env, cm, m, hE, M, ho⟩
  rw [ex] at ho
  cases h : ev call gv (.comp own keep it tg cs inner) env m with
  | stuck => rw [h] at ho; exact ho.elim
  | exc e m' => exact absurd h (comp_noexc e m')
  | ok w m' =>
    obtain ⟨out, rfl⟩ := comp_form h
    rw [h] at ho
    refine ⟨env, cm, m, m', out, hE, M, h, fun p H3 cm3 vs hp _ x3 M3 r3 => ?_⟩
    have hi' : i < σ.length := by rw [hl, ← hn]; exact (List.getElem?_eq_some_iff.mp hi).1
    have x4 := x3.trans (Ext.new (o := .lst vs) hp)
    have M4 := M3.new (o := .lst vs) hp
    exact ⟨by rw [List.length_set]; exact hl, _, cm3, m', EnvR.set (w := .t (.lst out)) (hE.ext x4 M M4) (RT.newLst M3 r3 hp) i hi', M4, OkR.shift (show OkR X.K (ex call gv k (env.set i (some (.t (.lst out)))) m') xr cm m H _ from ho) x4⟩
end
end Mi
end
section
set_option linter.all false
set_option maxRecDepth 100000
namespace Mi
open PySem PySem.Spec PyProof.Rows L2
noncomputable def xr0 : XR := fun _ _ _ _ => False
noncomputable def spF (K : PySem.W.Frag) (fns : List Fn) (gv : List T) (k f : Nat) : Sp := fun vs H Q _ => ∃ cm m ws, MemR K cm m H ∧ RWs K cm m H ws vs ∧ OkR K (callF fns gv k f ws m) xr0 cm m H fun w cm' m' H' => ∀ v, RW K cm' m' H' w v → Q v H'
noncomputable def FOk (P : Program) (w : World) (K : PySem.W.Frag) (mg : Str → Option Value) (base : Heap) (fns : List Fn) (gv : List T) (k : Nat) (x : Str) (fi : Nat) : Prop :=
  ∃ f fd ps, mg x = some (.ref f) ∧ PySem.W.keepIn K (.ref f) = true ∧ Binds K fd ps [] ∧ FnOk P w K mg base CX0 k f fd ps (spF K fns gv k fi)
section
variable {K : PySem.W.Frag} {cm cm' : List Addr} {m m' : Mem} {H H' : Hp} {X : Cx} {fns : List Fn} {gv : List T}
variable {a b c e : Expr} {es : List Expr} {ea eb ec : E} {eas : Es} {pos p p2 : Pos} {k n : Nat}
theorem pe_callW {fi : Nat} {x : Str} (F : FOk X.prog X.w X.K X.mg X.base fns gv k x fi) (hr : Room k X.A) (hg : Gl X x) (ha : PA X (e :: es) (tA X.K (callF fns gv k) gv xr0 eas)) (hdb : (x == ("__debug__" : Str)) = false := by decide)
    (he : notStar e = true := by rfl) (hpl : es.all notStar = true := by rfl) :
    PE X (.Call (.Name x p) (e :: es) [] pos) (tE X.K (callF fns gv k) gv xr0 (.call fi eas)) := by
  obtain ⟨f, fd, ps, hm, hk, hb, F⟩ := F
  refine PE.mono (pe_call F hr hg hm hk hb (dvs := []) .nil (E := E0) pass0 ha hdb (star_c he) (star_a hpl)) ?_
  rintro σ H Q ⟨env, cm, m, hE, M, ho⟩
  rw [ev] at ho
  refine ⟨env, cm, m, hE, M, ho.bind.mono fun ws cm1 m1 H1 x1 M1 o1 vs rvs => ?_⟩
  show spF X.K fns gv k fi (vs ++ []) H1 Q E0
  rw [List.append_nil]
  exact ⟨cm1, m1, ws, M1, rvs, o1⟩
theorem live_take {i n : Nat} {c : Bool × List T} (h : (m.take n)[i]? = some (some c)) : m[i]? = some (some c) ∧ i < n := by
  rw [List.getElem?_take] at h
  split at h
  · exact ⟨h, ‹_›⟩
  · cases h
theorem look_take {i n : Nat} (h : i < n) : (cm.take n)[i]? = cm[i]? := by rw [List.getElem?_take, if_pos h]
theorem notLive_take {n : Nat} {a : Addr} (h : NotLive cm m a) : NotLive (cm.take n) (m.take n) a := fun i q e => by
  obtain ⟨e1, hi⟩ := live_take e
  rw [look_take hi]
  exact h i q e1
theorem take_mem (M : MemR K cm m H) (n : Nat) : MemR K (cm.take n) (m.take n) H ∧ ∀ t v, RT K cm m H t v → RT K (cm.take n) (m.take n) H t v := by
  have sm : ∀ t v, RT K cm m H t v → RT K (cm.take n) (m.take n) H t v := fun t v r => r.same (fun _ _ z => z) fun _ z _ => notLive_take z
  refine ⟨⟨by rw [List.length_take, List.length_take, M.len], fun i j a q r e1 e2 f1 f2 => ?_, fun i q e => ?_⟩, sm⟩
  · obtain ⟨e1, h1⟩ := live_take e1
    obtain ⟨e2, h2⟩ := live_take e2
    rw [look_take h1] at f1
    rw [look_take h2] at f2
    exact M.inj i j a q r e1 e2 f1 f2
  · obtain ⟨e1, h1⟩ := live_take e
    obtain ⟨a, vs, q1, q2, q3, q4⟩ := M.at' i q e1
    exact ⟨a, vs, by rw [look_take h1]; exact q1, q2, q3, paired_mono (fun _ _ z => sm _ _ z) q4⟩
theorem take_ext (M : MemR K cm m H) (x : Ext cm m H cm' m' H') : Ext cm m H (cm'.take m.length) (m'.take m.length) H' := by
  refine ⟨fun i a h => ?_, by rw [List.length_take]; have := x.len; omega, fun i ts h => ?_, fun a o h n => ⟨(x.keep a o h n).1, notLive_take (x.keep a o h n).2⟩⟩
  · have hi := (List.getElem?_eq_some_iff.mp h).1
    rw [M.len] at hi
    rw [look_take hi]
    exact x.pre i a h
  · have hi := (List.getElem?_eq_some_iff.mp h).1
    rw [List.getElem?_take, if_pos hi]
    exact x.lent i ts h
theorem fin_ok {cell : Bool} {fl : Flow} {Q : VK} {nn : Nat} (M : MemR K cm m H) (x : Ext cm m H cm' m' H') (M' : MemR K cm' m' H') (ho : OkR K (fin m.length cell fl m') xr0 cm m H fun w cm' m' H' => ∀ v, RW K cm' m' H' w v → Q v H') :
    endsR K nn { nx := fun _ H' => Q .non H', rt := Q } fl cm' m' H' := by
  obtain ⟨Mt, st⟩ := take_mem M' m.length
  have xt := take_ext M x
  cases fl with
  | next env => exact fun σ _ _ => OkR.to (a := W.t .non) ho xt Mt _ .non
  | brk env => exact ho.elim
  | cont env => exact ho.elim
  | ret w =>
    intro v rv
    cases w with
    | t t => exact OkR.to (a := W.t t) ho xt Mt v (st t v rv)
    | f a => exact ho.elim
    | c i =>
      unfold fin at ho
      dsimp only at ho
      split at ho
      · rename_i hi
        obtain ⟨a, h1, h2⟩ := rv
        exact OkR.to ho xt Mt v ⟨a, by rw [look_take hi]; exact h1, h2⟩
      · rename_i hi
        split at ho
        · rename_i ts e
          obtain ⟨a, h1, h2⟩ := rv
          obtain ⟨a', vs, q1, q2, q3, q4⟩ := M'.at' i _ e
          rw [h1] at q1; cases q1
          have na : NotLive (cm'.take m.length) (m'.take m.length) a := fun j q ej z => by
            obtain ⟨ej, hj⟩ := live_take ej
            rw [look_take hj] at z
            have := M'.inj j i a _ _ ej e z h1
            omega
          have lt : (cm'.take m.length).length = m.length := by rw [List.length_take, M'.len]; have := x.len; omega
          have lm : (m'.take m.length).length = m.length := by rw [List.length_take]; have := x.len; omega
          split at ho
          · -- a list that may change is handed back
            have nl : ∀ b, NotLive cm' m' b → NotLive (cm'.take m.length ++ [a]) (m'.take m.length ++ [some (false, ts)]) b := fun b n => by
              refine live_snoc (by rw [lt, lm]) (notLive_take n) fun z => ?_
              subst z
              exact n i _ e h1
            have sm : ∀ t v, RT K cm' m' H' t v → RT K (cm'.take m.length ++ [a]) (m'.take m.length ++ [some (false, ts)]) H' t v := fun t v r => r.same (fun _ _ z => z) fun b z _ => nl b z
            have cs : ∀ {j : Nat} {c : Bool × List T}, (m'.take m.length ++ [some (false, ts)])[j]? = some (some c) → ((m'.take m.length)[j]? = some (some c) ∧ j < m.length) ∨ (j = m.length ∧ c = (false, ts)) := fun {j c} ej => by
              by_cases hj : j < m.length
              · rw [List.getElem?_append_left (by rw [lm]; exact hj)] at ej
                exact .inl ⟨ej, hj⟩
              · by_cases hj2 : j = m.length
                · subst hj2
                  rw [List.getElem?_append_right (by rw [lm]; exact Nat.le_refl _), lm, Nat.sub_self] at ej
                  cases ej
                  exact .inr ⟨rfl, rfl⟩
                · rw [List.getElem?_eq_none (by rw [List.length_append, lm]; simp; omega)] at ej
                  cases ej
            have cl : ∀ {j : Nat}, j < m.length → (cm'.take m.length ++ [a])[j]? = (cm'.take m.length)[j]? := fun {j} hj => List.getElem?_append_left (by rw [lt]; exact hj)
            have cp : (cm'.take m.length ++ [a])[m.length]? = some a := by
              rw [List.getElem?_append_right (by rw [lt]; exact Nat.le_refl _), lt, Nat.sub_self]
              rfl
            refine OkR.to (cm' := cm'.take m.length ++ [a]) ho ⟨fun j b h => ?_, by rw [List.length_append, lm]; simp, fun j us h => ?_, fun b o h nb => ⟨(x.keep b o h nb).1, nl b (x.keep b o h nb).2⟩⟩ ⟨by rw [List.length_append, List.length_append, lt, lm]; rfl, fun j1 j2 b c1 c2 e1 e2 f1 f2 => ?_, fun j c ej => ?_⟩ v ⟨a, cp, h2⟩
            · have hj := (List.getElem?_eq_some_iff.mp h).1
              rw [M.len] at hj
              rw [cl hj]
              exact xt.pre j b h
            · have hj := (List.getElem?_eq_some_iff.mp h).1
              rw [List.getElem?_append_left (by rw [lm]; exact hj)]
              exact xt.lent j us h
            · rcases cs e1 with ⟨g1, l1⟩ | ⟨k1, _⟩
              · rw [cl l1] at f1
                rcases cs e2 with ⟨g2, l2⟩ | ⟨k2, _⟩
                · rw [cl l2] at f2
                  exact Mt.inj j1 j2 b _ _ g1 g2 f1 f2
                · rw [k2, cp] at f2; cases f2
                  exact absurd f1 (na j1 _ g1)
              · rw [k1, cp] at f1; cases f1
                rcases cs e2 with ⟨g2, l2⟩ | ⟨k2, _⟩
                · rw [cl l2] at f2
                  exact absurd f2 (na j2 _ g2)
                · rw [k1, k2]
            · rcases cs ej with ⟨g, l⟩ | ⟨kk, z⟩
              · obtain ⟨gg, _⟩ := live_take g
                obtain ⟨b, ws, w1, w2, w3, w4⟩ := M'.at' j c gg
                exact ⟨b, ws, by rw [cl l, look_take l]; exact w1, w2, w3, paired_mono (fun _ _ z => sm _ _ z) w4⟩
              · rw [kk, z]
                exact ⟨a, vs, cp, q2, q3, paired_mono (fun _ _ z => sm _ _ z) q4⟩
          · subst h2
            exact OkR.to (a := W.t (.lst ts)) ho xt Mt _ (RT.mlst q2 na (paired_mono (fun _ _ z => st _ _ z) q4))
        · exact ho.elim
theorem start_R {N : List Str} {ws : List W} {vs : List V} {j : Nat} (r : RWs K cm m H ws vs) (hj : j = N.length - vs.length) : EnvR K cm m H (ws.map some ++ List.replicate j none) (L2.start N vs) := fun i w e => by
  unfold L2.start
  have hl := r.length
  by_cases hi : i < ws.length
  · rw [List.getElem?_append_left (by simpa using hi), List.getElem?_map] at e
    cases q : ws[i]? with
    | none => rw [q] at e; cases e
    | some w' =>
      rw [q] at e; cases e
      obtain ⟨v, h1, h2⟩ := paired_get r q
      refine ⟨v, ?_, h2⟩
      rw [List.getElem?_append_left (by rw [List.length_map]; omega), List.getElem?_map, h1]
      rfl
  · rw [List.getElem?_append_right (by simpa using hi), List.getElem?_replicate] at e
    split at e <;> cases e
theorem start_len {N : List Str} {vs : List V} (h : vs.length ≤ N.length) : (L2.start N vs).length = N.length := by
  unfold L2.start
  rw [List.length_append, List.length_map, List.length_replicate]
  omega
theorem fn_okW {P : Program} {w : World} {mg : Str → Option Value} {base : Heap} {x qual : Str} {st : Stmt} {f : Addr} {fd : FuncData} {N ps : List Str} {fi : Nat} {d : Fn} (F : Fun K x qual st f fd) (S : FnScope N ps (defScope st)) (hd : fns[fi]? = some d) (hps : d.ps = ps.length) (hn : d.n = N.length)
    (hbody : ∀ (cdv : Value) (A : Around) (outer : List PySem.Env) (s : Shared) (H : Hp) (E : XK), Room k (A.deeper (envOfC qual (defScope st) s.heap.objs.size f cdv)) →
      PSs (cxOf CX0 P w K mg base N qual (defScope st) f cdv A outer s H E).nox (defBody st) (tS K (callF fns gv k) gv xr0 N.length d.body)) :
    FnOk P w K mg base CX0 (k + 1) f fd ps (spF K fns gv (k + 1) fi) := by
  have hpl : ps.length ≤ N.length := by have := congrArg List.length S.pre; rw [List.length_take] at this; omega
  have len : ∀ {ws : List W} {m : Mem} {cm : List Addr} {H : Hp} {post : W → List Addr → Mem → Hp → Prop}, OkR K (callF fns gv (k + 1) fi ws m) xr0 cm m H post → ws.length = d.ps ∧ OkR K ((ex (callF fns gv k) gv d.body (ws.map some ++ List.replicate (d.n - d.ps) none) m).bind fun fl m' => fin m.length d.cell fl m') xr0 cm m H post := fun {ws m cm H post} h => by
    rw [callF, hd] at h
    dsimp only at h
    by_cases hc : ws.length = d.ps
    · rw [if_pos hc] at h; exact ⟨hc, h⟩
    · rw [if_neg hc] at h; exact h.elim
  refine F.ok S (fun vs H Q E ⟨cm, m, ws, M, r, ho⟩ => by rw [← r.length, (len ho).1, hps]) (fun cdv A outer s H vs Q E hr ⟨cm, m, ws, M, r, ho⟩ => ?_)
  obtain ⟨hl, ho⟩ := len ho
  have hv : vs.length = ps.length := by rw [← r.length, hl, hps]
  refine ⟨_, hbody cdv A outer s H E hr, start_len (by omega), ws.map some ++ List.replicate (d.n - d.ps) none, cm, m, start_R r (by rw [hn, hps, hv]), M, ?_⟩
  exact ho.bind0.mono fun fl cm1 m1 H1 x1 M1 o1 => fin_ok M x1 M1 o1
theorem fn_none {P : Program} {w : World} {mg : Str → Option Value} {base : Heap} {f : Addr} {fd : FuncData} {ps : List Str} {fi : Nat} : FnOk P w K mg base CX0 0 f fd ps (spF K fns gv 0 fi) := by
  have no : ∀ vs H Q E, ¬ spF K fns gv 0 fi vs H Q E := fun vs H Q E ⟨cm, m, ws, M, r, ho⟩ => by
    rw [callF] at ho
    exact ho
  exact ⟨fun vs H Q E h => absurd h (no vs H Q E), fun A outer s H args us vs Q E _ _ _ _ h => absurd h (no vs H Q E)⟩
end
end Mi
end
section
set_option linter.all false
set_option maxRecDepth 100000
namespace Mi
open PySem PySem.Spec PyProof.Rows L2
section
variable {K : PySem.W.Frag} {xr : XR} {X : Cx} {call : Nat → List W → Mem → Res W} {gv : List T}
variable {e : Expr} {ea : E} {pos : Pos} {rest : List Stmt} {k : S} {n : Nat}
theorem vr (i : Nat) {x : Str} {pos : Pos} (hN : X.N[i]? = some x := by rfl) (hv : Vis X.env.scope x := by first | exact Or.inl rfl | exact Or.inr (Or.inl rfl) | exact Or.inr (Or.inr rfl)) (hd : (x == ("__debug__" : Str)) = false := by decide)
    (hcd : (x == ("__classdict__" : Str)) = false := by decide) : PE X (.Name x pos) (tE X.K call gv xr (.var i)) := pe_varW hN hv hd hcd
theorem sg (i : Nat) {x : Str} {px : Pos} (hN : X.N.Nodup) (h : PE X e (tE X.K call gv xr ea)) (hk : PSs X rest (tS X.K call gv xr n k)) (hn : X.N.length = n := by rfl) (hi : X.N[i]? = some x := by rfl) (hx : Loc X.env.scope x := by first | exact Or.inl rfl | exact Or.inr rfl)
    (hs : swapsWith e (some (.Name x px)) pos.line X.env = pure false := by rfl) (hf : X.fn x = true ∨ X.env.scope.names.lookup x = some .local := by first | exact .inl rfl | exact .inr rfl) : PSs X (.Assign [.Name x px] e pos :: rest) (tS X.K call gv xr n (.asg i ea k)) := pss_asgW hN hn hi hx h hk hs hf
theorem pg_nameW (i : Nat) {x : Str} {pos : Pos} (hN : X.N.Nodup) (hi : X.N[i]? = some x := by rfl) (hx : Loc X.env.scope x := by first | exact Or.inl rfl | exact Or.inr rfl) (hf : X.fn x = true ∨ X.env.scope.names.lookup x = some .local := by first | exact .inl rfl | exact .inr rfl) : PG X (.Name x pos) (gT X.K (.nm i)) := pg_name hN hi hx hf
noncomputable def scOk (scope osc : Scope) : Bool := scope.kind == .function && scope.names.all fun p => p.2 != .cell && scope.names.lookup p.1 == some p.2 && (p.2 != .free || osc.names.lookup p.1 == some .cell || osc.names.lookup p.1 == some .free)
noncomputable def keepOk (N' N : List Str) (own : Nat) (keep : List Nat) (scope : Scope) : Bool := N'.length == own + keep.length && (List.range keep.length).all fun i => match N'[own + i]?, keep[i]? with
  | some x, some j => N[j]? == some x && scope.names.any fun p => p.1 == x && p.2 == .free
  | _, _ => false
theorem compK_mk {N' : List Str} {scope : Scope} {own : Nat} {keep : List Nat} {elt target iter : Expr} {ifs : List Expr} {gs : List Comprehension} {it : E} {tg : Tg} {cs : Es} {inner : E} (h1 : scOk scope X.env.scope = true) (h2 : keepOk N' X.N own keep scope = true)
    (pi : PI X target iter (tI X.K call gv xr it)) (fs : ∀ x, foldedSetIterable iter X.env x = pure x) (ins : CompIn X xr call gv N' scope elt target ifs (⟨target, iter, ifs, 0⟩ :: gs) tg cs inner) (dis : ∀ i ∈ tgS tg, i ∉ innS inner) (slt : ∀ i ∈ tgS tg ++ innS inner, i < own) :
    CompK X xr call gv N' scope own keep elt target iter ifs gs it tg cs inner := by
  unfold scOk at h1
  rw [Bool.and_eq_true] at h1
  obtain ⟨hk, h1⟩ := h1
  have h1 := List.all_eq_true.mp h1
  unfold keepOk at h2
  rw [Bool.and_eq_true] at h2
  obtain ⟨hl, h2⟩ := h2
  have h2 := List.all_eq_true.mp h2
  refine ⟨⟨eq_of_beq hk, fun y hy => ?_, fun p hp => ?_, fun x hx => ?_⟩, eq_of_beq hl, fun i x e => ?_, pi, fs, ins, dis, slt⟩
  · have := h1 y hy
    simp only [Bool.and_eq_true] at this
    have h := this.1.1
    exact fun z => by rw [z] at h; cases h
  · have := h1 p hp
    simp only [Bool.and_eq_true] at this
    exact eq_of_beq this.1.2
  · have := h1 _ hx
    simp only [Bool.and_eq_true, Bool.or_eq_true] at this
    rcases this.2 with (h | h) | h
    · cases h
    · exact .inl (eq_of_beq h)
    · exact .inr (eq_of_beq h)
  · have hlen : N'.length = own + keep.length := eq_of_beq hl
    have hi : i < keep.length := by
      have := (List.getElem?_eq_some_iff.mp e).1
      omega
    have h := h2 i (List.mem_range.mpr hi)
    rw [e] at h
    cases q : keep[i]? with
    | none => rw [q] at h; cases h
    | some j =>
      rw [q] at h
      have h : (X.N[j]? == some x && scope.names.any fun p => p.1 == x && p.2 == .free) = true := h
      rw [Bool.and_eq_true] at h
      refine ⟨j, rfl, eq_of_beq h.1, ?_⟩
      obtain ⟨p, hp, hq⟩ := List.any_eq_true.mp h.2
      rw [Bool.and_eq_true] at hq
      rw [← eq_of_beq hq.1]
      have : p.2 = NameKind.free := eq_of_beq hq.2
      rw [← this]
      exact hp
theorem scr_of {H : Hp} {a : Addr} {ns : List Int} (hO : Only H) (hS : SqL K H a (ns.map V.int)) : ScrOk K H a ns := by
  rcases hS with (h | ⟨o, h⟩) | h
  · rcases hO a with q | ⟨o, xs, q⟩ <;> rw [h] at q <;> cases q
  · exact .inl ⟨o, h⟩
  · exact .inr h
theorem law_sp {fns : List Fn} {k fi : Nat} {H : Hp} {a : Addr} {ns : List Int} {E : XK} (hO : Only H) (hS : SqL K H a (ns.map V.int)) (h : ∃ m, callF fns gv k fi [.t (.scr ns)] [] = .ok (.t (.bl true)) m) : spF K fns gv k fi [.ref a] H (fun v _ => v = .bl true) E := by
  obtain ⟨m, h⟩ := h
  refine ⟨[], [], [.t (.scr ns)], ⟨rfl, fun i j a p q e => by simp at e, fun i p e => by simp at e⟩, .cons (.scr ns (scr_of hO hS)) .nil, ?_⟩
  rw [h]
  intro cm' H' x M v rv
  cases RT.vbl rv
  rfl
theorem glob_str {mg : Str → Option Value} {x y : Str} {t : Tok} {cs : List Nat} (h : mg x = some (.str y t)) (e : y.cps.toList = cs) : GlobOk K mg x (.str cs) := ⟨_, .str y, h, ⟨t, rfl⟩, fun cm m H => by rw [str_of e]; exact .str cs⟩
theorem glob_int {mg : Str → Option Value} {x : Str} {i : Int} {t : Tok} (h : mg x = some (.int i t)) : GlobOk K mg x (.int i) := ⟨_, .int i, h, ⟨t, rfl⟩, fun cm m H => .int i⟩
inductive StrsV : List (List Nat) → List Value → Prop where
  | nil : StrsV [] []
  | cons {y : Str} {t : Tok} {cs : List Nat} {r : List (List Nat)} {us : List Value} : y.cps.toList = cs → StrsV r us → StrsV (cs :: r) (.str y t :: us)
theorem glob_strs {mg : Str → Option Value} {x : Str} {a : Addr} {its : Array Value} {nn : Nat} {sl : Array (Option Value)} {css : List (List Nat)} (h : mg x = some (.ref a)) (l : K.lookup a = some ⟨.type "tuple", none, .seq its nn, sl⟩) (hz : its.size ≤ sizeLine) (hs : StrsV css its.toList) : GlobOk K mg x (.tup (css.map .str)) := by
  refine ⟨_, .ref a, h, rfl, fun cm m H => ?_⟩
  have go : ∀ {css : List (List Nat)} {us : List Value}, StrsV css us → Vals (css.map fun c => V.str ⟨c.toArray⟩) us ∧ RTs K cm m H (css.map .str) (css.map fun c => V.str ⟨c.toArray⟩) := fun {css us} h => by
    induction h with
    | nil => exact ⟨.nil, .nil⟩
    | @cons y t cs r us e _ ih =>
      refine ⟨.cons ?_ ih.1, .cons (.str cs) ih.2⟩
      show ∃ t', Value.str y t = Value.str ⟨cs.toArray⟩ t'
      rw [← str_of e]
      exact ⟨t, rfl⟩
  exact .mtup (.inr ⟨_, its, nn, l, rfl, rfl, hz, (go hs).1, rfl⟩) (go hs).2
end
end Mi
end
section
set_option linter.all false
set_option maxRecDepth 100000
namespace Mi
open PySem PySem.Spec PyProof.Rows L2
section
variable {K : PySem.W.Frag} {cm : List Addr} {m : Mem} {H : Hp} {xr : XR} {X : Cx} {call : Nat → List W → Mem → Res W} {gv : List T}
variable {a b c e : Expr} {es : List Expr} {ea eb ec : E} {eas : Es} {pos p p2 : Pos} {rest : List Stmt} {k : S} {n : Nat}
theorem pe_dsp0W : PE X (.Dict [] [] pos) (tE X.K call gv xr (.dsp .nil .nil)) := by
  refine PE.mono pe_dnewK ?_
  rintro σ H Q ⟨env, cm, m, hE, M, ho⟩
  have e0 : ev call gv (.dsp .nil .nil) env m = .ok (.t (.dct [] [])) m := by simp only [ev, evs, Res.bind, dspT]
  rw [e0] at ho
  intro p hp
  refine OkR.to ho (.new hp) (M.new (o := .dK []) hp) (.ref p) ?_
  exact .dct (ks := []) (vs := []) upd_same (notLive_new M hp) rfl rfl fun i t v h1 h2 => by cases h1
theorem mt_appendW : MtR X "list.append" (rM X.K xr .append) := by
  rintro pins s σ H x xs v us Q I rx rs ⟨cm, m, w, ws, M, rw', rws, ho⟩
  cases w with
  | t t => exact ho.elim
  | f a => exact ho.elim
  | c i =>
    have ho : OkR X.K ((frzs ws m).bind fun ts m => match m[i]? with
      | some (some (false, xs)) => match mutM .append xs ts with
        | some (t, ys) => .ok (W.t t) (m.set i (some (false, ys)))
        | none => .stuck
      | _ => .stuck) xr cm m H _ := ho
    obtain ⟨ts, m2, e2, o2⟩ := frzs_get ho
    obtain ⟨x2, M2, r2⟩ := frzs_ok M rws e2
    obtain ⟨a, ha, rfl⟩ := rw'
    split at o2
    · rename_i ys e3
      split at o2
      · rename_i t zs e4
        obtain ⟨b, vs, q1, q2, q3, q4⟩ := M2.at' i _ e3
        rw [ha] at q1; cases q1
        have l4 := q4.length
        dsimp only at l4
        have hz := line_lim
        match ts, r2, e4 with
        | [t1], .cons r3 .nil, e4 =>
          unfold mutM at e4
          dsimp only at e4
          split at e4 <;> cases e4
          rename_i hlt
          obtain ⟨x5, M5⟩ := cell_write M2 e3 ha (paired_append q4 (.cons r3 .nil))
          exact mt_append pins s σ H _ _ v us Q I rx rs ⟨a, vs, _, rfl, rfl, q2, by omega, OkR.to o2 (x2.trans x5) M5 _ .non⟩
        | [], _, e4 => cases e4
        | _ :: _ :: _, _, e4 => cases e4
      · exact o2.elim
    · exact o2.elim
theorem pe_appendW {o : Expr} {apos cpos : Pos} (ho : PE X o (tE X.K call gv xr ea)) (ha : PA X [e] (tA X.K call gv xr eas))
    (hbase : attributeBase o "append" X.env (eval o X.env) = eval o X.env := by rfl)
    (hline : (apos.endLine == cpos.line) = true := by rfl) (hs : notStar e = true := by rfl) :
    PE X (.Call (.Attribute o "append" apos) [e] [] cpos) (tE X.K call gv xr (.mth .append ea eas)) := by
  refine PE.mono (pe_bm PySem.F.plainAttrs_list PySem.F.slot_list_append PySem.F.type_list_append (mt_appendW (xr := xr)) ho ha hbase (few1 hs) hline (star_c hs) (star_a rfl)) ?_
  rintro σ H Q ⟨env, cm, m, hE, M, hq⟩
  rw [ev] at hq
  refine ⟨env, cm, m, hE, M, hq.bind.mono fun w cm1 m1 H1 x1 M1 o1 v rv => ?_⟩
  obtain ⟨ht, o1⟩ := if_get o1
  refine ⟨?_, env, cm1, m1, hE.ext x1 M M1, M1, o1.bind.mono fun ws cm2 m2 H2 x2 M2 o2 vs rvs => ?_⟩
  · cases w with
    | t t => cases ht
    | f a => cases ht
    | c i =>
      obtain ⟨a, h1, rfl⟩ := rv
      have ht : (match m1[i]? with
        | some (some _) => true
        | _ => false) = true := ht
      split at ht
      · rename_i c e1
        obtain ⟨b, vs, q1, q2, _⟩ := M1.at' i _ e1
        rw [h1] at q1; cases q1
        exact .inl ⟨rfl, vs, .of q2⟩
      · cases ht
  · exact ⟨cm2, m2, w, ws, M2, rv.ext x2 M1 M2, rvs, o2⟩
end
end Mi
namespace Mi
open PySem PySem.Spec PyProof.Rows L2
section
variable {xr : XR} {X : Cx} {call : Nat → List W → Mem → Res W} {gv : List T}
variable {e : Expr} {es : List Expr} {eas : Es} {pos p : Pos}
theorem pe_lenW (hg : Gl X "len") (hm : X.mg "len" = none) (ha : PA X (e :: es) (tA X.K call gv xr eas)) (he : notStar e = true) (hpl : es.all notStar = true) : PE X (.Call (.Name "len" p) (e :: es) [] pos) (tE X.K call gv xr (.blt .len eas)) := pe_bltB call_lenW (by decide +kernel) hg hm ha (by decide) (by decide) he hpl
theorem pe_intWc (hg : Gl X "int") (hm : X.mg "int" = none) (ha : PA X (e :: es) (tA X.K call gv xr eas)) (he : notStar e = true) (hpl : es.all notStar = true) : PE X (.Call (.Name "int" p) (e :: es) [] pos) (tE X.K call gv xr (.blt .int eas)) := pe_bltT call_intW (by decide +kernel) hg hm ha (by decide) (by decide) he hpl
theorem pe_tupleWc (hg : Gl X "tuple") (hm : X.mg "tuple" = none) (ha : PA X (e :: es) (tA X.K call gv xr eas)) (he : notStar e = true) (hpl : es.all notStar = true) (hc : X.calm = true := by rfl) : PE X (.Call (.Name "tuple" p) (e :: es) [] pos) (tE X.K call gv xr (.blt .tuple eas)) := pe_bltT (call_tupleW hc) (by decide +kernel) hg hm ha (by decide) (by decide) he hpl
theorem pe_listWc (hg : Gl X "list") (hm : X.mg "list" = none) (ha : PA X (e :: es) (tA X.K call gv xr eas)) (he : notStar e = true) (hpl : es.all notStar = true) : PE X (.Call (.Name "list" p) (e :: es) [] pos) (tE X.K call gv xr (.blt .list eas)) := pe_bltT call_listW (by decide +kernel) hg hm ha (by decide) (by decide) he hpl
theorem pe_allWc (hg : Gl X "all") (hm : X.mg "all" = none) (ha : PA X (e :: es) (tA X.K call gv xr eas)) (he : notStar e = true) (hpl : es.all notStar = true) (hc : X.calm = true := by rfl) : PE X (.Call (.Name "all" p) (e :: es) [] pos) (tE X.K call gv xr (.blt .all eas)) := pe_bltB (call_allW hc) (by decide +kernel) hg hm ha (by decide) (by decide) he hpl
end
end Mi
namespace Mi
open PySem PySem.Spec PyProof.Rows L2
structure Bd (X : Cx) (st : List Stmt) (t : TS) : Prop where
  h : PSs X st t
theorem fn_okV {K : PySem.W.Frag} {fns : List Fn} {gv : List T} {k : Nat} {P : Program} {w : World} {mg : Str → Option Value} {base : Heap} {x qual : Str} {st : Stmt} {f : Addr} {fd : FuncData} {N ps : List Str} {fi np n : Nat} {body : S} {cell : Bool} (F : Fun K x qual st f fd) (S : FnScope N ps (defScope st)) (hd : fns[fi]? = some ⟨np, n, body, cell⟩) (hps : np = ps.length) (hn : N.length = n)
    (hbody : ∀ (cdv : Value) (A : Around) (outer : List PySem.Env) (s : Shared) (H : Hp) (E : XK), Room k (A.deeper (envOfC qual (defScope st) s.heap.objs.size f cdv)) →
      Bd (cxOf CX0 P w K mg base N qual (defScope st) f cdv A outer s H E).nox (defBody st) (tS K (callF fns gv k) gv xr0 n body)) :
    FnOk P w K mg base CX0 (k + 1) f fd ps (spF K fns gv (k + 1) fi) := by
  subst hn
  exact fn_okW F S hd hps rfl fun cdv A outer s H E hr => (hbody cdv A outer s H E hr).h
end Mi
end
section
set_option linter.all false
set_option maxRecDepth 100000
namespace Mi
open PySem PySem.Spec PyProof.Rows L2
section
variable {K : PySem.W.Frag} {cm : List Addr} {m : Mem} {H : Hp} {xr : XR} {X : Cx} {call : Nat → List W → Mem → Res W} {gv : List T}
variable {a b c e : Expr} {es : List Expr} {ea eb ec : E} {eas : Es} {pos p p2 : Pos} {rest : List Stmt} {k : S} {n : Nat}
end
end Mi
end
section
set_option linter.all false
namespace Mi
theorem loopC_pure {f : Env → Mem → Res (List T)} {tg : Tg} {env : Env} {m : Mem} {g : T → List T} : ∀ (ts : List T), (∀ t ∈ ts, ∃ env', bindTg tg t env = some env' ∧ f env' m = .ok (g t) m) → loopC f tg ts env m = .ok (ts.flatMap g) m
  | [], _ => rfl
  | t :: ts, h => by
    obtain ⟨env', e1, e2⟩ := h t List.mem_cons_self
    rw [loopC, e1]
    show (f env' m).bind _ = _
    rw [e2]
    show (loopC f tg ts env m).bind _ = _
    rw [loopC_pure ts fun t ht => h t (List.mem_cons_of_mem _ ht)]
    rfl
inductive Turns {α β : Type} (R : α → β → Prop) : List α → List β → Prop where
  | nil : Turns R [] []
  | cons {a : α} {b : β} {as : List α} {bs : List β} : R a b → Turns R as bs → Turns R (a :: as) (b :: bs)
theorem Turns.length {α β : Type} {R : α → β → Prop} {as : List α} {bs : List β} (h : Turns R as bs) : as.length = bs.length := by
  induction h with
  | nil => rfl
  | cons _ _ ih => simp [ih]
theorem loopC_st {f : Env → Mem → Res (List T)} {tg : Tg} {env : Env} {P : Mem → Prop} {R : T → List T → Prop} : ∀ (ts : List T) (m : Mem), P m → (∀ t ∈ ts, ∀ m, P m → ∃ env' xs m', bindTg tg t env = some env' ∧ f env' m = .ok xs m' ∧ P m' ∧ R t xs) →
    ∃ xss m', loopC f tg ts env m = .ok xss.flatten m' ∧ P m' ∧ Turns R ts xss
  | [], m, hm, _ => ⟨[], m, rfl, hm, .nil⟩
  | t :: ts, m, hm, h => by
    obtain ⟨env', xs, m1, e1, e2, p1, r1⟩ := h t List.mem_cons_self m hm
    obtain ⟨xss, m2, e3, p2, r2⟩ := loopC_st ts m1 p1 fun t ht => h t (List.mem_cons_of_mem _ ht)
    refine ⟨xs :: xss, m2, ?_, p2, .cons r1 r2⟩
    rw [loopC, e1]
    show (f env' m).bind _ = _
    rw [e2]
    show (loopC f tg ts env m1).bind _ = _
    rw [e3]
    rfl
theorem loopS_next {f : Env → Mem → Res Flow} {tg : Tg} {P : Env → Mem → Prop} : ∀ (ts : List T) (env : Env) (m : Mem), P env m → (∀ t ∈ ts, ∀ env m, P env m → ∃ env1 env2 m2, bindTg tg t env = some env1 ∧ f env1 m = .ok (.next env2) m2 ∧ P env2 m2) →
    ∃ env' m', loopS f tg ts env m = .ok (.next env') m' ∧ P env' m'
  | [], env, m, hm, _ => ⟨env, m, rfl, hm⟩
  | t :: ts, env, m, hm, h => by
    obtain ⟨env1, env2, m2, e1, e2, p2⟩ := h t List.mem_cons_self env m hm
    obtain ⟨env3, m3, e3, p3⟩ := loopS_next ts env2 m2 p2 fun t ht => h t (List.mem_cons_of_mem _ ht)
    refine ⟨env3, m3, ?_, p3⟩
    rw [loopS, e1]
    show (f env1 m).bind _ = _
    rw [e2]
    exact e3
theorem atT_mem {α : Type} {xs : List α} {i : Int} (h0 : 0 ≤ i) (h1 : i < xs.length) : ∃ x, atT xs i = some x ∧ x ∈ xs := by
  have hi : i.toNat < xs.length := by omega
  refine ⟨xs[i.toNat], ?_, List.getElem_mem hi⟩
  unfold atT ixOf
  rw [if_pos h0, if_pos h1]
  exact List.getElem?_eq_getElem hi
theorem bools_map {α : Type} (f : α → Bool) : ∀ xs : List α, bools? (xs.map fun x => .bl (f x)) = some (xs.map f)
  | [] => rfl
  | x :: xs => by
    rw [List.map_cons, bools?, bools_map f xs]
    rfl
theorem strs_map {α : Type} (f : α → List Nat) : ∀ xs : List α, strs? (xs.map fun x => .str (f x)) = some (xs.map f)
  | [] => rfl
  | x :: xs => by
    rw [List.map_cons, strs?, strs_map f xs]
    rfl
theorem joinN_nil : ∀ xs : List (List Nat), joinN [] xs = xs.flatten
  | [] => rfl
  | [x] => by simp [joinN]
  | x :: y :: r => by
    show x ++ [] ++ joinN [] (y :: r) = _
    rw [joinN_nil (y :: r)]; simp
section
variable {call : Nat → List W → Mem → Res W} {gv : List T}
noncomputable def turnD (call : Nat → List W → Mem → Res W) (gv : List T) (cs : Es) (inner : E) (env : Env) (m : Mem) : Res (List T) := (tests call gv cs env m).bind fun k m => if k then (ev call gv inner env m).bind asLst else .ok [] m
theorem comp_done {own : Nat} {keep : List Nat} {it : E} {tg : Tg} {cs : Es} {inner : E} {env : Env} {m m0 m1 m2 : Mem} {x : W} {ts out : List T} (h1 : ev call gv it env m = .ok x m0) (h2 : borrow x m0 = .ok ts m1)
    (h3 : loopC (turnD call gv cs inner) tg ts (List.replicate own none ++ keep.map fun i => (env[i]?).join) m1 = .ok out m2) (hz : out.length ≤ lim) : ev call gv (.comp own keep it tg cs inner) env m = .ok (.t (.lst out)) (giveBack x m0 m2) := by
  have e : ev call gv (.comp own keep it tg cs inner) env m = (ev call gv it env m).only.bind fun x m0 => (borrow x m0).bind fun ts m =>
      (loopC (turnD call gv cs inner) tg ts (List.replicate own none ++ keep.map fun i => (env[i]?).join) m).only.bind fun out m =>
        if out.length ≤ lim then .ok (.t (.lst out)) (giveBack x m0 m) else .stuck := by rw [ev]; rfl
  rw [e, h1]
  show (borrow x m0).bind _ = _
  rw [h2]
  show (loopC (turnD call gv cs inner) tg ts (List.replicate own none ++ keep.map fun i => (env[i]?).join) m1).only.bind _ = _
  rw [h3]
  exact if_pos hz
theorem for_next {tg : Tg} {it : E} {body k : S} {env env' : Env} {m m0 m1 m2 : Mem} {x : W} {ts : List T} (h1 : ev call gv it env m = .ok x m0) (h2 : borrow x m0 = .ok ts m1) (h3 : loopS (ex call gv body) tg ts env m1 = .ok (.next env') m2) :
    ex call gv (.forr tg it body k) env m = ex call gv k env' (giveBack x m0 m2) := by
  rw [ex, h1]
  show (borrow x m0).bind _ = _
  rw [h2]
  show (loopS (ex call gv body) tg ts env m1).bind _ = _
  rw [h3]
  rfl
end
section
variable {call : Nat → List W → Mem → Res W} {gv : List T} {env : Env} {m m1 m2 : Mem} {k a b : S} {e : E} {w : W}
theorem bind_k {α β : Type} (x : α) (m : Mem) (f : α → Mem → Res β) : (Res.ok x m).bind f = f x m := rfl
theorem only_k {α : Type} (x : α) (m : Mem) : (Res.ok x m).only = .ok x m := rfl
theorem view_k (x : T) (m : Mem) : view (.t x) m = some x := rfl
theorem pur_k (x : T) (m : Mem) : pur (some x) m = .ok (.t x) m := rfl
theorem boolW_k (x : Bool) (m : Mem) : boolW (.t (.bl x)) m = .ok x m := rfl
theorem truthW_k (x : Bool) (m : Mem) : truthW (.t (.bl x)) m = .ok x m := rfl
theorem frz_k (x : T) (m : Mem) : frz (.t x) m = .ok x m := rfl
theorem asLst_k (x : List T) (m : Mem) : asLst (.t (.lst x)) m = .ok x m := rfl
theorem intP_k (x : Int) (m : Mem) : intP (.t (.int x)) m = .ok (some x) m := rfl
theorem c_lt (i j : Int) : cmpT .Lt (.int i) (.int j) = some (decide (i < j)) := rfl
theorem c_le (i j : Int) : cmpT .LtE (.int i) (.int j) = some (decide (i ≤ j)) := rfl
theorem c_gt (i j : Int) : cmpT .Gt (.int i) (.int j) = some (decide (j < i)) := rfl
theorem c_ge (i j : Int) : cmpT .GtE (.int i) (.int j) = some (decide (j ≤ i)) := rfl
theorem c_eqI (i j : Int) : cmpT .Eq (.int i) (.int j) = some (i == j) := rfl
theorem c_neI (i j : Int) : cmpT .NotEq (.int i) (.int j) = some (!(i == j)) := rfl
theorem c_eqB (i j : Bool) : cmpT .Eq (.bl i) (.bl j) = some (i == j) := rfl
theorem c_neB (i j : Bool) : cmpT .NotEq (.bl i) (.bl j) = some (!(i == j)) := rfl
theorem c_eqS (i j : List Nat) : cmpT .Eq (.str i) (.str j) = some (i == j) := rfl
theorem c_neS (i j : List Nat) : cmpT .NotEq (.str i) (.str j) = some (!(i == j)) := rfl
theorem c_in1 (i : Nat) (j : List Nat) : cmpT .In (.str [i]) (.str j) = some (decide (i ∈ j)) := rfl
theorem c_isT (b x : Bool) : cmpT .Is (.bl x) (.bl b) = some (x == b) := rfl
theorem b_add (i j : Int) : binT .Add (.int i) (.int j) = some (.int (i + j)) := rfl
theorem b_sub (i j : Int) : binT .Sub (.int i) (.int j) = some (.int (i - j)) := rfl
theorem b_addS {a b : List Nat} (h : a.length + b.length ≤ lim) : binT .Add (.str a) (.str b) = some (.str (a ++ b)) := if_pos h
theorem b_addL {a b : List T} (h : a.length + b.length ≤ lim) : binT .Add (.lst a) (.lst b) = some (.lst (a ++ b)) := if_pos h
theorem b_addT {a b : List T} (h : a.length + b.length ≤ lim) : binT .Add (.tup a) (.tup b) = some (.tup (a ++ b)) := if_pos h
theorem b_mul {i j : Int} (h : mulOk i j = true) : binT .Mult (.int i) (.int j) = some (.int (i * j)) := if_pos h
theorem b_div {i j : Int} (h : 0 < j ∧ j < 1073741824) : binT .FloorDiv (.int i) (.int j) = some (.int (i / j)) := if_pos h
theorem b_mod {i j : Int} (h : 0 < j) : binT .Mod (.int i) (.int j) = some (.int (i % j)) := if_pos h
theorem b_pow {i j : Int} (h : 0 ≤ j ∧ j ≤ 1000 ∧ i.natAbs < 2 ^ 64) : binT .Pow (.int i) (.int j) = some (.int (i ^ j.toNat)) := if_pos h
theorem x_tup (ts : List T) (i : Int) : ixT (.tup ts) (.int i) = atT ts i := rfl
theorem x_lst (ts : List T) (i : Int) : ixT (.lst ts) (.int i) = atT ts i := rfl
theorem x_scr (ts : List Int) (i : Int) : ixT (.scr ts) (.int i) = (atT ts i).map .int := rfl
theorem x_str {cs : List Nat} (h : cs.length ≤ lim) (i : Int) : ixT (.str cs) (.int i) = (atT cs i).map fun c => .str [c] := if_pos h
theorem s_lst (ts : List T) (lo hi : Option Int) : slT (.lst ts) lo hi = some (.lst (cut ts lo hi)) := rfl
theorem s_scr (ts : List Int) (lo hi : Option Int) : slT (.scr ts) lo hi = some (.lst ((cut ts lo hi).map .int)) := rfl
theorem l_str {cs : List Nat} (h : cs.length ≤ lim) : bltT .len [.str cs] = some (.int cs.length) := if_pos h
theorem l_lst (ts : List T) : bltT .len [.lst ts] = some (.int ts.length) := rfl
theorem l_tup (ts : List T) : bltT .len [.tup ts] = some (.int ts.length) := rfl
theorem l_scr (ts : List Int) : bltT .len [.scr ts] = some (.int ts.length) := rfl
theorem l_int (b : Bool) : bltT .int [.bl b] = some (.int (b2i b)) := rfl
theorem l_tupl (ts : List T) : bltT .tuple [.lst ts] = some (.tup ts) := rfl
theorem l_all {ts : List T} {bs : List Bool} (h : bools? ts = some bs) : bltT .all [.lst ts] = some (.bl (bs.all id)) := by
  show (bools? ts).map _ = _
  rw [h]; rfl
theorem l_rng {i : Int} (h : i < 2 ^ 62 ∧ -(2 ^ 62) ≤ i) : bltT .range1 [.int i] = some (.lst (rangeT 0 i.toNat)) := if_pos h
theorem views_k : views [] m = some [] := rfl
theorem views_c (x : T) (ws : List W) : views (.t x :: ws) m = (views ws m).map (x :: ·) := rfl
theorem frzs_k : frzs [] m = .ok [] m := rfl
theorem frzs_c (x : T) (ws : List W) : frzs (.t x :: ws) m = (frzs ws m).bind fun ts m => .ok (x :: ts) m := rfl
theorem ex_asg {i : Nat} (h : ev call gv e env m = .ok w m1) : ex call gv (.asg i e k) env m = ex call gv k (env.set i (some w)) m1 := by rw [ex, h]; rfl
theorem ex_ret (h : ev call gv e env m = .ok w m1) : ex call gv (.ret e k) env m = .ok (.ret w) m1 := by rw [ex, h]; rfl
theorem ex_ifR (h : ev call gv e env m = .ok (.t (.bl true)) m1) (h2 : ex call gv a env m1 = .ok (.ret w) m2) : ex call gv (.ife e a b k) env m = .ok (.ret w) m2 := by
  rw [ex, h]
  show (ex call gv a env m1).bind _ = _
  rw [h2]; rfl
theorem ex_ifF (h : ev call gv e env m = .ok (.t (.bl false)) m1) : ex call gv (.ife e a .done k) env m = ex call gv k env m1 := by rw [ex, h]; rfl
theorem ex_setK {c : Nat} {o i v : E} {x : T} {j : Int} {xs : List T} {q : Nat} (h1 : ev call gv v env m = .ok (.t x) m1) (h2 : ev call gv o env m1 = .ok (.c c) m1) (h3 : ev call gv i env m1 = .ok (.t (.int j)) m1) (h4 : m1[c]? = some (some (false, xs))) (h5 : ixOf xs.length j = some q) :
    ex call gv (.set o i v k) env m = ex call gv k env (m1.set c (some (false, xs.set q x))) := by
  rw [ex, h1]
  show ((ev call gv o env m1).bind _) = _
  rw [h2]
  show ((ev call gv i env m1).bind _) = _
  rw [h3]
  show (setM (.c c) (.t (.int j)) (.t x) m1).bind _ = _
  have : setM (.c c) (.t (.int j)) (.t x) m1 = .ok () (m1.set c (some (false, xs.set q x))) := by
    unfold setM
    dsimp only [frz, Res.bind]
    rw [h4]
    dsimp only
    rw [h5]
  rw [this]; rfl
theorem ret_fin {n : Nat} {cell : Bool} {t : T} (h : m1.length = n) : fin n cell (.ret (.t t)) m1 = .ok (.t t) m1 := by
  show Res.ok (W.t t) (m1.take n) = _
  rw [← h, List.take_length]
theorem fn_ret {c : Prop} [Decidable c] {b : S} {env : Env} {m m1 m2 : Mem} {k : Nat} {cell : Bool} {X : Res W} {w w' : W} (hX : X = if c then (ex call gv b env m).bind fun fl m' => fin k cell fl m' else .stuck) (hc : c) (key : ex call gv b env m = .ok (.ret w) m1) (hf : fin k cell (.ret w) m1 = .ok w' m2) : X = .ok w' m2 := by
  rw [hX, if_pos hc, key]
  exact hf
theorem d_join {sep : List Nat} {xs : List T} {ys : List (List Nat)} (h : strs? xs = some ys) (hz : (ys.map List.length).sum + ys.length * sep.length ≤ lim) : doM .join (.t (.str sep)) [.t (.lst xs)] m = .ok (.t (.str (joinN sep ys))) m := by
  show pur ((strs? xs).bind fun ys => if (ys.map List.length).sum + ys.length * sep.length ≤ lim then some (.str (joinN sep ys)) else none) m = _
  rw [h]
  show pur (if (ys.map List.length).sum + ys.length * sep.length ≤ lim then some (.str (joinN sep ys)) else none) m = _
  rw [if_pos hz]
  rfl
theorem t_join {x : List Nat} : tyM .join (.t (.str x)) m = true := rfl
end
noncomputable def EVs := And.intro @bind_k (And.intro @only_k (And.intro @view_k (And.intro @pur_k (And.intro @boolW_k (And.intro @truthW_k (And.intro @frz_k (And.intro @asLst_k (And.intro @intP_k (And.intro @c_lt (And.intro @c_le (And.intro @c_gt (And.intro @c_ge (And.intro @c_eqI (And.intro @c_neI (And.intro @c_eqB (And.intro @c_neB (And.intro @c_eqS (And.intro @c_neS (And.intro @c_in1 (And.intro @c_isT (And.intro @b_add (And.intro @b_sub (And.intro @x_tup (And.intro @x_lst (And.intro @x_scr (And.intro @s_lst (And.intro @s_scr (And.intro @l_lst (And.intro @l_tup (And.intro @l_scr (And.intro @l_int (And.intro @l_tupl (And.intro @views_k (And.intro @views_c (And.intro @frzs_k (@frzs_c))))))))))))))))))))))))))))))))))))
end Mi
end
section
set_option linter.all false
set_option maxRecDepth 100000
namespace Mi
open PySem PySem.Spec PyProof.Rows L2
theorem nlt_anti : ∀ {a b : List Nat}, nlt a b = false → nlt b a = false → a = b
  | [], [], _, _ => rfl
  | [], _ :: _, h, _ => by simp [nlt] at h
  | _ :: _, [], _, h => by simp [nlt] at h
  | a :: x, b :: y, h1, h2 => by
    unfold nlt at h1 h2
    by_cases h : a < b
    · simp [h] at h1
    · by_cases h' : b < a
      · simp [h'] at h2
      · have e : a = b := by omega
        subst e
        simp at h1 h2
        rw [nlt_anti h1 h2]
section
variable {K : PySem.W.Frag} {cm : List Addr} {m : Mem} {H : Hp} {xr : XR} {X : Cx} {call : Nat → List W → Mem → Res W} {gv : List T}
variable {a b c e : Expr} {es : List Expr} {ea eb ec : E} {eas : Es} {pos p p2 : Pos} {rest : List Stmt} {k : S} {n : Nat}
theorem paired_erase {α β : Type} {F : α → β → Prop} : ∀ {xs : List α} {ys : List β} (k : Nat), Paired F xs ys → Paired F (xs.eraseIdx k) (ys.eraseIdx k)
  | _, _, _, .nil => .nil
  | _, _, 0, .cons _ t => t
  | _, _, k + 1, .cons r t => .cons r (paired_erase k t)
theorem mt_popatW : MtR X "list.pop" (rM X.K xr .popat) := by
  rintro pins s σ H x xs v us Q I rx rs ⟨cm, m, w, ws, M, rw', rws, ho⟩
  cases w with
  | t t => exact ho.elim
  | f a => exact ho.elim
  | c i =>
    have ho : OkR X.K ((frzs ws m).bind fun ts m => match m[i]? with
      | some (some (false, xs)) => match mutM .popat xs ts with
        | some (t, ys) => .ok (W.t t) (m.set i (some (false, ys)))
        | none => .stuck
      | _ => .stuck) xr cm m H _ := ho
    obtain ⟨ts, m2, e2, o2⟩ := frzs_get ho
    obtain ⟨x2, M2, r2⟩ := frzs_ok M rws e2
    obtain ⟨a, ha, rfl⟩ := rw'
    split at o2
    · rename_i ys e3
      split at o2
      · rename_i t zs e4
        obtain ⟨b, vs, q1, q2, q3, q4⟩ := M2.at' i _ e3
        rw [ha] at q1; cases q1
        have l4 := q4.length
        dsimp only at l4
        have hz := line_lim
        match ts, r2, e4 with
        | [.int j], .cons r3 .nil, e4 =>
          have e4 : (match ixOf ys.length j with
            | some k => (ys[k]?).map fun t => (t, ys.eraseIdx k)
            | none => none) = some (t, zs) := e4
          split at e4
          · rename_i k hk
            cases q5 : ys[k]? with
            | none => rw [q5] at e4; cases e4
            | some y =>
              rw [q5] at e4; cases e4
              cases RT.vint r3
              obtain ⟨yv, hy, ry⟩ := paired_get q4 q5
              obtain ⟨x5, M5⟩ := cell_write M2 e3 ha (paired_erase k q4)
              have hk2 : ixN vs.length j = some k := by rw [← l4]; exact hk
              obtain ⟨z1, z2, z3, z4⟩ := ixN_seq hk2
              obtain ⟨its, nn, rr, hho, hzz⟩ := I.lst q2
              have hsl := sizeLine_eq
              exact mt_popAt pins s σ H _ _ v us Q I rx rs ⟨a, vs, j, k, yv, rfl, rfl, q2, by omega, by omega, z1, hy, OkR.to o2 (x2.trans x5) M5 _ (RT.ext x5 M2 M5 ry)⟩
          · cases e4
        | [], _, e4 => cases e4
        | x1 :: _ :: _, _, e4 => cases x1 <;> cases e4
        | [.non], _, e4 => cases e4
        | [.bl _], _, e4 => cases e4
        | [.str _], _, e4 => cases e4
        | [.tup _], _, e4 => cases e4
        | [.lst _], _, e4 => cases e4
        | [.dct _ _], _, e4 => cases e4
        | [.scr _], _, e4 => cases e4
      · exact o2.elim
    · exact o2.elim
theorem ty_cell {b : Mt} {w : W} {v : V} (hb : b = .append ∨ b = .popat) (M : MemR K cm m H) (r : RW K cm m H w v) (h : tyM b w m = true) : tyV K "list" v H := by
  cases w with
  | t t => rcases hb with rfl | rfl <;> cases h
  | f a => rcases hb with rfl | rfl <;> cases h
  | c i =>
    obtain ⟨a, h1, rfl⟩ := r
    have ht : (match m[i]? with
      | some (some _) => true
      | _ => false) = true := by rcases hb with rfl | rfl <;> exact h
    split at ht
    · rename_i c e1
      obtain ⟨b, vs, q1, q2, _⟩ := M.at' i _ e1
      rw [h1] at q1; cases q1
      exact .inl ⟨rfl, vs, .of q2⟩
    · cases ht
theorem pe_popW {o : Expr} {apos cpos : Pos} (ho : PE X o (tE X.K call gv xr ea)) (ha : PA X [e] (tA X.K call gv xr eas))
    (hbase : attributeBase o "pop" X.env (eval o X.env) = eval o X.env := by rfl)
    (hline : (apos.endLine == cpos.line) = true := by rfl) (hs : notStar e = true := by rfl) :
    PE X (.Call (.Attribute o "pop" apos) [e] [] cpos) (tE X.K call gv xr (.mth .popat ea eas)) := by
  refine PE.mono (pe_bm PySem.F.plainAttrs_list PySem.F.slot_list_pop PySem.F.type_list_pop (mt_popatW (xr := xr)) ho ha hbase (few1 hs) hline (star_c hs) (star_a rfl)) ?_
  rintro σ H Q ⟨env, cm, m, hE, M, hq⟩
  rw [ev] at hq
  refine ⟨env, cm, m, hE, M, hq.bind.mono fun w cm1 m1 H1 x1 M1 o1 v rv => ?_⟩
  obtain ⟨ht, o1⟩ := if_get o1
  exact ⟨ty_cell (.inr rfl) M1 rv ht, env, cm1, m1, hE.ext x1 M M1, M1, o1.bind.mono fun ws cm2 m2 H2 x2 M2 o2 vs rvs => ⟨cm2, m2, w, ws, M2, rv.ext x2 M1 M2, rvs, o2⟩⟩
theorem op_catN : OpR X (binaryOp .Add) (fun x y H Q => ∃ l b xs zs, x = .ref l ∧ y = .ref b ∧ H l = some (.lst xs) ∧ H b = some (.lst zs) ∧ xs.length + zs.length ≤ sizeLine ∧ ∀ p, H p = none → X.K.lookup p = none → Q (.ref p) (upd H p (.lst (xs ++ zs)))) := by
  intro pins s σ H x y v u Q I rx ry h
  obtain ⟨l, b, xs, zs, rfl, rfl, hH, hB, hz, q⟩ := h
  cases rx
  cases ry
  obtain ⟨z, its, n, r, hl, e⟩ := I.lstM hH
  obtain ⟨z2, its2, n2, r2, hl2, e2⟩ := I.lstM hB
  refine PySem.P.add_list e e2 ?_ (by rw [List.size_toArray, List.size_toArray]; omega)
  have ea : its.toArray ++ its2.toArray = (its ++ its2).toArray := by simp
  rw [ea]
  exact ⟨.ref _, _, I.lnew (t' := s.toks) (r.append r2) (by rw [List.length_append]; omega), rfl, q _ I.fresh (Mi.Inv.notK I)⟩
theorem op_addC : OpR X (binaryOp .Add) (r2 X.K xr addC) := by
  rintro pins s σ H x y v u Q I rx ry ⟨cm, m, a, b, M, ra, rb, ho⟩
  unfold addC at ho
  split at ho
  · rename_i ts e
    obtain ⟨ta, tb, ea, eb, e⟩ := bind2 e
    unfold addT at e
    have hz := line_lim
    split at e
    · cases e
    · split at e <;> cases e
    · split at e <;> cases e
    · split at e <;> cases e
      obtain ⟨p, vs, rfl, h1, r1⟩ := view_lst M ra ea
      obtain ⟨q, us, rfl, h2, r2⟩ := view_lst M rb eb
      have l1 := r1.length
      have l2 := r2.length
      refine op_catN pins s σ H _ _ v u Q I rx ry ⟨p, q, vs, us, rfl, rfl, h1, h2, by omega, fun l hl hk => ?_⟩
      obtain ⟨x3, M3, r3⟩ := cell_new M (paired_append r1 r2) hl hk
      exact OkR.to ho x3 M3 _ r3
    · cases e
  · exact ho.elim
theorem pe_celAW (ha : PE X a (tE X.K call gv xr ea)) (hb : PE X b (tE X.K call gv xr eb)) : PE X (.BinOp a .Add b pos) (tE X.K call gv xr (.celA ea eb)) :=
  PE.mono (pe_op op_addC ha hb) (t2_of fun env m => by rw [ev])
end
end Mi
end
section
set_option linter.all false
set_option maxRecDepth 100000
namespace Mi
open PySem PySem.Spec PyProof.Rows L2
theorem nlt_irr (a : List Nat) : nlt a a = false := by rw [nlt_lt]; simp
theorem nlt_tr {a b c : List Nat} (h1 : nlt a b = true) (h2 : nlt b c = true) : nlt a c = true := by
  rw [nlt_lt] at *
  have h1 : a < b := of_decide_eq_true h1
  have h2 : b < c := of_decide_eq_true h2
  exact decide_eq_true (List.lt_trans h1 h2)
theorem insT_mem (x y : List Nat) : ∀ l, y ∈ insT x l ↔ y = x ∨ y ∈ l
  | [] => by simp [insT]
  | z :: l => by
    unfold insT
    split
    · simp
    · split
      · rw [List.mem_cons, insT_mem x y l, List.mem_cons]
        constructor
        · rintro (h | h | h)
          · exact .inr (.inl h)
          · exact .inl h
          · exact .inr (.inr h)
        · rintro (h | h | h)
          · exact .inr (.inl h)
          · exact .inl h
          · exact .inr (.inr h)
      · rename_i h1 h2
        have e : x = z := nlt_anti (by simpa using h1) (by simpa using h2)
        subst e
        simp
theorem insT_pw (x : List Nat) : ∀ l, l.Pairwise (fun a b => nlt a b = true) → (insT x l).Pairwise (fun a b => nlt a b = true)
  | [], _ => List.pairwise_singleton _ _
  | z :: l, h => by
    unfold insT
    obtain ⟨h1, h2⟩ := List.pairwise_cons.mp h
    split
    · rename_i hx
      refine List.pairwise_cons.mpr ⟨fun y hy => ?_, h⟩
      rcases List.mem_cons.mp hy with rfl | hy
      · exact hx
      · exact nlt_tr hx (h1 y hy)
    · split
      · rename_i hz
        refine List.pairwise_cons.mpr ⟨fun y hy => ?_, insT_pw x l h2⟩
        rcases (insT_mem x y l).mp hy with rfl | hy
        · exact hz
        · exact h1 y hy
      · exact h
theorem sortSet_mem (y : List Nat) : ∀ xs, y ∈ sortSet xs ↔ y ∈ xs
  | [] => by simp [sortSet]
  | x :: xs => by
    show y ∈ insT x (sortSet xs) ↔ _
    rw [insT_mem, sortSet_mem y xs, List.mem_cons]
theorem sortSet_pw : ∀ xs, (sortSet xs).Pairwise (fun a b => nlt a b = true)
  | [] => .nil
  | x :: xs => insT_pw x _ (sortSet_pw xs)
theorem sortSet_nd (xs : List (List Nat)) : (sortSet xs).Nodup := (sortSet_pw xs).imp fun {a b} h e => by
  subst e
  rw [nlt_irr] at h
  cases h
theorem dd_mem (val : Nat → Str) (x : Str) : ∀ n, x ∈ dd val n ↔ ∃ i, i < n ∧ val i = x
  | 0 => by simp [dd]
  | n + 1 => by
    have ih := dd_mem val x n
    unfold dd
    split
    · rename_i h
      rw [ih]
      constructor
      · rintro ⟨i, hi, e⟩
        exact ⟨i, by omega, e⟩
      · rintro ⟨i, hi, e⟩
        by_cases hn : i = n
        · subst hn
          rw [e] at h
          exact ih.mp h
        · exact ⟨i, by omega, e⟩
    · rw [List.mem_append, ih, List.mem_singleton]
      constructor
      · rintro (⟨i, hi, e⟩ | e)
        · exact ⟨i, by omega, e⟩
        · exact ⟨n, by omega, e.symm⟩
      · rintro ⟨i, hi, e⟩
        by_cases hn : i = n
        · subst hn; exact .inr e.symm
        · exact .inl ⟨i, by omega, e⟩
theorem mkS_inj {a b : List Nat} (h : (⟨a.toArray⟩ : Str) = ⟨b.toArray⟩) : a = b := by
  injection h with h
  simpa using h
section
variable {K : PySem.W.Frag} {cm : List Addr} {m : Mem} {H : Hp} {xr : XR} {X : Cx} {call : Nat → List W → Mem → Res W} {gv : List T}
variable {a b c e : Expr} {es : List Expr} {ea eb ec : E} {eas : Es} {pos p p2 pos2 : Pos} {rest : List Stmt} {k : S} {n : Nat}
theorem str_at {its : List Value} {xs : List (List Nat)} (h : StrsAre its (xs.map fun c => (⟨c.toArray⟩ : Str))) : ∀ (i : Nat) v, its[i]? = some v → ∃ t, v = .str ((xs.map fun c => (⟨c.toArray⟩ : Str)).getD i ⟨#[]⟩) t := by
  generalize xs.map (fun c => (⟨c.toArray⟩ : Str)) = ss at h
  induction h with
  | nil => intro i v e; simp at e
  | cons y t _ ih =>
    intro i v e
    cases i with
    | zero => simp at e; exact ⟨t, by rw [← e]; rfl⟩
    | succ i =>
      obtain ⟨t', h'⟩ := ih i v (by simpa using e)
      exact ⟨t', by rw [h']; rfl⟩
end
end Mi
end
section
set_option linter.all false
set_option maxRecDepth 100000
namespace Mi
open PySem PySem.Spec PyProof.Rows L2
section
variable {prog : Program} {w : World} {A : Around} {E : Value → Shared → Prop} {s : Shared} {led : Bool}
set_option maxHeartbeats 3200000 in
theorem call_set_strsT {l : Addr} {items : Array Value} {val : Nat → Str} {Q : Value → Shared → Prop} (hh : A.handled = none) (hl : s.heap.IsTuple l items) (hv : ∀ (i : Nat) v, items[i]? = some v → ∃ t, v = .str (val i) t) (hb : items.size + 1 < scanBound)
    (h : ∀ (h' : Heap) (tk : Nat), SetS prog w (ledOf w) h' s.heap.objs.size (dd val items.size) → (∀ b o, s.heap.get? b = some o → h'.get? b = some o) → Q (.ref s.heap.objs.size) { s with heap := h', toks := tk }) :
    wpAny (model prog w) A (PySem.call (.type "set") [.ref l]) Q E s := by
  obtain ⟨c, tl, hmro⟩ := PySem.F.called_set.mro
  have hmade := PySem.F.called_set.made
  have hsub := PySem.F.called_set.sub
  refine wpAny_call (codeAny_of_tree ?_)
  show wpAny _ _ (callAny (.type "set") _) _ _ _
  refine wpAny_pure ⟨Code.quiet_builtin _ (by decide +kernel), codeAny_builtin PySem.F.entry_type_call ?_⟩
  rw [Around.under_plain (weight_type_call_type "set" [.ref l] []) rfl]
  have h1 := PySem.F.called_set.notType
  have h2 := PySem.F.called_set.canCreate
  have hct := PySem.F.typeCall_set_1 (.ref l)
  repeat (any_goals (first | assumption | wp_step))
  refine codeAny_mono (set_made (.ref l) (E := E) (Q₁ := fun obj s₁ => obj = .ref s.heap.objs.size ∧ s₁ = { s with heap := s.heap.push { cls := .type "set", dict := none, data := .set #[] 0 (.fresh 0 0 (ledOf w)) } }) ⟨rfl, rfl⟩) fun r s₁ hr => ?_
  cases r with
  | error e => exact hr
  | ok fl =>
    cases fl with
    | ret obj =>
      obtain ⟨rfl, rfl⟩ := hr
      have hS : (s.heap.push { cls := .type "set", dict := none, data := .set #[] 0 (.fresh 0 0 (ledOf w)) }).get? s.heap.objs.size = some { cls := .type "set", dict := none, data := .set #[] 0 (.fresh 0 0 (ledOf w)) } := Heap.get?_push_size _ rfl
      have hT : Shared.TypeIs { s with heap := s.heap.push { cls := .type "set", dict := none, data := .set #[] 0 (.fresh 0 0 (ledOf w)) } } (.ref s.heap.objs.size) "set" := ⟨_, hS, rfl⟩
      have hli := PySem.F.called_set.init.lookup
      have hbi := PySem.F.called_set.init.bind (.ref s.heap.objs.size)
      repeat (any_goals (first | assumption | wp_step))
      refine codeAny_mono (codeAny_call_builtin (R := wants (fun r s₂ => r = .none ∧ ∃ h' tk, s₂ = { s with heap := h', toks := tk } ∧ SetS prog w (ledOf w) h' s.heap.objs.size (dd val items.size) ∧ (∀ b o, s.heap.get? b = some o → h'.get? b = some o)) E) PySem.F.called_set.init.plain PySem.F.entry_set_init (check_set_init_1 hT ?_)) fun r₂ s₂ hr₂ => ?_
      · obtain ⟨ol, hol, hcl, nl, hdl⟩ := hl
        obtain ⟨ocls, odict, odata, oslots⟩ := ol
        simp only at hcl hdl
        subst hcl; subst hdl
        have hol' : (s.heap.push { cls := .type "set", dict := none, data := .set #[] 0 (.fresh 0 0 (ledOf w)) }).get? l = some { cls := .type "tuple", dict := odict, data := .seq items nl, slots := oslots } := Heap.get?_push_of_some _ hol
        have hsls := PySem.F.sub_tuple_set
        have hslf := PySem.F.sub_tuple_frozenset
        have hne : (Value.type "tuple" == Value.type "dict") = false := by decide
        have hl1 : (s.heap.push { cls := .type "set", dict := none, data := .set #[] 0 (.fresh 0 0 (ledOf w)) }).IsTuple l items := ⟨_, hol', rfl, nl, rfl⟩
        unfold Builtin.«set.__init__» noKeywords Builtin.Frozenset.updateFrom
        generalize hPI : pyIter = PI
        wp_walk
        subst hPI
        refine wpAny_pyIter_tuple hl1 ?_
        refine wpAny_bind (wpAny_runValue ?_)
        have hlS : l < s.heap.objs.size := Heap.lt_size hol
        have hh3 : A.in1.in1.in1.handled = none := by simp [hh]
        have hneI : l ≠ (s.heap.push { cls := .type "set", dict := none, data := .set #[] 0 (.fresh 0 0 (ledOf w)) }).objs.size := by
          rw [Heap.size_push]; exact Nat.ne_of_lt (Nat.lt_succ_of_lt hlS)
        have hSf : s.heap.objs.size ∉ [(s.heap.push { cls := .type "set", dict := none, data := .set #[] 0 (.fresh 0 0 (ledOf w)) }).objs.size, l] := by
          rw [Heap.size_push]; simp only [List.mem_cons, List.mem_singleton, List.not_mem_nil, or_false, not_or]
          exact ⟨Nat.ne_of_lt (Nat.lt_succ_self _), Nat.ne_of_gt hlS⟩
        refine set_loop (led := ledOf w) ((Walks.tuple hh3 _ l hneI items).toS) s.heap.objs.size hSf val hv hb (items.size - 0) 0 _ (by omega) (Nat.zero_le _)
          ⟨⟨_, Heap.get?_push_size _ rfl, rfl, rfl⟩, (hl1.push _)⟩ ?hS0 ?hR
        case hS0 =>
          exact fresh_set (led := ledOf w) (Heap.get?_push_of_some _ hS)
        case hR =>
          intro s' hm hS'
          obtain ⟨h', g', d', tk', os'⟩ := s'
          have eg : g' = s.gens := hm.gens
          have ed : d' = s.drawn := hm.drawn
          have eo : os' = s.os := hm.os
          subst eg; subst ed; subst eo
          show wpAny _ _ _ _ _ _
          refine wpAny_pure ?_
          show wpAny _ _ (ret Value.none) _ _ _
          refine wpAny_pure ⟨rfl, h', tk', rfl, hS', fun b o e => ?_⟩
          have hb := Heap.lt_size e
          have hb1 : b ≠ s.heap.objs.size := Nat.ne_of_lt hb
          have hb2 : b ≠ (s.heap.push { cls := .type "set", dict := none, data := .set #[] 0 (.fresh 0 0 (ledOf w)) }).objs.size := by
            rw [Heap.size_push]; exact Nat.ne_of_lt (Nat.lt_succ_of_lt hb)
          exact hm.heap b o (by simp only [List.mem_cons, List.mem_singleton, List.not_mem_nil, or_false, not_or]; exact ⟨hb1, hb2⟩) (Heap.get?_push_of_some _ (Heap.get?_push_of_some _ e))
      · cases r₂ with
        | error e => exact hr₂
        | ok fl₂ =>
          cases fl₂ with
          | ret r =>
            obtain ⟨rfl, h', tk, rfl, hS', hk'⟩ := hr₂
            repeat (any_goals (first | assumption | wp_step))
            exact h _ _ hS' hk'
          | _ => exact hr₂.elim
    | _ => exact hr.elim
end
section
variable {K : PySem.W.Frag} {cm : List Addr} {m : Mem} {H : Hp} {xr : XR} {X : Cx} {call : Nat → List W → Mem → Res W} {gv : List T}
variable {a b c e : Expr} {es : List Expr} {ea eb ec : E} {eas : Es} {pos p p2 pos2 : Pos}
theorem mkS_nd {xs : List (List Nat)} (h : xs.Nodup) : (xs.map fun c => (⟨c.toArray⟩ : Str)).Nodup := by
  refine List.pairwise_map.mpr (h.imp fun {a b} q e => q (mkS_inj e))
theorem mkS_mem {xs ys : List (List Nat)} (h : ∀ c, c ∈ xs ↔ c ∈ ys) (x : Str) : (x ∈ xs.map fun c => (⟨c.toArray⟩ : Str)) ↔ x ∈ ys.map fun c => (⟨c.toArray⟩ : Str) := by
  constructor
  · intro q
    obtain ⟨c, hc, rfl⟩ := List.mem_map.mp q
    exact List.mem_map.mpr ⟨c, (h c).mp hc, rfl⟩
  · intro q
    obtain ⟨c, hc, rfl⟩ := List.mem_map.mp q
    exact List.mem_map.mpr ⟨c, (h c).mpr hc, rfl⟩
theorem nd_len {D : List Str} {bs : List (List Nat)} (hd : D.Nodup) (hm : ∀ x, x ∈ D ↔ x ∈ bs.map fun c => (⟨c.toArray⟩ : Str)) : D.length = (sortSet bs).length := by
  have hp : D.Perm ((sortSet bs).map fun c => (⟨c.toArray⟩ : Str)) := (List.perm_ext_iff_of_nodup hd (mkS_nd (sortSet_nd bs))).mpr fun x => by
    rw [hm]
    exact mkS_mem (fun c => (sortSet_mem c bs).symm) x
  have := hp.length_eq
  rw [List.length_map] at this
  exact this
theorem fit_of {n : Nat} (h : n < 64) : (n : Int) < 2 ^ 63 := Int.lt_of_lt_of_le (b := 64) (by omega) (by decide)
theorem pe_lensetW (hc : X.calm = true) (hg1 : Gl X "len") (hm1 : X.mg "len" = none) (hg2 : Gl X "set") (hm2 : X.mg "set" = none) (ha : PA X [e] (tA X.K call gv xr (.cons ea .nil))) (he : notStar e = true := by rfl) :
    PE X (.Call (.Name "len" p) [.Call (.Name "set" p2) [e] [] pos2] [] pos) (tE X.K call gv xr (.blt .lenset (.cons ea .nil))) := by
  rintro pins s σ H Q I ⟨env, cm, m, hE, M, ho⟩
  rw [ev] at ho
  refine wpAny_Call_Name_kw (ld_blt I hg1 hm1 (show bootBuiltins "len" = some (.builtin "len") from by decide +kernel) ?_ (by decide) (by decide))
  refine PyProof.Rows.callWith_builtin1 ?_ rfl rfl
  show wpAny _ _ (spliced ((false, eval (.Call (.Name "set" p2) [e] [] pos2) X.env) :: backTo pos [])) _ _ s
  refine Calls.spliced_cons ?_
  refine wpAny_Call_Name_kw (ld_blt I hg2 hm2 (show bootBuiltins "set" = some (.type "set") from by decide +kernel) ?_ (by decide) (by decide))
  refine PyProof.Rows.callWith_type1 (thn (ha pos2 pins s σ H (fun vs H1 => ∃ cm1 m1 ws, MemR X.K cm1 m1 H1 ∧ RWs X.K cm1 m1 H1 ws vs ∧ OkR X.K (fBlt .lenset ws m1) xr cm1 m1 H1 fun w cm' m' H' => ∀ v, RW X.K cm' m' H' w v → Q v H') I ⟨env, cm, m, hE, M, ho.bind.mono fun ws cm1 m1 H1 x1 M1 o1 vs rvs => ⟨cm1, m1, ws, M1, rvs, o1⟩⟩) fun us s1 ⟨vs, H1, I1, r1, cm1, m1, ws, M1, rws, o1⟩ => ?_) (star_c he) rfl
  obtain ⟨w, v, t, rr, rfl, rfl, rv, eq, eb, ho⟩ := blt1 rws (blt_one (by decide)) o1
  have hA : X.A.handled = none := I1.ok.hd hc
  cases t with
  | lst ts =>
    have eb : lensT ts = some rr := eb
    unfold lensT at eb
    cases q : strs? ts with
    | none => rw [q] at eb; cases eb
    | some bs =>
      rw [q] at eb
      have eb : (if bs.length < 64 then some (T.int ((sortSet bs).length : Int)) else none) = some rr := eb
      split at eb <;> cases eb
      rename_i h64
      obtain ⟨a, vs, rfl, h1, rr1⟩ := view_lst M1 rv eq
      obtain ⟨u, rfl, ru⟩ := vals1 r1
      cases ru
      obtain ⟨its, rv', pl, hz⟩ := I1.list (.of h1)
      cases RTs.strs rr1 q
      have hsa := vals_strs rv'
      have hl := rv'.length
      rw [List.length_map] at hl
      refine call_set_strs hA pl.isList (fun i v hv => str_at hsa i v (by simpa using hv)) (by unfold scanBound; simp; omega) fun h' tk hS kp => ?_
      have I2 : Inv X pins σ H1 { s1 with heap := h', toks := tk } := I1.kept kp
      refine wpAny_pure ?_
      rw [show its.toArray.size = bs.length by simp; omega] at hS
      obtain ⟨o, es, ep, t, eo, hE⟩ := hS
      have hsz : es.size = (sortSet bs).length := by
        have h1 := hE.txs.length_eq
        rw [List.length_map, Array.length_toList] at h1
        rw [h1]
        refine nd_len hE.nd fun x => ?_
        rw [dd_mem]
        constructor
        · rintro ⟨i, hi, e⟩
          rw [← e]
          simp [List.getD, hi]
        · intro h
          obtain ⟨c, hc, rfl⟩ := List.mem_map.mp h
          obtain ⟨i, hi, rfl⟩ := List.getElem_of_mem hc
          exact ⟨i, hi, by simp [List.getD, hi]⟩
      have hlt : es.size < 64 := by
        have h1 := hE.txs.length_eq
        rw [List.length_map, Array.length_toList] at h1
        have := dd_len (fun i => (bs.map fun c => (⟨c.toArray⟩ : Str)).getD i ⟨#[]⟩) bs.length
        omega
      refine call_len_set eo hE.ex hE.data hE.fits (fit_of hlt) ?_
      rw [hsz]
      exact ⟨.int _, H1, I2.kept (t' := tk + 1 + 1) fun b o e => e, ⟨_, rfl⟩, ans ho M1 (.int _)⟩
  | tup ts =>
    have eb : lensT ts = some rr := eb
    unfold lensT at eb
    cases q : strs? ts with
    | none => rw [q] at eb; cases eb
    | some bs =>
      rw [q] at eb
      have eb : (if bs.length < 64 then some (T.int ((sortSet bs).length : Int)) else none) = some rr := eb
      split at eb <;> cases eb
      rename_i h64
      obtain ⟨a, vs, rfl, h1, rr1⟩ := RT.itup (view_t rv eq fun _ z => by cases z)
      obtain ⟨u, rfl, ru⟩ := vals1 r1
      cases ru
      obtain ⟨its, rv', pl, hz⟩ := I1.tuple h1
      cases RTs.strs rr1 q
      have hsa := vals_strs rv'
      have hl := rv'.length
      rw [List.length_map] at hl
      refine call_set_strsT hA (show s1.heap.IsTuple a its.toArray from pl) (fun i v hv => str_at hsa i v (by simpa using hv)) (by unfold scanBound; simp; omega) fun h' tk hS kp => ?_
      have I2 : Inv X pins σ H1 { s1 with heap := h', toks := tk } := I1.kept kp
      refine wpAny_pure ?_
      rw [show its.toArray.size = bs.length by simp; omega] at hS
      obtain ⟨o, es, ep, t, eo, hE⟩ := hS
      have hsz : es.size = (sortSet bs).length := by
        have h1 := hE.txs.length_eq
        rw [List.length_map, Array.length_toList] at h1
        rw [h1]
        refine nd_len hE.nd fun x => ?_
        rw [dd_mem]
        constructor
        · rintro ⟨i, hi, e⟩
          rw [← e]
          simp [List.getD, hi]
        · intro h
          obtain ⟨c, hc, rfl⟩ := List.mem_map.mp h
          obtain ⟨i, hi, rfl⟩ := List.getElem_of_mem hc
          exact ⟨i, hi, by simp [List.getD, hi]⟩
      have hlt : es.size < 64 := by
        have h1 := hE.txs.length_eq
        rw [List.length_map, Array.length_toList] at h1
        have := dd_len (fun i => (bs.map fun c => (⟨c.toArray⟩ : Str)).getD i ⟨#[]⟩) bs.length
        omega
      refine call_len_set eo hE.ex hE.data hE.fits (fit_of hlt) ?_
      rw [hsz]
      exact ⟨.int _, H1, I2.kept (t' := tk + 1 + 1) fun b o e => e, ⟨_, rfl⟩, ans ho M1 (.int _)⟩
  | _ => cases eb
end
end Mi
end
section
set_option linter.all false
set_option maxRecDepth 100000
namespace Mi
open PySem PySem.Spec PyProof.Rows L2
section
variable {K : PySem.W.Frag} {X : Cx} {fns : List Fn} {gv : List T} {xr : XR} {call : Nat → List W → Mem → Res W}
variable {e : Expr} {es : List Expr} {eas : Es} {pos p : Pos} {k : Nat}
theorem pe_fnvW {x : Str} {j a : Nat} (hm : X.mg x = some (.ref a)) (hj : gv[j]? = some (.int (a : Int))) (hg : Gl X x) (hd : (x == ("__debug__" : Str)) = false := by decide) : PE X (.Name x pos) (tE X.K call gv xr (.fnv j)) := by
  refine PE.mono (pe_glob (v := .ref a) hg hm rfl hd) ?_
  rintro σ H Q ⟨env, cm, m, hE, M, ho⟩
  rw [ev, hj] at ho
  have ho : OkR X.K (.ok (W.f (a : Int).toNat) m) xr cm m H _ := ho
  rw [Int.toNat_natCast] at ho
  exact OkR.now ho M (.ref a) rfl
inductive TabOk (P : Program) (w : World) (K : PySem.W.Frag) (mg : Str → Option Value) (base : Heap) (fns : List Fn) (gv : List T) (k : Nat) : List (Nat × Nat) → Prop where
  | nil : TabOk P w K mg base fns gv k []
  | cons {j fi a : Nat} {x : Str} {r : List (Nat × Nat)} : FOk P w K mg base fns gv k x fi → mg x = some (.ref a) → gv[j]? = some (.int (a : Int)) → TabOk P w K mg base fns gv k r → TabOk P w K mg base fns gv k ((j, fi) :: r)
theorem TabOk.get {P : Program} {w : World} {mg : Str → Option Value} {base : Heap} {tab : List (Nat × Nat)} (h : TabOk P w K mg base fns gv k tab) {a fi : Nat} (e : lookF gv a tab = some fi) : ∃ fd ps, PySem.W.keepIn K (.ref a) = true ∧ Binds K fd ps [] ∧ FnOk P w K mg base CX0 k a fd ps (spF K fns gv k fi) := by
  induction h with
  | nil => cases e
  | @cons j fj b x r F hm hj _ ih =>
    unfold lookF at e
    rw [hj] at e
    dsimp only at e
    split at e
    · rename_i hb
      cases e
      have hb : b = a := by omega
      subst hb
      obtain ⟨f, fd, ps, h1, h2, h3, h4⟩ := F
      rw [hm] at h1
      cases h1
      exact ⟨fd, ps, h2, h3, h4⟩
    · exact ih e
theorem pe_callVW {i : Nat} {x : Str} {tab : List (Nat × Nat)} (T : TabOk X.prog X.w X.K X.mg X.base fns gv k tab) (hr : Room k X.A) (ha : PA X (e :: es) (tA X.K (callF fns gv k) gv xr0 eas)) (hN : X.N[i]? = some x := by rfl) (hv : Vis X.env.scope x := by first | exact Or.inl rfl | exact Or.inr (Or.inl rfl) | exact Or.inr (Or.inr rfl)) (hdb : (x == ("__debug__" : Str)) = false := by decide) (hcd : (x == ("__classdict__" : Str)) = false := by decide)
    (he : notStar e = true := by rfl) (hpl : es.all notStar = true := by rfl) :
    PE X (.Call (.Name x p) (e :: es) [] pos) (tE X.K (callF fns gv k) gv xr0 (.callV i tab eas)) := by
  rintro pins s σ H Q I ⟨env, cm, m, hE, M, ho⟩
  rw [ev] at ho
  split at ho
  · rename_i a ea
    split at ho
    · rename_i fi ef
      obtain ⟨v, e1, e2⟩ := hE i (.f a) ea
      have e2 : v = .ref a := e2
      subst e2
      obtain ⟨fd, ps, hk, hb, F⟩ := T.get ef
      refine wpAny_Call_Name_kw (thn (pe_var hN hv hdb hcd pins s σ H (fun v H' => v = .ref a ∧ H' = H) I ⟨_, e1, rfl, rfl⟩) fun u s1 ⟨v, H1, I1, ru, q1, q2⟩ => ?_)
      subst q1
      subst q2
      cases ru
      refine PySem.W.callWith_K (h₀ := X.base) I1.ok.mod.kin hk (thn (ha pos pins s1 σ H1 (fun vs H2 => spF X.K fns gv k fi (vs ++ []) H2 Q E0) I1 ⟨env, cm, m, hE, M, ho.bind.mono fun ws cm1 m1 H1 x1 M1 o1 vs rvs => ?_⟩) fun us s2 ⟨vs, H2, I2, r, q⟩ => ⟨I2.kIn, ?_⟩) (star_c he) (star_a hpl)
      · show spF X.K fns gv k fi (vs ++ []) H1 Q E0
        rw [List.append_nil]
        exact ⟨cm1, m1, ws, M1, rvs, o1⟩
      · exact run_fn F hr hb (dvs := []) .nil (E := E0) pass0 I2 r q
    · exact ho.elim
  · exact ho.elim
end
end Mi
end
section
namespace My
open Mi
noncomputable def i_is_long_word_0 : E := (.emit (.cmp .In (.var 0) (.gl 0)))
noncomputable def c_is_long_word_0 : E := (.comp 1 [] (.var 0) (.nm 0) .nil i_is_long_word_0)
noncomputable def b_is_long_word : S := (.ret (.and (.cmp .Gt (.blt .len (.cons (.var 0) .nil)) (.con (.int 0))) (.and (.cmp .NotIn (.var 0) (.gl 2)) (.blt .all (.cons c_is_long_word_0 .nil)))) .done)
noncomputable def b_is_word : S := (.ret (.and (.isi (.var 0) .str) (.and (.cmp .LtE (.blt .len (.cons (.var 0) .nil)) (.gl 1)) (.call 0 (.cons (.var 0) .nil)))) .done)
noncomputable def b_is_one_of : S := (.ret (.and (.isi (.var 0) .str) (.cmp .In (.var 0) (.var 1))) .done)
noncomputable def b_are_unlike : S := (.ret (.cmp .Eq (.blt .lenset (.cons (.var 0) .nil)) (.blt .len (.cons (.var 0) .nil))) .done)
noncomputable def i_is_rule_0 : E := (.emit (.call 2 (.cons (.var 0) (.cons (.gl 3) .nil))))
noncomputable def c_is_rule_0 : E := (.comp 1 [] (.var 0) (.nm 0) .nil i_is_rule_0)
noncomputable def b_is_rule : S := (.ife (.or (.not (.isi (.var 0) .tuple)) (.cmp .Gt (.blt .len (.cons (.var 0) .nil)) (.gl 4))) (.ret (.con (.bl false)) .done) .done (.ret (.and (.blt .all (.cons c_is_rule_0 .nil)) (.call 3 (.cons (.var 0) .nil))) .done))
noncomputable def i_are_borne_0 : E := (.emit (.call 1 (.cons (.var 0) .nil)))
noncomputable def c_are_borne_0 : E := (.comp 1 [] (.var 0) (.nm 0) .nil i_are_borne_0)
noncomputable def b_are_borne : S := (.ife (.or (.not (.isi (.var 0) .tuple)) (.cmp .Gt (.blt .len (.cons (.var 0) .nil)) (.gl 5))) (.ret (.con (.bl false)) .done) .done (.ret (.and (.blt .all (.cons c_are_borne_0 .nil)) (.call 3 (.cons (.var 0) .nil))) .done))
noncomputable def b__law_cell_at : S := (.ife (.cmp .Lt (.var 1) (.blt .len (.cons (.var 0) .nil))) (.ret (.ix (.var 0) (.var 1)) .done) .done (.ret (.con (.int 0)) .done))
noncomputable def b__law_tape : S := (.ret (.cel (.cons (.bin .Mult (.var 0) (.blt .int (.cons (.cmp .GtE (.var 0) (.bin .Pow (.con (.int 10)) (.con (.int 18)))) .nil))) (.cons (.bin .Mod (.var 0) (.con (.int 2147483647))) (.cons (.con (.int 0)) .nil)))) .done)
noncomputable def b__law_draw : S := (.ife (.cmp .Gt (.ix (.var 0) (.con (.int 0))) (.con (.int 0))) (.asg 2 (.bin .Mod (.ix (.var 0) (.con (.int 0))) (.var 1)) (.set (.var 0) (.con (.int 0)) (.bin .FloorDiv (.ix (.var 0) (.con (.int 0))) (.var 1)) (.ret (.var 2) .done))) .done (.set (.var 0) (.con (.int 2)) (.bin .Add (.ix (.var 0) (.con (.int 2))) (.con (.int 1))) (.asg 3 (.bin .Mod (.bin .Mult (.bin .Add (.bin .Add (.ix (.var 0) (.con (.int 1))) (.bin .Mult (.con (.int 7919)) (.ix (.var 0) (.con (.int 2))))) (.con (.int 1))) (.con (.int 48271))) (.con (.int 2147483647))) (.asg 3 (.bin .Mod (.bin .Mult (.var 3) (.bin .Add (.bin .FloorDiv (.var 3) (.con (.int 1009))) (.con (.int 69621)))) (.con (.int 2147483647))) (.ret (.bin .Mod (.bin .Mod (.bin .Mult (.var 3) (.bin .Add (.bin .FloorDiv (.var 3) (.con (.int 2003))) (.con (.int 40692)))) (.con (.int 2147483399))) (.var 1)) .done)))))
noncomputable def b__law_pick : S := (.ret (.ix (.var 1) (.call 8 (.cons (.var 0) (.cons (.blt .len (.cons (.var 1) .nil)) .nil)))) .done)
noncomputable def l__law_rule_0 : S := (.expr (.mth .append (.var 2) (.cons (.mth .popat (.var 1) (.cons (.call 8 (.cons (.var 0) (.cons (.blt .len (.cons (.var 1) .nil)) .nil))) .nil)) .nil)) .done)
noncomputable def b__law_rule : S := (.asg 1 (.cel (.cons (.con (.str [104, 101, 97, 118, 121])) (.cons (.con (.str [103, 114, 101, 97, 116])) (.cons (.con (.str [115, 109, 97, 108, 108])) (.cons (.con (.str [115, 111, 111, 110])) .nil))))) (.asg 2 (.cel .nil) (.forr (.nm 3) (.blt .range1 (.cons (.ix (.lst (.cons (.con (.int 0)) (.cons (.con (.int 1)) (.cons (.con (.int 1)) (.cons (.con (.int 2)) (.cons (.con (.int 3)) .nil)))))) (.call 8 (.cons (.var 0) (.cons (.con (.int 5)) .nil)))) .nil)) l__law_rule_0 (.ret (.blt .tuple (.cons (.var 2) .nil)) .done))))
noncomputable def i__law_any_word_0 : E := (.emit (.ix (.con (.str [97, 98, 99, 100, 101, 102, 103, 104, 105, 106, 107, 108, 109, 110, 111, 112, 113, 114, 115, 116, 117, 118, 119, 120, 121, 122])) (.call 8 (.cons (.var 1) (.cons (.con (.int 26)) .nil)))))
noncomputable def c__law_any_word_0 : E := (.comp 1 [0] (.blt .range1 (.cons (.bin .Add (.con (.int 1)) (.call 8 (.cons (.var 0) (.cons (.con (.int 8)) .nil)))) .nil)) (.nm 0) .nil i__law_any_word_0)
noncomputable def b__law_any_word : S := (.asg 1 (.mth .join (.con (.str [])) (.cons c__law_any_word_0 .nil)) (.ret (.bin .Add (.var 1) (.bin .Mult (.con (.str [115])) (.blt .int (.cons (.cmp .In (.var 1) (.tup (.cons (.con (.str [97, 110, 121])) (.cons (.con (.str [105, 115])) (.cons (.con (.str [98, 121])) (.cons (.con (.str [110, 111, 116])) (.cons (.con (.str [97, 110, 100])) (.cons (.con (.str [111, 114])) .nil)))))))) .nil)))) .done))
noncomputable def l__law_kinds_0 : S := (.expr (.mth .append (.var 3) (.cons (.mth .popat (.var 1) (.cons (.call 8 (.cons (.var 0) (.cons (.blt .len (.cons (.var 1) .nil)) .nil))) .nil)) .nil)) .done)
noncomputable def b__law_kinds : S := (.asg 1 (.cel (.cons (.con (.str [114, 121, 101])) (.cons (.con (.str [111, 97, 116])) (.cons (.con (.str [111])) (.cons (.con (.str [97, 110, 121, 97])) (.cons (.con (.str [122, 122, 122, 122, 122, 122, 122, 122])) (.cons (.con (.str [105, 115, 108, 97, 110, 100])) (.cons (.con (.str [104, 101, 97, 118, 121])) (.cons (.con (.str [115, 111, 111, 110])) (.cons (.con (.str [110, 111, 116, 101, 115])) (.cons (.con (.str [114, 121])) .nil))))))))))) (.asg 2 (.call 11 (.cons (.var 0) .nil)) (.asg 1 (.celA (.var 1) (.bin .Mult (.lst (.cons (.var 2) .nil)) (.blt .int (.cons (.cmp .NotIn (.var 2) (.var 1)) .nil)))) (.asg 3 (.cel .nil) (.forr (.nm 4) (.blt .range1 (.cons (.call 8 (.cons (.var 0) (.cons (.con (.int 5)) .nil))) .nil)) l__law_kinds_0 (.ret (.blt .tuple (.cons (.var 3) .nil)) .done))))))
noncomputable def b__law_others : S := (.asg 3 (.call 8 (.cons (.var 0) (.cons (.bin .Add (.blt .len (.cons (.var 1) .nil)) (.con (.int 1))) .nil))) (.asg 4 (.lst (.cons (.con (.str [])) (.cons (.con (.str [72, 101, 97, 118, 121])) (.cons (.con (.str [104, 101, 97, 118, 121, 32])) (.cons (.con .non) (.cons (.con (.int 1)) (.cons (.con (.bl true)) (.cons (.lst (.cons (.con (.str [103, 114, 101, 97, 116])) .nil)) (.cons (.tup (.cons (.con (.str [115, 111, 111, 110])) .nil)) (.cons (.con (.str [97, 110, 121])) (.cons (.con (.str [110, 111, 116])) (.cons (.con (.str [98, 121])) (.cons (.con (.str [111, 114])) (.cons (.con (.str [115, 111, 111, 110, 115, 111, 111, 110, 115])) .nil)))))))))))))) (.asg 4 (.call 9 (.cons (.var 0) (.cons (.var 4) .nil))) (.asg 5 (.lst (.cons (.blt .list (.cons (.var 1) .nil)) (.cons (.con .non) (.cons (.con (.str [104, 101, 97, 118, 121])) (.cons (.con (.str [])) (.cons (.con (.int 7)) (.cons (.con (.bl true)) (.cons (.dsp .nil .nil) (.cons (.bin .Add (.bin .Add (.slc (.var 1) .hole (.var 3)) (.tup (.cons (.var 4) .nil))) (.slc (.var 1) (.var 3) .hole)) (.cons (.tup (.cons (.var 1) .nil)) .nil)))))))))) (.ife (.cmp .NotEq (.var 1) (.tup .nil)) (.asg 5 (.bin .Add (.var 5) (.lst (.cons (.bin .Add (.var 1) (.slc (.var 1) .hole (.con (.int 1)))) (.cons (.bin .Add (.bin .Add (.slc (.var 1) .hole (.var 3)) (.tup (.cons (.var 4) .nil))) (.slc (.var 1) (.bin .Add (.var 3) (.con (.int 1))) .hole)) (.cons (.ix (.var 1) (.con (.int 0))) .nil))))) .done) .done (.ret (.call 9 (.cons (.var 0) (.cons (.bin .Add (.var 5) (.lst (.cons (.slc (.tup (.cons (.con (.str [104, 101, 97, 118, 121])) (.cons (.con (.str [103, 114, 101, 97, 116])) (.cons (.con (.str [115, 109, 97, 108, 108])) (.cons (.con (.str [115, 111, 111, 110])) (.cons (.con (.str [114, 121, 101])) .nil)))))) .hole (.bin .Add (.var 2) (.con (.int 1)))) .nil))) .nil))) .done))))))
noncomputable def l__law_is_0 : S := (.asg 4 (.callV 0 [(6, 4), (7, 5)] (.cons (.var 1) .nil)) (.ife (.or (.not (.isi (.var 4) .bool)) (.cmp .NotEq (.var 4) (.var 2))) (.ret (.con (.bl false)) .done) .done .done))
noncomputable def b__law_is : S := (.forr (.nm 3) (.blt .range1 (.cons (.con (.int 2)) .nil)) l__law_is_0 (.ret (.con (.bl true)) .done))
noncomputable def i_law_0 : E := (.emit (.var 0))
noncomputable def c_law_0 : E := (.comp 1 [] (.var 4) (.nm 0) (.cons (.cmp .NotIn (.var 0) (.tup (.cons (.con (.str [104, 101, 97, 118, 121])) (.cons (.con (.str [103, 114, 101, 97, 116])) (.cons (.con (.str [115, 109, 97, 108, 108])) (.cons (.con (.str [115, 111, 111, 110])) .nil)))))) .nil) i_law_0)
noncomputable def l_law_0 : S := (.asg 2 (.call 7 (.cons (.var 1) .nil)) (.asg 3 (.call 10 (.cons (.var 2) .nil)) (.asg 4 (.call 12 (.cons (.var 2) .nil)) (.ife (.or (.not (.call 14 (.cons (.fnv 6) (.cons (.var 3) (.cons (.con (.bl true)) .nil))))) (.not (.call 14 (.cons (.fnv 7) (.cons (.var 4) (.cons (.con (.bl true)) .nil)))))) (.ret (.con (.bl false)) .done) .done (.ife (.not (.call 14 (.cons (.fnv 7) (.cons (.var 3) (.cons (.con (.bl true)) .nil))))) (.ret (.con (.bl false)) .done) .done (.asg 5 c_law_0 (.ife (.not (.call 14 (.cons (.fnv 6) (.cons (.var 4) (.cons (.cmp .Eq (.var 5) (.lst .nil)) .nil))))) (.ret (.con (.bl false)) .done) .done (.ife (.not (.call 14 (.cons (.fnv 6) (.cons (.call 13 (.cons (.var 2) (.cons (.var 3) (.cons (.con (.int 3)) .nil)))) (.cons (.con (.bl false)) .nil))))) (.ret (.con (.bl false)) .done) .done (.ife (.not (.call 14 (.cons (.fnv 7) (.cons (.call 13 (.cons (.var 2) (.cons (.var 4) (.cons (.con (.int 4)) .nil)))) (.cons (.con (.bl false)) .nil))))) (.ret (.con (.bl false)) .done) .done .done)))))))))
noncomputable def b_law : S := (.forr (.nm 1) (.bin .Add (.lst (.cons (.call 6 (.cons (.var 0) (.cons (.con (.int 0)) .nil))) .nil)) (.slc (.var 0) (.con (.int 1)) (.con (.int 12)))) l_law_0 (.ret (.and (.call 14 (.cons (.fnv 6) (.cons (.tup .nil) (.cons (.con (.bl true)) .nil)))) (.call 14 (.cons (.fnv 7) (.cons (.tup .nil) (.cons (.con (.bl true)) .nil))))) .done))
noncomputable def fns : List Fn := [⟨1, 1, b_is_long_word, false⟩, ⟨1, 1, b_is_word, false⟩, ⟨2, 2, b_is_one_of, false⟩, ⟨1, 1, b_are_unlike, false⟩, ⟨1, 1, b_is_rule, false⟩, ⟨1, 1, b_are_borne, false⟩, ⟨2, 2, b__law_cell_at, false⟩, ⟨1, 1, b__law_tape, true⟩, ⟨2, 4, b__law_draw, false⟩, ⟨2, 2, b__law_pick, false⟩, ⟨1, 4, b__law_rule, false⟩, ⟨1, 2, b__law_any_word, false⟩, ⟨1, 5, b__law_kinds, false⟩, ⟨3, 6, b__law_others, false⟩, ⟨3, 5, b__law_is, false⟩, ⟨1, 6, b_law, false⟩]
noncomputable def gv : List T := [(.str [97, 98, 99, 100, 101, 102, 103, 104, 105, 106, 107, 108, 109, 110, 111, 112, 113, 114, 115, 116, 117, 118, 119, 120, 121, 122]), (.int 8), (.tup [(.str [97, 110, 121]), (.str [105, 115]), (.str [98, 121]), (.str [110, 111, 116]), (.str [97, 110, 100]), (.str [111, 114])]), (.tup [(.str [104, 101, 97, 118, 121]), (.str [103, 114, 101, 97, 116]), (.str [115, 109, 97, 108, 108]), (.str [115, 111, 111, 110])]), (.int 3), (.int 4), (.int ((47 : Nat) : Int)), (.int ((52 : Nat) : Int))]
noncomputable abbrev cf := callF fns gv
theorem cf_is_long_word (n : Nat) (ws : List W) (m : Mem) : cf (n + 1) 0 ws m = if ws.length = 1 then (ex (cf n) gv b_is_long_word (ws.map some ++ List.replicate (1 - 1) none) m).bind fun fl m' => fin m.length false fl m' else .stuck := rfl
theorem cf_is_word (n : Nat) (ws : List W) (m : Mem) : cf (n + 1) 1 ws m = if ws.length = 1 then (ex (cf n) gv b_is_word (ws.map some ++ List.replicate (1 - 1) none) m).bind fun fl m' => fin m.length false fl m' else .stuck := rfl
theorem cf_is_one_of (n : Nat) (ws : List W) (m : Mem) : cf (n + 1) 2 ws m = if ws.length = 2 then (ex (cf n) gv b_is_one_of (ws.map some ++ List.replicate (2 - 2) none) m).bind fun fl m' => fin m.length false fl m' else .stuck := rfl
theorem cf_are_unlike (n : Nat) (ws : List W) (m : Mem) : cf (n + 1) 3 ws m = if ws.length = 1 then (ex (cf n) gv b_are_unlike (ws.map some ++ List.replicate (1 - 1) none) m).bind fun fl m' => fin m.length false fl m' else .stuck := rfl
theorem cf_is_rule (n : Nat) (ws : List W) (m : Mem) : cf (n + 1) 4 ws m = if ws.length = 1 then (ex (cf n) gv b_is_rule (ws.map some ++ List.replicate (1 - 1) none) m).bind fun fl m' => fin m.length false fl m' else .stuck := rfl
theorem cf_are_borne (n : Nat) (ws : List W) (m : Mem) : cf (n + 1) 5 ws m = if ws.length = 1 then (ex (cf n) gv b_are_borne (ws.map some ++ List.replicate (1 - 1) none) m).bind fun fl m' => fin m.length false fl m' else .stuck := rfl
theorem cf__law_cell_at (n : Nat) (ws : List W) (m : Mem) : cf (n + 1) 6 ws m = if ws.length = 2 then (ex (cf n) gv b__law_cell_at (ws.map some ++ List.replicate (2 - 2) none) m).bind fun fl m' => fin m.length false fl m' else .stuck := rfl
theorem cf__law_tape (n : Nat) (ws : List W) (m : Mem) : cf (n + 1) 7 ws m = if ws.length = 1 then (ex (cf n) gv b__law_tape (ws.map some ++ List.replicate (1 - 1) none) m).bind fun fl m' => fin m.length true fl m' else .stuck := rfl
theorem cf__law_draw (n : Nat) (ws : List W) (m : Mem) : cf (n + 1) 8 ws m = if ws.length = 2 then (ex (cf n) gv b__law_draw (ws.map some ++ List.replicate (4 - 2) none) m).bind fun fl m' => fin m.length false fl m' else .stuck := rfl
theorem cf__law_pick (n : Nat) (ws : List W) (m : Mem) : cf (n + 1) 9 ws m = if ws.length = 2 then (ex (cf n) gv b__law_pick (ws.map some ++ List.replicate (2 - 2) none) m).bind fun fl m' => fin m.length false fl m' else .stuck := rfl
theorem cf__law_rule (n : Nat) (ws : List W) (m : Mem) : cf (n + 1) 10 ws m = if ws.length = 1 then (ex (cf n) gv b__law_rule (ws.map some ++ List.replicate (4 - 1) none) m).bind fun fl m' => fin m.length false fl m' else .stuck := rfl
theorem cf__law_any_word (n : Nat) (ws : List W) (m : Mem) : cf (n + 1) 11 ws m = if ws.length = 1 then (ex (cf n) gv b__law_any_word (ws.map some ++ List.replicate (2 - 1) none) m).bind fun fl m' => fin m.length false fl m' else .stuck := rfl
theorem cf__law_kinds (n : Nat) (ws : List W) (m : Mem) : cf (n + 1) 12 ws m = if ws.length = 1 then (ex (cf n) gv b__law_kinds (ws.map some ++ List.replicate (5 - 1) none) m).bind fun fl m' => fin m.length false fl m' else .stuck := rfl
theorem cf__law_others (n : Nat) (ws : List W) (m : Mem) : cf (n + 1) 13 ws m = if ws.length = 3 then (ex (cf n) gv b__law_others (ws.map some ++ List.replicate (6 - 3) none) m).bind fun fl m' => fin m.length false fl m' else .stuck := rfl
theorem cf__law_is (n : Nat) (ws : List W) (m : Mem) : cf (n + 1) 14 ws m = if ws.length = 3 then (ex (cf n) gv b__law_is (ws.map some ++ List.replicate (5 - 3) none) m).bind fun fl m' => fin m.length false fl m' else .stuck := rfl
theorem cf_law (n : Nat) (ws : List W) (m : Mem) : cf (n + 1) 15 ws m = if ws.length = 1 then (ex (cf n) gv b_law (ws.map some ++ List.replicate (6 - 1) none) m).bind fun fl m' => fin m.length false fl m' else .stuck := rfl
theorem gv_LETTERS : gv[0]? = some (.str [97, 98, 99, 100, 101, 102, 103, 104, 105, 106, 107, 108, 109, 110, 111, 112, 113, 114, 115, 116, 117, 118, 119, 120, 121, 122]) := rfl
theorem gv_LONGEST_WORD : gv[1]? = some (.int 8) := rfl
theorem gv_WISH_WORDS : gv[2]? = some (.tup [(.str [97, 110, 121]), (.str [105, 115]), (.str [98, 121]), (.str [110, 111, 116]), (.str [97, 110, 100]), (.str [111, 114])]) := rfl
theorem gv_RULE_WORDS : gv[3]? = some (.tup [(.str [104, 101, 97, 118, 121]), (.str [103, 114, 101, 97, 116]), (.str [115, 109, 97, 108, 108]), (.str [115, 111, 111, 110])]) := rfl
theorem gv_MOST_RULE_WORDS : gv[4]? = some (.int 3) := rfl
theorem gv_MOST_BORNE : gv[5]? = some (.int 4) := rfl
end My
end
section
set_option linter.all false
set_option maxRecDepth 20000
namespace My
open Mi
noncomputable def IsSt (s : List T) : Prop := ∃ a b c : Int, s = [.int a, .int b, .int c]
noncomputable def put (m : Mem) (i : Nat) (s : List T) : Mem := m.set i (some (false, s))
theorem put_at {m : Mem} {i : Nat} {s : List T} (h : i < m.length) : (put m i s)[i]? = some (some (false, s)) := List.getElem?_set_self h
theorem put_put {m : Mem} {i : Nat} {s s' : List T} : put (put m i s) i s' = put m i s' := List.set_set _
theorem put_len {m : Mem} {i : Nat} {s : List T} : (put m i s).length = m.length := List.length_set
theorem set_put {m : Mem} {i : Nat} {s s' : List T} : (put m i s).set i (some (false, s')) = put m i s' := List.set_set _
theorem put_take {m : Mem} {i : Nat} {s : List T} : (put m i s).take m.length = put m i s := by
  have h := List.take_length (l := put m i s)
  rw [put_len] at h
  exact h
theorem mulL {i j : Int} (h : 0 ≤ i) (h' : i < 4294967296) : mulOk i j = true := by
  have : i.natAbs < 2 ^ 64 := by omega
  simp [mulOk, small, this]
theorem mulR {i j : Int} (h : 0 ≤ j) (h' : j < 4294967296) : mulOk i j = true := by
  have : j.natAbs < 2 ^ 64 := by omega
  simp [mulOk, small, this]
section
variable {call : Nat → List W → Mem → Res W} {gv : List T} {env : Env} {m m1 m2 m3 : Mem} {a b c e o v i : E} {x y z r : T} {w w1 w2 : W} {f : Nat} {bb : B} {k : Bool}
theorem ev_bin {op : PySem.Operator} (h1 : ev call gv a env m = .ok (.t x) m1) (h2 : ev call gv b env m1 = .ok (.t y) m2) (h3 : binT op x y = some r) : ev call gv (.bin op a b) env m = .ok (.t r) m2 := by
  rw [ev, h1, bind_k, h2, bind_k]
  show pur (binT op x y) m2 = _
  rw [h3]; rfl
theorem ev_cmp {op : PySem.CmpOp} (h1 : ev call gv a env m = .ok (.t x) m1) (h2 : ev call gv b env m1 = .ok (.t y) m2) (h3 : cmpT op x y = some k) : ev call gv (.cmp op a b) env m = .ok (.t (.bl k)) m2 := by
  rw [ev, h1, bind_k, h2, bind_k]
  show pur ((cmpT op x y).map .bl) m2 = _
  rw [h3]; rfl
theorem ev_con (t : T) : ev call gv (.con t) env m = .ok (.t t) m := by rw [ev]
theorem ev_var {i : Nat} {w : W} (h : env[i]? = some (some w)) : ev call gv (.var i) env m = .ok w m := by rw [ev, h]
theorem ev_cix {c j : Nat} {k : Int} {xs : List T} (h : env[c]? = some (some (.c j))) (hm : m[j]? = some (some (false, xs))) (hx : atT xs k = some r) : ev call gv (.ix (.var c) (.con (.int k))) env m = .ok (.t r) m := by
  rw [ev, ev_var h, bind_k, ev_con, bind_k]
  simp only [view, hm, Option.bind_some, ixT, hx]
  rfl
theorem ev_ix (h1 : ev call gv a env m = .ok (.t x) m1) (h2 : ev call gv b env m1 = .ok (.t y) m2) (h3 : ixT x y = some r) : ev call gv (.ix a b) env m = .ok (.t r) m2 := by
  rw [ev, h1, bind_k, h2, bind_k]
  show pur (ixT x y) m2 = _
  rw [h3]; rfl
theorem ev_blt1 (h : ev call gv e env m = .ok (.t x) m1) (hb : bltT bb [x] = some r) : ev call gv (.blt bb (.cons e .nil)) env m = .ok (.t r) m1 := by
  rw [ev, evs, h]
  show pur (bltT bb [x]) m1 = _
  rw [hb]; rfl
theorem ev_call1 (h : ev call gv e env m = .ok w m1) : ev call gv (.call f (.cons e .nil)) env m = call f [w] m1 := by
  rw [ev, evs, h]
  rfl
theorem ev_call2 (h1 : ev call gv a env m = .ok w m1) (h2 : ev call gv b env m1 = .ok w1 m2) : ev call gv (.call f (.cons a (.cons b .nil))) env m = call f [w, w1] m2 := by
  simp only [ev, evs, h1, h2, bind_k]
theorem ev_call3 (h1 : ev call gv a env m = .ok w m1) (h2 : ev call gv b env m1 = .ok w1 m2) (h3 : ev call gv c env m2 = .ok w2 m3) : ev call gv (.call f (.cons a (.cons b (.cons c .nil)))) env m = call f [w, w1, w2] m3 := by
  simp only [ev, evs, h1, h2, h3, bind_k]
theorem ev_tup1 (h1 : ev call gv a env m = .ok (.t x) m1) : ev call gv (.tup (.cons a .nil)) env m = .ok (.t (.tup [x])) m1 := by
  simp only [ev, evs, h1, bind_k, frzs_c, frzs_k]
  exact if_pos (by simp [lim])
theorem ev_tup2 (h1 : ev call gv a env m = .ok (.t x) m1) (h2 : ev call gv b env m1 = .ok (.t y) m2) : ev call gv (.tup (.cons a (.cons b .nil))) env m = .ok (.t (.tup [x, y])) m2 := by
  simp only [ev, evs, h1, h2, bind_k, frzs_c, frzs_k]
  exact if_pos (by simp [lim])
theorem ev_tup3 (h1 : ev call gv a env m = .ok (.t x) m1) (h2 : ev call gv b env m1 = .ok (.t y) m2) (h3 : ev call gv c env m2 = .ok (.t z) m3) : ev call gv (.tup (.cons a (.cons b (.cons c .nil)))) env m = .ok (.t (.tup [x, y, z])) m3 := by
  simp only [ev, evs, h1, h2, h3, bind_k, frzs_c, frzs_k]
  exact if_pos (by simp [lim])
theorem ev_lst2 (h1 : ev call gv a env m = .ok (.t x) m1) (h2 : ev call gv b env m1 = .ok (.t y) m2) : ev call gv (.lst (.cons a (.cons b .nil))) env m = .ok (.t (.lst [x, y])) m2 := by
  simp only [ev, evs, h1, h2, bind_k, frzs_c, frzs_k]
  exact if_pos (by simp [lim])
theorem ev_andT (h : ev call gv a env m = .ok (.t (.bl true)) m1) : ev call gv (.and a b) env m = ev call gv b env m1 := by rw [ev, h]; rfl
theorem ev_andF (h : ev call gv a env m = .ok (.t (.bl false)) m1) : ev call gv (.and a b) env m = .ok (.t (.bl false)) m1 := by rw [ev, h]; rfl
theorem ev_not (h : ev call gv a env m = .ok (.t (.bl k)) m1) : ev call gv (.not a) env m = .ok (.t (.bl (!k))) m1 := by rw [ev, h]; rfl
theorem ev_orT (h : ev call gv a env m = .ok (.t (.bl true)) m1) : ev call gv (.or a b) env m = .ok (.t (.bl true)) m1 := by rw [ev, h]; rfl
theorem ev_orF (h : ev call gv a env m = .ok (.t (.bl false)) m1) : ev call gv (.or a b) env m = ev call gv b env m1 := by rw [ev, h]; rfl
theorem ev_isi {ty : Ty} (h : ev call gv a env m = .ok (.t x) m1) (hk : isT x ty = k) : ev call gv (.isi a ty) env m = .ok (.t (.bl k)) m1 := by rw [ev, h, ← hk]; rfl
end
section
variable {call : Nat → List W → Mem → Res W} {gv : List T} {env : Env} {m m1 m2 m3 : Mem} {a lo hi : E} {es : Es} {x y z r : T} {w : W} {ws : List W} {ts : List T} {f : Nat} {bb : B}
theorem le_lim {ts : List T} (h : ts.length ≤ 1000 := by exact Nat.le_of_ble_eq_true rfl) : ts.length ≤ lim := Nat.le_trans h (by decide)
theorem evs_n : evs call gv .nil env m = .ok [] m := by rw [evs]
theorem evs_c (h1 : ev call gv a env m = .ok w m1) (h2 : evs call gv es env m1 = .ok ws m2) : evs call gv (.cons a es) env m = .ok (w :: ws) m2 := by rw [evs, h1, bind_k, h2]; rfl
theorem ev_lst (h : evs call gv es env m = .ok ws m1) (h2 : frzs ws m1 = .ok ts m1) (hl : ts.length ≤ lim) : ev call gv (.lst es) env m = .ok (.t (.lst ts)) m1 := by rw [ev, h, bind_k, h2, bind_k, if_pos hl]
theorem ev_tup (h : evs call gv es env m = .ok ws m1) (h2 : frzs ws m1 = .ok ts m1) (hl : ts.length ≤ lim) : ev call gv (.tup es) env m = .ok (.t (.tup ts)) m1 := by rw [ev, h, bind_k, h2, bind_k, if_pos hl]
theorem ev_call (h : evs call gv es env m = .ok ws m1) : ev call gv (.call f es) env m = call f ws m1 := by rw [ev, h]; rfl
theorem ev_blt (h : evs call gv es env m = .ok ws m1) (h2 : views ws m1 = some ts) (h3 : bltT bb ts = some r) : ev call gv (.blt bb es) env m = .ok (.t r) m1 := by
  rw [ev, h, bind_k, h2]
  show pur (bltT bb ts) m1 = _
  rw [h3]; rfl
theorem ev_one (h : ev call gv a env m = .ok w m1) : ev call gv (.one a) env m = .ok w m1 := by rw [ev, h]
theorem ev_gl {k : Nat} (h : gv[k]? = some x) : ev call gv (.gl k) env m = .ok (.t x) m := by rw [ev, h]; rfl
theorem ev_slox {k : Int} (h1 : ev call gv a env m = .ok (.t x) m1) (h2 : ev call gv hi env m1 = .ok (.t (.int k)) m2) (h3 : slT x none (some k) = some r) (hh : isHole hi = false := by rfl) : ev call gv (.slc a .hole hi) env m = .ok (.t r) m2 := by
  rw [ev, h1, bind_k, show isHole .hole = true from rfl, if_pos rfl, bind_k, hh, if_neg Bool.false_ne_true, h2]
  show pur (slT x none (some k)) m2 = _
  rw [h3]; rfl
theorem ev_slxo {k : Int} (h1 : ev call gv a env m = .ok (.t x) m1) (h2 : ev call gv lo env m1 = .ok (.t (.int k)) m2) (h3 : slT x (some k) none = some r) (hh : isHole lo = false := by rfl) : ev call gv (.slc a lo .hole) env m = .ok (.t r) m2 := by
  rw [ev, h1, bind_k, hh, if_neg Bool.false_ne_true, h2]
  show pur (slT x (some k) none) m2 = _
  rw [h3]; rfl
end
section
variable {call : Nat → List W → Mem → Res W} {gv : List T} {env env' : Env} {m m1 m2 : Mem} {k a b : S} {e : E} {w : W}
theorem ex_ifB (h : ev call gv e env m = .ok (.t (.bl false)) m1) (h2 : ex call gv b env m1 = .ok (.next env') m2) : ex call gv (.ife e a b k) env m = ex call gv k env' m2 := by
  rw [ex, h]
  show (ex call gv b env m1).bind _ = _
  rw [h2]; rfl
theorem ex_ifA (h : ev call gv e env m = .ok (.t (.bl true)) m1) (h2 : ex call gv a env m1 = .ok (.next env') m2) : ex call gv (.ife e a b k) env m = ex call gv k env' m2 := by
  rw [ex, h]
  show (ex call gv a env m1).bind _ = _
  rw [h2]; rfl
theorem ex_expr (h : ev call gv e env m = .ok w m1) : ex call gv (.expr e k) env m = ex call gv k env m1 := by rw [ex, h]; rfl
end
section
variable {call : Nat → List W → Mem → Res W} {gv : List T} {env : Env} {m m1 m2 : Mem} {a c inner : E} {x : T} {xs : List T}
theorem ev_emit (h : ev call gv a env m = .ok (.t x) m1) : ev call gv (.emit a) env m = .ok (.t (.lst [x])) m1 := by rw [ev, h]; rfl
theorem turn1T (h : ev call gv c env m = .ok (.t (.bl true)) m1) (h2 : ev call gv inner env m1 = .ok (.t (.lst xs)) m2) : turnD call gv (.cons c .nil) inner env m = .ok xs m2 := by
  unfold turnD
  rw [tests, h, bind_k, truthW_k, bind_k, if_pos rfl, tests, bind_k, if_pos rfl, h2]
  rfl
theorem turn1F (h : ev call gv c env m = .ok (.t (.bl false)) m1) : turnD call gv (.cons c .nil) inner env m = .ok [] m1 := by
  unfold turnD
  rw [tests, h, bind_k, truthW_k, bind_k, if_neg (by decide), bind_k, if_neg (by decide)]
theorem turn0 (h2 : ev call gv inner env m = .ok (.t (.lst xs)) m2) : turnD call gv .nil inner env m = .ok xs m2 := by
  unfold turnD
  rw [tests, bind_k, if_pos rfl, h2]
  rfl
end
theorem at0 {α : Type} (a : α) (r : List α) : atT (a :: r) 0 = some a := by simp [atT, ixOf]
theorem at1 {α : Type} (a b : α) (r : List α) : atT (a :: b :: r) 1 = some b := by
  have : (1 : Int) < (r.length : Int) + 1 + 1 := by omega
  simp [atT, ixOf, this]
theorem at_get {α : Type} {xs : List α} {i : Int} (h0 : 0 ≤ i) (h1 : i < xs.length) : atT xs i = xs[i.toNat]? := by
  unfold atT ixOf
  rw [if_pos h0, if_pos h1]
  rfl
theorem flatMap_one {α β : Type} (f : α → β) (xs : List α) : xs.flatMap (fun x => [f x]) = xs.map f := by
  induction xs with
  | nil => rfl
  | cons x xs ih => simp [ih]
theorem fin_t {n : Nat} {c : Bool} {t : T} {m : Mem} {k : Nat} (h : m.length = k) : fin k c (.ret (.t t)) m = .ok (.t t) m := ret_fin h
theorem draw_ok {n : Nat} {m : Mem} {i : Nat} {s : List T} {many : Int} (hi : i < m.length) (hs : IsSt s) (h1 : 0 < many) (h2 : many < 1073741824) :
    ∃ r s', cf (n + 1) 8 [.c i, .t (.int many)] (put m i s) = .ok (.t (.int r)) (put m i s') ∧ IsSt s' ∧ 0 ≤ r ∧ r < many := by
  obtain ⟨a, b, c, rfl⟩ := hs
  have key : ∃ r s', ex (cf n) gv b__law_draw [some (.c i), some (.t (.int many)), none, none] (put m i [.int a, .int b, .int c]) = .ok (.ret (.t (.int r))) (put m i s') ∧ IsSt s' ∧ 0 ≤ r ∧ r < many := by
    have h := put_at (s := [.int a, .int b, .int c]) hi
    unfold b__law_draw
    have hg : ev (cf n) gv (.cmp .Gt (.ix (.var 0) (.con (.int 0))) (.con (.int 0))) [some (.c i), some (.t (.int many)), none, none] (put m i [.int a, .int b, .int c]) = .ok (.t (.bl (decide (0 < a)))) (put m i [.int a, .int b, .int c]) := by
      rw [ev, ev_cix rfl h rfl, bind_k, ev_con, bind_k]
      rfl
    by_cases ha : 0 < a
    · rw [decide_eq_true ha] at hg
      refine ⟨a % many, [.int (a / many), .int b, .int c], ex_ifR hg ?_, ⟨_, _, _, rfl⟩, Int.emod_nonneg _ (by omega), Int.emod_lt_of_pos _ h1⟩
      rw [ex_asg (ev_bin (ev_cix rfl h rfl) (ev_var rfl) (b_mod h1))]
      rw [ex_setK (ev_bin (ev_cix rfl h rfl) (ev_var rfl) (b_div ⟨h1, h2⟩)) (ev_var rfl) (ev_con _) h rfl]
      rw [set_put]
      exact ex_ret (ev_var rfl)
    · rw [decide_eq_false ha] at hg
      rw [ex_ifF hg]
      have h4 : mulOk 7919 (c + 1) = true := mulL (by decide) (by decide)
      have h5 : ∀ x, mulOk x 48271 = true := fun x => mulR (by decide) (by decide)
      have h6 : ∀ x y, mulOk (x % 2147483647) y = true := fun x y => mulL (Int.emod_nonneg _ (by decide)) (by have := Int.emod_lt_of_pos x (b := 2147483647) (by decide); omega)
      have hp := put_at (s := [.int a, .int b, .int (c + 1)]) hi
      obtain ⟨z, hz⟩ : ∃ z : Int, ex (cf n) gv (.set (.var 0) (.con (.int 2)) (.bin .Add (.ix (.var 0) (.con (.int 2))) (.con (.int 1))) (.asg 3 (.bin .Mod (.bin .Mult (.bin .Add (.bin .Add (.ix (.var 0) (.con (.int 1))) (.bin .Mult (.con (.int 7919)) (.ix (.var 0) (.con (.int 2))))) (.con (.int 1))) (.con (.int 48271))) (.con (.int 2147483647))) (.asg 3 (.bin .Mod (.bin .Mult (.var 3) (.bin .Add (.bin .FloorDiv (.var 3) (.con (.int 1009))) (.con (.int 69621)))) (.con (.int 2147483647))) (.ret (.bin .Mod (.bin .Mod (.bin .Mult (.var 3) (.bin .Add (.bin .FloorDiv (.var 3) (.con (.int 2003))) (.con (.int 40692)))) (.con (.int 2147483399))) (.var 1)) .done)))) [some (.c i), some (.t (.int many)), none, none] (put m i [.int a, .int b, .int c]) = .ok (.ret (.t (.int (z % many)))) (put m i [.int a, .int b, .int (c + 1)]) := by
        refine ⟨(((b + 7919 * (c + 1) + 1) * 48271 % 2147483647) * (((b + 7919 * (c + 1) + 1) * 48271 % 2147483647) / 1009 + 69621) % 2147483647) * ((((b + 7919 * (c + 1) + 1) * 48271 % 2147483647) * (((b + 7919 * (c + 1) + 1) * 48271 % 2147483647) / 1009 + 69621) % 2147483647) / 2003 + 40692) % 2147483399, ?_⟩
        rw [ex_setK (ev_bin (ev_cix rfl h rfl) (ev_con _) (b_add _ _)) (ev_var rfl) (ev_con _) h rfl]
        show ex (cf n) gv _ _ (put m i [.int a, .int b, .int c] |>.set i (some (false, [.int a, .int b, .int (c + 1)]))) = _
        rw [set_put]
        rw [ex_asg (ev_bin (ev_bin (ev_bin (ev_bin (ev_cix rfl hp rfl) (ev_bin (ev_con _) (ev_cix rfl hp rfl) (b_mul h4)) (b_add _ _)) (ev_con _) (b_add _ _)) (ev_con _) (b_mul (h5 _))) (ev_con _) (b_mod (by decide)))]
        rw [ex_asg (ev_bin (ev_bin (ev_var rfl) (ev_bin (ev_bin (ev_var rfl) (ev_con _) (b_div (by decide))) (ev_con _) (b_add _ _)) (b_mul (h6 _ _))) (ev_con _) (b_mod (by decide)))]
        exact ex_ret (ev_bin (ev_bin (ev_bin (ev_var rfl) (ev_bin (ev_bin (ev_var rfl) (ev_con _) (b_div (by decide))) (ev_con _) (b_add _ _)) (b_mul (h6 _ _))) (ev_con _) (b_mod (by decide))) (ev_var rfl) (b_mod h1))
      exact ⟨z % many, _, hz, ⟨_, _, _, rfl⟩, Int.emod_nonneg _ (Int.ne_of_gt h1), Int.emod_lt_of_pos _ h1⟩
  obtain ⟨r, s', e, h⟩ := key
  refine ⟨r, s', ?_, h⟩
  exact fn_ret (cf__law_draw _ _ _) rfl e (ret_fin (cell := false) (by rw [put_len, put_len]))
theorem tape_ok {n : Nat} {m : Mem} {x : Int} : ∃ s, cf (n + 1) 7 [.t (.int x)] m = .ok (.c m.length) (put (m ++ [none]) m.length s) ∧ IsSt s := by
  have hb : ∀ y : Int, ∀ k : Bool, mulOk y (b2i k) = true := fun y k => mulR (by cases k <;> decide) (by cases k <;> decide)
  refine ⟨[.int (x * b2i (decide (1000000000000000000 ≤ x))), .int (x % 2147483647), .int 0], ?_, ⟨_, _, _, rfl⟩⟩
  have key : ex (cf n) gv b__law_tape [some (.t (.int x))] m = .ok (.ret (.c m.length)) (m ++ [some (false, [.int (x * b2i (decide (1000000000000000000 ≤ x))), .int (x % 2147483647), .int 0])]) := by
    unfold b__law_tape
    exact ex_ret (by simp [ev, evs, isT, isHole, EVs, b_pow, b_mul (hb _ _), b_mod, lim])
  rw [cf__law_tape]
  simp [key, bind_k, fin, put]
theorem cell_ok {n : Nat} {m : Mem} {ns : List Int} : ∃ v : Int, cf (n + 1) 6 [.t (.scr ns), .t (.int 0)] m = .ok (.t (.int v)) m := by
  have key : ∃ v : Int, ex (cf n) gv b__law_cell_at [some (.t (.scr ns)), some (.t (.int 0))] m = .ok (.ret (.t (.int v))) m := by
    unfold b__law_cell_at
    by_cases h : (0 : Int) < ns.length
    · obtain ⟨v, hv, _⟩ := atT_mem (xs := ns) (i := 0) (by decide) h
      exact ⟨v, ex_ifR (m1 := m) (by simp [ev, evs, isT, isHole, EVs]; omega) (ex_ret (by simp [ev, evs, isT, isHole, EVs, hv]))⟩
    · have h' : ns = [] := List.length_eq_zero_iff.mp (by omega)
      subst h'
      refine ⟨0, ?_⟩
      rw [ex_ifF (m1 := m) (by simp [ev, evs, isT, isHole, EVs])]
      exact ex_ret (by simp [ev, evs, isT, isHole, EVs])
  obtain ⟨v, e⟩ := key
  refine ⟨v, ?_⟩
  rw [cf__law_cell_at]
  simp [e, bind_k, ret_fin]
noncomputable def lett : List Nat := [97, 98, 99, 100, 101, 102, 103, 104, 105, 106, 107, 108, 109, 110, 111, 112, 113, 114, 115, 116, 117, 118, 119, 120, 121, 122]
noncomputable def six : List (List Nat) := [[97, 110, 121], [105, 115], [98, 121], [110, 111, 116], [97, 110, 100], [111, 114]]
noncomputable def inSix (cs : List Nat) : Bool := six.any fun a => a == cs
noncomputable def wordB (cs : List Nat) : Bool := decide (1 ≤ cs.length) && decide (cs.length ≤ 8) && !inSix cs && cs.all fun c => decide (c ∈ lett)
theorem word_comp {n : Nat} {cs : List Nat} {m : Mem} (hl : cs.length ≤ lim) : ev (cf n) gv c_is_long_word_0 [some (.t (.str cs))] m = .ok (.t (.lst (cs.map fun c => .bl (decide (c ∈ lett))))) m := by
  have h := loopC_pure (f := turnD (cf n) gv .nil i_is_long_word_0) (tg := .nm 0) (env := [none]) (m := m)
    (g := fun t => match t with | .str [c] => [.bl (decide (c ∈ lett))] | _ => []) (cs.map fun c => .str [c]) (fun t ht => by
      obtain ⟨c, _, rfl⟩ := List.mem_map.mp ht
      exact ⟨[some (.t (.str [c]))], rfl, by simp [turnD, tests, i_is_long_word_0, ev, Res.bind, view, pur, gv_LETTERS, cmpT, icmpT, ltT, inT, asLst, frz, lett]⟩)
  have e : (cs.map fun c => T.str [c]).flatMap (fun t => match t with | .str [c] => [T.bl (decide (c ∈ lett))] | _ => []) = cs.map fun c => .bl (decide (c ∈ lett)) := by
    rw [List.flatMap_map]
    exact flatMap_one _ _
  rw [e] at h
  exact comp_done (x := .t (.str cs)) (m0 := m) (by simp [ev]) (by simp [borrow, itemsT, hl]) h (by simpa using hl)
theorem has_six (cs : List Nat) : hasT (.str cs) (.tup [.str [97, 110, 121], .str [105, 115], .str [98, 121], .str [110, 111, 116], .str [97, 110, 100], .str [111, 114]]) = some (inSix cs) := by
  simp [hasT, flat, eqT, six, inSix]
noncomputable def longB (cs : List Nat) : Bool := decide (1 ≤ cs.length) && !inSix cs && cs.all fun c => decide (c ∈ lett)
theorem is_long_ok {n : Nat} {m : Mem} {cs : List Nat} (hl : cs.length ≤ lim) : cf (n + 1) 0 [.t (.str cs)] m = .ok (.t (.bl (longB cs))) m := by
  have e : ex (cf n) gv b_is_long_word [some (.t (.str cs))] m = .ok (.ret (.t (.bl (longB cs)))) m := by
    unfold b_is_long_word
    refine ex_ret ?_
    by_cases h1 : 0 < cs.length
    · have h1' : (0 : Int) < cs.length := by omega
      have h1'' : (decide (1 ≤ cs.length)) = true := decide_eq_true h1
      have hin : cmpT .NotIn (.str cs) (.tup [.str [97, 110, 121], .str [105, 115], .str [98, 121], .str [110, 111, 116], .str [97, 110, 100], .str [111, 114]]) = some (!inSix cs) := by
        rcases cs with _ | ⟨c, _ | ⟨d, r⟩⟩ <;> simp [cmpT, icmpT, ltT, inT, has_six]
      cases h6 : inSix cs
      · simp only [longB, h1'', h6]
        simp [ev, evs, isT, isHole, EVs, l_str hl, h1, h1', hin, h6, gv_WISH_WORDS, word_comp hl, l_all (bools_map _ cs)]
      · simp [ev, evs, isT, isHole, EVs, l_str hl, h1, h1', hin, h6, gv_WISH_WORDS, longB]
    · have h1' : ¬ (0 : Int) < cs.length := by omega
      have h1'' : (decide (1 ≤ cs.length)) = false := decide_eq_false h1
      simp only [longB, h1'']
      simp [ev, evs, isT, isHole, EVs, l_str hl, h1, h1']
  exact fn_ret (cf_is_long_word _ _ _) rfl e (ret_fin (cell := false) rfl)
theorem is_word_str {n : Nat} {m : Mem} {cs : List Nat} (hl : cs.length ≤ lim) : cf (n + 2) 1 [.t (.str cs)] m = .ok (.t (.bl (wordB cs))) m := by
  have e : ex (cf (n + 1)) gv b_is_word [some (.t (.str cs))] m = .ok (.ret (.t (.bl (wordB cs)))) m := by
    unfold b_is_word
    refine ex_ret ?_
    by_cases h8 : cs.length ≤ 8
    · have h8' : (cs.length : Int) ≤ 8 := by omega
      have hw : wordB cs = longB cs := by simp [wordB, longB, h8]
      simp [ev, evs, isT, isHole, EVs, l_str hl, h8', gv_LONGEST_WORD, is_long_ok (n := n) hl, hw]
    · have h8' : ¬ (cs.length : Int) ≤ 8 := by omega
      simp [ev, evs, isT, isHole, EVs, l_str hl, h8', gv_LONGEST_WORD, wordB, h8]
  exact fn_ret (cf_is_word _ _ _) rfl e (ret_fin (cell := false) rfl)
theorem is_word_no {n : Nat} {m : Mem} {x : T} (h : isT x .str = false) : cf (n + 2) 1 [.t x] m = .ok (.t (.bl false)) m := by
  have e : ex (cf (n + 1)) gv b_is_word [some (.t x)] m = .ok (.ret (.t (.bl false))) m := by
    unfold b_is_word
    refine ex_ret ?_
    cases x with
    | str cs => cases h
    | _ => simp [ev, evs, isT, isHole, EVs]
  exact fn_ret (cf_is_word _ _ _) rfl e (ret_fin (cell := false) rfl)
theorem sum_one (cs : List Nat) : ((cs.map fun c => [c]).map List.length).sum = cs.length := by
  induction cs with
  | nil => rfl
  | cons c cs ih => rw [List.map_cons, List.map_cons, List.sum_cons, ih]; simp; omega
theorem pick_ok {n : Nat} {m : Mem} {i : Nat} {s xs : List T} (hi : i < m.length) (hs : IsSt s) (h0 : 0 < xs.length) (h1 : xs.length < 1000) :
    ∃ x s', cf (n + 2) 9 [.c i, .t (.lst xs)] (put m i s) = .ok (.t x) (put m i s') ∧ IsSt s' ∧ x ∈ xs := by
  obtain ⟨r, s1, g1, hs1, r0, r1⟩ := draw_ok (n := n) (many := (xs.length : Int)) hi hs (by omega) (by omega)
  obtain ⟨x, hx, hm⟩ := atT_mem r0 r1
  refine ⟨x, s1, ?_, hs1, hm⟩
  have key : ex (cf (n + 1)) gv b__law_pick [some (.c i), some (.t (.lst xs))] (put m i s) = .ok (.ret (.t x)) (put m i s1) := by
    unfold b__law_pick
    exact ex_ret (by simp [ev, evs, isT, isHole, EVs, g1, hx])
  exact fn_ret (cf__law_pick _ _ _) rfl key (ret_fin (cell := false) (by rw [put_len, put_len]))
theorem lets_comp {n : Nat} {m : Mem} {i : Nat} {s : List T} {e1 : Option W} (hi : i < m.length) (hs : IsSt s) :
    ∃ (cs : List Nat) (s' : List T), ev (cf (n + 1)) gv c__law_any_word_0 [some (.c i), e1] (put m i s) = .ok (.t (.lst (cs.map fun c => .str [c]))) (put m i s') ∧ IsSt s' ∧ 1 ≤ cs.length ∧ cs.length ≤ 8 ∧ ∀ c ∈ cs, c ∈ lett := by
  obtain ⟨r, s1, h1, hs1, hr0, hr1⟩ := draw_ok (n := n) (many := 8) hi hs (by decide) (by decide)
  obtain ⟨xss, m', h2, ⟨s2, rfl, hs2⟩, ht⟩ := loopC_st (f := turnD (cf (n + 1)) gv .nil i__law_any_word_0) (tg := .nm 0) (env := [none, some (.c i)]) (P := fun m' => ∃ s, m' = put m i s ∧ IsSt s) (R := fun _ xs => ∃ c, c ∈ lett ∧ xs = [.str [c]]) (rangeT 0 (1 + r).toNat) (put m i s1) ⟨s1, rfl, hs1⟩ (by
    rintro t ht m' ⟨s, rfl, hs⟩
    obtain ⟨q, s3, h3, hs3, hq0, hq1⟩ := draw_ok (n := n) (many := 26) hi hs (by decide) (by decide)
    obtain ⟨c, hc, hcm⟩ := atT_mem (xs := lett) hq0 (by simpa [lett] using hq1)
    refine ⟨[some (.t t), some (.c i)], [.str [c]], put m i s3, rfl, ?_, ⟨s3, rfl, hs3⟩, c, hcm, rfl⟩
    have hx : ixT (.str lett) (.int q) = some (.str [c]) := by rw [x_str (by decide), hc]; rfl
    unfold lett at hx
    simp [turnD, tests, i__law_any_word_0, ev, evs, isT, isHole, EVs, h3, hx])
  have hl : ∃ cs : List Nat, xss = cs.map (fun c => [T.str [c]]) ∧ ∀ c ∈ cs, c ∈ lett := by
    clear h2 h1
    have : ∀ (ts : List T) (xss : List (List T)), Turns (fun _ xs => ∃ c, c ∈ lett ∧ xs = [T.str [c]]) ts xss → ∃ cs : List Nat, xss = cs.map (fun c => [T.str [c]]) ∧ ∀ c ∈ cs, c ∈ lett := fun ts xss h => by
      induction h with
      | nil => exact ⟨[], rfl, fun c hc => by cases hc⟩
      | cons h _ ih =>
        obtain ⟨c, hc, rfl⟩ := h
        obtain ⟨cs, rfl, hl⟩ := ih
        refine ⟨c :: cs, rfl, fun x hx => ?_⟩
        rcases List.mem_cons.mp hx with rfl | hx
        · exact hc
        · exact hl x hx
    exact this _ _ ht
  obtain ⟨cs, rfl, hl⟩ := hl
  have hlen := ht.length
  have hr : (rangeT 0 (1 + r).toNat).length = (1 + r).toNat := by simp [rangeT]
  have hf : (cs.map (fun c => [T.str [c]])).flatten = cs.map fun c => T.str [c] := by
    rw [← List.flatMap_def]; exact flatMap_one _ _
  rw [hf] at h2
  rw [List.length_map] at hlen
  refine ⟨cs, s2, ?_, hs2, by omega, by omega, hl⟩
  refine comp_done (x := .t (.lst (rangeT 0 (1 + r).toNat))) (m0 := put m i s1) (m1 := put m i s1) ?_ rfl h2 (by rw [List.length_map]; unfold lim; omega)
  simp [ev, evs, isT, isHole, EVs, h1, l_rng (show 1 + r < 2 ^ 62 ∧ -(2 ^ 62) ≤ 1 + r by omega)]
theorem joined_letters (cs : List Nat) : joinN [] (cs.map fun c => [c]) = cs := by
  rw [joinN_nil, ← List.flatMap_def, flatMap_one]
  simp
theorem any_word_ok {n : Nat} {m : Mem} {i : Nat} {s : List T} (hi : i < m.length) (hs : IsSt s) : ∃ (cs : List Nat) (s' : List T), cf (n + 2) 11 [.c i] (put m i s) = .ok (.t (.str cs)) (put m i s') ∧ IsSt s' ∧ wordB cs = true := by
  have key : ∃ (cs : List Nat) (s' : List T), ex (cf (n + 1)) gv b__law_any_word [some (.c i), none] (put m i s) = .ok (.ret (.t (.str cs))) (put m i s') ∧ IsSt s' ∧ wordB cs = true := by
    unfold b__law_any_word
    obtain ⟨cs, s2, h2, hs2, l1, l8, hl⟩ := lets_comp (n := n) (e1 := none) hi hs
    have hj := d_join (m := put m i s2) (sep := []) (strs_map (fun c => [c]) cs) (by rw [sum_one, List.length_nil, Nat.mul_zero]; unfold lim; omega)
    rw [joined_letters] at hj
    rw [ex_asg (w := .t (.str cs)) (m1 := put m i s2) (by simp [ev, evs, isT, isHole, EVs, t_join, h2, hj])]
    have hin : cmpT .In (.str cs) (.tup [.str [97, 110, 121], .str [105, 115], .str [98, 121], .str [110, 111, 116], .str [97, 110, 100], .str [111, 114]]) = some (inSix cs) := by
      cases cs with
      | nil => simp [cmpT, icmpT, ltT, inT, has_six]
      | cons c r => cases r <;> simp [cmpT, icmpT, ltT, inT, has_six]
    have hmul : ∀ b : Bool, binT .Mult (.str [115]) (.int (b2i b)) = some (.str (if b then [115] else [])) := fun b => by cases b <;> rfl
    cases h6 : inSix cs with
    | true =>
      have hc : cs ∈ six := by
        obtain ⟨a, ha, hb⟩ := List.any_eq_true.mp h6
        rw [← eq_of_beq hb]; exact ha
      refine ⟨cs ++ [115], s2, ?_, hs2, ?_⟩
      · exact ex_ret (by simp [ev, evs, isT, isHole, EVs, lim, hin, h6, hmul, b_addS (a := cs) (b := [115]) (by simp [lim]; omega)])
      · simp only [six, List.mem_cons, List.not_mem_nil, or_false] at hc
        rcases hc with rfl | rfl | rfl | rfl | rfl | rfl <;> decide
    | false =>
      refine ⟨cs, s2, ?_, hs2, ?_⟩
      · exact ex_ret (by simp [ev, evs, isT, isHole, EVs, lim, hin, h6, hmul, b_addS (a := cs) (b := []) (by simp [lim]; omega)])
      · have : (cs.all fun c => decide (c ∈ lett)) = true := List.all_eq_true.mpr fun c hc => decide_eq_true (hl c hc)
        simp [wordB, h6, l1, l8]
        exact hl
  obtain ⟨cs, s', e, hs', hw⟩ := key
  refine ⟨cs, s', ?_, hs', hw⟩
  exact fn_ret (cf__law_any_word _ _ _) rfl e (ret_fin (cell := false) (by rw [put_len, put_len]))
theorem in_words (w : List Nat) (mk : List (List Nat)) : cmpT .In (.str w) (.tup (mk.map .str)) = some (mk.any fun a => a == w) := by
  have h1 : hasT (.str w) (.tup (mk.map .str)) = some (mk.any fun a => a == w) := by
    have ha : (mk.map T.str).all flat = true := by simp [flat]
    have hb : ((mk.map T.str).any fun t => eqT t (.str w)) = mk.any fun a => a == w := by
      induction mk with
      | nil => rfl
      | cons a mk ih => simp only [List.map_cons, List.any_cons, eqT]; rw [ih (by simp [flat])]
    unfold hasT
    dsimp only
    rw [ha, hb]
    rfl
  rw [← h1]
  rcases w with _ | ⟨c, _ | ⟨d, r⟩⟩ <;> rfl
theorem in_list (w : List Nat) (mk : List (List Nat)) : cmpT .In (.str w) (.lst (mk.map .str)) = some (mk.any fun a => a == w) := by
  have h1 : hasT (.str w) (.lst (mk.map .str)) = some (mk.any fun a => a == w) := by
    have ha : (mk.map T.str).all flat = true := by simp [flat]
    have hb : ((mk.map T.str).any fun t => eqT t (.str w)) = mk.any fun a => a == w := by
      induction mk with
      | nil => rfl
      | cons a mk ih => simp only [List.map_cons, List.any_cons, eqT]; rw [ih (by simp [flat])]
    unfold hasT
    dsimp only
    rw [ha, hb]
    rfl
  rw [← h1]
  rcases w with _ | ⟨c, _ | ⟨d, r⟩⟩ <;> rfl
theorem ex_done {call : Nat → List W → Mem → Res W} {gv : List T} {env : Env} {m : Mem} : ex call gv .done env m = .ok (.next env) m := by rw [ex]
noncomputable def four : List (List Nat) := [[104, 101, 97, 118, 121], [103, 114, 101, 97, 116], [115, 109, 97, 108, 108], [115, 111, 111, 110]]
noncomputable def oneB : T → Bool
  | .str c => four.any fun a => a == c
  | _ => false
noncomputable def wdB : T → Bool
  | .str c => wordB c
  | _ => false
theorem sort_len {xs : List (List Nat)} (h : xs.Nodup) : (sortSet xs).length = xs.length :=
  ((List.perm_ext_iff_of_nodup (sortSet_nd xs) h).mpr fun c => sortSet_mem c xs).length_eq
theorem sort_less {xs : List (List Nat)} (h : ¬ xs.Nodup) : (sortSet xs).length ≠ xs.length := fun e => by
  apply h
  have : ∀ xs : List (List Nat), (sortSet xs).length = xs.length → xs.Nodup := by
    intro xs
    induction xs with
    | nil => intro _; exact .nil
    | cons x xs ih =>
      intro e
      have ins : ∀ (x : List Nat) (l : List (List Nat)), (insT x l).length ≤ l.length + 1 ∧ (x ∈ l → l.Pairwise (fun a b => nlt a b = true) → (insT x l).length = l.length) := by
        intro x l
        induction l with
        | nil => exact ⟨Nat.le_refl _, fun h => by cases h⟩
        | cons y l ih =>
          unfold insT
          by_cases h1 : nlt x y = true
          · rw [if_pos h1]
            refine ⟨Nat.le_refl _, fun hm hp => ?_⟩
            rcases List.mem_cons.mp hm with rfl | hm
            · rw [nlt_irr] at h1; cases h1
            · have := nlt_tr h1 ((List.pairwise_cons.mp hp).1 x hm)
              rw [nlt_irr] at this; cases this
          · rw [if_neg h1]
            by_cases h2 : nlt y x = true
            · rw [if_pos h2, List.length_cons, List.length_cons]
              refine ⟨by have := ih.1; omega, fun hm hp => ?_⟩
              rcases List.mem_cons.mp hm with rfl | hm
              · rw [nlt_irr] at h2; cases h2
              · rw [ih.2 hm (List.pairwise_cons.mp hp).2]
            · rw [if_neg h2]
              exact ⟨Nat.le_succ _, fun _ _ => rfl⟩
      have le : ∀ l : List (List Nat), (sortSet l).length ≤ l.length := by
        intro l
        induction l with
        | nil => exact Nat.le_refl _
        | cons y l ih2 =>
          show (insT y (sortSet l)).length ≤ _
          have := (ins y (sortSet l)).1
          rw [List.length_cons]
          omega
      have e : (insT x (sortSet xs)).length = xs.length + 1 := e
      have h1 := (ins x (sortSet xs)).1
      have h2 := le xs
      refine List.nodup_cons.mpr ⟨fun hm => ?_, ih (by omega)⟩
      have := (ins x (sortSet xs)).2 ((sortSet_mem x xs).mpr hm) (sortSet_pw xs)
      omega
  exact this xs e
section
variable {n : Nat} {m : Mem}
theorem one_ok {x : T} : cf (n + 1) 2 [.t x, .t (.tup (four.map .str))] m = .ok (.t (.bl (oneB x))) m := by
  have key : ex (cf n) gv b_is_one_of [some (.t x), some (.t (.tup (four.map .str)))] m = .ok (.ret (.t (.bl (oneB x)))) m := by
    unfold b_is_one_of
    refine ex_ret ?_
    cases x with
    | str c => exact (ev_andT (ev_isi (k := true) (ev_var rfl) rfl)).trans (ev_cmp (ev_var rfl) (ev_var rfl) (in_words c four))
    | _ => exact ev_andF (ev_isi (ev_var rfl) rfl)
  exact fn_ret (cf_is_one_of _ _ _) rfl key (ret_fin (cell := false) rfl)
theorem wd_ok {x : T} (h : fitT x = true) : cf (n + 2) 1 [.t x] m = .ok (.t (.bl (wdB x))) m := by
  cases x with
  | str c => exact is_word_str (of_decide_eq_true h)
  | _ => exact is_word_no rfl
theorem strs_of {B : T → Bool} (hB : ∀ t, B t = true → ∃ c, t = .str c) : ∀ {ts : List T}, ts.all B = true → ∃ ws : List (List Nat), ts = ws.map .str
  | [], _ => ⟨[], rfl⟩
  | t :: ts, h => by
    rw [List.all_cons, Bool.and_eq_true] at h
    obtain ⟨c, rfl⟩ := hB t h.1
    obtain ⟨ws, rfl⟩ := strs_of hB h.2
    exact ⟨c :: ws, rfl⟩
theorem unlike_ok {ws : List (List Nat)} (hl : ws.length < 64) : cf (n + 1) 3 [.t (.tup (ws.map .str))] m = .ok (.t (.bl (decide ws.Nodup))) m := by
  have key : ex (cf n) gv b_are_unlike [some (.t (.tup (ws.map .str)))] m = .ok (.ret (.t (.bl (decide ws.Nodup)))) m := by
    unfold b_are_unlike
    have h1 : bltT .lenset [.tup (ws.map T.str)] = some (.int ((sortSet ws).length : Int)) := by
      show lensT (ws.map T.str) = _
      unfold lensT
      have := strs_map (fun x : List Nat => x) ws
      rw [List.map_id'] at this
      rw [this]
      exact if_pos hl
    have h2 : bltT .len [.tup (ws.map T.str)] = some (.int (ws.length : Int)) := by
      show some (T.int ((ws.map T.str).length : Int)) = _
      rw [List.length_map]
    have h3 : (((sortSet ws).length : Int) == (ws.length : Int)) = decide ws.Nodup := by
      by_cases h : ws.Nodup
      · rw [sort_len h, decide_eq_true h]; simp
      · have := sort_less h
        rw [decide_eq_false h]
        exact beq_eq_false_iff_ne.mpr (by omega)
    rw [← h3]
    exact ex_ret (ev_cmp (ev_blt1 (ev_var rfl) h1) (ev_blt1 (ev_var rfl) h2) (c_eqI _ _))
  exact fn_ret (cf_are_unlike _ _ _) rfl key (ret_fin (cell := false) rfl)
noncomputable def ndB (ts : List T) : Bool := match strs? ts with
  | some ws => decide ws.Nodup
  | none => false
theorem strs_id (ws : List (List Nat)) : strs? (ws.map T.str) = some ws := by
  have := strs_map (fun x : List Nat => x) ws
  rw [List.map_id'] at this
  exact this
noncomputable def okB (B : T → Bool) (k : Nat) : T → Bool
  | .tup ts => decide (ts.length ≤ k) && (ts.all B && ndB ts)
  | _ => false
theorem bools_id (bs : List Bool) : bools? (bs.map T.bl) = some bs := by
  induction bs with
  | nil => rfl
  | cons b bs ih => rw [List.map_cons, bools?, ih]; rfl
theorem run_tup {N g k : Nat} {C : E} {B : T → Bool} {x : T} (hg : gv[g]? = some (.int (k : Int))) (hk : k < 60) (hB : ∀ t, B t = true → ∃ c, t = .str c) (hC : ∀ ts, x = .tup ts → ts.length ≤ k → ev (cf (N + 1)) gv C [some (.t x)] m = .ok (.t (.lst ((ts.map B).map .bl))) m) :
    ex (cf (N + 1)) gv (.ife (.or (.not (.isi (.var 0) .tuple)) (.cmp .Gt (.blt .len (.cons (.var 0) .nil)) (.gl g))) (.ret (.con (.bl false)) .done) .done (.ret (.and (.blt .all (.cons C .nil)) (.call 3 (.cons (.var 0) .nil))) .done)) [some (.t x)] m = .ok (.ret (.t (.bl (okB B k x)))) m := by
  cases x with
  | tup ts =>
    have h0 : ev (cf (N + 1)) gv (.or (.not (.isi (.var 0) .tuple)) (.cmp .Gt (.blt .len (.cons (.var 0) .nil)) (.gl g))) [some (.t (.tup ts))] m = .ok (.t (.bl (decide ((k : Int) < (ts.length : Int))))) m := (ev_orF (ev_not (ev_isi (k := true) (ev_var rfl) rfl))).trans (ev_cmp (ev_blt1 (ev_var rfl) (l_tup ts)) (ev_gl hg) (c_gt _ _))
    rw [show okB B k (.tup ts) = (decide (ts.length ≤ k) && (ts.all B && ndB ts)) from rfl]
    by_cases hl : ts.length ≤ k
    · rw [decide_eq_false (show ¬ (k : Int) < (ts.length : Int) by omega)] at h0
      rw [decide_eq_true hl, Bool.true_and]
      refine (ex_ifF h0).trans (ex_ret ?_)
      have h1 : ev (cf (N + 1)) gv (.blt .all (.cons C .nil)) [some (.t (.tup ts))] m = .ok (.t (.bl (ts.all B))) m := ev_blt1 (hC ts rfl hl) (by
        show (bools? ((ts.map B).map T.bl)).map _ = _
        rw [bools_id]
        show some (T.bl ((ts.map B).all id)) = _
        rw [List.all_map]
        rfl)
      cases q : ts.all B with
      | false =>
        rw [q] at h1
        exact ev_andF h1
      | true =>
        rw [q] at h1
        obtain ⟨ws, rfl⟩ := strs_of hB q
        rw [List.length_map] at hl
        refine (ev_andT h1).trans ?_
        unfold ndB
        rw [strs_id]
        exact (ev_call1 (ev_var rfl)).trans (unlike_ok (by omega))
    · rw [decide_eq_true (show (k : Int) < (ts.length : Int) by omega)] at h0
      rw [decide_eq_false hl, Bool.false_and]
      exact ex_ifR h0 (ex_ret (ev_con _))
  | _ => exact ex_ifR (ev_orT (ev_not (k := false) (ev_isi (ev_var rfl) rfl))) (ex_ret (ev_con _))
theorem map_bl {N : Nat} {C a : E} {B : T → Bool} {ts : List T} (hC : C = .comp 1 [] (.var 0) (.nm 0) .nil (.emit a)) (hl : ts.length ≤ 100) (ha : ∀ t ∈ ts, ev (cf N) gv a [some (.t t)] m = .ok (.t (.bl (B t))) m) : ev (cf N) gv C [some (.t (.tup ts))] m = .ok (.t (.lst ((ts.map B).map .bl))) m := by
  subst hC
  have h := loopC_pure (f := turnD (cf N) gv .nil (.emit a)) (tg := .nm 0) (env := [none]) (m := m) (g := fun t => [T.bl (B t)]) ts (fun t ht => ⟨[some (.t t)], rfl, turn0 (ev_emit (ha t ht))⟩)
  rw [flatMap_one] at h
  rw [List.map_map]
  exact comp_done (x := .t (.tup ts)) (m0 := m) (m1 := m) (ev_var rfl) rfl h (by rw [List.length_map]; unfold lim; omega)
theorem rule_is {x : T} : cf (n + 3) 4 [.t x] m = .ok (.t (.bl (okB oneB 3 x))) m :=
  fn_ret (cf_is_rule _ _ _) rfl (run_tup (N := n + 1) (k := 3) (B := oneB) rfl (by decide) (fun t h => by cases t <;> first | exact ⟨_, rfl⟩ | cases h) fun ts e hl => by
    subst e
    exact map_bl rfl (by omega) fun t _ => (ev_call2 (ev_var rfl) (ev_gl rfl)).trans one_ok) (ret_fin (cell := false) rfl)
noncomputable def fitA : T → Bool
  | .tup ts => ts.all fitT
  | _ => true
theorem borne_is {x : T} (hf : fitA x = true) : cf (n + 3) 5 [.t x] m = .ok (.t (.bl (okB wdB 4 x))) m :=
  fn_ret (cf_are_borne _ _ _) rfl (run_tup (N := n + 1) (k := 4) (B := wdB) rfl (by decide) (fun t h => by cases t <;> first | exact ⟨_, rfl⟩ | cases h) fun ts e hl => by
    subst e
    exact map_bl rfl (by omega) fun t ht => (ev_call1 (ev_var rfl)).trans (wd_ok (List.all_eq_true.mp hf t ht))) (ret_fin (cell := false) rfl)
theorem law_is_ok {a fi : Nat} {x : T} {b : Bool} (hf : lookF gv a [(6, 4), (7, 5)] = some fi) (hc : cf (n + 3) fi [.t x] m = .ok (.t (.bl b)) m) : cf (n + 4) 14 [.f a, .t x, .t (.bl b)] m = .ok (.t (.bl true)) m := by
  have turn : ∀ e3 e4 : Option W, ex (cf (n + 3)) gv l__law_is_0 [some (.f a), some (.t x), some (.t (.bl b)), e3, e4] m = .ok (.next [some (.f a), some (.t x), some (.t (.bl b)), e3, some (.t (.bl b))]) m := fun e3 e4 => by
    unfold l__law_is_0
    have h1 : ev (cf (n + 3)) gv (.callV 0 [(6, 4), (7, 5)] (.cons (.var 1) .nil)) [some (.f a), some (.t x), some (.t (.bl b)), e3, e4] m = .ok (.t (.bl b)) m := by
      rw [ev]
      show (match lookF gv a [(6, 4), (7, 5)] with
        | some k => (evs (cf (n + 3)) gv (.cons (.var 1) .nil) [some (.f a), some (.t x), some (.t (.bl b)), e3, e4] m).bind fun ws m => cf (n + 3) k ws m
        | none => .stuck) = _
      rw [hf]
      show (evs (cf (n + 3)) gv (.cons (.var 1) .nil) [some (.f a), some (.t x), some (.t (.bl b)), e3, e4] m).bind _ = _
      rw [evs_c (ev_var rfl) evs_n]
      exact hc
    refine (ex_asg h1).trans ?_
    dsimp only [List.set_cons_succ, List.set_cons_zero]
    exact (ex_ifF ((ev_orF (ev_not (ev_isi (k := true) (ev_var rfl) rfl))).trans (ev_cmp (ev_var rfl) (ev_var rfl) (by rw [c_neB, beq_self_eq_true]; rfl)))).trans ex_done
  have key : ex (cf (n + 3)) gv b__law_is [some (.f a), some (.t x), some (.t (.bl b)), none, none] m = .ok (.ret (.t (.bl true))) m := by
    unfold b__law_is
    have hloop : loopS (ex (cf (n + 3)) gv l__law_is_0) (.nm 3) [.int 0, .int 1] [some (.f a), some (.t x), some (.t (.bl b)), none, none] m = .ok (.next [some (.f a), some (.t x), some (.t (.bl b)), some (.t (.int 1)), some (.t (.bl b))]) m := by
      rw [loopS]
      show (ex (cf (n + 3)) gv l__law_is_0 [some (.f a), some (.t x), some (.t (.bl b)), some (.t (.int 0)), none] m).bind _ = _
      rw [turn, bind_k]
      dsimp only
      rw [loopS]
      show (ex (cf (n + 3)) gv l__law_is_0 [some (.f a), some (.t x), some (.t (.bl b)), some (.t (.int 1)), some (.t (.bl b))] m).bind _ = _
      rw [turn]
      rfl
    exact (for_next (ev_blt1 (ev_con _) (l_rng (i := 2) (by decide))) rfl hloop).trans (ex_ret (ev_con _))
  exact fn_ret (cf__law_is _ _ _) rfl key (ret_fin (cell := false) rfl)
theorem is_rule_f {x : T} {b : Bool} (hb : okB oneB 3 x = b) : cf (n + 4) 14 [.f 47, .t x, .t (.bl b)] m = .ok (.t (.bl true)) m := law_is_ok rfl (by rw [← hb]; exact rule_is)
theorem borne_f {x : T} {b : Bool} (hf : fitA x = true) (hb : okB wdB 4 x = b) : cf (n + 4) 14 [.f 52, .t x, .t (.bl b)] m = .ok (.t (.bl true)) m := law_is_ok rfl (by rw [← hb]; exact borne_is hf)
end
section
variable {B : T → Bool} {k : Nat}
theorem ok_kind {x : T} (h : isT x .tuple = false) : okB B k x = false := by
  cases x <;> first | rfl | cases h
theorem ok_long {ts : List T} (h : k < ts.length) : okB B k (.tup ts) = false := by
  rw [show okB B k (.tup ts) = (decide (ts.length ≤ k) && (ts.all B && ndB ts)) from rfl, decide_eq_false (by omega), Bool.false_and]
theorem ok_odd {ts : List T} {t : T} (ht : t ∈ ts) (hb : B t = false) : okB B k (.tup ts) = false := by
  have : ts.all B = false := by
    rw [List.all_eq_false]
    exact ⟨t, ht, by rw [hb]; exact Bool.false_ne_true⟩
  rw [show okB B k (.tup ts) = (decide (ts.length ≤ k) && (ts.all B && ndB ts)) from rfl, this, Bool.false_and, Bool.and_false]
theorem ok_dup {ws : List (List Nat)} (h : ¬ ws.Nodup) : okB B k (.tup (ws.map .str)) = false := by
  rw [show okB B k (.tup (ws.map .str)) = (decide ((ws.map T.str).length ≤ k) && ((ws.map T.str).all B && ndB (ws.map T.str))) from rfl]
  unfold ndB
  rw [strs_id]
  dsimp only
  rw [decide_eq_false h, Bool.and_false, Bool.and_false]
theorem ok_yes {ws : List (List Nat)} (hl : ws.length ≤ k) (hb : ∀ w ∈ ws, B (.str w) = true) (hn : ws.Nodup) : okB B k (.tup (ws.map .str)) = true := by
  rw [show okB B k (.tup (ws.map .str)) = (decide ((ws.map T.str).length ≤ k) && ((ws.map T.str).all B && ndB (ws.map T.str))) from rfl]
  have h1 : (ws.map T.str).all B = true := by
    rw [List.all_eq_true]
    intro t ht
    obtain ⟨w, hw, rfl⟩ := List.mem_map.mp ht
    exact hb w hw
  unfold ndB
  rw [strs_id, h1, List.length_map, decide_eq_true hl]
  dsimp only
  rw [decide_eq_true hn]
  rfl
end
noncomputable def okS (cs : List Nat) : Bool := PySem.PyData.strOk ⟨cs.toArray⟩
theorem okS_word {cs : List Nat} (h : wordB cs = true) : okS cs = true := by
  unfold wordB at h
  simp only [Bool.and_eq_true] at h
  have h := h.2
  unfold okS PySem.PyData.strOk
  simp only [List.all_toArray, List.all_eq_true, decide_eq_true_eq] at h ⊢
  intro c hc
  have := h c hc
  have hb : ∀ c ∈ lett, c < 1114112 := by decide
  exact hb c this
theorem len_word {cs : List Nat} (h : wordB cs = true) : fitT (.str cs) = true := by
  unfold wordB at h
  simp only [Bool.and_eq_true, decide_eq_true_eq] at h
  exact decide_eq_true (by have := h.1.1.2; unfold lim; omega)
noncomputable def odds : List T := [.str [], .str [72, 101, 97, 118, 121], .str [104, 101, 97, 118, 121, 32], .non, .int 1, .bl true, .lst [.str [103, 114, 101, 97, 116]], .tup [.str [115, 111, 111, 110]], .str [97, 110, 121], .str [110, 111, 116], .str [98, 121], .str [111, 114], .str [115, 111, 111, 110, 115, 111, 111, 110, 115]]
noncomputable def fiveL : List T := [.str [104, 101, 97, 118, 121], .str [103, 114, 101, 97, 116], .str [115, 109, 97, 108, 108], .str [115, 111, 111, 110], .str [114, 121, 101]]
theorem cut_mem {α : Type} {xs : List α} {lo hi : Option Int} {x : α} (h : x ∈ cut xs lo hi) : x ∈ xs := by
  unfold cut at h
  exact List.mem_of_mem_drop (List.mem_of_mem_take h)
theorem cut_len {α : Type} (xs : List α) (lo hi : Option Int) : (cut xs lo hi).length ≤ xs.length := by
  unfold cut
  rw [List.length_take, List.length_drop]
  omega
theorem deep_strs {ws : List (List Nat)} (h : ∀ w ∈ ws, okS w = true) (n : Nat) : deepTs n (ws.map T.str) = true := by
  induction ws with
  | nil => rfl
  | cons w ws ih =>
    have h1 := h w (by simp)
    unfold okS at h1
    rw [List.map_cons, deepTs, ih fun x hx => h x (by simp [hx]), deepT, h1]
    rfl
theorem ne_unit {ws : List (List Nat)} (h : ∀ w ∈ ws, okS w = true) : cmpT .NotEq (.tup (ws.map T.str)) (.tup []) = some (!ws.isEmpty) := by
  have h1 : deepT 60 (.tup (ws.map T.str)) = true := deep_strs h 59
  have h2 : deepT 60 (.tup []) = true := by decide
  show (if (scalT (.tup (ws.map T.str)) (.tup []) || (deepT 60 (.tup (ws.map T.str)) && deepT 60 (.tup []))) = true then some (!eqT (.tup (ws.map T.str)) (.tup [])) else none) = _
  rw [h1, h2, Bool.true_and, Bool.or_true, if_pos rfl]
  cases ws <;> simp [eqT, eqTs]
theorem eq_nils {ws : List (List Nat)} (h : ∀ w ∈ ws, okS w = true) : cmpT .Eq (.lst (ws.map T.str)) (.lst []) = some ws.isEmpty := by
  have h1 : deepT 60 (.lst (ws.map T.str)) = true := deep_strs h 59
  have h2 : deepT 60 (.lst []) = true := by decide
  show (if (scalT (.lst (ws.map T.str)) (.lst []) || (deepT 60 (.lst (ws.map T.str)) && deepT 60 (.lst []))) = true then some (eqT (.lst (ws.map T.str)) (.lst [])) else none) = _
  rw [h1, h2, Bool.true_and, Bool.or_true, if_pos rfl]
  cases ws <;> simp [eqT, eqTs]
theorem others_ok {B : T → Bool} {k : Nat} {n : Nat} {m : Mem} {i : Nat} {s : List T} {ws : List (List Nat)} (hk : k = 3 ∨ k = 4) (hodd : ∀ o ∈ odds, B o = false) (hB : ∀ t, isT t .str = false → B t = false) (hi : i < m.length) (hs : IsSt s) (hl : ws.length ≤ 4) (hw : ∀ w ∈ ws, wordB w = true) :
    ∃ (x : T) (s' : List T), cf (n + 3) 13 [.c i, .t (.tup (ws.map .str)), .t (.int (k : Int))] (put m i s) = .ok (.t x) (put m i s') ∧ IsSt s' ∧ okB B k x = false ∧ fitA x = true := by
  have hG : (ws.map T.str).length = ws.length := List.length_map ..
  have hfit : ∀ t ∈ ws.map T.str, fitT t = true := fun t ht => by
    obtain ⟨w, hw', rfl⟩ := List.mem_map.mp ht
    exact len_word (hw w hw')
  have hok : ∀ w ∈ ws, okS w = true := fun w h => okS_word (hw w h)
  generalize hGG : ws.map T.str = G at hG hfit
  obtain ⟨at', s1, g1, hs1, a0, a1⟩ := draw_ok (n := n + 1) (many := (G.length : Int) + 1) hi hs (by omega) (by omega)
  obtain ⟨odd, s2, g2, hs2, ho⟩ := pick_ok (n := n) (xs := odds) hi hs1 (by decide) (by decide)
  have oB := hodd odd ho
  have ofit : fitT odd = true := by
    have : odds.all fitT = true := by decide +kernel
    exact List.all_eq_true.mp this odd ho
  have c1 := cut_len G none (some at')
  have c2 := cut_len G (some at') none
  have c3 := cut_len G (some (at' + 1)) none
  have ha1 := b_addT (a := cut G none (some at')) (b := [odd]) (by simp [lim]; omega)
  have ha2 := b_addT (a := cut G none (some at') ++ [odd]) (b := cut G (some at') none) (by simp [lim]; omega)
  have ha3 := b_addT (a := cut G none (some at') ++ [odd]) (b := cut G (some (at' + 1)) none) (by simp [lim]; omega)
  have fitI : ∀ (lo : Option Int), (cut G none (some at') ++ [odd] ++ cut G lo none).all fitT = true := fun lo => by
    rw [List.all_eq_true]
    intro t ht
    rcases List.mem_append.mp ht with ht | ht
    · rcases List.mem_append.mp ht with ht | ht
      · exact hfit t (cut_mem ht)
      · rw [List.mem_singleton.mp ht]; exact ofit
    · exact hfit t (cut_mem ht)
  have bad : ∀ x ∈ [T.lst G, .non, .str [104, 101, 97, 118, 121], .str [], .int 7, .bl true, .dct [] [], .tup (cut G none (some at') ++ [odd] ++ cut G (some at') none), .tup [.tup G]], okB B k x = false ∧ fitA x = true := by
    intro x hx
    simp only [List.mem_cons, List.not_mem_nil, or_false] at hx
    rcases hx with rfl | rfl | rfl | rfl | rfl | rfl | rfl | rfl | rfl
    · exact ⟨ok_kind rfl, rfl⟩
    · exact ⟨ok_kind rfl, rfl⟩
    · exact ⟨ok_kind rfl, rfl⟩
    · exact ⟨ok_kind rfl, rfl⟩
    · exact ⟨ok_kind rfl, rfl⟩
    · exact ⟨ok_kind rfl, rfl⟩
    · exact ⟨ok_kind rfl, rfl⟩
    · exact ⟨ok_odd (t := odd) (by simp) oB, fitI _⟩
    · exact ⟨ok_odd (t := .tup G) (by simp) (hB _ rfl), rfl⟩
  have bad5 : okB B k (.tup (cut fiveL none (some ((k : Int) + 1)))) = false ∧ fitA (.tup (cut fiveL none (some ((k : Int) + 1)))) = true := by
    rcases hk with rfl | rfl
    · exact ⟨ok_long (by decide), by decide +kernel⟩
    · exact ⟨ok_long (by decide), by decide +kernel⟩
  have hd : ∀ env (m : Mem), ev (cf (n + 2)) gv (.dsp .nil .nil) env m = .ok (.t (.dct [] [])) m := fun env m => by rw [ev, evs]; rfl
  have tail : ∀ (L : List T) (e3 e4 : Option W), (∀ x ∈ L, okB B k x = false ∧ fitA x = true) → 0 < L.length → L.length < 100 →
      ∃ (x : T) (s' : List T), ex (cf (n + 2)) gv (.ret (.call 9 (.cons (.var 0) (.cons (.bin .Add (.var 5) (.lst (.cons (.slc (.tup (.cons (.con (.str [104, 101, 97, 118, 121])) (.cons (.con (.str [103, 114, 101, 97, 116])) (.cons (.con (.str [115, 109, 97, 108, 108])) (.cons (.con (.str [115, 111, 111, 110])) (.cons (.con (.str [114, 121, 101])) .nil)))))) .hole (.bin .Add (.var 2) (.con (.int 1)))) .nil))) .nil))) .done) [some (.c i), some (.t (.tup G)), some (.t (.int (k : Int))), e3, e4, some (.t (.lst L))] (put m i s2) = .ok (.ret (.t x)) (put m i s') ∧ IsSt s' ∧ okB B k x = false ∧ fitA x = true := fun L e3 e4 hL h0 h1 => by
    obtain ⟨x, s3, g3, hs3, hx⟩ := pick_ok (n := n) (xs := L ++ [.tup (cut fiveL none (some ((k : Int) + 1)))]) hi hs2 (by simp) (by simp; omega)
    refine ⟨x, s3, ?_, hs3, ?_⟩
    · have hadd := b_addL (a := L) (b := [T.tup (cut fiveL none (some ((k : Int) + 1)))]) (by simp [lim]; omega)
      refine ex_ret ((ev_call2 (ev_var rfl) (ev_bin (ev_var rfl) (ev_lst (evs_c (ev_slox (ev_tup (evs_c (ev_con _) (evs_c (ev_con _) (evs_c (ev_con _) (evs_c (ev_con _) (evs_c (ev_con _) evs_n))))) rfl le_lim) (ev_bin (ev_var rfl) (ev_con _) (b_add _ _)) rfl) evs_n) rfl le_lim) hadd)).trans g3)
    · rcases List.mem_append.mp hx with hx | hx
      · exact hL x hx
      · rw [List.mem_singleton.mp hx]; exact bad5
  have key : ∃ (x : T) (s' : List T), ex (cf (n + 2)) gv b__law_others [some (.c i), some (.t (.tup G)), some (.t (.int (k : Int))), none, none, none] (put m i s) = .ok (.ret (.t x)) (put m i s') ∧ IsSt s' ∧ okB B k x = false ∧ fitA x = true := by
    have hlen := l_tup G
    have st1 : ev (cf (n + 2)) gv (.cmp .NotEq (.var 1) (.tup .nil)) [some (.c i), some (.t (.tup G)), some (.t (.int (k : Int))), some (.t (.int at')), some (.t odd), some (.t (.lst [T.lst G, .non, .str [104, 101, 97, 118, 121], .str [], .int 7, .bl true, .dct [] [], .tup (cut G none (some at') ++ [odd] ++ cut G (some at') none), .tup [.tup G]]))] (put m i s2) = .ok (.t (.bl (!ws.isEmpty))) (put m i s2) := ev_cmp (ev_var rfl) (ev_tup evs_n rfl le_lim) (by rw [← hGG]; exact ne_unit hok)
    have pre : ∀ r : Res Flow, ex (cf (n + 2)) gv (.ife (.cmp .NotEq (.var 1) (.tup .nil)) (.asg 5 (.bin .Add (.var 5) (.lst (.cons (.bin .Add (.var 1) (.slc (.var 1) .hole (.con (.int 1)))) (.cons (.bin .Add (.bin .Add (.slc (.var 1) .hole (.var 3)) (.tup (.cons (.var 4) .nil))) (.slc (.var 1) (.bin .Add (.var 3) (.con (.int 1))) .hole)) (.cons (.ix (.var 1) (.con (.int 0))) .nil))))) .done) .done (.ret (.call 9 (.cons (.var 0) (.cons (.bin .Add (.var 5) (.lst (.cons (.slc (.tup (.cons (.con (.str [104, 101, 97, 118, 121])) (.cons (.con (.str [103, 114, 101, 97, 116])) (.cons (.con (.str [115, 109, 97, 108, 108])) (.cons (.con (.str [115, 111, 111, 110])) (.cons (.con (.str [114, 121, 101])) .nil)))))) .hole (.bin .Add (.var 2) (.con (.int 1)))) .nil))) .nil))) .done)) [some (.c i), some (.t (.tup G)), some (.t (.int (k : Int))), some (.t (.int at')), some (.t odd), some (.t (.lst [T.lst G, .non, .str [104, 101, 97, 118, 121], .str [], .int 7, .bl true, .dct [] [], .tup (cut G none (some at') ++ [odd] ++ cut G (some at') none), .tup [.tup G]]))] (put m i s2) = r → ex (cf (n + 2)) gv b__law_others [some (.c i), some (.t (.tup G)), some (.t (.int (k : Int))), none, none, none] (put m i s) = r := fun r hr => by
      unfold b__law_others
      refine (ex_asg (w := .t (.int at')) (m1 := put m i s1) ((ev_call (evs_c (ev_var rfl) (evs_c (ev_bin (ev_blt (evs_c (ev_var rfl) evs_n) rfl rfl) (ev_con _) rfl) evs_n))).trans g1)).trans ?_
      dsimp only [List.set_cons_succ, List.set_cons_zero]
      refine (ex_asg (w := .t (.lst odds)) (m1 := put m i s1) (ev_lst (evs_c (ev_con _) (evs_c (ev_con _) (evs_c (ev_con _) (evs_c (ev_con _) (evs_c (ev_con _) (evs_c (ev_con _) (evs_c (ev_lst (evs_c (ev_con _) evs_n) rfl le_lim) (evs_c (ev_tup (evs_c (ev_con _) evs_n) rfl le_lim) (evs_c (ev_con _) (evs_c (ev_con _) (evs_c (ev_con _) (evs_c (ev_con _) (evs_c (ev_con _) evs_n))))))))))))) rfl le_lim)).trans ?_
      dsimp only [List.set_cons_succ, List.set_cons_zero]
      refine (ex_asg (w := .t odd) (m1 := put m i s2) ((ev_call (evs_c (ev_var rfl) (evs_c (ev_var rfl) evs_n))).trans g2)).trans ?_
      dsimp only [List.set_cons_succ, List.set_cons_zero]
      refine (ex_asg (w := .t (.lst [T.lst G, .non, .str [104, 101, 97, 118, 121], .str [], .int 7, .bl true, .dct [] [], .tup (cut G none (some at') ++ [odd] ++ cut G (some at') none), .tup [.tup G]])) (m1 := put m i s2) (ev_lst (evs_c (ev_blt (evs_c (ev_var rfl) evs_n) rfl rfl) (evs_c (ev_con _) (evs_c (ev_con _) (evs_c (ev_con _) (evs_c (ev_con _) (evs_c (ev_con _) (evs_c (hd _ _) (evs_c (ev_bin (ev_bin (ev_slox (ev_var rfl) (ev_var rfl) rfl) (ev_tup (evs_c (ev_var rfl) evs_n) rfl le_lim) ha1) (ev_slxo (ev_var rfl) (ev_var rfl) rfl) ha2) (evs_c (ev_tup (evs_c (ev_var rfl) evs_n) rfl le_lim) evs_n))))))))) rfl le_lim)).trans ?_
      dsimp only [List.set_cons_succ, List.set_cons_zero]
      exact hr
    cases ws with
    | nil =>
      obtain ⟨x, s3, h3, hs3, hx⟩ := tail _ (some (.t (.int at'))) (some (.t odd)) bad (by simp) (by simp)
      exact ⟨x, s3, pre _ ((ex_ifF st1).trans h3), hs3, hx⟩
    | cons w r =>
      have hG1 : G = .str w :: r.map T.str := by rw [← hGG]; rfl
      have hc1 : cut G none (some 1) = [.str w] := by
        rw [hG1]
        unfold cut cutIx
        simp
      have ha4 := b_addT (a := G) (b := cut G none (some 1)) (by rw [hc1]; simp [lim]; omega)
      have hat : ixT (.tup G) (.int 0) = some (.str w) := by rw [hG1]; exact at0 _ _
      have dup : okB B k (.tup (G ++ cut G none (some 1))) = false := by
        rw [hc1, ← hGG]
        have : ((w :: r).map T.str ++ [.str w] : List T) = ((w :: r) ++ [w]).map T.str := by simp
        rw [this]
        exact ok_dup (by simp [List.nodup_cons])
      have hall : ∀ x ∈ [T.lst G, .non, .str [104, 101, 97, 118, 121], .str [], .int 7, .bl true, .dct [] [], .tup (cut G none (some at') ++ [odd] ++ cut G (some at') none), .tup [.tup G]] ++ [T.tup (G ++ cut G none (some 1)), .tup (cut G none (some at') ++ [odd] ++ cut G (some (at' + 1)) none), .str w], okB B k x = false ∧ fitA x = true := by
        intro x hx
        rcases List.mem_append.mp hx with hx | hx
        · exact bad x hx
        · simp only [List.mem_cons, List.not_mem_nil, or_false] at hx
          rcases hx with rfl | rfl | rfl
          · refine ⟨dup, ?_⟩
            show (G ++ cut G none (some 1)).all fitT = true
            rw [List.all_eq_true]
            intro t ht
            rcases List.mem_append.mp ht with ht | ht
            · exact hfit t ht
            · exact hfit t (cut_mem ht)
          · exact ⟨ok_odd (t := odd) (by simp) oB, fitI _⟩
          · exact ⟨ok_kind rfl, rfl⟩
      obtain ⟨x, s3, h3, hs3, hx⟩ := tail _ (some (.t (.int at'))) (some (.t odd)) hall (by simp) (by simp)
      refine ⟨x, s3, pre _ ((ex_ifA st1 ?_).trans h3), hs3, hx⟩
      have hadd := b_addL (a := [T.lst G, .non, .str [104, 101, 97, 118, 121], .str [], .int 7, .bl true, .dct [] [], .tup (cut G none (some at') ++ [odd] ++ cut G (some at') none), .tup [.tup G]]) (b := [T.tup (G ++ cut G none (some 1)), .tup (cut G none (some at') ++ [odd] ++ cut G (some (at' + 1)) none), .str w]) (by simp [lim])
      have hx : ev (cf (n + 2)) gv (.bin .Add (.var 5) (.lst (.cons (.bin .Add (.var 1) (.slc (.var 1) .hole (.con (.int 1)))) (.cons (.bin .Add (.bin .Add (.slc (.var 1) .hole (.var 3)) (.tup (.cons (.var 4) .nil))) (.slc (.var 1) (.bin .Add (.var 3) (.con (.int 1))) .hole)) (.cons (.ix (.var 1) (.con (.int 0))) .nil))))) [some (.c i), some (.t (.tup G)), some (.t (.int (k : Int))), some (.t (.int at')), some (.t odd), some (.t (.lst [T.lst G, .non, .str [104, 101, 97, 118, 121], .str [], .int 7, .bl true, .dct [] [], .tup (cut G none (some at') ++ [odd] ++ cut G (some at') none), .tup [.tup G]]))] (put m i s2) = .ok (.t (.lst ([T.lst G, .non, .str [104, 101, 97, 118, 121], .str [], .int 7, .bl true, .dct [] [], .tup (cut G none (some at') ++ [odd] ++ cut G (some at') none), .tup [.tup G]] ++ [T.tup (G ++ cut G none (some 1)), .tup (cut G none (some at') ++ [odd] ++ cut G (some (at' + 1)) none), .str w]))) (put m i s2) :=
        ev_bin (ev_var rfl) (ev_lst (evs_c (ev_bin (ev_var rfl) (ev_slox (ev_var rfl) (ev_con _) rfl) ha4) (evs_c (ev_bin (ev_bin (ev_slox (ev_var rfl) (ev_var rfl) rfl) (ev_tup (evs_c (ev_var rfl) evs_n) rfl le_lim) ha1) (ev_slxo (ev_var rfl) (ev_bin (ev_var rfl) (ev_con _) (b_add _ _)) rfl) ha3) (evs_c (ev_ix (ev_var rfl) (ev_con _) hat) evs_n))) rfl le_lim) hadd
      exact (ex_asg hx).trans ex_done
  obtain ⟨x, s', e, hs', hx⟩ := key
  refine ⟨x, s', ?_, hs', hx⟩
  exact fn_ret (cf__law_others _ _ _) rfl e (ret_fin (cell := false) (by rw [put_len, put_len]))
theorem nd_sub {α : Type} [BEq α] [LawfulBEq α] : ∀ (ws L : List α), ws.Nodup → (∀ x ∈ ws, x ∈ L) → ws.length ≤ L.length
  | [], _, _, _ => Nat.zero_le _
  | w :: ws, L, hn, h => by
    obtain ⟨h1, h2⟩ := List.nodup_cons.mp hn
    have hw := h w (by simp)
    have := nd_sub ws (L.erase w) h2 fun x hx => (List.mem_erase_of_ne (show x ≠ w from fun e => h1 (by rw [← e]; exact hx))).mpr (h x (by simp [hx]))
    rw [List.length_erase_of_mem hw] at this
    have : 0 < L.length := List.length_pos_of_mem hw
    rw [List.length_cons]
    omega
theorem erase_map {α β : Type} (f : α → β) : ∀ (A : List α) (k : Nat), (A.map f).eraseIdx k = (A.eraseIdx k).map f
  | [], _ => rfl
  | _ :: _, 0 => rfl
  | a :: A, k + 1 => by
    show f a :: (A.map f).eraseIdx k = f a :: (A.eraseIdx k).map f
    rw [erase_map f A k]
theorem perm_erase {α : Type} : ∀ {A : List α} {k : Nat} {w : α}, A[k]? = some w → A.Perm (w :: A.eraseIdx k)
  | [], _, _, h => by simp at h
  | a :: A, 0, w, h => by
    have : a = w := by simpa using h
    subst this
    exact List.Perm.refl _
  | a :: A, k + 1, w, h => by
    have h' : A[k]? = some w := by simpa using h
    exact ((perm_erase h').cons a).trans (List.Perm.swap w a _)
structure MI (m : Mem) (i c1 c2 : Nat) (A F : List (List Nat)) (M : Mem) : Prop where
  tk : M.take m.length = m
  i : i < m.length
  l1 : m.length ≤ c1
  l2 : m.length ≤ c2
  ne : c1 ≠ c2
  g1 : M[c1]? = some (some (false, A.map .str))
  g2 : M[c2]? = some (some (false, F.map .str))
theorem MI.at1 {m : Mem} {i c1 c2 : Nat} {A F : List (List Nat)} {M : Mem} (h : MI m i c1 c2 A F M) (s : List T) : (put M i s)[c1]? = some (some (false, A.map .str)) := by
  unfold put
  rw [List.getElem?_set_ne (by have := h.i; have := h.l1; omega)]
  exact h.g1
theorem MI.at2 {m : Mem} {i c1 c2 : Nat} {A F : List (List Nat)} {M : Mem} (h : MI m i c1 c2 A F M) (s : List T) : (put M i s)[c2]? = some (some (false, F.map .str)) := by
  unfold put
  rw [List.getElem?_set_ne (by have := h.i; have := h.l2; omega)]
  exact h.g2
theorem MI.hi {m : Mem} {i c1 c2 : Nat} {A F : List (List Nat)} {M : Mem} (h : MI m i c1 c2 A F M) : i < M.length := by
  have h1 := h.i
  have h2 := congrArg List.length h.tk
  rw [List.length_take] at h2
  omega
theorem MI.fin {m : Mem} {i c1 c2 : Nat} {A F : List (List Nat)} {M : Mem} (h : MI m i c1 c2 A F M) (s : List T) : (put M i s).take m.length = put m i s := by
  unfold put
  rw [List.take_set, h.tk]
theorem pop_ok {n : Nat} {m : Mem} {i c1 c2 f : Nat} {A F : List (List Nat)} {M : Mem} {s : List T} {env : Env} (h : MI m i c1 c2 A F M) (hs : IsSt s) (hA : 0 < A.length) (hA' : A.length < 100) (hF : F.length < 100) (e0 : env[0]? = some (some (.c i))) (e1 : env[1]? = some (some (.c c1))) (ef : env[f]? = some (some (.c c2))) :
    ∃ (w : List Nat) (k : Nat) (s' : List T) (M' : Mem), ev (cf (n + 1)) gv (.mth .append (.var f) (.cons (.mth .popat (.var 1) (.cons (.call 8 (.cons (.var 0) (.cons (.blt .len (.cons (.var 1) .nil)) .nil))) .nil)) .nil)) env (put M i s) = .ok (.t .non) (put M' i s') ∧ IsSt s' ∧ A[k]? = some w ∧ MI m i c1 c2 (A.eraseIdx k) (F ++ [w]) M' := by
  obtain ⟨r, s1, g, hs1, r0, r1⟩ := draw_ok (n := n) (many := (A.length : Int)) h.hi hs (by omega) (by omega)
  have hr : r.toNat < A.length := by omega
  have hw := List.getElem?_eq_getElem hr
  generalize A[r.toNat] = w at hw
  have i1 : i ≠ c1 := by have := h.i; have := h.l1; omega
  have i2 : i ≠ c2 := by have := h.i; have := h.l2; omega
  have b1 : c1 < M.length := (List.getElem?_eq_some_iff.mp h.g1).1
  have b2 : c2 < M.length := (List.getElem?_eq_some_iff.mp h.g2).1
  refine ⟨w, r.toNat, s1, (M.set c1 (some (false, (A.eraseIdx r.toNat).map .str))).set c2 (some (false, (F ++ [w]).map .str)), ?_, hs1, hw, ⟨?_, h.i, h.l1, h.l2, h.ne, ?_, ?_⟩⟩
  · have hlen : ev (cf (n + 1)) gv (.blt .len (.cons (.var 1) .nil)) env (put M i s) = .ok (.t (.int (A.length : Int))) (put M i s) := by
      have hv : views [W.c c1] (put M i s) = some [.lst (A.map T.str)] := by
        show (view (.c c1) (put M i s)).bind _ = _
        unfold view
        dsimp only
        rw [h.at1 s]
        rfl
      refine ev_blt (evs_c (ev_var e1) evs_n) hv ?_
      rw [l_lst, List.length_map]
    have hD : ev (cf (n + 1)) gv (.call 8 (.cons (.var 0) (.cons (.blt .len (.cons (.var 1) .nil)) .nil))) env (put M i s) = .ok (.t (.int r)) (put M i s1) := (ev_call2 (ev_var e0) hlen).trans g
    have t1 : tyM .popat (.c c1) (put M i s) = true := by
      show (match (put M i s)[c1]? with
        | some (some _) => true
        | _ => false) = true
      rw [h.at1 s]
    have t2 : tyM .append (.c c2) (put M i s) = true := by
      show (match (put M i s)[c2]? with
        | some (some _) => true
        | _ => false) = true
      rw [h.at2 s]
    have mp : mutM .popat (A.map T.str) [.int r] = some (.str w, (A.eraseIdx r.toNat).map T.str) := by
      show (match ixOf (A.map T.str).length r with
        | some k => ((A.map T.str)[k]?).map fun t => (t, (A.map T.str).eraseIdx k)
        | none => none) = _
      have : ixOf (A.map T.str).length r = some r.toNat := by
        unfold ixOf
        rw [if_pos r0, List.length_map, if_pos r1]
      rw [this]
      dsimp only
      rw [List.getElem?_map, hw, erase_map]
      rfl
    have hP : ev (cf (n + 1)) gv (.mth .popat (.var 1) (.cons (.call 8 (.cons (.var 0) (.cons (.blt .len (.cons (.var 1) .nil)) .nil))) .nil)) env (put M i s) = .ok (.t (.str w)) ((put M i s1).set c1 (some (false, (A.eraseIdx r.toNat).map T.str))) := by
      rw [ev, ev_var e1, bind_k, if_pos t1, evs_c hD evs_n, bind_k]
      show doM .popat (.c c1) [.t (.int r)] (put M i s1) = _
      simp [doM, frzs_c, frzs_k, bind_k, h.at1 s1, mp]
    rw [ev, ev_var ef, bind_k, if_pos t2, evs_c hP evs_n, bind_k]
    have h2 : ((put M i s1).set c1 (some (false, (A.eraseIdx r.toNat).map T.str)))[c2]? = some (some (false, F.map T.str)) := by
      rw [List.getElem?_set_ne h.ne]
      exact h.at2 s1
    have ma : mutM .append (F.map T.str) [.str w] = some (.non, F.map T.str ++ [.str w]) := if_pos (by rw [List.length_map]; unfold lim; omega)
    show doM .append (.c c2) [.t (.str w)] _ = _
    simp only [doM, frzs_c, frzs_k, bind_k, h2, ma]
    unfold put
    rw [List.map_append, List.set_comm _ _ i1, List.set_comm _ _ i2]
    rfl
  · rw [List.take_set_of_le h.l2, List.take_set_of_le h.l1]
    exact h.tk
  · rw [List.getElem?_set_ne h.ne.symm, List.getElem?_set_self b1]
  · rw [List.getElem?_set_self (by rw [List.length_set]; exact b2)]
theorem pops_ok {n : Nat} {m : Mem} {i c1 c2 f v : Nat} {body : S} (hb : body = .expr (.mth .append (.var f) (.cons (.mth .popat (.var 1) (.cons (.call 8 (.cons (.var 0) (.cons (.blt .len (.cons (.var 1) .nil)) .nil))) .nil)) .nil)) .done) (hv0 : v ≠ 0) (hv1 : v ≠ 1) (hvf : v ≠ f) : ∀ (ts : List T) (A F : List (List Nat)) (M : Mem) (s : List T) (env : Env), MI m i c1 c2 A F M → IsSt s → ts.length ≤ A.length → A.length < 50 → F.length + ts.length < 50 → env[0]? = some (some (.c i)) → env[1]? = some (some (.c c1)) → env[f]? = some (some (.c c2)) →
    ∃ (A' F' : List (List Nat)) (M' : Mem) (s' : List T) (env' : Env), loopS (ex (cf (n + 1)) gv body) (.nm v) ts env (put M i s) = .ok (.next env') (put M' i s') ∧ IsSt s' ∧ MI m i c1 c2 A' F' M' ∧ (A' ++ F').Perm (A ++ F) ∧ F'.length = F.length + ts.length ∧ env'[f]? = some (some (.c c2))
  | [], A, F, M, s, env, h, hs, _, _, _, _, _, ef => ⟨A, F, M, s, env, rfl, hs, h, List.Perm.refl _, rfl, ef⟩
  | t :: ts, A, F, M, s, env, h, hs, hl, hA, hF, e0, e1, ef => by
    rw [List.length_cons] at hl hF
    have q0 : (env.set v (some (.t t)))[0]? = some (some (.c i)) := by rw [List.getElem?_set_ne hv0]; exact e0
    have q1 : (env.set v (some (.t t)))[1]? = some (some (.c c1)) := by rw [List.getElem?_set_ne hv1]; exact e1
    have qf : (env.set v (some (.t t)))[f]? = some (some (.c c2)) := by rw [List.getElem?_set_ne hvf]; exact ef
    obtain ⟨w, k, s1, M1, g, hs1, hw, h1⟩ := pop_ok (n := n) h hs (by omega) (by omega) (by omega) q0 q1 qf
    have hk := (List.getElem?_eq_some_iff.mp hw).1
    have hlen : (A.eraseIdx k).length = A.length - 1 := List.length_eraseIdx_of_lt hk
    obtain ⟨A', F', M', s', env', g2, hs2, h2, hp, hf, he⟩ := pops_ok hb hv0 hv1 hvf ts (A.eraseIdx k) (F ++ [w]) M1 s1 _ h1 hs1 (by omega) (by omega) (by rw [List.length_append, List.length_singleton]; omega) q0 q1 qf
    refine ⟨A', F', M', s', env', ?_, hs2, h2, hp.trans ?_, by rw [hf, List.length_append, List.length_singleton, List.length_cons]; omega, he⟩
    · rw [loopS]
      show (ex (cf (n + 1)) gv body (env.set v (some (.t t))) (put M i s)).bind _ = _
      have : ex (cf (n + 1)) gv body (env.set v (some (.t t))) (put M i s) = .ok (.next (env.set v (some (.t t)))) (put M1 i s1) := by
        rw [hb]
        exact (ex_expr g).trans ex_done
      rw [this]
      exact g2
    · have h3 := perm_erase hw
      have h4 : (A.eraseIdx k ++ (F ++ [w])).Perm (w :: (A.eraseIdx k ++ F)) := by
        rw [← List.append_assoc]
        exact List.perm_append_comm
      exact h4.trans (h3.symm.append_right F)
theorem tup_cell {n : Nat} {f c : Nat} {env : Env} {m : Mem} {xs : List T} (ef : env[f]? = some (some (.c c))) (hc : m[c]? = some (some (false, xs))) : ev (cf n) gv (.blt .tuple (.cons (.var f) .nil)) env m = .ok (.t (.tup xs)) m := by
  have hv : views [W.c c] m = some [.lst xs] := by
    show (view (.c c) m).bind _ = _
    unfold view
    dsimp only
    rw [hc]
    rfl
  exact ev_blt (evs_c (ev_var ef) evs_n) hv (l_tupl _)
theorem rule_ok {n : Nat} {m : Mem} {i : Nat} {s : List T} (hi : i < m.length) (hs : IsSt s) : ∃ (ws : List (List Nat)) (s' : List T), cf (n + 2) 10 [.c i] (put m i s) = .ok (.t (.tup (ws.map .str))) (put m i s') ∧ IsSt s' ∧ ws.Nodup ∧ ws.length ≤ 3 ∧ ∀ w ∈ ws, w ∈ four := by
  have hM : MI m i m.length (m.length + 1) four [] (m ++ [some (false, four.map .str), some (false, [])]) := by
    refine ⟨List.take_left' rfl, hi, Nat.le_refl _, Nat.le_succ _, by omega, ?_, ?_⟩
    · rw [List.getElem?_append_right (Nat.le_refl _), Nat.sub_self]; rfl
    · rw [List.getElem?_append_right (by omega), Nat.add_sub_cancel_left]; rfl
  generalize hMM : m ++ [some (false, four.map T.str), some (false, [])] = M at hM
  obtain ⟨r, s1, g1, hs1, r0, r1⟩ := draw_ok (n := n) (many := 5) hM.hi hs (by decide) (by decide)
  obtain ⟨z, hz, hzm⟩ := atT_mem (xs := [T.int 0, .int 1, .int 1, .int 2, .int 3]) r0 (by simpa using r1)
  have hz' : ∃ v : Nat, z = .int (v : Int) ∧ v ≤ 3 := by
    simp only [List.mem_cons, List.not_mem_nil, or_false] at hzm
    rcases hzm with rfl | rfl | rfl | rfl | rfl
    · exact ⟨0, rfl, by decide⟩
    · exact ⟨1, rfl, by decide⟩
    · exact ⟨1, rfl, by decide⟩
    · exact ⟨2, rfl, by decide⟩
    · exact ⟨3, rfl, by decide⟩
  obtain ⟨v, rfl, hv⟩ := hz'
  have hrl : (rangeT 0 v).length = v := by simp [rangeT]
  obtain ⟨A', F', M', s2, env', g2, hs2, h2, hp, hf, he⟩ := pops_ok (n := n) (f := 2) (v := 3) (body := l__law_rule_0) rfl (by decide) (by decide) (by decide) (rangeT 0 v) four [] M s1 [some (.c i), some (.c m.length), some (.c (m.length + 1)), none] hM hs1 (by rw [hrl]; show v ≤ 4; omega) (by decide) (by rw [hrl]; simp; omega) rfl rfl rfl
  rw [List.append_nil] at hp
  refine ⟨F', s2, ?_, hs2, ?_, by rw [hf, hrl]; simpa using hv, fun w hw => hp.mem_iff.mp (List.mem_append_right _ hw)⟩
  · have key : ex (cf (n + 1)) gv b__law_rule [some (.c i), none, none, none] (put m i s) = .ok (.ret (.t (.tup (F'.map .str)))) (put M' i s2) := by
      unfold b__law_rule
      have p1 : put M i s = put m i s ++ [some (false, four.map .str), some (false, [])] := by
        rw [← hMM]
        unfold put
        rw [List.set_append_left _ _ hi]
      have w1 : ev (cf (n + 1)) gv (.cel (.cons (.con (.str [104, 101, 97, 118, 121])) (.cons (.con (.str [103, 114, 101, 97, 116])) (.cons (.con (.str [115, 109, 97, 108, 108])) (.cons (.con (.str [115, 111, 111, 110])) .nil))))) [some (.c i), none, none, none] (put m i s) = .ok (.c m.length) (put m i s ++ [some (false, four.map .str)]) := by
        rw [ev, evs_c (ev_con _) (evs_c (ev_con _) (evs_c (ev_con _) (evs_c (ev_con _) evs_n)))]
        show Res.ok (W.c (put m i s).length) _ = _
        rw [put_len]
        rfl
      have w2 : ev (cf (n + 1)) gv (.cel .nil) [some (.c i), some (.c m.length), none, none] (put m i s ++ [some (false, four.map .str)]) = .ok (.c (m.length + 1)) (put M i s) := by
        rw [ev, evs_n]
        show Res.ok (W.c (put m i s ++ [some (false, four.map T.str)]).length) _ = _
        rw [List.length_append, put_len, p1, List.append_assoc]
        rfl
      refine (ex_asg w1).trans ?_
      dsimp only [List.set_cons_succ, List.set_cons_zero]
      refine (ex_asg w2).trans ?_
      dsimp only [List.set_cons_succ, List.set_cons_zero]
      have hr := l_rng (i := (v : Int)) (by omega)
      rw [Int.toNat_natCast] at hr
      refine (for_next (ev_blt1 (ev_ix (ev_lst (evs_c (ev_con _) (evs_c (ev_con _) (evs_c (ev_con _) (evs_c (ev_con _) (evs_c (ev_con _) evs_n))))) rfl le_lim) ((ev_call2 (ev_var rfl) (ev_con _)).trans g1) hz) hr) rfl g2).trans ?_
      exact ex_ret (tup_cell he (h2.at2 s2))
    refine fn_ret (cf__law_rule _ _ _) rfl key ?_
    show Res.ok _ ((put M' i s2).take (put m i s).length) = _
    rw [put_len, h2.fin]
  · have := hp.nodup_iff.mpr (show four.Nodup by decide)
    exact (List.nodup_append.mp this).2.1
noncomputable def ten : List (List Nat) := [[114, 121, 101], [111, 97, 116], [111], [97, 110, 121, 97], [122, 122, 122, 122, 122, 122, 122, 122], [105, 115, 108, 97, 110, 100], [104, 101, 97, 118, 121], [115, 111, 111, 110], [110, 111, 116, 101, 115], [114, 121]]
theorem mulL1 (x : T) (b : Bool) : binT .Mult (.lst [x]) (.int (b2i b)) = some (.lst (if b then [x] else [])) := by cases b <;> rfl
theorem kinds_ok {n : Nat} {m : Mem} {i : Nat} {s : List T} (hi : i < m.length) (hs : IsSt s) : ∃ (ws : List (List Nat)) (d : List Nat) (s' : List T), cf (n + 3) 12 [.c i] (put m i s) = .ok (.t (.tup (ws.map .str))) (put m i s') ∧ IsSt s' ∧ ws.Nodup ∧ ws.length ≤ 4 ∧ (∀ w ∈ ws, wordB w = true) ∧ ∀ w ∈ ws, w ∈ ten ∨ w = d := by
  have hi1 : i < (m ++ [some (false, ten.map T.str)]).length := by rw [List.length_append]; omega
  obtain ⟨d, s0, g0, hs0, hd⟩ := any_word_ok (n := n) hi1 hs
  have hB : ∃ B : List (List Nat), (if (!(ten.any fun a => a == d)) = true then [T.str d] else []) = B.map .str ∧ (ten ++ B).Nodup ∧ B.length ≤ 1 ∧ ∀ w ∈ B, w = d := by
    cases q : ten.any fun a => a == d with
    | true => exact ⟨[], rfl, by decide, by decide, fun w h => by cases h⟩
    | false =>
      refine ⟨[d], rfl, ?_, Nat.le_refl _, fun w h => List.mem_singleton.mp h⟩
      rw [List.nodup_append]
      refine ⟨by decide, by simp, fun a ha b hb => ?_⟩
      rw [List.mem_singleton.mp hb]
      intro e
      have := List.any_eq_false.mp q a ha
      rw [e] at this
      simp at this
  obtain ⟨B, eB, nB, lB, mB⟩ := hB
  have hM : MI m i (m.length + 1) (m.length + 2) (ten ++ B) [] (m ++ [some (false, ten.map T.str), some (false, (ten ++ B).map .str), some (false, [])]) := by
    refine ⟨List.take_left' rfl, hi, Nat.le_succ _, by omega, by omega, ?_, ?_⟩
    · rw [List.getElem?_append_right (by omega), Nat.add_sub_cancel_left]; rfl
    · rw [List.getElem?_append_right (by omega), Nat.add_sub_cancel_left]; rfl
  generalize hMM : m ++ [some (false, ten.map T.str), some (false, (ten ++ B).map T.str), some (false, [])] = M at hM
  obtain ⟨r, s1, g1, hs1, r0, r1⟩ := draw_ok (n := n + 1) (many := 5) hM.hi hs0 (by decide) (by decide)
  have hrl : (rangeT 0 r.toNat).length = r.toNat := by simp [rangeT]
  have hlt : (ten ++ B).length = 10 + B.length := by rw [List.length_append]; rfl
  obtain ⟨A', F', M', s2, env', g2, hs2, h2, hp, hf, he⟩ := pops_ok (n := n + 1) (f := 3) (v := 4) (body := l__law_kinds_0) rfl (by decide) (by decide) (by decide) (rangeT 0 r.toNat) (ten ++ B) [] M s1 [some (.c i), some (.c (m.length + 1)), some (.t (.str d)), some (.c (m.length + 2)), none] hM hs1 (by rw [hrl, hlt]; omega) (by rw [hlt]; omega) (by rw [hrl]; simp; omega) rfl rfl rfl
  rw [List.append_nil] at hp
  have hmem : ∀ w ∈ F', w ∈ ten ∨ w = d := fun w hw => by
    rcases List.mem_append.mp (hp.mem_iff.mp (List.mem_append_right _ hw)) with h | h
    · exact .inl h
    · exact .inr (mB w h)
  refine ⟨F', d, s2, ?_, hs2, (List.nodup_append.mp (hp.nodup_iff.mpr nB)).2.1, by rw [hf, hrl]; simp; omega, fun w hw => ?_, hmem⟩
  · have key : ex (cf (n + 2)) gv b__law_kinds [some (.c i), none, none, none, none] (put m i s) = .ok (.ret (.t (.tup (F'.map .str)))) (put M' i s2) := by
      unfold b__law_kinds
      have pm : ∀ s, put (m ++ [some (false, ten.map T.str)]) i s = put m i s ++ [some (false, ten.map .str)] := fun s => by
        unfold put
        rw [List.set_append_left _ _ hi]
      have pM : put M i s0 = put m i s0 ++ [some (false, ten.map T.str), some (false, (ten ++ B).map T.str), some (false, [])] := by
        rw [← hMM]
        unfold put
        rw [List.set_append_left _ _ hi]
      have w1 : ev (cf (n + 2)) gv (.cel (.cons (.con (.str [114, 121, 101])) (.cons (.con (.str [111, 97, 116])) (.cons (.con (.str [111])) (.cons (.con (.str [97, 110, 121, 97])) (.cons (.con (.str [122, 122, 122, 122, 122, 122, 122, 122])) (.cons (.con (.str [105, 115, 108, 97, 110, 100])) (.cons (.con (.str [104, 101, 97, 118, 121])) (.cons (.con (.str [115, 111, 111, 110])) (.cons (.con (.str [110, 111, 116, 101, 115])) (.cons (.con (.str [114, 121])) .nil))))))))))) [some (.c i), none, none, none, none] (put m i s) = .ok (.c m.length) (put (m ++ [some (false, ten.map T.str)]) i s) := by
        rw [ev, evs_c (ev_con _) (evs_c (ev_con _) (evs_c (ev_con _) (evs_c (ev_con _) (evs_c (ev_con _) (evs_c (ev_con _) (evs_c (ev_con _) (evs_c (ev_con _) (evs_c (ev_con _) (evs_c (ev_con _) evs_n)))))))))]
        show Res.ok (W.c (put m i s).length) _ = _
        rw [put_len, pm]
        rfl
      have hc1 : (put (m ++ [some (false, ten.map T.str)]) i s0)[m.length]? = some (some (false, ten.map T.str)) := by
        rw [pm, List.getElem?_append_right (by rw [put_len]; exact Nat.le_refl _), put_len, Nat.sub_self]
        rfl
      have hview : view (.c m.length) (put (m ++ [some (false, ten.map T.str)]) i s0) = some (.lst (ten.map T.str)) := by
        unfold view
        dsimp only
        rw [hc1]
      have w3a : ev (cf (n + 2)) gv (.cmp .NotIn (.var 2) (.var 1)) [some (.c i), some (.c m.length), some (.t (.str d)), none, none] (put (m ++ [some (false, ten.map T.str)]) i s0) = .ok (.t (.bl (!(ten.any fun a => a == d)))) (put (m ++ [some (false, ten.map T.str)]) i s0) := by
        rw [ev, ev_var rfl, bind_k, ev_var rfl, bind_k]
        show pur ((((view (.t (.str d)) (put (m ++ [some (false, ten.map T.str)]) i s0)).bind fun x => (view (.c m.length) (put (m ++ [some (false, ten.map T.str)]) i s0)).bind fun y => cmpT .NotIn x y)).map T.bl) _ = _
        rw [hview, view_k]
        show pur ((cmpT .NotIn (.str d) (.lst (ten.map T.str))).map T.bl) _ = _
        have : cmpT .NotIn (.str d) (.lst (ten.map T.str)) = some (!(ten.any fun a => a == d)) := by
          have h := in_list d ten
          have h : inT (.str d) (.lst (ten.map T.str)) = some (ten.any fun a => a == d) := h
          show (inT (.str d) (.lst (ten.map T.str))).map (!·) = _
          rw [h]
          rfl
        rw [this]
        rfl
      have w3 : ev (cf (n + 2)) gv (.celA (.var 1) (.bin .Mult (.lst (.cons (.var 2) .nil)) (.blt .int (.cons (.cmp .NotIn (.var 2) (.var 1)) .nil)))) [some (.c i), some (.c m.length), some (.t (.str d)), none, none] (put (m ++ [some (false, ten.map T.str)]) i s0) = .ok (.c (m.length + 1)) (put (m ++ [some (false, ten.map T.str)]) i s0 ++ [some (false, (ten ++ B).map T.str)]) := by
        have hy := ev_bin (op := .Mult) (call := cf (n + 2)) (gv := gv) (env := [some (.c i), some (.c m.length), some (.t (.str d)), none, none]) (a := .lst (.cons (.var 2) .nil)) (m := put (m ++ [some (false, ten.map T.str)]) i s0) (ev_lst (evs_c (ev_var rfl) evs_n) rfl le_lim) (ev_blt1 w3a (l_int _)) (mulL1 _ _)
        rw [ev, ev_var rfl, bind_k, hy, bind_k, eB]
        unfold addC
        rw [hview, view_k]
        show (match addT (.lst (ten.map T.str)) (.lst (B.map T.str)) with
          | some (.lst ts) => Res.ok (W.c (put (m ++ [some (false, ten.map T.str)]) i s0).length) (put (m ++ [some (false, ten.map T.str)]) i s0 ++ [some (false, ts)])
          | _ => .stuck) = _
        have : addT (.lst (ten.map T.str)) (.lst (B.map T.str)) = some (.lst (ten.map T.str ++ B.map T.str)) := b_addL (by rw [List.length_map, List.length_map]; show 10 + B.length ≤ lim; unfold lim; omega)
        rw [this]
        dsimp only
        rw [put_len, List.length_append, List.map_append]
        rfl
      have w4 : ev (cf (n + 2)) gv (.cel .nil) [some (.c i), some (.c (m.length + 1)), some (.t (.str d)), none, none] (put (m ++ [some (false, ten.map T.str)]) i s0 ++ [some (false, (ten ++ B).map T.str)]) = .ok (.c (m.length + 2)) (put M i s0) := by
        rw [ev, evs_n]
        show Res.ok (W.c (put (m ++ [some (false, ten.map T.str)]) i s0 ++ [some (false, (ten ++ B).map T.str)]).length) _ = _
        rw [List.length_append, put_len, List.length_append, pM, pm, List.append_assoc, List.append_assoc]
        rfl
      refine (ex_asg w1).trans ?_
      dsimp only [List.set_cons_succ, List.set_cons_zero]
      refine (ex_asg ((ev_call1 (ev_var rfl)).trans g0)).trans ?_
      dsimp only [List.set_cons_succ, List.set_cons_zero]
      refine (ex_asg w3).trans ?_
      dsimp only [List.set_cons_succ, List.set_cons_zero]
      refine (ex_asg w4).trans ?_
      dsimp only [List.set_cons_succ, List.set_cons_zero]
      refine (for_next (ev_blt1 ((ev_call2 (ev_var rfl) (ev_con _)).trans g1) (l_rng (show r < 2 ^ 62 ∧ -(2 ^ 62) ≤ r by omega))) rfl g2).trans ?_
      exact ex_ret (tup_cell he (h2.at2 s2))
    refine fn_ret (cf__law_kinds _ _ _) rfl key ?_
    show Res.ok _ ((put M' i s2).take (put m i s).length) = _
    rw [put_len, h2.fin]
  · rcases hmem w hw with h | h
    · have : ∀ w ∈ ten, wordB w = true := by decide
      exact this w h
    · rw [h]; exact hd
theorem strange_ok {n : Nat} {m : Mem} {ws : List (List Nat)} {env : Env} (h4 : env[4]? = some (some (.t (.tup (ws.map .str))))) (hl : ws.length ≤ 100) : ev (cf n) gv c_law_0 env m = .ok (.t (.lst ((ws.filter fun w => !(four.any fun a => a == w)).map .str))) m := by
  have h : loopC (turnD (cf n) gv (.cons (.cmp .NotIn (.var 0) (.tup (.cons (.con (.str [104, 101, 97, 118, 121])) (.cons (.con (.str [103, 114, 101, 97, 116])) (.cons (.con (.str [115, 109, 97, 108, 108])) (.cons (.con (.str [115, 111, 111, 110])) .nil)))))) .nil) i_law_0) (.nm 0) (ws.map T.str) [none] m = .ok ((ws.filter fun w => !(four.any fun a => a == w)).map .str) m := by
    clear h4 hl
    induction ws with
    | nil => rfl
    | cons w ws ih =>
      have hc : ev (cf n) gv (.cmp .NotIn (.var 0) (.tup (.cons (.con (.str [104, 101, 97, 118, 121])) (.cons (.con (.str [103, 114, 101, 97, 116])) (.cons (.con (.str [115, 109, 97, 108, 108])) (.cons (.con (.str [115, 111, 111, 110])) .nil)))))) [some (.t (.str w))] m = .ok (.t (.bl (!(four.any fun a => a == w)))) m := by
        refine ev_cmp (y := .tup (four.map .str)) (ev_var rfl) (ev_tup (evs_c (ev_con _) (evs_c (ev_con _) (evs_c (ev_con _) (evs_c (ev_con _) evs_n)))) rfl le_lim) ?_
        have h : inT (.str w) (.tup (four.map T.str)) = some (four.any fun a => a == w) := in_words w four
        show (inT (.str w) (.tup (four.map T.str))).map (!·) = _
        rw [h]
        rfl
      rw [List.map_cons, loopC]
      show (turnD (cf n) gv _ _ [some (.t (.str w))] m).bind _ = _
      rw [List.filter_cons]
      cases q : (!(four.any fun a => a == w)) with
      | true =>
        rw [q] at hc
        rw [turn1T hc (show ev (cf n) gv i_law_0 _ _ = _ from ev_emit (ev_var rfl)), bind_k, ih]
        rfl
      | false =>
        rw [q] at hc
        rw [turn1F hc, bind_k, ih]
        rfl
  exact comp_done (x := .t (.tup (ws.map T.str))) (m0 := m) (m1 := m) (ev_var h4) rfl h (by rw [List.length_map]; have := List.length_filter_le (fun w => !(four.any fun a => a == w)) ws; unfold lim; omega)
theorem four_mem {w : List Nat} : (four.any fun a => a == w) = true ↔ w ∈ four := by
  rw [List.any_eq_true]
  constructor
  · rintro ⟨a, ha, h⟩
    rw [← eq_of_beq h]; exact ha
  · intro h
    exact ⟨w, h, by simp⟩
theorem rule_kinds {ws : List (List Nat)} {d : List Nat} (hn : ws.Nodup) (hl : ws.length ≤ 4) (hm : ∀ w ∈ ws, w ∈ ten ∨ w = d) : okB oneB 3 (.tup (ws.map .str)) = (ws.filter fun w => !(four.any fun a => a == w)).isEmpty := by
  cases q : (ws.filter fun w => !(four.any fun a => a == w)).isEmpty with
  | true =>
    have q := List.filter_eq_nil_iff.mp (List.isEmpty_iff.mp q)
    have h4 : ∀ w ∈ ws, w ∈ four := fun w hw => by
      have := q w hw
      exact four_mem.mp (by simpa using this)
    refine ok_yes ?_ (fun w hw => four_mem.mpr (h4 w hw)) hn
    have : ∀ w ∈ ws, w ∈ [[104, 101, 97, 118, 121], [115, 111, 111, 110], d] := fun w hw => by
      rcases hm w hw with h | h
      · have h5 : ∀ w ∈ ten, w ∈ four → w = [104, 101, 97, 118, 121] ∨ w = [115, 111, 111, 110] := by decide
        rcases h5 w h (h4 w hw) with rfl | rfl <;> simp
      · rw [h]; simp
    exact nd_sub ws _ hn this
  | false =>
    have : ∃ w ∈ ws, (four.any fun a => a == w) = false := by
      apply Classical.byContradiction
      intro z
      have : (ws.filter fun w => !(four.any fun a => a == w)) = [] := List.filter_eq_nil_iff.mpr fun w hw h => z ⟨w, hw, by simpa using h⟩
      rw [this] at q
      cases q
    obtain ⟨w, hw, h⟩ := this
    exact ok_odd (t := .str w) (List.mem_map.mpr ⟨w, hw, rfl⟩) h
theorem fitA_words {ws : List (List Nat)} (h : ∀ w ∈ ws, wordB w = true) : fitA (.tup (ws.map .str)) = true := by
  show (ws.map T.str).all fitT = true
  rw [List.all_eq_true]
  intro t ht
  obtain ⟨w, hw, rfl⟩ := List.mem_map.mp ht
  exact len_word (h w hw)
theorem ev_fnv {call : Nat → List W → Mem → Res W} {env : Env} {m : Mem} {j : Nat} {a : Int} (h : gv[j]? = some (.int a)) : ev call gv (.fnv j) env m = .ok (.f a.toNat) m := by
  rw [ev, h]
theorem law_turn {n : Nat} {ns : List Int} {x : Int} {m : Mem} {e2 e3 e4 e5 : Option W} : ∃ m' f2 f3 f4 f5, ex (cf (n + 10)) gv l_law_0 [some (.t (.scr ns)), some (.t (.int x)), e2, e3, e4, e5] m = .ok (.next [some (.t (.scr ns)), some (.t (.int x)), f2, f3, f4, f5]) m' := by
  obtain ⟨s0, g0, hs0⟩ := tape_ok (n := n + 9) (m := m) (x := x)
  have hi : m.length < (m ++ [none]).length := by simp
  generalize hM : m ++ [none] = M at g0 hi
  generalize hI : m.length = i at g0 hi
  obtain ⟨rs, s1, g1, hs1, rn, rl, rm⟩ := rule_ok (n := n + 8) hi hs0
  obtain ⟨ws, d, s2, g2, hs2, wn, wl, ww, wm⟩ := kinds_ok (n := n + 7) hi hs1
  have rw' : ∀ w ∈ rs, wordB w = true := fun w hw => by
    have : ∀ w ∈ four, wordB w = true := by decide
    exact this w (rm w hw)
  have o1 : ∀ o ∈ odds, oneB o = false := by decide +kernel
  have o2 : ∀ o ∈ odds, wdB o = false := by decide +kernel
  obtain ⟨x1, s3, g3, hs3, b3, _⟩ := others_ok (B := oneB) (k := 3) (n := n + 7) (.inl rfl) o1 (fun t h => by cases t <;> first | rfl | cases h) hi hs2 (by omega) rw'
  obtain ⟨x2, s4, g4, hs4, b4, f4⟩ := others_ok (B := wdB) (k := 4) (n := n + 7) (.inr rfl) o2 (fun t h => by cases t <;> first | rfl | cases h) hi hs3 wl ww
  have y1 : okB oneB 3 (.tup (rs.map .str)) = true := ok_yes rl (fun w hw => four_mem.mpr (rm w hw)) rn
  have y2 : okB wdB 4 (.tup (ws.map .str)) = true := ok_yes wl ww wn
  have y3 : okB wdB 4 (.tup (rs.map .str)) = true := ok_yes (by omega) rw' rn
  have y4 := rule_kinds wn wl wm
  have okw : ∀ w ∈ ws.filter (fun w => !(four.any fun a => a == w)), okS w = true := fun w hw => okS_word (ww w (List.mem_filter.mp hw).1)
  have f6 : ∀ env (m : Mem), ev (cf (n + 10)) gv (.fnv 6) env m = .ok (.f 47) m := fun env m => ev_fnv (a := ((47 : Nat) : Int)) rfl
  have f7 : ∀ env (m : Mem), ev (cf (n + 10)) gv (.fnv 7) env m = .ok (.f 52) m := fun env m => ev_fnv (a := ((52 : Nat) : Int)) rfl
  refine ⟨put M i s4, some (.c i), some (.t (.tup (rs.map .str))), some (.t (.tup (ws.map .str))), some (.t (.lst ((ws.filter fun w => !(four.any fun a => a == w)).map .str))), ?_⟩
  unfold l_law_0
  refine (ex_asg ((ev_call1 (ev_var rfl)).trans g0)).trans ?_
  dsimp only [List.set_cons_succ, List.set_cons_zero]
  refine (ex_asg ((ev_call1 (ev_var rfl)).trans g1)).trans ?_
  dsimp only [List.set_cons_succ, List.set_cons_zero]
  refine (ex_asg ((ev_call1 (ev_var rfl)).trans g2)).trans ?_
  dsimp only [List.set_cons_succ, List.set_cons_zero]
  refine (ex_ifF ((ev_orF (ev_not (k := true) ((ev_call3 (f6 _ _) (ev_var rfl) (ev_con _)).trans (is_rule_f (n := n + 6) y1)))).trans (ev_not (k := true) ((ev_call3 (f7 _ _) (ev_var rfl) (ev_con _)).trans (borne_f (n := n + 6) (fitA_words ww) y2))))).trans ?_
  refine (ex_ifF (ev_not (k := true) ((ev_call3 (f7 _ _) (ev_var rfl) (ev_con _)).trans (borne_f (n := n + 6) (fitA_words rw') y3)))).trans ?_
  refine (ex_asg (strange_ok rfl (by omega))).trans ?_
  dsimp only [List.set_cons_succ, List.set_cons_zero]
  refine (ex_ifF (ev_not (k := true) ((ev_call3 (f6 _ _) (ev_var rfl) (ev_cmp (ev_var rfl) (ev_lst evs_n rfl le_lim) (eq_nils okw))).trans (is_rule_f (n := n + 6) y4)))).trans ?_
  refine (ex_ifF (ev_not (k := true) ((ev_call3 (f6 _ _) ((ev_call3 (ev_var rfl) (ev_var rfl) (ev_con _)).trans g3) (ev_con _)).trans (is_rule_f (n := n + 6) b3)))).trans ?_
  exact (ex_ifF (ev_not (k := true) ((ev_call3 (f7 _ _) ((ev_call3 (ev_var rfl) (ev_var rfl) (ev_con _)).trans g4) (ev_con _)).trans (borne_f (n := n + 6) f4 b4)))).trans ex_done
theorem law_true (ns : List Int) (hl : ns.length ≤ 63) : ∃ m, callF fns gv 41 15 [.t (.scr ns)] [] = .ok (.t (.bl true)) m := by
  obtain ⟨v, hv⟩ := cell_ok (n := 39) (m := []) (ns := ns)
  obtain ⟨env1, m1, e1, a1, a2, a3, a4, a5, rfl⟩ := loopS_next (f := ex (cf 40) gv l_law_0) (tg := .nm 1) (P := fun env m => ∃ a b c d e, env = [some (.t (.scr ns)), a, b, c, d, e]) (.int v :: (cut ns (some 1) (some 12)).map .int) [some (.t (.scr ns)), none, none, none, none, none] [] ⟨_, _, _, _, _, rfl⟩ (by
    rintro t ht env m ⟨a, b, c, d, e, rfl⟩
    have : ∃ x : Int, t = .int x := by
      rcases List.mem_cons.mp ht with rfl | ht
      · exact ⟨v, rfl⟩
      · obtain ⟨x, _, rfl⟩ := List.mem_map.mp ht
        exact ⟨x, rfl⟩
    obtain ⟨x, rfl⟩ := this
    obtain ⟨m', f2, f3, f4, f5, h1⟩ := law_turn (n := 30) (ns := ns) (x := x) (m := m) (e2 := b) (e3 := c) (e4 := d) (e5 := e)
    exact ⟨_, _, m', rfl, h1, _, _, _, _, _, rfl⟩)
  refine ⟨[], ?_⟩
  have key : ex (cf 40) gv b_law [some (.t (.scr ns)), none, none, none, none, none] [] = .ok (.ret (.t (.bl true))) m1 := by
    unfold b_law
    have hcl := cut_len ns (some 1) (some 12)
    have hit : ev (cf 40) gv (.bin .Add (.lst (.cons (.call 6 (.cons (.var 0) (.cons (.con (.int 0)) .nil))) .nil)) (.slc (.var 0) (.con (.int 1)) (.con (.int 12)))) [some (.t (.scr ns)), none, none, none, none, none] [] = .ok (.t (.lst (.int v :: (cut ns (some 1) (some 12)).map .int))) [] := by
      simp [ev, evs, isT, isHole, EVs, hv, lim]
      rw [b_addL (by simp [lim]; omega)]
      rfl
    refine (for_next hit rfl e1).trans ?_
    have u1 : cf 40 14 [.f 47, .t (.tup []), .t (.bl true)] m1 = .ok (.t (.bl true)) m1 := is_rule_f (n := 36) rfl
    have u2 : cf 40 14 [.f 52, .t (.tup []), .t (.bl true)] m1 = .ok (.t (.bl true)) m1 := borne_f (n := 36) rfl rfl
    have f6 : ∀ env (m : Mem), ev (cf 40) gv (.fnv 6) env m = .ok (.f 47) m := fun env m => ev_fnv (a := ((47 : Nat) : Int)) rfl
    have f7 : ∀ env (m : Mem), ev (cf 40) gv (.fnv 7) env m = .ok (.f 52) m := fun env m => ev_fnv (a := ((52 : Nat) : Int)) rfl
    exact ex_ret ((ev_andT ((ev_call3 (f6 _ _) (ev_tup evs_n rfl le_lim) (ev_con _)).trans u1)).trans ((ev_call3 (f7 _ _) (ev_tup evs_n rfl le_lim) (ev_con _)).trans u2))
  show cf 41 15 [.t (.scr ns)] [] = _
  rw [cf_law]
  simp [key, bind_k, fin]
end My
end
section
set_option linter.all false
set_option maxRecDepth 100000
set_option maxHeartbeats 1000000
namespace My
open PySem PySem.Spec PyProof.Rows L2 Mi
noncomputable def top (i : Nat) : Stmt := PySem.Challenge.pw_matepoint_k41_rules_and_kinds_borne.main.body.getD i (.Pass ⟨0, 0, 0, 0⟩)
noncomputable abbrev s_is_long_word : Stmt := top 4
noncomputable abbrev s_is_word : Stmt := top 5
noncomputable abbrev s_is_one_of : Stmt := top 7
noncomputable abbrev s_are_unlike : Stmt := top 12
noncomputable abbrev s_is_rule : Stmt := top 13
noncomputable abbrev s_are_borne : Stmt := top 14
noncomputable abbrev s__law_cell_at : Stmt := top 16
noncomputable abbrev s__law_tape : Stmt := top 17
noncomputable abbrev s__law_draw : Stmt := top 18
noncomputable abbrev s__law_pick : Stmt := top 19
noncomputable abbrev s__law_rule : Stmt := top 20
noncomputable abbrev s__law_any_word : Stmt := top 21
noncomputable abbrev s__law_kinds : Stmt := top 22
noncomputable abbrev s__law_others : Stmt := top 23
noncomputable abbrev s__law_is : Stmt := top 24
noncomputable abbrev s_law : Stmt := top 25
theorem sc_is_long_word : FnScope ["text"] ["text"] (defScope s_is_long_word) := ⟨rfl, rfl, rfl, by decide +kernel, rfl, by decide +kernel, by decide +kernel⟩
theorem sc_is_word : FnScope ["thing"] ["thing"] (defScope s_is_word) := ⟨rfl, rfl, rfl, by decide +kernel, rfl, by decide +kernel, by decide +kernel⟩
theorem sc_is_one_of : FnScope ["thing", "texts"] ["thing", "texts"] (defScope s_is_one_of) := ⟨rfl, rfl, rfl, by decide +kernel, rfl, by decide +kernel, by decide +kernel⟩
theorem sc_are_unlike : FnScope ["words"] ["words"] (defScope s_are_unlike) := ⟨rfl, rfl, rfl, by decide +kernel, rfl, by decide +kernel, by decide +kernel⟩
theorem sc_is_rule : FnScope ["thing"] ["thing"] (defScope s_is_rule) := ⟨rfl, rfl, rfl, by decide +kernel, rfl, by decide +kernel, by decide +kernel⟩
theorem sc_are_borne : FnScope ["thing"] ["thing"] (defScope s_are_borne) := ⟨rfl, rfl, rfl, by decide +kernel, rfl, by decide +kernel, by decide +kernel⟩
theorem sc__law_cell_at : FnScope ["_law_script", "_law_k"] ["_law_script", "_law_k"] (defScope s__law_cell_at) := ⟨rfl, rfl, rfl, by decide +kernel, rfl, by decide +kernel, by decide +kernel⟩
theorem sc__law_tape : FnScope ["_law_cell"] ["_law_cell"] (defScope s__law_tape) := ⟨rfl, rfl, rfl, by decide +kernel, rfl, by decide +kernel, by decide +kernel⟩
theorem sc__law_draw : FnScope ["_law_tape_here", "_law_many", "_law_found", "_law_number"] ["_law_tape_here", "_law_many"] (defScope s__law_draw) := ⟨rfl, rfl, rfl, by decide +kernel, rfl, by decide +kernel, by decide +kernel⟩
theorem sc__law_pick : FnScope ["_law_tape_here", "_law_some"] ["_law_tape_here", "_law_some"] (defScope s__law_pick) := ⟨rfl, rfl, rfl, by decide +kernel, rfl, by decide +kernel, by decide +kernel⟩
theorem sc__law_rule : FnScope ["_law_tape_here", "_law_words", "_law_found", "_law_k"] ["_law_tape_here"] (defScope s__law_rule) := ⟨rfl, rfl, rfl, by decide +kernel, rfl, by decide +kernel, by decide +kernel⟩
theorem sc__law_any_word : FnScope ["_law_tape_here", "_law_found"] ["_law_tape_here"] (defScope s__law_any_word) := ⟨rfl, rfl, rfl, by decide +kernel, rfl, by decide +kernel, by decide +kernel⟩
theorem sc__law_kinds : FnScope ["_law_tape_here", "_law_some", "_law_drawn", "_law_found", "_law_k"] ["_law_tape_here"] (defScope s__law_kinds) := ⟨rfl, rfl, rfl, by decide +kernel, rfl, by decide +kernel, by decide +kernel⟩
theorem sc__law_others : FnScope ["_law_tape_here", "_law_good", "_law_most", "_law_at", "_law_odd", "_law_found"] ["_law_tape_here", "_law_good", "_law_most"] (defScope s__law_others) := ⟨rfl, rfl, rfl, by decide +kernel, rfl, by decide +kernel, by decide +kernel⟩
theorem sc__law_is : FnScope ["_law_asked", "_law_thing", "_law_due", "_law_turn", "_law_found"] ["_law_asked", "_law_thing", "_law_due"] (defScope s__law_is) := ⟨rfl, rfl, rfl, by decide +kernel, rfl, by decide +kernel, by decide +kernel⟩
theorem sc_law : FnScope ["_law_script", "_law_cell", "_law_tape_here", "_law_rule_here", "_law_kinds_here", "_law_strange"] ["_law_script"] (defScope s_law) := ⟨rfl, rfl, rfl, by decide +kernel, rfl, by decide +kernel, by decide +kernel⟩
structure Txt0 (K : PySem.W.Frag) (mg : Str → Option Value) : Prop where
  b_all : mg "all" = none
  b_bool : mg "bool" = none
  b_int : mg "int" = none
  b_isinstance : mg "isinstance" = none
  b_len : mg "len" = none
  b_list : mg "list" = none
  b_range : mg "range" = none
  b_set : mg "set" = none
  b_str : mg "str" = none
  b_tuple : mg "tuple" = none
  g_LETTERS : GlobOk K mg "LETTERS" (.str [97, 98, 99, 100, 101, 102, 103, 104, 105, 106, 107, 108, 109, 110, 111, 112, 113, 114, 115, 116, 117, 118, 119, 120, 121, 122])
  g_LONGEST_WORD : GlobOk K mg "LONGEST_WORD" (.int 8)
  g_WISH_WORDS : GlobOk K mg "WISH_WORDS" (.tup [(.str [97, 110, 121]), (.str [105, 115]), (.str [98, 121]), (.str [110, 111, 116]), (.str [97, 110, 100]), (.str [111, 114])])
  g_RULE_WORDS : GlobOk K mg "RULE_WORDS" (.tup [(.str [104, 101, 97, 118, 121]), (.str [103, 114, 101, 97, 116]), (.str [115, 109, 97, 108, 108]), (.str [115, 111, 111, 110])])
  g_MOST_RULE_WORDS : GlobOk K mg "MOST_RULE_WORDS" (.int 3)
  g_MOST_BORNE : GlobOk K mg "MOST_BORNE" (.int 4)
  h_is_rule : mg "is_rule" = some (.ref 47)
  h_are_borne : mg "are_borne" = some (.ref 52)
structure Txt1 (P : Program) (w : World) (K : PySem.W.Frag) (mg : Str → Option Value) (base : Heap) (k : Nat) : Prop where
  f_is_long_word : FOk P w K mg base fns gv k "is_long_word" 0
  f_is_word : FOk P w K mg base fns gv k "is_word" 1
  f_is_one_of : FOk P w K mg base fns gv k "is_one_of" 2
  f_are_unlike : FOk P w K mg base fns gv k "are_unlike" 3
  f_is_rule : FOk P w K mg base fns gv k "is_rule" 4
  f_are_borne : FOk P w K mg base fns gv k "are_borne" 5
  f__law_cell_at : FOk P w K mg base fns gv k "_law_cell_at" 6
  f__law_tape : FOk P w K mg base fns gv k "_law_tape" 7
  f__law_draw : FOk P w K mg base fns gv k "_law_draw" 8
  f__law_pick : FOk P w K mg base fns gv k "_law_pick" 9
  f__law_rule : FOk P w K mg base fns gv k "_law_rule" 10
  f__law_any_word : FOk P w K mg base fns gv k "_law_any_word" 11
  f__law_kinds : FOk P w K mg base fns gv k "_law_kinds" 12
  f__law_others : FOk P w K mg base fns gv k "_law_others" 13
  f__law_is : FOk P w K mg base fns gv k "_law_is" 14
  f_law : FOk P w K mg base fns gv k "law" 15
section
variable {P : Program} {w : World} {K : PySem.W.Frag} {mg : Str → Option Value} {base : Heap} {k : Nat} {f : Addr} {cdv : Value} {A : Around} {outer : List PySem.Env} {s : Shared} {H : Hp} {E : XK}
theorem ps_is_long_word (T0 : Txt0 K mg) (T1 : Txt1 P w K mg base k) (hr : Room k (A.deeper (envOfC "is_long_word" (defScope s_is_long_word) s.heap.objs.size f cdv))) :
    Bd (cxOf CX0 P w K mg base ["text"] "is_long_word" (defScope s_is_long_word) f cdv A outer s H E).nox (defBody s_is_long_word) (tS K (callF fns gv k) gv xr0 1 b_is_long_word) := by
  refine ⟨?_⟩
  refine pss_retW ?_
  refine pe_andW ?_ ?_
  refine pe_cmpW ?_ ?_ ?_ ?_
  refine pe_lenW ?_ ?_ ?_ ?_ ?_
  exact rfl
  exact T0.b_len
  refine pa_consW ?_ ?_ ?_
  exact (vr 0)
  exact pa_nilW
  exact rfl
  exact rfl
  exact rfl
  exact pe_intW
  exact (by with_unfolding_all rfl)
  exact hr.units
  refine pe_andW ?_ ?_
  refine pe_cmpW ?_ ?_ ?_ ?_
  exact (vr 0)
  exact (pe_glW rfl rfl T0.g_WISH_WORDS (by decide))
  exact (by with_unfolding_all rfl)
  exact hr.units
  refine pe_one ?_
  refine pe_allWc ?_ ?_ ?_ ?_ ?_
  exact rfl
  exact T0.b_all
  refine pa_consW ?_ ?_ ?_
  refine pe_comp (N' := ["sign"]) ?_ ?_
  exact rfl
  refine compK_mk ?_ ?_ ?_ ?_ ?_ ?_ ?_
  exact (by kernel_rfl)
  exact (by kernel_rfl)
  refine pi_of ?_
  exact (vr 0)
  exact (fun _ => rfl)
  intro _ _ _ _ _
  refine ⟨?_, ?_, ?_⟩
  exact (pg_nameW 0 (show List.Nodup (["sign"] : List Str) from by decide +kernel))
  exact True.intro
  refine ⟨?_, ?_⟩
  exact rfl
  refine pe_cmpW ?_ ?_ ?_ ?_
  exact (vr 0)
  exact (pe_glW rfl rfl T0.g_LETTERS (by decide))
  exact (by with_unfolding_all rfl)
  exact hr.units
  exact (by decide)
  exact (by decide)
  exact pa_nilW
  exact rfl
  exact rfl
  exact rfl
theorem ps_is_word (T0 : Txt0 K mg) (T1 : Txt1 P w K mg base k) (hr : Room k (A.deeper (envOfC "is_word" (defScope s_is_word) s.heap.objs.size f cdv))) :
    Bd (cxOf CX0 P w K mg base ["thing"] "is_word" (defScope s_is_word) f cdv A outer s H E).nox (defBody s_is_word) (tS K (callF fns gv k) gv xr0 1 b_is_word) := by
  refine ⟨?_⟩
  refine pss_retW ?_
  refine pe_andW ?_ ?_
  refine pe_isiW ?_ ?_ ?_ ?_ ?_ ?_
  exact (vr 0)
  exact rfl
  exact T0.b_isinstance
  exact rfl
  exact T0.b_str
  exact (by decide +kernel)
  refine pe_andW ?_ ?_
  refine pe_cmpW ?_ ?_ ?_ ?_
  refine pe_lenW ?_ ?_ ?_ ?_ ?_
  exact rfl
  exact T0.b_len
  refine pa_consW ?_ ?_ ?_
  exact (vr 0)
  exact pa_nilW
  exact rfl
  exact rfl
  exact rfl
  exact (pe_glW rfl rfl T0.g_LONGEST_WORD (by decide))
  exact (by with_unfolding_all rfl)
  exact hr.units
  refine pe_one ?_
  refine pe_callW ?_ ?_ ?_ ?_
  exact T1.f_is_long_word
  exact hr
  exact rfl
  refine pa_consW ?_ ?_ ?_
  exact (vr 0)
  exact pa_nilW
  exact rfl
theorem ps_is_one_of (T0 : Txt0 K mg) (T1 : Txt1 P w K mg base k) (hr : Room k (A.deeper (envOfC "is_one_of" (defScope s_is_one_of) s.heap.objs.size f cdv))) :
    Bd (cxOf CX0 P w K mg base ["thing", "texts"] "is_one_of" (defScope s_is_one_of) f cdv A outer s H E).nox (defBody s_is_one_of) (tS K (callF fns gv k) gv xr0 2 b_is_one_of) := by
  refine ⟨?_⟩
  refine pss_retW ?_
  refine pe_andW ?_ ?_
  refine pe_isiW ?_ ?_ ?_ ?_ ?_ ?_
  exact (vr 0)
  exact rfl
  exact T0.b_isinstance
  exact rfl
  exact T0.b_str
  exact (by decide +kernel)
  refine pe_one ?_
  refine pe_cmpW ?_ ?_ ?_ ?_
  exact (vr 0)
  exact (vr 1)
  exact (by with_unfolding_all rfl)
  exact hr.units
theorem ps_are_unlike (T0 : Txt0 K mg) (T1 : Txt1 P w K mg base k) (hr : Room k (A.deeper (envOfC "are_unlike" (defScope s_are_unlike) s.heap.objs.size f cdv))) :
    Bd (cxOf CX0 P w K mg base ["words"] "are_unlike" (defScope s_are_unlike) f cdv A outer s H E).nox (defBody s_are_unlike) (tS K (callF fns gv k) gv xr0 1 b_are_unlike) := by
  refine ⟨?_⟩
  refine pss_retW ?_
  refine pe_cmpW ?_ ?_ ?_ ?_
  refine pe_lensetW ?_ ?_ ?_ ?_ ?_ ?_
  exact rfl
  exact rfl
  exact T0.b_len
  exact rfl
  exact T0.b_set
  refine pa_consW ?_ ?_ ?_
  exact (vr 0)
  exact pa_nilW
  exact rfl
  refine pe_lenW ?_ ?_ ?_ ?_ ?_
  exact rfl
  exact T0.b_len
  refine pa_consW ?_ ?_ ?_
  exact (vr 0)
  exact pa_nilW
  exact rfl
  exact rfl
  exact rfl
  exact (by with_unfolding_all rfl)
  exact hr.units
theorem ps_is_rule (T0 : Txt0 K mg) (T1 : Txt1 P w K mg base k) (hr : Room k (A.deeper (envOfC "is_rule" (defScope s_is_rule) s.heap.objs.size f cdv))) :
    Bd (cxOf CX0 P w K mg base ["thing"] "is_rule" (defScope s_is_rule) f cdv A outer s H E).nox (defBody s_is_rule) (tS K (callF fns gv k) gv xr0 1 b_is_rule) := by
  refine ⟨?_⟩
  refine pss_ifW ?_ ?_ ?_ ?_
  refine PW.pt ?_
  refine pw_orW ?_ ?_
  refine pt_notW ?_
  refine pt_of ?_ ?_
  refine pe_isiW ?_ ?_ ?_ ?_ ?_ ?_
  exact (vr 0)
  exact rfl
  exact T0.b_isinstance
  exact rfl
  exact T0.b_tuple
  exact (by decide +kernel)
  exact (fun _ => rfl)
  refine pw_or1 ?_
  refine pt_cmpW ?_ ?_ ?_ ?_
  refine pe_lenW ?_ ?_ ?_ ?_ ?_
  exact rfl
  exact T0.b_len
  refine pa_consW ?_ ?_ ?_
  exact (vr 0)
  exact pa_nilW
  exact rfl
  exact rfl
  exact rfl
  exact (pe_glW rfl rfl T0.g_MOST_RULE_WORDS (by decide))
  exact (by with_unfolding_all rfl)
  exact hr.units
  refine pss_retW ?_
  exact pe_blW
  exact pss_nilW
  refine pss_retW ?_
  refine pe_andW ?_ ?_
  refine pe_allWc ?_ ?_ ?_ ?_ ?_
  exact rfl
  exact T0.b_all
  refine pa_consW ?_ ?_ ?_
  refine pe_comp (N' := ["word"]) ?_ ?_
  exact rfl
  refine compK_mk ?_ ?_ ?_ ?_ ?_ ?_ ?_
  exact (by kernel_rfl)
  exact (by kernel_rfl)
  refine pi_of ?_
  exact (vr 0)
  exact (fun _ => rfl)
  intro _ _ _ _ _
  refine ⟨?_, ?_, ?_⟩
  exact (pg_nameW 0 (show List.Nodup (["word"] : List Str) from by decide +kernel))
  exact True.intro
  refine ⟨?_, ?_⟩
  exact rfl
  refine pe_callW ?_ ?_ ?_ ?_
  exact T1.f_is_one_of
  exact hr
  exact rfl
  refine pa_consW ?_ ?_ ?_
  exact (vr 0)
  refine pa_consW ?_ ?_ ?_
  exact (pe_glW rfl rfl T0.g_RULE_WORDS (by decide))
  exact pa_nilW
  exact rfl
  exact rfl
  exact (by decide)
  exact (by decide)
  exact pa_nilW
  exact rfl
  exact rfl
  exact rfl
  refine pe_one ?_
  refine pe_callW ?_ ?_ ?_ ?_
  exact T1.f_are_unlike
  exact hr
  exact rfl
  refine pa_consW ?_ ?_ ?_
  exact (vr 0)
  exact pa_nilW
  exact rfl
theorem ps_are_borne (T0 : Txt0 K mg) (T1 : Txt1 P w K mg base k) (hr : Room k (A.deeper (envOfC "are_borne" (defScope s_are_borne) s.heap.objs.size f cdv))) :
    Bd (cxOf CX0 P w K mg base ["thing"] "are_borne" (defScope s_are_borne) f cdv A outer s H E).nox (defBody s_are_borne) (tS K (callF fns gv k) gv xr0 1 b_are_borne) := by
  refine ⟨?_⟩
  refine pss_ifW ?_ ?_ ?_ ?_
  refine PW.pt ?_
  refine pw_orW ?_ ?_
  refine pt_notW ?_
  refine pt_of ?_ ?_
  refine pe_isiW ?_ ?_ ?_ ?_ ?_ ?_
  exact (vr 0)
  exact rfl
  exact T0.b_isinstance
  exact rfl
  exact T0.b_tuple
  exact (by decide +kernel)
  exact (fun _ => rfl)
  refine pw_or1 ?_
  refine pt_cmpW ?_ ?_ ?_ ?_
  refine pe_lenW ?_ ?_ ?_ ?_ ?_
  exact rfl
  exact T0.b_len
  refine pa_consW ?_ ?_ ?_
  exact (vr 0)
  exact pa_nilW
  exact rfl
  exact rfl
  exact rfl
  exact (pe_glW rfl rfl T0.g_MOST_BORNE (by decide))
  exact (by with_unfolding_all rfl)
  exact hr.units
  refine pss_retW ?_
  exact pe_blW
  exact pss_nilW
  refine pss_retW ?_
  refine pe_andW ?_ ?_
  refine pe_allWc ?_ ?_ ?_ ?_ ?_
  exact rfl
  exact T0.b_all
  refine pa_consW ?_ ?_ ?_
  refine pe_comp (N' := ["kind"]) ?_ ?_
  exact rfl
  refine compK_mk ?_ ?_ ?_ ?_ ?_ ?_ ?_
  exact (by kernel_rfl)
  exact (by kernel_rfl)
  refine pi_of ?_
  exact (vr 0)
  exact (fun _ => rfl)
  intro _ _ _ _ _
  refine ⟨?_, ?_, ?_⟩
  exact (pg_nameW 0 (show List.Nodup (["kind"] : List Str) from by decide +kernel))
  exact True.intro
  refine ⟨?_, ?_⟩
  exact rfl
  refine pe_callW ?_ ?_ ?_ ?_
  exact T1.f_is_word
  exact hr
  exact rfl
  refine pa_consW ?_ ?_ ?_
  exact (vr 0)
  exact pa_nilW
  exact rfl
  exact (by decide)
  exact (by decide)
  exact pa_nilW
  exact rfl
  exact rfl
  exact rfl
  refine pe_one ?_
  refine pe_callW ?_ ?_ ?_ ?_
  exact T1.f_are_unlike
  exact hr
  exact rfl
  refine pa_consW ?_ ?_ ?_
  exact (vr 0)
  exact pa_nilW
  exact rfl
theorem ps__law_cell_at (T0 : Txt0 K mg) (T1 : Txt1 P w K mg base k) (hr : Room k (A.deeper (envOfC "_law_cell_at" (defScope s__law_cell_at) s.heap.objs.size f cdv))) :
    Bd (cxOf CX0 P w K mg base ["_law_script", "_law_k"] "_law_cell_at" (defScope s__law_cell_at) f cdv A outer s H E).nox (defBody s__law_cell_at) (tS K (callF fns gv k) gv xr0 2 b__law_cell_at) := by
  refine ⟨?_⟩
  refine pss_ifW ?_ ?_ ?_ ?_
  refine pt_cmpW ?_ ?_ ?_ ?_
  exact (vr 1)
  refine pe_lenW ?_ ?_ ?_ ?_ ?_
  exact rfl
  exact T0.b_len
  refine pa_consW ?_ ?_ ?_
  exact (vr 0)
  exact pa_nilW
  exact rfl
  exact rfl
  exact rfl
  exact (by with_unfolding_all rfl)
  exact hr.units
  refine pss_retW ?_
  refine pe_ixW ?_ ?_ ?_
  exact (vr 0)
  exact (vr 1)
  exact (fun _ _ => rfl)
  exact pss_nilW
  refine pss_retW ?_
  exact pe_intW
theorem ps__law_tape (T0 : Txt0 K mg) (T1 : Txt1 P w K mg base k) (hr : Room k (A.deeper (envOfC "_law_tape" (defScope s__law_tape) s.heap.objs.size f cdv))) :
    Bd (cxOf CX0 P w K mg base ["_law_cell"] "_law_tape" (defScope s__law_tape) f cdv A outer s H E).nox (defBody s__law_tape) (tS K (callF fns gv k) gv xr0 1 b__law_tape) := by
  refine ⟨?_⟩
  refine pss_retW ?_
  refine pe_celW ?_
  refine pa_consW ?_ ?_ ?_
  refine pe_binW ?_ ?_
  exact (vr 0)
  refine pe_intWc ?_ ?_ ?_ ?_ ?_
  exact rfl
  exact T0.b_int
  refine pa_consW ?_ ?_ ?_
  refine pe_cmpW ?_ ?_ ?_ ?_
  exact (vr 0)
  refine pe_binW ?_ ?_
  exact pe_intW
  exact pe_intW
  exact (by with_unfolding_all rfl)
  exact hr.units
  exact pa_nilW
  exact rfl
  exact rfl
  exact rfl
  refine pa_consW ?_ ?_ ?_
  refine pe_binW ?_ ?_
  exact (vr 0)
  exact pe_intW
  refine pa_consW ?_ ?_ ?_
  exact pe_intW
  exact pa_nilW
  exact rfl
  exact rfl
  exact rfl
theorem ps__law_draw (T0 : Txt0 K mg) (T1 : Txt1 P w K mg base k) (hr : Room k (A.deeper (envOfC "_law_draw" (defScope s__law_draw) s.heap.objs.size f cdv))) :
    Bd (cxOf CX0 P w K mg base ["_law_tape_here", "_law_many", "_law_found", "_law_number"] "_law_draw" (defScope s__law_draw) f cdv A outer s H E).nox (defBody s__law_draw) (tS K (callF fns gv k) gv xr0 4 b__law_draw) := by
  refine ⟨?_⟩
  refine pss_ifW ?_ ?_ ?_ ?_
  refine pt_cmpW ?_ ?_ ?_ ?_
  refine pe_ixW ?_ ?_ ?_
  exact (vr 0)
  exact pe_intW
  exact (fun _ _ => rfl)
  exact pe_intW
  exact (by with_unfolding_all rfl)
  exact hr.units
  refine sg (i := 2) ?_ ?_ ?_
  exact sc__law_draw.nd
  refine pe_binW ?_ ?_
  refine pe_ixW ?_ ?_ ?_
  exact (vr 0)
  exact pe_intW
  exact (fun _ _ => rfl)
  exact (vr 1)
  refine pss_setW ?_ ?_ ?_ ?_
  refine pe_binW ?_ ?_
  refine pe_ixW ?_ ?_ ?_
  exact (vr 0)
  exact pe_intW
  exact (fun _ _ => rfl)
  exact (vr 1)
  exact (vr 0)
  exact pe_intW
  refine pss_retW ?_
  exact (vr 2)
  exact pss_nilW
  refine pss_setW ?_ ?_ ?_ ?_
  refine pe_binW ?_ ?_
  refine pe_ixW ?_ ?_ ?_
  exact (vr 0)
  exact pe_intW
  exact (fun _ _ => rfl)
  exact pe_intW
  exact (vr 0)
  exact pe_intW
  refine sg (i := 3) ?_ ?_ ?_
  exact sc__law_draw.nd
  refine pe_binW ?_ ?_
  refine pe_binW ?_ ?_
  refine pe_binW ?_ ?_
  refine pe_binW ?_ ?_
  refine pe_ixW ?_ ?_ ?_
  exact (vr 0)
  exact pe_intW
  exact (fun _ _ => rfl)
  refine pe_binW ?_ ?_
  exact pe_intW
  refine pe_ixW ?_ ?_ ?_
  exact (vr 0)
  exact pe_intW
  exact (fun _ _ => rfl)
  exact pe_intW
  exact pe_intW
  exact pe_intW
  refine sg (i := 3) ?_ ?_ ?_
  exact sc__law_draw.nd
  refine pe_binW ?_ ?_
  refine pe_binW ?_ ?_
  exact (vr 3)
  refine pe_binW ?_ ?_
  refine pe_binW ?_ ?_
  exact (vr 3)
  exact pe_intW
  exact pe_intW
  exact pe_intW
  refine pss_retW ?_
  refine pe_binW ?_ ?_
  refine pe_binW ?_ ?_
  refine pe_binW ?_ ?_
  exact (vr 3)
  refine pe_binW ?_ ?_
  refine pe_binW ?_ ?_
  exact (vr 3)
  exact pe_intW
  exact pe_intW
  exact pe_intW
  exact (vr 1)
theorem ps__law_pick (T0 : Txt0 K mg) (T1 : Txt1 P w K mg base k) (hr : Room k (A.deeper (envOfC "_law_pick" (defScope s__law_pick) s.heap.objs.size f cdv))) :
    Bd (cxOf CX0 P w K mg base ["_law_tape_here", "_law_some"] "_law_pick" (defScope s__law_pick) f cdv A outer s H E).nox (defBody s__law_pick) (tS K (callF fns gv k) gv xr0 2 b__law_pick) := by
  refine ⟨?_⟩
  refine pss_retW ?_
  refine pe_ixW ?_ ?_ ?_
  exact (vr 1)
  refine pe_callW ?_ ?_ ?_ ?_
  exact T1.f__law_draw
  exact hr
  exact rfl
  refine pa_consW ?_ ?_ ?_
  exact (vr 0)
  refine pa_consW ?_ ?_ ?_
  refine pe_lenW ?_ ?_ ?_ ?_ ?_
  exact rfl
  exact T0.b_len
  refine pa_consW ?_ ?_ ?_
  exact (vr 1)
  exact pa_nilW
  exact rfl
  exact rfl
  exact rfl
  exact pa_nilW
  exact rfl
  exact rfl
  exact (fun _ _ => rfl)
theorem ps__law_rule (T0 : Txt0 K mg) (T1 : Txt1 P w K mg base k) (hr : Room k (A.deeper (envOfC "_law_rule" (defScope s__law_rule) s.heap.objs.size f cdv))) :
    Bd (cxOf CX0 P w K mg base ["_law_tape_here", "_law_words", "_law_found", "_law_k"] "_law_rule" (defScope s__law_rule) f cdv A outer s H E).nox (defBody s__law_rule) (tS K (callF fns gv k) gv xr0 4 b__law_rule) := by
  refine ⟨?_⟩
  refine sg (i := 1) ?_ ?_ ?_
  exact sc__law_rule.nd
  refine pe_celW ?_
  refine pa_consW ?_ ?_ ?_
  exact (pe_strW (by decide +kernel))
  refine pa_consW ?_ ?_ ?_
  exact (pe_strW (by decide +kernel))
  refine pa_consW ?_ ?_ ?_
  exact (pe_strW (by decide +kernel))
  refine pa_consW ?_ ?_ ?_
  exact (pe_strW (by decide +kernel))
  exact pa_nilW
  exact rfl
  exact rfl
  exact rfl
  exact rfl
  refine sg (i := 2) ?_ ?_ ?_
  exact sc__law_rule.nd
  refine pe_celW ?_
  exact pa_nilW
  refine pss_forW ?_ ?_ ?_ ?_ ?_ ?_ ?_
  exact rfl
  exact PassesOwn.never
  refine pi_range1W ?_ ?_ ?_
  exact rfl
  exact T0.b_range
  refine pa_consW ?_ ?_ ?_
  refine pe_ixW ?_ ?_ ?_
  refine pe_lstW ?_
  refine pa_consW ?_ ?_ ?_
  exact pe_intW
  refine pa_consW ?_ ?_ ?_
  exact pe_intW
  refine pa_consW ?_ ?_ ?_
  exact pe_intW
  refine pa_consW ?_ ?_ ?_
  exact pe_intW
  refine pa_consW ?_ ?_ ?_
  exact pe_intW
  exact pa_nilW
  exact rfl
  exact rfl
  exact rfl
  exact rfl
  exact rfl
  refine pe_callW ?_ ?_ ?_ ?_
  exact T1.f__law_draw
  exact hr
  exact rfl
  refine pa_consW ?_ ?_ ?_
  exact (vr 0)
  refine pa_consW ?_ ?_ ?_
  exact pe_intW
  exact pa_nilW
  exact rfl
  exact rfl
  exact (fun _ _ => rfl)
  exact pa_nilW
  exact rfl
  exact (pg_nameW 3 sc__law_rule.nd)
  exact (by decide)
  refine pss_exprW ?_ ?_
  refine pe_appendW ?_ ?_
  exact (vr 2)
  refine pa_consW ?_ ?_ ?_
  refine pe_popW ?_ ?_
  exact (vr 1)
  refine pa_consW ?_ ?_ ?_
  refine pe_callW ?_ ?_ ?_ ?_
  exact T1.f__law_draw
  exact hr
  exact rfl
  refine pa_consW ?_ ?_ ?_
  exact (vr 0)
  refine pa_consW ?_ ?_ ?_
  refine pe_lenW ?_ ?_ ?_ ?_ ?_
  exact rfl
  exact T0.b_len
  refine pa_consW ?_ ?_ ?_
  exact (vr 1)
  exact pa_nilW
  exact rfl
  exact rfl
  exact rfl
  exact pa_nilW
  exact rfl
  exact rfl
  exact pa_nilW
  exact rfl
  exact pa_nilW
  exact rfl
  exact pss_nilW
  refine pss_retW ?_
  refine pe_tupleWc ?_ ?_ ?_ ?_ ?_
  exact rfl
  exact T0.b_tuple
  refine pa_consW ?_ ?_ ?_
  exact (vr 2)
  exact pa_nilW
  exact rfl
  exact rfl
  exact rfl
theorem ps__law_any_word (T0 : Txt0 K mg) (T1 : Txt1 P w K mg base k) (hr : Room k (A.deeper (envOfC "_law_any_word" (defScope s__law_any_word) s.heap.objs.size f cdv))) :
    Bd (cxOf CX0 P w K mg base ["_law_tape_here", "_law_found"] "_law_any_word" (defScope s__law_any_word) f cdv A outer s H E).nox (defBody s__law_any_word) (tS K (callF fns gv k) gv xr0 2 b__law_any_word) := by
  refine ⟨?_⟩
  refine sg (i := 1) ?_ ?_ ?_
  exact sc__law_any_word.nd
  refine pe_joinW ?_ ?_
  exact (pe_strW (by decide +kernel))
  refine pa_consW ?_ ?_ ?_
  refine pe_comp (N' := ["_law_k", "_law_tape_here"]) ?_ ?_
  exact rfl
  refine compK_mk ?_ ?_ ?_ ?_ ?_ ?_ ?_
  exact (by kernel_rfl)
  exact (by kernel_rfl)
  refine pi_range1W ?_ ?_ ?_
  exact rfl
  exact T0.b_range
  refine pa_consW ?_ ?_ ?_
  refine pe_binW ?_ ?_
  exact pe_intW
  refine pe_callW ?_ ?_ ?_ ?_
  exact T1.f__law_draw
  exact hr
  exact rfl
  refine pa_consW ?_ ?_ ?_
  exact (vr 0)
  refine pa_consW ?_ ?_ ?_
  exact pe_intW
  exact pa_nilW
  exact rfl
  exact rfl
  exact pa_nilW
  exact rfl
  exact (fun _ => rfl)
  intro _ _ _ _ _
  refine ⟨?_, ?_, ?_⟩
  exact (pg_nameW 0 (show List.Nodup (["_law_k", "_law_tape_here"] : List Str) from by decide +kernel))
  exact True.intro
  refine ⟨?_, ?_⟩
  exact rfl
  refine pe_ixW ?_ ?_ ?_
  exact (pe_strW (by decide +kernel))
  refine pe_callW ?_ ?_ ?_ ?_
  exact T1.f__law_draw
  exact hr
  exact rfl
  refine pa_consW ?_ ?_ ?_
  exact (vr 1)
  refine pa_consW ?_ ?_ ?_
  exact pe_intW
  exact pa_nilW
  exact rfl
  exact rfl
  exact (fun _ _ => rfl)
  exact (by decide)
  exact (by decide)
  exact pa_nilW
  exact rfl
  refine pss_retW ?_
  refine pe_binW ?_ ?_
  exact (vr 1)
  refine pe_binW ?_ ?_
  exact (pe_strW (by decide +kernel))
  refine pe_intWc ?_ ?_ ?_ ?_ ?_
  exact rfl
  exact T0.b_int
  refine pa_consW ?_ ?_ ?_
  refine pe_cmpW ?_ ?_ ?_ ?_
  exact (vr 1)
  refine pe_tupW ?_
  refine pa_consW ?_ ?_ ?_
  exact (pe_strW (by decide +kernel))
  refine pa_consW ?_ ?_ ?_
  exact (pe_strW (by decide +kernel))
  refine pa_consW ?_ ?_ ?_
  exact (pe_strW (by decide +kernel))
  refine pa_consW ?_ ?_ ?_
  exact (pe_strW (by decide +kernel))
  refine pa_consW ?_ ?_ ?_
  exact (pe_strW (by decide +kernel))
  refine pa_consW ?_ ?_ ?_
  exact (pe_strW (by decide +kernel))
  exact pa_nilW
  exact rfl
  exact rfl
  exact rfl
  exact rfl
  exact rfl
  exact rfl
  exact (by with_unfolding_all rfl)
  exact hr.units
  exact pa_nilW
  exact rfl
  exact rfl
  exact rfl
theorem ps__law_kinds (T0 : Txt0 K mg) (T1 : Txt1 P w K mg base k) (hr : Room k (A.deeper (envOfC "_law_kinds" (defScope s__law_kinds) s.heap.objs.size f cdv))) :
    Bd (cxOf CX0 P w K mg base ["_law_tape_here", "_law_some", "_law_drawn", "_law_found", "_law_k"] "_law_kinds" (defScope s__law_kinds) f cdv A outer s H E).nox (defBody s__law_kinds) (tS K (callF fns gv k) gv xr0 5 b__law_kinds) := by
  refine ⟨?_⟩
  refine sg (i := 1) ?_ ?_ ?_
  exact sc__law_kinds.nd
  refine pe_celW ?_
  refine pa_consW ?_ ?_ ?_
  exact (pe_strW (by decide +kernel))
  refine pa_consW ?_ ?_ ?_
  exact (pe_strW (by decide +kernel))
  refine pa_consW ?_ ?_ ?_
  exact (pe_strW (by decide +kernel))
  refine pa_consW ?_ ?_ ?_
  exact (pe_strW (by decide +kernel))
  refine pa_consW ?_ ?_ ?_
  exact (pe_strW (by decide +kernel))
  refine pa_consW ?_ ?_ ?_
  exact (pe_strW (by decide +kernel))
  refine pa_consW ?_ ?_ ?_
  exact (pe_strW (by decide +kernel))
  refine pa_consW ?_ ?_ ?_
  exact (pe_strW (by decide +kernel))
  refine pa_consW ?_ ?_ ?_
  exact (pe_strW (by decide +kernel))
  refine pa_consW ?_ ?_ ?_
  exact (pe_strW (by decide +kernel))
  exact pa_nilW
  exact rfl
  exact rfl
  exact rfl
  exact rfl
  exact rfl
  exact rfl
  exact rfl
  exact rfl
  exact rfl
  exact rfl
  refine sg (i := 2) ?_ ?_ ?_
  exact sc__law_kinds.nd
  refine pe_callW ?_ ?_ ?_ ?_
  exact T1.f__law_any_word
  exact hr
  exact rfl
  refine pa_consW ?_ ?_ ?_
  exact (vr 0)
  exact pa_nilW
  exact rfl
  refine sg (i := 1) ?_ ?_ ?_
  exact sc__law_kinds.nd
  refine pe_celAW ?_ ?_
  exact (vr 1)
  refine pe_binW ?_ ?_
  refine pe_lstW ?_
  refine pa_consW ?_ ?_ ?_
  exact (vr 2)
  exact pa_nilW
  exact rfl
  refine pe_intWc ?_ ?_ ?_ ?_ ?_
  exact rfl
  exact T0.b_int
  refine pa_consW ?_ ?_ ?_
  refine pe_cmpW ?_ ?_ ?_ ?_
  exact (vr 2)
  exact (vr 1)
  exact (by with_unfolding_all rfl)
  exact hr.units
  exact pa_nilW
  exact rfl
  exact rfl
  exact rfl
  refine sg (i := 3) ?_ ?_ ?_
  exact sc__law_kinds.nd
  refine pe_celW ?_
  exact pa_nilW
  refine pss_forW ?_ ?_ ?_ ?_ ?_ ?_ ?_
  exact rfl
  exact PassesOwn.never
  refine pi_range1W ?_ ?_ ?_
  exact rfl
  exact T0.b_range
  refine pa_consW ?_ ?_ ?_
  refine pe_callW ?_ ?_ ?_ ?_
  exact T1.f__law_draw
  exact hr
  exact rfl
  refine pa_consW ?_ ?_ ?_
  exact (vr 0)
  refine pa_consW ?_ ?_ ?_
  exact pe_intW
  exact pa_nilW
  exact rfl
  exact rfl
  exact pa_nilW
  exact rfl
  exact (pg_nameW 4 sc__law_kinds.nd)
  exact (by decide)
  refine pss_exprW ?_ ?_
  refine pe_appendW ?_ ?_
  exact (vr 3)
  refine pa_consW ?_ ?_ ?_
  refine pe_popW ?_ ?_
  exact (vr 1)
  refine pa_consW ?_ ?_ ?_
  refine pe_callW ?_ ?_ ?_ ?_
  exact T1.f__law_draw
  exact hr
  exact rfl
  refine pa_consW ?_ ?_ ?_
  exact (vr 0)
  refine pa_consW ?_ ?_ ?_
  refine pe_lenW ?_ ?_ ?_ ?_ ?_
  exact rfl
  exact T0.b_len
  refine pa_consW ?_ ?_ ?_
  exact (vr 1)
  exact pa_nilW
  exact rfl
  exact rfl
  exact rfl
  exact pa_nilW
  exact rfl
  exact rfl
  exact pa_nilW
  exact rfl
  exact pa_nilW
  exact rfl
  exact pss_nilW
  refine pss_retW ?_
  refine pe_tupleWc ?_ ?_ ?_ ?_ ?_
  exact rfl
  exact T0.b_tuple
  refine pa_consW ?_ ?_ ?_
  exact (vr 3)
  exact pa_nilW
  exact rfl
  exact rfl
  exact rfl
theorem ps__law_others (T0 : Txt0 K mg) (T1 : Txt1 P w K mg base k) (hr : Room k (A.deeper (envOfC "_law_others" (defScope s__law_others) s.heap.objs.size f cdv))) :
    Bd (cxOf CX0 P w K mg base ["_law_tape_here", "_law_good", "_law_most", "_law_at", "_law_odd", "_law_found"] "_law_others" (defScope s__law_others) f cdv A outer s H E).nox (defBody s__law_others) (tS K (callF fns gv k) gv xr0 6 b__law_others) := by
  refine ⟨?_⟩
  refine sg (i := 3) ?_ ?_ ?_
  exact sc__law_others.nd
  refine pe_callW ?_ ?_ ?_ ?_
  exact T1.f__law_draw
  exact hr
  exact rfl
  refine pa_consW ?_ ?_ ?_
  exact (vr 0)
  refine pa_consW ?_ ?_ ?_
  refine pe_binW ?_ ?_
  refine pe_lenW ?_ ?_ ?_ ?_ ?_
  exact rfl
  exact T0.b_len
  refine pa_consW ?_ ?_ ?_
  exact (vr 1)
  exact pa_nilW
  exact rfl
  exact rfl
  exact rfl
  exact pe_intW
  exact pa_nilW
  exact rfl
  exact rfl
  refine sg (i := 4) ?_ ?_ ?_
  exact sc__law_others.nd
  refine pe_lstW ?_
  refine pa_consW ?_ ?_ ?_
  exact (pe_strW (by decide +kernel))
  refine pa_consW ?_ ?_ ?_
  exact (pe_strW (by decide +kernel))
  refine pa_consW ?_ ?_ ?_
  exact (pe_strW (by decide +kernel))
  refine pa_consW ?_ ?_ ?_
  exact pe_nonW
  refine pa_consW ?_ ?_ ?_
  exact pe_intW
  refine pa_consW ?_ ?_ ?_
  exact pe_blW
  refine pa_consW ?_ ?_ ?_
  refine pe_lstW ?_
  refine pa_consW ?_ ?_ ?_
  exact (pe_strW (by decide +kernel))
  exact pa_nilW
  exact rfl
  refine pa_consW ?_ ?_ ?_
  refine pe_tupW ?_
  refine pa_consW ?_ ?_ ?_
  exact (pe_strW (by decide +kernel))
  exact pa_nilW
  exact rfl
  refine pa_consW ?_ ?_ ?_
  exact (pe_strW (by decide +kernel))
  refine pa_consW ?_ ?_ ?_
  exact (pe_strW (by decide +kernel))
  refine pa_consW ?_ ?_ ?_
  exact (pe_strW (by decide +kernel))
  refine pa_consW ?_ ?_ ?_
  exact (pe_strW (by decide +kernel))
  refine pa_consW ?_ ?_ ?_
  exact (pe_strW (by decide +kernel))
  exact pa_nilW
  exact rfl
  exact rfl
  exact rfl
  exact rfl
  exact rfl
  exact rfl
  exact rfl
  exact rfl
  exact rfl
  exact rfl
  exact rfl
  exact rfl
  exact rfl
  refine sg (i := 4) ?_ ?_ ?_
  exact sc__law_others.nd
  refine pe_callW ?_ ?_ ?_ ?_
  exact T1.f__law_pick
  exact hr
  exact rfl
  refine pa_consW ?_ ?_ ?_
  exact (vr 0)
  refine pa_consW ?_ ?_ ?_
  exact (vr 4)
  exact pa_nilW
  exact rfl
  exact rfl
  refine sg (i := 5) ?_ ?_ ?_
  exact sc__law_others.nd
  refine pe_lstW ?_
  refine pa_consW ?_ ?_ ?_
  refine pe_listWc ?_ ?_ ?_ ?_ ?_
  exact rfl
  exact T0.b_list
  refine pa_consW ?_ ?_ ?_
  exact (vr 1)
  exact pa_nilW
  exact rfl
  exact rfl
  exact rfl
  refine pa_consW ?_ ?_ ?_
  exact pe_nonW
  refine pa_consW ?_ ?_ ?_
  exact (pe_strW (by decide +kernel))
  refine pa_consW ?_ ?_ ?_
  exact (pe_strW (by decide +kernel))
  refine pa_consW ?_ ?_ ?_
  exact pe_intW
  refine pa_consW ?_ ?_ ?_
  exact pe_blW
  refine pa_consW ?_ ?_ ?_
  exact pe_dsp0W
  refine pa_consW ?_ ?_ ?_
  refine pe_binW ?_ ?_
  refine pe_binW ?_ ?_
  refine pe_slcW ?_ ?_ ?_
  exact (vr 1)
  exact po_noneW
  refine po_someW ?_ ?_
  exact (vr 3)
  exact rfl
  refine pe_tupW ?_
  refine pa_consW ?_ ?_ ?_
  exact (vr 4)
  exact pa_nilW
  exact rfl
  refine pe_slcW ?_ ?_ ?_
  exact (vr 1)
  refine po_someW ?_ ?_
  exact (vr 3)
  exact rfl
  exact po_noneW
  refine pa_consW ?_ ?_ ?_
  refine pe_tupW ?_
  refine pa_consW ?_ ?_ ?_
  exact (vr 1)
  exact pa_nilW
  exact rfl
  exact pa_nilW
  exact rfl
  exact rfl
  exact rfl
  exact rfl
  exact rfl
  exact rfl
  exact rfl
  exact rfl
  exact rfl
  refine pss_ifW ?_ ?_ ?_ ?_
  refine pt_cmpW ?_ ?_ ?_ ?_
  exact (vr 1)
  refine pe_tupW ?_
  exact pa_nilW
  exact (by with_unfolding_all rfl)
  exact hr.units
  refine sg (i := 5) ?_ ?_ ?_
  exact sc__law_others.nd
  refine pe_binW ?_ ?_
  exact (vr 5)
  refine pe_lstW ?_
  refine pa_consW ?_ ?_ ?_
  refine pe_binW ?_ ?_
  exact (vr 1)
  refine pe_slcW ?_ ?_ ?_
  exact (vr 1)
  exact po_noneW
  refine po_someW ?_ ?_
  exact pe_intW
  exact rfl
  refine pa_consW ?_ ?_ ?_
  refine pe_binW ?_ ?_
  refine pe_binW ?_ ?_
  refine pe_slcW ?_ ?_ ?_
  exact (vr 1)
  exact po_noneW
  refine po_someW ?_ ?_
  exact (vr 3)
  exact rfl
  refine pe_tupW ?_
  refine pa_consW ?_ ?_ ?_
  exact (vr 4)
  exact pa_nilW
  exact rfl
  refine pe_slcW ?_ ?_ ?_
  exact (vr 1)
  refine po_someW ?_ ?_
  refine pe_binW ?_ ?_
  exact (vr 3)
  exact pe_intW
  exact rfl
  exact po_noneW
  refine pa_consW ?_ ?_ ?_
  refine pe_ixW ?_ ?_ ?_
  exact (vr 1)
  exact pe_intW
  exact (fun _ _ => rfl)
  exact pa_nilW
  exact rfl
  exact rfl
  exact rfl
  exact pss_nilW
  exact pss_nilW
  refine pss_retW ?_
  refine pe_callW ?_ ?_ ?_ ?_
  exact T1.f__law_pick
  exact hr
  exact rfl
  refine pa_consW ?_ ?_ ?_
  exact (vr 0)
  refine pa_consW ?_ ?_ ?_
  refine pe_binW ?_ ?_
  exact (vr 5)
  refine pe_lstW ?_
  refine pa_consW ?_ ?_ ?_
  refine pe_slcW ?_ ?_ ?_
  refine pe_tupW ?_
  refine pa_consW ?_ ?_ ?_
  exact (pe_strW (by decide +kernel))
  refine pa_consW ?_ ?_ ?_
  exact (pe_strW (by decide +kernel))
  refine pa_consW ?_ ?_ ?_
  exact (pe_strW (by decide +kernel))
  refine pa_consW ?_ ?_ ?_
  exact (pe_strW (by decide +kernel))
  refine pa_consW ?_ ?_ ?_
  exact (pe_strW (by decide +kernel))
  exact pa_nilW
  exact rfl
  exact rfl
  exact rfl
  exact rfl
  exact rfl
  exact po_noneW
  refine po_someW ?_ ?_
  refine pe_binW ?_ ?_
  exact (vr 2)
  exact pe_intW
  exact rfl
  exact pa_nilW
  exact rfl
  exact pa_nilW
  exact rfl
  exact rfl
theorem ps__law_is (T0 : Txt0 K mg) (T1 : Txt1 P w K mg base k) (hr : Room k (A.deeper (envOfC "_law_is" (defScope s__law_is) s.heap.objs.size f cdv))) :
    Bd (cxOf CX0 P w K mg base ["_law_asked", "_law_thing", "_law_due", "_law_turn", "_law_found"] "_law_is" (defScope s__law_is) f cdv A outer s H E).nox (defBody s__law_is) (tS K (callF fns gv k) gv xr0 5 b__law_is) := by
  refine ⟨?_⟩
  refine pss_forW ?_ ?_ ?_ ?_ ?_ ?_ ?_
  exact rfl
  exact PassesOwn.never
  refine pi_range1W ?_ ?_ ?_
  exact rfl
  exact T0.b_range
  refine pa_consW ?_ ?_ ?_
  exact pe_intW
  exact pa_nilW
  exact rfl
  exact (pg_nameW 3 sc__law_is.nd)
  exact (by decide)
  refine sg (i := 4) ?_ ?_ ?_
  exact sc__law_is.nd
  refine pe_callVW ?_ ?_ ?_
  exact (.cons T1.f_is_rule T0.h_is_rule rfl (.cons T1.f_are_borne T0.h_are_borne rfl .nil))
  exact hr
  refine pa_consW ?_ ?_ ?_
  exact (vr 1)
  exact pa_nilW
  exact rfl
  refine pss_ifW ?_ ?_ ?_ ?_
  refine PW.pt ?_
  refine pw_orW ?_ ?_
  refine pt_notW ?_
  refine pt_of ?_ ?_
  refine pe_isiW ?_ ?_ ?_ ?_ ?_ ?_
  exact (vr 4)
  exact rfl
  exact T0.b_isinstance
  exact rfl
  exact T0.b_bool
  exact (by decide +kernel)
  exact (fun _ => rfl)
  refine pw_or1 ?_
  refine pt_cmpW ?_ ?_ ?_ ?_
  exact (vr 4)
  exact (vr 2)
  exact (by with_unfolding_all rfl)
  exact hr.units
  refine pss_retW ?_
  exact pe_blW
  exact pss_nilW
  exact pss_nilW
  refine pss_retW ?_
  exact pe_blW
theorem ps_law (T0 : Txt0 K mg) (T1 : Txt1 P w K mg base k) (hr : Room k (A.deeper (envOfC "law" (defScope s_law) s.heap.objs.size f cdv))) :
    Bd (cxOf CX0 P w K mg base ["_law_script", "_law_cell", "_law_tape_here", "_law_rule_here", "_law_kinds_here", "_law_strange"] "law" (defScope s_law) f cdv A outer s H E).nox (defBody s_law) (tS K (callF fns gv k) gv xr0 6 b_law) := by
  refine ⟨?_⟩
  refine pss_forW ?_ ?_ ?_ ?_ ?_ ?_ ?_
  exact rfl
  exact PassesOwn.never
  refine pi_of ?_
  refine pe_binW ?_ ?_
  refine pe_lstW ?_
  refine pa_consW ?_ ?_ ?_
  refine pe_callW ?_ ?_ ?_ ?_
  exact T1.f__law_cell_at
  exact hr
  exact rfl
  refine pa_consW ?_ ?_ ?_
  exact (vr 0)
  refine pa_consW ?_ ?_ ?_
  exact pe_intW
  exact pa_nilW
  exact rfl
  exact rfl
  exact pa_nilW
  exact rfl
  refine pe_slcW ?_ ?_ ?_
  exact (vr 0)
  refine po_someW ?_ ?_
  exact pe_intW
  exact rfl
  refine po_someW ?_ ?_
  exact pe_intW
  exact rfl
  exact (pg_nameW 1 sc_law.nd)
  exact (by decide)
  refine sg (i := 2) ?_ ?_ ?_
  exact sc_law.nd
  refine pe_callW ?_ ?_ ?_ ?_
  exact T1.f__law_tape
  exact hr
  exact rfl
  refine pa_consW ?_ ?_ ?_
  exact (vr 1)
  exact pa_nilW
  exact rfl
  refine sg (i := 3) ?_ ?_ ?_
  exact sc_law.nd
  refine pe_callW ?_ ?_ ?_ ?_
  exact T1.f__law_rule
  exact hr
  exact rfl
  refine pa_consW ?_ ?_ ?_
  exact (vr 2)
  exact pa_nilW
  exact rfl
  refine sg (i := 4) ?_ ?_ ?_
  exact sc_law.nd
  refine pe_callW ?_ ?_ ?_ ?_
  exact T1.f__law_kinds
  exact hr
  exact rfl
  refine pa_consW ?_ ?_ ?_
  exact (vr 2)
  exact pa_nilW
  exact rfl
  refine pss_ifW ?_ ?_ ?_ ?_
  refine PW.pt ?_
  refine pw_orW ?_ ?_
  refine pt_notW ?_
  refine pt_of ?_ ?_
  refine pe_callW ?_ ?_ ?_ ?_
  exact T1.f__law_is
  exact hr
  exact rfl
  refine pa_consW ?_ ?_ ?_
  exact (pe_fnvW T0.h_is_rule rfl rfl)
  refine pa_consW ?_ ?_ ?_
  exact (vr 3)
  refine pa_consW ?_ ?_ ?_
  exact pe_blW
  exact pa_nilW
  exact rfl
  exact rfl
  exact rfl
  exact (fun _ => rfl)
  refine pw_or1 ?_
  refine pt_notW ?_
  refine pt_of ?_ ?_
  refine pe_callW ?_ ?_ ?_ ?_
  exact T1.f__law_is
  exact hr
  exact rfl
  refine pa_consW ?_ ?_ ?_
  exact (pe_fnvW T0.h_are_borne rfl rfl)
  refine pa_consW ?_ ?_ ?_
  exact (vr 4)
  refine pa_consW ?_ ?_ ?_
  exact pe_blW
  exact pa_nilW
  exact rfl
  exact rfl
  exact rfl
  exact (fun _ => rfl)
  refine pss_retW ?_
  exact pe_blW
  exact pss_nilW
  refine pss_ifW ?_ ?_ ?_ ?_
  refine pt_notW ?_
  refine pt_of ?_ ?_
  refine pe_callW ?_ ?_ ?_ ?_
  exact T1.f__law_is
  exact hr
  exact rfl
  refine pa_consW ?_ ?_ ?_
  exact (pe_fnvW T0.h_are_borne rfl rfl)
  refine pa_consW ?_ ?_ ?_
  exact (vr 3)
  refine pa_consW ?_ ?_ ?_
  exact pe_blW
  exact pa_nilW
  exact rfl
  exact rfl
  exact rfl
  exact (fun _ => rfl)
  refine pss_retW ?_
  exact pe_blW
  exact pss_nilW
  refine pss_asgL (N' := ["_law_word"]) ?_ ?_ ?_ ?_ ?_ ?_ ?_
  exact rfl
  refine compK_mk ?_ ?_ ?_ ?_ ?_ ?_ ?_
  exact (by kernel_rfl)
  exact (by kernel_rfl)
  refine pi_of ?_
  exact (vr 4)
  exact (fun _ => rfl)
  intro _ _ _ _ _
  refine ⟨?_, ?_, ?_⟩
  exact (pg_nameW 0 (show List.Nodup (["_law_word"] : List Str) from by decide +kernel))
  refine ⟨?_, ?_⟩
  refine pt_cmpW ?_ ?_ ?_ ?_
  exact (vr 0)
  refine pe_tupW ?_
  refine pa_consW ?_ ?_ ?_
  exact (pe_strW (by decide +kernel))
  refine pa_consW ?_ ?_ ?_
  exact (pe_strW (by decide +kernel))
  refine pa_consW ?_ ?_ ?_
  exact (pe_strW (by decide +kernel))
  refine pa_consW ?_ ?_ ?_
  exact (pe_strW (by decide +kernel))
  exact pa_nilW
  exact rfl
  exact rfl
  exact rfl
  exact rfl
  exact (by with_unfolding_all rfl)
  exact hr.units
  exact True.intro
  refine ⟨?_, ?_⟩
  exact rfl
  exact (vr 0)
  exact (by decide)
  exact (by decide)
  exact sc_law.nd
  exact rfl
  exact rfl
  exact rfl
  refine pss_ifW ?_ ?_ ?_ ?_
  refine pt_notW ?_
  refine pt_of ?_ ?_
  refine pe_callW ?_ ?_ ?_ ?_
  exact T1.f__law_is
  exact hr
  exact rfl
  refine pa_consW ?_ ?_ ?_
  exact (pe_fnvW T0.h_is_rule rfl rfl)
  refine pa_consW ?_ ?_ ?_
  exact (vr 4)
  refine pa_consW ?_ ?_ ?_
  refine pe_cmpW ?_ ?_ ?_ ?_
  exact (vr 5)
  refine pe_lstW ?_
  exact pa_nilW
  exact (by with_unfolding_all rfl)
  exact hr.units
  exact pa_nilW
  exact rfl
  exact rfl
  exact rfl
  exact (fun _ => rfl)
  refine pss_retW ?_
  exact pe_blW
  exact pss_nilW
  refine pss_ifW ?_ ?_ ?_ ?_
  refine pt_notW ?_
  refine pt_of ?_ ?_
  refine pe_callW ?_ ?_ ?_ ?_
  exact T1.f__law_is
  exact hr
  exact rfl
  refine pa_consW ?_ ?_ ?_
  exact (pe_fnvW T0.h_is_rule rfl rfl)
  refine pa_consW ?_ ?_ ?_
  refine pe_callW ?_ ?_ ?_ ?_
  exact T1.f__law_others
  exact hr
  exact rfl
  refine pa_consW ?_ ?_ ?_
  exact (vr 2)
  refine pa_consW ?_ ?_ ?_
  exact (vr 3)
  refine pa_consW ?_ ?_ ?_
  exact pe_intW
  exact pa_nilW
  exact rfl
  exact rfl
  exact rfl
  refine pa_consW ?_ ?_ ?_
  exact pe_blW
  exact pa_nilW
  exact rfl
  exact rfl
  exact rfl
  exact (fun _ => rfl)
  refine pss_retW ?_
  exact pe_blW
  exact pss_nilW
  refine pss_ifW ?_ ?_ ?_ ?_
  refine pt_notW ?_
  refine pt_of ?_ ?_
  refine pe_callW ?_ ?_ ?_ ?_
  exact T1.f__law_is
  exact hr
  exact rfl
  refine pa_consW ?_ ?_ ?_
  exact (pe_fnvW T0.h_are_borne rfl rfl)
  refine pa_consW ?_ ?_ ?_
  refine pe_callW ?_ ?_ ?_ ?_
  exact T1.f__law_others
  exact hr
  exact rfl
  refine pa_consW ?_ ?_ ?_
  exact (vr 2)
  refine pa_consW ?_ ?_ ?_
  exact (vr 4)
  refine pa_consW ?_ ?_ ?_
  exact pe_intW
  exact pa_nilW
  exact rfl
  exact rfl
  exact rfl
  refine pa_consW ?_ ?_ ?_
  exact pe_blW
  exact pa_nilW
  exact rfl
  exact rfl
  exact rfl
  exact (fun _ => rfl)
  refine pss_retW ?_
  exact pe_blW
  exact pss_nilW
  exact pss_nilW
  refine pss_retW ?_
  refine pe_andW ?_ ?_
  refine pe_callW ?_ ?_ ?_ ?_
  exact T1.f__law_is
  exact hr
  exact rfl
  refine pa_consW ?_ ?_ ?_
  exact (pe_fnvW T0.h_is_rule rfl rfl)
  refine pa_consW ?_ ?_ ?_
  refine pe_tupW ?_
  exact pa_nilW
  refine pa_consW ?_ ?_ ?_
  exact pe_blW
  exact pa_nilW
  exact rfl
  exact rfl
  exact rfl
  refine pe_one ?_
  refine pe_callW ?_ ?_ ?_ ?_
  exact T1.f__law_is
  exact hr
  exact rfl
  refine pa_consW ?_ ?_ ?_
  exact (pe_fnvW T0.h_are_borne rfl rfl)
  refine pa_consW ?_ ?_ ?_
  refine pe_tupW ?_
  exact pa_nilW
  refine pa_consW ?_ ?_ ?_
  exact pe_blW
  exact pa_nilW
  exact rfl
  exact rfl
  exact rfl
end
structure TxtF (K : PySem.W.Frag) (mg : Str → Option Value) : Prop where
  f_is_long_word : ∃ f fd, Fun K "is_long_word" "is_long_word" s_is_long_word f fd ∧ mg "is_long_word" = some (.ref f) ∧ Binds K fd ["text"] []
  f_is_word : ∃ f fd, Fun K "is_word" "is_word" s_is_word f fd ∧ mg "is_word" = some (.ref f) ∧ Binds K fd ["thing"] []
  f_is_one_of : ∃ f fd, Fun K "is_one_of" "is_one_of" s_is_one_of f fd ∧ mg "is_one_of" = some (.ref f) ∧ Binds K fd ["thing", "texts"] []
  f_are_unlike : ∃ f fd, Fun K "are_unlike" "are_unlike" s_are_unlike f fd ∧ mg "are_unlike" = some (.ref f) ∧ Binds K fd ["words"] []
  f_is_rule : ∃ f fd, Fun K "is_rule" "is_rule" s_is_rule f fd ∧ mg "is_rule" = some (.ref f) ∧ Binds K fd ["thing"] []
  f_are_borne : ∃ f fd, Fun K "are_borne" "are_borne" s_are_borne f fd ∧ mg "are_borne" = some (.ref f) ∧ Binds K fd ["thing"] []
  f__law_cell_at : ∃ f fd, Fun K "_law_cell_at" "_law_cell_at" s__law_cell_at f fd ∧ mg "_law_cell_at" = some (.ref f) ∧ Binds K fd ["_law_script", "_law_k"] []
  f__law_tape : ∃ f fd, Fun K "_law_tape" "_law_tape" s__law_tape f fd ∧ mg "_law_tape" = some (.ref f) ∧ Binds K fd ["_law_cell"] []
  f__law_draw : ∃ f fd, Fun K "_law_draw" "_law_draw" s__law_draw f fd ∧ mg "_law_draw" = some (.ref f) ∧ Binds K fd ["_law_tape_here", "_law_many"] []
  f__law_pick : ∃ f fd, Fun K "_law_pick" "_law_pick" s__law_pick f fd ∧ mg "_law_pick" = some (.ref f) ∧ Binds K fd ["_law_tape_here", "_law_some"] []
  f__law_rule : ∃ f fd, Fun K "_law_rule" "_law_rule" s__law_rule f fd ∧ mg "_law_rule" = some (.ref f) ∧ Binds K fd ["_law_tape_here"] []
  f__law_any_word : ∃ f fd, Fun K "_law_any_word" "_law_any_word" s__law_any_word f fd ∧ mg "_law_any_word" = some (.ref f) ∧ Binds K fd ["_law_tape_here"] []
  f__law_kinds : ∃ f fd, Fun K "_law_kinds" "_law_kinds" s__law_kinds f fd ∧ mg "_law_kinds" = some (.ref f) ∧ Binds K fd ["_law_tape_here"] []
  f__law_others : ∃ f fd, Fun K "_law_others" "_law_others" s__law_others f fd ∧ mg "_law_others" = some (.ref f) ∧ Binds K fd ["_law_tape_here", "_law_good", "_law_most"] []
  f__law_is : ∃ f fd, Fun K "_law_is" "_law_is" s__law_is f fd ∧ mg "_law_is" = some (.ref f) ∧ Binds K fd ["_law_asked", "_law_thing", "_law_due"] []
  f_law : ∃ f fd, Fun K "law" "law" s_law f fd ∧ mg "law" = some (.ref f) ∧ Binds K fd ["_law_script"] []
theorem ok_is_long_word {P : Program} {w : World} {K : PySem.W.Frag} {mg : Str → Option Value} {base : Heap} {k : Nat} (T0 : Txt0 K mg) (TF : TxtF K mg) (ih : Txt1 P w K mg base k) : FOk P w K mg base fns gv (k + 1) "is_long_word" 0 := by
  obtain ⟨f, fd, F, m, b⟩ := TF.f_is_long_word
  refine ⟨f, fd, _, m, F.kp, b, ?_⟩
  refine fn_okV (fi := 0) (np := 1) (n := 1) (body := b_is_long_word) (cell := false) F sc_is_long_word ?_ ?_ ?_ ?_
  exact rfl
  exact rfl
  exact rfl
  intro _ _ _ _ _ _ hr
  refine ps_is_long_word ?_ ?_ ?_
  exact T0
  exact ih
  exact hr
theorem ok_is_word {P : Program} {w : World} {K : PySem.W.Frag} {mg : Str → Option Value} {base : Heap} {k : Nat} (T0 : Txt0 K mg) (TF : TxtF K mg) (ih : Txt1 P w K mg base k) : FOk P w K mg base fns gv (k + 1) "is_word" 1 := by
  obtain ⟨f, fd, F, m, b⟩ := TF.f_is_word
  refine ⟨f, fd, _, m, F.kp, b, ?_⟩
  refine fn_okV (fi := 1) (np := 1) (n := 1) (body := b_is_word) (cell := false) F sc_is_word ?_ ?_ ?_ ?_
  exact rfl
  exact rfl
  exact rfl
  intro _ _ _ _ _ _ hr
  refine ps_is_word ?_ ?_ ?_
  exact T0
  exact ih
  exact hr
theorem ok_is_one_of {P : Program} {w : World} {K : PySem.W.Frag} {mg : Str → Option Value} {base : Heap} {k : Nat} (T0 : Txt0 K mg) (TF : TxtF K mg) (ih : Txt1 P w K mg base k) : FOk P w K mg base fns gv (k + 1) "is_one_of" 2 := by
  obtain ⟨f, fd, F, m, b⟩ := TF.f_is_one_of
  refine ⟨f, fd, _, m, F.kp, b, ?_⟩
  refine fn_okV (fi := 2) (np := 2) (n := 2) (body := b_is_one_of) (cell := false) F sc_is_one_of ?_ ?_ ?_ ?_
  exact rfl
  exact rfl
  exact rfl
  intro _ _ _ _ _ _ hr
  refine ps_is_one_of ?_ ?_ ?_
  exact T0
  exact ih
  exact hr
theorem ok_are_unlike {P : Program} {w : World} {K : PySem.W.Frag} {mg : Str → Option Value} {base : Heap} {k : Nat} (T0 : Txt0 K mg) (TF : TxtF K mg) (ih : Txt1 P w K mg base k) : FOk P w K mg base fns gv (k + 1) "are_unlike" 3 := by
  obtain ⟨f, fd, F, m, b⟩ := TF.f_are_unlike
  refine ⟨f, fd, _, m, F.kp, b, ?_⟩
  refine fn_okV (fi := 3) (np := 1) (n := 1) (body := b_are_unlike) (cell := false) F sc_are_unlike ?_ ?_ ?_ ?_
  exact rfl
  exact rfl
  exact rfl
  intro _ _ _ _ _ _ hr
  refine ps_are_unlike ?_ ?_ ?_
  exact T0
  exact ih
  exact hr
theorem ok_is_rule {P : Program} {w : World} {K : PySem.W.Frag} {mg : Str → Option Value} {base : Heap} {k : Nat} (T0 : Txt0 K mg) (TF : TxtF K mg) (ih : Txt1 P w K mg base k) : FOk P w K mg base fns gv (k + 1) "is_rule" 4 := by
  obtain ⟨f, fd, F, m, b⟩ := TF.f_is_rule
  refine ⟨f, fd, _, m, F.kp, b, ?_⟩
  refine fn_okV (fi := 4) (np := 1) (n := 1) (body := b_is_rule) (cell := false) F sc_is_rule ?_ ?_ ?_ ?_
  exact rfl
  exact rfl
  exact rfl
  intro _ _ _ _ _ _ hr
  refine ps_is_rule ?_ ?_ ?_
  exact T0
  exact ih
  exact hr
theorem ok_are_borne {P : Program} {w : World} {K : PySem.W.Frag} {mg : Str → Option Value} {base : Heap} {k : Nat} (T0 : Txt0 K mg) (TF : TxtF K mg) (ih : Txt1 P w K mg base k) : FOk P w K mg base fns gv (k + 1) "are_borne" 5 := by
  obtain ⟨f, fd, F, m, b⟩ := TF.f_are_borne
  refine ⟨f, fd, _, m, F.kp, b, ?_⟩
  refine fn_okV (fi := 5) (np := 1) (n := 1) (body := b_are_borne) (cell := false) F sc_are_borne ?_ ?_ ?_ ?_
  exact rfl
  exact rfl
  exact rfl
  intro _ _ _ _ _ _ hr
  refine ps_are_borne ?_ ?_ ?_
  exact T0
  exact ih
  exact hr
theorem ok__law_cell_at {P : Program} {w : World} {K : PySem.W.Frag} {mg : Str → Option Value} {base : Heap} {k : Nat} (T0 : Txt0 K mg) (TF : TxtF K mg) (ih : Txt1 P w K mg base k) : FOk P w K mg base fns gv (k + 1) "_law_cell_at" 6 := by
  obtain ⟨f, fd, F, m, b⟩ := TF.f__law_cell_at
  refine ⟨f, fd, _, m, F.kp, b, ?_⟩
  refine fn_okV (fi := 6) (np := 2) (n := 2) (body := b__law_cell_at) (cell := false) F sc__law_cell_at ?_ ?_ ?_ ?_
  exact rfl
  exact rfl
  exact rfl
  intro _ _ _ _ _ _ hr
  refine ps__law_cell_at ?_ ?_ ?_
  exact T0
  exact ih
  exact hr
theorem ok__law_tape {P : Program} {w : World} {K : PySem.W.Frag} {mg : Str → Option Value} {base : Heap} {k : Nat} (T0 : Txt0 K mg) (TF : TxtF K mg) (ih : Txt1 P w K mg base k) : FOk P w K mg base fns gv (k + 1) "_law_tape" 7 := by
  obtain ⟨f, fd, F, m, b⟩ := TF.f__law_tape
  refine ⟨f, fd, _, m, F.kp, b, ?_⟩
  refine fn_okV (fi := 7) (np := 1) (n := 1) (body := b__law_tape) (cell := true) F sc__law_tape ?_ ?_ ?_ ?_
  exact rfl
  exact rfl
  exact rfl
  intro _ _ _ _ _ _ hr
  refine ps__law_tape ?_ ?_ ?_
  exact T0
  exact ih
  exact hr
theorem ok__law_draw {P : Program} {w : World} {K : PySem.W.Frag} {mg : Str → Option Value} {base : Heap} {k : Nat} (T0 : Txt0 K mg) (TF : TxtF K mg) (ih : Txt1 P w K mg base k) : FOk P w K mg base fns gv (k + 1) "_law_draw" 8 := by
  obtain ⟨f, fd, F, m, b⟩ := TF.f__law_draw
  refine ⟨f, fd, _, m, F.kp, b, ?_⟩
  refine fn_okV (fi := 8) (np := 2) (n := 4) (body := b__law_draw) (cell := false) F sc__law_draw ?_ ?_ ?_ ?_
  exact rfl
  exact rfl
  exact rfl
  intro _ _ _ _ _ _ hr
  refine ps__law_draw ?_ ?_ ?_
  exact T0
  exact ih
  exact hr
theorem ok__law_pick {P : Program} {w : World} {K : PySem.W.Frag} {mg : Str → Option Value} {base : Heap} {k : Nat} (T0 : Txt0 K mg) (TF : TxtF K mg) (ih : Txt1 P w K mg base k) : FOk P w K mg base fns gv (k + 1) "_law_pick" 9 := by
  obtain ⟨f, fd, F, m, b⟩ := TF.f__law_pick
  refine ⟨f, fd, _, m, F.kp, b, ?_⟩
  refine fn_okV (fi := 9) (np := 2) (n := 2) (body := b__law_pick) (cell := false) F sc__law_pick ?_ ?_ ?_ ?_
  exact rfl
  exact rfl
  exact rfl
  intro _ _ _ _ _ _ hr
  refine ps__law_pick ?_ ?_ ?_
  exact T0
  exact ih
  exact hr
theorem ok__law_rule {P : Program} {w : World} {K : PySem.W.Frag} {mg : Str → Option Value} {base : Heap} {k : Nat} (T0 : Txt0 K mg) (TF : TxtF K mg) (ih : Txt1 P w K mg base k) : FOk P w K mg base fns gv (k + 1) "_law_rule" 10 := by
  obtain ⟨f, fd, F, m, b⟩ := TF.f__law_rule
  refine ⟨f, fd, _, m, F.kp, b, ?_⟩
  refine fn_okV (fi := 10) (np := 1) (n := 4) (body := b__law_rule) (cell := false) F sc__law_rule ?_ ?_ ?_ ?_
  exact rfl
  exact rfl
  exact rfl
  intro _ _ _ _ _ _ hr
  refine ps__law_rule ?_ ?_ ?_
  exact T0
  exact ih
  exact hr
theorem ok__law_any_word {P : Program} {w : World} {K : PySem.W.Frag} {mg : Str → Option Value} {base : Heap} {k : Nat} (T0 : Txt0 K mg) (TF : TxtF K mg) (ih : Txt1 P w K mg base k) : FOk P w K mg base fns gv (k + 1) "_law_any_word" 11 := by
  obtain ⟨f, fd, F, m, b⟩ := TF.f__law_any_word
  refine ⟨f, fd, _, m, F.kp, b, ?_⟩
  refine fn_okV (fi := 11) (np := 1) (n := 2) (body := b__law_any_word) (cell := false) F sc__law_any_word ?_ ?_ ?_ ?_
  exact rfl
  exact rfl
  exact rfl
  intro _ _ _ _ _ _ hr
  refine ps__law_any_word ?_ ?_ ?_
  exact T0
  exact ih
  exact hr
theorem ok__law_kinds {P : Program} {w : World} {K : PySem.W.Frag} {mg : Str → Option Value} {base : Heap} {k : Nat} (T0 : Txt0 K mg) (TF : TxtF K mg) (ih : Txt1 P w K mg base k) : FOk P w K mg base fns gv (k + 1) "_law_kinds" 12 := by
  obtain ⟨f, fd, F, m, b⟩ := TF.f__law_kinds
  refine ⟨f, fd, _, m, F.kp, b, ?_⟩
  refine fn_okV (fi := 12) (np := 1) (n := 5) (body := b__law_kinds) (cell := false) F sc__law_kinds ?_ ?_ ?_ ?_
  exact rfl
  exact rfl
  exact rfl
  intro _ _ _ _ _ _ hr
  refine ps__law_kinds ?_ ?_ ?_
  exact T0
  exact ih
  exact hr
theorem ok__law_others {P : Program} {w : World} {K : PySem.W.Frag} {mg : Str → Option Value} {base : Heap} {k : Nat} (T0 : Txt0 K mg) (TF : TxtF K mg) (ih : Txt1 P w K mg base k) : FOk P w K mg base fns gv (k + 1) "_law_others" 13 := by
  obtain ⟨f, fd, F, m, b⟩ := TF.f__law_others
  refine ⟨f, fd, _, m, F.kp, b, ?_⟩
  refine fn_okV (fi := 13) (np := 3) (n := 6) (body := b__law_others) (cell := false) F sc__law_others ?_ ?_ ?_ ?_
  exact rfl
  exact rfl
  exact rfl
  intro _ _ _ _ _ _ hr
  refine ps__law_others ?_ ?_ ?_
  exact T0
  exact ih
  exact hr
theorem ok__law_is {P : Program} {w : World} {K : PySem.W.Frag} {mg : Str → Option Value} {base : Heap} {k : Nat} (T0 : Txt0 K mg) (TF : TxtF K mg) (ih : Txt1 P w K mg base k) : FOk P w K mg base fns gv (k + 1) "_law_is" 14 := by
  obtain ⟨f, fd, F, m, b⟩ := TF.f__law_is
  refine ⟨f, fd, _, m, F.kp, b, ?_⟩
  refine fn_okV (fi := 14) (np := 3) (n := 5) (body := b__law_is) (cell := false) F sc__law_is ?_ ?_ ?_ ?_
  exact rfl
  exact rfl
  exact rfl
  intro _ _ _ _ _ _ hr
  refine ps__law_is ?_ ?_ ?_
  exact T0
  exact ih
  exact hr
theorem ok_law {P : Program} {w : World} {K : PySem.W.Frag} {mg : Str → Option Value} {base : Heap} {k : Nat} (T0 : Txt0 K mg) (TF : TxtF K mg) (ih : Txt1 P w K mg base k) : FOk P w K mg base fns gv (k + 1) "law" 15 := by
  obtain ⟨f, fd, F, m, b⟩ := TF.f_law
  refine ⟨f, fd, _, m, F.kp, b, ?_⟩
  refine fn_okV (fi := 15) (np := 1) (n := 6) (body := b_law) (cell := false) F sc_law ?_ ?_ ?_ ?_
  exact rfl
  exact rfl
  exact rfl
  intro _ _ _ _ _ _ hr
  refine ps_law ?_ ?_ ?_
  exact T0
  exact ih
  exact hr
theorem all_ok {P : Program} {w : World} {K : PySem.W.Frag} {mg : Str → Option Value} {base : Heap} (T0 : Txt0 K mg) (TF : TxtF K mg) : ∀ k : Nat, Txt1 P w K mg base k
  | 0 => ⟨(let ⟨_, _, F, m, b⟩ := TF.f_is_long_word; ⟨_, _, _, m, F.kp, b, fn_none⟩), (let ⟨_, _, F, m, b⟩ := TF.f_is_word; ⟨_, _, _, m, F.kp, b, fn_none⟩), (let ⟨_, _, F, m, b⟩ := TF.f_is_one_of; ⟨_, _, _, m, F.kp, b, fn_none⟩), (let ⟨_, _, F, m, b⟩ := TF.f_are_unlike; ⟨_, _, _, m, F.kp, b, fn_none⟩), (let ⟨_, _, F, m, b⟩ := TF.f_is_rule; ⟨_, _, _, m, F.kp, b, fn_none⟩), (let ⟨_, _, F, m, b⟩ := TF.f_are_borne; ⟨_, _, _, m, F.kp, b, fn_none⟩), (let ⟨_, _, F, m, b⟩ := TF.f__law_cell_at; ⟨_, _, _, m, F.kp, b, fn_none⟩), (let ⟨_, _, F, m, b⟩ := TF.f__law_tape; ⟨_, _, _, m, F.kp, b, fn_none⟩), (let ⟨_, _, F, m, b⟩ := TF.f__law_draw; ⟨_, _, _, m, F.kp, b, fn_none⟩), (let ⟨_, _, F, m, b⟩ := TF.f__law_pick; ⟨_, _, _, m, F.kp, b, fn_none⟩), (let ⟨_, _, F, m, b⟩ := TF.f__law_rule; ⟨_, _, _, m, F.kp, b, fn_none⟩), (let ⟨_, _, F, m, b⟩ := TF.f__law_any_word; ⟨_, _, _, m, F.kp, b, fn_none⟩), (let ⟨_, _, F, m, b⟩ := TF.f__law_kinds; ⟨_, _, _, m, F.kp, b, fn_none⟩), (let ⟨_, _, F, m, b⟩ := TF.f__law_others; ⟨_, _, _, m, F.kp, b, fn_none⟩), (let ⟨_, _, F, m, b⟩ := TF.f__law_is; ⟨_, _, _, m, F.kp, b, fn_none⟩), (let ⟨_, _, F, m, b⟩ := TF.f_law; ⟨_, _, _, m, F.kp, b, fn_none⟩)⟩
  | k + 1 =>
    have ih := all_ok T0 TF k
    ⟨ok_is_long_word T0 TF ih, ok_is_word T0 TF ih, ok_is_one_of T0 TF ih, ok_are_unlike T0 TF ih, ok_is_rule T0 TF ih, ok_are_borne T0 TF ih, ok__law_cell_at T0 TF ih, ok__law_tape T0 TF ih, ok__law_draw T0 TF ih, ok__law_pick T0 TF ih, ok__law_rule T0 TF ih, ok__law_any_word T0 TF ih, ok__law_kinds T0 TF ih, ok__law_others T0 TF ih, ok__law_is T0 TF ih, ok_law T0 TF ih⟩
end My
end
section
set_option linter.all false
set_option maxRecDepth 100000
set_option maxHeartbeats 1000000
namespace My
open PySem PySem.Spec PyProof.Rows L2 Mi
theorem us_1 {α : Type} {P : List α → Prop} {us : List α} (hl : us.length = 1) (h : ∀ x0 : α, P [x0]) : P us := by
  rcases us with _ | ⟨x0, us⟩
  · simp at hl
  rcases us with _ | ⟨y, us⟩
  · exact h x0
  · simp at hl
theorem us_2 {α : Type} {P : List α → Prop} {us : List α} (hl : us.length = 2) (h : ∀ x0 x1 : α, P [x0, x1]) : P us := by
  rcases us with _ | ⟨x0, us⟩
  · simp at hl
  rcases us with _ | ⟨x1, us⟩
  · simp at hl
  rcases us with _ | ⟨y, us⟩
  · exact h x0 x1
  · simp at hl
theorem us_3 {α : Type} {P : List α → Prop} {us : List α} (hl : us.length = 3) (h : ∀ x0 x1 x2 : α, P [x0, x1, x2]) : P us := by
  rcases us with _ | ⟨x0, us⟩
  · simp at hl
  rcases us with _ | ⟨x1, us⟩
  · simp at hl
  rcases us with _ | ⟨x2, us⟩
  · simp at hl
  rcases us with _ | ⟨y, us⟩
  · exact h x0 x1 x2
  · simp at hl
theorem all_mk {l : PySem.W.OpenLaw} {w : World} {K : PySem.W.Frag} {h : Heap} {mg : Str → Option Value} {fa f0 f1 f2 f3 f4 f5 f6 f7 f8 f9 f10 f11 f12 f13 f14 f15 : Addr} (X : K.In h) (G : h.Ns mainGlobals mg) (hfa : mg "law" = some (.ref fa))
    {od0 an0 od1 an1 od2 an2 od3 an3 od4 an4 od5 an5 od6 an6 od7 an7 od8 an8 od9 an9 od10 an10 od11 an11 od12 an12 od13 an13 od14 an14 od15 an15 : Option Addr} {sl0 sl1 sl2 sl3 sl4 sl5 sl6 sl7 sl8 sl9 sl10 sl11 sl12 sl13 sl14 sl15 : Array (Option Value)} {oc0 kV0 dc0 pm0 cd0 ct0 oc1 kV1 dc1 pm1 cd1 ct1 oc2 kV2 dc2 pm2 cd2 ct2 oc3 kV3 dc3 pm3 cd3 ct3 oc4 kV4 dc4 pm4 cd4 ct4 oc5 kV5 dc5 pm5 cd5 ct5 oc6 kV6 dc6 pm6 cd6 ct6 oc7 kV7 dc7 pm7 cd7 ct7 oc8 kV8 dc8 pm8 cd8 ct8 oc9 kV9 dc9 pm9 cd9 ct9 oc10 kV10 dc10 pm10 cd10 ct10 oc11 kV11 dc11 pm11 cd11 ct11 oc12 kV12 dc12 pm12 cd12 ct12 oc13 kV13 dc13 pm13 cd13 ct13 oc14 kV14 dc14 pm14 cd14 ct14 oc15 kV15 dc15 pm15 cd15 ct15 : Value}
    (a0 : PySem.W.nsIn K mainGlobals "is_long_word" = some (some (.ref f0))) (l0 : K.lookup f0 = some ⟨oc0, od0, .func (PySem.W.fnOf "is_long_word" "is_long_word" (defArgs s_is_long_word) (defBody s_is_long_word) (defScope s_is_long_word) .none kV0 dc0 pm0 an0 cd0 ct0), sl0⟩) (c0 : PySem.W.codeIn K cd0 "is_long_word" = true) (k0 : PySem.W.keepIn K (.ref f0) = true)
    (a1 : PySem.W.nsIn K mainGlobals "is_word" = some (some (.ref f1))) (l1 : K.lookup f1 = some ⟨oc1, od1, .func (PySem.W.fnOf "is_word" "is_word" (defArgs s_is_word) (defBody s_is_word) (defScope s_is_word) .none kV1 dc1 pm1 an1 cd1 ct1), sl1⟩) (c1 : PySem.W.codeIn K cd1 "is_word" = true) (k1 : PySem.W.keepIn K (.ref f1) = true)
    (a2 : PySem.W.nsIn K mainGlobals "is_one_of" = some (some (.ref f2))) (l2 : K.lookup f2 = some ⟨oc2, od2, .func (PySem.W.fnOf "is_one_of" "is_one_of" (defArgs s_is_one_of) (defBody s_is_one_of) (defScope s_is_one_of) .none kV2 dc2 pm2 an2 cd2 ct2), sl2⟩) (c2 : PySem.W.codeIn K cd2 "is_one_of" = true) (k2 : PySem.W.keepIn K (.ref f2) = true)
    (a3 : PySem.W.nsIn K mainGlobals "are_unlike" = some (some (.ref f3))) (l3 : K.lookup f3 = some ⟨oc3, od3, .func (PySem.W.fnOf "are_unlike" "are_unlike" (defArgs s_are_unlike) (defBody s_are_unlike) (defScope s_are_unlike) .none kV3 dc3 pm3 an3 cd3 ct3), sl3⟩) (c3 : PySem.W.codeIn K cd3 "are_unlike" = true) (k3 : PySem.W.keepIn K (.ref f3) = true)
    (a4 : PySem.W.nsIn K mainGlobals "is_rule" = some (some (.ref f4))) (l4 : K.lookup f4 = some ⟨oc4, od4, .func (PySem.W.fnOf "is_rule" "is_rule" (defArgs s_is_rule) (defBody s_is_rule) (defScope s_is_rule) .none kV4 dc4 pm4 an4 cd4 ct4), sl4⟩) (c4 : PySem.W.codeIn K cd4 "is_rule" = true) (k4 : PySem.W.keepIn K (.ref f4) = true)
    (a5 : PySem.W.nsIn K mainGlobals "are_borne" = some (some (.ref f5))) (l5 : K.lookup f5 = some ⟨oc5, od5, .func (PySem.W.fnOf "are_borne" "are_borne" (defArgs s_are_borne) (defBody s_are_borne) (defScope s_are_borne) .none kV5 dc5 pm5 an5 cd5 ct5), sl5⟩) (c5 : PySem.W.codeIn K cd5 "are_borne" = true) (k5 : PySem.W.keepIn K (.ref f5) = true)
    (a6 : PySem.W.nsIn K mainGlobals "_law_cell_at" = some (some (.ref f6))) (l6 : K.lookup f6 = some ⟨oc6, od6, .func (PySem.W.fnOf "_law_cell_at" "_law_cell_at" (defArgs s__law_cell_at) (defBody s__law_cell_at) (defScope s__law_cell_at) .none kV6 dc6 pm6 an6 cd6 ct6), sl6⟩) (c6 : PySem.W.codeIn K cd6 "_law_cell_at" = true) (k6 : PySem.W.keepIn K (.ref f6) = true)
    (a7 : PySem.W.nsIn K mainGlobals "_law_tape" = some (some (.ref f7))) (l7 : K.lookup f7 = some ⟨oc7, od7, .func (PySem.W.fnOf "_law_tape" "_law_tape" (defArgs s__law_tape) (defBody s__law_tape) (defScope s__law_tape) .none kV7 dc7 pm7 an7 cd7 ct7), sl7⟩) (c7 : PySem.W.codeIn K cd7 "_law_tape" = true) (k7 : PySem.W.keepIn K (.ref f7) = true)
    (a8 : PySem.W.nsIn K mainGlobals "_law_draw" = some (some (.ref f8))) (l8 : K.lookup f8 = some ⟨oc8, od8, .func (PySem.W.fnOf "_law_draw" "_law_draw" (defArgs s__law_draw) (defBody s__law_draw) (defScope s__law_draw) .none kV8 dc8 pm8 an8 cd8 ct8), sl8⟩) (c8 : PySem.W.codeIn K cd8 "_law_draw" = true) (k8 : PySem.W.keepIn K (.ref f8) = true)
    (a9 : PySem.W.nsIn K mainGlobals "_law_pick" = some (some (.ref f9))) (l9 : K.lookup f9 = some ⟨oc9, od9, .func (PySem.W.fnOf "_law_pick" "_law_pick" (defArgs s__law_pick) (defBody s__law_pick) (defScope s__law_pick) .none kV9 dc9 pm9 an9 cd9 ct9), sl9⟩) (c9 : PySem.W.codeIn K cd9 "_law_pick" = true) (k9 : PySem.W.keepIn K (.ref f9) = true)
    (a10 : PySem.W.nsIn K mainGlobals "_law_rule" = some (some (.ref f10))) (l10 : K.lookup f10 = some ⟨oc10, od10, .func (PySem.W.fnOf "_law_rule" "_law_rule" (defArgs s__law_rule) (defBody s__law_rule) (defScope s__law_rule) .none kV10 dc10 pm10 an10 cd10 ct10), sl10⟩) (c10 : PySem.W.codeIn K cd10 "_law_rule" = true) (k10 : PySem.W.keepIn K (.ref f10) = true)
    (a11 : PySem.W.nsIn K mainGlobals "_law_any_word" = some (some (.ref f11))) (l11 : K.lookup f11 = some ⟨oc11, od11, .func (PySem.W.fnOf "_law_any_word" "_law_any_word" (defArgs s__law_any_word) (defBody s__law_any_word) (defScope s__law_any_word) .none kV11 dc11 pm11 an11 cd11 ct11), sl11⟩) (c11 : PySem.W.codeIn K cd11 "_law_any_word" = true) (k11 : PySem.W.keepIn K (.ref f11) = true)
    (a12 : PySem.W.nsIn K mainGlobals "_law_kinds" = some (some (.ref f12))) (l12 : K.lookup f12 = some ⟨oc12, od12, .func (PySem.W.fnOf "_law_kinds" "_law_kinds" (defArgs s__law_kinds) (defBody s__law_kinds) (defScope s__law_kinds) .none kV12 dc12 pm12 an12 cd12 ct12), sl12⟩) (c12 : PySem.W.codeIn K cd12 "_law_kinds" = true) (k12 : PySem.W.keepIn K (.ref f12) = true)
    (a13 : PySem.W.nsIn K mainGlobals "_law_others" = some (some (.ref f13))) (l13 : K.lookup f13 = some ⟨oc13, od13, .func (PySem.W.fnOf "_law_others" "_law_others" (defArgs s__law_others) (defBody s__law_others) (defScope s__law_others) .none kV13 dc13 pm13 an13 cd13 ct13), sl13⟩) (c13 : PySem.W.codeIn K cd13 "_law_others" = true) (k13 : PySem.W.keepIn K (.ref f13) = true)
    (a14 : PySem.W.nsIn K mainGlobals "_law_is" = some (some (.ref f14))) (l14 : K.lookup f14 = some ⟨oc14, od14, .func (PySem.W.fnOf "_law_is" "_law_is" (defArgs s__law_is) (defBody s__law_is) (defScope s__law_is) .none kV14 dc14 pm14 an14 cd14 ct14), sl14⟩) (c14 : PySem.W.codeIn K cd14 "_law_is" = true) (k14 : PySem.W.keepIn K (.ref f14) = true)
    (a15 : PySem.W.nsIn K mainGlobals "law" = some (some (.ref f15))) (l15 : K.lookup f15 = some ⟨oc15, od15, .func (PySem.W.fnOf "law" "law" (defArgs s_law) (defBody s_law) (defScope s_law) .none kV15 dc15 pm15 an15 cd15 ct15), sl15⟩) (c15 : PySem.W.codeIn K cd15 "law" = true) (k15 : PySem.W.keepIn K (.ref f15) = true)
    {t0 : Tok} (gv0 : PySem.W.nsIn K mainGlobals "LETTERS" = some (some (.str "abcdefghijklmnopqrstuvwxyz" t0)))
    {t1 : Tok} (gv1 : PySem.W.nsIn K mainGlobals "LONGEST_WORD" = some (some (.int 8 t1)))
    {ga2 : Addr} {its2 : Array Value} {gn2 : Nat} {gsl2 : Array (Option Value)} (gv2 : PySem.W.nsIn K mainGlobals "WISH_WORDS" = some (some (.ref ga2))) (gl2 : K.lookup ga2 = some ⟨.type "tuple", none, .seq its2 gn2, gsl2⟩) (gz2 : its2.size ≤ sizeLine) (gs2 : StrsV [[97, 110, 121], [105, 115], [98, 121], [110, 111, 116], [97, 110, 100], [111, 114]] its2.toList)
    {ga3 : Addr} {its3 : Array Value} {gn3 : Nat} {gsl3 : Array (Option Value)} (gv3 : PySem.W.nsIn K mainGlobals "RULE_WORDS" = some (some (.ref ga3))) (gl3 : K.lookup ga3 = some ⟨.type "tuple", none, .seq its3 gn3, gsl3⟩) (gz3 : its3.size ≤ sizeLine) (gs3 : StrsV [[104, 101, 97, 118, 121], [103, 114, 101, 97, 116], [115, 109, 97, 108, 108], [115, 111, 111, 110]] its3.toList)
    {t4 : Tok} (gv4 : PySem.W.nsIn K mainGlobals "MOST_RULE_WORDS" = some (some (.int 3 t4)))
    {t5 : Tok} (gv5 : PySem.W.nsIn K mainGlobals "MOST_BORNE" = some (some (.int 4 t5)))
    (z0 : PySem.W.nsIn K mainGlobals "all" = some none)
    (z1 : PySem.W.nsIn K mainGlobals "bool" = some none)
    (z2 : PySem.W.nsIn K mainGlobals "int" = some none)
    (z3 : PySem.W.nsIn K mainGlobals "isinstance" = some none)
    (z4 : PySem.W.nsIn K mainGlobals "len" = some none)
    (z5 : PySem.W.nsIn K mainGlobals "list" = some none)
    (z6 : PySem.W.nsIn K mainGlobals "range" = some none)
    (z7 : PySem.W.nsIn K mainGlobals "set" = some none)
    (z8 : PySem.W.nsIn K mainGlobals "str" = some none)
    (z9 : PySem.W.nsIn K mainGlobals "tuple" = some none)
    (hx0 : PySem.W.nsIn K mainGlobals "is_rule" = some (some (.ref 47)))
    (hx1 : PySem.W.nsIn K mainGlobals "are_borne" = some (some (.ref 52)))
    : ∃ fd : FuncData, (∀ (s : Shared) (v : Value), BindsTo s fd ⟨[v], []⟩ [("_law_script", v)]) ∧ ∀ base : Heap, K.In base → base.Ns mainGlobals mg → FnOk l.prog w K mg base CX0 41 fa fd ["_law_script"] (spF K fns gv 41 15) := by
  have e := hfa.symm.trans (PySem.W.mg_of X G a15)
  cases e
  have F0 := fun_mk (st := s_is_long_word) l0 c0 k0
  have b0 := F0.binds (ps := ["text"]) fun _ _ _ _ _ _ us hl => us_1 (us := us) (P := fun us => bindArgs _ ⟨us, []⟩ = pure (List.zip _ us)) hl fun _ => rfl
  have F1 := fun_mk (st := s_is_word) l1 c1 k1
  have b1 := F1.binds (ps := ["thing"]) fun _ _ _ _ _ _ us hl => us_1 (us := us) (P := fun us => bindArgs _ ⟨us, []⟩ = pure (List.zip _ us)) hl fun _ => rfl
  have F2 := fun_mk (st := s_is_one_of) l2 c2 k2
  have b2 := F2.binds (ps := ["thing", "texts"]) fun _ _ _ _ _ _ us hl => us_2 (us := us) (P := fun us => bindArgs _ ⟨us, []⟩ = pure (List.zip _ us)) hl fun _ _ => rfl
  have F3 := fun_mk (st := s_are_unlike) l3 c3 k3
  have b3 := F3.binds (ps := ["words"]) fun _ _ _ _ _ _ us hl => us_1 (us := us) (P := fun us => bindArgs _ ⟨us, []⟩ = pure (List.zip _ us)) hl fun _ => rfl
  have F4 := fun_mk (st := s_is_rule) l4 c4 k4
  have b4 := F4.binds (ps := ["thing"]) fun _ _ _ _ _ _ us hl => us_1 (us := us) (P := fun us => bindArgs _ ⟨us, []⟩ = pure (List.zip _ us)) hl fun _ => rfl
  have F5 := fun_mk (st := s_are_borne) l5 c5 k5
  have b5 := F5.binds (ps := ["thing"]) fun _ _ _ _ _ _ us hl => us_1 (us := us) (P := fun us => bindArgs _ ⟨us, []⟩ = pure (List.zip _ us)) hl fun _ => rfl
  have F6 := fun_mk (st := s__law_cell_at) l6 c6 k6
  have b6 := F6.binds (ps := ["_law_script", "_law_k"]) fun _ _ _ _ _ _ us hl => us_2 (us := us) (P := fun us => bindArgs _ ⟨us, []⟩ = pure (List.zip _ us)) hl fun _ _ => rfl
  have F7 := fun_mk (st := s__law_tape) l7 c7 k7
  have b7 := F7.binds (ps := ["_law_cell"]) fun _ _ _ _ _ _ us hl => us_1 (us := us) (P := fun us => bindArgs _ ⟨us, []⟩ = pure (List.zip _ us)) hl fun _ => rfl
  have F8 := fun_mk (st := s__law_draw) l8 c8 k8
  have b8 := F8.binds (ps := ["_law_tape_here", "_law_many"]) fun _ _ _ _ _ _ us hl => us_2 (us := us) (P := fun us => bindArgs _ ⟨us, []⟩ = pure (List.zip _ us)) hl fun _ _ => rfl
  have F9 := fun_mk (st := s__law_pick) l9 c9 k9
  have b9 := F9.binds (ps := ["_law_tape_here", "_law_some"]) fun _ _ _ _ _ _ us hl => us_2 (us := us) (P := fun us => bindArgs _ ⟨us, []⟩ = pure (List.zip _ us)) hl fun _ _ => rfl
  have F10 := fun_mk (st := s__law_rule) l10 c10 k10
  have b10 := F10.binds (ps := ["_law_tape_here"]) fun _ _ _ _ _ _ us hl => us_1 (us := us) (P := fun us => bindArgs _ ⟨us, []⟩ = pure (List.zip _ us)) hl fun _ => rfl
  have F11 := fun_mk (st := s__law_any_word) l11 c11 k11
  have b11 := F11.binds (ps := ["_law_tape_here"]) fun _ _ _ _ _ _ us hl => us_1 (us := us) (P := fun us => bindArgs _ ⟨us, []⟩ = pure (List.zip _ us)) hl fun _ => rfl
  have F12 := fun_mk (st := s__law_kinds) l12 c12 k12
  have b12 := F12.binds (ps := ["_law_tape_here"]) fun _ _ _ _ _ _ us hl => us_1 (us := us) (P := fun us => bindArgs _ ⟨us, []⟩ = pure (List.zip _ us)) hl fun _ => rfl
  have F13 := fun_mk (st := s__law_others) l13 c13 k13
  have b13 := F13.binds (ps := ["_law_tape_here", "_law_good", "_law_most"]) fun _ _ _ _ _ _ us hl => us_3 (us := us) (P := fun us => bindArgs _ ⟨us, []⟩ = pure (List.zip _ us)) hl fun _ _ _ => rfl
  have F14 := fun_mk (st := s__law_is) l14 c14 k14
  have b14 := F14.binds (ps := ["_law_asked", "_law_thing", "_law_due"]) fun _ _ _ _ _ _ us hl => us_3 (us := us) (P := fun us => bindArgs _ ⟨us, []⟩ = pure (List.zip _ us)) hl fun _ _ _ => rfl
  have F15 := fun_mk (st := s_law) l15 c15 k15
  have b15 := F15.binds (ps := ["_law_script"]) fun _ _ _ _ _ _ us hl => us_1 (us := us) (P := fun us => bindArgs _ ⟨us, []⟩ = pure (List.zip _ us)) hl fun _ => rfl
  have T0 : Txt0 K mg := ⟨PySem.W.mg_none_of X G z0, PySem.W.mg_none_of X G z1, PySem.W.mg_none_of X G z2, PySem.W.mg_none_of X G z3, PySem.W.mg_none_of X G z4, PySem.W.mg_none_of X G z5, PySem.W.mg_none_of X G z6, PySem.W.mg_none_of X G z7, PySem.W.mg_none_of X G z8, PySem.W.mg_none_of X G z9, glob_str (PySem.W.mg_of X G gv0) (by decide +kernel), glob_int (PySem.W.mg_of X G gv1), glob_strs (PySem.W.mg_of X G gv2) gl2 gz2 gs2, glob_strs (PySem.W.mg_of X G gv3) gl3 gz3 gs3, glob_int (PySem.W.mg_of X G gv4), glob_int (PySem.W.mg_of X G gv5), PySem.W.mg_of X G hx0, PySem.W.mg_of X G hx1⟩
  have TF : TxtF K mg := ⟨⟨_, _, F0, PySem.W.mg_of X G a0, b0⟩, ⟨_, _, F1, PySem.W.mg_of X G a1, b1⟩, ⟨_, _, F2, PySem.W.mg_of X G a2, b2⟩, ⟨_, _, F3, PySem.W.mg_of X G a3, b3⟩, ⟨_, _, F4, PySem.W.mg_of X G a4, b4⟩, ⟨_, _, F5, PySem.W.mg_of X G a5, b5⟩, ⟨_, _, F6, PySem.W.mg_of X G a6, b6⟩, ⟨_, _, F7, PySem.W.mg_of X G a7, b7⟩, ⟨_, _, F8, PySem.W.mg_of X G a8, b8⟩, ⟨_, _, F9, PySem.W.mg_of X G a9, b9⟩, ⟨_, _, F10, PySem.W.mg_of X G a10, b10⟩, ⟨_, _, F11, PySem.W.mg_of X G a11, b11⟩, ⟨_, _, F12, PySem.W.mg_of X G a12, b12⟩, ⟨_, _, F13, PySem.W.mg_of X G a13, b13⟩, ⟨_, _, F14, PySem.W.mg_of X G a14, b14⟩, ⟨_, _, F15, PySem.W.mg_of X G a15, b15⟩⟩
  refine ⟨PySem.W.fnOf "law" "law" (defArgs s_law) (defBody s_law) (defScope s_law) .none kV15 dc15 pm15 an15 cd15 ct15, fun s v => .of_eq rfl, fun base _ _ => ?_⟩
  refine fn_okV (fi := 15) (np := 1) (n := 6) (body := b_law) (cell := false) F15 sc_law ?_ ?_ ?_ ?_
  exact rfl
  exact rfl
  exact rfl
  intro _ _ _ _ _ _ hr
  refine ps_law ?_ ?_ ?_
  exact T0
  exact all_ok T0 TF 40
  exact hr
theorem walk {l : PySem.W.OpenLaw} {q : Program} {loose : List Str} {XP : (Str → Option Value) → Heap → Prop} {YP : World → Heap → Prop} {d : DefRec} {K : Params → PySem.W.Frag} (hn : l.most = some 63) (hdf : d.params.defaults = [])
    (hY : ∀ (w : World) (h : Heap), YP w h → (K w.params).In h)
    (F : ∀ (w : World) (mg : Str → Option Value) (fa : Addr) (h : Heap), (K w.params).In h → h.Ns mainGlobals mg → mg d.name = some (.ref fa) →
      ∃ fd : FuncData, (∀ (s : Shared) (u : Value), BindsTo s fd ⟨[u], []⟩ [("_law_script", u)]) ∧ ∀ base : Heap, (K w.params).In base → base.Ns mainGlobals mg → FnOk l.prog w (K w.params) mg base CX0 41 fa fd ["_law_script"] (spF (K w.params) fns gv 41 15)) :
    PySem.W.WalkO q loose XP YP l.row.toRowW d [] (fun f vs => PySem.call f vs) :=
  L2.walk_of (n := 63) (k := 41) (x := "_law_script") (CX := fun _ => CX0) (sp := fun w => spF (K w.params) fns gv 41 15) hn (by decide) hdf ⟨rfl, by decide, by decide⟩ hY F (fun _ _ a ns hl hO hS => law_sp hO hS (law_true ns hl)) fun _ _ _ _ _ z => z
theorem walkX {l : PySem.W.OpenLaw} {q : Program} {loose : List Str} {XP : (Str → Option Value) → Heap → Prop} {d : DefRec} {K : Params → PySem.W.Frag} {as : List Addr} {n t : Nat} (hn : l.most = some 63) (hdf : d.params.defaults = []) (he : ∀ P, as = (K P).map (·.1))
    (F : ∀ (w : World) (mg : Str → Option Value) (fa : Addr) (h : Heap), (K w.params).In h → h.Ns mainGlobals mg → mg d.name = some (.ref fa) →
      ∃ fd : FuncData, (∀ (s : Shared) (u : Value), BindsTo s fd ⟨[u], []⟩ [("_law_script", u)]) ∧ ∀ base : Heap, (K w.params).In base → base.Ns mainGlobals mg → FnOk l.prog w (K w.params) mg base CX0 41 fa fd ["_law_script"] (spF (K w.params) fns gv 41 15)) :
    PySem.W.WalkX q loose XP (PySem.W.X.obsZ as) (PySem.W.X.valZ K n t) l.row.toRowW d [] (fun f vs => PySem.call f vs) := by
  intro w s₀ s₁ mg mb G y fa o pm cd doc dV kV ho hd hcd hD hmg hg args vals as' L
  exact walk (YP := fun w h => (K w.params).In h) hn hdf (fun _ _ h => h) F w s₀ s₁ mg mb G (PySem.W.InK.keeps w _ _ (PySem.W.X.z_facts he y).2.1 (PySem.W.Laid.keeps L)) fa o pm cd doc dV kV ho hd hcd hD hmg hg args vals as'
end My
open PySem PySem.W PyProof.Rows
set_option maxRecDepth 100000 in
set_option maxHeartbeats 0 in
theorem PySem.Challenge.cw_matepoint_k41_rules_and_kinds_borne_holds : PySem.Challenge.rw_matepoint_k41_rules_and_kinds_borne.Holds := by
  w_on; o_law; z_head; (case hw => w_witness2)
  k_fill
  refine My.walkX (l := PySem.Challenge.rw_matepoint_k41_rules_and_kinds_borne) rfl rfl (fun _ => rfl) ?F
  case F =>
    intro w mg fa h KX G hmg
    refine' My.all_mk KX G hmg ?a0 ?l0 ?c0 ?k0 ?a1 ?l1 ?c1 ?k1 ?a2 ?l2 ?c2 ?k2 ?a3 ?l3 ?c3 ?k3 ?a4 ?l4 ?c4 ?k4 ?a5 ?l5 ?c5 ?k5 ?a6 ?l6 ?c6 ?k6 ?a7 ?l7 ?c7 ?k7 ?a8 ?l8 ?c8 ?k8 ?a9 ?l9 ?c9 ?k9 ?a10 ?l10 ?c10 ?k10 ?a11 ?l11 ?c11 ?k11 ?a12 ?l12 ?c12 ?k12 ?a13 ?l13 ?c13 ?k13 ?a14 ?l14 ?c14 ?k14 ?a15 ?l15 ?c15 ?k15 ?gv0 ?gv1 ?gv2 ?gl2 ?gz2 ?gs2 ?gv3 ?gl3 ?gz3 ?gs3 ?gv4 ?gv5 ?z0 ?z1 ?z2 ?z3 ?z4 ?z5 ?z6 ?z7 ?z8 ?z9 ?hx0 ?hx1
    (case a0 => k_is)
    (case l0 => k_is)
    (case c0 => k_is)
    (case k0 => k_is)
    (case a1 => k_is)
    (case l1 => k_is)
    (case c1 => k_is)
    (case k1 => k_is)
    (case a2 => k_is)
    (case l2 => k_is)
    (case c2 => k_is)
    (case k2 => k_is)
    (case a3 => k_is)
    (case l3 => k_is)
    (case c3 => k_is)
    (case k3 => k_is)
    (case a4 => k_is)
    (case l4 => k_is)
    (case c4 => k_is)
    (case k4 => k_is)
    (case a5 => k_is)
    (case l5 => k_is)
    (case c5 => k_is)
    (case k5 => k_is)
    (case a6 => k_is)
    (case l6 => k_is)
    (case c6 => k_is)
    (case k6 => k_is)
    (case a7 => k_is)
    (case l7 => k_is)
    (case c7 => k_is)
    (case k7 => k_is)
    (case a8 => k_is)
    (case l8 => k_is)
    (case c8 => k_is)
    (case k8 => k_is)
    (case a9 => k_is)
    (case l9 => k_is)
    (case c9 => k_is)
    (case k9 => k_is)
    (case a10 => k_is)
    (case l10 => k_is)
    (case c10 => k_is)
    (case k10 => k_is)
    (case a11 => k_is)
    (case l11 => k_is)
    (case c11 => k_is)
    (case k11 => k_is)
    (case a12 => k_is)
    (case l12 => k_is)
    (case c12 => k_is)
    (case k12 => k_is)
    (case a13 => k_is)
    (case l13 => k_is)
    (case c13 => k_is)
    (case k13 => k_is)
    (case a14 => k_is)
    (case l14 => k_is)
    (case c14 => k_is)
    (case k14 => k_is)
    (case a15 => k_is)
    (case l15 => k_is)
    (case c15 => k_is)
    (case k15 => k_is)
    (case gv0 => k_is)
    (case gv1 => k_is)
    (case gv2 => k_is)
    (case gl2 => k_is)
    (case gz2 => decide)
    (case gs2 => exact (.cons (by decide +kernel) (.cons (by decide +kernel) (.cons (by decide +kernel) (.cons (by decide +kernel) (.cons (by decide +kernel) (.cons (by decide +kernel) .nil)))))))
    (case gv3 => k_is)
    (case gl3 => k_is)
    (case gz3 => decide)
    (case gs3 => exact (.cons (by decide +kernel) (.cons (by decide +kernel) (.cons (by decide +kernel) (.cons (by decide +kernel) .nil)))))
    (case gv4 => k_is)
    (case gv5 => k_is)
    (case z0 => k_is)
    (case z1 => k_is)
    (case z2 => k_is)
    (case z3 => k_is)
    (case z4 => k_is)
    (case z5 => k_is)
    (case z6 => k_is)
    (case z7 => k_is)
    (case z8 => k_is)
    (case z9 => k_is)
    (case hx0 => k_is)
    (case hx1 => k_is)
end
