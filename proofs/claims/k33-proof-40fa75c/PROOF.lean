import PyProof.Rows.All
import Wide.All
import OpenK.AllK
import Wide.FinOn
import Lean
import PyProof.EqAt
import PyProof.EqKinds
import PyProof.TupleCall
import PySem.Challenge.RW_matepoint_k33_why_none_meet
set_option Elab.async false
set_option linter.all false
set_option maxRecDepth 100000
section
set_option Elab.async false
set_option linter.all false
set_option maxRecDepth 100000
namespace L2
open PySem PySem.Spec PyProof.Rows
noncomputable abbrev Key := Sum Int Str
noncomputable def keyIs : Key → Value → Bool
  | .inl k, v => Value.isInt k v
  | .inr x, v => Value.isStrOf x v
noncomputable def keyH (w : World) : Key → Int
  | .inl k => hashInt k
  | .inr x => hashStr w x
theorem Qy : ∀ {k : Key} {v : Value}, keyIs k v = true → (∃ i t, k = Sum.inl i ∧ v = Value.int i t) ∨ (∃ x t, k = Sum.inr x ∧ v = Value.str x t)
  | .inl i, v, h => by
    obtain ⟨t, e⟩ := Value.isInt_shape (k := i) (v := v) h
    exact .inl ⟨i, t, rfl, e⟩
  | .inr x, v, h => by
    obtain ⟨t, e⟩ := Value.isStrOf_shape (x := x) (v := v) h
    exact .inr ⟨x, t, rfl, e⟩
theorem key_ll (a b : Int) : decide ((Sum.inl a : Key) = Sum.inl b) = (a == b) := by
  by_cases e : a = b
  · subst e; simp
  · have h : ¬ (Sum.inl a : Key) = Sum.inl b := fun q => e (Sum.inl.inj q)
    rw [decide_eq_false h]
    exact (beq_eq_false_iff_ne.mpr e).symm
theorem key_rr (a b : Str) : decide ((Sum.inr a : Key) = Sum.inr b) = decide (a = b) := by
  by_cases e : a = b
  · subst e; simp
  · have h : ¬ (Sum.inr a : Key) = Sum.inr b := fun q => e (Sum.inr.inj q)
    rw [decide_eq_false h, decide_eq_false e]
theorem key_lr (a : Int) (b : Str) : decide ((Sum.inl a : Key) = Sum.inr b) = false := decide_eq_false (fun q => nomatch q)
theorem key_rl (a : Str) (b : Int) : decide ((Sum.inr a : Key) = Sum.inl b) = false := decide_eq_false (fun q => nomatch q)
noncomputable def Zes (prog : Program) (w : World) : PySem.KeyKind prog w Key where
  is := keyIs
  hash := keyH w
  inj := fun v a b ha hb => by
    rcases Qy ha with ⟨i, t, rfl, rfl⟩ | ⟨x, t, rfl, rfl⟩
    · rcases Qy hb with ⟨j, u, rfl, e⟩ | ⟨y, u, rfl, e⟩
      · injection e with e1 _; rw [e1]
      · exact nomatch e
    · rcases Qy hb with ⟨j, u, rfl, e⟩ | ⟨y, u, rfl, e⟩
      · exact nomatch e
      · injection e with e1 _; rw [e1]
  byValue := fun k v h => by
    rcases Qy h with ⟨i, t, rfl, rfl⟩ | ⟨x, t, rfl, rfl⟩ <;> rfl
  pyHash := fun hv h => by
    rcases Qy hv with ⟨i, t, rfl, rfl⟩ | ⟨x, t, rfl, rfl⟩
    · exact wpAny_pyHash_int h
    · exact wpAny_pyHash_str h
  eqBool := fun hu hv h => by
    rcases Qy hu with ⟨i, t, rfl, rfl⟩ | ⟨x, t, rfl, rfl⟩
    · rcases Qy hv with ⟨j, u, rfl, rfl⟩ | ⟨y, u, rfl, rfl⟩
      · rw [key_ll] at h; exact wpAny_eqBool_int h
      · rw [key_lr] at h; exact SeqAt.EqAt.int_str i t y u _ _ _ _ h
    · rcases Qy hv with ⟨j, u, rfl, rfl⟩ | ⟨y, u, rfl, rfl⟩
      · rw [key_rl] at h; exact SeqAt.EqAt.str_int x t j u _ _ _ _ h
      · rw [key_rr] at h; exact wpAny_eqBool_str h
  «strs» := fun k x t v h => by
    rcases Qy h with ⟨i, u, rfl, e⟩ | ⟨y, u, rfl, e⟩
    · exact nomatch e
    · injection e with e1 _
      subst e1
      cases v <;> rfl
end L2
namespace L2
open PySem PySem.Spec PyProof.Rows
inductive V where
  | non | bl (b : Bool) | int (i : Int) | str (x : Str) | byt (b : Array UInt8) | flt (b : UInt64) | ref (a : Addr) | ty (n : String)
  deriving DecidableEq
noncomputable def RelV : V → Value → Prop
  | .non, u => u = Value.none
  | .bl b, u => u = Value.bool b
  | .int i, u => ∃ t, u = Value.int i t
  | .str x, u => ∃ t, u = Value.str x t
  | .byt b, u => ∃ t, u = Value.bytes b t
  | .flt b, u => ∃ t, u = Value.float b t
  | .ref a, u => u = Value.ref a
  | .ty n, u => u = Value.type n
noncomputable abbrev Vals : List V → List Value → Prop := Paired RelV
theorem Vals.length {xs : List V} {us : List Value} (r : Vals xs us) : xs.length = us.length := Paired.length r
theorem Vals.get : ∀ {xs : List V} {us : List Value} {i : Nat} {x : V}, Vals xs us → xs[i]? = some x → ∃ u, us[i]? = some u ∧ RelV x u
  | _, _, _, _, .nil, e => by simp at e
  | _, _, 0, _, .cons r _, e => by simp at e; subst e; exact ⟨_, rfl, r⟩
  | _, _, i + 1, x, .cons _ t, e => by
    obtain ⟨u, h1, h2⟩ := Vals.get (i := i) (x := x) t (by simpa using e)
    exact ⟨u, by simpa using h1, h2⟩
theorem Vals.set {x : V} {u : Value} (r : RelV x u) : ∀ {xs : List V} {us : List Value} (i : Nat), Vals xs us → Vals (xs.set i x) (us.set i u)
  | _, _, _, .nil => .nil
  | _, _, 0, .cons _ t => .cons r t
  | _, _, i + 1, .cons q t => .cons q (Vals.set r i t)
theorem Vals.append : ∀ {xs ys : List V} {us ws : List Value}, Vals xs us → Vals ys ws → Vals (xs ++ ys) (us ++ ws)
  | _, _, _, _, .nil, s => s
  | _, _, _, _, .cons r t, s => .cons r (Vals.append t s)
theorem Vals.take : ∀ {xs : List V} {us : List Value} (n : Nat), Vals xs us → Vals (xs.take n) (us.take n)
  | _, _, 0, _ => .nil
  | _, _, _ + 1, .nil => .nil
  | _, _, n + 1, .cons r t => .cons r (Vals.take n t)
theorem Vals.drop : ∀ {xs : List V} {us : List Value} (n : Nat), Vals xs us → Vals (xs.drop n) (us.drop n)
  | _, _, 0, r => r
  | _, _, _ + 1, .nil => .nil
  | _, _, n + 1, .cons _ t => Vals.drop n t
noncomputable def RelO : Option V → Option Value → Prop
  | some v, some u => RelV v u
  | none, none => True
  | _, _ => False
noncomputable def KV {κ : Type} : List (κ × V) → List (κ × Value) → Prop := Paired fun (p : κ × V) (q : κ × Value) => p.1 = q.1 ∧ RelV p.2 q.2
noncomputable def kV : Key → V
  | .inl i => .int i
  | .inr x => .str x
inductive HO where
  | lst (xs : List V)
  | tup (xs : List V)
  | dK (kvs : List (Key × V)) | dT (kvs : List (List Key × V))
  | set (S : Int → Bool) (n : Nat)
  | ins (C dx : Addr) (fs : List (Str × V))
  | own (x : Addr)
  | xd (fs : List (Str × V))
  | met (f x : Addr)
  | rng (lo hi : Int)
  | frz (o : Obj) (u : HO)
  | tbl (ps : Array Value)
  | ext (φ : Heap → Prop)
noncomputable abbrev Hp := Addr → Option HO
noncomputable def upd (H : Hp) (a : Addr) (o : HO) : Hp := fun b => if b = a then some o else H b
theorem JX {H : Hp} {a : Addr} {o : HO} : upd H a o a = some o := by unfold upd; rw [if_pos rfl]
theorem Qp {H : Hp} {a b : Addr} {o : HO} (h : b ≠ a) : upd H a o b = H b := by unfold upd; rw [if_neg h]
theorem QV {H : Hp} {a b : Addr} {o : HO} (h : H a = some o) (h' : H b = none) : a ≠ b := by
  intro e; subst e; rw [h] at h'; cases h'
noncomputable def TupP (h : Heap) (a : Addr) (items : Array Value) : Prop := ∃ o, h.get? a = some o ∧ o.cls = .type "tuple" ∧ (∃ n, o.data = .seq items n) ∧ o.dict = none
theorem TupP.is {h : Heap} {a : Addr} {items : Array Value} (x : TupP h a items) : IsTup h a items := let ⟨o, h1, h2, h3, _⟩ := x; ⟨o, h1, h2, h3⟩
theorem TupP.new (h : Heap) (items : Array Value) : TupP (h.push { cls := .type "tuple", data := .seq items }) h.objs.size items := ⟨_, Heap.get?_push_size _ rfl, rfl, ⟨_, rfl⟩, rfl⟩
section
variable (P : Program) (w : World)
noncomputable def JW (H : Hp) (h : Heap) (a : Addr) : HO → Prop
  | .lst xs => xs.length ≤ sizeLine ∧ ∃ (its : List Value) (n : Nat), Vals xs its ∧ h.get? a = some { cls := .type "list", data := .seq its.toArray n }
  | .tup xs => xs.length ≤ sizeLine ∧ ∃ its : List Value, Vals xs its ∧ TupP h a its.toArray
  | .dK kvs => kvs.length ≤ sizeLine ∧ (a == sysModules) = false ∧ ∃ vs, KV kvs vs ∧ h.DictOf (Zes P w) a vs
  | .dT kvs => kvs.length ≤ sizeLine ∧ (a == sysModules) = false ∧ ∃ xs : List (List Key × Addr × Value),
      Paired (fun (p : List Key × V) (q : List Key × Addr × Value) => p.1 = q.1 ∧ H q.2.1 = some (.tup (p.1.map kV)) ∧ RelV p.2 q.2.2) kvs xs ∧
      ∃ o es ep, h.get? a = some o ∧ o.ExactDict ∧ o.data = .dict es ep ∧ es.toList = xs.map (entryOfKey (tupleKind (Zes P w))) ∧ (xs.map (·.1)).Nodup
  | .set S n => h.SetOf (intKind P w) a S n
  | .ins C dx fs => H dx = some (.own a) ∧ fs.length ≤ 1000 ∧ dx ≠ a ∧ h.get? a = some (PySem.W.instObj C dx) ∧
      ∃ mA, h.Ns1 dx mA ∧ (∀ f, RelO (fs.lookup f) (mA f)) ∧ PySem.Within mA (fs.map (·.1))
  | .own _ => ∃ o, h.get? a = some o
  | .xd fs => ∃ mA, h.Ns1 a mA ∧ ∀ f, RelO (fs.lookup f) (mA f)
  | .rng lo hi => ∃ t u v, h.get? a = some { cls := .type "range", data := .fields #[.int lo t, .int hi u, .int 1 v] }
  | .frz o u => h.get? a = some o ∧ JW H h a u
  | .tbl ps => h.get? a = some { cls := .none, data := .fields ps }
  | .met f x => h.get? a = some (PySem.W.methodObj (.ref f) (.ref x))
  | .ext φ => φ h ∧ (∃ o, h.get? a = some o) ∧ ∀ h1 h2 : Heap, φ h1 → (∀ o, h1.get? a = some o → h2.get? a = some o) → φ h2
noncomputable def HOk (H : Hp) (h : Heap) : Prop := ∀ a o, H a = some o → JW P w H h a o
end
section
variable {P : Program} {w : World} {H H' : Hp} {h h' : Heap} {a : Addr} {o : HO}
theorem JW.lt (x : JW P w H h a o) : a < h.objs.size := by
  cases o with
  | lst xs => obtain ⟨_, _, _, _, e⟩ := x; exact Heap.lt_size e
  | tup xs => obtain ⟨_, _, _, p⟩ := x; exact p.is.lt
  | dK kvs => obtain ⟨_, _, _, _, o, _, _, e, _⟩ := x; exact Heap.lt_size e
  | dT kvs => obtain ⟨_, _, _, _, o, _, _, e, _⟩ := x; exact Heap.lt_size e
  | set S n => obtain ⟨o, _, _, _, e, _⟩ := x; exact Heap.lt_size e
  | ins C dx fs => obtain ⟨_, _, _, e, _⟩ := x; exact Heap.lt_size e
  | own y => obtain ⟨_, e⟩ := x; exact Heap.lt_size e
  | xd fs => obtain ⟨_, ⟨_, _, _, e, _⟩, _⟩ := x; exact Heap.lt_size e
  | rng lo hi => obtain ⟨_, _, _, e⟩ := x; exact Heap.lt_size e
  | frz ob u => obtain ⟨e, _⟩ := x; exact Heap.lt_size e
  | tbl ps => exact Heap.lt_size (show h.get? a = some _ from x)
  | met f y => exact Heap.lt_size (show h.get? a = some _ from x)
  | ext φ => obtain ⟨_, ⟨_, e⟩, _⟩ := x; exact Heap.lt_size e
theorem Paired.mapP {α β : Type} {F G : α → β → Prop} : ∀ {l₁ : List α} {l₂ : List β}, Paired F l₁ l₂ → (∀ a b, F a b → G a b) → Paired G l₁ l₂
  | _, _, .nil, _ => .nil
  | _, _, .cons r t, f => .cons (f _ _ r) (Paired.mapP t f)
theorem JW.stay (x : JW P w H h a o) (k : ∀ b u, (b = a ∨ H b = some (.own a)) → h.get? b = some u → h'.get? b = some u)
    (ho : ∀ b, H b = some (.own a) → H' b = some (.own a)) (ht : ∀ b xs, H b = some (.tup xs) → H' b = some (.tup xs)) : JW P w H' h' a o := by
  induction o with
  | lst xs => obtain ⟨z, its, n, r, e⟩ := x; exact ⟨z, its, n, r, k _ _ (.inl rfl) e⟩
  | tup xs => obtain ⟨z, its, r, ob, e, c⟩ := x; exact ⟨z, its, r, ob, k _ _ (.inl rfl) e, c⟩
  | dK kvs => obtain ⟨z, y, vs, r, ob, es, ep, e, c⟩ := x; exact ⟨z, y, vs, r, ob, es, ep, k _ _ (.inl rfl) e, c⟩
  | dT kvs =>
    obtain ⟨z, y, xs, r, ob, es, ep, e, c⟩ := x
    exact ⟨z, y, xs, Paired.mapP r fun p q z => ⟨z.1, ht _ _ z.2.1, z.2.2⟩, ob, es, ep, k _ _ (.inl rfl) e, c⟩
  | set S n => obtain ⟨ob, es, ep, t, e, c⟩ := x; exact ⟨ob, es, ep, t, k _ _ (.inl rfl) e, c⟩
  | ins C dx fs =>
    obtain ⟨d, z, ne, e, mA, ⟨od, es, ep, e2, c⟩, r⟩ := x
    exact ⟨ho _ d, z, ne, k _ _ (.inl rfl) e, mA, ⟨od, es, ep, k _ _ (.inr d) e2, c⟩, r⟩
  | own y => obtain ⟨ob, e⟩ := x; exact ⟨ob, k _ _ (.inl rfl) e⟩
  | xd fs => obtain ⟨mA, ⟨od, es, ep, e, c⟩, r⟩ := x; exact ⟨mA, ⟨od, es, ep, k _ _ (.inl rfl) e, c⟩, r⟩
  | rng lo hi => obtain ⟨t, u, v, e⟩ := x; exact ⟨t, u, v, k _ _ (.inl rfl) e⟩
  | frz ob u ih => obtain ⟨e, q⟩ := x; exact ⟨k _ _ (.inl rfl) e, ih q⟩
  | tbl ps =>
    have e : h.get? a = some { cls := .none, data := .fields ps } := x
    show h'.get? a = some { cls := .none, data := .fields ps }
    exact k a _ (.inl rfl) e
  | met f y =>
    have e : h.get? a = some (PySem.W.methodObj (.ref f) (.ref y)) := x
    show h'.get? a = some (PySem.W.methodObj (.ref f) (.ref y))
    exact k a _ (.inl rfl) e
  | ext φ => obtain ⟨p, ⟨o, e⟩, st⟩ := x; exact ⟨st _ _ p fun o q => k _ _ (.inl rfl) q, ⟨o, k _ _ (.inl rfl) e⟩, st⟩
theorem HOk.lt (x : HOk P w H h) (e : H a = some o) : a < h.objs.size := (x a o e).lt
theorem HOk.fresh (x : HOk P w H h) (e : h.objs.size ≤ a) : H a = none := by
  cases q : H a with
  | none => rfl
  | some u => exact absurd (Nat.lt_of_lt_of_le (x.lt q) e) (Nat.lt_irrefl _)
theorem HOk.kept (x : HOk P w H h) (k : ∀ b u, h.get? b = some u → h'.get? b = some u) : HOk P w H h' := fun a o e =>
  (x a o e).stay (fun b u _ q => k b u q) (fun _ q => q) fun _ _ q => q
theorem HOk.laid (x : HOk P w H h) (k : ∀ b u, h.get? b = some u → h'.get? b = some u) (hp : h.objs.size ≤ a) (new : JW P w (upd H a o) h' a o) : HOk P w (upd H a o) h' := fun b u e => by
  have hn := x.fresh hp
  by_cases hb : b = a
  · subst hb; rw [JX] at e; cases e; exact new
  · rw [Qp hb] at e
    exact (x b u e).stay (fun c v _ q => k c v q) (fun c q => by rw [Qp (QV q hn)]; exact q) fun c xs q => by rw [Qp (QV q hn)]; exact q
end
noncomputable def Rd (H : Hp) (a : Addr) (u : HO) : Prop := H a = some u ∨ ∃ o, H a = some (.frz o u)
theorem Rd.ok {P : Program} {w : World} {H : Hp} {h : Heap} {a : Addr} {u : HO} (r : Rd H a u) (x : HOk P w H h) : JW P w H h a u := by
  rcases r with r | ⟨o, r⟩
  · exact x a u r
  · obtain ⟨_, q⟩ := x a _ r
    exact q
noncomputable def Mut : Option HO → Prop
  | some (.lst _) => True
  | some (.dK _) => True
  | some (.dT _) => True
  | some (.set _ _) => True
  | some (.ins _ _ _) => True
  | some (.ext _) => True
  | _ => False
section
variable {P : Program} {w : World} {H : Hp} {h h' : Heap} {x e : Addr} {o' : HO}
theorem HOk.write (ok : HOk P w H h) (mu : Mut (H x)) (he : e = x ∨ H e = some (.own x)) (k : ∀ b u, b ≠ e → h.get? b = some u → h'.get? b = some u) (heo : ∃ u, h'.get? e = some u)
    (new : JW P w (upd H x o') h' x o') : HOk P w (upd H x o') h' := fun b u q => by
  have nown : ∀ c y, H c = some (.own y) → c ≠ x := fun c y r z => by subst z; rw [r] at mu; exact mu
  have ntup : ∀ c xs, H c = some (.tup xs) → c ≠ x := fun c xs r z => by subst z; rw [r] at mu; exact mu
  by_cases hb : b = x
  · subst hb; rw [JX] at q; cases q; exact new
  · rw [Qp hb] at q
    by_cases hbe : b = e
    · have q' : H b = some (.own x) := by
        rcases he with z | z
        · exact absurd (hbe.trans z) hb
        · rw [hbe]; exact z
      rw [q] at q'; cases q'
      obtain ⟨v, hv⟩ := heo
      exact ⟨v, by rw [hbe]; exact hv⟩
    · refine (ok b u q).stay (fun c v hc r => k c v ?_ r) (fun c r => by rw [Qp (nown c b r)]; exact r) fun c xs r => by rw [Qp (ntup c xs r)]; exact r
      rcases hc with rfl | hc
      · exact hbe
      · rintro rfl
        rcases he with z | z
        · exact nown c b hc z
        · rw [hc] at z; cases z; exact hb rfl
end
structure Un (fs ex : List Addr) (H H' : Hp) (h h' : Heap) : Prop where
  keep : ∀ b o, h.get? b = some o → H b = none → b ∉ fs → b ∉ ex → h'.get? b = some o
  slot : ∀ b o, h.get? b = some o → H b = none → b ∈ fs → b ∉ ex → ∃ sl, h'.get? b = some { o with slots := sl }
  free : ∀ b o, h.get? b = some o → H b = none → b ∉ ex → H' b = none
  there : ∀ b o, h.get? b = some o → b ∉ ex → ∃ o', h'.get? b = some o'
  tups : ∀ b xs, H b = some (.tup xs) → H' b = some (.tup xs)
  frzs : ∀ b o u, H b = some (.frz o u) → H' b = some (.frz o u)
  tbls : ∀ b ps, H b = some (.tbl ps) → ∃ more, H' b = some (.tbl (ps ++ more))
section
variable {fs fs' ex ex' : List Addr} {H H1 H2 : Hp} {h h1 h2 h' : Heap} {a x e : Addr} {o : HO}
theorem Un.any (u : Un fs ex H H1 h h1) {b : Addr} {ob : Obj} (q : h.get? b = some ob) (n : H b = none) (hx : b ∉ ex) : ∃ sl, h1.get? b = some { ob with slots := sl } := by
  by_cases hb : b ∈ fs
  · exact u.slot b ob q n hb hx
  · exact ⟨ob.slots, u.keep b ob q n hb hx⟩
theorem Un.kept (k : ∀ b u, h.get? b = some u → h'.get? b = some u) : Un fs ex H H h h' :=
  ⟨fun b ob q _ _ _ => k b ob q, fun b ob q _ _ _ => ⟨ob.slots, k b ob q⟩, fun _ _ _ n _ => n, fun b ob q _ => ⟨ob, k b ob q⟩, fun _ _ q => q, fun _ _ _ q => q, fun _ ps q => ⟨#[], by rw [q]; simp⟩⟩
theorem Un.refl : Un fs ex H H h h := Un.kept fun _ _ q => q
theorem Un.laid (k : ∀ b u, h.get? b = some u → h'.get? b = some u) (hp : h.objs.size ≤ a) (hn : H a = none) : Un fs ex H (upd H a o) h h' where
  keep := fun b u q _ _ _ => k b u q
  slot := fun b u q _ _ _ => ⟨u.slots, k b u q⟩
  free := fun b u q n _ => by rw [Qp (Nat.ne_of_lt (Nat.lt_of_lt_of_le (Heap.lt_size q) hp))]; exact n
  there := fun b u q _ => ⟨u, k b u q⟩
  tups := fun b xs q => by rw [Qp (QV q hn)]; exact q
  frzs := fun b u xs q => by rw [Qp (QV q hn)]; exact q
  tbls := fun b ps q => ⟨#[], by rw [Qp (QV q hn), q]; simp⟩
theorem Un.write (mu : Mut (H x)) (he : e = x ∨ H e = some (.own x)) (k : ∀ b u, b ≠ e → h.get? b = some u → h'.get? b = some u) (heo : ∃ u, h'.get? e = some u) : Un fs ex H (upd H x o) h h' := by
  have hx : ∀ b, H b = none → b ≠ x := fun b n z => by subst z; rw [n] at mu; exact mu
  have hb : ∀ b, H b = none → b ≠ e := fun b n z => by
    subst z
    rcases he with r | r
    · exact hx b n r
    · rw [n] at r; cases r
  have hm : ∀ b u, H b = some u → ¬ Mut (some u) → b ≠ x := fun b u q nm z => by subst z; rw [q] at mu; exact nm mu
  refine ⟨fun b u q n _ _ => k b u (hb b n) q, fun b u q n _ _ => ⟨u.slots, k b u (hb b n) q⟩, fun b u q n _ => by rw [Qp (hx b n)]; exact n, fun b u q _ => ?_,
    fun b xs q => by rw [Qp (hm b _ q fun z => z)]; exact q, fun b u xs q => by rw [Qp (hm b _ q fun z => z)]; exact q, fun b ps q => ⟨#[], by rw [Qp (hm b _ q fun z => z), q]; simp⟩⟩
  by_cases hbe : b = e
  · subst hbe; exact heo
  · exact ⟨u, k b u hbe q⟩
end
noncomputable def trk (h : Heap) (H : Hp) : List Addr := (List.range h.objs.size).filter fun a => (H a).isSome
noncomputable def hidT (h : Heap) (H : Hp) : Heap := PySem.W.hideAll h (trk h H)
theorem Zhs (h : Heap) (H : Hp) : (hidT h H).objs.size = h.objs.size := PySem.W.hideAll_size _ _
theorem ZiW {h : Heap} {H : Hp} {b : Addr} {o : Obj} (e : h.get? b = some o) (n : H b = none) : (hidT h H).get? b = some o :=
  PySem.W.hideAll_get _ e fun hm => by
    have q : (H b).isSome = true := (List.mem_filter.mp hm).2
    rw [n] at q; simp at q
theorem Zkf {h : Heap} {H : Hp} {b : Addr} {o : Obj} (e : (hidT h H).get? b = some o) : h.get? b = some o ∧ H b = none := by
  have e' : h.get? b = some o := PySem.W.of_hideAll (trk h H) e
  refine ⟨e', ?_⟩
  cases q : H b with
  | none => rfl
  | some x =>
    have hm : b ∈ trk h H := List.mem_filter.mpr ⟨List.mem_range.mpr (Heap.lt_size e'), by simp [q]⟩
    have z : (hidT h H).get? b = none := PySem.W.hideAll_none (trk h H) hm
    rw [z] at e; cases e
noncomputable def ZkT (g h : Heap) (L : Addr) : List (Addr × Obj) := (List.range h.objs.size).filterMap fun a => if a = L ∨ (g.get? a).isSome = true then none else (h.get? a).map fun o => (a, o)
noncomputable def rest (g h : Heap) (L d : Addr) : List (Addr × Obj) := (ZkT g h L).filter fun p => decide (p.1 ≠ d)
end L2
namespace L2
open PySem PySem.Spec PyProof.Rows
structure Mod (K : PySem.W.Frag) (mg : Str → Option Value) (base : Heap) : Prop where
  kin : K.In base
  glob : base.Ns mainGlobals mg
  blt : ∃ mb, base.Ns builtinsNs mb ∧ ∀ x : Str, x ≠ "__name__" → mb x = bootBuiltins x
  nolimit : base.NoLimit
structure Cx where
  prog : Program
  w : World
  K : PySem.W.Frag
  mg : Str → Option Value
  base : Heap
  A : Around
  N : List Str
  s₀ : Shared
  H₀ : Hp
  env : Env
  outer : List Env
  stack : List Env
  ex : List Addr
  fn : Str → Bool
  calm : Bool
  pn : List (Addr × Obj)
  xe : Value → Shared → Prop
noncomputable def frs (l : List Env) : List Addr := l.filterMap (·.frame)
noncomputable abbrev Cx.fs (X : Cx) : List Addr := frs X.outer
noncomputable def Vis (sc : Scope) (x : Str) : Prop := sc.names.lookup x = some .local ∨ sc.names.lookup x = some .cell ∨ sc.names.lookup x = some .free
noncomputable def Loc (sc : Scope) (x : Str) : Prop := sc.names.lookup x = some .local ∨ sc.names.lookup x = some .cell
noncomputable def Look (env : Env) (h : Heap) (m : Str → Option Value) (x : Str) (u : Value) : Prop :=
  (env.kindOf x = some .local ∧ m x = some u) ∨ ((env.kindOf x = some .cell ∨ env.kindOf x = some .free) ∧ ∃ c, env.cells.lookup x = some c ∧ h.IsCell c (some u))
structure Cx.Ok (X : Cx) : Prop where
  mod : Mod X.K X.mg X.base
  kind : X.env.scope.kind = .function
  glob : X.env.globals = mainGlobals
  blt : X.env.builtins = builtinsNs
  above : X.s₀.heap.objs.size ≤ X.env.locals
  inj : ∀ x y c, X.env.cells.lookup x = some c → X.env.cells.lookup y = some c → x = y
  has : ∀ x, (X.env.kindOf x = some .cell ∨ X.env.kindOf x = some .free) → ∃ c, X.env.cells.lookup x = some c
  cab : ∀ x c, X.fn x = true → X.env.cells.lookup x = some c → X.s₀.heap.objs.size ≤ c
  hd : X.calm = true → X.A.handled = none
  frames : X.A.frames = some X.stack
  stk : X.stack = X.outer ∨ (X.stack = X.env :: X.outer ∧ X.env.frame = some X.env.locals)
  exf : ∀ b ∈ X.ex, b ≠ X.env.locals ∧ ∀ x c, X.env.cells.lookup x = some c → c ≠ b
  bs : ∀ b o, X.base.get? b = some o → X.s₀.heap.get? b = some o ∧ X.H₀ b = none
  bsz : X.base.objs.size ≤ X.s₀.heap.objs.size
  noex : ∀ b o, X.base.get? b = some o → b ∉ X.ex
  exfs : ∀ b ∈ X.ex, b ∉ X.fs
  funs : X.s₀.heap.FunFrames X.base X.outer
  frf : ∀ b ∈ X.fs, X.H₀ b = none
structure Inv (X : Cx) (pins : List (Addr × Obj)) (σ : List (Option V)) (H : Hp) (s : Shared) : Prop where
  ok : X.Ok
  os : s.os = X.s₀.os
  bare : AllBare s.gens
  base : Un X.fs X.ex X.H₀ H X.s₀.heap s.heap
  loc : ∃ m, s.heap.Ns X.env.locals m ∧ ∀ (i : Nat) (x : Str) (v : V), X.N[i]? = some x → σ[i]? = some (some v) → Vis X.env.scope x → ∃ u, RelV v u ∧ Look X.env s.heap m x u
  cell : ∀ x c, X.env.cells.lookup x = some c → ∃ v, s.heap.IsCell c v
  free : H X.env.locals = none
  freeC : ∀ x c, X.env.cells.lookup x = some c → H c = none
  pin : ∀ p ∈ X.pn ++ pins, s.heap.get? p.1 = some p.2 ∧ H p.1 = none ∧ p.1 ≠ X.env.locals ∧ p.1 ∉ X.fs ∧ ∀ v, p.2.data ≠ .cell v
  hok : HOk X.prog X.w H s.heap
  len : σ.length = X.N.length
section
variable {X : Cx} {pins : List (Addr × Obj)} {σ : List (Option V)} {H H' : Hp} {s : Shared} {h' : Heap}
theorem Cx.Ok.nofr (ok : X.Ok) {b : Addr} {o : Obj} (e : X.base.get? b = some o) : b ∉ X.fs := fun hb => by
  have := (ok.funs.mem hb).1
  rw [e] at this; cases this
theorem Inv.bs (I : Inv X pins σ H s) : ∀ b o, X.base.get? b = some o → s.heap.get? b = some o ∧ H b = none := fun b o e =>
  ⟨I.base.keep b o (I.ok.bs b o e).1 (I.ok.bs b o e).2 (I.ok.nofr e) (I.ok.noex b o e), I.base.free b o (I.ok.bs b o e).1 (I.ok.bs b o e).2 (I.ok.noex b o e)⟩
theorem Inv.bk (I : Inv X pins σ H s) : ∀ b o, X.base.get? b = some o → s.heap.get? b = some o := fun b o e => (I.bs b o e).1
theorem Inv.mod (I : Inv X pins σ H s) : Mod X.K X.mg X.base := I.ok.mod
theorem Inv.kIn (I : Inv X pins σ H s) : X.K.In s.heap := I.ok.mod.kin.keeps I.bk
theorem Inv.lt (I : Inv X pins σ H s) : X.env.locals < s.heap.objs.size := let ⟨_, hn, _⟩ := I.loc; hn.lt
theorem Inv.sz (I : Inv X pins σ H s) : X.s₀.heap.objs.size ≤ s.heap.objs.size := Nat.le_trans I.ok.above (Nat.le_of_lt I.lt)
theorem Inv.nofs (I : Inv X pins σ H s) {a : Addr} (h : s.heap.objs.size ≤ a) : a ∉ X.fs := fun hb => by
  obtain ⟨_, o, ho, _⟩ := I.ok.funs.mem hb
  exact absurd (Nat.lt_of_lt_of_le (Heap.lt_size ho) (Nat.le_trans I.sz h)) (Nat.lt_irrefl _)
theorem Inv.cne (I : Inv X pins σ H s) : ∀ x c, X.env.cells.lookup x = some c → c ≠ X.env.locals := fun x c e z => by
  obtain ⟨v, o, ho, hd⟩ := I.cell x c e
  obtain ⟨m, ⟨o', es, ep, ho', hd', _⟩, _⟩ := I.loc
  rw [z, ho'] at ho; cases ho; rw [hd'] at hd; cases hd
theorem Inv.funs (I : Inv X pins σ H s) : s.heap.FunFrames X.base X.outer := by
  have all : ∀ (l : List Env), (∀ b ∈ frs l, b ∈ X.fs) → X.s₀.heap.FunFrames X.base l → s.heap.FunFrames X.base l := by
    intro l
    induction l with
    | nil => intro _ _; trivial
    | cons env r ih =>
      intro hs hl
      obtain ⟨hk, ⟨L, o, hf, hn, ho, hd⟩, hr⟩ := hl
      have hL : L ∈ X.fs := hs L (by unfold frs; rw [List.filterMap_cons, hf]; exact List.mem_cons_self)
      obtain ⟨sl, e⟩ := I.base.slot L o ho (I.ok.frf L hL) hL fun z => I.ok.exfs L z hL
      exact ⟨hk, ⟨L, _, hf, hn, e, hd⟩, ih (fun b hb => hs b (by unfold frs; rw [List.filterMap_cons, hf]; exact List.mem_cons_of_mem _ hb)) hr⟩
  exact all X.outer (fun _ hb => hb) I.ok.funs
theorem Inv.stack (I : Inv X pins σ H s) : s.heap.FunFrames X.base X.stack := by
  rcases I.ok.stk with e | ⟨e, hf⟩
  · rw [e]; exact I.funs
  · rw [e]
    obtain ⟨m, hn, _⟩ := I.loc
    refine .cons (by rw [I.ok.kind]; decide) hf hn ?_ I.funs
    exact Heap.get?_none_of_le (Nat.le_trans I.ok.bsz I.ok.above)
theorem Inv.stkSub (I : Inv X pins σ H s) : ∀ b ∈ frs X.stack, b ∈ X.env.locals :: X.fs := fun b hb => by
  rcases I.ok.stk with e | ⟨e, hf⟩
  · rw [e] at hb; exact List.mem_cons_of_mem _ hb
  · rw [e] at hb
    unfold frs at hb
    rw [List.filterMap_cons, hf] at hb
    exact hb
theorem Inv.stkFree (I : Inv X pins σ H s) : ∀ b ∈ frs X.stack, H b = none := fun b hb => by
  rcases List.mem_cons.mp (I.stkSub b hb) with e | hb
  · rw [e]; exact I.free
  · obtain ⟨_, o, ho, _⟩ := I.ok.funs.mem hb
    exact I.base.free b o ho (I.ok.frf b hb) fun z => I.ok.exfs b z hb
theorem Inv.step {g' : Array GenState} {t' : Nat} {d' : Drawn} {ch : List Addr} (I : Inv X pins σ H s)
    (hch : ∀ b ∈ ch, (b ∈ X.ex ∨ X.s₀.heap.objs.size ≤ b) ∧ b ≠ X.env.locals ∧ (∀ x c, X.env.cells.lookup x = some c → c ≠ b) ∧ ∀ p ∈ X.pn ++ pins, p.1 ≠ b)
    (keep : ∀ b o, b ≠ X.env.locals → b ∉ X.fs → b ∉ ch → s.heap.get? b = some o → H b = none → h'.get? b = some o)
    (slot : ∀ b o, b ≠ X.env.locals → b ∈ X.fs → b ∉ ch → s.heap.get? b = some o → H b = none → ∃ sl, h'.get? b = some { o with slots := sl }) (free : ∀ b o, b ∉ ch → s.heap.get? b = some o → H b = none → H' b = none)
    (there : ∀ b o, b ∉ ch → s.heap.get? b = some o → ∃ o', h'.get? b = some o')
    (tups : ∀ b xs, H b = some (.tup xs) → H' b = some (.tup xs)) (frzs : ∀ b o u, H b = some (.frz o u) → H' b = some (.frz o u)) (tbls : ∀ b ps, H b = some (.tbl ps) → ∃ more, H' b = some (.tbl (ps ++ more)))
    (ns : ∀ m, s.heap.Ns X.env.locals m → h'.Ns X.env.locals m) (hok : HOk X.prog X.w H' h') (hg : AllBare g') :
    Inv X pins σ H' { s with heap := h', gens := g', drawn := d', toks := t' } := by
  have neL : ∀ b o, X.s₀.heap.get? b = some o → b ≠ X.env.locals := fun b o e => Nat.ne_of_lt (Nat.lt_of_lt_of_le (Heap.lt_size e) I.ok.above)
  have neC : ∀ b o, X.s₀.heap.get? b = some o → b ∉ X.ex → b ∉ ch := fun b o e hx hb => by
    rcases (hch b hb).1 with z | z
    · exact hx z
    · exact absurd (Nat.lt_of_lt_of_le (Heap.lt_size e) z) (Nat.lt_irrefl _)
  have cellK : ∀ x c, X.env.cells.lookup x = some c → ∀ v, s.heap.IsCell c v → h'.IsCell c v := fun x c e v ⟨o, ho, hd⟩ => by
    have nch : c ∉ ch := fun z => (hch c z).2.2.1 x c e rfl
    by_cases hc : c ∈ X.fs
    · obtain ⟨sl, q⟩ := slot c o (I.cne x c e) hc nch ho (I.freeC x c e)
      exact ⟨_, q, hd⟩
    · exact ⟨o, keep c o (I.cne x c e) hc nch ho (I.freeC x c e), hd⟩
  refine ⟨I.ok, I.os, hg, ⟨fun b o e n hb hx => ?_, fun b o e n hb hx => ?_, fun b o e n hx => ?_, fun b o e hx => ?_, fun b xs e => tups b xs (I.base.tups b xs e), fun b o xs e => frzs b o xs (I.base.frzs b o xs e), fun b ps e => ?_⟩, ?_, fun x c e => ?_, ?_, fun x c e => ?_, fun p hp => ?_, hok, I.len⟩
  · exact keep b o (neL b o e) hb (neC b o e hx) (I.base.keep b o e n hb hx) (I.base.free b o e n hx)
  · obtain ⟨sl, e1⟩ := I.base.slot b o e n hb hx
    obtain ⟨sl', e2⟩ := slot b _ (neL b o e) hb (neC b o e hx) e1 (I.base.free b o e n hx)
    exact ⟨sl', e2⟩
  · obtain ⟨o', e1⟩ := I.base.there b o e hx
    exact free b o' (neC b o e hx) e1 (I.base.free b o e n hx)
  · obtain ⟨o', e1⟩ := I.base.there b o e hx
    exact there b o' (neC b o e hx) e1
  · obtain ⟨m1, e1⟩ := I.base.tbls b ps e
    obtain ⟨m2, e2⟩ := tbls b _ e1
    exact ⟨m1 ++ m2, by rw [e2, Array.append_assoc]⟩
  · obtain ⟨m, hn, hl⟩ := I.loc
    refine ⟨m, ns m hn, fun i x v e1 e2 e3 => ?_⟩
    obtain ⟨u, r, l⟩ := hl i x v e1 e2 e3
    refine ⟨u, r, ?_⟩
    rcases l with l | ⟨k, c, e, z⟩
    · exact .inl l
    · exact .inr ⟨k, c, e, cellK x c e _ z⟩
  · obtain ⟨v, z⟩ := I.cell x c e
    exact ⟨v, cellK x c e v z⟩
  · obtain ⟨m, ⟨o, _, _, ho, _⟩, _⟩ := I.loc
    exact free _ o (fun z => (hch _ z).2.1 rfl) ho I.free
  · obtain ⟨v, o, ho, hd⟩ := I.cell x c e
    exact free c o (fun z => (hch c z).2.2.1 x c e rfl) ho (I.freeC x c e)
  · obtain ⟨e, n, ne, nf, d⟩ := I.pin p hp
    have nch : p.1 ∉ ch := fun z => (hch p.1 z).2.2.2 p hp rfl
    exact ⟨keep p.1 p.2 ne nf nch e n, free p.1 p.2 nch e n, ne, nf, d⟩
theorem Inv.un {t' : Nat} (I : Inv X pins σ H s) (u : Un X.fs [] H H' s.heap h') (hok : HOk X.prog X.w H' h') : Inv X pins σ H' { s with heap := h', toks := t' } := by
  obtain ⟨m, ⟨o, es, ep, ho, r⟩, _⟩ := id I.loc
  obtain ⟨sl, hL⟩ := u.any ho I.free (by simp)
  exact I.step (g' := s.gens) (d' := s.drawn) (ch := []) (fun _ z => nomatch z) (fun b o _ hb _ e n => u.keep b o e n hb (by simp)) (fun b o _ hb _ e n => u.slot b o e n hb (by simp)) (fun b o _ e n => u.free b o e n (by simp)) (fun b o _ e => u.there b o e (by simp)) u.tups u.frzs u.tbls (fun m' hm => by
    obtain ⟨o', es', ep', ho', r'⟩ := hm
    rw [ho] at ho'; cases ho'
    exact ⟨_, es', ep', hL, r'⟩) hok I.bare
theorem Inv.call {g' : Array GenState} {t' : Nat} {d' : Drawn} {ch : List Addr} (I : Inv X pins σ H s) (u : Un (frs X.stack) ch H H' s.heap h') (hok : HOk X.prog X.w H' h') (hg : AllBare g')
    (hch : ∀ b ∈ ch, (b ∈ X.ex ∨ X.s₀.heap.objs.size ≤ b) ∧ b ≠ X.env.locals ∧ (∀ x c, X.env.cells.lookup x = some c → c ≠ b) ∧ ∀ p ∈ X.pn ++ pins, p.1 ≠ b) :
    Inv X pins σ H' { s with heap := h', gens := g', drawn := d', toks := t' } := by
  obtain ⟨m, ⟨o, es, ep, ho, r⟩, _⟩ := id I.loc
  obtain ⟨sl, hL⟩ := u.any ho I.free fun z => (hch _ z).2.1 rfl
  exact I.step (ch := ch) hch (fun b o hL hb hc e n => u.keep b o e n (fun z => (List.mem_cons.mp (I.stkSub b z)).elim hL hb) hc) (fun b o _ _ hc e n => u.any e n hc) (fun b o hc e n => u.free b o e n hc) (fun b o hc e => u.there b o e hc) u.tups u.frzs u.tbls (fun m' hm => by
    obtain ⟨o', es', ep', ho', r'⟩ := hm
    rw [ho] at ho'; cases ho'
    exact ⟨_, es', ep', hL, r'⟩) hok hg
theorem Inv.turned {t' : Nat} {it : Addr} (I : Inv X pins σ H s) (k : ∀ b o, b ≠ it → s.heap.get? b = some o → h'.get? b = some o) (hn : H it = none) (hL : it ≠ X.env.locals)
    (h1 : it ∈ X.ex ∨ X.s₀.heap.objs.size ≤ it) (h2 : ∀ x c, X.env.cells.lookup x = some c → c ≠ it) (h3 : ∀ p ∈ X.pn ++ pins, p.1 ≠ it) : Inv X pins σ H { s with heap := h', toks := t' } := by
  have nit : ∀ b u, H b = some u → b ≠ it := fun b u e z => by rw [z, hn] at e; cases e
  refine I.step (g' := s.gens) (d' := s.drawn) (ch := [it]) (fun b hb => ?_) (fun b o _ _ hc e _ => k b o (fun z => hc (by simp [z])) e) (fun b o _ _ hc e _ => ⟨o.slots, k b o (fun z => hc (by simp [z])) e⟩) (fun _ _ _ _ n => n)
    (fun b o hc e => ⟨o, k b o (fun z => hc (by simp [z])) e⟩) (fun _ _ e => e) (fun _ _ _ e => e) (fun b ps e => ⟨#[], by rw [e]; simp⟩) (fun m hm => ?_) (fun b u e => ?_) I.bare
  · have e : b = it := by simpa using hb
    subst e
    exact ⟨h1, hL, h2, h3⟩
  · obtain ⟨o, es, ep, ho, r⟩ := hm
    exact ⟨o, es, ep, k _ o (Ne.symm hL) ho, r⟩
  · refine (I.hok b u e).stay (fun c v hc q => k c v ?_ q) (fun _ q => q) fun _ _ q => q
    rcases hc with z | z
    · rw [z]; exact nit b u e
    · exact nit c _ z
theorem Inv.tok (I : Inv X pins σ H s) (t : Nat) : Inv X pins σ H { s with toks := t } := I.un (h' := s.heap) (t' := t) Un.refl I.hok
theorem Inv.kept {t' : Nat} (I : Inv X pins σ H s) (k : ∀ b u, s.heap.get? b = some u → h'.get? b = some u) : Inv X pins σ H { s with heap := h', toks := t' } := I.un (Un.kept k) (I.hok.kept k)
theorem Inv.laid {a : Addr} {o : HO} {t' : Nat} (I : Inv X pins σ H s) (k : ∀ b u, s.heap.get? b = some u → h'.get? b = some u) (hp : s.heap.objs.size ≤ a) (new : JW X.prog X.w (upd H a o) h' a o) :
    Inv X pins σ (upd H a o) { s with heap := h', toks := t' } := I.un (Un.laid k hp (I.hok.fresh hp)) (I.hok.laid k hp new)
theorem Inv.write {x e : Addr} {o : HO} {t' : Nat} (I : Inv X pins σ H s) (mu : Mut (H x)) (he : e = x ∨ H e = some (.own x)) (k : ∀ b u, b ≠ e → s.heap.get? b = some u → h'.get? b = some u) (heo : ∃ u, h'.get? e = some u)
    (new : JW X.prog X.w (upd H x o) h' x o) : Inv X pins σ (upd H x o) { s with heap := h', toks := t' } := I.un (Un.write mu he k heo) (I.hok.write mu he k heo new)
theorem Inv.pins_of {pins' : List (Addr × Obj)} (I : Inv X pins σ H s) (h : ∀ p ∈ pins', s.heap.get? p.1 = some p.2 ∧ H p.1 = none ∧ p.1 ≠ X.env.locals ∧ p.1 ∉ X.fs ∧ ∀ v, p.2.data ≠ .cell v) : Inv X pins' σ H s :=
  ⟨I.ok, I.os, I.bare, I.base, I.loc, I.cell, I.free, I.freeC, fun p hp => (List.mem_append.mp hp).elim (fun z => I.pin p (List.mem_append_left _ z)) (h p), I.hok, I.len⟩
theorem ZeY {N : List Str} (hN : N.Nodup) {i j : Nat} {x : Str} (a : N[i]? = some x) (b : N[j]? = some x) : i = j := by
  obtain ⟨h1, e1⟩ := List.getElem?_eq_some_iff.mp a
  obtain ⟨h2, e2⟩ := List.getElem?_eq_some_iff.mp b
  exact (List.getElem_inj hN).mp (e1.trans e2.symm)
theorem Zds {M : Model} {A : Around} {E : Value → Shared → Prop} {i : Nat} {x : Str} {v : V} {u : Value} {Q : Unit → Shared → Prop} (I : Inv X pins σ H s) (hN : X.N.Nodup) (hi : X.N[i]? = some x) (hx : Loc X.env.scope x) (r : RelV v u)
    (h : ∀ s', Inv X pins (σ.set i (some v)) H s' → (∃ a, Heap.SameBut a s.heap s'.heap ∧ (a = X.env.locals ∨ X.env.cells.lookup x = some a)) → Q () s') (hf : X.fn x = true ∨ X.env.scope.names.lookup x = some .local := by first | exact .inl rfl | exact .inr rfl | assumption) : wpAny M A (storeName X.env x u) Q E s := by
  obtain ⟨m, hn, hl⟩ := id I.loc
  have hcls : (X.env.scope.kind == .class || (X.env.scope.kind == .module && X.env.locals != X.env.globals)) = false := by rw [I.ok.kind]; rfl
  have hiσ : i < σ.length := by rw [I.len]; exact (List.getElem?_eq_some_iff.mp hi).1
  have cne := I.cne
  have tracked : ∀ {a : Addr} {h' : Heap}, (∃ o, s.heap.get? a = some o ∧ H a = none) → Heap.SameBut a s.heap h' → HOk X.prog X.w H h' := fun {a h'} ha hs b ob e => by
    obtain ⟨_, _, hfree⟩ := ha
    refine (I.hok b ob e).stay (fun c w' hc q => (hs.2 c ?_).trans q) (fun _ q => q) fun _ _ q => q
    rintro rfl
    rcases hc with rfl | hc
    · rw [hfree] at e; cases e
    · rw [hfree] at hc; cases hc
  rcases hx with hk | hk
  · refine wpAny_storeName_local hk hn (fun h' hn' hs => ?_) hcls
    obtain ⟨oL, _, _, hoL, _⟩ := id hn
    refine h _ ⟨I.ok, I.os, I.bare, ⟨fun b o e n hb hx => ?_, fun b o e n hb hx => ?_, I.base.free, fun b o e hx => ?_, I.base.tups, I.base.frzs, I.base.tbls⟩, ⟨_, hn', fun j y v' e1 e2 e3 => ?_⟩, fun y c e => ?_, I.free, I.freeC, fun p hp => ?_, tracked ⟨oL, hoL, I.free⟩ hs, by simpa using I.len⟩ ⟨_, hs, .inl rfl⟩
    · exact (hs.2 b (Nat.ne_of_lt (Nat.lt_of_lt_of_le (Heap.lt_size e) I.ok.above))).trans (I.base.keep b o e n hb hx)
    · obtain ⟨sl, e1⟩ := I.base.slot b o e n hb hx
      exact ⟨sl, (hs.2 b (Nat.ne_of_lt (Nat.lt_of_lt_of_le (Heap.lt_size e) I.ok.above))).trans e1⟩
    · obtain ⟨o', e1⟩ := I.base.there b o e hx
      exact ⟨o', (hs.2 b (Nat.ne_of_lt (Nat.lt_of_lt_of_le (Heap.lt_size e) I.ok.above))).trans e1⟩
    · by_cases hj : j = i
      · subst hj
        rw [hi] at e1; cases e1
        rw [List.getElem?_set_self hiσ] at e2
        cases e2
        exact ⟨u, r, .inl ⟨hk, by simp⟩⟩
      · rw [List.getElem?_set_ne (Ne.symm hj)] at e2
        obtain ⟨u', r', q⟩ := hl j y v' e1 e2 e3
        refine ⟨u', r', ?_⟩
        rcases q with ⟨k, e⟩ | ⟨k, c, e, z⟩
        · refine .inl ⟨k, ?_⟩
          have : y ≠ x := fun e => hj (ZeY hN e1 (e ▸ hi))
          simp [this, e]
        · exact .inr ⟨k, c, e, z.sameBut hs (cne y c e)⟩
    · obtain ⟨w', z⟩ := I.cell y c e
      exact ⟨w', z.sameBut hs (cne y c e)⟩
    · obtain ⟨e, n, ne, nf, d⟩ := I.pin p hp
      exact ⟨(hs.2 p.1 ne).trans e, n, ne, nf, d⟩
  · have hfn : X.fn x = true := by
      rcases hf with z | z
      · exact z
      · rw [z] at hk; cases hk
    obtain ⟨c, hc⟩ := I.ok.has x (.inl hk)
    obtain ⟨w', z⟩ := I.cell x c hc
    refine wpAny_storeName_cell I.ok.kind hk hc z (fun h' hc' hs => ?_)
    obtain ⟨oc, hoc, hocd⟩ := id z
    refine h { s with heap := h' } ⟨I.ok, I.os, I.bare, ⟨fun b o e n hb hx => ?_, fun b o e n hb hx => ?_, I.base.free, fun b o e hx => ?_, I.base.tups, I.base.frzs, I.base.tbls⟩, ⟨m, hn.sameBut hs (Ne.symm (cne x c hc)), fun j y v' e1 e2 e3 => ?_⟩, fun y c' e => ?_, I.free, I.freeC, fun p hp => ?_, tracked ⟨oc, hoc, I.freeC x c hc⟩ hs, by simpa using I.len⟩ ⟨c, hs, .inr hc⟩
    · exact (hs.2 b (Nat.ne_of_lt (Nat.lt_of_lt_of_le (Heap.lt_size e) (I.ok.cab x c hfn hc)))).trans (I.base.keep b o e n hb hx)
    · obtain ⟨sl, e1⟩ := I.base.slot b o e n hb hx
      exact ⟨sl, (hs.2 b (Nat.ne_of_lt (Nat.lt_of_lt_of_le (Heap.lt_size e) (I.ok.cab x c hfn hc)))).trans e1⟩
    · obtain ⟨o', e1⟩ := I.base.there b o e hx
      exact ⟨o', (hs.2 b (Nat.ne_of_lt (Nat.lt_of_lt_of_le (Heap.lt_size e) (I.ok.cab x c hfn hc)))).trans e1⟩
    · by_cases hj : j = i
      · subst hj
        rw [hi] at e1; cases e1
        rw [List.getElem?_set_self hiσ] at e2
        cases e2
        exact ⟨u, r, .inr ⟨.inl hk, c, hc, hc'⟩⟩
      · rw [List.getElem?_set_ne (Ne.symm hj)] at e2
        obtain ⟨u', r', q⟩ := hl j y v' e1 e2 e3
        refine ⟨u', r', ?_⟩
        rcases q with q | ⟨k, c', e, z'⟩
        · exact .inl q
        · refine .inr ⟨k, c', e, z'.sameBut hs ?_⟩
          rintro rfl
          exact hj (ZeY hN e1 (I.ok.inj _ _ _ e hc ▸ hi))
    · by_cases hcc : c' = c
      · subst hcc; exact ⟨_, hc'⟩
      · obtain ⟨w2, z2⟩ := I.cell y c' e
        exact ⟨w2, z2.sameBut hs hcc⟩
    · obtain ⟨e, n, ne, nf, d⟩ := I.pin p hp
      refine ⟨(hs.2 p.1 ?_).trans e, n, ne, nf, d⟩
      intro q
      rw [q, hoc] at e
      have q' : oc = p.2 := Option.some.inj e
      exact d w' (by rw [← q']; exact hocd)
theorem ZeQ {M : Model} {A : Around} {E : Value → Shared → Prop} {i : Nat} {x : Str} {v : V} {u : Value} {Q : Unit → Shared → Prop} (I : Inv X pins σ H s) (hN : X.N.Nodup) (hi : X.N[i]? = some x) (hx : Loc X.env.scope x) (r : RelV v u)
    (h : ∀ s', Inv X pins (σ.set i (some v)) H s' → Q () s') (hf : X.fn x = true ∨ X.env.scope.names.lookup x = some .local := by first | exact .inl rfl | exact .inr rfl | assumption) : wpAny M A (storeName X.env x u) Q E s :=
  Zds I hN hi hx r (fun s' I' _ => h s' I') hf
theorem Inv.call' {s' : Shared} {ch : List Addr} (I : Inv X pins σ H s) (ho : s'.os = s.os) (u : Un (frs X.stack) ch H H' s.heap s'.heap) (hok : HOk X.prog X.w H' s'.heap) (hg : AllBare s'.gens)
    (hch : ∀ b ∈ ch, (b ∈ X.ex ∨ X.s₀.heap.objs.size ≤ b) ∧ b ≠ X.env.locals ∧ (∀ x c, X.env.cells.lookup x = some c → c ≠ b) ∧ ∀ p ∈ X.pn ++ pins, p.1 ≠ b) : Inv X pins σ H' s' := by
  obtain ⟨h', g', d', t', o'⟩ := s'
  have e : o' = s.os := ho
  subst e
  exact I.call (g' := g') (t' := t') (d' := d') u hok hg hch
end
noncomputable abbrev XK := Value → Option Addr → Hp → Prop
noncomputable abbrev St := List (Option V)
noncomputable abbrev VK := V → Hp → Prop
noncomputable abbrev TE := St → Hp → VK → Prop
noncomputable abbrev TT := St → Hp → (Bool → Hp → Prop) → Prop
noncomputable abbrev TA := St → Hp → (List V → Hp → Prop) → Prop
structure Ends where
  nx : St → Hp → Prop
  rt : VK
  bk : St → Hp → Prop := fun _ _ => False
  ct : St → Hp → Prop := fun _ _ => False
noncomputable abbrev TS := Ends → St → Hp → Prop
noncomputable def EP (X : Cx) (pins : List (Addr × Obj)) (σ : St) (Q : VK) (u : Value) (s' : Shared) : Prop := ∃ v H', Inv X pins σ H' s' ∧ RelV v u ∧ Q v H'
noncomputable def TP (X : Cx) (pins : List (Addr × Obj)) (σ : St) (Q : Bool → Hp → Prop) (b : Bool) (s' : Shared) : Prop := ∃ H', Inv X pins σ H' s' ∧ Q b H'
noncomputable def AP (X : Cx) (pins : List (Addr × Obj)) (σ : St) (Q : List V → Hp → Prop) (us : List Value) (s' : Shared) : Prop := ∃ vs H', Inv X pins σ H' s' ∧ Vals vs us ∧ Q vs H'
noncomputable def SP (X : Cx) (pins : List (Addr × Obj)) (D : Ends) (f : Flow) (s' : Shared) : Prop :=
  match f with
  | .next => ∃ σ' H', Inv X pins σ' H' s' ∧ D.nx σ' H'
  | .brk => ∃ σ' H', Inv X pins σ' H' s' ∧ D.bk σ' H'
  | .cont => ∃ σ' H', Inv X pins σ' H' s' ∧ D.ct σ' H'
  | .ret u => ∃ v σ' H', Inv X pins σ' H' s' ∧ RelV v u ∧ D.rt v H'
noncomputable def PE (X : Cx) (e : Expr) (t : TE) : Prop :=
  ∀ (pins : List (Addr × Obj)) (s : Shared) (σ : St) (H : Hp) (Q : VK), Inv X pins σ H s → t σ H Q → wpAny (model X.prog X.w) X.A (eval e X.env) (EP X pins σ Q) X.xe s
noncomputable def PT (X : Cx) (e : Expr) (t : TT) : Prop :=
  ∀ (pins : List (Addr × Obj)) (s : Shared) (σ : St) (H : Hp) (Q : Bool → Hp → Prop), Inv X pins σ H s → t σ H Q → wpAny (model X.prog X.w) X.A (isTrue e X.env (eval e X.env)) (TP X pins σ Q) X.xe s
noncomputable def PW (X : Cx) (e : Expr) (t : TT) : Prop :=
  ∀ (whole : Sem Value) (pins : List (Addr × Obj)) (s : Shared) (σ : St) (H : Hp) (Q : Bool → Hp → Prop), Inv X pins σ H s → t σ H Q → wpAny (model X.prog X.w) X.A (isTrue e X.env whole) (TP X pins σ Q) X.xe s
theorem PW.pt {X : Cx} {e : Expr} {t : TT} (h : PW X e t) : PT X e t := h _
noncomputable def PA (X : Cx) (es : List Expr) (t : TA) : Prop :=
  ∀ (pos : Pos) (pins : List (Addr × Obj)) (s : Shared) (σ : St) (H : Hp) (Q : List V → Hp → Prop), Inv X pins σ H s → t σ H Q → wpAny (model X.prog X.w) X.A (spliced (backTo pos (starEach es X.env))) (AP X pins σ Q) X.xe s
noncomputable def PS (X : Cx) (st : Stmt) (t : TS) : Prop :=
  ∀ (pins : List (Addr × Obj)) (s : Shared) (σ : St) (H : Hp) (D : Ends), Inv X pins σ H s → t D σ H → wpAny (model X.prog X.w) X.A (exec st X.env) (SP X pins D) X.xe s
noncomputable def PSs (X : Cx) (st : List Stmt) (t : TS) : Prop :=
  ∀ (pins : List (Addr × Obj)) (s : Shared) (σ : St) (H : Hp) (D : Ends), Inv X pins σ H s → t D σ H → wpAny (model X.prog X.w) X.A (execs st X.env) (SP X pins D) X.xe s
theorem thn {α : Type} {t : Sem α} {Q Q' : α → Shared → Prop} {M : Model} {A : Around} {E : Value → Shared → Prop} {s : Shared} (h : wpAny M A t Q E s) (hQ : ∀ a s, Q a s → Q' a s) : wpAny M A t Q' E s := wpAny_mono h hQ fun _ _ x => x
end L2
namespace L2
open PySem PySem.Spec PyProof.Rows
section
variable {X : Cx}
theorem bin {a b : Expr} {ta tb : TE} (ha : PE X a ta) (hb : PE X b tb) {pins : List (Addr × Obj)} {s : Shared} {σ : St} {H : Hp} {R : V → V → Hp → Prop} (I : Inv X pins σ H s) (h : ta σ H fun x H1 => tb σ H1 fun y H2 => R x y H2)
    {α : Type} {Q : α → Shared → Prop} {f : Value → Value → Sem α}
    (hf : ∀ v u s2 x y H2, Inv X pins σ H2 s2 → RelV x v → RelV y u → R x y H2 → wpAny (model X.prog X.w) X.A (f v u) Q X.xe s2) :
    wpAny (model X.prog X.w) X.A (eval a X.env) (fun v s₁ => wpAny (model X.prog X.w) X.A (eval b X.env) (fun u s₂ => wpAny (model X.prog X.w) X.A (f v u) Q X.xe s₂) X.xe s₁) X.xe s := by
  refine thn (ha pins s σ H _ I h) fun v s1 ⟨x, H1, I1, r1, q1⟩ => ?_
  refine thn (hb pins s1 σ H1 _ I1 q1) fun u s2 ⟨y, H2, I2, r2, q2⟩ => ?_
  exact hf v u s2 x y H2 I2 r1 r2 q2
noncomputable def tVar (i : Nat) : TE := fun σ H Q => ∃ v, σ[i]? = some (some v) ∧ Q v H
noncomputable def tC (v : V) : TE := fun _ H Q => Q v H
theorem pe_var {i : Nat} {x : Str} {pos : Pos} (hN : X.N[i]? = some x) (hv : Vis X.env.scope x) (hd : (x == ("__debug__" : Str)) = false := by decide) (hcd : (x == ("__classdict__" : Str)) = false := by decide) : PE X (.Name x pos) (tVar i) := by
  intro pins s σ H Q I h
  obtain ⟨v, e, h⟩ := h
  obtain ⟨m, hn, hl⟩ := I.loc
  obtain ⟨u, r, l⟩ := hl i x v hN e hv
  have fin : EP X pins σ Q u s := ⟨v, H, I, r, h⟩
  rcases l with ⟨hk, hm⟩ | ⟨hk, c, hc, hcell⟩
  · exact wpAny_Name (wpAny_loadName_local I.ok.kind hk hn hm fin) hd
  · rcases hk with hk | hk
    · exact wpAny_Name (wpAny_loadName_cell I.ok.kind hk hc hcell fin) hd
    · exact wpAny_Name (wpAny_loadName_free I.ok.kind hk hc hcell fin hcd) hd
theorem pe_int {i j pos} : PE X (.Constant (.int i) j pos) (tC (.int i)) := fun _ _ _ H _ I h => wpAny_Constant_int ⟨.int i, H, I.tok _, ⟨_, rfl⟩, h⟩
theorem pe_bl {b j pos} : PE X (.Constant (.bool b) j pos) (tC (.bl b)) := fun _ _ _ H _ I h => Constant_bool ⟨.bl b, H, I, rfl, h⟩
theorem pe_non {j pos} : PE X (.Constant .none j pos) (tC .non) := fun _ _ _ H _ I h => Constant_none ⟨.non, H, I, rfl, h⟩
theorem pe_str {x j pos} : PE X (.Constant (.str x) j pos) (tC (.str x)) := fun _ _ _ H _ I h => Calls.Constant_str ⟨.str x, H, I.tok _, ⟨_, rfl⟩, h⟩
noncomputable def Gl (X : Cx) (x : Str) : Prop := X.env.kindOf x = some .globalImplicit
theorem Zkq {E : Value → Shared → Prop} {pins : List (Addr × Obj)} {s : Shared} {σ : St} {H : Hp} {x : Str} {u : Value} {pos : Pos} {Q : Value → Shared → Prop} (I : Inv X pins σ H s) (hg : Gl X x) (hm : X.mg x = some u) (h : Q u s)
    (hd : (x == ("__debug__" : Str)) = false := by decide) : wpAny (model X.prog X.w) X.A (eval (.Name x pos) X.env) Q E s :=
  Calls.Name_function_global I.ok.kind hg (Calls.loadGlobal_global (by rw [I.ok.glob]; exact I.mod.glob.keeps I.bk) hm h) hd
theorem Xf {E : Value → Shared → Prop} {pins : List (Addr × Obj)} {s : Shared} {σ : St} {H : Hp} {x : Str} {u : Value} {pos : Pos} {Q : Value → Shared → Prop} (I : Inv X pins σ H s) (hg : Gl X x) (hm : X.mg x = none) (hv : bootBuiltins x = some u) (h : Q u s)
    (hn : x ≠ "__name__" := by decide) (hd : (x == ("__debug__" : Str)) = false := by decide) : wpAny (model X.prog X.w) X.A (eval (.Name x pos) X.env) Q E s := by
  obtain ⟨mb, h1, h2⟩ := I.mod.blt
  exact Calls.Name_function_global I.ok.kind hg (Calls.loadGlobal_builtin (by rw [I.ok.glob]; exact I.mod.glob.keeps I.bk) hm (by rw [I.ok.blt]; exact h1.keeps I.bk) ((h2 x hn).trans hv) h) hd
theorem Zj5 {x : Str} {v : V} {u : Value} {pos : Pos} (hg : Gl X x) (hm : X.mg x = none) (hv : bootBuiltins x = some u) (r : RelV v u) (hn : x ≠ "__name__" := by decide) (hd : (x == ("__debug__" : Str)) = false := by decide) : PE X (.Name x pos) (tC v) :=
  fun _ _ _ H _ I h => Xf I hg hm hv ⟨v, H, I, r, h⟩ hn hd
variable {a b : Expr} {ta tb : TE} {pos : Pos}
variable {tA tB' : TT} {rest : List Expr}
noncomputable def tAnd (t u : TT) : TT := fun σ H Q => t σ H fun c H1 => if c = true then u σ H1 Q else Q false H1
noncomputable def tOr (t u : TT) : TT := fun σ H Q => t σ H fun c H1 => if c = true then Q true H1 else u σ H1 Q
noncomputable def tNot (t : TT) : TT := fun σ H Q => t σ H fun c H1 => Q (!c) H1
theorem ZgF (ha : PT X a tA) : PW X (.BoolOp .And [a] pos) tA := by
  intro wh pins s σ H Q I h
  refine isTrue_and (thn (ha pins s σ H Q I h) fun c s1 e => ?_)
  cases c with
  | true => exact isTrue_and_nil e
  | false => exact e
theorem Zji (ha : PT X a tA) : PW X (.BoolOp .Or [a] pos) tA := by
  intro wh pins s σ H Q I h
  refine isTrue_or (thn (ha pins s σ H Q I h) fun c s1 e => ?_)
  cases c with
  | false => exact isTrue_or_nil e
  | true => exact e
theorem pw_and (ha : PT X a tA) (hb : PW X (.BoolOp .And (b :: rest) pos) tB') : PW X (.BoolOp .And (a :: b :: rest) pos) (tAnd tA tB') := by
  intro wh pins s σ H Q I h
  refine isTrue_and (thn (ha pins s σ H _ I h) fun c s1 ⟨H1, I1, q1⟩ => ?_)
  cases c with
  | true => exact hb wh pins s1 σ H1 Q I1 q1
  | false => exact ⟨H1, I1, q1⟩
theorem pw_or (ha : PT X a tA) (hb : PW X (.BoolOp .Or (b :: rest) pos) tB') : PW X (.BoolOp .Or (a :: b :: rest) pos) (tOr tA tB') := by
  intro wh pins s σ H Q I h
  refine isTrue_or (thn (ha pins s σ H _ I h) fun c s1 ⟨H1, I1, q1⟩ => ?_)
  cases c with
  | true => exact ⟨H1, I1, q1⟩
  | false => exact hb wh pins s1 σ H1 Q I1 q1
theorem pt_not (ha : PT X a tA) : PT X (.UnaryOp .Not a pos) (tNot tA) := by
  intro pins s σ H Q I h
  exact isTrue_not (ha pins s σ H (fun c H1 => Q (!c) H1) I h)
noncomputable def tAndV (ta tb : TE) : TE := fun σ H Q => ta σ H fun x H1 => ∃ c, x = .bl c ∧ if c = true then tb σ H1 Q else Q (.bl false) H1
noncomputable def tOrV (ta tb : TE) : TE := fun σ H Q => ta σ H fun x H1 => ∃ c, x = .bl c ∧ if c = true then Q (.bl true) H1 else tb σ H1 Q
noncomputable def tNotV (ta : TE) : TE := fun σ H Q => ta σ H fun x H1 => ∃ c, x = .bl c ∧ Q (.bl (!c)) H1
theorem ZeW {op} {t : TE} (h : PE X a t) : PE X (.BoolOp op [a] pos) t := fun pins s σ H Q I hw => BoolOp_one (h pins s σ H Q I hw)
theorem pe_and (ha : PE X a ta) (hb : PE X (.BoolOp .And (b :: rest) pos) tb) : PE X (.BoolOp .And (a :: b :: rest) pos) (tAndV ta tb) := by
  intro pins s σ H Q I h
  refine BoolOp_and (thn (ha pins s σ H _ I h) fun v s1 ⟨x, H1, I1, r1, q1⟩ => ?_)
  obtain ⟨c, rfl, q1⟩ := q1
  cases r1
  refine wpAny_truthy_bool ?_
  cases c with
  | true => exact hb pins s1 σ H1 Q I1 q1
  | false => exact ⟨.bl false, H1, I1, rfl, q1⟩
theorem pe_or (ha : PE X a ta) (hb : PE X (.BoolOp .Or (b :: rest) pos) tb) : PE X (.BoolOp .Or (a :: b :: rest) pos) (tOrV ta tb) := by
  intro pins s σ H Q I h
  refine BoolOp_or (thn (ha pins s σ H _ I h) fun v s1 ⟨x, H1, I1, r1, q1⟩ => ?_)
  obtain ⟨c, rfl, q1⟩ := q1
  cases r1
  refine wpAny_truthy_bool ?_
  cases c with
  | false => exact hb pins s1 σ H1 Q I1 q1
  | true => exact ⟨.bl true, H1, I1, rfl, q1⟩
theorem pe_not (ha : PE X a ta) : PE X (.UnaryOp .Not a pos) (tNotV ta) := by
  intro pins s σ H Q I h
  refine UnaryOp_ (thn (ha pins s σ H _ I h) fun v s1 ⟨x, H1, I1, r1, q1⟩ => ?_)
  obtain ⟨c, rfl, q1⟩ := q1
  cases r1
  exact not_of (wpAny_truthy_bool ⟨.bl (!c), H1, I1, rfl, q1⟩)
end
end L2
namespace L2
open PySem PySem.Spec PyProof.Rows
noncomputable def SqL (K : PySem.W.Frag) (H : Hp) (a : Addr) (xs : List V) : Prop :=
  Rd H a (.lst xs) ∨
    ∃ (o : Obj) (its : Array Value) (n : Nat), K.lookup a = some o ∧ o.cls = .type "list" ∧ o.dict = none ∧ o.data = .seq its n ∧ its.size ≤ sizeLine ∧ Vals xs its.toList
noncomputable def SqT (K : PySem.W.Frag) (H : Hp) (a : Addr) (xs : List V) : Prop :=
  Rd H a (.tup xs) ∨
    ∃ (o : Obj) (its : Array Value) (n : Nat), K.lookup a = some o ∧ o.cls = .type "tuple" ∧ o.data = .seq its n ∧ its.size ≤ sizeLine ∧ Vals xs its.toList ∧ o.dict = none
noncomputable def absV : Value → Option V
  | .none => some .non
  | .bool b => some (.bl b)
  | .int i _ => some (.int i)
  | .str x _ => some (.str x)
  | .bytes b _ => some (.byt b)
  | .float b _ => some (.flt b)
  | .ref a => some (.ref a)
  | .type n => some (.ty n)
  | _ => none
theorem RelV.abs {x : V} {u : Value} (r : RelV x u) : absV u = some x := by
  cases x with
  | non => cases r; rfl
  | bl _ => cases r; rfl
  | int _ => obtain ⟨t, rfl⟩ := r; rfl
  | str _ => obtain ⟨t, rfl⟩ := r; rfl
  | byt _ => obtain ⟨t, rfl⟩ := r; rfl
  | flt _ => obtain ⟨t, rfl⟩ := r; rfl
  | ref _ => cases r; rfl
  | ty _ => cases r; rfl
theorem RelV.inj {x y : V} {u : Value} (r : RelV x u) (q : RelV y u) : x = y := Option.some.inj (r.abs.symm.trans q.abs)
theorem Vals.inj : ∀ {xs ys : List V} {us : List Value}, Vals xs us → Vals ys us → xs = ys
  | _, _, _, .nil, .nil => rfl
  | _, _, _, .cons r t, .cons r' t' => by rw [r.inj r', Vals.inj t t']
section
variable {X : Cx} {pins : List (Addr × Obj)} {σ : St} {H : Hp} {s : Shared} {a : Addr} {xs ys : List V}
theorem SqL.of {K : PySem.W.Frag} (h : H a = some (.lst xs)) : SqL K H a xs := .inl (.inl h)
theorem SqT.of {K : PySem.W.Frag} (h : H a = some (.tup xs)) : SqT K H a xs := .inl (.inl h)
theorem Inv.list (I : Inv X pins σ H s) (h : SqL X.K H a xs) : ∃ its : List Value, Vals xs its ∧ PlainL s.heap a its.toArray ∧ xs.length ≤ sizeLine := by
  rcases h with h | ⟨o, its, n, hk, hc, hd, hs, hz, r⟩
  · obtain ⟨z, its, n, r, e⟩ := h.ok I.hok
    exact ⟨its, r, ⟨_, n, e, rfl, rfl, rfl⟩, z⟩
  · refine ⟨its.toList, r, ⟨o, n, I.kIn a o hk, hc, hd, by simpa using hs⟩, ?_⟩
    have e := r.length
    simp only [Array.length_toList] at e
    omega
theorem Inv.tuple (I : Inv X pins σ H s) (h : SqT X.K H a xs) : ∃ its : List Value, Vals xs its ∧ IsTup s.heap a its.toArray ∧ xs.length ≤ sizeLine := by
  rcases h with h | ⟨o, its, n, hk, hc, hs, hz, r, hdn⟩
  · obtain ⟨z, its, r, p⟩ := h.ok I.hok
    exact ⟨its, r, p.is, z⟩
  · refine ⟨its.toList, r, ⟨o, I.kIn a o hk, hc, n, by simpa using hs⟩, ?_⟩
    have e := r.length
    simp only [Array.length_toList] at e
    omega
theorem Inv.list_inj (I : Inv X pins σ H s) (h : SqL X.K H a xs) (h' : SqL X.K H a ys) : xs = ys := by
  obtain ⟨its, r, ⟨o, n, e, _, _, d⟩, _⟩ := I.list h
  obtain ⟨its', r', ⟨o', n', e', _, _, d'⟩, _⟩ := I.list h'
  rw [e] at e'; cases e'
  rw [d] at d'
  injection d' with d1 _
  have : its = its' := by simpa using congrArg Array.toList d1
  subst this
  exact r.inj r'
theorem Inv.tuple_inj (I : Inv X pins σ H s) (h : SqT X.K H a xs) (h' : SqT X.K H a ys) : xs = ys := by
  obtain ⟨its, r, ⟨o, e, _, n, d⟩, _⟩ := I.tuple h
  obtain ⟨its', r', ⟨o', e', _, n', d'⟩, _⟩ := I.tuple h'
  rw [e] at e'; cases e'
  rw [d] at d'
  injection d' with d1 _
  have : its = its' := by simpa using congrArg Array.toList d1
  subst this
  exact r.inj r'
end
noncomputable abbrev Cx.wish (X : Cx) (E : Value → Shared → Prop) : Cx := { X with xe := E }
noncomputable abbrev Cx.nox (X : Cx) : Cx := X.wish fun _ _ => False
theorem Cx.Ok.wish {X : Cx} (ok : X.Ok) (E : Value → Shared → Prop) : (X.wish E).Ok :=
  ⟨ok.mod, ok.kind, ok.glob, ok.blt, ok.above, ok.inj, ok.has, ok.cab, ok.hd, ok.frames, ok.stk, ok.exf, ok.bs, ok.bsz, ok.noex, ok.exfs, ok.funs, ok.frf⟩
theorem Cx.Ok.unwish {X : Cx} {E : Value → Shared → Prop} (ok : (X.wish E).Ok) : X.Ok :=
  ⟨ok.mod, ok.kind, ok.glob, ok.blt, ok.above, ok.inj, ok.has, ok.cab, ok.hd, ok.frames, ok.stk, ok.exf, ok.bs, ok.bsz, ok.noex, ok.exfs, ok.funs, ok.frf⟩
section
variable {X : Cx} {pins : List (Addr × Obj)} {σ : St} {H : Hp} {s : Shared} {E : Value → Shared → Prop}
theorem Inv.wish (I : Inv X pins σ H s) (E : Value → Shared → Prop) : Inv (X.wish E) pins σ H s := ⟨I.ok.wish E, I.os, I.bare, I.base, I.loc, I.cell, I.free, I.freeC, I.pin, I.hok, I.len⟩
theorem Inv.unwish (I : Inv (X.wish E) pins σ H s) : Inv X pins σ H s := ⟨I.ok.unwish, I.os, I.bare, I.base, I.loc, I.cell, I.free, I.freeC, I.pin, I.hok, I.len⟩
theorem SP.unwish {D : Ends} {f : Flow} {s' : Shared} (h : SP (X.wish E) pins D f s') : SP X pins D f s' := by
  cases f with
  | next => obtain ⟨σ', H', I, q⟩ := h; exact ⟨σ', H', I.unwish, q⟩
  | brk => obtain ⟨σ', H', I, q⟩ := h; exact ⟨σ', H', I.unwish, q⟩
  | cont => obtain ⟨σ', H', I, q⟩ := h; exact ⟨σ', H', I.unwish, q⟩
  | ret u => obtain ⟨v, σ', H', I, r, q⟩ := h; exact ⟨v, σ', H', I.unwish, r, q⟩
theorem PSs.nox {st : List Stmt} {t : TS} (h : PSs X.nox st t) : PSs X st t := fun pins s σ H D I hw =>
  wpAny_mono (h pins s σ H D (I.wish _) hw) (fun _ _ q => q.unwish) fun _ _ z => False.elim z
end
section
variable {X : Cx} {st : Stmt} {rest : List Stmt} {t u : TS} {e : Expr} {te : TE} {pos : Pos}
noncomputable def tNext : TS := fun D σ H => D.nx σ H
noncomputable def tSeq (t u : TS) : TS := fun D σ H => t { D with nx := u D } σ H
theorem ZjS : PSs X [] tNext := fun _ _ σ H _ I h => wpAny_execs_nil ⟨σ, H, I, h⟩
theorem JH (h1 : PS X st t) (h2 : PSs X rest u) : PSs X (st :: rest) (tSeq t u) := by
  intro pins s σ H D I h
  refine wpAny_execs_cons (thn (h1 pins s σ H { D with nx := u D } I h) fun f s1 q => ?_)
  cases f with
  | next =>
    obtain ⟨σ', H', I', q⟩ := q
    exact h2 pins s1 σ' H' D I' q
  | ret v => exact q
  | brk => exact q
  | cont => exact q
theorem Inv.quiet {pins : List (Addr × Obj)} {σ : St} {H : Hp} {s : Shared} (I : Inv X pins σ H s) : interactive X.env = false := by simp [interactive, I.ok.kind]
noncomputable def tDrop (te : TE) : TS := fun D σ H => te σ H fun _ H1 => D.nx σ H1
theorem ZjU (he : PE X e te) (hs : swapsWith e none pos.line X.env = pure false := by rfl) : PS X (.Expr e pos) (tDrop te) := by
  intro pins s σ H D I h
  exact wpAny_Expr_any (thn (he pins s σ H _ I h) fun v s1 ⟨x, H1, I1, r1, q1⟩ => ⟨σ, H1, I1, q1⟩) I.quiet hs
noncomputable def tRet (te : TE) : TS := fun D σ H => te σ H D.rt
theorem ps_ret (he : PE X e te) : PS X (.Return (some e) pos) (tRet te) := by
  intro pins s σ H D I h
  exact wpAny_Return_some (thn (he pins s σ H _ I h) fun v s1 ⟨x, H1, I1, r1, q1⟩ => ⟨x, σ, H1, I1, r1, q1⟩)
noncomputable def tIfS (c : TT) (t u : TS) : TS := fun D σ H => c σ H fun b H1 => if b = true then t D σ H1 else u D σ H1
theorem ps_if {c : Expr} {a b : List Stmt} {tc : TT} (hc : PT X c tc) (ha : PSs X a t) (hb : PSs X b u) : PS X (.If c a b pos) (tIfS tc t u) := by
  intro pins s σ H D I h
  refine wpAny_If (thn (hc pins s σ H _ I h) fun d s1 ⟨H1, I1, q1⟩ => ?_)
  cases d with
  | true => exact ha pins s1 σ H1 D I1 q1
  | false => exact hb pins s1 σ H1 D I1 q1
noncomputable def tNever : TS := fun _ _ _ => False
theorem ZgG {sts : List Stmt} : PSs X sts tNever := fun _ _ _ _ _ _ h => h.elim
end
noncomputable abbrev TG := V → St → Hp → (St → Hp → Prop) → Prop
noncomputable abbrev TGs := List V → St → Hp → (St → Hp → Prop) → Prop
noncomputable def PG (X : Cx) (target : Expr) (t : TG) : Prop :=
  ∀ (pins : List (Addr × Obj)) (s : Shared) (σ : St) (H : Hp) (v : V) (u : Value) (Q : St → Hp → Prop), Inv X pins σ H s → RelV v u → t v σ H Q →
    wpAny (model X.prog X.w) X.A (assign target X.env u) (fun _ s' => ∃ σ' H', Inv X pins σ' H' s' ∧ Q σ' H') X.xe s
noncomputable def PGs (X : Cx) (ts : List Expr) (t : TGs) : Prop :=
  ∀ (pins : List (Addr × Obj)) (s : Shared) (σ : St) (H : Hp) (vs : List V) (us : List Value) (Q : St → Hp → Prop), Inv X pins σ H s → Vals vs us → t vs σ H Q →
    wpAny (model X.prog X.w) X.A (assignInOrder ((assignEach ts X.env).map (·.2)) us) (fun _ s' => ∃ σ' H', Inv X pins σ' H' s' ∧ Q σ' H') X.xe s
noncomputable abbrev TSet := V → V → V → Hp → (Hp → Prop) → Prop
noncomputable def PSet (X : Cx) (t : TSet) : Prop :=
  ∀ (pins : List (Addr × Obj)) (s : Shared) (σ : St) (H : Hp) (o i v : V) (ov iv u : Value) (Q : Hp → Prop), Inv X pins σ H s → RelV o ov → RelV i iv → RelV v u → t o i v H Q →
    wpAny (model X.prog X.w) X.A (setItem ov iv u) (fun _ s' => ∃ H', Inv X pins σ H' s' ∧ Q H') X.xe s
section
variable {X : Cx} {pos : Pos}
noncomputable def Zkx (i : Nat) : TG := fun v σ H Q => Q (σ.set i (some v)) H
theorem ZaP {i : Nat} {x : Str} (hN : X.N.Nodup) (hi : X.N[i]? = some x) (hx : Loc X.env.scope x) (hf : X.fn x = true ∨ X.env.scope.names.lookup x = some .local := by first | exact .inl rfl | exact .inr rfl | assumption) : PG X (.Name x pos) (Zkx i) := by
  intro pins s σ H v u Q I r h
  exact wpAny_assign_Name (ZeQ I hN hi hx r (fun s' I' => ⟨_, H, I', h⟩) hf)
noncomputable def gNil : TGs := fun vs σ H Q => vs = [] ∧ Q σ H
noncomputable def gCons (t : TG) (u : TGs) : TGs := fun vs σ H Q => ∃ v r, vs = v :: r ∧ t v σ H fun σ' H' => u r σ' H' Q
theorem ZgQ : PGs X [] gNil := by
  intro pins s σ H vs us Q I r h
  obtain ⟨e, h⟩ := h
  subst e
  cases r
  exact assignInOrder_nil ⟨σ, H, I, h⟩
theorem Zar {e : Expr} {es : List Expr} {t : TG} {u : TGs} (h1 : PG X e t) (h2 : PGs X es u)
    (hs : (assignEach (e :: es) X.env).map (·.2) = assign e X.env :: (assignEach es X.env).map (·.2) := by rfl) : PGs X (e :: es) (gCons t u) := by
  intro pins s σ H vs us Q I r h
  obtain ⟨v, vr, e1, h⟩ := h
  subst e1
  cases r with
  | cons r rr =>
    rw [hs]
    refine assignInOrder_cons (thn (h1 pins s σ H _ _ _ I r h) fun _ s1 ⟨σ1, H1, I1, q1⟩ => ?_)
    exact h2 pins s1 σ1 H1 _ _ Q I1 rr q1
noncomputable def gTup (K : PySem.W.Frag) (n : Nat) (t : TGs) : TG := fun v σ H Q => ∃ a xs, v = .ref a ∧ SqT K H a xs ∧ xs.length = n ∧ t xs σ H Q
theorem Zjm {es : List Expr} {k : Nat} {t : TGs} {n : Nat} (hc : X.calm = true) (h : PGs X es t)
    (hn : (assignEach es X.env).length = n := by rfl) (hst : (assignEach es X.env).findIdx? (·.1) = none := by rfl) : PG X (.Tuple es k pos) (gTup X.K n t) := by
  intro pins s σ H v u Q I r hw
  obtain ⟨a, xs, e1, hq, hl, hw⟩ := hw
  subst e1
  cases r
  obtain ⟨its, rv, ht, hz⟩ := I.tuple hq
  refine assign_Tuple_tuple (I.ok.hd hc) ht (by simp [hn, ← hl, rv.length]) hst fun h' hx => ?_
  have I1 : Inv X pins σ H { s with heap := h' } := I.kept (t' := s.toks) fun b o e => hx b o (Nat.ne_of_lt (Heap.lt_size e)) e
  exact h pins _ σ H xs _ Q I1 (by simpa using rv) hw
noncomputable def gSub (to ti : TE) (t : TSet) : TG := fun v σ H Q => to σ H fun o H1 => ti σ H1 fun i H2 => t o i v H2 fun H3 => Q σ H3
theorem pg_sub {o i : Expr} {to ti : TE} {t : TSet} (ho : PE X o to) (hi : PE X i ti) (hs : PSet X t)
    (ha : ∀ v, assign (.Subscript o i pos) X.env v = (do
      let ov ← holding [v] (eval o X.env)
      let iv ← holding [v, ov] (eval i X.env)
      standAt pos
      holding [v, ov, iv] (setItem ov iv v)
      release [v, ov, iv] []) := by intro _; rfl) : PG X (.Subscript o i pos) (gSub to ti t) := by
  intro pins s σ H v u Q I r h
  rw [ha]
  refine wpAny_bind (wpAny_holding (thn (ho pins s σ H _ I h) fun ov s1 ⟨x, H1, I1, r1, q1⟩ => ?_))
  refine wpAny_bind (wpAny_holding (thn (hi pins s1 σ H1 _ I1 q1) fun iv s2 ⟨y, H2, I2, r2, q2⟩ => ?_))
  refine wpAny_bind (wpAny_standAt (wpAny_bind (wpAny_holding (thn (hs pins s2 σ H2 x y v ov iv u _ I2 r1 r2 r q2) fun _ s3 ⟨H3, I3, q3⟩ => ?_))))
  exact wpAny_release ⟨σ, H3, I3, q3⟩
noncomputable def tAsg (te : TE) (g : TG) : TS := fun D σ H => te σ H fun x H1 => g x σ H1 D.nx
theorem Zjl {tg e : Expr} {te : TE} {g : TG} (he : PE X e te) (hg : PG X tg g) (hs : swapsWithSole [tg] e pos.line X.env = pure false := by rfl) (hw : swappedStores [tg] e X.env = pure none := by rfl)
    (h1 : (assignEach [tg] X.env).map (·.2) = [assign tg X.env] := by rfl) : PS X (.Assign [tg] e pos) (tAsg te g) := by
  intro pins s σ H D I h
  refine wpAny_Assign_stores (thn (he pins s σ H _ I h) fun v s1 ⟨x, H1, I1, r1, q1⟩ => ?_) hs hw
  rw [h1]
  exact thn (hg pins s1 σ H1 x v _ I1 r1 q1) fun _ s2 q => q
theorem ps_set {i : Nat} {x : Str} {e : Expr} {te : TE} {pos' : Pos} (hN : X.N.Nodup) (hi : X.N[i]? = some x) (hx : Loc X.env.scope x) (he : PE X e te) (hs : swapsWith e (some (.Name x pos')) pos.line X.env = pure false := by rfl) (hf : X.fn x = true ∨ X.env.scope.names.lookup x = some .local := by first | exact .inl rfl | exact .inr rfl | assumption) :
    PS X (.Assign [.Name x pos'] e pos) (tAsg te (Zkx i)) := by
  intro pins s σ H D I h
  refine wpAny_Assign_Name (thn (he pins s σ H _ I h) fun v s1 ⟨y, H1, I1, r1, q1⟩ => ?_) hs
  exact ZeQ I1 hN hi hx r1 (fun s2 I2 => ⟨_, H1, I2, q1⟩) hf
end
section
variable {X : Cx} {pos : Pos}
end
structure It where
  go : Nat → Hp → Prop
  yld : Nat → Hp → V → Hp → Prop
  stop : Nat → Hp → Prop
noncomputable def FpOk (X : Cx) (pins : List (Addr × Obj)) (H : Hp) (b : Addr) : Prop :=
  H b = none ∧ b ≠ X.env.locals ∧ b ∉ X.fs ∧ (b ∈ X.ex ∨ X.s₀.heap.objs.size ≤ b) ∧ (∀ x c, X.env.cells.lookup x = some c → c ≠ b) ∧ ∀ p ∈ X.pn ++ pins, p.1 ≠ b
theorem Inv.fpOk {X : Cx} {pins : List (Addr × Obj)} {σ : St} {H H' : Hp} {s : Shared} {b : Addr} (I : Inv X pins σ H s) (hb : s.heap.objs.size ≤ b) (hn : H' b = none) : FpOk X pins H' b := by
  refine ⟨hn, Nat.ne_of_gt (Nat.lt_of_lt_of_le I.lt hb), I.nofs hb, .inr (Nat.le_trans I.sz hb), fun x c e z => ?_, fun p hp z => ?_⟩
  · obtain ⟨v, q⟩ := I.cell x c e
    exact absurd (Nat.lt_of_lt_of_le q.lt (by rw [z]; exact hb)) (Nat.lt_irrefl _)
  · exact absurd (Nat.lt_of_lt_of_le (Heap.lt_size (I.pin p hp).1) (by rw [z]; exact hb)) (Nat.lt_irrefl _)
structure Turn (P : Program) (w : World) (K : PySem.W.Frag) (tg : Expr) (J : It) (fp : List Addr) (it : Addr) (tn : Nat → Heap → Prop) : Prop where
  mem : it ∈ fp
  obj : ∀ i h, tn i h → ∀ b ∈ fp, ∃ o, h.get? b = some o ∧ ∀ v, o.data ≠ .cell v
  keep : ∀ i h h', tn i h → (∀ b ∈ fp, ∀ o, h.get? b = some o → h'.get? b = some o) → tn i h'
  item : ∀ (X : Cx), X.prog = P → X.w = w → X.K = K → X.calm = true → ∀ (i : Nat) (pins : List (Addr × Obj)) (s : Shared) (σ : St) (H : Hp) (E : Value → Shared → Prop), Inv X pins σ H s → (∀ b ∈ fp, FpOk X pins H b) → tn i s.heap → J.go i H →
    wpAny (model P w) X.A (pyNext (.ref it)) (fun r s1 => ∃ u, r = some u ∧
      wpAny (model P w) X.A (letOwnedTupleGo tg (.ref it) u) (fun _ s2 => ∃ x H', Inv X pins σ H' s2 ∧ RelV x u ∧ J.yld i H x H' ∧ tn (i + 1) s2.heap ∧ ∀ b ∈ fp, H' b = none) E s1) E s
  done : ∀ (X : Cx), X.prog = P → X.w = w → X.K = K → X.calm = true → ∀ (i : Nat) (pins : List (Addr × Obj)) (s : Shared) (σ : St) (H : Hp) (E : Value → Shared → Prop), Inv X pins σ H s → (∀ b ∈ fp, FpOk X pins H b) → tn i s.heap → J.stop i H →
    wpAny (model P w) X.A (pyNext (.ref it)) (fun r s1 => r = none ∧ Inv X pins σ H s1) E s
  self : ∀ (A : Around) (i : Nat) (s : Shared) (Q : Value → Shared → Prop) (E : Value → Shared → Prop), tn i s.heap → Q (.ref it) s → wpAny (model P w) A (pyIter (.ref it)) Q E s
noncomputable abbrev TI := St → Hp → (It → Hp → Prop) → Prop
noncomputable def PIE (X : Cx) (pins : List (Addr × Obj)) (σ : St) (tg : Expr) (R : It → Hp → Prop) (itv : Value) (s2 : Shared) : Prop :=
  ∃ (it : Addr) (fp : List Addr) (tn : Nat → Heap → Prop) (J : It) (H' : Hp), itv = .ref it ∧ Inv X pins σ H' s2 ∧ Turn X.prog X.w X.K tg J fp it tn ∧ tn 0 s2.heap ∧ (∀ b ∈ fp, FpOk X pins H' b) ∧ R J H'
noncomputable def PI (X : Cx) (tg iter : Expr) (wi : TI) : Prop :=
  ∀ (pins : List (Addr × Obj)) (s : Shared) (σ : St) (H : Hp) (R : It → Hp → Prop), Inv X pins σ H s → wi σ H R →
    wpAny (model X.prog X.w) X.A (eval iter X.env) (fun v s1 => wpAny (model X.prog X.w) X.A (pyIter v) (PIE X pins σ tg R) X.xe s1) X.xe s
theorem ZiX {M : Model} {A : Around} {E : Value → Shared → Prop} {s : Shared} {tg : Expr} {it : Addr} {u : Value} {o : Obj} {n : String} {vs : Array Value} {Q : Unit → Shared → Prop} (ho : s.heap.get? it = some o) (hc : o.cls = .type n) (hd : o.data = .fields vs)
    (hn : ["enumerate", "zip", "dict_itemiterator", "dict_reverseitemiterator", "odict_iterator", "itertools.zip_longest", "itertools.pairwise"].contains n = false) (hQ : Q () s) : wpAny M A (letOwnedTupleGo tg (.ref it) u) Q E s := by
  unfold letOwnedTupleGo
  cases tg <;> first
    | exact wpAny_pure hQ
    | (cases u <;> first
        | exact wpAny_pure hQ
        | (refine wpAny_bind (wpAny_load ho ?_)
           rw [hc, hd]
           show wpAny M A (if (["enumerate", "zip", "dict_itemiterator", "dict_reverseitemiterator", "odict_iterator", "itertools.zip_longest", "itertools.pairwise"].contains n && vs[0]? == some (rawInt _)) = true then _ else _) Q E s
           rw [if_neg (by intro h; rw [hn, Bool.false_and] at h; cases h)]
           exact wpAny_pure hQ))
noncomputable def Itl (K : PySem.W.Frag) (a : Addr) : It :=
  ⟨fun i H => ∃ xs x, SqL K H a xs ∧ xs[i]? = some x, fun i H x H' => H' = H ∧ ∀ xs, SqL K H a xs → xs[i]? = some x, fun i H => ∃ xs, SqL K H a xs ∧ xs.length ≤ i⟩
noncomputable def Itt (K : PySem.W.Frag) (a : Addr) : It :=
  ⟨fun i H => ∃ xs x, SqT K H a xs ∧ xs[i]? = some x, fun i H x H' => H' = H ∧ ∀ xs, SqT K H a xs → xs[i]? = some x, fun i H => ∃ xs, SqT K H a xs ∧ xs.length ≤ i⟩
noncomputable def Itr (lo : Int) (n : Nat) : It := ⟨fun i _ => i < n, fun i H x H' => H' = H ∧ x = .int (lo + i), fun i _ => n ≤ i⟩
theorem Zgn {P : Program} {w : World} {K : PySem.W.Frag} {tg : Expr} (a it : Addr) : Turn P w K tg (Itl K a) [it] it (fun i h => h.IsListIter it a i) where
  mem := by simp
  obj := fun i h st b hb => by
    have e : b = it := by simpa using hb
    subst e
    obtain ⟨o, e, c, d⟩ := st
    exact ⟨o, e, fun v z => by rw [d] at z; cases z⟩
  keep := fun i h h' st k => st.at fun o e => k it (by simp) o e
  item := by
    intro X hP hw hK hc i pins s σ H E I hf st hg
    subst hP hw hK
    obtain ⟨xs, x, hq, hx⟩ := hg
    obtain ⟨its, rv, p, hz⟩ := I.list hq
    obtain ⟨u, hu, ru⟩ := rv.get hx
    obtain ⟨f0, f1, f2, f3, f4, f5⟩ := hf it (by simp)
    refine wpAny_pyNext_list_item st p.isList (x := u) (by simpa using hu) fun h' st' sb => ?_
    have I1 : Inv X pins σ H { s with heap := h' } := I.turned (t' := s.toks) (fun b o hb e => (sb.2 b hb).trans e) f0 f1 f3 f4 f5
    obtain ⟨o, e, c, d⟩ := id st'
    exact ⟨u, rfl, ZiX (s := { s with heap := h' }) e c d (by decide) ⟨x, H, I1, ru, ⟨rfl, fun ys hy => by rw [I.list_inj hy hq]; exact hx⟩, st', fun b hb => (hf b hb).1⟩⟩
  done := by
    intro X hP hw hK hc i pins s σ H E I hf st hg
    subst hP hw hK
    obtain ⟨xs, hq, hx⟩ := hg
    obtain ⟨its, rv, p, hz⟩ := I.list hq
    obtain ⟨f0, f1, f2, f3, f4, f5⟩ := hf it (by simp)
    have hl := rv.length
    exact wpAny_pyNext_list_end (I.ok.hd hc) st p.isList (by simp; omega) fun h' eb => ⟨rfl, I.turned (t' := s.toks) (fun b o hb e => eb b o hb e) f0 f1 f3 f4 f5⟩
  self := fun _ _ _ _ _ st h => wpAny_pyIter_listiter st h
theorem Zfi {P : Program} {w : World} {K : PySem.W.Frag} {tg : Expr} (a it : Addr) : Turn P w K tg (Itt K a) [it] it (fun i h => h.IsTupleIter it a i) where
  mem := by simp
  obj := fun i h st b hb => by
    have e : b = it := by simpa using hb
    subst e
    obtain ⟨o, e, c, d⟩ := st
    exact ⟨o, e, fun v z => by rw [d] at z; cases z⟩
  keep := fun i h h' st k => st.at fun o e => k it (by simp) o e
  item := by
    intro X hP hw hK hc i pins s σ H E I hf st hg
    subst hP hw hK
    obtain ⟨xs, x, hq, hx⟩ := hg
    obtain ⟨its, rv, p, hz⟩ := I.tuple hq
    obtain ⟨u, hu, ru⟩ := rv.get hx
    obtain ⟨f0, f1, f2, f3, f4, f5⟩ := hf it (by simp)
    refine wpAny_pyNext_tuple_item st (show s.heap.IsTuple a its.toArray from p) (x := u) (by simpa using hu) fun h' st' sb => ?_
    have I1 : Inv X pins σ H { s with heap := h' } := I.turned (t' := s.toks) (fun b o hb e => (sb.2 b hb).trans e) f0 f1 f3 f4 f5
    obtain ⟨o, e, c, d⟩ := id st'
    exact ⟨u, rfl, ZiX (s := { s with heap := h' }) e c d (by decide) ⟨x, H, I1, ru, ⟨rfl, fun ys hy => by rw [I.tuple_inj hy hq]; exact hx⟩, st', fun b hb => (hf b hb).1⟩⟩
  done := by
    intro X hP hw hK hc i pins s σ H E I hf st hg
    subst hP hw hK
    obtain ⟨xs, hq, hx⟩ := hg
    obtain ⟨its, rv, p, hz⟩ := I.tuple hq
    obtain ⟨f0, f1, f2, f3, f4, f5⟩ := hf it (by simp)
    have hl := rv.length
    exact wpAny_pyNext_tuple_end (I.ok.hd hc) st (show s.heap.IsTuple a its.toArray from p) (by simp; omega) fun h' eb => ⟨rfl, I.turned (t' := s.toks) (fun b o hb e => eb b o hb e) f0 f1 f3 f4 f5⟩
  self := fun _ _ _ _ _ st h => wpAny_pyIter_tupleiter st h
theorem Zfj {P : Program} {w : World} {K : PySem.W.Frag} {tg : Expr} (it : Addr) (lo : Int) (n : Nat) : Turn P w K tg (Itr lo n) [it] it (fun i h => IsRangeIter h it (lo + (i : Nat) * 1) ((n : Int) - (i : Nat)) 1) where
  mem := by simp
  obj := fun i h st b hb => by
    have e : b = it := by simpa using hb
    subst e
    exact ⟨_, st, fun v z => by
      have z' : Data.fields _ = Data.cell v := z
      cases z'⟩
  keep := fun i h h' st k => k it (by simp) _ st
  item := by
    intro X hP hw hK hc i pins s σ H E I hf st hg
    subst hP hw hK
    obtain ⟨f0, f1, f2, f3, f4, f5⟩ := hf it (by simp)
    have W := Walks.range (prog := X.prog) (w := X.w) (I.ok.hd hc) it lo 1 n
    refine W.item i s _ _ hg st fun v h' tk hv st' kk => ?_
    obtain ⟨t, rfl⟩ := hv
    have I1 : Inv X pins σ H { s with heap := h', toks := tk } := I.turned (fun b o hb e => kk b o (by simpa using hb) e) f0 f1 f3 f4 f5
    refine ⟨_, rfl, ZiX (s := { s with heap := h', toks := tk }) (n := "range_iterator") st' rfl rfl (by decide) ⟨.int (lo + i), H, I1, ⟨t, ?_⟩, ⟨rfl, rfl⟩, st', fun b hb => (hf b hb).1⟩⟩
    rw [Int.mul_one]
  done := by
    intro X hP hw hK hc i pins s σ H E I hf st hg
    subst hP hw hK
    obtain ⟨f0, f1, f2, f3, f4, f5⟩ := hf it (by simp)
    exact wpAny_pyNext_range_end (I.ok.hd hc) st (by have : n ≤ i := hg; omega) fun h' eb => ⟨rfl, I.turned (t' := s.toks) (fun b o hb e => eb b o hb e) f0 f1 f3 f4 f5⟩
  self := fun _ _ _ _ _ st h => wpAny_pyIter_rangeiter st h
end L2
namespace L2
open PySem PySem.Spec PyProof.Rows
section
variable {X : Cx} {tg : Expr}
theorem Zii {pins : List (Addr × Obj)} {σ : St} {H : Hp} {s : Shared} {R : It → Hp → Prop} {E : Value → Shared → Prop} {lo hi : Int} {t u v : Tok} {tk : Nat} (I : Inv X pins σ H s) (h1 : -(2 ^ 62) ≤ lo) (h2 : lo < 2 ^ 62) (h3 : -(2 ^ 62) ≤ hi) (h4 : hi < 2 ^ 62)
    (q : R (Itr lo (hi - lo).toNat) H) : wpAny (model X.prog X.w) X.A (pyIter (.ref s.heap.objs.size)) (PIE X pins σ tg R) E { s with heap := s.heap.push { cls := .type "range", data := .fields #[.int lo t, .int hi u, .int 1 v] }, toks := tk } := by
  refine wpAny_pyIter_range (IsRange.new ..) (small_one h1 h2 h3 h4) ?_
  have I1 : Inv X pins σ H { s with heap := s.heap.push { cls := .type "range", data := .fields #[.int lo t, .int hi u, .int 1 v] }, toks := tk } := I.kept fun b o e => Heap.get?_push_of_some _ e
  refine ⟨(s.heap.push { cls := .type "range", data := .fields #[.int lo t, .int hi u, .int 1 v] }).objs.size, [(s.heap.push { cls := .type "range", data := .fields #[.int lo t, .int hi u, .int 1 v] }).objs.size], _, _, H, rfl,
    I1.kept (t' := tk) fun b o e => Heap.get?_push_of_some _ e, Zfj _ lo (hi - lo).toNat, ?_, fun b hb => ?_, q⟩
  · have e1 : lo + ((0 : Nat) : Int) * 1 = lo := by simp
    have e2 : (((hi - lo).toNat : Nat) : Int) - ((0 : Nat) : Int) = Builtin.Range.rangeSize lo hi 1 := by rw [rangeSize_one]; split <;> omega
    show IsRangeIter _ _ (lo + ((0 : Nat) : Int) * 1) ((((hi - lo).toNat : Nat) : Int) - ((0 : Nat) : Int)) 1
    rw [e1, e2]
    exact Heap.get?_push_size _ rfl
  · have e : b = (s.heap.push { cls := .type "range", data := .fields #[.int lo t, .int hi u, .int 1 v] }).objs.size := by simpa using hb
    subst e
    exact I1.fpOk (Nat.le_refl _) (I1.hok.fresh (Nat.le_refl _))
noncomputable def iRng1 (ta : TA) : TI := fun σ H R => ta σ H fun vs H1 => ∃ j : Int, vs = [.int j] ∧ -(2 ^ 62) ≤ j ∧ j < 2 ^ 62 ∧ R (Itr 0 j.toNat) H1
theorem ZgP {a : Expr} {ta : TA} {p pos : Pos} (hg : Gl X "range") (hm : X.mg "range" = none) (ha : PA X [a] ta) (hs : starEach [a] X.env = [(false, eval a X.env)] := by rfl) : PI X tg (.Call (.Name "range" p) [a] [] pos) (iRng1 ta) := by
  intro pins s σ H R I h
  refine Call_ (Xf I hg hm boot_range (PyProof.Rows.callWith_type1 (thn (ha pos pins s σ H _ I h) fun us s1 ⟨vs, H1, I1, r1, q1⟩ => ?_) hs rfl))
  obtain ⟨j, e, q1, q2, q⟩ := q1
  subst e
  cases r1 with
  | cons r rr =>
    cases rr
    obtain ⟨t, rfl⟩ := r
    exact call_range_1 (Zii I1 (by omega) (by omega) q1 q2 (by simpa using q))
noncomputable def tFor (wi : TI) (g : TG) (tb : TS) : TS := fun D σ H => wi σ H fun J H1 => ∃ W : Nat → Nat → St → Hp → Prop, (∃ m, W 0 m σ H1) ∧ ∀ i m σ H, W i m σ H →
  (J.stop i H ∧ D.nx σ H) ∨ (J.go i H ∧ ∃ N : St → Hp → Prop, (∀ σ' H', N σ' H' → ∃ m', m' < m ∧ W (i + 1) m' σ' H') ∧ ∀ x H', J.yld i H x H' → g x σ H' fun σ2 H2 => tb { D with nx := N, ct := N, bk := D.nx } σ2 H2)
noncomputable def XS (fp : List Addr) (h : Heap) : List (Addr × Obj) := fp.filterMap fun b => (h.get? b).map fun o => (b, o)
theorem Qs {fp : List Addr} {h : Heap} {b : Addr} {o : Obj} (hb : b ∈ fp) (e : h.get? b = some o) : (b, o) ∈ XS fp h := List.mem_filterMap.mpr ⟨b, hb, by rw [e]; rfl⟩
theorem ZdJ {fp : List Addr} {h : Heap} {p : Addr × Obj} (hp : p ∈ XS fp h) : p.1 ∈ fp ∧ h.get? p.1 = some p.2 := by
  obtain ⟨b, hb, e⟩ := List.mem_filterMap.mp hp
  cases q : h.get? b with
  | none => rw [q] at e; cases e
  | some o =>
    rw [q] at e
    have e' : (b, o) = p := Option.some.inj e
    subst e'
    exact ⟨hb, q⟩
theorem Inv.pinned {pins : List (Addr × Obj)} {σ : St} {H : Hp} {s : Shared} {fp : List Addr} (I : Inv X pins σ H s) (hf : ∀ b ∈ fp, FpOk X pins H b) (ho : ∀ b ∈ fp, ∃ o, s.heap.get? b = some o ∧ ∀ v, o.data ≠ .cell v) : Inv X (pins ++ XS fp s.heap) σ H s :=
  I.pins_of fun p hp => (List.mem_append.mp hp).elim (fun z => I.pin p (List.mem_append_right _ z)) fun z => by
    obtain ⟨hb, e⟩ := ZdJ z
    obtain ⟨f0, f1, f2, _⟩ := hf p.1 hb
    obtain ⟨o, e', d⟩ := ho p.1 hb
    rw [e] at e'; cases e'
    exact ⟨e, f0, f1, f2, d⟩
theorem Inv.unpinned {pins pl : List (Addr × Obj)} {σ : St} {H : Hp} {s : Shared} (I : Inv X (pins ++ pl) σ H s) : Inv X pins σ H s := I.pins_of fun p hp => I.pin p (List.mem_append_right _ (List.mem_append_left _ hp))
theorem ps_for {iter : Expr} {body : List Stmt} {wi : TI} {g : TG} {tb : TS} {pos : Pos} (hp : PassesOwn (model X.prog X.w) X.A X.env X.xe) (hc : X.calm = true) (hi : PI X tg iter wi) (hg : PG X tg g) (hb : PSs X body tb)
    (hs : ∀ x, foldedSetIterable iter X.env x = pure x := by intro _; rfl) : PS X (.For tg iter body [] pos) (tFor wi g tb) := by
  intro pins s σ H D I h
  refine wpAny_For (thn (hi pins s σ H _ I h) fun v s1 h1 => thn h1 fun itv s2 h2 => ?_) hs
  obtain ⟨it, fp, tn, J, H2, e, I2, T, st2, f2, W, ⟨m0, w0⟩, turn⟩ := h2
  subst e
  -- what stays true of the iterator's objects through the loop
  have stat : ∀ {H' : Hp}, (∀ b ∈ fp, H' b = none) → ∀ b ∈ fp, FpOk X pins H' b := fun hn b hb => ⟨hn b hb, (f2 b hb).2⟩
  refine codeAny_forLoop_any (fun n s' => ∃ i σ' H', Inv X pins σ' H' s' ∧ tn i s'.heap ∧ (∀ b ∈ fp, H' b = none) ∧ W i n σ' H') ?_ m0 ⟨0, σ, H2, I2, st2, fun b hb => (f2 b hb).1, w0⟩
  rintro n s3 ⟨i, σ3, H3, I3, st3, fr3, w3⟩
  rcases turn i n σ3 H3 w3 with ⟨stop, qn⟩ | ⟨go, N, hN, step⟩
  · refine wpAny_passesOwn hp (thn (T.done X rfl rfl rfl hc i pins s3 σ3 H3 X.xe I3 (stat fr3) st3 stop) fun r s4 ⟨hr, I4⟩ => ?_)
    subst hr
    exact wpAny_execs_nil ⟨σ3, H3, I4, qn⟩
  · refine wpAny_passesOwn hp (thn (T.item X rfl rfl rfl hc i pins s3 σ3 H3 X.xe I3 (stat fr3) st3 go) fun r s4 ⟨u, hr, h4⟩ => ?_)
    subst hr
    refine wpAny_passesOwn hp (thn h4 fun _ s5 ⟨x, H5, I5, r5, y5, st5, fr5⟩ => ?_)
    have I5' := I5.pinned (stat fr5) (T.obj _ _ st5)
    refine wpAny_passesOwn hp (thn (hg _ s5 σ3 H5 x u _ I5' r5 (step x H5 y5)) fun _ s6 ⟨σ6, H6, I6, q6⟩ => ?_)
    refine wpAny_passesOwn hp (thn (hb _ s6 σ6 H6 _ I6 q6) fun f s7 q7 => ?_)
    have again : ∀ {σ7 : St} {H7 : Hp}, Inv X (pins ++ XS fp s5.heap) σ7 H7 s7 → N σ7 H7 → ∃ m, m < n ∧ ∃ i σ' H', Inv X pins σ' H' s7 ∧ tn i s7.heap ∧ (∀ b ∈ fp, H' b = none) ∧ W i m σ' H' := fun {σ7 H7} I7 n7 => by
      obtain ⟨m', hm, w7⟩ := hN σ7 H7 n7
      refine ⟨m', hm, i + 1, σ7, H7, I7.unpinned, T.keep _ _ _ st5 fun b hb o e => (I7.pin (b, o) (List.mem_append_right _ (List.mem_append_right _ (Qs hb e)))).1, fun b hb => ?_, w7⟩
      obtain ⟨o, e, d⟩ := T.obj _ _ st5 b hb
      exact (I7.pin (b, o) (List.mem_append_right _ (List.mem_append_right _ (Qs hb e)))).2.1
    cases f with
    | next => obtain ⟨σ7, H7, I7, n7⟩ := q7; exact again I7 n7
    | cont => obtain ⟨σ7, H7, I7, n7⟩ := q7; exact again I7 n7
    | brk => obtain ⟨σ7, H7, I7, q7⟩ := q7; exact ⟨σ7, H7, I7.unpinned, q7⟩
    | ret v => obtain ⟨x7, σ7, H7, I7, r7, q7⟩ := q7; exact ⟨x7, σ7, H7, I7.unpinned, r7, q7⟩
end
end L2
namespace L2
open PySem PySem.Spec PyProof.Rows
noncomputable abbrev R2 := V → V → Hp → VK → Prop
noncomputable def OpR (X : Cx) (f : Value → Value → Sem Value) (r : R2) : Prop :=
  ∀ (pins : List (Addr × Obj)) (s : Shared) (σ : St) (H : Hp) (x y : V) (v u : Value) (Q : VK), Inv X pins σ H s → RelV x v → RelV y u → r x y H Q →
    wpAny (model X.prog X.w) X.A (f v u) (EP X pins σ Q) X.xe s
noncomputable def Xg (X : Cx) (f : Value) (r : List V → Hp → VK → Prop) : Prop :=
  ∀ (pins : List (Addr × Obj)) (s : Shared) (σ : St) (H : Hp) (xs : List V) (us : List Value) (Q : VK), Inv X pins σ H s → Vals xs us → r xs H Q →
    wpAny (model X.prog X.w) X.A (call f us) (EP X pins σ Q) X.xe s
noncomputable def TruR (X : Cx) (r : V → Hp → (Bool → Hp → Prop) → Prop) : Prop :=
  ∀ (pins : List (Addr × Obj)) (s : Shared) (σ : St) (H : Hp) (x : V) (v : Value) (Q : Bool → Hp → Prop), Inv X pins σ H s → RelV x v → r x H Q →
    wpAny (model X.prog X.w) X.A (truthy v) (TP X pins σ Q) X.xe s
noncomputable def tOp (r : R2) (ta tb : TE) : TE := fun σ H Q => ta σ H fun x H1 => tb σ H1 fun y H2 => r x y H2 Q
noncomputable def rI (C : Int → Int → Prop) (g : Int → Int → V) : R2 := fun x y H Q => ∃ i j, x = .int i ∧ y = .int j ∧ C i j ∧ Q (g i j) H
noncomputable def rI0 (g : Int → Int → V) : R2 := fun x y H Q => ∃ i j, x = .int i ∧ y = .int j ∧ Q (g i j) H
section
variable {X : Cx} {a b c : Expr} {ta tb tc : TE} {pos : Pos}
theorem binT (ha : PE X a ta) (hb : PE X b tb) {pins : List (Addr × Obj)} {s : Shared} {σ : St} {H : Hp} {R : V → V → Hp → Prop} (I : Inv X pins σ H s)
    (h : ta σ H fun x H1 => tb σ H1 fun y H2 => R x y H2) {Q : Value → Shared → Prop} {f : Value → Value → Sem Value}
    (hf : ∀ v u s2 x y H2, Inv X pins σ H2 s2 → RelV x v → RelV y u → R x y H2 → wpAny (model X.prog X.w) X.A (f v u) Q X.xe s2) :
    wpAny (model X.prog X.w) X.A (eval a X.env) (fun v s₁ => wpAny (model X.prog X.w) X.A (eval b X.env) (fun u s₂ => wpAny (model X.prog X.w) X.A (f v u) Q X.xe s₂) X.xe s₁) X.xe s := by
  refine thn (ha pins s σ H _ I h) fun v s1 ⟨x, H1, I1, r1, q1⟩ => ?_
  refine thn (hb pins s1 σ H1 _ I1 q1) fun u s2 ⟨y, H2, I2, r2, q2⟩ => ?_
  exact hf v u s2 x y H2 I2 r1 r2 q2
theorem pe_op {op : Operator} {r : R2} (ho : OpR X (binaryOp op) r) (ha : PE X a ta) (hb : PE X b tb) : PE X (.BinOp a op b pos) (tOp r ta tb) := by
  intro pins s σ H Q I h
  exact wpAny_BinOp (binT ha hb I h fun v u s2 x y H2 I2 rx ry q => ho pins s2 σ H2 x y v u Q I2 rx ry q)
theorem opI {f : Value → Value → Sem Value} {C : Int → Int → Prop} {g : Int → Int → Int}
    (rule : ∀ (i j : Int) (t u : Tok) (s : Shared) (Q : Value → Shared → Prop) (E : Value → Shared → Prop), C i j → Q (.int (g i j) s.toks) { s with toks := s.toks + 1 } → wpAny (model X.prog X.w) X.A (f (.int i t) (.int j u)) Q E s) :
    OpR X f (rI C fun i j => .int (g i j)) := by
  intro pins s σ H x y v u Q I rx ry h
  obtain ⟨i, j, rfl, rfl, hc, q⟩ := h
  obtain ⟨t, rfl⟩ := rx
  obtain ⟨t', rfl⟩ := ry
  exact rule i j t t' s _ _ hc ⟨.int (g i j), H, I.tok _, ⟨_, rfl⟩, q⟩
theorem opI0 {f : Value → Value → Sem Value} {g : Int → Int → Int}
    (rule : ∀ (i j : Int) (t u : Tok) (s : Shared) (Q : Value → Shared → Prop) (E : Value → Shared → Prop), Q (.int (g i j) s.toks) { s with toks := s.toks + 1 } → wpAny (model X.prog X.w) X.A (f (.int i t) (.int j u)) Q E s) :
    OpR X f (rI0 fun i j => .int (g i j)) := by
  intro pins s σ H x y v u Q I rx ry h
  obtain ⟨i, j, rfl, rfl, q⟩ := h
  obtain ⟨t, rfl⟩ := rx
  obtain ⟨t', rfl⟩ := ry
  exact rule i j t t' s _ _ ⟨.int (g i j), H, I.tok _, ⟨_, rfl⟩, q⟩
theorem opB0 {f : Value → Value → Sem Value} {g : Int → Int → Bool}
    (rule : ∀ (i j : Int) (t u : Tok) (s : Shared) (Q : Value → Shared → Prop) (E : Value → Shared → Prop), Q (.bool (g i j)) s → wpAny (model X.prog X.w) X.A (f (.int i t) (.int j u)) Q E s) :
    OpR X f (rI0 fun i j => .bl (g i j)) := by
  intro pins s σ H x y v u Q I rx ry h
  obtain ⟨i, j, rfl, rfl, q⟩ := h
  obtain ⟨t, rfl⟩ := rx
  obtain ⟨t', rfl⟩ := ry
  exact rule i j t t' s _ _ ⟨.bl (g i j), H, I, rfl, q⟩
noncomputable def CDiv (i j : Int) : Prop := 0 < j ∧ j < 1073741824
noncomputable def CPow (i j : Int) : Prop := 0 ≤ j ∧ j ≤ 1000000 ∧ i.natAbs < 2 ^ 64
noncomputable def CMul (i j : Int) : Prop := (-(2 ^ 64) < i ∧ i < 2 ^ 64) ∨ (-(2 ^ 64) < j ∧ j < 2 ^ 64)
theorem CMul.ok {i j : Int} (h : CMul i j) : IntMulOk i j := by
  rcases h with ⟨h1, h2⟩ | ⟨h1, h2⟩
  · exact .of_left (intBits_le_64 h1 h2)
  · exact .of_right (intBits_le_64 h1 h2)
theorem op_add : OpR X (binaryOp .Add) (rI0 fun i j => .int (i + j)) := opI0 fun _ _ _ _ _ _ _ q => add_int q
theorem op_sub : OpR X (binaryOp .Sub) (rI0 fun i j => .int (i - j)) := opI0 fun _ _ _ _ _ _ _ q => sub_int q
theorem Zka : OpR X (binaryOp .FloorDiv) (rI CDiv fun i j => .int (i / j)) := opI fun i j _ _ _ _ _ hc q => by
  have h1 : (0 : Int) < j := hc.1
  have h2 : j < 1073741824 := hc.2
  exact floordiv_int (by omega) (by rw [Int.fdiv_eq_ediv_of_nonneg i (by omega)]; exact q) (.inl (PyProof.noPylong_small (by omega)))
theorem op_mod : OpR X (binaryOp .Mod) (rI (fun _ j => 0 < j) fun i j => .int (i % j)) := opI fun i j _ _ _ _ _ hc q => by
  have h1 : (0 : Int) < j := hc
  exact mod_int' (by omega) (by rw [Int.fmod_eq_emod_of_nonneg i (by omega)]; exact q)
theorem op_pow : OpR X (binaryOp .Pow) (rI CPow fun i j => .int (i ^ j.toNat)) := opI fun _ _ _ _ _ _ _ hc q => pow_int_small hc.1 hc.2.1 hc.2.2 q
end
noncomputable def scal : V → V → Bool
  | .non, .non => true | .non, .int _ => true | .int _, .non => true | .non, .bl _ => true | .bl _, .non => true | .non, .str _ => true | .str _, .non => true
  | .int _, .int _ => true | .bl _, .bl _ => true | .str _, .str _ => true | .byt _, .byt _ => true
  | .int _, .str _ => true | .str _, .int _ => true | .bl _, .str _ => true | .str _, .bl _ => true
  | _, _ => false
noncomputable def rEq : R2 := fun x y H Q => scal x y = true ∧ Q (.bl (decide (x = y))) H
noncomputable def rNe : R2 := fun x y H Q => scal x y = true ∧ Q (.bl (!decide (x = y))) H
theorem Zez {i j : Int} : decide (V.int i = V.int j) = (i == j) := by
  rw [Bool.eq_iff_iff]
  simp
theorem ZhF {i j : Bool} : decide (V.bl i = V.bl j) = (i == j) := by
  rw [Bool.eq_iff_iff]
  simp
theorem ZhD {i j : Str} : decide (V.str i = V.str j) = (i == j) := by
  rw [Bool.eq_iff_iff]
  simp
theorem ZhE {i j : Array UInt8} : decide (V.byt i = V.byt j) = (i.toList == j.toList) := by
  rw [Bool.eq_iff_iff]
  cases i
  cases j
  simp
section
variable {X : Cx} {a b c : Expr} {ta tb tc : TE} {pos : Pos}
theorem Z6 {pins : List (Addr × Obj)} {σ : St} {H : Hp} {s : Shared} {Q : VK} {k k' : Bool} (I : Inv X pins σ H s) (q : Q (.bl k) H) (e : k = k') : EP X pins σ Q (.bool k') s := by
  subst e
  exact ⟨.bl k, H, I, rfl, q⟩
theorem op_eq : OpR X (compareOp .Eq) rEq := by
  intro pins s σ H x y v u Q I rx ry h
  obtain ⟨hs, q⟩ := h
  cases x with
  | non =>
    cases rx
    cases y with
    | non => cases ry; exact PySem.EqNone.eq_none_none (Z6 I q (by simp))
    | bl j => cases ry; exact PySem.EqNone.eq_none_bool (Z6 I q (by simp))
    | int j => obtain ⟨t', rfl⟩ := ry; exact PySem.EqNone.eq_none_int (Z6 I q (by simp))
    | str j => obtain ⟨t', rfl⟩ := ry; exact PySem.EqNone.eq_none_str (Z6 I q (by simp))
    | _ => exact absurd (show false = true from hs) Bool.false_ne_true
  | bl i =>
    cases rx
    cases y with
    | non => cases ry; exact PySem.EqNone.eq_bool_none (Z6 I q (by simp))
    | bl j => cases ry; exact eq_bool (Z6 I q ZhF)
    | str j => obtain ⟨t', rfl⟩ := ry; exact PySem.EqMixed.eq_bool_str (Z6 I q (by simp))
    | _ => exact absurd (show false = true from hs) Bool.false_ne_true
  | int i =>
    obtain ⟨t, rfl⟩ := rx
    cases y with
    | non => cases ry; exact PySem.EqNone.eq_int_none (Z6 I q (by simp))
    | int j => obtain ⟨t', rfl⟩ := ry; exact eq_int (Z6 I q Zez)
    | str j => obtain ⟨t', rfl⟩ := ry; exact PySem.EqMixed.eq_int_str (Z6 I q (by simp))
    | _ => exact absurd (show false = true from hs) Bool.false_ne_true
  | str i =>
    obtain ⟨t, rfl⟩ := rx
    cases y with
    | non => cases ry; exact PySem.EqNone.eq_str_none (Z6 I q (by simp))
    | bl j => cases ry; exact PySem.EqMixed.eq_str_bool (Z6 I q (by simp))
    | int j => obtain ⟨t', rfl⟩ := ry; exact PySem.EqMixed.eq_str_int (Z6 I q (by simp))
    | str j => obtain ⟨t', rfl⟩ := ry; exact eq_str (Z6 I q ZhD)
    | _ => exact absurd (show false = true from hs) Bool.false_ne_true
  | byt i =>
    obtain ⟨t, rfl⟩ := rx
    cases y with
    | byt j => obtain ⟨t', rfl⟩ := ry; exact PySem.W.eq_bytes (Z6 I q ZhE)
    | _ => exact absurd (show false = true from hs) Bool.false_ne_true
  | _ => cases y <;> exact absurd (show false = true from hs) Bool.false_ne_true
theorem op_ne : OpR X (compareOp .NotEq) rNe := by
  intro pins s σ H x y v u Q I rx ry h
  obtain ⟨hs, q⟩ := h
  cases x with
  | non =>
    cases rx
    cases y with
    | non => cases ry; exact PySem.EqNone.ne_none_none (Z6 I q (by simp))
    | bl j => cases ry; exact PySem.EqNone.ne_none_bool (Z6 I q (by simp))
    | int j => obtain ⟨t', rfl⟩ := ry; exact PySem.EqNone.ne_none_int (Z6 I q (by simp))
    | str j => obtain ⟨t', rfl⟩ := ry; exact PySem.EqNone.ne_none_str (Z6 I q (by simp))
    | _ => exact absurd (show false = true from hs) Bool.false_ne_true
  | bl i =>
    cases rx
    cases y with
    | non => cases ry; exact PySem.EqNone.ne_bool_none (Z6 I q (by simp))
    | bl j => cases ry; exact ne_bool (Z6 I q (congrArg not ZhF))
    | str j => obtain ⟨t', rfl⟩ := ry; exact PySem.EqMixed.ne_bool_str (Z6 I q (by simp))
    | _ => exact absurd (show false = true from hs) Bool.false_ne_true
  | int i =>
    obtain ⟨t, rfl⟩ := rx
    cases y with
    | non => cases ry; exact PySem.EqNone.ne_int_none (Z6 I q (by simp))
    | int j => obtain ⟨t', rfl⟩ := ry; exact ne_int (Z6 I q (congrArg not Zez))
    | str j => obtain ⟨t', rfl⟩ := ry; exact PySem.EqMixed.ne_int_str (Z6 I q (by simp))
    | _ => exact absurd (show false = true from hs) Bool.false_ne_true
  | str i =>
    obtain ⟨t, rfl⟩ := rx
    cases y with
    | non => cases ry; exact PySem.EqNone.ne_str_none (Z6 I q (by simp))
    | bl j => cases ry; exact PySem.EqMixed.ne_str_bool (Z6 I q (by simp))
    | int j => obtain ⟨t', rfl⟩ := ry; exact PySem.EqMixed.ne_str_int (Z6 I q (by simp))
    | str j => obtain ⟨t', rfl⟩ := ry; exact ne_str (Z6 I q (congrArg not ZhD))
    | _ => exact absurd (show false = true from hs) Bool.false_ne_true
  | byt i =>
    obtain ⟨t, rfl⟩ := rx
    cases y with
    | byt j => obtain ⟨t', rfl⟩ := ry; exact PySem.W.ne_bytes (Z6 I q (congrArg not ZhE))
    | _ => exact absurd (show false = true from hs) Bool.false_ne_true
  | _ => cases y <;> exact absurd (show false = true from hs) Bool.false_ne_true
theorem op_lt : OpR X (compareOp .Lt) (rI0 fun i j => .bl (decide (i < j))) := opB0 fun _ _ _ _ _ _ _ q => lt_int q
theorem op_le : OpR X (compareOp .LtE) (rI0 fun i j => .bl (decide (i ≤ j))) := opB0 fun _ _ _ _ _ _ _ q => le_int q
theorem op_gt : OpR X (compareOp .Gt) (rI0 fun i j => .bl (decide (j < i))) := opB0 fun _ _ _ _ _ _ _ q => gt_int q
theorem op_ge : OpR X (compareOp .GtE) (rI0 fun i j => .bl (decide (j ≤ i))) := opB0 fun _ _ _ _ _ _ _ q => ge_int q
theorem ZgV : OpR X (compareOp .Lt) (fun x y H Q => ∃ i j, x = .str i ∧ y = .str j ∧ Q (.bl (decide (i.cps.toList < j.cps.toList))) H) := by
  intro pins s σ H x y v u Q I rx ry h
  obtain ⟨i, j, rfl, rfl, q⟩ := h
  obtain ⟨t, rfl⟩ := rx
  obtain ⟨t', rfl⟩ := ry
  exact lt_str (Z6 I q rfl)
theorem ZgW : OpR X (compareOp .In) (fun x y H Q => ∃ i j, x = .str i ∧ y = .str j ∧ Q (.bl (!(Builtin.Str.occurrences j i 0 j.length 1).isEmpty)) H) := by
  intro pins s σ H x y v u Q I rx ry h
  obtain ⟨i, j, rfl, rfl, q⟩ := h
  obtain ⟨t, rfl⟩ := rx
  obtain ⟨t', rfl⟩ := ry
  exact in_str (Z6 I q rfl)
theorem op_isN : OpR X (compareOp .Is) (fun x y H Q => y = .non ∧ Q (.bl (decide (x = .non))) H) := by
  intro pins s σ H x y v u Q I rx ry h
  obtain ⟨rfl, q⟩ := h
  cases ry
  refine is_none_gen (Z6 I q ?_)
  cases x <;> first
    | (cases rx; rfl)
    | (obtain ⟨t, rfl⟩ := rx; rfl)
theorem Zj7 : OpR X (compareOp .IsNot) (fun x y H Q => y = .non ∧ Q (.bl (!decide (x = .non))) H) := by
  intro pins s σ H x y v u Q I rx ry h
  obtain ⟨rfl, q⟩ := h
  cases ry
  refine isnot_none_gen (Z6 I q ?_)
  cases x <;> first
    | (cases rx; rfl)
    | (obtain ⟨t, rfl⟩ := rx; rfl)
theorem ZdE : OpR X (compareOp .NotIn) (fun x y H Q => ∃ i j, x = .str i ∧ y = .str j ∧ Q (.bl (!(!(Builtin.Str.occurrences j i 0 j.length 1).isEmpty))) H) := by
  intro pins s σ H x y v u Q I rx ry h
  obtain ⟨i, j, rfl, rfl, q⟩ := h
  obtain ⟨t, rfl⟩ := rx
  obtain ⟨t', rfl⟩ := ry
  exact notIn_str (Z6 I q rfl)
theorem Zj3 {op : CmpOp} {r : R2} (ho : OpR X (compareOp op) r) (ha : PE X a ta) (hb : PE X b tb) (hm : behindInMarks op b = false) : PE X (.Compare a [op] [b] pos) (tOp r ta tb) := by
  intro pins s σ H Q I h
  exact wpAny_Compare1 (binT ha hb I h fun v u s2 x y H2 I2 rx ry q => ho pins s2 σ H2 x y v u Q I2 rx ry q) hm
noncomputable def tTest (t : TE) : TT := fun σ H Q => t σ H fun x H' => ∃ k, x = .bl k ∧ Q k H'
theorem ZjQ {op : CmpOp} {r : R2} (ho : OpR X (compareOp op) r) (ha : PE X a ta) (hb : PE X b tb) (hm : behindInMarks op b = false) : PT X (.Compare a [op] [b] pos) (tTest (tOp r ta tb)) := by
  intro pins s σ H Q I h
  refine wpAny_isTrue_Compare1 (thn (ha pins s σ H _ I h) fun v s1 ⟨x, H1, I1, r1, q1⟩ => thn (hb pins s1 σ H1 _ I1 q1) fun u s2 ⟨y, H2, I2, r2, q2⟩ =>
    thn (ho pins s2 σ H2 x y v u _ I2 r1 r2 q2) fun c s3 ⟨z, H3, I3, r3, k, e, q3⟩ => ?_) hm
  subst e
  cases r3
  exact wpAny_truthy_bool ⟨H3, I3, q3⟩
noncomputable def TruV (K : PySem.W.Frag) (x : V) (H : Hp) (k : Bool) : Prop :=
  match x with
  | .non => k = false
  | .bl b => k = b
  | .int i => k = (i != 0)
  | .str y => y.length ≤ sizeLine ∧ k = ((y.length : Int) != 0)
  | .byt y => y.size ≤ sizeLine ∧ k = ((y.size : Int) != 0)
  | .ref p => (∃ xs, SqL K H p xs ∧ k = !xs.isEmpty) ∨ (∃ xs, SqT K H p xs ∧ k = !xs.isEmpty) ∨ ∃ kvs, H p = some (.dK kvs) ∧ k = !kvs.isEmpty
  | _ => False
theorem ZfZ {κ : Type} {kvs : List (κ × V)} {vs : List (κ × Value)} (r : KV kvs vs) : (!vs.isEmpty) = !kvs.isEmpty := by
  cases r <;> rfl
theorem Zct {xs : List V} {its : List Value} (r : Vals xs its) : (!its.toArray.isEmpty) = !xs.isEmpty := by
  cases r <;> simp
theorem Zcq : (sizeLine : Nat) < 2 ^ 63 := by rw [sizeLine_eq]; decide
theorem tru_ok : TruR X (fun x H Q => ∃ k, TruV X.K x H k ∧ Q k H) := by
  intro pins s σ H x v Q I rx h
  obtain ⟨k, e, q⟩ := h
  have hl := Zcq
  have hs : sizeLine = 16777216 := sizeLine_eq
  cases x with
  | non =>
    cases rx
    have e' : k = false := e
    subst e'
    exact truthy_none ⟨H, I, q⟩
  | bl b =>
    cases rx
    have e' : k = b := e
    subst e'
    exact wpAny_truthy_bool ⟨H, I, q⟩
  | int i =>
    obtain ⟨t, rfl⟩ := rx
    have e' : k = (i != 0) := e
    subst e'
    exact PySem.P.truthy_int ⟨H, I, q⟩
  | str y =>
    obtain ⟨t, rfl⟩ := rx
    obtain ⟨hy, e'⟩ : y.length ≤ sizeLine ∧ k = ((y.length : Int) != 0) := e
    subst e'
    exact PySem.P.truthy_str (by omega) ⟨H, I.tok _, q⟩
  | byt y =>
    obtain ⟨t, rfl⟩ := rx
    obtain ⟨hy, e'⟩ : y.size ≤ sizeLine ∧ k = ((y.size : Int) != 0) := e
    subst e'
    exact PySem.W.truthy_bytes (by omega) ⟨H, I.tok _, q⟩
  | ref p =>
    cases rx
    have e' : (∃ xs, SqL X.K H p xs ∧ k = !xs.isEmpty) ∨ (∃ xs, SqT X.K H p xs ∧ k = !xs.isEmpty) ∨ ∃ kvs, H p = some (.dK kvs) ∧ k = !kvs.isEmpty := e
    rcases e' with ⟨xs, hx, e'⟩ | ⟨xs, hx, e'⟩ | ⟨kvs, hx, e'⟩
    · subst e'
      obtain ⟨its, r, pl, hz⟩ := I.list hx
      have hlen := r.length
      exact wpAny_truthy_list pl.isList (by simp only [List.size_toArray]; omega) ⟨H, I.tok _, by rw [Zct r]; exact q⟩
    · subst e'
      obtain ⟨its, r, pl, hz⟩ := I.tuple hx
      have hlen := r.length
      exact truthy_tuple pl (by simp only [List.size_toArray]; omega) ⟨H, I.tok _, by rw [Zct r]; exact q⟩
    · subst e'
      obtain ⟨hz, hS, vs, r, m⟩ : kvs.length ≤ sizeLine ∧ (p == sysModules) = false ∧ ∃ vs, KV kvs vs ∧ s.heap.DictOf (Zes X.prog X.w) p vs := I.hok p _ hx
      have hlen : kvs.length = vs.length := Paired.length r
      exact wpAny_truthy_dict hS m (by omega) ⟨H, I.tok _, by rw [ZfZ r]; exact q⟩
  | _ => exact (show False from e).elim
theorem Zik (ha : PE X a ta) (he : ∀ whole, isTrue a X.env whole = (do let v ← whole; standAt a.pos; holding [v] (truthy v))) :
    PT X a (fun σ H Q => ta σ H fun x H' => ∃ k, TruV X.K x H' k ∧ Q k H') := by
  intro pins s σ H Q I h
  exact isTrue_plain (thn (ha pins s σ H _ I h) fun v s1 ⟨x, H1, I1, r1, q1⟩ => tru_ok pins s1 σ H1 x v Q I1 r1 q1) (he _)
theorem ZfJ : OpR X (binaryOp .Add) (fun x y H Q => ∃ i j, x = .str i ∧ y = .str j ∧ i.length + j.length ≤ sizeLine ∧ Q (.str (i ++ j)) H) := by
  intro pins s σ H x y v u Q I rx ry h
  obtain ⟨i, j, rfl, rfl, hz, q⟩ := h
  obtain ⟨t, rfl⟩ := rx
  obtain ⟨t', rfl⟩ := ry
  exact add_str (fun t' tk => ⟨.str (i ++ j), H, I.tok _, ⟨_, rfl⟩, q⟩) hz
theorem vals1 {x : V} {us : List Value} (r : Vals [x] us) : ∃ u, us = [u] ∧ RelV x u := by
  cases r with
  | cons r1 r2 => cases r2; exact ⟨_, rfl, r1⟩
theorem vals2 {x y : V} {us : List Value} (r : Vals [x, y] us) : ∃ u w', us = [u, w'] ∧ RelV x u ∧ RelV y w' := by
  cases r with
  | cons r1 r2 =>
    cases r2 with
    | cons r3 r4 => cases r4; exact ⟨_, _, rfl, r1, r3⟩
theorem ZhQ (hc : X.calm = true) : Xg X (.builtin "min") (fun xs H Q => ∃ i j, xs = [.int i, .int j] ∧ Q (.int (if j < i then j else i)) H) := by
  intro pins s σ H xs us Q I r h
  obtain ⟨i, j, rfl, q⟩ := h
  obtain ⟨u, w', rfl, ⟨t, rfl⟩, ⟨t', rfl⟩⟩ := vals2 r
  refine min_two_ints (I.ok.hd hc) fun h' tk k => ⟨_, H, I.kept k, ?_, q⟩
  by_cases hj : j < i
  · rw [if_pos hj, if_pos hj]; exact ⟨_, rfl⟩
  · rw [if_neg hj, if_neg hj]; exact ⟨_, rfl⟩
theorem Zd0 : Xg X (.type "int") (fun xs H Q => (∃ i, xs = [.int i] ∧ Q (.int i) H) ∨ ∃ k, xs = [.bl k] ∧ Q (.int (if k then 1 else 0)) H) := by
  intro pins s σ H xs us Q I r h
  rcases h with ⟨i, rfl, q⟩ | ⟨k, rfl, q⟩
  · obtain ⟨u, rfl, t, rfl⟩ := vals1 r
    exact call_int_int ⟨.int i, H, I, ⟨_, rfl⟩, q⟩
  · obtain ⟨u, rfl, r1⟩ := vals1 r
    cases r1
    exact call_int_bool ⟨.int (if k then 1 else 0), H, I.tok _, ⟨_, rfl⟩, q⟩
noncomputable def LenV (K : PySem.W.Frag) (x : V) (H : Hp) (n : Nat) : Prop :=
  match x with
  | .str y => y.length ≤ sizeLine ∧ n = y.length
  | .byt y => y.size ≤ sizeLine ∧ n = y.size
  | .ref p => (∃ xs, SqL K H p xs ∧ n = xs.length) ∨ ∃ xs, SqT K H p xs ∧ n = xs.length
  | _ => False
theorem Zbz : Xg X (.builtin "len") (fun xs H Q => ∃ x n, xs = [x] ∧ LenV X.K x H n ∧ Q (.int n) H) := by
  intro pins s σ H xs us Q I r h
  obtain ⟨x, n, rfl, e, q⟩ := h
  obtain ⟨u, rfl, rx⟩ := vals1 r
  have hl := Zcq
  have hs : sizeLine = 16777216 := sizeLine_eq
  cases x with
  | str y =>
    obtain ⟨t, rfl⟩ := rx
    obtain ⟨hy, e'⟩ : y.length ≤ sizeLine ∧ n = y.length := e
    subst e'
    exact len_str (by omega) ⟨.int _, H, I.tok _, ⟨_, rfl⟩, q⟩
  | byt y =>
    obtain ⟨t, rfl⟩ := rx
    obtain ⟨hy, e'⟩ : y.size ≤ sizeLine ∧ n = y.size := e
    subst e'
    exact PySem.W.len_bytes (by omega) ⟨.int _, H, I.tok _, ⟨_, rfl⟩, q⟩
  | ref p =>
    cases rx
    have e' : (∃ xs, SqL X.K H p xs ∧ n = xs.length) ∨ ∃ xs, SqT X.K H p xs ∧ n = xs.length := e
    rcases e' with ⟨xs, hx, e'⟩ | ⟨xs, hx, e'⟩
    · subst e'
      obtain ⟨its, r', pl, hz⟩ := I.list hx
      have hlen := r'.length
      exact Calls.call_len_list pl.isList (by simp only [List.size_toArray]; omega) ⟨.int xs.length, H, I.tok _, ⟨_, by simp only [List.size_toArray]; rw [hlen]⟩, q⟩
    · subst e'
      obtain ⟨its, r', pl, hz⟩ := I.tuple hx
      have hlen := r'.length
      exact len_tuple pl (by simp only [List.size_toArray]; omega) ⟨.int xs.length, H, I.tok _, ⟨_, by simp only [List.size_toArray]; rw [hlen]⟩, q⟩
  | _ => exact (show False from e).elim
end
end L2
namespace L2
open PySem PySem.Spec PyProof.Rows
structure ObjM (h : Heap) (x dx C : Addr) (mA : Str → Option Value) : Prop where
  obj : h.get? x = some (PySem.W.instObj C dx)
  ns : h.Ns1 dx mA
  ne : dx ≠ x
theorem Zhi {h : Heap} {dx : Addr} {mA : Str → Option Value} (n : h.Ns1 dx mA) : ∃ od, h.get? dx = some od ∧ ∀ name, PySem.W.lookIn name od = some (mA name) := by
  obtain ⟨o, es, ep, ho, hd, hk, _, hm⟩ := n
  refine ⟨o, ho, fun name => ?_⟩
  have e := hm name
  unfold nsFind findBy at e
  rw [← Array.find?_toList] at e
  unfold PySem.W.lookIn
  rw [hd]
  dsimp only
  split
  · rename_i y q
    rw [q] at e
    exact congrArg some e
  · rename_i q
    rw [q] at e
    have a : es.toList.any (·.refKey) = false := by
      rw [List.any_eq_false]
      intro y hy
      obtain ⟨z, t, hkey⟩ := hk y (Array.mem_toList_iff.mp hy)
      simp [DictEntry.refKey, hkey]
    have a' : ¬ es.toList.any (·.refKey) = true := by rw [a]; exact Bool.false_ne_true
    rw [if_neg a']
    exact congrArg some e
theorem ObjM.look {h : Heap} {x dx C : Addr} {mA : Str → Option Value} (I : ObjM h x dx C mA) : ∃ od, PySem.W.InstAt h x (PySem.W.instObj C dx) C (some od) ∧ ∀ name, PySem.W.lookIn name od = some (mA name) :=
  let ⟨od, ho, hl⟩ := Zhi I.ns
  ⟨od, ⟨I.obj, rfl, rfl, ho⟩, hl⟩
section
variable {prog : Program} {w : World} {A : Around} {E : Value → Shared → Prop} {s : Shared} {K : PySem.W.Frag} {x dx C f : Addr} {mA : Str → Option Value} {name : Str} {v : Value}
end
section
variable {P : Program} {w : World} {H H' : Hp} {h h' : Heap} {a C dx : Addr} {fs fs' : List (Str × V)}
theorem Zkv (hok : HOk P w H h) (e : H a = some (.ins C dx fs)) : ∃ mA, ObjM h a dx C mA ∧ (∀ f, RelO (fs.lookup f) (mA f)) ∧ PySem.Within mA (fs.map (·.1)) ∧ fs.length ≤ 1000 ∧ H dx = some (.own a) := by
  obtain ⟨d, z, ne, ob, mA, n, r, q⟩ := (show JW P w H h a (.ins C dx fs) from hok a _ e)
  exact ⟨mA, ⟨ob, n, ne⟩, r, q, z, d⟩
end
structure Cls (K : PySem.W.Frag) (C : Addr) : Prop where
  pg : PySem.W.plainGet K C Str.empty = true
  hd : PySem.W.hasDictIn K C = true
  po : PySem.W.plainOver K C = true
  sa : PySem.W.findIn K (.ref C) "__setattr__" = some (some (.builtin "object.__setattr__"))
theorem Cls.get {K : PySem.W.Frag} {C : Addr} (c : Cls K C) (f : Str) : PySem.W.plainGet K C f = true := c.pg
structure Con (K : PySem.W.Frag) (C : Addr) (f : Str) (v : V) (u : Value) : Prop where
  at_ : PySem.W.findIn K (.ref C) f = some (some u)
  rel : RelV v u
  get : PySem.W.specialIn K u "__get__" = some none
  cp : PySem.W.copiedNames.contains f = false
structure Meth (K : PySem.W.Frag) (C : Addr) (m : Str) (f : Addr) : Prop where
  at_ : PySem.W.findIn K (.ref C) m = some (some (.ref f))
  fn : PySem.W.isFn K (.ref f) = true
  kp : PySem.W.keepIn K (.ref f) = true
section
variable {X : Cx} {pins : List (Addr × Obj)} {σ : St} {H : Hp} {s : Shared} {a C dx : Addr} {fs : List (Str × V)} {f : Str} {v : V} {A : Around} {E : Value → Shared → Prop}
end
section
variable {X : Cx} {o e value : Expr} {f : Str} {pos pos' tpos : Pos} {ta tv : TE}
end
section
variable {X : Cx} {pins : List (Addr × Obj)} {σ : St} {H : Hp} {s : Shared} {A : Around} {E : Value → Shared → Prop} {Q : Value → Shared → Prop} {c : Value} {b : Bool}
inductive TyOf (K : PySem.W.Frag) (H : Hp) : V → Value → Prop where
  | non : TyOf K H .non (.type "NoneType")
  | bl (x : Bool) : TyOf K H (.bl x) (.type "bool")
  | int (i : Int) : TyOf K H (.int i) (.type "int")
  | str (x : Str) : TyOf K H (.str x) (.type "str")
  | flt (x : UInt64) : TyOf K H (.flt x) (.type "float")
  | lst {a : Addr} {xs : List V} (e : H a = some (.lst xs)) : TyOf K H (.ref a) (.type "list")
  | frz {a : Addr} {o : Obj} {xs : List V} (e : H a = some (.frz o (.lst xs))) : TyOf K H (.ref a) (.type "list")
  | tup {a : Addr} {xs : List V} (e : H a = some (.tup xs)) : TyOf K H (.ref a) (.type "tuple")
  | dK {a : Addr} {kvs : List (Key × V)} (e : H a = some (.dK kvs)) : TyOf K H (.ref a) (.type "dict")
  | dT {a : Addr} {kvs : List (List Key × V)} (e : H a = some (.dT kvs)) : TyOf K H (.ref a) (.type "dict")
  | ins {a C dx : Addr} {fs : List (Str × V)} (e : H a = some (.ins C dx fs)) (cl : Cls K C) (ha : PySem.W.findIn K (.ref C) "__class__" = some (some (.builtin "object.__class__")))
      (hn : PySem.W.specialIn K (.builtin "object.__class__") "__get__" = some (some (.builtin "getset_descriptor.__get__"))) (htk : PySem.W.takesIn K (.builtin "object.__class__") = some true)
      (hm : PySem.W.mroIn K C (.type "object") = some true) : TyOf K H (.ref a) (.ref C)
theorem Xm {x : V} {u t : Value} (I : Inv X pins σ H s) (rx : RelV x u) (ty : TyOf X.K H x t) (e : PySem.W.kitOne X.K t c = some b) (h : ∀ tk, Q (.bool b) { s with toks := tk }) :
    wpAny (model X.prog X.w) A (call (.builtin "isinstance") [u, c]) Q E s := by
  cases ty with
  | non => cases (show u = Value.none from rx); exact PySem.W.kia_one PySem.W.kitx_none I.kIn True.intro e (fun z => nomatch z) h
  | bl y => cases (show u = Value.bool y from rx); exact PySem.W.kia_one PySem.W.kitx_bool I.kIn True.intro e (fun z => nomatch z) h
  | int i => obtain ⟨t, q⟩ := (show ∃ t, u = Value.int i t from rx); cases q; exact PySem.W.kia_one PySem.W.kitx_int I.kIn True.intro e (fun z => nomatch z) h
  | str y => obtain ⟨t, q⟩ := (show ∃ t, u = Value.str y t from rx); cases q; exact PySem.W.kia_one PySem.W.kitx_str I.kIn True.intro e (fun z => nomatch z) h
  | flt y => obtain ⟨t, q⟩ := (show ∃ t, u = Value.float y t from rx); cases q; exact PySem.W.kia_one PySem.W.kitx_float I.kIn True.intro e (fun z => nomatch z) h
  | @lst a xs ea =>
    cases (show u = Value.ref a from rx)
    obtain ⟨_, _, n, _, h1⟩ := (show JW X.prog X.w H s.heap a (.lst xs) from I.hok a _ ea)
    exact PySem.W.kia_one PySem.W.kitx_list I.kIn ⟨_, h1, rfl⟩ e (fun z => nomatch z) h
  | @frz a ob xs ea =>
    cases (show u = Value.ref a from rx)
    obtain ⟨_, _, _, n, _, h1⟩ := (show JW X.prog X.w H s.heap a (.frz ob (.lst xs)) from I.hok a _ ea)
    exact PySem.W.kia_one PySem.W.kitx_list I.kIn ⟨_, h1, rfl⟩ e (fun z => nomatch z) h
  | @tup a xs ea =>
    cases (show u = Value.ref a from rx)
    obtain ⟨_, _, _, p⟩ := (show JW X.prog X.w H s.heap a (.tup xs) from I.hok a _ ea)
    obtain ⟨o, h1, h2, _⟩ := p
    exact PySem.W.kia_one PySem.W.kitx_tuple I.kIn ⟨o, h1, h2⟩ e (fun z => nomatch z) h
  | @dK a kvs ea =>
    cases (show u = Value.ref a from rx)
    obtain ⟨_, _, vs, _, p⟩ := (show JW X.prog X.w H s.heap a (.dK kvs) from I.hok a _ ea)
    obtain ⟨o, es, ep, h1, h2, _⟩ := p
    exact PySem.W.kia_one PySem.W.kitx_dict I.kIn ⟨o, h1, h2.1⟩ e (fun z => nomatch z) h
  | @dT a kvs ea =>
    cases (show u = Value.ref a from rx)
    obtain ⟨_, _, xs, _, o, es, ep, h1, h2, _⟩ := (show JW X.prog X.w H s.heap a (.dT kvs) from I.hok a _ ea)
    exact PySem.W.kia_one PySem.W.kitx_dict I.kIn ⟨o, h1, h2.1⟩ e (fun z => nomatch z) h
  | @ins a C dx fs ea cl ha hn htk hm =>
    cases (show u = Value.ref a from rx)
    obtain ⟨mA, O, _⟩ := Zkv I.hok ea
    obtain ⟨od, J, _⟩ := O.look
    exact PySem.W.kia_one (PySem.W.kitx_own (cl.get _) cl.hd ha hn htk hm) I.kIn J e (fun z => nomatch z) h
end
end L2
namespace L2
open PySem PySem.Spec PyProof.Rows
structure Room (k : Nat) (A : Around) : Prop where
  hd : A.handled = none
  dp : A.depth + 3 * k + 5 < recursionLimit
  un : A.units + 16 * k + 200 < cLine
theorem Room.deeper {k : Nat} {A : Around} (r : Room (k + 1) A) (env : Env) : Room k (A.deeper env) :=
  ⟨r.hd, by have := r.dp; show A.depth + 1 + 3 * k + 5 < _; omega, by have := r.un; show A.units + 3 + 16 * k + 200 < _; omega⟩
theorem Room.depth {k : Nat} {A : Around} (r : Room k A) : A.depth < recursionLimit := by have := r.dp; omega
theorem Room.units {k : Nat} {A : Around} (r : Room k A) : A.units + 64 < cLine := by have := r.un; omega
noncomputable def tNil : TA := fun _ H Q => Q [] H
noncomputable def tCons (ta : TE) (tr : TA) : TA := fun σ H Q => ta σ H fun x H1 => tr σ H1 fun xs H2 => Q (x :: xs) H2
section
variable {X : Cx} {e : Expr} {es : List Expr} {te : TE} {t : TA} {pos : Pos}
theorem Zjo : PA X [] tNil := fun _ _ _ _ H Q I h => Calls.spliced_nil ⟨[], H, I, .nil, h⟩
theorem Zem (ha : PE X e te) (hr : PA X es t) (hs : starEach (e :: es) X.env = (false, eval e X.env) :: starEach es X.env := by rfl) : PA X (e :: es) (tCons te t) := by
  intro pos pins s σ H Q I h
  rw [hs]
  show wpAny _ _ (spliced ((false, eval e X.env) :: backTo pos (starEach es X.env))) _ _ s
  refine Calls.spliced_cons (thn (ha pins s σ H _ I h) fun u s1 ⟨x, H1, I1, r1, q1⟩ => ?_)
  exact thn (hr pos pins s1 σ H1 _ I1 q1) fun us s2 ⟨xs, H2, I2, r2, q2⟩ => ⟨x :: xs, H2, I2, .cons r1 r2, q2⟩
noncomputable def tTup (t : TA) : TE := fun σ H Q => t σ H fun xs H1 => xs.length ≤ sizeLine ∧ ∀ p, H1 p = none → Q (.ref p) (upd H1 p (.tup xs))
noncomputable def tLst (t : TA) : TE := fun σ H Q => t σ H fun xs H1 => xs.length ≤ sizeLine ∧ ∀ p, H1 p = none → Q (.ref p) (upd H1 p (.lst xs))
theorem pe_tup {x1} (h : PA X es t) : PE X (.Tuple es x1 pos) (tTup t) := by
  intro pins s σ H Q I hq
  refine wpAny_Tuple_spliced (thn (h pos pins s σ H _ I hq) fun us s1 ⟨xs, H1, I1, r, z, q⟩ => ⟨by rw [← r.length]; exact z, ?_⟩)
  have hf : H1 s1.heap.objs.size = none := I1.hok.fresh (Nat.le_refl _)
  refine ⟨.ref s1.heap.objs.size, upd H1 s1.heap.objs.size (.tup xs), I1.laid (t' := s1.toks) (fun b u e => Heap.get?_push_of_some _ e) (Nat.le_refl _) ?_, rfl, q _ hf⟩
  exact ⟨z, us, r, ⟨_, Heap.get?_push_size _ rfl, rfl, ⟨_, rfl⟩, rfl⟩⟩
theorem pe_lst (h : PA X es t) : PE X (.List es pos) (tLst t) := by
  intro pins s σ H Q I hq
  refine wpAny_List_spliced (thn (h pos pins s σ H _ I hq) fun us s1 ⟨xs, H1, I1, r, z, q⟩ => ⟨by rw [← r.length]; exact z, ?_⟩)
  have hf : H1 s1.heap.objs.size = none := I1.hok.fresh (Nat.le_refl _)
  refine ⟨.ref s1.heap.objs.size, upd H1 s1.heap.objs.size (.lst xs), I1.laid (t' := s1.toks) (fun b u e => Heap.get?_push_of_some _ e) (Nat.le_refl _) ?_, rfl, q _ hf⟩
  exact ⟨z, us, 0, r, Heap.get?_push_size _ rfl⟩
end
noncomputable abbrev Sp := List V → Hp → VK → XK → Prop
noncomputable abbrev CXT := List Env → Hp → Shared → XK → Value → Shared → Prop
structure Env0 (P : Program) (w : World) (K : PySem.W.Frag) (mg : Str → Option Value) (base : Heap) (A : Around) (outer : List Env) (s : Shared) (H : Hp) : Prop where
  frames : A.frames = some outer
  mod : Mod K mg base
  bs : ∀ b o, base.get? b = some o → s.heap.get? b = some o ∧ H b = none
  bsz : base.objs.size ≤ s.heap.objs.size
  funs : s.heap.FunFrames base outer
  frf : ∀ b ∈ frs outer, H b = none
  hok : HOk P w H s.heap
  bare : AllBare s.gens
noncomputable def CE (outer : List Env) (P : Program) (w : World) (H : Hp) (s : Shared) (Q : VK) (u : Value) (s' : Shared) : Prop :=
  ∃ v H', s'.os = s.os ∧ AllBare s'.gens ∧ Un (frs outer) [] H H' s.heap s'.heap ∧ HOk P w H' s'.heap ∧ RelV v u ∧ Q v H'
noncomputable def CR (CX : CXT) (outer : List Env) (P : Program) (w : World) (H : Hp) (s : Shared) (Q : VK) (E : XK) (r : Result) (s' : Shared) : Prop :=
  match r with
  | .ok (.ret u) => CE outer P w H s Q u s'
  | .ok _ => False
  | .error e => CX outer H s E e s'
structure FnOk (P : Program) (w : World) (K : PySem.W.Frag) (mg : Str → Option Value) (base : Heap) (CX : CXT) (k : Nat) (f : Addr) (fd : FuncData) (ps : List Str) (sp : Sp) : Prop where
  len : ∀ vs H Q E, sp vs H Q E → vs.length = ps.length
  run : ∀ (A : Around) (outer : List Env) (s : Shared) (H : Hp) (args : Args) (us : List Value) (vs : List V) (Q : VK) (E : XK), Room k A → Env0 P w K mg base A outer s H → BindsTo s fd args (ps.zip us) → Vals vs us → sp vs H Q E →
    codeAny (model P w) A (.call (.ref f) args) (CR CX outer P w H s Q E) s
section
variable {X : Cx} {pins : List (Addr × Obj)} {σ : St} {H : Hp} {s s' : Shared}
theorem Inv.env0 (I : Inv X pins σ H s) : Env0 X.prog X.w X.K X.mg X.base X.A X.stack s H :=
  ⟨I.ok.frames, I.ok.mod, I.bs, Nat.le_trans I.ok.bsz I.sz, I.stack, I.stkFree, I.hok, I.bare⟩
theorem Inv.after {Q : VK} {u : Value} (I : Inv X pins σ H s) (h : CE X.stack X.prog X.w H s Q u s') : EP X pins σ Q u s' := by
  obtain ⟨v, H', os, bare, un, hok, r, q⟩ := h
  obtain ⟨hh, g, d, t, os'⟩ := s'
  obtain rfl : os' = s.os := os
  exact ⟨v, H', I.call (h' := hh) (g' := g) (d' := d) (t' := t) (ch := []) un hok bare (fun b z => absurd z (by simp)), r, q⟩
end
noncomputable def tCall (sp : Sp) (dvs : List V) (E : XK) (t : TA) : TE := fun σ H Q => t σ H fun vs H1 => sp (vs ++ dvs) H1 Q E
noncomputable def Binds (K : PySem.W.Frag) (fd : FuncData) (ps : List Str) (ds : List Value) : Prop :=
  ∀ (s : Shared) (us : List Value), K.In s.heap → (us ++ ds).length = ps.length → BindsTo s fd ⟨us, []⟩ (ps.zip (us ++ ds))
theorem Binds.all {K : PySem.W.Frag} {fd : FuncData} {ps : List Str} (h : ∀ us : List Value, us.length = ps.length → bindArgs fd ⟨us, []⟩ = pure (ps.zip us)) : Binds K fd ps [] := fun s us _ hl => by
  rw [List.append_nil] at hl ⊢
  exact .of_eq (h us hl)
noncomputable def Zh2 (CX : CXT) (X : Cx) (E : XK) : Prop := ∀ (pins : List (Addr × Obj)) (σ : St) (H : Hp) (s : Shared) (e : Value) (s' : Shared), Inv X pins σ H s → CX X.stack H s E e s' → X.xe e s'
section
variable {X : Cx} {CX : CXT} {k : Nat} {f C : Addr} {fd : FuncData} {ps : List Str} {sp : Sp} {dvs : List V} {ds : List Value} {E : XK} {x m : Str} {p pos apos : Pos} {e o : Expr} {es : List Expr} {ta : TE} {t : TA}
theorem run_fn {pins : List (Addr × Obj)} {σ : St} {H : Hp} {s : Shared} {Q : VK} {us : List Value} {vs : List V} (F : FnOk X.prog X.w X.K X.mg X.base CX k f fd ps sp) (hr : Room k X.A) (hb : Binds X.K fd ps ds) (hd : Vals dvs ds) (hx : Zh2 CX X E)
    (I : Inv X pins σ H s) (r : Vals vs us) (h : sp (vs ++ dvs) H Q E) : wpAny (model X.prog X.w) X.A (call (.ref f) us) (EP X pins σ Q) X.xe s := by
  have r2 : Vals (vs ++ dvs) (us ++ ds) := r.append hd
  have hl : (us ++ ds).length = ps.length := by rw [← r2.length]; exact F.len _ _ _ _ h
  refine wpAny_call (codeAny_mono (F.run X.A X.stack s H ⟨us, []⟩ (us ++ ds) (vs ++ dvs) Q E hr I.env0 (hb s us I.kIn hl) r2 h) fun r s' hq => ?_)
  cases r with
  | error e => exact hx pins σ H s e s' I hq
  | ok fl =>
    cases fl with
    | ret u => exact I.after hq
    | next => exact False.elim hq
    | brk => exact False.elim hq
    | cont => exact False.elim hq
theorem Zj4 (F : FnOk X.prog X.w X.K X.mg X.base CX k f fd ps sp) (hr : Room k X.A) (hg : Gl X x) (hm : X.mg x = some (.ref f)) (hk : PySem.W.keepIn X.K (.ref f) = true) (hb : Binds X.K fd ps ds) (hd : Vals dvs ds) (hx : Zh2 CX X E)
    (ha : PA X (e :: es) t) (hdb : (x == ("__debug__" : Str)) = false := by decide) (he : starEach (e :: es) X.env = (false, eval e X.env) :: starEach es X.env := by rfl) (hpl : (backTo pos (starEach es X.env)).any (·.1) = false := by rfl) :
    PE X (.Call (.Name x p) (e :: es) [] pos) (tCall sp dvs E t) := by
  intro pins s σ H Q I h
  refine wpAny_Call_Name_kw (Zkq I hg hm ?_ hdb)
  refine PySem.W.callWith_K (h₀ := X.base) I.ok.mod.kin hk (thn (ha pos pins s σ H _ I h) fun us s1 ⟨vs, H1, I1, r, q⟩ => ⟨I1.kIn, ?_⟩) he hpl
  exact run_fn F hr hb hd hx I1 r q
structure Mk (K : PySem.W.Frag) (C f : Addr) : Prop where
  makes : PySem.W.makesIn K C = true
  init : PySem.W.findIn K (.ref C) "__init__" = some (some (.ref f))
  fn : PySem.W.isFn K (.ref f) = true
  kp : PySem.W.keepIn K (.ref C) = true
end
section
variable {X : Cx} {CX : CXT} {k : Nat} {f C : Addr} {fd : FuncData} {ps ks : List Str} {sp : Sp} {E : XK} {x m : Str} {p pos apos kpos : Pos} {e o : Expr} {es : List Expr} {kws : List Keyword} {te ta : TE} {t tk : TA} {nm : Option Str}
structure KBinds (K : PySem.W.Frag) (fd : FuncData) (ps ks : List Str) (g : List Value → List Value → List Value) (gV : List V → List V → List V) : Prop where
  to : ∀ (s : Shared) (us ws : List Value), K.In s.heap → (g us ws).length = ps.length → BindsTo s fd ⟨us, ks.zip ws⟩ (ps.zip (g us ws))
  rel : ∀ {vs : List V} {us : List Value} {zs : List V} {ws : List Value}, Vals vs us → Vals zs ws → Vals (gV vs zs) (g us ws)
variable {g : List Value → List Value → List Value} {gV : List V → List V → List V}
end
structure FnScope (N P : List Str) (sc : Scope) : Prop where
  kind : sc.kind = .function
  co : sc.isCoroutine = false
  gen : sc.isGenerator = false
  nd : N.Nodup
  pre : N.take P.length = P
  par : ∀ x ∈ P, sc.names.lookup x = some .local ∨ sc.names.lookup x = some .cell
  nofree : ∀ y ∈ sc.names, y.2 ≠ .free
theorem Zd4 {kindOf : Str → Option NameKind} {x : Str} : ∀ {binds : List (Str × Value)} {m : Str → Option Value}, (∀ v, (x, v) ∉ binds) → bindL kindOf binds m x = m x
  | [], _, _ => rfl
  | (n, v) :: r, m, h => by
    unfold bindL
    rw [Zd4 fun w hw => h w (List.mem_cons_of_mem _ hw)]
    split
    · have : x ≠ n := by rintro rfl; exact h v List.mem_cons_self
      simp [this]
    · rfl
theorem Zd6 {kindOf : Str → Option NameKind} {x : Str} : ∀ {binds : List (Str × Value)} {m : Str → Option Value}, (∀ v, (x, v) ∉ binds) → bindC kindOf binds m x = m x
  | [], _, _ => rfl
  | (n, v) :: r, m, h => by
    unfold bindC
    rw [Zd6 fun w hw => h w (List.mem_cons_of_mem _ hw)]
    split
    · rfl
    · have : x ≠ n := by rintro rfl; exact h v List.mem_cons_self
      simp [this]
theorem Zd5 {kindOf : Str → Option NameKind} {x : Str} {v : Value} : ∀ {P : List Str} {vs : List Value} {i : Nat} {m : Str → Option Value}, P.Nodup → P[i]? = some x → vs[i]? = some v → kindOf x = some .local →
    bindL kindOf (P.zip vs) m x = some v
  | [], _, _, _, _, h, _, _ => by simp at h
  | _ :: _, [], _, _, _, _, h, _ => by simp at h
  | p :: P, w :: vs, 0, m, nd, h1, h2, hk => by
    simp at h1 h2; subst h1; subst h2
    show bindL kindOf ((p, w) :: P.zip vs) m p = _
    unfold bindL
    rw [Zd4 fun v hv => (List.nodup_cons.mp nd).1 (List.of_mem_zip hv).1, if_pos hk]
    simp
  | p :: P, w :: vs, i + 1, m, nd, h1, h2, hk => by
    show bindL kindOf ((p, w) :: P.zip vs) m x = _
    unfold bindL
    exact Zd5 (i := i) (List.nodup_cons.mp nd).2 (by simpa using h1) (by simpa using h2) hk
theorem Zd7 {kindOf : Str → Option NameKind} {x : Str} {v : Value} : ∀ {P : List Str} {vs : List Value} {i : Nat} {m : Str → Option Value}, P.Nodup → P[i]? = some x → vs[i]? = some v → kindOf x ≠ some .local →
    bindC kindOf (P.zip vs) m x = some v
  | [], _, _, _, _, h, _, _ => by simp at h
  | _ :: _, [], _, _, _, _, h, _ => by simp at h
  | p :: P, w :: vs, 0, m, nd, h1, h2, hk => by
    simp at h1 h2; subst h1; subst h2
    show bindC kindOf ((p, w) :: P.zip vs) m p = _
    unfold bindC
    rw [Zd6 fun v hv => (List.nodup_cons.mp nd).1 (List.of_mem_zip hv).1, if_neg hk]
    simp
  | p :: P, w :: vs, i + 1, m, nd, h1, h2, hk => by
    show bindC kindOf ((p, w) :: P.zip vs) m x = _
    unfold bindC
    exact Zd7 (i := i) (List.nodup_cons.mp nd).2 (by simpa using h1) (by simpa using h2) hk
noncomputable def start (N : List Str) (vs : List V) : St := vs.map some ++ List.replicate (N.length - vs.length) none
noncomputable def cxOf (CX : CXT) (P : Program) (w : World) (K : PySem.W.Frag) (mg : Str → Option Value) (base : Heap) (N : List Str) (qual : Str) (scope : Scope) (f : Addr) (cd : Value) (A : Around) (outer : List Env) (s : Shared) (H : Hp) (E : XK) : Cx where
  prog := P
  w := w
  K := K
  mg := mg
  base := base
  A := A.deeper (envOfC qual scope s.heap.objs.size f cd)
  N := N
  s₀ := s
  H₀ := H
  env := envOfC qual scope s.heap.objs.size f cd
  outer := outer
  stack := envOfC qual scope s.heap.objs.size f cd :: outer
  ex := []
  calm := true
  fn := fun _ => true
  pn := []
  xe := fun e s' => wpAny (model P w) (A.deeper (envOfC qual scope s.heap.objs.size f cd)) (leaving (envOfC qual scope s.heap.objs.size f cd) e) (fun _ s'' => CX outer H s E e s'') (fun e' s'' => CX outer H s E e' s'') s'
theorem Zfc {sc : Scope} {n : Nat} {x : Str} (h : sc.names.lookup x = some .cell) : ∃ c, (cellsFrom n sc.names []).lookup x = some c := by
  have q := PySem.W.cellsFrom_some sc.names n [] (.inl h)
  exact Option.isSome_iff_exists.mp q
theorem Zhn {CX : CXT} {P : Program} {w : World} {K : PySem.W.Frag} {mg : Str → Option Value} {base : Heap} {N ps : List Str} {qual : Str} {scope : Scope} {f : Addr} {cd : Value} {A : Around} {outer : List Env} {s s1 : Shared} {H : Hp} {E : XK} {us : List Value} {vs : List V}
    (S : FnScope N ps scope) (hd : A.handled = none) (e0 : Env0 P w K mg base A outer s H) (hl : vs.length = ps.length) (r : Vals vs us)
    (x : InCallC s s.heap.objs.size (bindL (envOfC qual scope s.heap.objs.size f cd).kindOf (ps.zip us) fun _ => none) (cellsFrom (s.heap.objs.size + 1) scope.names []) (bindC (envOfC qual scope s.heap.objs.size f cd).kindOf (ps.zip us) fun _ => none) s1) :
    Inv (cxOf CX P w K mg base N qual scope f cd A outer s H E) [] (start N vs) H s1 := by
  have hpl : ps.length ≤ N.length := by have := congrArg List.length S.pre; rw [List.length_take] at this; omega
  obtain ⟨h1, tk, rfl, hk⟩ := x.done
  have noA : ∀ b : Addr, b ∉ (cxOf CX P w K mg base N qual scope f cd A outer s H E).ex := fun b z => absurd (show b ∈ ([] : List Addr) from z) (by simp)
  refine ⟨⟨e0.mod, S.kind, rfl, rfl, Nat.le_refl _, fun y z c h1 h2 => ?_, fun y hy => ?_, fun y c _ h => ?_, fun _ => hd, Around.frames_deeper e0.frames, .inr ⟨rfl, rfl⟩, fun b z => absurd z (noA b), e0.bs, e0.bsz, fun b _ _ => noA b, fun b z => absurd z (noA b), e0.funs, e0.frf⟩,
    rfl, e0.bare, Un.kept hk, ⟨_, x.toInCall.ns, fun i y v h1 h2 h3 => ?_⟩, fun y c h => ⟨_, x.cell y c h⟩, e0.hok.fresh (Nat.le_refl _), fun y c h => ?_, fun p hp => absurd (show p ∈ ([] : List (Addr × Obj)) from hp) (by simp), e0.hok.kept hk, ?_⟩
  · exact name_of_addr x.apart (PySem.mem_of_lookup h1) (PySem.mem_of_lookup h2)
  · have hy : scope.names.lookup y = some .cell ∨ scope.names.lookup y = some .free := hy
    rcases hy with hy | hy
    · exact Zfc hy
    · exact absurd rfl (S.nofree _ (PySem.mem_of_lookup hy))
  · exact Nat.le_of_lt (x.above y c (PySem.mem_of_lookup h))
  · have hi : i < vs.length := by
      unfold start at h2
      by_cases hi : i < vs.length
      · exact hi
      · rw [List.getElem?_append_right (by simpa using hi)] at h2
        rw [List.getElem?_replicate] at h2
        split at h2 <;> cases h2
    have ha : vs[i]? = some v := by
      unfold start at h2
      rw [List.getElem?_append_left (by simpa using hi), List.getElem?_map] at h2
      cases e : vs[i]? with
      | none => rw [e] at h2; cases h2
      | some a => rw [e] at h2; cases h2; rfl
    obtain ⟨u, hu, rv⟩ := r.get ha
    have hp : ps[i]? = some y := by
      rw [← S.pre, List.getElem?_take_of_lt (by omega)]; exact h1
    have ndP : ps.Nodup := by rw [← S.pre]; exact S.nd.sublist (List.take_sublist _ _)
    refine ⟨u, rv, ?_⟩
    rcases S.par y (List.mem_of_getElem? hp) with k | k
    · exact .inl ⟨k, Zd5 ndP hp hu k⟩
    · obtain ⟨c, e⟩ := Zfc (n := s.heap.objs.size + 1) k
      refine .inr ⟨.inl k, c, e, ?_⟩
      have q := x.cell y c e
      rw [Zd7 ndP hp hu (by show scope.names.lookup y ≠ _; rw [k]; decide)] at q
      exact q
  · exact e0.hok.fresh (Nat.le_of_lt (x.above y c (PySem.mem_of_lookup h)))
  · unfold start
    show _ = N.length
    rw [List.length_append, List.length_map, List.length_replicate]
    omega
theorem fn_of {CX : CXT} {P : Program} {w : World} {K : PySem.W.Frag} {mg : Str → Option Value} {base : Heap} {k : Nat} {f : Addr} {name qual : Str} {params : Arguments} {body : List Stmt} {scope : Scope} {dV kV doc pm cdv ct oc : Value} {an od : Option Addr}
    {osl : Array (Option Value)} {N ps : List Str} {sp : Sp} (lk : K.lookup f = some ⟨oc, od, .func (PySem.W.fnOf name qual params body scope dV kV doc pm an cdv ct), osl⟩) (hcd : PySem.W.codeIn K cdv qual = true) (S : FnScope N ps scope)
    (len : ∀ vs H Q E, sp vs H Q E → vs.length = ps.length)
    (hbody : ∀ (A : Around) (outer : List Env) (s : Shared) (H : Hp) (vs : List V) (Q : VK) (E : XK), Room k (A.deeper (envOfC qual scope s.heap.objs.size f cdv)) → sp vs H Q E →
      ∃ t, PSs (cxOf CX P w K mg base N qual scope f cdv A outer s H E) body t ∧ t { nx := fun _ H' => Q .non H', rt := Q } (start N vs) H) :
    FnOk P w K mg base CX (k + 1) f (PySem.W.fnOf name qual params body scope dV kV doc pm an cdv ct) ps sp := by
  refine ⟨len, fun A outer s H args us vs Q E hr e0 hb r hsp => ?_⟩
  have hl := len _ _ _ _ hsp
  have KX : K.In s.heap := e0.mod.kin.keeps fun b o e => (e0.bs b o e).1
  have lim : s.heap.NoLimit := e0.mod.nolimit.keeps fun b o e => (e0.bs b o e).1
  have hkind : ∀ y ∈ ps.zip us, scope.names.lookup y.1 = some .local ∨ (scope.names.lookup y.1 = some .cell ∧ ((cellsFrom (s.heap.objs.size + 1) scope.names []).lookup y.1).isSome = true) := fun ⟨n, v⟩ hy => by
    rcases S.par n (List.of_mem_zip hy).1 with q | q
    · exact .inl q
    · exact .inr ⟨q, PySem.W.cellsFrom_some _ _ _ (.inl q)⟩
  refine codeAny_call_function hr.depth (KX _ _ lk) rfl S.co S.gen rfl (PySem.W.codeRec_of KX hcd) (hb _ _ _ _ ?_)
  refine wpAny_newFunctionEnv_cells S.kind hkind fun env he s1 x => ?_
  subst he
  refine ⟨lim.keeps x.toInCall.keep, codeAny_func ?_⟩
  obtain ⟨t, ht, hq⟩ := hbody A outer s H vs Q E (hr.deeper _) hsp
  have I : Inv (cxOf CX P w K mg base N qual scope f cdv A outer s H E) [] (start N vs) H s1 := Zhn S hr.hd e0 hl r x
  refine wpAny_mono (ht [] s1 (start N vs) H _ I hq) (fun fl s' hs => ?_) fun e s' hs => hs
  have fin : ∀ {σ' : St} {H' : Hp} {v : V} {u : Value}, Inv (cxOf CX P w K mg base N qual scope f cdv A outer s H E) [] σ' H' s' → RelV v u → Q v H' → CE outer P w H s Q u s' :=
    fun {σ' H' v u} J rv q => ⟨v, H', J.os, J.bare, J.base, J.hok, rv, q⟩
  cases fl with
  | ret u =>
    obtain ⟨v, σ', H', J, rv, q⟩ := hs
    exact fin J rv q
  | next =>
    obtain ⟨σ', H', J, q⟩ := hs
    exact fin (v := V.non) (u := Value.none) J rfl q
  | brk =>
    obtain ⟨_, _, _, q⟩ := hs
    exact False.elim q
  | cont =>
    obtain ⟨_, _, _, q⟩ := hs
    exact False.elim q
end L2
namespace L2
open PySem PySem.Spec PyProof.Rows
section
variable {X : Cx} {x : Str} {p pos : Pos} {e : Expr} {es : List Expr} {t : TA} {id T : String} {r : List V → Hp → VK → Prop}
noncomputable def tCB (r : List V → Hp → VK → Prop) (t : TA) : TE := fun σ H Q => t σ H fun vs H1 => r vs H1 Q
theorem ZeX (hc : Xg X (.builtin id) r) (hg : Gl X x) (hm : X.mg x = none) (hv : bootBuiltins x = some (.builtin id)) (ha : PA X (e :: es) t) (hn : x ≠ "__name__" := by decide) (hdb : (x == ("__debug__" : Str)) = false := by decide)
    (he : starEach (e :: es) X.env = (false, eval e X.env) :: starEach es X.env := by rfl) (hpl : (backTo pos (starEach es X.env)).any (·.1) = false := by rfl) : PE X (.Call (.Name x p) (e :: es) [] pos) (tCB r t) := by
  intro pins s σ H Q I h
  refine wpAny_Call_Name_kw (Xf I hg hm hv ?_ hn hdb)
  exact PyProof.Rows.callWith_builtin1 (thn (ha pos pins s σ H _ I h) fun us s1 ⟨vs, H1, I1, r1, q1⟩ => hc pins s1 σ H1 vs us Q I1 r1 q1) he hpl
theorem ZgU (hc : Xg X (.type T) r) (hg : Gl X x) (hm : X.mg x = none) (hv : bootBuiltins x = some (.type T)) (ha : PA X (e :: es) t) (hn : x ≠ "__name__" := by decide) (hdb : (x == ("__debug__" : Str)) = false := by decide)
    (he : starEach (e :: es) X.env = (false, eval e X.env) :: starEach es X.env := by rfl) (hpl : (backTo pos (starEach es X.env)).any (·.1) = false := by rfl) : PE X (.Call (.Name x p) (e :: es) [] pos) (tCB r t) := by
  intro pins s σ H Q I h
  refine wpAny_Call_Name_kw (Xf I hg hm hv ?_ hn hdb)
  exact PyProof.Rows.callWith_type1 (thn (ha pos pins s σ H _ I h) fun us s1 ⟨vs, H1, I1, r1, q1⟩ => hc pins s1 σ H1 vs us Q I1 r1 q1) he hpl
end
end L2
namespace HT
open PySem PyProof.Rows
section
open PySem.SeqAt
open PySem.AutoSeq1 (wpAny_loadPart')
open PySem.MeetsSeq PySem.MeetsSeq2 PySem.MeetsSeq3
end
section
variable {prog : Program} {w : World} {A : Around} {E : Value → Shared → Prop} {s : Shared}
theorem cat_tup {t b : Addr} {vs ws : List Value} {Q : Value → Shared → Prop} (ht : IsTup s.heap t vs.toArray) (hb : IsTup s.heap b ws.toArray) (hv : vs ≠ [])
    (h1 : ws = [] → Q (.ref t) s) (h2 : ws ≠ [] → Q (.ref s.heap.objs.size) { s with heap := s.heap.push { cls := .type "tuple", data := .seq (vs ++ ws).toArray } })
    (hsz : vs.length + ws.length ≤ sizeLine) : wpAny (model prog w) A (binaryOp .Add (.ref t) (.ref b)) Q E s := by
  obtain ⟨⟨cls, dd, data, sl⟩, ho, hc, n, hd⟩ := id ht
  obtain ⟨⟨cls2, dd2, data2, sl2⟩, ho2, hc2, n2, hd2⟩ := id hb
  simp only at hc hd hc2 hd2
  subst hc hd hc2 hd2
  have e : vs.toArray ++ ws.toArray = (vs ++ ws).toArray := by simp
  by_cases hw : ws = []
  · exact concat_meets ⟨_, ho, rfl⟩ ⟨_, ho2, rfl⟩ noFill_tuple_add seq_tuple_add PySem.F.slot_tuple_add PySem.F.entry_tuple_add (PySem.F.args_tuple_add_2 _ _)
      (tuple_addW1 t b vs.toArray ws.toArray n n2 dd dd2 sl sl2 (by simpa using hv) (by simp [hw])) ⟨ho, ho2, h1 hw⟩
  · refine concat_meets ⟨_, ho, rfl⟩ ⟨_, ho2, rfl⟩ noFill_tuple_add seq_tuple_add PySem.F.slot_tuple_add PySem.F.entry_tuple_add (PySem.F.args_tuple_add_2 _ _)
      (tuple_addW2 t b vs.toArray ws.toArray n n2 dd dd2 sl sl2 (by simpa using hv) (by simpa using hw) (by rw [List.size_toArray, List.size_toArray]; exact hsz)) ⟨ho, ho2, ?_⟩
    rw [e]
    exact h2 hw
noncomputable def sIx (n d : Nat) : Option Int → Nat
  | none => d
  | some v => if v < 0 then (v + (n : Int)).toNat else min v.toNat n
theorem sIx_le (n d : Nat) (hd : d ≤ n) (o : Option Int) : sIx n d o ≤ n := by
  cases o with
  | none => exact hd
  | some v =>
    show (if v < 0 then (v + (n : Int)).toNat else min v.toNat n) ≤ n
    by_cases hv : v < 0
    · rw [if_pos hv]; omega
    · rw [if_neg hv]; exact Nat.min_le_right _ _
theorem ZhJ (v : Int) (n d : Nat) : (if v < 0 then max (v + (n : Int)) 0 else min v (n : Int)) = ((sIx n d (some v) : Nat) : Int) := by
  show (if v < 0 then max (v + (n : Int)) 0 else min v (n : Int)) = (((if v < 0 then (v + (n : Int)).toNat else min v.toNat n) : Nat) : Int)
  by_cases hv : v < 0
  · simp only [if_pos hv]; omega
  · simp only [if_neg hv]; omega
theorem Zge (lo hi : Option Int) (n : Nat) : Builtin.Slice.sliceAdjust lo hi 1 (n : Int) = (((sIx n 0 lo : Nat) : Int), ((sIx n n hi : Nat) : Int)) := by
  have h1 : ¬ ((1 : Int) < 0) := by omega
  unfold Builtin.Slice.sliceAdjust
  simp only [h1, if_false]
  refine Prod.ext ?_ ?_
  · cases lo with
    | none => rfl
    | some v => exact ZhJ v n 0
  · cases hi with
    | none => rfl
    | some v => exact ZhJ v n n
theorem ZfC (i j : Nat) : Builtin.Slice.slicePlaces (i : Int) (j : Int) 1 = j - i := by
  unfold Builtin.Slice.slicePlaces
  have h1 : (1 : Int) > 0 := by omega
  simp only [h1, if_true, Int.ediv_one]
  split <;> omega
theorem Zch {v : Value} {o : Option Int} {Q : Option Int → Shared → Prop} (p : IsPart v o) (h : Q o s) : wpAny (model prog w) A (Builtin.Slice.slicePartIndex v) Q E s := by
  cases p with
  | none => exact slicePart_none h
  | int i t => exact slicePart_int h
theorem sliceApplied_gen {sl : Addr} {vl vu : Value} {lo hi : Option Int} {n : Nat} {Q : Int × Int × Nat → Shared → Prop} (hs : s.heap.IsSliceOf sl vl vu .none) (pl : IsPart vl lo) (pu : IsPart vu hi)
    (h : Q (((sIx n 0 lo : Nat) : Int), 1, sIx n n hi - sIx n 0 lo) s) : wpAny (model prog w) A (Builtin.Slice.sliceApplied (.ref sl) (pure (n : Int))) Q E s := by
  obtain ⟨os, hos, hcs, hds⟩ := id hs
  unfold Builtin.Slice.sliceApplied Builtin.Slice.sliceFields
  refine wpAny_bind (wpAny_bind (wpAny_field hos hds (x := vl) rfl (wpAny_bind (wpAny_field hos hds (x := vu) rfl (wpAny_bind (wpAny_field hos hds (x := .none) rfl (wpAny_pure ?_)))))))
  refine wpAny_bind (slicePart_none ?_)
  show wpAny _ _ (if ((1 : Int) == 0) = true then _ else _) _ _ s
  rw [if_neg (by decide)]
  refine wpAny_bind (Zch pl (wpAny_bind (Zch pu (wpAny_bind (wpAny_pure ?_)))))
  show wpAny _ _ (match Builtin.Slice.sliceAdjust lo hi 1 (n : Int) with | (lo, hi) => pure (lo, (1 : Int), Builtin.Slice.slicePlaces lo hi 1)) _ _ s
  rw [Zge lo hi n]
  show wpAny _ _ (pure (((sIx n 0 lo : Nat) : Int), (1 : Int), Builtin.Slice.slicePlaces ((sIx n 0 lo : Nat) : Int) ((sIx n n hi : Nat) : Int) 1)) _ _ s
  rw [ZfC]
  exact wpAny_pure h
theorem Ziv (xs : Array Value) (i k : Nat) : ((List.range k).filterMap fun (m : Nat) => xs[((i : Int) + (m : Int) * 1).toNat]?).toArray = ((xs.toList.drop i).take k).toArray := by
  have e : (fun (m : Nat) => xs[((i : Int) + (m : Int) * 1).toNat]?) = fun m => xs[i + m]? := by
    funext m
    have : ((i : Int) + (m : Int) * 1).toNat = i + m := by omega
    rw [this]
  rw [e]
  have := pick_run xs i k
  rw [List.filterMap_map] at this
  have e2 : ((fun x => xs[x]?) ∘ fun x => i + x) = fun m => xs[i + m]? := rfl
  rw [e2] at this
  rw [this]
theorem getItem_tuple_cut {t sl : Addr} {items : Array Value} {vl vu : Value} {lo hi : Option Int} {Q : Value → Shared → Prop} (ht : IsTup s.heap t items) (hs : s.heap.IsSliceOf sl vl vu .none) (pl : IsPart vl lo) (pu : IsPart vu hi)
    (hw : ¬ (sIx items.size 0 lo = 0 ∧ sIx items.size items.size hi = items.size))
    (h : Q (.ref s.heap.objs.size) { s with heap := s.heap.push { cls := .type "tuple", data := .seq ((items.toList.drop (sIx items.size 0 lo)).take (sIx items.size items.size hi - sIx items.size 0 lo)).toArray } })
    (hsz : items.size ≤ sizeLine) : wpAny (model prog w) A (getItem (.ref t) (.ref sl)) Q E s := by
  have htake : sizeOk (.seq ((items.toList.drop (sIx items.size 0 lo)).take (sIx items.size items.size hi - sIx items.size 0 lo)).toArray) := by
    show ((items.toList.drop (sIx items.size 0 lo)).take (sIx items.size items.size hi - sIx items.size 0 lo)).toArray.size ≤ sizeLine
    rw [List.size_toArray, List.length_take, List.length_drop, Array.length_toList]
    omega
  have hj : sIx items.size items.size hi ≤ items.size := sIx_le _ _ (Nat.le_refl _) hi
  obtain ⟨os, hos, hcs, hds⟩ := id hs
  have hTs : s.TypeIs (.ref sl) "slice" := ⟨os, hos, hcs⟩
  unfold getItem
  try with_reducible refine wpAny_holding ?_
  first | refine wpAny_bind (wpAny_pure ?_) | skip
  refine wpAny_bind (wpAny_sequenceKey ht.typeIs (by decide) ?_)
  refine wpAny_bind (wpAny_callSpecial?_slot (name := Str.ofString "__getitem__") ht.typeIs PyProof.Rows.slot_tuple_getitem
    (wpAny_call_entry PyProof.Rows.slot_tuple_getitem ht.typeIs entry_tuple_getitem ?_ (args_tuple_getitem _ _)))
  show wpAny _ _ (Builtin.Tuple.tupleItemsOf (.ref t) >>= _) _ _ s
  refine wpAny_bind (tupleItemsOf_ ht ?_)
  refine wpAny_bind (wpAny_typeOf hTs ?_)
  rw [if_pos (by decide)]
  refine wpAny_bind (sliceApplied_gen hs pl pu ?_)
  have hno : ¬ ((((sIx items.size 0 lo : Nat) : Int) == 0 && (1 : Int) == 1 && (sIx items.size items.size hi - sIx items.size 0 lo) == items.size) = true) := by
    intro q
    rw [Bool.and_eq_true, Bool.and_eq_true] at q
    have q1 : ((sIx items.size 0 lo : Nat) : Int) = 0 := eq_of_beq q.1.1
    have q2 : sIx items.size items.size hi - sIx items.size 0 lo = items.size := eq_of_beq q.2
    exact hw ⟨by omega, by omega⟩
  show wpAny _ _ (if (((sIx items.size 0 lo : Nat) : Int) == 0 && (1 : Int) == 1 && (sIx items.size items.size hi - sIx items.size 0 lo) == items.size) = true then _ else _) _ _ s
  rw [if_neg hno, Ziv]
  first
    | exact wpAny_bind (m := Builtin.Tuple.tupleExact _) (wpAny_newObj_type (wpAny_pure ⟨_, rfl, wpAny_pure h⟩) htake)
    | exact wpAny_bind (m := Builtin.Tuple.tupleExact _) (wpAny_newObj_type (wpAny_bind (wpAny_pure (wpAny_pure ⟨_, rfl, wpAny_pure h⟩))) htake)
    | exact wpAny_bind (wpAny_bind (m := Builtin.Tuple.tupleExact _) (wpAny_newObj_type (wpAny_pure (wpAny_pure ⟨_, rfl, wpAny_pure h⟩)) htake))
    | exact wpAny_bind (wpAny_bind (m := Builtin.Tuple.tupleExact _) (wpAny_newObj_type (wpAny_pure ⟨_, rfl, wpAny_pure h⟩) htake))
end
end HT
namespace L2
open PySem PySem.Spec PyProof.Rows
noncomputable abbrev TO := St → Hp → (Option Int → Hp → Prop) → Prop
noncomputable def PO (X : Cx) (e : Option Expr) (t : TO) : Prop :=
  ∀ (pins : List (Addr × Obj)) (s : Shared) (σ : St) (H : Hp) (Q : Option Int → Hp → Prop), Inv X pins σ H s → t σ H Q →
    wpAny (model X.prog X.w) X.A (evalPart e X.env) (fun u s' => ∃ o H', Inv X pins σ H' s' ∧ IsPart u o ∧ Q o H') X.xe s
noncomputable def ZjM : TO := fun _ H Q => Q none H
noncomputable def tPart (t : TE) : TO := fun σ H Q => t σ H fun x H1 => ∃ i, x = .int i ∧ Q (some i) H1
theorem intsAre_of {ns : List Int} : ∀ {us : List Value}, Vals (ns.map V.int) us → IntsAre us ns := by
  induction ns with
  | nil => intro us r; rw [List.map_nil] at r; cases r; exact .nil
  | cons n ns ih =>
    intro us r
    rw [List.map_cons] at r
    cases r with
    | cons r1 r2 =>
      obtain ⟨t, e⟩ := r1
      subst e
      exact .cons n t (ih r2)
section
variable {X : Cx} {e : Expr} {te : TE} {lo hi : Option Expr} {tl th : TO} {pos p2 : Pos}
theorem ZjY : PO X none ZjM := by
  intro pins s σ H Q I h
  rw [evalPart_none]
  exact wpAny_pure ⟨none, H, I, .none, h⟩
theorem ZjX (h : PE X e te) : PO X (some e) (tPart te) := by
  intro pins s σ H Q I hw
  rw [evalPart_some]
  refine thn (h pins s σ H _ I hw) fun u s1 ⟨x, H1, I1, r1, q1⟩ => ?_
  obtain ⟨i, rfl, q⟩ := q1
  obtain ⟨t, rfl⟩ := r1
  exact ⟨some i, H1, I1, .int i t, q⟩
noncomputable def SlR (X : Cx) (r : V → Option Int → Option Int → Hp → VK → Prop) : Prop :=
  ∀ (pins : List (Addr × Obj)) (s : Shared) (σ : St) (H : Hp) (x : V) (v vl vu : Value) (lo hi : Option Int) (sl : Addr) (Q : VK), Inv X pins σ H s → RelV x v → s.heap.IsSliceOf sl vl vu .none → IsPart vl lo → IsPart vu hi → r x lo hi H Q →
    ∃ T id, typeLookup (.type T) "__getitem__" = pure (some (.builtin id)) ∧ s.TypeIs v T ∧ wpAny (model X.prog X.w) X.A (getItem v (.ref sl)) (EP X pins σ Q) X.xe s
noncomputable def tSl (r : V → Option Int → Option Int → Hp → VK → Prop) (te : TE) (tl th : TO) : TE := fun σ H Q => te σ H fun x H1 => tl σ H1 fun l H2 => th σ H2 fun u H3 => r x l u H3 Q
theorem Ziy {r : V → Option Int → Option Int → Hp → VK → Prop} (hr : SlR X r) (he : PE X e te) (hl : PO X lo tl) (hu : PO X hi th) : PE X (.Subscript e (.Slice lo hi none p2) pos) (tSl r te tl th) := by
  intro pins s σ H Q I h
  refine Subscript_ (thn (he pins s σ H _ I h) fun v s1 ⟨x, H1, I1, r1, q1⟩ => ?_)
  refine wpAny_Slice (thn (hl pins s1 σ H1 _ I1 q1) fun vl s2 ⟨l, H2, I2, pl, q2⟩ => thn (hu pins s2 σ H2 _ I2 q2) fun vu s3 ⟨u, H3, I3, pu, q3⟩ => ?_)
  rw [evalPart_none]
  refine wpAny_pure ?_
  have I4 : Inv X pins σ H3 { s3 with heap := s3.heap.push { cls := .type "slice", data := .fields #[vl, vu, .none] } } := I3.kept (t' := s3.toks) fun b ob q => Heap.get?_push_of_some _ q
  obtain ⟨T, id, hT, ht, hg⟩ := hr pins { s3 with heap := s3.heap.push { cls := .type "slice", data := .fields #[vl, vu, .none] } } σ H3 x v vl vu l u s3.heap.objs.size Q I4 r1 (Heap.IsSliceOf.new ..) pl pu q3
  show wpAny (model X.prog X.w) X.A (subscriptTail e (.Slice lo hi none p2) v (.ref s3.heap.objs.size)) (EP X pins σ Q) X.xe { s3 with heap := s3.heap.push { cls := .type "slice", data := .fields #[vl, vu, .none] } }
  exact tail_any (ops := [.ref s3.heap.objs.size, v]) ht hT hg (by with_unfolding_all rfl)
noncomputable def cutV (xs : List V) (lo hi : Option Int) : List V := (xs.drop (HT.sIx xs.length 0 lo)).take (HT.sIx xs.length xs.length hi - HT.sIx xs.length 0 lo)
theorem ZbY (xs : List V) (lo hi : Option Int) : (cutV xs lo hi).length ≤ xs.length := by
  unfold cutV
  rw [List.length_take, List.length_drop]
  omega
noncomputable def rSlT (K : PySem.W.Frag) : V → Option Int → Option Int → Hp → VK → Prop := fun x lo hi H Q => ∃ a xs, x = .ref a ∧ SqT K H a xs ∧
  ¬ (HT.sIx xs.length 0 lo = 0 ∧ HT.sIx xs.length xs.length hi = xs.length) ∧ ∀ p, H p = none → Q (.ref p) (upd H p (.tup (cutV xs lo hi)))
theorem sl_tup : SlR X (rSlT X.K) := by
  intro pins s σ H x v vl vu lo hi sl Q I rx hs pl pu h
  obtain ⟨a, xs, rfl, hx, hw, q⟩ := h
  cases rx
  obtain ⟨its, r, ht, hz⟩ := I.tuple hx
  have hlen : its.toArray.size = xs.length := by rw [List.size_toArray]; exact r.length.symm
  refine ⟨"tuple", _, PyProof.Rows.slot_tuple_getitem.lookup, ht.typeIs, ?_⟩
  refine HT.getItem_tuple_cut ht hs pl pu (by rw [hlen]; exact hw) ?_ (by rw [hlen]; exact hz)
  rw [hlen]
  refine ⟨.ref s.heap.objs.size, _, I.laid (t' := s.toks) (o := .tup (cutV xs lo hi)) (fun b ob q => Heap.get?_push_of_some _ q) (Nat.le_refl _) ?_, rfl, q _ (I.hok.fresh (Nat.le_refl _))⟩
  exact ⟨Nat.le_trans (ZbY xs lo hi) hz, _, (r.drop (HT.sIx xs.length 0 lo)).take (HT.sIx xs.length xs.length hi - HT.sIx xs.length 0 lo), TupP.new _ _⟩
noncomputable def rCatT (K : PySem.W.Frag) : R2 := fun x y H Q => ∃ a b xs ys, x = .ref a ∧ y = .ref b ∧ SqT K H a xs ∧ SqT K H b ys ∧ xs ≠ [] ∧ xs.length + ys.length ≤ sizeLine ∧
  (ys = [] → Q (.ref a) H) ∧ (ys ≠ [] → ∀ p, H p = none → Q (.ref p) (upd H p (.tup (xs ++ ys))))
theorem Vals.nil_iff {xs : List V} {us : List Value} (r : Vals xs us) : us = [] ↔ xs = [] := by
  cases r with
  | nil => simp
  | cons _ _ => simp
theorem Zkb : OpR X (binaryOp .Add) (rCatT X.K) := by
  intro pins s σ H x y v u Q I rx ry h
  obtain ⟨a, b, xs, ys, rfl, rfl, ha, hb, hx, hz, q1, q2⟩ := h
  cases rx
  cases ry
  obtain ⟨its, r1, p1, _⟩ := I.tuple ha
  obtain ⟨its2, r2, p2, _⟩ := I.tuple hb
  refine HT.cat_tup p1 p2 (fun z => hx (r1.nil_iff.mp z)) (fun z => ⟨.ref a, H, I, rfl, q1 (r2.nil_iff.mp z)⟩) (fun z => ?_) (by rw [← r1.length, ← r2.length]; exact hz)
  refine ⟨.ref s.heap.objs.size, _, I.laid (t' := s.toks) (o := .tup (xs ++ ys)) (fun b ob q => Heap.get?_push_of_some _ q) (Nat.le_refl _) ?_, rfl, q2 (fun w => z (r2.nil_iff.mpr w)) _ (I.hok.fresh (Nat.le_refl _))⟩
  exact ⟨by rw [List.length_append]; exact hz, _, r1.append r2, TupP.new _ _⟩
end
end L2
namespace L2
open PySem PySem.Spec PyProof.Rows
noncomputable def ixN (n : Nat) (i : Int) : Option Nat := if 0 ≤ i then (if i < n then some i.toNat else none) else if -(n : Int) ≤ i then some (i + n).toNat else none
noncomputable def atI {α : Type} (xs : List α) (i : Int) : Option α := (ixN xs.length i).bind fun j => xs[j]?
theorem Zhm {n : Nat} {i : Int} {j : Nat} (h : ixN n i = some j) : seqIndex? i n = some j ∧ j < n ∧ -(n : Int) ≤ i ∧ i < n := by
  unfold ixN at h
  by_cases h0 : 0 ≤ i
  · rw [if_pos h0] at h
    by_cases h1 : i < n
    · rw [if_pos h1] at h
      have e : i.toNat = j := Option.some.inj h
      exact ⟨by rw [seqIndex_of h0 h1, e], by omega, by omega, h1⟩
    · rw [if_neg h1] at h; cases h
  · rw [if_neg h0] at h
    by_cases h1 : -(n : Int) ≤ i
    · rw [if_pos h1] at h
      have e : (i + n).toNat = j := Option.some.inj h
      exact ⟨by rw [seqIndex_neg (by omega) h1, e], by omega, h1, by omega⟩
    · rw [if_neg h1] at h; cases h
theorem ZeK {α : Type} {xs : List α} {i : Int} {v : α} (h : atI xs i = some v) : ∃ j, seqIndex? i xs.length = some j ∧ xs[j]? = some v ∧ j < xs.length ∧ -(xs.length : Int) ≤ i ∧ i < xs.length := by
  unfold atI at h
  cases e : ixN xs.length i with
  | none => rw [e] at h; cases h
  | some j =>
    rw [e] at h
    obtain ⟨h1, h2, h3, h4⟩ := Zhm e
    exact ⟨j, h1, h, h2, h3, h4⟩
noncomputable def Zh1 (b : Expr) : Prop := ∀ o i, subscripted b false o i = operate [o, i] (getItem o i)
noncomputable def IxR (X : Cx) (r : R2) : Prop :=
  ∀ (value slice : Expr) (pins : List (Addr × Obj)) (s : Shared) (σ : St) (H : Hp) (x y : V) (v u : Value) (Q : VK), Inv X pins σ H s → RelV x v → RelV y u → r x y H Q →
    subscripted slice false v u = operate [v, u] (getItem v u) → wpAny (model X.prog X.w) X.A (subscriptTail value slice v u) (EP X pins σ Q) X.xe s
noncomputable def MtR (X : Cx) (id : String) (r : V → List V → Hp → VK → Prop) : Prop :=
  ∀ (pins : List (Addr × Obj)) (s : Shared) (σ : St) (H : Hp) (x : V) (xs : List V) (v : Value) (us : List Value) (Q : VK), Inv X pins σ H s → RelV x v → Vals xs us → r x xs H Q →
    wpAny (model X.prog X.w) X.A (call (.builtin id) (v :: us)) (EP X pins σ Q) X.xe s
section
variable {X : Cx} {a b : Expr} {ta tb : TE} {pos : Pos}
theorem pe_ix {r : R2} (hr : IxR X r) (ha : PE X a ta) (hb : PE X b tb) (hs : Zh1 b) : PE X (.Subscript a b pos) (tOp r ta tb) := by
  intro pins s σ H Q I h
  exact Subscript_ (binT ha hb I h fun v u s2 x y H2 I2 rx ry q => hr a b pins s2 σ H2 x y v u Q I2 rx ry q (hs _ _))
noncomputable def rIxL (K : PySem.W.Frag) : R2 := fun x y H Q => ∃ p xs i v, x = .ref p ∧ y = .int i ∧ SqL K H p xs ∧ atI xs i = some v ∧ Q v H
noncomputable def rIxT (K : PySem.W.Frag) : R2 := fun x y H Q => ∃ p xs i v, x = .ref p ∧ y = .int i ∧ SqT K H p xs ∧ atI xs i = some v ∧ Q v H
noncomputable def rIxS : R2 := fun x y H Q => ∃ z i c, x = .str z ∧ y = .int i ∧ z.length ≤ sizeLine ∧ atI z.cps.toList i = some c ∧ Q (.str ⟨#[c]⟩) H
theorem Zhl : IxR X (rIxL X.K) := by
  intro value slice pins s σ H x y v u Q I rx ry h hs
  obtain ⟨p, xs, i, z, rfl, rfl, hq, he, q⟩ := h
  cases rx
  obtain ⟨t, rfl⟩ := ry
  obtain ⟨its, r, pl, hz⟩ := I.list hq
  obtain ⟨j, h1, h2, h3, h4, h5⟩ := ZeK he
  obtain ⟨w, ew, rw'⟩ := r.get h2
  have hl := r.length
  have hn := Zcq
  have fin : EP X pins σ Q w s := ⟨z, H, I, rw', q⟩
  by_cases h0 : 0 ≤ i
  · have hj : i.toNat = j := by
      rw [seqIndex_of h0 h5] at h1
      exact Option.some.inj h1
    exact item_listR pl.isList h0 (by omega) (by rw [hj]; simpa using ew) fin hs
  · have hj : (i + (its.toArray.size : Int)).toNat = j := by
      rw [seqIndex_neg (by omega) h4] at h1
      rw [List.size_toArray, ← hl]
      exact Option.some.inj h1
    exact subscriptTail_builtinR (x := w) pl.isList.typeIs slot_list_getitem.lookup
      (wpAny_getItem_list_neg (Q := fun r s' => r = w ∧ EP X pins σ Q r s') pl.isList (by omega) (by rw [List.size_toArray] <;> omega) (by omega) (by rw [hj]; simpa using ew) ⟨rfl, fin⟩) hs
theorem ix_tup : IxR X (rIxT X.K) := by
  intro value slice pins s σ H x y v u Q I rx ry h hs
  obtain ⟨p, xs, i, z, rfl, rfl, hq, he, q⟩ := h
  cases rx
  obtain ⟨t, rfl⟩ := ry
  obtain ⟨its, r, pl, hz⟩ := I.tuple hq
  obtain ⟨j, h1, h2, h3, h4, h5⟩ := ZeK he
  obtain ⟨w, ew, rw'⟩ := r.get h2
  have hl := r.length
  have hn := Zcq
  have fin : EP X pins σ Q w s := ⟨z, H, I, rw', q⟩
  exact subscriptTail_builtinR (x := w) pl.typeIs slot_tuple_getitem.lookup
    (getItem_tuple (j := j) (Q := fun r s' => r = w ∧ EP X pins σ Q r s') pl (by omega) (by omega) (by rw [List.size_toArray, ← hl]; exact h1) (by simpa using ew) ⟨rfl, fin⟩) hs
theorem ix_str : IxR X rIxS := by
  intro value slice pins s σ H x y v u Q I rx ry h hs
  obtain ⟨z, i, c, rfl, rfl, hz, he, q⟩ := h
  obtain ⟨t, rfl⟩ := rx
  obtain ⟨t', rfl⟩ := ry
  obtain ⟨j, h1, h2, h3, h4, h5⟩ := ZeK he
  have hl : z.cps.toList.length = z.length := by simp [Str.length]
  rw [hl] at h1 h4 h5
  have hn := Zcq
  exact tail_any (typeIs_str s z t) slot_str_getitem.lookup (getItem_str (c := c) (by
    have e1 : decide (i < -(2 ^ 63 : Int)) = false := decide_eq_false (by omega)
    have e2 : decide (i ≥ 2 ^ 63) = false := decide_eq_false (by omega)
    rw [e1, e2, Bool.or_false]) (by rw [h1]; simpa using h2) ⟨.str ⟨#[c]⟩, H, I.tok _, ⟨_, rfl⟩, q⟩) hs
theorem ZfW (its : List Value) (n j : Nat) (u : Value) : Obj.mapSeq (·.setIfInBounds j u) { cls := .type "list", data := .seq its.toArray n } = { cls := .type "list", data := .seq (its.set j u).toArray n } := by
  simp [Obj.mapSeq]
theorem Inv.lst {pins : List (Addr × Obj)} {σ : St} {H : Hp} {s : Shared} {p : Addr} {xs : List V} (I : Inv X pins σ H s) (h : H p = some (.lst xs)) :
    ∃ (its : List Value) (n : Nat), Vals xs its ∧ s.heap.get? p = some { cls := .type "list", data := .seq its.toArray n } ∧ xs.length ≤ sizeLine := by
  obtain ⟨z, its, n, r, e⟩ := I.hok p _ h
  exact ⟨its, n, r, e, z⟩
theorem Inv.lstUpd {pins : List (Addr × Obj)} {σ : St} {H : Hp} {s : Shared} {p : Addr} {xs ys : List V} {its its' : List Value} {n n' : Nat} {f : Obj → Obj} (I : Inv X pins σ H s) (h : H p = some (.lst xs))
    (ho : s.heap.get? p = some { cls := .type "list", data := .seq its.toArray n }) (hf : f { cls := .type "list", data := .seq its.toArray n } = { cls := .type "list", data := .seq its'.toArray n' }) (r : Vals ys its') (hz : ys.length ≤ sizeLine) (t : Nat) :
    Inv X pins σ (upd H p (.lst ys)) { s with heap := s.heap.update p f, toks := t } := by
  have e : (s.heap.update p f).get? p = some { cls := .type "list", data := .seq its'.toArray n' } := by
    rw [Heap.get?_update_self f ho (by rw [hf] <;> rfl), hf]
  refine I.write (x := p) (e := p) (by rw [h]; trivial) (.inl rfl) (fun b u hb q => (Heap.get?_update_other _ _ (Ne.symm hb)).trans q) ⟨_, e⟩ ?_
  exact ⟨hz, its', n', r, e⟩
noncomputable def rSetL : V → V → V → Hp → (Hp → Prop) → Prop := fun o i v H Q => ∃ p xs k j, o = .ref p ∧ i = .int k ∧ H p = some (.lst xs) ∧ ixN xs.length k = some j ∧ Q (upd H p (.lst (xs.set j v)))
theorem set_list : PSet X rSetL := by
  intro pins s σ H o i v ov iv u Q I ro ri rv h
  obtain ⟨p, xs, k, j, rfl, rfl, hp, hj, q⟩ := h
  cases ro
  obtain ⟨t, rfl⟩ := ri
  obtain ⟨its, n, r, ho, hz⟩ := I.lst hp
  obtain ⟨h1, h2, h3, h4⟩ := Zhm hj
  have hl := r.length
  have hn := Zcq
  have I' : Inv X pins σ (upd H p (.lst (xs.set j v))) { s with heap := s.heap.update p (Obj.mapSeq (·.setIfInBounds j u)) } :=
    I.lstUpd hp ho (ZfW its n j u) (r.set rv j) (by rw [List.length_set]; exact hz) s.toks
  by_cases h0 : 0 ≤ k
  · have hk : k.toNat = j := by
      rw [seqIndex_of h0 h4] at h1
      exact Option.some.inj h1
    exact PySem.W.ki_setAt ho h0 (by omega) (by rw [List.size_toArray, ← hl]; exact h4) (by rw [hk]; exact ⟨_, I', q⟩)
  · have hk : (k + (its.toArray.size : Int)).toNat = j := by
      rw [seqIndex_neg (by omega) h3] at h1
      rw [List.size_toArray, ← hl]
      exact Option.some.inj h1
    exact PySem.W.ki_setBack ho (by omega) (by rw [List.size_toArray, ← hl]; exact h3) (by omega) (by rw [hk]; exact ⟨_, I', q⟩)
theorem Zdv (lo hi : Option Int) (n : Nat) : (sliceBounds lo hi none n).1 = ((HT.sIx n 0 lo : Nat) : Int) ∧ (sliceBounds lo hi none n).2.1 = ((HT.sIx n n hi : Nat) : Int) ∧ (sliceBounds lo hi none n).2.2 = 1 := by
  refine ⟨?_, ?_, rfl⟩
  · cases lo with
    | none => simp [sliceBounds, HT.sIx]
    | some i =>
      simp only [sliceBounds, HT.sIx, Option.getD_none, show (1 : Int) > 0 by decide, if_true]
      by_cases h : i < 0
      · simp only [h, if_true] <;> omega
      · simp only [h, if_false] <;> omega
  · cases hi with
    | none => simp [sliceBounds, HT.sIx]
    | some i =>
      simp only [sliceBounds, HT.sIx, Option.getD_none, show (1 : Int) > 0 by decide, if_true]
      by_cases h : i < 0
      · simp only [h, if_true] <;> omega
      · simp only [h, if_false] <;> omega
theorem ZcO (its : List Value) (lo hi : Option Int) : slicePick its.toArray lo hi none = ((its.drop (HT.sIx its.length 0 lo)).take (HT.sIx its.length its.length hi - HT.sIx its.length 0 lo)).toArray := by
  obtain ⟨h1, h2, h3⟩ := Zdv lo hi its.toArray.size
  unfold slicePick
  rw [h1, h2, h3]
  simp only [sliceRange_one, pick_run, List.size_toArray] <;> rfl
noncomputable def rSlL (K : PySem.W.Frag) : V → Option Int → Option Int → Hp → VK → Prop := fun x lo hi H Q => ∃ a xs, x = .ref a ∧ SqL K H a xs ∧ ∀ p, H p = none → Q (.ref p) (upd H p (.lst (cutV xs lo hi)))
theorem Zgv : SlR X (rSlL X.K) := by
  intro pins s σ H x v vl vu lo hi sl Q I rx hs pl pu h
  obtain ⟨a, xs, rfl, hx, q⟩ := h
  cases rx
  obtain ⟨its, r, ht, hz⟩ := I.list hx
  have hlen := r.length
  refine ⟨"list", _, slot_list_getitem.lookup, ht.isList.typeIs, ?_⟩
  refine wpAny_getItem_list_slice ht.isList hs pl pu .none (by simp) ?_ (by rw [List.size_toArray] <;> omega)
  rw [ZcO, ← hlen]
  refine ⟨.ref s.heap.objs.size, _, I.laid (t' := s.toks) (o := .lst (cutV xs lo hi)) (fun b ob q => Heap.get?_push_of_some _ q) (Nat.le_refl _) ?_, rfl, q _ (I.hok.fresh (Nat.le_refl _))⟩
  exact ⟨Nat.le_trans (ZbY xs lo hi) hz, _, 0, (r.drop (HT.sIx xs.length 0 lo)).take (HT.sIx xs.length xs.length hi - HT.sIx xs.length 0 lo), Heap.get?_push_size _ rfl⟩
noncomputable def Zbp : V → Bool
  | .non => true
  | .bl _ => true
  | .int _ => true
  | .str _ => true
  | _ => false
noncomputable def eqV : V → V → Bool
  | .non, .non => true
  | .bl a, .bl b => a == b
  | .bl a, .int b => (if a then 1 else 0) == b
  | .int a, .bl b => a == (if b then 1 else 0)
  | .int a, .int b => a == b
  | .str a, .str b => a == b
  | _, _ => false
theorem eqAt_V {A : Around} {s : Shared} {y x : V} {u v : Value} (ry : RelV y u) (rx : RelV x v) (fy : Zbp y = true) (fx : Zbp x = true) : SeqAt.EqAt A s u v (eqV y x) := by
  cases y with
  | non =>
    cases ry
    cases x with
    | non => cases rx; exact SeqAt.EqAt.same _
    | bl b => cases rx; exact SeqAt.EqAt.none_bool b
    | int b => obtain ⟨t, rfl⟩ := rx; exact SeqAt.EqAt.none_int b t
    | str b => obtain ⟨t, rfl⟩ := rx; exact SeqAt.EqAt.none_str b t
    | _ => exact absurd (show false = true from fx) Bool.false_ne_true
  | bl a =>
    cases ry
    cases x with
    | non => cases rx; exact SeqAt.EqAt.bool_none a
    | bl b => cases rx; exact SeqAt.EqAt.bool_bool a b
    | int b => obtain ⟨t, rfl⟩ := rx; exact SeqAt.EqAt.bool_int a b t
    | str b => obtain ⟨t, rfl⟩ := rx; exact SeqAt.EqAt.bool_str a b t
    | _ => exact absurd (show false = true from fx) Bool.false_ne_true
  | int a =>
    obtain ⟨t', rfl⟩ := ry
    cases x with
    | non => cases rx; exact SeqAt.EqAt.int_none a t'
    | bl b => cases rx; exact SeqAt.EqAt.int_bool a t' b
    | int b => obtain ⟨t, rfl⟩ := rx; exact SeqAt.EqAt.int_int a t' b t
    | str b => obtain ⟨t, rfl⟩ := rx; exact SeqAt.EqAt.int_str a t' b t
    | _ => exact absurd (show false = true from fx) Bool.false_ne_true
  | str a =>
    obtain ⟨t', rfl⟩ := ry
    cases x with
    | non => cases rx; exact SeqAt.EqAt.str_none a t'
    | bl b => cases rx; exact SeqAt.EqAt.str_bool a t' b
    | int b => obtain ⟨t, rfl⟩ := rx; exact SeqAt.EqAt.str_int a t' b t
    | str b => obtain ⟨t, rfl⟩ := rx; exact SeqAt.EqAt.str_str a t' b t
    | _ => exact absurd (show false = true from fx) Bool.false_ne_true
  | _ => exact absurd (show false = true from fy) Bool.false_ne_true
noncomputable def eqU (x : V) (u : Value) : Bool := match u with
  | .none => eqV .non x
  | .bool b => eqV (.bl b) x
  | .int i _ => eqV (.int i) x
  | .str z _ => eqV (.str z) x
  | _ => false
theorem Zjz {x y : V} {u : Value} (r : RelV y u) (f : Zbp y = true) : eqU x u = eqV y x := by
  cases y with
  | non => cases r; rfl
  | bl b => cases r; rfl
  | int i => obtain ⟨t, rfl⟩ := r; rfl
  | str z => obtain ⟨t, rfl⟩ := r; rfl
  | _ => exact absurd (show false = true from f) Bool.false_ne_true
theorem Zb7 {x : V} : ∀ {xs : List V} {us : List Value}, Vals xs us → xs.all Zbp = true → us.any (eqU x) = xs.any fun y => eqV y x
  | _, _, .nil, _ => rfl
  | y :: xs, u :: us, .cons r t, f => by
    rw [List.all_cons, Bool.and_eq_true] at f
    rw [List.any_cons, List.any_cons, Zjz r f.1, Zb7 t f.2]
theorem Zau {A : Around} {s : Shared} {x : V} {v : Value} (rx : RelV x v) (fx : Zbp x = true) : ∀ {xs : List V} {us : List Value}, Vals xs us → xs.all Zbp = true → ∀ u ∈ us, SeqAt.EqAt A s u v (eqU x u)
  | _, _, .nil, _ => fun u hu => by cases hu
  | y :: xs, u :: us, .cons r t, f => fun u' hu => by
    rw [List.all_cons, Bool.and_eq_true] at f
    rcases List.mem_cons.mp hu with rfl | hu
    · rw [Zjz r f.1]; exact eqAt_V r rx f.1 fx
    · exact Zau rx fx t f.2 u' hu
noncomputable def inV (x : V) (xs : List V) : Bool := xs.any fun y => eqV y x
noncomputable def rIn (K : PySem.W.Frag) (neg : Bool) : R2 := fun x y H Q => ∃ p xs, y = .ref p ∧ (SqL K H p xs ∨ SqT K H p xs) ∧ Zbp x = true ∧ xs.all Zbp = true ∧ Q (.bl (if neg then !inV x xs else inV x xs)) H
theorem ZdF : OpR X (compareOp .In) (rIn X.K false) := by
  intro pins s σ H x y v u Q I rx ry h
  obtain ⟨p, xs, rfl, hq, fx, fs, q⟩ := h
  cases ry
  rcases hq with hq | hq
  · obtain ⟨its, r, pl, hz⟩ := I.list hq
    refine SeqAt.in_listAt (eqU x) pl.isList (fun w hw => Zau rx fx r fs w (by simpa using hw)) ⟨.bl _, H, I, rfl, ?_⟩
    rw [show its.toArray.any (eqU x) = its.any (eqU x) by simp, Zb7 r fs]
    exact q
  · obtain ⟨its, r, pl, hz⟩ := I.tuple hq
    refine SeqAt.in_tupleAt (eqU x) pl (fun w hw => Zau rx fx r fs w (by simpa using hw)) ⟨.bl _, H, I, rfl, ?_⟩
    rw [show its.toArray.any (eqU x) = its.any (eqU x) by simp, Zb7 r fs]
    exact q
theorem Zbd : OpR X (compareOp .NotIn) (rIn X.K true) := by
  intro pins s σ H x y v u Q I rx ry h
  obtain ⟨p, xs, rfl, hq, fx, fs, q⟩ := h
  cases ry
  rcases hq with hq | hq
  · obtain ⟨its, r, pl, hz⟩ := I.list hq
    refine SeqAt.notIn_listAt (eqU x) pl.isList (fun w hw => Zau rx fx r fs w (by simpa using hw)) ⟨.bl _, H, I, rfl, ?_⟩
    rw [show its.toArray.any (eqU x) = its.any (eqU x) by simp, Zb7 r fs]
    exact q
  · obtain ⟨its, r, pl, hz⟩ := I.tuple hq
    refine SeqAt.notIn_tupleAt (eqU x) pl (fun w hw => Zau rx fx r fs w (by simpa using hw)) ⟨.bl _, H, I, rfl, ?_⟩
    rw [show its.toArray.any (eqU x) = its.any (eqU x) by simp, Zb7 r fs]
    exact q
theorem Zbj : Xg X (.type "list") (fun xs H Q => ∃ p ys, xs = [.ref p] ∧ (SqL X.K H p ys ∨ SqT X.K H p ys) ∧ ∀ l, H l = none → Q (.ref l) (upd H l (.lst ys))) := by
  intro pins s σ H xs us Q I r h
  obtain ⟨p, ys, rfl, hq, q⟩ := h
  obtain ⟨u, rfl, rx⟩ := vals1 r
  cases rx
  have fin : ∀ (its : List Value), Vals ys its → ys.length ≤ sizeLine → ∀ (h' : Heap) (c' : Nat), (∀ b o', s.heap.get? b = some o' → h'.get? b = some o') →
      h'.get? s.heap.objs.size = some { cls := .type "list", dict := none, data := .seq its.toArray c', slots := #[] } → EP X pins σ Q (.ref s.heap.objs.size) { s with heap := h' } := fun its r' hz h' c' kp e =>
    ⟨.ref s.heap.objs.size, _, I.laid (t' := s.toks) kp (Nat.le_refl _) (show JW X.prog X.w _ h' _ (.lst ys) from ⟨hz, its, c', r', e⟩), rfl, q _ (I.hok.fresh (Nat.le_refl _))⟩
  rcases hq with hq | hq
  · obtain ⟨its, r', pl, hz⟩ := I.list hq
    have hlen := r'.length
    obtain ⟨o, ho, hc, n, hd⟩ := pl.isList
    exact call_list_seq p (.inl rfl) ho hc hd (fun h' c' kp e => fin its r' hz h' c' kp e) (by simp only [List.size_toArray] <;> omega)
  · obtain ⟨its, r', pl, hz⟩ := I.tuple hq
    have hlen := r'.length
    obtain ⟨o, ho, hc, n, hd⟩ := pl
    exact call_list_seq p (.inr rfl) ho hc hd (fun h' c' kp e => fin its r' hz h' c' kp e) (by simp only [List.size_toArray] <;> omega)
theorem ZaG : Xg X (.type "tuple") (fun xs H Q => ∃ p ys, xs = [.ref p] ∧ ((SqL X.K H p ys ∧ ∀ l, H l = none → Q (.ref l) (upd H l (.tup ys))) ∨ (SqT X.K H p ys ∧ Q (.ref p) H))) := by
  intro pins s σ H xs us Q I r h
  obtain ⟨p, ys, rfl, h⟩ := h
  obtain ⟨u, rfl, rx⟩ := vals1 r
  cases rx
  rcases h with ⟨hq, q⟩ | ⟨hq, q⟩
  · obtain ⟨its, r', pl, hz⟩ := I.list hq
    have hlen := r'.length
    refine call_tuple_list pl.isList (fun h' kp => ?_) (by simp only [List.size_toArray] <;> omega)
    have I1 : Inv X pins σ H { s with heap := h' } := I.kept (t' := s.toks) kp
    have I2 : Inv X pins σ (upd H h'.objs.size (.tup ys)) { s with heap := h'.push { cls := .type "tuple", data := .seq its.toArray } } :=
      I1.laid (t' := s.toks) (fun b o e => Heap.get?_push_of_some _ e) (Nat.le_refl _) (show JW X.prog X.w _ _ _ (.tup ys) from ⟨hz, its, r', TupP.new _ _⟩)
    exact ⟨.ref h'.objs.size, _, I2, rfl, q _ (I1.hok.fresh (Nat.le_refl _))⟩
  · obtain ⟨its, r', pl, hz⟩ := I.tuple hq
    exact call_tuple_same pl ⟨.ref p, H, I, rfl, q⟩
noncomputable def tyV (K : PySem.W.Frag) (T : String) (x : V) (H : Hp) : Prop := match x with
  | .str _ => T = "str"
  | .int _ => T = "int"
  | .ref p => (T = "list" ∧ ∃ xs, SqL K H p xs) ∨ (T = "tuple" ∧ ∃ o, K.lookup p = some o ∧ o.cls = .type "tuple" ∧ o.dict = none) ∨
      (T = "dict" ∧ ((∃ kvs, H p = some (.dK kvs)) ∨ ∃ kvs, H p = some (.dT kvs))) ∨ (T = "set" ∧ ∃ S n, H p = some (.set S n))
  | _ => False
theorem tyV_is {pins : List (Addr × Obj)} {σ : St} {H : Hp} {s : Shared} {T : String} {x : V} {v : Value} (I : Inv X pins σ H s) (r : RelV x v) (ty : tyV X.K T x H) :
    s.TypeIs v T ∧ ∀ a, v = .ref a → ∃ ob, s.heap.get? a = some ob ∧ ob.dict = none := by
  cases x with
  | str z =>
    obtain ⟨t, rfl⟩ := r
    cases (show T = "str" from ty)
    exact ⟨typeIs_str s z t, fun _ e => nomatch e⟩
  | int i =>
    obtain ⟨t, rfl⟩ := r
    cases (show T = "int" from ty)
    exact ⟨typeIs_int s i t, fun _ e => nomatch e⟩
  | ref p =>
    cases r
    rcases ty with ⟨rfl, xs, hq⟩ | ⟨rfl, o, hk, hc, hd⟩ | ⟨rfl, hk⟩ | ⟨rfl, S, n, hk⟩
    · obtain ⟨its, _, pl, _⟩ := I.list hq
      refine ⟨pl.isList.typeIs, fun a e => ?_⟩
      cases e
      obtain ⟨o, n, e, c, hd, _⟩ := pl
      exact ⟨o, e, hd⟩
    · refine ⟨⟨o, I.kIn p o hk, hc⟩, fun a e => ?_⟩
      cases e
      exact ⟨o, I.kIn _ o hk, hd⟩
    · have z : ∃ o, s.heap.get? p = some o ∧ o.ExactDict := by
        rcases hk with ⟨kvs, hk⟩ | ⟨kvs, hk⟩
        · obtain ⟨_, _, _, _, o, _, _, e, ex, _⟩ := I.hok p _ hk
          exact ⟨o, e, ex⟩
        · obtain ⟨_, _, _, _, o, _, _, e, ex, _⟩ := I.hok p _ hk
          exact ⟨o, e, ex⟩
      obtain ⟨o, e, ex⟩ := z
      refine ⟨⟨o, e, ex.1⟩, fun a e2 => ?_⟩
      cases e2
      exact ⟨o, e, ex.2.1⟩
    · obtain ⟨o, _, _, _, e, ex, _⟩ := I.hok p _ hk
      refine ⟨⟨o, e, ex.1⟩, fun a e2 => ?_⟩
      cases e2
      exact ⟨o, e, ex.2.1⟩
  | _ => exact False.elim ty
noncomputable def tBM (K : PySem.W.Frag) (T : String) (r : V → List V → Hp → VK → Prop) (to : TE) (t : TA) : TE := fun σ H Q => to σ H fun x H1 => tyV K T x H1 ∧ t σ H1 fun xs H2 => r x xs H2 Q
variable {o e : Expr} {es : List Expr} {to : TE} {t : TA} {name : Str} {apos cpos : Pos} {T id : String} {r : V → List V → Hp → VK → Prop}
theorem pe_bm (pa : PlainAttrs T) (slot : Slot T name id) (hty : typeOf (.builtin id) = pure (.type "method_descriptor")) (hm : MtR X id r) (ho : PE X o to) (ha : PA X (e :: es) t)
    (hbase : attributeBase o name X.env (eval o X.env) = eval o X.env := by rfl)
    (hfew : ((backTo cpos (starEach (e :: es) X.env)).all (fun x => !x.1) && (backToKw cpos (keywordEach [] X.env)).all (fun x => x.1.isSome)
      && decide ((e :: es).length + ([] : List Keyword).length + (if ([] : List Keyword).isEmpty then 0 else 1) < 30)) = true := by rfl)
    (hline : (apos.endLine == cpos.line) = true := by rfl) (hs : starEach (e :: es) X.env = (false, eval e X.env) :: starEach es X.env := by rfl) (hplain : (backTo cpos (starEach es X.env)).any (·.1) = false := by rfl) :
    PE X (.Call (.Attribute o name apos) (e :: es) [] cpos) (tBM X.K T r to t) := by
  intro pins s σ H Q I h
  refine wpAny_Call_method_late hbase hfew hline rfl (thn (ho pins s σ H _ I h) fun v s1 ⟨x, H1, I1, r1, ty, q1⟩ => ?_)
  obtain ⟨h1, h2⟩ := tyV_is I1 r1 ty
  refine ⟨T, id, pa, slot, hty, h1, h2, ?_⟩
  have hA := ha cpos pins s1 σ H1 _ I1 q1
  rw [hs] at hA ⊢
  refine Calls.callWith_builtin (by show (false || (backTo cpos (starEach es X.env)).any (·.1)) = false; rw [hplain] <;> rfl) (Calls.evalArgs_plain ?_)
  exact thn hA fun us s2 ⟨vs, H2, I2, r2, q2⟩ => hm pins s2 σ H2 x vs v us Q I2 r1 r2 q2
end
end L2
namespace L2
open PySem PySem.Spec PyProof.Rows
noncomputable def MtM (X : Cx) (id : String) (r : V → List V → Hp → VK → Prop) : Prop :=
  ∀ (pins : List (Addr × Obj)) (s : Shared) (σ : St) (H : Hp) (x : V) (xs : List V) (v : Value) (us : List Value) (Q : VK), Inv X pins σ H s → RelV x v → Vals xs us → r x xs H Q →
    wpAny (model X.prog X.w) X.A (call (.builtin id) (v :: us)) (EP X pins σ Q) X.xe s
theorem Vals.one : ∀ {x : V} {us : List Value}, Vals [x] us → ∃ u, us = [u] ∧ RelV x u
  | _, _, .cons r .nil => ⟨_, rfl, r⟩
theorem Vals.rep {xs : List V} {us : List Value} (h : Vals xs us) : ∀ k : Nat, Vals (List.replicate k xs).flatten (List.replicate k us).flatten
  | 0 => .nil
  | k + 1 => by
    rw [List.replicate_succ, List.replicate_succ, List.flatten_cons, List.flatten_cons]
    exact Vals.append h (Vals.rep h k)
theorem foldl_rep (its : List Value) : ∀ (k : Nat) (acc : List Value),
    List.foldl (fun x1 x2 => x1 ++ x2) acc.toArray (List.replicate k its.toArray) = (acc ++ (List.replicate k its).flatten).toArray
  | 0, acc => by simp
  | k + 1, acc => by
    have e : acc.toArray ++ its.toArray = (acc ++ its).toArray := by simp
    have e2 : (acc ++ its) ++ (List.replicate k its).flatten = acc ++ (List.replicate (k + 1) its).flatten := by
      rw [List.replicate_succ, List.flatten_cons, List.append_assoc]
    rw [← e2, ← foldl_rep its k (acc ++ its), ← e, List.replicate_succ, List.foldl_cons]
section
variable {X : Cx} {pins : List (Addr × Obj)} {σ : St} {H : Hp} {s : Shared} {l b : Addr} {xs ys zs : List V}
theorem Inv.lset {its its' : List Value} {n : Nat} {f : Array Value → Array Value} {t' : Nat} (I : Inv X pins σ H s) (hH : H l = some (.lst xs))
    (e : s.heap.get? l = some { cls := .type "list", data := .seq its.toArray n }) (hf : f its.toArray = its'.toArray) (hv : Vals ys its') (hz : ys.length ≤ sizeLine) :
    Inv X pins σ (upd H l (.lst ys)) { s with heap := s.heap.update l (Obj.mapSeq f), toks := t' } := by
  have q := PySem.IsL.update e f
  rw [hf] at q
  refine I.write (x := l) (e := l) (by rw [hH]; exact trivial) (.inl rfl) (fun b' u hb hu => (Heap.get?_update_other s.heap (Obj.mapSeq f) (Ne.symm hb)).trans hu) ⟨_, q⟩ ?_
  exact ⟨hz, its', _, hv, q⟩
theorem Inv.lnew {its : List Value} {t' : Nat} (I : Inv X pins σ H s) (hv : Vals ys its) (hz : ys.length ≤ sizeLine) :
    Inv X pins σ (upd H s.heap.objs.size (.lst ys)) { s with heap := s.heap.push { cls := .type "list", data := .seq its.toArray }, toks := t' } :=
  I.laid (fun _ _ q => Heap.get?_push_of_some _ q) (Nat.le_refl _) ⟨hz, its, 0, hv, Heap.get?_push_size _ rfl⟩
theorem Inv.fresh (I : Inv X pins σ H s) : H s.heap.objs.size = none := I.hok.fresh (Nat.le_refl _)
theorem Inv.lstM (I : Inv X pins σ H s) (hH : H l = some (.lst xs)) : xs.length ≤ sizeLine ∧ ∃ (its : List Value) (n : Nat), Vals xs its ∧ xs.length = its.length ∧ s.heap.get? l = some { cls := .type "list", data := .seq its.toArray n } := by
  obtain ⟨z, its, n, r, e⟩ := I.hok l _ hH
  exact ⟨z, its, n, r, r.length, e⟩
theorem ZiJ {n : Nat} (h : n ≤ sizeLine) : Builtin.List.listTooLong n = false := by
  unfold Builtin.List.listTooLong
  exact decide_eq_false (by omega)
end
section
variable {X : Cx}
noncomputable def ZjP : V → List V → Hp → VK → Prop := fun x vs H Q => ∃ l xs y, x = .ref l ∧ vs = [y] ∧ H l = some (.lst xs) ∧ xs.length < sizeLine ∧ Q .non (upd H l (.lst (xs ++ [y])))
theorem Zhe : MtM X "list.append" ZjP := by
  intro pins s σ H x vs v us Q I rx rv h
  obtain ⟨l, xs, y, rfl, rfl, hH, hz, q⟩ := h
  cases rx
  obtain ⟨u, rfl, ru⟩ := rv.one
  obtain ⟨z, its, n, r, hl, e⟩ := I.lstM hH
  refine call_meets F.slot_list_append ⟨_, e, rfl⟩ F.entry_list_append (F.args_list_append_2 _ _) (PySem.list_append l its.toArray n u (by rw [List.size_toArray]; omega)) ⟨e, ?_⟩
  refine ⟨.non, _, I.lset (its' := its ++ [u]) hH e (by simp) (r.append (.cons ru .nil)) ?_, rfl, q⟩
  rw [List.length_append, List.length_singleton]
  omega
noncomputable def rCat : R2 := fun x y H Q => ∃ l b xs zs, x = .ref l ∧ y = .ref b ∧ H l = some (.lst xs) ∧ H b = some (.lst zs) ∧ xs.length + zs.length ≤ sizeLine ∧ ∀ p, H p = none → Q (.ref p) (upd H p (.lst (xs ++ zs)))
theorem op_cat : OpR X (binaryOp .Add) rCat := by
  intro pins s σ H x y v u Q I rx ry h
  obtain ⟨l, b, xs, zs, rfl, rfl, hH, hB, hz, q⟩ := h
  cases rx
  cases ry
  obtain ⟨z, its, n, r, hl, e⟩ := I.lstM hH
  obtain ⟨z2, its2, n2, r2, hl2, e2⟩ := I.lstM hB
  refine PySem.P.add_list e e2 ?_ (by rw [List.size_toArray, List.size_toArray]; omega)
  have ea : its.toArray ++ its2.toArray = (its ++ its2).toArray := by simp
  rw [ea]
  exact ⟨.ref _, _, I.lnew (t' := s.toks) (r.append r2) (by rw [List.length_append]; omega), rfl, q _ I.fresh⟩
noncomputable def rRep : R2 := fun x y H Q => ∃ l k xs, x = .ref l ∧ y = .int k ∧ H l = some (.lst xs) ∧ -(2 ^ 63) ≤ k ∧ k < 2 ^ 63 ∧ xs.length * k.toNat ≤ sizeLine ∧
  ∀ p, H p = none → Q (.ref p) (upd H p (.lst (List.replicate k.toNat xs).flatten))
theorem len_rep {α : Type} (xs : List α) (k : Nat) : (List.replicate k xs).flatten.length = k * xs.length := by
  induction k with
  | zero => simp
  | succ k ih => rw [List.replicate_succ, List.flatten_cons, List.length_append, ih, Nat.succ_mul, Nat.add_comm]
theorem op_rep : OpR X (binaryOp .Mult) rRep := by
  intro pins s σ H x y v u Q I rx ry h
  obtain ⟨l, k, xs, rfl, rfl, hH, h1, h2, hz, q⟩ := h
  cases rx
  obtain ⟨t, rfl⟩ := ry
  obtain ⟨z, its, n, r, hl, e⟩ := I.lstM hH
  have hlen : its.toArray.size * k.toNat ≤ sizeLine := by rw [List.size_toArray, ← hl]; exact hz
  have hcap : ¬ its.toArray.size * k.toNat > (2 ^ 63 - 1) / 8 := by
    have : (sizeLine : Nat) ≤ (2 ^ 63 - 1) / 8 := by decide
    omega
  have hfit : ¬ (!Builtin.List.listFitsIndex k) = true := by
    rw [fitsIndex_both h1 h2]
    exact Bool.false_ne_true
  have hlong : ¬ Builtin.List.listTooLong (its.toArray.size * k.toNat) = true := by
    rw [ZiJ hlen]
    exact Bool.false_ne_true
  have hnew : List.foldl (fun x1 x2 => x1 ++ x2) #[] (List.replicate (if its.toArray.isEmpty = true then 0 else k.toNat) its.toArray) = (List.replicate k.toNat its).flatten.toArray := by
    have f0 : ∀ m : Nat, List.foldl (fun x1 x2 => x1 ++ x2) #[] (List.replicate m its.toArray) = (List.replicate m its).flatten.toArray := fun m => by
      have := foldl_rep its m []
      rw [List.nil_append] at this
      exact this
    rw [f0]
    cases its with
    | nil => simp
    | cons a r' => rw [if_neg (by simp)]
  refine wpAny_binaryOp_repeat_ref (T := "list") (U := "int") (by decide) ⟨_, e, rfl⟩ (fun s' => typeIs_int s' k t) noFill_list_mul F.fills_int_mul F.slot_int_rmul repeat_list F.slot_int_index.lookup
    (call_meets F.slot_int_rmul (typeIs_int s k t) F.entry_int_rmul (F.args_int_rmul_2 _ _) (int___rmul___int_list k t l its.toArray n)
      ⟨e, rfl, ⟨_, e, rfl⟩, call_meets F.slot_list_mul ⟨_, e, rfl⟩ F.entry_list_mul (F.args_list_mul_2 _ _) (AutoListH.list___mul___list_int_3 l its.toArray n k t hfit hcap hlong) ⟨e, ?_⟩⟩)
  rw [hnew]
  exact ⟨.ref _, _, I.lnew (t' := s.toks) (r.rep k.toNat) (by rw [len_rep, Nat.mul_comm]; exact hz), rfl, q _ I.fresh⟩
end
section
variable {prog : Program} {w : World} {A : Around} {E : Value → Shared → Prop} {s : Shared}
set_option maxRecDepth 100000 in
end
section
variable {X : Cx}
end
end L2
namespace Att
open PySem PySem.W PySem.Calls PyProof.Rows
theorem ZbT {P : Params} {h : Heap} : ∀ (ns : List Int) (vs : List Value), WellAll P h vs (ns.map WData.int) → IntsAre vs ns := by
  intro ns
  induction ns with
  | nil =>
    intro vs w
    rw [List.map_nil] at w
    cases w
    exact .nil
  | cons n ns ih =>
    intro vs w
    rw [List.map_cons] at w
    cases w with
    | cons a b =>
      cases a
      exact .cons _ _ (ih _ b)
theorem Zgx {l : OpenLaw} {n : Nat} (hn : l.most = some n) {P : Params} {h : Heap} {args : List WData} {vals : List Value}
    (hpre : l.row.toRowW.claim.pre args = true) (hwl : WellAll P h vals args) :
    ∃ a vs ns, vals = [Value.ref a] ∧ args = [WData.list (ns.map WData.int)] ∧ h.get? a = some { cls := .type "list", data := .seq vs.toArray } ∧ IntsAre vs ns ∧ ns.length ≤ n := by
  have hsh : WShape.hasAll [] args [.list .int] = true := (pre_splitW hpre).1
  have hc : l.pre.holds [] { args := args } = true := (pre_splitW hpre).2
  obtain ⟨d, r, rfl, h1, h2⟩ := hasAllW_cons hsh
  obtain rfl := hasAllW_nil h2
  obtain ⟨xs, rfl, h3⟩ := hasW_list h1
  obtain ⟨ns, rfl⟩ := items_int h3
  have hlen : ns.length ≤ n := by
    unfold OpenLaw.pre at hc
    have h4 : (WTm.not (.lt (.lit (.int (n : Int))) (.len (.arg 0)))).holds [] { args := [.list (ns.map .int)] } = true := by
      have h4 := (holds_andW hc).1
      rw [hn] at h4
      exact h4
    have h5 := condW_of h4 (w_not (w_lt w_lit (w_len_list (w_arg rfl))))
    rw [List.length_map] at h5
    refine Nat.le_of_not_lt fun q => ?_
    have q' : (n : Int) < ((ns.length : Nat) : Int) := by omega
    first
      | (rw [decide_eq_true q'] at h5; exact absurd h5 (by decide))
      | (simp at h5; omega)
  cases hwl with
  | cons w1 w2 =>
    cases w2
    cases w1 with
    | list ho hall => exact ⟨_, _, ns, rfl, rfl, ho, ZbT ns _ hall, hlen⟩
theorem ZgN (l : OpenLaw) (args : List WData) : l.row.toRowW.claim.post args (.bool true) args = true :=
  postW_of (r := l.row.toRowW) (X := (true == true))
    (show WShape.has [] (.bool true) .bool = true by first | rfl | decide | simp [WShape.has, WShape.arms, WShape.armsAll])
    (show (WTm.eq .res (.lit (.bool true))).value [] { args := args, res := some (.bool true), after := args } = some (.bool (true == true)) from w_eq_bool (w_res rfl) w_lit) rfl
theorem attach_call {l : OpenLaw} {n : Nat} {q : Program} {loose : List Str} {XP : (Str → Option Value) → Heap → Prop} {YP : World → Heap → Prop} {d : DefRec}
    (hn : l.most = some n) (hdf : d.params.defaults = [])
    (call : ∀ (w : World) (s₀ s₁ : Shared) (mg mb : Str → Option Value) (fa : Addr) (o : Obj) (pm cd doc : Value) (a : Addr) (vs : List Value) (ns : List Int),
      Ground q loose [] XP w s₀ mg mb s₁.heap → YP w s₁.heap →
      s₁.heap.get? fa = some o → o.data = .func (docDef d.name d.params d.body d.scope pm cd doc) → s₁.heap.CodeRec cd d.name → mg d.name = some (.ref fa) →
      s₁.heap.get? a = some { cls := .type "list", data := .seq vs.toArray } → IntsAre vs ns → ns.length ≤ n → s₁.gens = #[] →
      codeAny (model l.prog w) callerA (.call (.ref fa) ⟨[.ref a], []⟩) (fun r s' => r = .ok (.ret (.bool true)) ∧ OldK s₁.heap s'.heap ∧ s'.os = s₁.os ∧ AllBare s'.gens) s₁) :
    WalkO q loose XP YP l.row.toRowW d [] (fun f vs => PySem.call f vs) := by
  intro w s₀ s₁ mg mb G Y fa o pm cd doc dV kV ho hd hcd hD hmg hg args vals as hpre hlay hrd hwl hlo
  obtain rfl : dV = .none := Dflts.none hD hdf
  obtain rfl : kV = .none := Dflts.noKw hD
  obtain ⟨a, vs, ns, rfl, rfl, hobj, hints, hlen⟩ := Zgx hn hpre hwl
  refine enter_call (codeAny_mono (call w s₀ s₁ mg mb fa o pm cd doc a vs ns G Y ho (fd_plain hd) hcd hmg hobj hints hlen hg) fun r s' hq => ?_)
  obtain ⟨rfl, h2, h3, h4⟩ := hq
  exact ⟨.inl ⟨.bool true, .bool true, [], rfl, fun _ => rfl, .bool true, ZgN l _, fun _ => ⟨List.Pairwise.nil, fun _ hm => (nomatch hm)⟩⟩, h2, h3, h4⟩
section
variable {prog : Program} {w : World} {A : Around} {E : Value → Shared → Prop} {s : Shared} {K : Frag}
end
end Att
namespace L2
open PySem PySem.Spec PyProof.Rows
theorem Zdq : ∀ {vs : List Value} {ns : List Int}, IntsAre vs ns → Vals (ns.map V.int) vs
  | _, _, .nil => .nil
  | _, _, .cons n t h => .cons ⟨t, rfl⟩ (Zdq h)
noncomputable def Only (H : Hp) : Prop := ∀ b, H b = none ∨ ∃ o xs, H b = some (.frz o (.lst xs))
theorem law_call {P : Program} {w : World} {K : PySem.W.Frag} {mg mb : Str → Option Value} {CX : CXT} {k : Nat} {fa a : Addr} {fd : FuncData} {x : Str} {sp : Sp} {s₁ : Shared} {vs : List Value} {ns : List Int}
    (KX : K.In s₁.heap) (hns : s₁.heap.Ns mainGlobals mg) (hb : s₁.heap.Ns builtinsNs mb) (hbb : ∀ x : Str, x ≠ "__name__" → mb x = bootBuiltins x) (hlim : s₁.heap.NoLimit) (hg : s₁.gens = #[])
    (ha : s₁.heap.get? a = some { cls := .type "list", data := .seq vs.toArray }) (hi : IntsAre vs ns) (hl : ns.length ≤ sizeLine) (hr : Room k callerA)
    (F : ∀ base : Heap, K.In base → base.Ns mainGlobals mg → FnOk P w K mg base CX k fa fd [x] sp) (hbind : ∀ (s : Shared) (u : Value), BindsTo s fd ⟨[u], []⟩ [(x, u)])
    (hsp : ∀ H : Hp, Only H → SqL K H a (ns.map V.int) → sp [.ref a] H (fun v _ => v = .bl true) fun _ _ _ => False)
    (hCX : ∀ H e s', CX [] H s₁ (fun _ _ _ => False) e s' → False) :
    codeAny (model P w) callerA (.call (.ref fa) ⟨[.ref a], []⟩) (fun r s' => r = .ok (.ret (.bool true)) ∧ OldK s₁.heap s'.heap ∧ s'.os = s₁.os ∧ AllBare s'.gens) s₁ := by
  have rv := Zdq hi
  have lenV := hi.length
  -- from an abstract heap in which nothing but the script may be tracked
  have core : ∀ H : Hp, Only H → SqL K H a (ns.map V.int) → HOk P w H s₁.heap → (∀ b, H b ≠ none → b = a) → (H a ≠ none → K.lookup a = none) →
      codeAny (model P w) callerA (.call (.ref fa) ⟨[.ref a], []⟩) (fun r s' => r = .ok (.ret (.bool true)) ∧ OldK s₁.heap s'.heap ∧ s'.os = s₁.os ∧ AllBare s'.gens) s₁ := by
    intro H hO hS hok hA hK
    have base_of : ∀ {b : Addr} {o : Obj}, s₁.heap.get? b = some o → H b = none → (hidT s₁.heap H).get? b = some o := fun e n => ZiW e n
    have noA : ∀ {b : Addr} {o : Obj} {es : Array DictEntry} {ep : Nat}, s₁.heap.get? b = some o → o.data = .dict es ep → H b = none := fun {b o es ep} e d => by
      cases q : H b with
      | none => rfl
      | some u =>
        have e' : b = a := hA b (by rw [q]; simp)
        subst e'
        rw [ha] at e; cases e
        have d' : Data.seq vs.toArray _ = Data.dict es ep := d
        cases d'
    have nsK : ∀ {b : Addr} {m : Str → Option Value}, s₁.heap.Ns b m → (hidT s₁.heap H).Ns b m := fun {b m} ⟨o, es, ep, e, d, r⟩ => ⟨o, es, ep, base_of e (noA e d), d, r⟩
    have hKb : K.In (hidT s₁.heap H) := fun b o e => base_of (KX b o e) (by
      cases q : H b with
      | none => rfl
      | some u =>
        have e' : b = a := hA b (by rw [q]; simp)
        subst e'
        rw [hK (by rw [q]; simp)] at e; cases e)
    have hM : Mod K mg (hidT s₁.heap H) := ⟨hKb, nsK hns, ⟨mb, nsK hb, hbb⟩, let ⟨mc, h1, h2⟩ := hlim; ⟨mc, nsK h1, h2⟩⟩
    have e0 : Env0 P w K mg (hidT s₁.heap H) callerA [] s₁ H := ⟨rfl, hM, fun b o e => Zkf e, Nat.le_of_eq (Zhs _ _), trivial, fun b hb => absurd (show b ∈ ([] : List Addr) from hb) (by simp), hok, .of_eq hg⟩
    refine codeAny_mono ((F _ hKb (nsK hns)).run callerA [] s₁ H ⟨[.ref a], []⟩ [.ref a] [.ref a] _ _ hr e0 (hbind s₁ (.ref a)) (.cons rfl .nil) (hsp H hO hS)) fun r s' h => ?_
    cases r with
    | error e => exact (hCX H e s' h).elim
    | ok fl =>
      cases fl with
      | next => exact False.elim h
      | brk => exact False.elim h
      | cont => exact False.elim h
      | ret u =>
        obtain ⟨v, H', os, bare, un, hok', r', q⟩ := h
        have q' : v = .bl true := q
        subst q'
        obtain rfl : u = Value.bool true := r'
        refine ⟨rfl, OldK.of_keep fun b o e => ?_, os, bare⟩
        cases q : H b with
        | none => exact un.keep b o e q (by intro z; exact absurd (show b ∈ ([] : List Addr) from z) (by simp)) (by simp)
        | some u =>
          rcases hO b with z | ⟨ob, xs, z⟩
          · rw [q] at z; cases z
          · have z2 := un.frzs b ob _ z
            obtain ⟨e1, _⟩ := hok b _ z
            obtain ⟨e2, _⟩ := hok' b _ z2
            rw [e] at e1; cases e1
            exact e2
  cases hk : K.lookup a with
  | some o =>
    -- the script is one of the module's own objects
    have e := KX a o hk
    rw [ha] at e
    cases e
    refine core (fun _ => none) (fun _ => .inl rfl) (.inr ⟨_, vs.toArray, _, hk, rfl, rfl, rfl, by rw [List.size_toArray, lenV]; exact hl, by simpa using rv⟩) (fun b u z => by have z' : (none : Option HO) = some u := z; cases z') (fun b z => absurd rfl z) fun z => absurd rfl z
  | none =>
    refine core (fun b => if b = a then some (.frz { cls := .type "list", data := .seq vs.toArray } (.lst (ns.map V.int))) else none) (fun b => ?_) (.inl (.inr ⟨{ cls := .type "list", data := .seq vs.toArray }, if_pos rfl⟩)) (fun b u z => ?_) (fun b z => ?_) fun _ => hk
    · by_cases hb : b = a
      · exact .inr ⟨_, _, if_pos hb⟩
      · exact .inl (if_neg hb)
    · by_cases hb : b = a
      · have z' := (if_pos hb).symm.trans z
        cases z'
        subst hb
        exact ⟨ha, by rw [List.length_map]; exact hl, vs, _, rv, ha⟩
      · have z' := (if_neg hb).symm.trans z
        cases z'
    · by_cases hb : b = a
      · exact hb
      · exact absurd (if_neg hb) z
end L2
namespace L2
open PySem PySem.Spec PyProof.Rows
theorem walk_of {l : PySem.W.OpenLaw} {n k : Nat} {q : Program} {loose : List Str} {XP : (Str → Option Value) → Heap → Prop} {YP : World → Heap → Prop} {d : DefRec} {K : Params → PySem.W.Frag} {CX : World → CXT} {sp : World → Sp} {x : Str}
    (hn : l.most = some n) (hn2 : n ≤ sizeLine) (hdf : d.params.defaults = []) (hr : Room k callerA)
    (hY : ∀ (w : World) (h : Heap), YP w h → (K w.params).In h)
    (F : ∀ (w : World) (mg : Str → Option Value) (fa : Addr) (h : Heap), (K w.params).In h → h.Ns mainGlobals mg → mg d.name = some (.ref fa) →
      ∃ fd : FuncData, (∀ (s : Shared) (u : Value), BindsTo s fd ⟨[u], []⟩ [(x, u)]) ∧
        ∀ base : Heap, (K w.params).In base → base.Ns mainGlobals mg → FnOk l.prog w (K w.params) mg base (CX w) k fa fd [x] (sp w))
    (hsp : ∀ (w : World) (H : Hp) (a : Addr) (ns : List Int), ns.length ≤ n → Only H → SqL (K w.params) H a (ns.map V.int) → sp w [.ref a] H (fun v _ => v = .bl true) fun _ _ _ => False)
    (hCX : ∀ (w : World) (H : Hp) (s : Shared) (e : Value) (s' : Shared), CX w [] H s (fun _ _ _ => False) e s' → False) :
    PySem.W.WalkO q loose XP YP l.row.toRowW d [] (fun f vs => PySem.call f vs) := by
  refine Att.attach_call hn hdf fun w s₀ s₁ mg mb fa o pm cd doc a vs ns G Y ho hd hcd hmg hobj hints hlen hg => ?_
  have KX := hY w _ Y
  obtain ⟨fd, hb, hF⟩ := F w mg fa _ KX G.T.g hmg
  exact law_call KX G.T.g G.T.b G.T.builtins G.T.nolimit hg hobj hints (Nat.le_trans hlen hn2) hr hF hb (fun H hO hS => hsp w H a ns hlen hO hS) fun H e s' => hCX w H s₁ e s'
end L2
namespace L2
open PySem PySem.Spec PyProof.Rows
noncomputable def ZG (s : Stmt) : Arguments := match s with
  | .FunctionDef _ a _ _ _ _ _ _ _ _ => a
  | _ => { posonlyargs := [], args := [], vararg := none, kwonlyargs := [], kw_defaults := [], kwarg := none, defaults := [] }
noncomputable def Zj (s : Stmt) : List Stmt := match s with
  | .FunctionDef _ _ b _ _ _ _ _ _ _ => b
  | _ => []
noncomputable def Zd (s : Stmt) : Scope := match s with
  | .FunctionDef _ _ _ _ _ _ sc _ _ _ => sc
  | _ => { kind := .function, names := [], isGenerator := false, isCoroutine := false }
noncomputable abbrev CX0 : CXT := fun _ _ _ _ _ _ => False
noncomputable abbrev E0 : XK := fun _ _ _ => False
theorem pass0 {X : Cx} : Zh2 CX0 X E0 := fun _ _ _ _ _ _ _ h => h.elim
structure Fun (K : PySem.W.Frag) (x qual : Str) (st : Stmt) (f : Addr) (fd : FuncData) : Prop where
  ex : ∃ (oc : Value) (od : Option Addr) (kV doc pm : Value) (an : Option Addr) (cdv ct : Value) (osl : Array (Option Value)),
    fd = PySem.W.fnOf x qual (ZG st) (Zj st) (Zd st) .none kV doc pm an cdv ct ∧ K.lookup f = some ⟨oc, od, .func fd, osl⟩ ∧ PySem.W.codeIn K cdv qual = true
  kp : PySem.W.keepIn K (.ref f) = true
section
variable {P : Program} {w : World} {K : PySem.W.Frag} {mg : Str → Option Value} {base : Heap}
theorem Fun.ok {x qual : Str} {st : Stmt} {f : Addr} {fd : FuncData} {N ps : List Str} {k : Nat} {sp : Sp} (F : Fun K x qual st f fd) (S : FnScope N ps (Zd st)) (len : ∀ vs H Q E, sp vs H Q E → vs.length = ps.length)
    (hbody : ∀ (cdv : Value) (A : Around) (outer : List Env) (s : Shared) (H : Hp) (vs : List V) (Q : VK) (E : XK), Room k (A.deeper (envOfC qual (Zd st) s.heap.objs.size f cdv)) → sp vs H Q E →
      ∃ t, PSs (cxOf CX0 P w K mg base N qual (Zd st) f cdv A outer s H E).nox (Zj st) t ∧ t { nx := fun _ H' => Q .non H', rt := Q } (start N vs) H) : FnOk P w K mg base CX0 (k + 1) f fd ps sp := by
  obtain ⟨oc, od, kV, doc, pm, an, cdv, ct, osl, rfl, lk, hcd⟩ := F.ex
  refine fn_of lk hcd S len fun A outer s H vs Q E hr hsp => ?_
  obtain ⟨t, h, q⟩ := hbody cdv A outer s H vs Q E hr hsp
  exact ⟨t, h.nox, q⟩
theorem Fun.binds {x qual : Str} {st : Stmt} {f : Addr} {fd : FuncData} {ps : List Str} (F : Fun K x qual st f fd)
    (h : ∀ (kV doc pm : Value) (an : Option Addr) (cdv ct : Value) (us : List Value), us.length = ps.length → bindArgs (PySem.W.fnOf x qual (ZG st) (Zj st) (Zd st) .none kV doc pm an cdv ct) ⟨us, []⟩ = pure (ps.zip us)) : Binds K fd ps [] := by
  obtain ⟨oc, od, kV, doc, pm, an, cdv, ct, osl, rfl, lk, hcd⟩ := F.ex
  exact .all (h kV doc pm an cdv ct)
theorem Qc {x qual : Str} {st : Stmt} {f : Addr} {oc : Value} {od an : Option Addr} {osl : Array (Option Value)} {kV doc pm cdv ct : Value} (l : K.lookup f = some ⟨oc, od, .func (PySem.W.fnOf x qual (ZG st) (Zj st) (Zd st) .none kV doc pm an cdv ct), osl⟩)
    (c : PySem.W.codeIn K cdv qual = true) (k : PySem.W.keepIn K (.ref f) = true) : Fun K x qual st f (PySem.W.fnOf x qual (ZG st) (Zj st) (Zd st) .none kV doc pm an cdv ct) := ⟨⟨oc, od, kV, doc, pm, an, cdv, ct, osl, rfl, l, c⟩, k⟩
end
section
variable {X : Cx}
end
theorem iteF {A B : Prop} (h : B) : if false = true then A else B := by
  rw [if_neg Bool.false_ne_true]
  exact h
theorem iteT {A B : Prop} (h : A) : if true = true then A else B := by
  rw [if_pos rfl]
  exact h
noncomputable def Same (H H' : Hp) : Prop := ∀ b o, H b = some o → H' b = some o
end L2
end
section
namespace L2
open PySem PySem.Spec PyProof.Rows
section
variable {κ : Type} [DecidableEq κ]
noncomputable def valV (kvs : List (κ × V)) (k : κ) : Option V := (kvs.find? fun kv => decide (kv.1 = k)).map (·.2)
noncomputable def putK (kvs : List (κ × V)) (k : κ) (v : V) : List (κ × V) :=
  if (kvs.any fun kv => decide (kv.1 = k)) = true then kvs.map (fun kv => if kv.1 = k then (kv.1, v) else kv) else kvs ++ [(k, v)]
noncomputable def dropK (kvs : List (κ × V)) (k : κ) : List (κ × V) := kvs.filter fun kv => decide (kv.1 ≠ k)
end
noncomputable abbrev KT (H : Hp) : List (List Key × V) → List (List Key × Addr × Value) → Prop := Paired fun p q => p.1 = q.1 ∧ H q.2.1 = some (.tup (p.1.map kV)) ∧ RelV p.2 q.2.2
section
variable {P : Program} {w : World} {H : Hp} {h : Heap} {a : Addr}
end
noncomputable def DGet (H : Hp) (a : Addr) (y : V) (r : Option V) : Prop :=
  (∃ kvs k, Rd H a (.dK kvs) ∧ y = kV k ∧ r = valV kvs k) ∨ ∃ kvs k b, Rd H a (.dT kvs) ∧ y = .ref b ∧ H b = some (.tup (k.map kV)) ∧ r = valV kvs k
noncomputable def DPut (H : Hp) (a : Addr) (y v : V) (H' : Hp) : Prop :=
  (∃ kvs k, H a = some (.dK kvs) ∧ y = kV k ∧ kvs.length < sizeLine ∧ H' = upd H a (.dK (putK kvs k v))) ∨
  ∃ kvs k b, H a = some (.dT kvs) ∧ y = .ref b ∧ H b = some (.tup (k.map kV)) ∧ kvs.length < sizeLine ∧ H' = upd H a (.dT (putK kvs k v))
section
variable {X : Cx} {pins : List (Addr × Obj)} {σ : St} {H : Hp} {s : Shared} {a : Addr} {y v : V} {u r : Value} {o : Option V} {A : Around} {E : Value → Shared → Prop}
end
section
variable {X : Cx} {pins : List (Addr × Obj)} {σ : St} {H : Hp} {s : Shared} {a : Addr} {kvs : List (Key × V)} {k : Key} {u : Value} {A : Around} {E : Value → Shared → Prop}
end
section
variable {X : Cx} {o i e value : Expr} {pos pos' tpos : Pos} {td ty tv : TE}
end
section
variable {X : Cx} {pos : Pos}
end
end L2
end
section
namespace Mi
open PySem PySem.Spec PyProof.Rows L2
theorem ZcZ (t : SetTable) (n : Nat) : (t.orStandIn n).led = t.led := by unfold SetTable.orStandIn; split <;> rfl
theorem ZbO (t : SetTable) (n : Nat) (h : t.plain = false) : (t.orStandIn n).plain = false := by unfold SetTable.orStandIn; split <;> first | exact h | rfl
theorem ZfX (t : SetTable) (es : Array (Int × Value)) (h : Int) (x : Value) : (layNew t es h x).2.1.led = t.led := by
  unfold layNew
  split
  · exact ZcZ _ _
  · rfl
theorem ZdN (t : SetTable) (es : Array (Int × Value)) (h : Int) (x : Value) (hp : t.plain = false) : (layNew t es h x).2.1.plain = false := by
  unfold layNew
  split
  · exact ZbO _ _ hp
  · rfl
theorem Zcj {t t' : SetTable} {hs : Array Int} {n : Nat} {o : Array Nat} (h : t.relaid hs n = some (t', o)) : t'.led = t.led ∧ t'.plain = t.plain := by
  unfold SetTable.relaid SetTable.laid at h
  simp only [Option.bind_eq_bind] at h
  obtain ⟨w, _, h2⟩ := Option.bind_eq_some_iff.mp h
  cases h2
  exact ⟨rfl, rfl⟩
theorem Zdz (t : SetTable) (es : Array (Int × Value)) (n : Nat) : (relayAll t es n).2.1.led = t.led := by
  unfold relayAll
  split
  · rename_i t' o h
    dsimp only
    split
    · exact (Zcj h).1
    · rfl
  · rfl
theorem Zcb (t : SetTable) (es : Array (Int × Value)) (n : Nat) (hp : t.plain = false) : (relayAll t es n).2.1.plain = false := by
  unfold relayAll
  split
  · rename_i t' o h
    dsimp only
    split
    · exact (Zcj h).2.trans hp
    · rfl
  · rfl
structure SetE (prog : Program) (w : World) (led : Bool) (o : Obj) (D : List Str) (es : Array (Int × Value)) (ep : Nat) (t : SetTable) : Prop where
  ex : o.ExactSet
  data : o.data = .set es ep t
  el : ElemsOf (PySem.strKind prog w) es.toList
  txs : (es.toList.map fun e => strOf e.2).Perm D
  nd : D.Nodup
  room : es.size < scanBound
  fits : t.fits es.size = true
  led : t.led = led
  plain : es.size ≠ 0 → t.plain = false
noncomputable def SetS (prog : Program) (w : World) (led : Bool) (h : Heap) (a : Addr) (D : List Str) : Prop := ∃ o es ep t, h.get? a = some o ∧ SetE prog w led o D es ep t
theorem ZbS {x : Str} {v : Value} (h : Value.isStrOf x v = true) : strOf v = x := by
  obtain ⟨t, rfl⟩ := Value.isStrOf_shape h
  rfl
section
variable {prog : Program} {w : World} {A : Around} {E : Value → Shared → Prop} {s : Shared} {led : Bool}
theorem Zic {v : Value} (h : ∃ k, (PySem.strKind prog w).is k v = true) : Value.isStrOf (strOf v) v = true := by
  obtain ⟨k, hk⟩ := h
  have hk : Value.isStrOf k v = true := hk
  rw [ZbS hk]
  exact hk
theorem Ze1 {es : List (Int × Value)} (he : ElemsOf (PySem.strKind prog w) es) (k : Str) : (∃ e ∈ es, (PySem.strKind prog w).is k e.2 = true) ↔ k ∈ es.map fun e => strOf e.2 := by
  constructor
  · rintro ⟨e, he, hk⟩
    exact List.mem_map.mpr ⟨e, he, ZbS hk⟩
  · intro h
    obtain ⟨e, hm, rfl⟩ := List.mem_map.mp h
    obtain ⟨⟨k, hk, _⟩, _⟩ := he e hm
    exact ⟨e, hm, Zic ⟨k, hk⟩⟩
theorem add_str {a : Addr} {D : List Str} {x : Str} {tk : Tok} {Q : Bool → Shared → Prop} (hS : SetS prog w led s.heap a D) (hroom : D.length + 1 < scanBound)
    (h : ∀ h' b, Heap.SameBut a s.heap h' → SetS prog w led h' a (if x ∈ D then D else D ++ [x]) → Q b { s with heap := h' }) :
    wpAny (model prog w) A (setAddHashed a (.str x tk) (hashStr w x)) Q E s := by
  obtain ⟨o, es, ep, t, ho, hE⟩ := hS
  have hex := hE.ex
  have hd := hE.data
  have hel := hE.el
  have hf := hE.fits
  have hkey : (PySem.strKind prog w).is x (.str x tk) = true := by show Value.isStrOf x (.str x tk) = true; simp [Value.isStrOf]
  have hsc : (Value.str x tk).scannable = true := rfl
  have hlen : es.size = D.length := by rw [← hE.txs.length_eq, List.length_map, Array.length_toList]
  show wpAny (model prog w) A (setAddHashed a (.str x tk) ((PySem.strKind prog w).hash x)) Q E s
  unfold setAddHashed setAddHashedIn
  refine wpAny_holding (wpAny_bind (wpAny_setState_of ho hd hf ?_))
  dsimp only
  rw [byScan_of hsc hE.room hel]
  simp only [↓reduceIte]
  unfold setAddByScan
  refine wpAny_bind ?_
  refine wpAny_bind (wpAny_rule ?_)
  refine wpAny_bind (wpAny_setScan_of hkey ho hd hf hel ?_)
  cases hr : List.findIdx? (fun e => (PySem.strKind prog w).is x e.2) es.toList with
  | some j =>
    dsimp only
    obtain ⟨hj, hpj, _⟩ := List.findIdx?_eq_some_iff_getElem.mp hr
    have hm : x ∈ D := hE.txs.mem_iff.mp ((Ze1 hel x).mp ⟨_, List.getElem_mem hj, hpj⟩)
    refine wpAny_pure (wpAny_pure ?_)
    have := h s.heap false (Heap.SameBut.refl a s.heap) (by rw [if_pos hm]; exact ⟨o, es, ep, t, ho, hE⟩)
    exact this
  | none =>
    dsimp only
    have hm : x ∉ D := fun hx => by
      obtain ⟨e, he, hp⟩ := (Ze1 hel x).mpr (hE.txs.mem_iff.mpr hx)
      have := List.findIdx?_eq_none_iff.mp hr e he
      rw [hp] at this
      exact Bool.noConfusion this
    have hgw : ∀ (b : Bool) (s₁ : Shared) (Q' : Unit → Shared → Prop), Q' () s₁ → wpAny (model prog w) A (match b with | true => rule "set.scan.the-table-gave-way" | false => pure ()) Q' E s₁ :=
      fun b s₁ Q' hq => by cases b <;> first | exact wpAny_pure hq | exact wpAny_rule hq
    have hperm := layNew_perm t es ((PySem.strKind prog w).hash x) (.str x tk)
    have hfits := layNew_fits t es ((PySem.strKind prog w).hash x) (.str x tk)
    have hled := ZfX t es ((PySem.strKind prog w).hash x) (.str x tk)
    have hplain := ZdN t es ((PySem.strKind prog w).hash x) (.str x tk)
    generalize hL : layNew t es ((PySem.strKind prog w).hash x) (.str x tk) = L at hperm hfits hled hplain ⊢
    obtain ⟨es1, t1, wasDummy, gave⟩ := L
    dsimp only at hperm hfits hled hplain ⊢
    rw [Array.toList_push] at hperm
    have hel1 : ElemsOf (PySem.strKind prog w) es1.toList := (hel.push hkey hsc).perm hperm
    have hsz1 : es1.size = es.size + 1 := by rw [← Array.length_toList, hperm.length_eq, List.length_append, Array.length_toList]; rfl
    have hb1 : es1.size < scanBound := by omega
    have hst1 : (es1.toList.map fun e => strOf e.2).Perm (D ++ [x]) := by
      refine (hperm.map _).trans ?_
      rw [List.map_append]
      exact hE.txs.append_right _
    have hnd : (D ++ [x]).Nodup := by
      rw [List.nodup_append]
      refine ⟨hE.nd, by simp, fun y hy z hz => ?_⟩
      rw [List.mem_singleton.mp hz]
      exact fun e => hm (e ▸ hy)
    -- the end, at a table that is plain no more
    have fin : ∀ t2 : SetTable, t2.led = led → t2.plain = false → t2.fits es1.size = true → wpAny (model prog w) A (do
        storeSet a es1 t2
        if (!wasDummy && t2.tooFull) = true then do
            (match (relayAll t2 es1 (SetTable.grown es1.size)).2.2 with | true => rule "set.scan.the-table-gave-way" | false => pure ())
            storeSet a (relayAll t2 es1 (SetTable.grown es1.size)).1 (relayAll t2 es1 (SetTable.grown es1.size)).2.1
            pure (some true)
          else pure (some true)) (fun r s' => match r with
            | some b => Q b s'
            | none => False) E s := fun t2 hl2 hp2 hf2 => by
      have hg1 : (s.heap.update a (Obj.putSet es1 t2)).get? a = some { o with data := .set es1 (ep + 1) t2 } := by
        have := Heap.get?_update_self (Obj.putSet es1 t2) ho (by rw [putSet_of es1 t2 hd]; rfl)
        rw [putSet_of es1 t2 hd] at this
        exact this
      have hsb1 := Heap.SameBut.update s.heap a (Obj.putSet es1 t2)
      refine wpAny_bind (wpAny_storeSet_of ho hd ?_ (fits_of_scanBound hb1))
      split
      · have hp := relayAll_perm t2 es1 (SetTable.grown es1.size)
        have hfr := relayAll_fits t2 es1 (SetTable.grown es1.size)
        have hrl := Zdz t2 es1 (SetTable.grown es1.size)
        have hrp := Zcb t2 es1 (SetTable.grown es1.size) hp2
        generalize relayAll t2 es1 (SetTable.grown es1.size) = Rl at hp hfr hrl hrp ⊢
        obtain ⟨es2, t3, gave2⟩ := Rl
        dsimp only at hp hfr hrl hrp ⊢
        have hsz : es2.size = es1.size := by rw [← Array.length_toList, hp.length_eq, Array.length_toList]
        refine wpAny_bind (hgw _ _ _ ?_)
        refine wpAny_bind (wpAny_storeSet_of hg1 rfl ?_ (fits_of_scanBound (by omega)))
        have hg2 : ((s.heap.update a (Obj.putSet es1 t2)).update a (Obj.putSet es2 t3)).get? a = some { o with data := .set es2 (ep + 1 + 1) t3 } :=
          Heap.get?_update_self (Obj.putSet es2 t3) hg1 rfl
        refine wpAny_pure (h _ true (hsb1.trans (Heap.SameBut.update _ a _)) ?_)
        rw [if_neg hm]
        exact ⟨_, es2, _, t3, hg2, ⟨hex, rfl, hel1.perm hp, (hp.map _).trans hst1, hnd, by omega, hfr, hrl.trans hl2, fun _ => hrp⟩⟩
      · refine wpAny_pure (h _ true hsb1 ?_)
        rw [if_neg hm]
        exact ⟨_, es1, _, t2, hg1, ⟨hex, rfl, hel1, hst1, hnd, hb1, hf2, hl2, fun _ => hp2⟩⟩
    refine wpAny_bind (hgw _ _ _ ?_)
    have done : ∀ {r : Option Bool} {s' : Shared}, (match r with
        | some b => Q b s'
        | none => False) → wpAny (model prog w) A (match r with
          | some added => pure added
          | none => setAddHashedIn a (.str x tk) ((PySem.strKind prog w).hash x) 99999) Q E s' := fun {r s'} hr => by
      cases r with
      | none => exact hr.elim
      | some b => exact wpAny_pure hr
    split
    · refine wpAny_bind ?_
      rw [hashByValue_scannable 8 hsc]
      refine wpAny_pure ?_
      exact wpAny_mono (fin { t1 with plain := false } (hled.trans hE.led) rfl (SetTable.fits_plain_off hfits)) (fun r s' hr => done hr) fun _ _ e => e
    · rename_i hpl
      refine wpAny_bind (wpAny_pure ?_)
      simp only [↓reduceIte]
      exact wpAny_mono (fin t1 (hled.trans hE.led) (by simpa using hpl) hfits) (fun r s' hr => done hr) fun _ _ e => e
noncomputable def dd (val : Nat → Str) : Nat → List Str
  | 0 => []
  | i + 1 => if val i ∈ dd val i then dd val i else dd val i ++ [val i]
theorem Zfa (val : Nat → Str) : ∀ i, (dd val i).length ≤ i
  | 0 => Nat.le_refl _
  | i + 1 => by
    have := Zfa val i
    unfold dd
    split
    · omega
    · rw [List.length_append, List.length_singleton]; omega
noncomputable abbrev Q9 (w : World) : Bool := !w.params.followText "set-order"
theorem SetS.at' {h h' : Heap} {a : Addr} {D : List Str} (hS : SetS prog w led h a D) (k : ∀ o, h.get? a = some o → h'.get? a = some o) : SetS prog w led h' a D := by
  obtain ⟨o, es, ep, t, ho, hE⟩ := hS
  exact ⟨o, es, ep, t, k o ho, hE⟩
theorem Zah {I : Addr} {fp wr : List Addr} {G : Array GenState → Array GenState → Prop} {n : Nat} {P : Nat → Value → Prop} {St : Nat → Shared → Prop} {R : Result → Shared → Prop} (W : WalksS prog w A.in1 I fp wr G n P St) (S : Addr) (hSf : S ∉ fp)
    (val : Nat → Str) (hval : ∀ i v, P i v → ∃ t, v = .str (val i) t) (hb : n + 1 < scanBound) : ∀ (k i : Nat) (s : Shared), n - i = k → i ≤ n → St i s → SetS prog w led s.heap S (dd val i) →
      (∀ s', Moved (S :: wr) G s s' → SetS prog w led s'.heap S (dd val n) → R (.ok (.ret .none)) s') → codeAny (model prog w) A (.builtin "set.update.loop" ⟨[.ref S, .ref I], []⟩) R s := by
  have hSw : S ∉ wr := fun h => hSf (W.sub _ h)
  have hsub : ∀ b ∈ wr, b ∈ S :: wr := fun b hb => List.mem_cons_of_mem _ hb
  intro k
  induction k with
  | zero =>
    intro i s hk hi hst hS hR
    have hin : i = n := by omega
    subst hin
    refine codeAny_builtin PyProof.Rows.F.entry_set_update_loop ?_
    rw [Around.under_plainId PyProof.Rows.F.plain_set_update_loop _]
    show wpAny _ A.in1 (pyNext (.ref I) >>= _) _ _ s
    refine wpAny_bind (W.done s _ _ hst fun s' hm => ?_)
    show wpAny _ A.in1 (ret Value.none) _ _ s'
    exact wpAny_pure (hR s' (hm.mono hsub) (hS.at' fun o ho => hm.heap S _ hSw ho))
  | succ k ih =>
    intro i s hk hi hst hS hR
    have hlt : i < n := by omega
    refine codeAny_builtin PyProof.Rows.F.entry_set_update_loop ?_
    rw [Around.under_plainId PyProof.Rows.F.plain_set_update_loop _]
    show wpAny _ A.in1 (pyNext (.ref I) >>= _) _ _ s
    refine wpAny_bind (W.item i s _ _ hlt hst fun v s' hP hst' hm => ?_)
    obtain ⟨t, rfl⟩ := hval i v hP
    have hS' : SetS prog w led s'.heap S (dd val i) := hS.at' fun o ho => hm.heap S _ hSw ho
    show wpAny _ A.in1 (holding [Value.str (val i) t] (setAdd S (.str (val i) t)) >>= _) _ _ s'
    refine wpAny_bind (wpAny_holding ?_)
    unfold setAdd
    refine wpAny_holding ?_
    refine wpAny_bind ((PySem.strKind prog w).pyHash (k := val i) (by show Value.isStrOf (val i) (.str (val i) t) = true; simp [Value.isStrOf]) ?_)
    have hroom : (dd val i).length + 1 < scanBound := by have := Zfa val i; omega
    refine add_str (s := { s' with toks := s'.toks + 1 }) hS' hroom fun h' b hsb hS2 => ?_
    refine wpAny_pure ⟨plainId_quiet PyProof.Rows.F.plain_set_update_loop _, ih (i + 1) _ (by omega) hlt (W.frame _ s' _ _ hst' (Nat.le_succ _) fun b hb o e => ?_) hS2 fun s'' hm'' hS'' => ?_⟩
    · rw [hsb.2 b (fun h : b = S => hSf (by rw [← h]; exact hb))]; exact e
    · refine hR s'' (Moved.trans W.gtrans ((hm.mono hsub).then_heap (Nat.le_succ _) fun b o hb e => ?_) hm'') hS''
      rw [hsb.2 b (fun h : b = S => hb (by rw [h]; exact List.mem_cons_self))]; exact e
theorem ZeR (a : Value) {Q₁ : Value → Shared → Prop}
    (h : Q₁ (.ref s.heap.objs.size) { s with heap := s.heap.push { cls := .type "set", dict := none, data := .set #[] 0 (.fresh 0 0 (Q9 w)) } }) :
    codeAny (model prog w) A (.call (.builtin "set.__new__") ⟨[.type "set", a], []⟩) (wants Q₁ E) s := by
  refine codeAny_of_tree ?_
  show wpAny _ A.in1 (do checkBuiltinCall "set.__new__" ⟨[.type "set", a], []⟩; again (.builtin "set.__new__" ⟨[.type "set", a], []⟩)) _ _ s
  refine wpAny_bind (wpAny_of_eq (PySem.F.newCall_set_1 a) (wpAny_pure ⟨plainId_quiet PySem.F.plain_set_new _, codeAny_builtin PySem.F.entry_set_new ?_⟩))
  rw [Around.under_plainId PySem.F.plain_set_new _]
  unfold Builtin.«set.__new__» Builtin.Frozenset.newClass
  have hsub := sub_set_self
  obtain ⟨hp, g, d, tk, os⟩ := s
  dsimp only
  wp_walk
  refine wpAny_askSetting (wpAny_pure ?_)
  dsimp only
  simp only [newObj]
  refine wpAny_bind (wpAny_alloc (wpAny_pure ?_))
  exact wpAny_pure h
theorem ZdQ {h : Heap} {a : Addr} {led : Bool} (ha : h.get? a = some { cls := .type "set", dict := none, data := .set #[] 0 (.fresh 0 0 led) }) : SetS prog w led h a [] :=
  ⟨_, #[], 0, _, ha, ⟨⟨rfl, rfl, rfl⟩, rfl, fun e he => by simp at he, List.Perm.nil, List.nodup_nil, by unfold scanBound; decide, rfl, rfl, fun h => absurd rfl h⟩⟩
set_option maxHeartbeats 3200000 in
theorem Zdf {l : Addr} {items : Array Value} {val : Nat → Str} {Q : Value → Shared → Prop} (hh : A.handled = none) (hl : s.heap.IsList l items) (hv : ∀ (i : Nat) v, items[i]? = some v → ∃ t, v = .str (val i) t) (hb : items.size + 1 < scanBound)
    (h : ∀ (h' : Heap) (tk : Nat), SetS prog w (Q9 w) h' s.heap.objs.size (dd val items.size) → (∀ b o, s.heap.get? b = some o → h'.get? b = some o) → Q (.ref s.heap.objs.size) { s with heap := h', toks := tk }) :
    wpAny (model prog w) A (PySem.call (.type "set") [.ref l]) Q E s := by
  obtain ⟨c, tl, hmro⟩ := PySem.F.called_set.mro
  have hmade := PySem.F.called_set.made
  have hsub := PySem.F.called_set.sub
  refine wpAny_call (codeAny_of_tree ?_)
  show wpAny _ _ (callAny (.type "set") _) _ _ _
  refine wpAny_pure ⟨Code.quiet_builtin _ (by decide +kernel), codeAny_builtin PySem.F.entry_type_call ?_⟩
  rw [Around.under_plain (weight_type_call_type "set" [.ref l] []) rfl]
  have h1 := PySem.F.called_set.notType
  have h2 := PySem.F.called_set.canCreate
  have hct := PySem.F.typeCall_set_1 (.ref l)
  repeat (any_goals (first | assumption | wp_step))
  refine codeAny_mono (ZeR (.ref l) (E := E) (Q₁ := fun obj s₁ => obj = .ref s.heap.objs.size ∧ s₁ = { s with heap := s.heap.push { cls := .type "set", dict := none, data := .set #[] 0 (.fresh 0 0 (Q9 w)) } }) ⟨rfl, rfl⟩) fun r s₁ hr => ?_
  cases r with
  | error e => exact hr
  | ok fl =>
    cases fl with
    | ret obj =>
      obtain ⟨rfl, rfl⟩ := hr
      have hS : (s.heap.push { cls := .type "set", dict := none, data := .set #[] 0 (.fresh 0 0 (Q9 w)) }).get? s.heap.objs.size = some { cls := .type "set", dict := none, data := .set #[] 0 (.fresh 0 0 (Q9 w)) } := Heap.get?_push_size _ rfl
      have hT : Shared.TypeIs { s with heap := s.heap.push { cls := .type "set", dict := none, data := .set #[] 0 (.fresh 0 0 (Q9 w)) } } (.ref s.heap.objs.size) "set" := ⟨_, hS, rfl⟩
      have hli := PySem.F.called_set.init.lookup
      have hbi := PySem.F.called_set.init.bind (.ref s.heap.objs.size)
      repeat (any_goals (first | assumption | wp_step))
      refine codeAny_mono (codeAny_call_builtin (R := wants (fun r s₂ => r = .none ∧ ∃ h' tk, s₂ = { s with heap := h', toks := tk } ∧ SetS prog w (Q9 w) h' s.heap.objs.size (dd val items.size) ∧ (∀ b o, s.heap.get? b = some o → h'.get? b = some o)) E) PySem.F.called_set.init.plain PySem.F.entry_set_init (check_set_init_1 hT ?_)) fun r₂ s₂ hr₂ => ?_
      · obtain ⟨ol, hol, hcl, nl, hdl⟩ := hl
        obtain ⟨ocls, odict, odata, oslots⟩ := ol
        simp only at hcl hdl
        subst hcl; subst hdl
        have hol' : (s.heap.push { cls := .type "set", dict := none, data := .set #[] 0 (.fresh 0 0 (Q9 w)) }).get? l = some { cls := .type "list", dict := odict, data := .seq items nl, slots := oslots } := Heap.get?_push_of_some _ hol
        have hsls := PySem.F.sub_list_set
        have hslf := PySem.F.sub_list_frozenset
        have hne : (Value.type "list" == Value.type "dict") = false := by decide
        have hl1 : (s.heap.push { cls := .type "set", dict := none, data := .set #[] 0 (.fresh 0 0 (Q9 w)) }).IsList l items := ⟨_, hol', rfl, nl, rfl⟩
        unfold Builtin.«set.__init__» noKeywords Builtin.Frozenset.updateFrom
        generalize hPI : pyIter = PI
        wp_walk
        subst hPI
        refine wpAny_pyIter_list hl1 ?_
        refine wpAny_bind (wpAny_runValue ?_)
        have hlS : l < s.heap.objs.size := Heap.lt_size hol
        have hh3 : A.in1.in1.in1.handled = none := by simp [hh]
        have hneI : l ≠ (s.heap.push { cls := .type "set", dict := none, data := .set #[] 0 (.fresh 0 0 (Q9 w)) }).objs.size := by
          rw [Heap.size_push]; exact Nat.ne_of_lt (Nat.lt_succ_of_lt hlS)
        have hSf : s.heap.objs.size ∉ [(s.heap.push { cls := .type "set", dict := none, data := .set #[] 0 (.fresh 0 0 (Q9 w)) }).objs.size, l] := by
          rw [Heap.size_push]; simp only [List.mem_cons, List.mem_singleton, List.not_mem_nil, or_false, not_or]
          exact ⟨Nat.ne_of_lt (Nat.lt_succ_self _), Nat.ne_of_gt hlS⟩
        refine Zah (led := Q9 w) ((Walks.list hh3 _ l hneI items).toS) s.heap.objs.size hSf val hv hb (items.size - 0) 0 _ (by omega) (Nat.zero_le _)
          ⟨⟨_, Heap.get?_push_size _ rfl, rfl, rfl⟩, (hl1.push _)⟩ ?hS0 ?hR
        case hS0 =>
          exact ZdQ (led := Q9 w) (Heap.get?_push_of_some _ hS)
        case hR =>
          intro s' hm hS'
          obtain ⟨h', g', d', tk', os'⟩ := s'
          have eg : g' = s.gens := hm.gens
          have ed : d' = s.drawn := hm.drawn
          have eo : os' = s.os := hm.os
          subst eg; subst ed; subst eo
          show wpAny _ _ _ _ _ _
          refine wpAny_pure ?_
          show wpAny _ _ (ret Value.none) _ _ _
          refine wpAny_pure ⟨rfl, h', tk', rfl, hS', fun b o e => ?_⟩
          have hb := Heap.lt_size e
          have hb1 : b ≠ s.heap.objs.size := Nat.ne_of_lt hb
          have hb2 : b ≠ (s.heap.push { cls := .type "set", dict := none, data := .set #[] 0 (.fresh 0 0 (Q9 w)) }).objs.size := by
            rw [Heap.size_push]; exact Nat.ne_of_lt (Nat.lt_succ_of_lt hb)
          exact hm.heap b o (by simp only [List.mem_cons, List.mem_singleton, List.not_mem_nil, or_false, not_or]; exact ⟨hb1, hb2⟩) (Heap.get?_push_of_some _ (Heap.get?_push_of_some _ e))
      · cases r₂ with
        | error e => exact hr₂
        | ok fl₂ =>
          cases fl₂ with
          | ret r =>
            obtain ⟨rfl, h', tk, rfl, hS', hk'⟩ := hr₂
            repeat (any_goals (first | assumption | wp_step))
            exact h _ _ hS' hk'
          | _ => exact hr₂.elim
    | _ => exact hr.elim
end
end Mi
end
section
namespace PySem.F
end PySem.F
namespace Mi
open PySem PySem.Spec PyProof.Rows L2
section
variable {M : Model} {A : Around} {E : Value → Shared → Prop} {s : Shared}
end
section
variable {prog : Program} {w : World} {A : Around} {E : Value → Shared → Prop} {s : Shared}
noncomputable def ZkV (h : Heap) (it a : Addr) (first : Value) (i n ep : Nat) : Prop := ∃ o, h.get? it = some o ∧ o.cls = .type "set_iterator" ∧ o.data = .fields #[first, .int i 0, .ref a, .int n 0, .int ep 0]
end
end Mi
end
section
namespace PySem.F
end PySem.F
namespace Mi
open PySem PySem.Spec PyProof.Rows L2
section
variable {prog : Program} {w : World} {A : Around} {E : Value → Shared → Prop} {s : Shared}
inductive SetIt (w : World) (h : Heap) (it a tp : Addr) (vs : List Value) (i : Nat) : Prop where
  | drawn {o : Obj} {es : Array (Int × Value)} {ep : Nat} {t : SetTable} {pl : Array Value} : ZkV h it a (.ref tp) i es.size ep → h.get? a = some o → o.data = .set es ep t → t.fits es.size = true → h.IsTuple tp pl →
      (∀ (k : Nat) v, vs[k]? = some v → ∃ (pp : Nat) (e : Int × Value), pl[k]? = some (.int pp 0) ∧ es[pp]? = some e ∧ e.2 = v) → pl.size = vs.length → SetIt w h it a tp vs i
  | text {o : Obj} {es : Array (Int × Value)} {ep : Nat} {t : SetTable} : w.params.followText "set-order" = true → ZkV h it a (.int (0 : Nat) 0) i es.size ep → h.get? a = some o → o.data = .set es ep t → t.fits es.size = true →
      vs = (pickOrder (w.params.setOrder a ep) es).toList.map (·.2) → SetIt w h it a tp vs i
  | few {o : Obj} {es : Array (Int × Value)} {ep : Nat} {t : SetTable} {sl : Nat} : w.params.followText "set-order" = false → t.led = true → ZkV h it a (.int sl 0) i es.size ep → h.get? a = some o → o.data = .set es ep t → t.fits es.size = true → es.size ≤ 1 →
      vs = es.toList.map (·.2) → (i = 0 ∧ sl = 0 ∨ i = 1 ∧ es.size = 1 ∧ ∃ j, t.place = #[j] ∧ sl = j + 1) → SetIt w h it a tp vs i
end
end Mi
end
section
namespace Mi
open PySem PySem.Spec PyProof.Rows L2
section
variable {prog : Program} {w : World} {A : Around} {E : Value → Shared → Prop} {s : Shared}
end
end Mi
end
section
namespace Mi
open PySem PySem.Spec PyProof.Rows L2
section
variable {prog : Program} {w : World} {A : Around} {E : Value → Shared → Prop} {s : Shared}
end
end Mi
end
section
namespace Mi
open PySem
inductive T where
  | non | bl (b : Bool) | int (i : Int) | str (cs : List Nat)
  | tup (ts : List T) | lst (ts : List T)
  | dct (ks : List L2.Key) (ts : List T)
  | scr (ns : List Int)
  deriving Inhabited
inductive W where
  | t (x : T) | c (i : Nat) | f (a : Nat)
  deriving Inhabited
noncomputable abbrev Mem := List (Option (Bool × List T))
structure Exc where
  cls : Str
  flds : List T
inductive Res (a : Type) where
  | ok (x : a) (m : Mem) | exc (x : Exc) (m : Mem) | stuck
noncomputable def Res.bind {a b : Type} (r : Res a) (f : a → Mem → Res b) : Res b := match r with
  | .ok x m => f x m
  | .exc x m => .exc x m
  | .stuck => .stuck
noncomputable abbrev Env := List (Option W)
inductive B where
  | len | int | str | tuple | list | all | any | sum | min2 | max2 | sortset | sorted | dict | range1 | range2 | enum | zip2
  | bool | dget | din | dnot | zip4 | lenset | minl | isbis
  deriving DecidableEq
inductive Mt where
  | join | upper | append | pop | popat | insert | clear | count | get | index | split | partition | extend | reverse
  deriving DecidableEq
inductive Ty where
  | int | bool | str | tuple | list | dict
  deriving DecidableEq
inductive Tg where
  | nm (i : Nat) | tp (is : List Nat)
  deriving DecidableEq
mutual
inductive E where
  | var (i : Nat) | gl (k : Nat) | con (x : T)
  | bin (op : Operator) (a b : E) | neg (a : E) | not (a : E)
  | and (a b : E) | or (a b : E) | one (a : E)
  | cmp (op : CmpOp) (a b : E) | chn (op op' : CmpOp) (a b c : E)
  | ite (c a b : E)
  | tup (es : Es) | lst (es : Es) | cel (es : Es) | celL (a : E) | celA (a b : E) | dsp (ks vs : Es)
  | ix (a b : E) | slc (a lo hi : E) | rev (a : E) | hole
  | call (f : Nat) (es : Es) | blt (b : B) (es : Es) | mth (b : Mt) (o : E) (es : Es)
  | isi (a : E) (ty : Ty)
  | comp (own : Nat) (keep : List Nat) (it : E) (tg : Tg) (cs : Es) (inner : E)
  | more (it : E) (tg : Tg) (cs : Es) (inner : E)
  | emit (a : E)
  | tr (a : E)
  | fnv (j : Nat) | callV (i : Nat) (tab : List (Nat × Nat)) (es : Es)
inductive Es where
  | nil | cons (e : E) (es : Es)
end
noncomputable def Z0 : E → Bool
  | .hole => true
  | _ => false
inductive S where
  | done
  | asg (i : Nat) (e : E) (k : S)
  | asgT (is : List Nat) (e : E) (k : S)
  | asgC (i : Nat) (e : E) (k : S)
  | set (o i v : E) (k : S)
  | aug (i : Nat) (op : Operator) (e : E) (k : S)
  | ife (c : E) (a b k : S)
  | forr (tg : Tg) (it : E) (body k : S)
  | whil (c : E) (body k : S)
  | ret (e : E) (k : S) | retN (k : S)
  | expr (e : E) (k : S) | pass (k : S) | brk (k : S) | cont (k : S)
noncomputable def lim : Nat := 1000000
noncomputable def nlt : List Nat → List Nat → Bool
  | [], [] => false
  | [], _ :: _ => true
  | _ :: _, [] => false
  | a :: x, b :: y => if a < b then true else if b < a then false else nlt x y
noncomputable def b2i (b : Bool) : Int := if b then 1 else 0
mutual
noncomputable def eqT : T → T → Bool
  | .non, .non => true
  | .bl a, .bl b => a == b
  | .bl a, .int b => b2i a == b
  | .int a, .bl b => a == b2i b
  | .int a, .int b => a == b
  | .str a, .str b => a == b
  | .tup a, .tup b => eqTs a b
  | .lst a, .lst b => eqTs a b
  | _, _ => false
noncomputable def eqTs : List T → List T → Bool
  | [], [] => true
  | a :: x, b :: y => eqT a b && eqTs x y
  | _, _ => false
end
mutual
noncomputable def Zu : Nat → T → Bool
  | _, .non => true
  | _, .bl _ => true
  | _, .int _ => true
  | _, .str cs => PyData.strOk ⟨cs.toArray⟩
  | n + 1, .tup ts => ZM n ts
  | n + 1, .lst ts => ZM n ts
  | _, _ => false
noncomputable def ZM : Nat → List T → Bool
  | _, [] => true
  | n, t :: ts => Zu n t && ZM n ts
end
noncomputable def flat : T → Bool
  | .non | .bl _ | .int _ | .str _ => true
  | _ => false
mutual
noncomputable def eqok : Nat → T → Bool
  | _, .non => true
  | _, .bl _ => true
  | _, .int _ => true
  | _, .str _ => true
  | n + 1, .tup ts => ZkD n ts
  | n + 1, .lst ts => ZkD n ts
  | _, _ => false
noncomputable def ZkD : Nat → List T → Bool
  | _, [] => true
  | n, t :: ts => eqok n t && ZkD n ts
end
noncomputable def ZeO : T → Bool
  | .non => false
  | .bl b => b
  | .int i => i != 0
  | .str cs => !cs.isEmpty
  | .tup ts => !ts.isEmpty
  | .lst ts => !ts.isEmpty
  | .dct ks _ => !ks.isEmpty
  | .scr ns => !ns.isEmpty
noncomputable def ixOf (n : Nat) (i : Int) : Option Nat := if 0 ≤ i then (if i < n then some i.toNat else none) else if -(n : Int) ≤ i then some (i + n).toNat else none
noncomputable def atT {a : Type} (xs : List a) (i : Int) : Option a := (ixOf xs.length i).bind fun j => xs[j]?
noncomputable def ZhH (n d : Nat) : Option Int → Nat
  | none => d
  | some i => if i < 0 then (i + n).toNat else min i.toNat n
noncomputable def cut {a : Type} (xs : List a) (lo hi : Option Int) : List a :=
  (xs.drop (ZhH xs.length 0 lo)).take (ZhH xs.length xs.length hi - ZhH xs.length 0 lo)
noncomputable def repT {a : Type} (xs : List a) (k : Nat) : List a := (List.replicate k xs).flatten
noncomputable def bigN : Nat := (2 ^ 250) ^ 8
noncomputable def small (i : Int) : Bool := decide (i.natAbs < 2 ^ 64)
noncomputable def ZaT (i j : Int) : Bool := small i || small j || (decide (i.natAbs < bigN) && decide (j.natAbs < bigN))
noncomputable def addT : T → T → Option T
  | .int i, .int j => some (.int (i + j))
  | .str a, .str b => if a.length + b.length ≤ lim then some (.str (a ++ b)) else none
  | .tup a, .tup b => if a.length + b.length ≤ lim then some (.tup (a ++ b)) else none
  | .lst a, .lst b => if a.length + b.length ≤ lim then some (.lst (a ++ b)) else none
  | _, _ => none
noncomputable def mulT (x y : T) : Option T := match y with
  | .int k => match x with
    | .int i => if ZaT i k then some (.int (i * k)) else none
    | .tup a => if (-(lim : Int) ≤ k ∧ k ≤ lim) ∧ a.length * k.toNat ≤ lim then some (.tup (repT a k.toNat)) else none
    | .lst a => if (-(lim : Int) ≤ k ∧ k ≤ lim) ∧ a.length * k.toNat ≤ lim then some (.lst (repT a k.toNat)) else none
    | .str a => if k = 0 ∨ k = 1 then some (.str (repT a k.toNat)) else none
    | _ => none
  | _ => none
noncomputable def intT (f : Int → Int → Option T) (x y : T) : Option T := match x with
  | .int i => match y with
    | .int j => f i j
    | _ => none
  | _ => none
noncomputable def binT (op : Operator) (x y : T) : Option T :=
  match op with
  | .Add => addT x y
  | .Sub => intT (fun i j => some (.int (i - j))) x y
  | .Mult => mulT x y
  | .FloorDiv => intT (fun i j => if 0 < j ∧ j < 1073741824 then some (.int (i / j)) else none) x y
  | .Mod => intT (fun i j => if 0 < j then some (.int (i % j)) else none) x y
  | .Pow => intT (fun i j => if 0 ≤ j ∧ j ≤ 1000 ∧ i.natAbs < 2 ^ 64 then some (.int (i ^ j.toNat)) else none) x y
  | _ => none
noncomputable def augT (op : Operator) (x y : T) : Option T :=
  match op, x, y with
  | .Add, .int i, .int j => some (.int (i + j))
  | .Sub, .int i, .int j => some (.int (i - j))
  | _, _, _ => none
noncomputable def Zdx (x y : T) : Bool := match x, y with
  | .bl _, .int _ => false
  | .int _, .bl _ => false
  | x, y => flat x && flat y
noncomputable def hasT (x : T) (y : T) : Option Bool :=
  match y with
  | .tup ts => if flat x && ts.all flat then some (ts.any fun t => eqT t x) else none
  | .lst ts => if flat x && ts.all flat then some (ts.any fun t => eqT t x) else none
  | _ => none
noncomputable def ZiQ (f : Int → Int → Bool) (x y : T) : Option Bool := match x with
  | .int i => match y with
    | .int j => some (f i j)
    | _ => none
  | _ => none
noncomputable def ltT (x y : T) : Option Bool := match x with
  | .int i => match y with
    | .int j => some (decide (i < j))
    | _ => none
  | .str a => match y with
    | .str b => some (nlt a b)
    | _ => none
  | _ => none
noncomputable def inT (x y : T) : Option Bool := match x with
  | .str [a] => match y with
    | .str b => some (decide (a ∈ b))
    | y => hasT (.str [a]) y
  | x => hasT x y
noncomputable def sameT (x y : T) : Option Bool := match y with
  | .non => some (match x with | .non => true | _ => false)
  | .bl b => some (match x with | .bl a => a == b | _ => false)
  | _ => none
noncomputable def cmpT (op : CmpOp) (x y : T) : Option Bool :=
  match op with
  | .Lt => ltT x y
  | .LtE => ZiQ (fun i j => decide (i ≤ j)) x y
  | .Gt => ZiQ (fun i j => decide (j < i)) x y
  | .GtE => ZiQ (fun i j => decide (j ≤ i)) x y
  | .Eq => if Zdx x y || (Zu 60 x && Zu 60 y) then some (eqT x y) else none
  | .NotEq => if Zdx x y || (Zu 60 x && Zu 60 y) then some (!eqT x y) else none
  | .In => inT x y
  | .NotIn => (inT x y).map (!·)
  | .Is => sameT x y
  | .IsNot => (sameT x y).map (!·)
noncomputable def isT (x : T) (ty : Ty) : Bool :=
  match x, ty with
  | .int _, .int => true
  | .bl _, .int => true
  | .bl _, .bool => true
  | .str _, .str => true
  | .tup _, .tuple => true
  | .lst _, .list => true
  | .scr _, .list => true
  | .dct _ _, .dict => true
  | _, _ => false
noncomputable def ixT (x i : T) : Option T :=
  match x, i with
  | .tup ts, .int k => atT ts k
  | .lst ts, .int k => atT ts k
  | .scr ns, .int k => (atT ns k).map .int
  | .str cs, .int k => if cs.length ≤ lim then (atT cs k).map fun c => .str [c] else none
  | _, _ => none
noncomputable def slT (x : T) (lo hi : Option Int) : Option T :=
  match x with
  | .tup ts => some (.tup (cut ts lo hi))
  | .lst ts => some (.lst (cut ts lo hi))
  | .scr ns => some (.lst ((cut ns lo hi).map .int))
  | .str cs => if cs.length ≤ lim then some (.str (cut cs lo hi)) else none
  | _ => none
noncomputable def insT (x : List Nat) : List (List Nat) → List (List Nat)
  | [] => [x]
  | y :: r => if nlt x y then x :: y :: r else if nlt y x then y :: insT x r else y :: r
noncomputable def Qw (xs : List (List Nat)) : List (List Nat) := xs.foldr insT []
noncomputable def insN (x : List Nat) : List (List Nat) → List (List Nat)
  | [] => [x]
  | y :: r => if nlt y x then y :: insN x r else x :: y :: r
noncomputable def sortN (xs : List (List Nat)) : List (List Nat) := xs.foldr insN []
noncomputable def strs? : List T → Option (List (List Nat))
  | [] => some []
  | .str c :: r => (strs? r).map (c :: ·)
  | _ => none
noncomputable def ints? : List T → Option (List Int)
  | [] => some []
  | .int c :: r => (ints? r).map (c :: ·)
  | _ => none
noncomputable def bools? : List T → Option (List Bool)
  | [] => some []
  | .bl c :: r => (bools? r).map (c :: ·)
  | _ => none
noncomputable def joinN (sep : List Nat) : List (List Nat) → List Nat
  | [] => []
  | [x] => x
  | x :: r => x ++ sep ++ joinN sep r
noncomputable def upN (c : Nat) : Nat := if 97 ≤ c ∧ c ≤ 122 then c - 32 else c
noncomputable def asciiN (c : Nat) : Bool := decide (c < 128)
noncomputable def decI (i : Int) : List Nat := (Str.ofString (toString i)).cps.toList
noncomputable def rangeT (lo : Int) (n : Nat) : List T := (List.range n).map fun k : Nat => .int (lo + (k : Int))
noncomputable def Zjt : T → Option (List T)
  | .tup ts => some ts
  | .lst ts => some ts
  | .scr ns => some (ns.map .int)
  | .str cs => if cs.length ≤ lim then some (cs.map fun c => .str [c]) else none
  | _ => none
noncomputable def view (w : W) (m : Mem) : Option T := match w with
  | .t x => some x
  | .f _ => none
  | .c i => match m[i]? with
    | some (some (_, ts)) => some (.lst ts)
    | _ => none
noncomputable def pur (o : Option T) (m : Mem) : Res W := match o with
  | some t => .ok (.t t) m
  | none => .stuck
noncomputable def frz (w : W) (m : Mem) : Res T := match w with
  | .t x => .ok x m
  | .f _ => .stuck
  | .c i => match m[i]? with
    | some (some (false, ts)) => .ok (.lst ts) (m.set i none)
    | _ => .stuck
noncomputable def frzs : List W → Mem → Res (List T)
  | [], m => .ok [] m
  | w :: ws, m => (frz w m).bind fun t m => (frzs ws m).bind fun ts m => .ok (t :: ts) m
noncomputable def views : List W → Mem → Option (List T)
  | [], _ => some []
  | w :: ws, m => (view w m).bind fun t => (views ws m).map (t :: ·)
noncomputable def QD (w : W) (m : Mem) : Res (List T) := match w with
  | .f _ => .stuck
  | .t x => match Zjt x with
    | some ts => .ok ts m
    | none => .stuck
  | .c i => match m[i]? with
    | some (some (_, ts)) => .ok ts (m.set i (some (true, ts)))
    | _ => .stuck
noncomputable def giveBack (w : W) (m0 m : Mem) : Mem := match w with
  | .t _ => m
  | .f _ => m
  | .c i => match m0[i]? with
    | some c => m.set i c
    | none => m
noncomputable def Jl (tg : Tg) (t : T) (env : Env) : Option Env := match tg with
  | .nm i => some (env.set i (some (.t t)))
  | .tp is => match t with
    | .tup ts => if ts.length = is.length then some ((is.zip ts).foldl (fun env p => env.set p.1 (some (.t p.2))) env) else none
    | _ => none
noncomputable def one1 (f : T → Option T) : List T → Option T
  | [x] => f x
  | _ => none
noncomputable def two2 (f : Int → Int → Option T) : List T → Option T
  | [.int i, .int j] => f i j
  | _ => none
noncomputable def bLen : T → Option T
  | .str cs => if cs.length ≤ lim then some (.int cs.length) else none
  | .tup ts => some (.int ts.length)
  | .lst ts => some (.int ts.length)
  | .scr ns => some (.int ns.length)
  | _ => none
noncomputable def bInt : T → Option T
  | .int i => some (.int i)
  | .bl b => some (.int (b2i b))
  | _ => none
noncomputable def bStr : T → Option T
  | .int i => if i.natAbs < 2 ^ 250 then some (.str (decI i)) else none
  | _ => none
noncomputable def bTup : T → Option T
  | .tup ts => some (.tup ts)
  | .lst ts => some (.tup ts)
  | .str cs => if cs.length ≤ lim then some (.tup (cs.map fun c => .str [c])) else none
  | _ => none
noncomputable def bLst : T → Option T
  | .tup ts => some (.lst ts)
  | .lst ts => some (.lst ts)
  | _ => none
noncomputable def ZfR (f : List T → Option T) : T → Option T
  | .lst ts => f ts
  | _ => none
noncomputable def bRng : T → Option T
  | .int i => if i < 2 ^ 62 ∧ -(2 ^ 62) ≤ i then some (.lst (rangeT 0 i.toNat)) else none
  | _ => none
noncomputable def zipL (xs ys : List T) : List T := List.zipWith (fun x y => .tup [x, y]) xs ys
noncomputable def zipT : List T → Option T
  | [.tup xs, .tup ys] => if xs.length = ys.length ∧ xs.length ≤ lim then some (.lst (zipL xs ys)) else none
  | _ => none
noncomputable def Zgh (a b c d : List T) : List T := (a.zip (b.zip (c.zip d))).map fun p => .tup [p.1, p.2.1, p.2.2.1, p.2.2.2]
noncomputable def zip4T : List T → Option T
  | [.lst a, .lst b, .lst c, .lst d] => if (a.length = b.length ∧ a.length = c.length ∧ a.length = d.length) ∧ a.length ≤ lim then some (.lst (Zgh a b c d)) else none
  | _ => none
noncomputable def Zey (xs : List T) : List T := List.zipWith (fun (k : Nat) x => T.tup [.int (k : Int), x]) (List.range xs.length) xs
noncomputable def Zc4 (ts : List T) : Option T := (strs? ts).bind fun xs => if xs.length < 64 then some (.int ((Qw xs).length : Int)) else none
noncomputable def minI (n : Int) (ns : List Int) : Int := ns.foldl (fun a b => if b < a then b else a) n
noncomputable def Zhf (ts : List T) : Option T := (ints? ts).bind fun ns => match ns with
  | [] => none
  | n :: r => if r.length < 64 then some (.int (minI n r)) else none
noncomputable def bIsb : T → Option T
  | .bl _ => some (.bl true)
  | .int _ => some (.bl true)
  | .str _ => some (.bl true)
  | _ => none
noncomputable def keyT : T → Option L2.Key
  | .int i => some (.inl i)
  | .str cs => some (.inr ⟨cs.toArray⟩)
  | _ => none
noncomputable def pairs? : List T → Option (List (List Nat × T))
  | [] => some []
  | .tup [.str k, v] :: ts => (pairs? ts).map ((k, v) :: ·)
  | _ => none
noncomputable def dctT (ps : List (List Nat × T)) : T := .dct (ps.map fun p => .inr ⟨p.1.toArray⟩) (ps.map (·.2))
noncomputable def bDict : T → Option T
  | .tup ts => (pairs? ts).bind fun ps => if ts.length ≤ lim ∧ (ps.map (·.1)).Nodup then some (dctT ps) else none
  | _ => none
noncomputable def ZiN (ks : List L2.Key) (ts : List T) (k : L2.Key) : Option T := ((ks.zip ts).find? fun p => decide (p.1 = k)).map (·.2)
noncomputable def dGetT : List T → Option T
  | [.dct ks vs, x] => (keyT x).bind (ZiN ks vs)
  | _ => none
noncomputable def dInT (neg : Bool) : List T → Option T
  | [x, .dct ks vs] => (keyT x).map fun k => .bl (if neg then !(ZiN ks vs k).isSome else (ZiN ks vs k).isSome)
  | _ => none
noncomputable def Zkg (f : List T → Option T) : T → Option T
  | .lst ts => f ts
  | .tup ts => f ts
  | _ => none
noncomputable def bltT (b : B) (ts : List T) : Option T :=
  match b with
  | .len => one1 bLen ts
  | .int => one1 bInt ts
  | .str => one1 bStr ts
  | .tuple => one1 bTup ts
  | .list => one1 bLst ts
  | .all => one1 (Zkg fun ts => (bools? ts).map fun bs => .bl (bs.all id)) ts
  | .any => one1 (Zkg fun ts => (bools? ts).map fun bs => .bl (bs.any id)) ts
  | .sum => one1 (ZfR fun ts => (ints? ts).map fun ns => .int ns.sum) ts
  | .sortset => one1 (ZfR fun ts => (strs? ts).bind fun xs => if xs.length < 64 then some (.lst ((Qw xs).map .str)) else none) ts
  | .sorted => one1 (ZfR fun ts => (strs? ts).bind fun xs => if xs.length < 64 then some (.lst ((sortN xs).map .str)) else none) ts
  | .min2 => two2 (fun i j => some (.int (if j < i then j else i))) ts
  | .max2 => two2 (fun i j => some (.int (if j > i then j else i))) ts
  | .range1 => one1 bRng ts
  | .zip2 => zipT ts
  | .dict => one1 bDict ts
  | .zip4 => zip4T ts
  | .enum => one1 (ZfR fun ts => if ts.length ≤ lim then some (.lst (Zey ts)) else none) ts
  | .lenset => one1 (Zkg Zc4) ts
  | .minl => one1 (ZfR Zhf) ts
  | .isbis => one1 bIsb ts
  | .dget => dGetT ts
  | .din => dInT false ts
  | .dnot => dInT true ts
  | .range2 => two2 (fun i j => if (i < 2 ^ 62 ∧ -(2 ^ 62) ≤ i) ∧ j < 2 ^ 62 ∧ -(2 ^ 62) ≤ j then some (.lst (rangeT i (j - i).toNat)) else none) ts
  | _ => none
noncomputable def ofBl (f : Bool → Option T) : T → Option T
  | .bl b => f b
  | _ => none
noncomputable def idxT (xs : List T) (b : Bool) : Option T := (bools? xs).bind fun bs => if bs.length ≤ lim then (bs.findIdx? (· == b)).map fun k => .int (k : Int) else none
noncomputable def cntT (xs : List T) (b : Bool) : Option T := (bools? xs).bind fun bs => if bs.length ≤ lim then some (.int ((bs.countP (· == b) : Nat) : Int)) else none
noncomputable def mthT (b : Mt) (o : T) (ts : List T) : Option T :=
  match b with
  | .join => match o with
    | .str sep => one1 (ZfR fun xs => (strs? xs).bind fun ys => if (ys.map List.length).sum + ys.length * sep.length ≤ lim then some (.str (joinN sep ys)) else none) ts
    | _ => none
  | .index => match o with
    | .lst xs => one1 (ofBl (idxT xs)) ts
    | _ => none
  | .count => match o with
    | .lst xs => one1 (ofBl (cntT xs)) ts
    | _ => none
  | .get => match o with
    | .dct ks vs => one1 (fun x => (keyT x).map fun k => (ZiN ks vs k).getD .non) ts
    | _ => none
  | .upper => match o with
    | .str cs => match ts with
      | [] => if cs.all asciiN && decide (cs.length ≤ lim) then some (.str (cs.map upN)) else none
      | _ => none
    | _ => none
  | _ => none
noncomputable def mutM (b : Mt) (xs : List T) (ts : List T) : Option (T × List T) :=
  match b, ts with
  | .append, [t] => if xs.length < lim then some (.non, xs ++ [t]) else none
  | .popat, [.int i] => match ixOf xs.length i with
    | some k => (xs[k]?).map fun t => (t, xs.eraseIdx k)
    | none => none
  | .pop, [] => match xs.getLast? with
    | some t => some (t, xs.dropLast)
    | none => none
  | _, _ => none
noncomputable def doM (b : Mt) (o : W) (ws : List W) (m : Mem) : Res W := match b with
  | .append | .pop | .popat | .insert | .clear | .extend | .reverse => match o with
    | .c i => (frzs ws m).bind fun ts m => match m[i]? with
      | some (some (false, xs)) => match mutM b xs ts with
        | some (t, ys) => .ok (.t t) (m.set i (some (false, ys)))
        | none => .stuck
      | _ => .stuck
    | .t _ => .stuck
    | .f _ => .stuck
  | _ => pur ((view o m).bind fun x => (views ws m).bind fun ts => mthT b x ts) m
noncomputable def addC (x y : W) (m : Mem) : Res W := match (view x m).bind fun x => (view y m).bind fun y => addT x y with
  | some (.lst ts) => .ok (.c m.length) (m ++ [some (false, ts)])
  | _ => .stuck
noncomputable def setM (o i v : W) (m : Mem) : Res Unit := match o, i with
  | .c c, .t (.int k) => (frz v m).bind fun t m => match m[c]? with
    | some (some (false, xs)) => match ixOf xs.length k with
      | some j => .ok () (m.set c (some (false, xs.set j t)))
      | none => .stuck
    | _ => .stuck
  | _, _ => .stuck
noncomputable def intP (w : W) (m : Mem) : Res (Option Int) := match w with
  | .t (.int i) => .ok (some i) m
  | _ => .stuck
noncomputable def dspT (ks vs : List W) (m : Mem) : Res W := match ks, vs with
  | [], [] => .ok (.t (.dct [] [])) m
  | [.t k], [.t v] => match keyT k with
    | some kk => .ok (.t (.dct [kk] [v])) m
    | none => .stuck
  | _, _ => .stuck
noncomputable def tyM (b : Mt) (w : W) (m : Mem) : Bool := match b with
  | .join | .upper | .split | .partition => match view w m with
    | some (.str _) => true
    | _ => false
  | .append | .pop | .popat | .insert | .clear | .extend | .reverse => match w with
    | .c i => match m[i]? with
      | some (some _) => true
      | _ => false
    | _ => false
  | .count | .index => match view w m with
    | some (.lst _) => true
    | _ => false
  | .get => match view w m with
    | some (.dct _ _) => true
    | _ => false
noncomputable def Q8 (f : Env → Mem → Res (List T)) (tg : Tg) : List T → Env → Mem → Res (List T)
  | [], _, m => .ok [] m
  | t :: ts, env, m => match Jl tg t env with
    | none => .stuck
    | some env' => (f env' m).bind fun xs m => (Q8 f tg ts env m).bind fun ys m => .ok (xs ++ ys) m
noncomputable def Res.only {a : Type} (r : Res a) : Res a := match r with
  | .exc _ _ => .stuck
  | r => r
inductive Flow where
  | next (env : Env) | ret (w : W) | brk (env : Env) | cont (env : Env)
noncomputable def Qk (f : Env → Mem → Res Flow) (tg : Tg) : List T → Env → Mem → Res Flow
  | [], env, m => .ok (.next env) m
  | t :: ts, env, m => match Jl tg t env with
    | none => .stuck
    | some env => (f env m).bind fun fl m => match fl with
      | .next env => Qk f tg ts env m
      | .cont env => Qk f tg ts env m
      | .brk env => .ok (.next env) m
      | .ret w => .ok (.ret w) m
noncomputable def Zgk (c : Env → Mem → Res Bool) (f : Env → Mem → Res Flow) : Nat → Env → Mem → Res Flow
  | 0, _, _ => .stuck
  | n + 1, env, m => (c env m).bind fun b m => if b then (f env m).bind fun fl m => match fl with
      | .next env => Zgk c f n env m
      | .cont env => Zgk c f n env m
      | .brk env => .ok (.next env) m
      | .ret w => .ok (.ret w) m
    else .ok (.next env) m
noncomputable def turns : Nat := 1000000
noncomputable def fitT : T → Bool
  | .str cs => decide (cs.length ≤ lim)
  | _ => true
noncomputable def JD (w : W) (m : Mem) : Res Bool := match view w m with
  | some t => if fitT t then .ok (ZeO t) m else .stuck
  | none => .stuck
noncomputable def Zd3 (w : W) (m : Mem) : Res Bool := match w with
  | .t (.bl b) => .ok b m
  | _ => .stuck
noncomputable def Zd8 (w : W) (m : Mem) : Res (List T) := match w with
  | .t (.lst ts) => .ok ts m
  | _ => .stuck
noncomputable def treeW (w : W) (m : Mem) : Res W := match w with
  | .t x => .ok (.t x) m
  | .c _ => .stuck
  | .f _ => .stuck
noncomputable def Zkp (gv : List T) (a : Nat) : List (Nat × Nat) → Option Nat
  | [] => none
  | (j, k) :: r => match gv[j]? with
    | some (.int b) => if b = (a : Int) then some k else Zkp gv a r
    | _ => Zkp gv a r
section
variable (call : Nat → List W → Mem → Res W) (gv : List T)
mutual
noncomputable def ev : E → Env → Mem → Res W
  | .var i, env, m => match env[i]? with
    | some (some w) => .ok w m
    | _ => .stuck
  | .gl k, _, m => pur gv[k]? m
  | .con t, _, m => .ok (.t t) m
  | .bin op a b, env, m => (ev a env m).bind fun x m => (ev b env m).bind fun y m => pur ((view x m).bind fun x => (view y m).bind fun y => binT op x y) m
  | .neg a, env, m => (ev a env m).bind fun x m => pur ((view x m).bind fun x => match x with
    | .int i => some (.int (-i))
    | _ => none) m
  | .not a, env, m => (ev a env m).bind fun x m => (Zd3 x m).bind fun k m => .ok (.t (.bl (!k))) m
  | .and a b, env, m => (ev a env m).bind fun x m => (Zd3 x m).bind fun k m => if k then ev b env m else .ok (.t (.bl false)) m
  | .or a b, env, m => (ev a env m).bind fun x m => (Zd3 x m).bind fun k m => if k then .ok (.t (.bl true)) m else ev b env m
  | .one a, env, m => ev a env m
  | .cmp op a b, env, m => (ev a env m).bind fun x m => (ev b env m).bind fun y m => pur (((view x m).bind fun x => (view y m).bind fun y => cmpT op x y).map .bl) m
  | .chn op op' a b c, env, m => (ev a env m).bind fun x m => (ev b env m).bind fun y m =>
      match (view x m).bind fun x => (view y m).bind fun y => cmpT op x y with
      | some true => (ev c env m).bind fun z m => pur (((view y m).bind fun y => (view z m).bind fun z => cmpT op' y z).map .bl) m
      | some false => .ok (.t (.bl false)) m
      | none => .stuck
  | .ite c a b, env, m => (ev c env m).bind fun x m => (JD x m).bind fun k m => if k then ev a env m else ev b env m
  | .tup es, env, m => (evs es env m).bind fun ws m => (frzs ws m).bind fun ts m => if ts.length ≤ lim then .ok (.t (.tup ts)) m else .stuck
  | .lst es, env, m => (evs es env m).bind fun ws m => (frzs ws m).bind fun ts m => if ts.length ≤ lim then .ok (.t (.lst ts)) m else .stuck
  | .cel es, env, m => (evs es env m).bind fun ws m => (frzs ws m).bind fun ts m => if ts.length ≤ lim then .ok (.c m.length) (m ++ [some (false, ts)]) else .stuck
  | .celL a, env, m => (ev a env m).bind fun x m => match view x m with
    | some (.lst ts) => .ok (.c m.length) (m ++ [some (false, ts)])
    | some (.tup ts) => .ok (.c m.length) (m ++ [some (false, ts)])
    | _ => .stuck
  | .celA a b, env, m => (ev a env m).bind fun x m => (ev b env m).bind fun y m => addC x y m
  | .dsp ks vs, env, m => (evs ks env m).bind fun kw m => (evs vs env m).bind fun vw m => dspT kw vw m
  | .ix a b, env, m => (ev a env m).bind fun x m => (ev b env m).bind fun y m => pur ((view x m).bind fun x => (view y m).bind fun y => ixT x y) m
  | .slc a lo hi, env, m => (ev a env m).bind fun x m => (if Z0 lo then Res.ok none m else (ev lo env m).bind intP).bind fun l m =>
      (if Z0 hi then Res.ok none m else (ev hi env m).bind intP).bind fun h m => pur ((view x m).bind fun x => slT x l h) m
  | .hole, _, m => .ok (.t .non) m
  | .rev a, env, m => (ev a env m).bind fun x m => pur ((view x m).bind fun x => match x with
    | .tup ts => some (.tup ts.reverse)
    | .lst ts => some (.lst ts.reverse)
    | _ => none) m
  | .call f es, env, m => (evs es env m).bind fun ws m => call f ws m
  | .blt b es, env, m => (evs es env m).bind fun ws m => pur ((views ws m).bind fun ts => bltT b ts) m
  | .mth b o es, env, m => (ev o env m).bind fun x m => if tyM b x m then (evs es env m).bind fun ws m => doM b x ws m else .stuck
  | .isi a ty, env, m => (ev a env m).bind fun x m => pur ((view x m).map fun x => .bl (isT x ty)) m
  | .comp own keep it tg cs inner, env, m => (ev it env m).only.bind fun x m0 => (QD x m0).bind fun ts m =>
      (Q8 (fun env m => (tests cs env m).bind fun k m => if k then (ev inner env m).bind Zd8 else .ok [] m) tg ts (List.replicate own none ++ keep.map fun i => (env[i]?).join) m).only.bind fun out m =>
        if out.length ≤ lim then .ok (.t (.lst out)) (giveBack x m0 m) else .stuck
  | .more it tg cs inner, env, m => (ev it env m).bind fun x m0 => (QD x m0).bind fun ts m =>
      (Q8 (fun env m => (tests cs env m).bind fun k m => if k then (ev inner env m).bind Zd8 else .ok [] m) tg ts env m).bind fun out m => .ok (.t (.lst out)) (giveBack x m0 m)
  | .emit a, env, m => (ev a env m).bind fun x m => (frz x m).bind fun t m => .ok (.t (.lst [t])) m
  | .tr a, env, m => (ev a env m).bind treeW
  | .fnv j, _, m => match gv[j]? with
    | some (.int a) => .ok (.f a.toNat) m
    | _ => .stuck
  | .callV i tab es, env, m => match env[i]? with
    | some (some (.f a)) => match Zkp gv a tab with
      | some k => (evs es env m).bind fun ws m => call k ws m
      | none => .stuck
    | _ => .stuck
noncomputable def evs : Es → Env → Mem → Res (List W)
  | .nil, _, m => .ok [] m
  | .cons e es, env, m => (ev e env m).bind fun w m => (evs es env m).bind fun ws m => .ok (w :: ws) m
noncomputable def tests : Es → Env → Mem → Res Bool
  | .nil, _, m => .ok true m
  | .cons e es, env, m => (ev e env m).bind fun x m => (JD x m).bind fun k m => if k then tests es env m else .ok false m
end
noncomputable def ex : S → Env → Mem → Res Flow
  | .done, env, m => .ok (.next env) m
  | .asg i e k, env, m => (ev call gv e env m).bind fun w m => ex k (env.set i (some w)) m
  | .asgT is e k, env, m => (ev call gv e env m).bind fun w m => match w with
    | .t t => match Jl (.tp is) t env with
      | some env => ex k env m
      | none => .stuck
    | .c _ => .stuck
    | .f _ => .stuck
  | .asgC i e k, env, m => (ev call gv e env m).bind fun w m => match w with
    | .t (.lst ts) => ex k (env.set i (some (.c m.length))) (m ++ [some (false, ts)])
    | _ => .stuck
  | .set o i v k, env, m => (ev call gv v env m).bind fun z m => (ev call gv o env m).bind fun x m => (ev call gv i env m).bind fun y m =>
      (setM x y z m).bind fun _ m => ex k env m
  | .aug i op e k, env, m => match env[i]? with
    | some (some x) => (ev call gv e env m).bind fun y m => (pur ((view x m).bind fun x => (view y m).bind fun y => augT op x y) m).bind fun z m => ex k (env.set i (some z)) m
    | _ => .stuck
  | .ife c a b k, env, m => (ev call gv c env m).bind fun x m => (JD x m).bind fun t m =>
      (if t then ex a env m else ex b env m).bind fun fl m => match fl with
        | .next env => ex k env m
        | fl => .ok fl m
  | .forr tg it body k, env, m => (ev call gv it env m).bind fun x m0 => (QD x m0).bind fun ts m =>
      (Qk (fun env m => ex body env m) tg ts env m).bind fun fl m => match fl with
        | .next env => ex k env (giveBack x m0 m)
        | .ret w => .ok (.ret w) (giveBack x m0 m)
        | _ => .stuck
  | .whil c body k, env, m => (Zgk (fun env m => (ev call gv c env m).bind JD) (fun env m => ex body env m) turns env m).bind fun fl m => match fl with
        | .next env => ex k env m
        | fl => .ok fl m
  | .ret e _, env, m => (ev call gv e env m).bind fun w m => .ok (.ret w) m
  | .retN _, _, m => .ok (.ret (.t .non)) m
  | .expr e k, env, m => (ev call gv e env m).bind fun _ m => ex k env m
  | .pass k, env, m => ex k env m
  | .brk _, env, m => .ok (.brk env) m
  | .cont _, env, m => .ok (.cont env) m
end
structure Fn where
  ps : Nat
  n : Nat
  body : S
  cell : Bool := false
noncomputable def fin (n : Nat) (cell : Bool) (fl : Flow) (m : Mem) : Res W := match fl with
  | .ret (.t t) => .ok (.t t) (m.take n)
  | .ret (.c i) => if i < n then .ok (.c i) (m.take n) else match m[i]? with
    | some (some (false, ts)) => if cell then .ok (.c n) (m.take n ++ [some (false, ts)]) else .ok (.t (.lst ts)) (m.take n)
    | _ => .stuck
  | .next _ => .ok (.t .non) (m.take n)
  | _ => .stuck
noncomputable def Qi (fns : List Fn) (gv : List T) : Nat → Nat → List W → Mem → Res W
  | 0, _, _, _ => .stuck
  | n + 1, f, ws, m => match fns[f]? with
    | none => .stuck
    | some d => if ws.length = d.ps then (ex (Qi fns gv n) gv d.body (ws.map some ++ List.replicate (d.n - d.ps) none) m).bind fun fl m' => fin m.length d.cell fl m' else .stuck
end Mi
end
section
namespace Mi
open PySem L2
section
variable (K : PySem.W.Frag)
noncomputable def ZX (cm : List Addr) (m : Mem) (a : Addr) : Prop := ∀ (i : Nat) p, m[i]? = some (some p) → cm[i]? ≠ some a
noncomputable def Zd9 (H : Hp) (a : Addr) (ns : List Int) : Prop := (∃ o, H a = some (.frz o (.lst (ns.map V.int)))) ∨
    ∃ (o : Obj) (its : Array Value) (n : Nat), K.lookup a = some o ∧ o.cls = .type "list" ∧ o.dict = none ∧ o.data = .seq its n ∧ its.size ≤ sizeLine ∧ Vals (ns.map V.int) its.toList
inductive RT (cm : List Addr) (m : Mem) (H : Hp) : T → V → Prop where
  | non : RT cm m H .non .non
  | bl (b : Bool) : RT cm m H (.bl b) (.bl b)
  | int (i : Int) : RT cm m H (.int i) (.int i)
  | str (cs : List Nat) : RT cm m H (.str cs) (.str ⟨cs.toArray⟩)
  | tup {a : Addr} {ts : List T} {vs : List V} : SqT K H a vs → ts.length = vs.length → (∀ (i : Nat) t v, ts[i]? = some t → vs[i]? = some v → RT cm m H t v) → RT cm m H (.tup ts) (.ref a)
  | lst {a : Addr} {ts : List T} {vs : List V} : H a = some (.lst vs) → ZX cm m a → ts.length = vs.length → (∀ (i : Nat) t v, ts[i]? = some t → vs[i]? = some v → RT cm m H t v) → RT cm m H (.lst ts) (.ref a)
  | dct {a : Addr} {ks : List Key} {ts : List T} {vs : List V} : H a = some (.dK (ks.zip vs)) → ZX cm m a → ks.length = vs.length → ts.length = vs.length →
      (∀ (i : Nat) t v, ts[i]? = some t → vs[i]? = some v → RT cm m H t v) → RT cm m H (.dct ks ts) (.ref a)
  | scr {a : Addr} (ns : List Int) : Zd9 K H a ns → RT cm m H (.scr ns) (.ref a)
noncomputable abbrev RTs (cm : List Addr) (m : Mem) (H : Hp) (ts : List T) (vs : List V) : Prop := Paired (RT K cm m H) ts vs
noncomputable def RW (cm : List Addr) (m : Mem) (H : Hp) : W → V → Prop
  | .t x, v => RT K cm m H x v
  | .c i, v => ∃ a, cm[i]? = some a ∧ v = .ref a
  | .f a, v => v = .ref a
noncomputable abbrev RWs (cm : List Addr) (m : Mem) (H : Hp) (ws : List W) (vs : List V) : Prop := Paired (RW K cm m H) ws vs
structure MemR (cm : List Addr) (m : Mem) (H : Hp) : Prop where
  len : cm.length = m.length
  inj : ∀ (i j : Nat) a p q, m[i]? = some (some p) → m[j]? = some (some q) → cm[i]? = some a → cm[j]? = some a → i = j
  at' : ∀ (i : Nat) p, m[i]? = some (some p) → ∃ a vs, cm[i]? = some a ∧ H a = some (.lst vs) ∧ K.lookup a = none ∧ RTs K cm m H p.2 vs
noncomputable def EnvR (cm : List Addr) (m : Mem) (H : Hp) (env : Env) (σ : L2.St) : Prop := ∀ (i : Nat) w, env[i]? = some (some w) → ∃ v, σ[i]? = some (some v) ∧ RW K cm m H w v
structure Ext (cm : List Addr) (m : Mem) (H : Hp) (cm' : List Addr) (m' : Mem) (H' : Hp) : Prop where
  pre : ∀ (i : Nat) a, cm[i]? = some a → cm'[i]? = some a
  len : m.length ≤ m'.length
  lent : ∀ (i : Nat) ts, m[i]? = some (some (true, ts)) → m'[i]? = some (some (true, ts))
  keep : ∀ a o, H a = some o → ZX cm m a → H' a = some o ∧ ZX cm' m' a
end
section
variable {K : PySem.W.Frag} {cm cm' cm'' : List Addr} {m m' m'' : Mem} {H H' H'' : Hp}
theorem ZbM {α β : Type} {F : α → β → Prop} : ∀ {xs : List α} {ys : List β}, xs.length = ys.length → (∀ (i : Nat) x y, xs[i]? = some x → ys[i]? = some y → F x y) → Paired F xs ys
  | [], [], _, _ => .nil
  | x :: xs, y :: ys, hl, h => .cons (h 0 x y rfl rfl) (ZbM (by simpa using hl) fun i a b ha hb => h (i + 1) a b (by simpa using ha) (by simpa using hb))
  | [], _ :: _, hl, _ => by simp at hl
  | _ :: _, [], hl, _ => by simp at hl
theorem Xk {α β : Type} {F : α → β → Prop} : ∀ {xs : List α} {ys : List β}, Paired F xs ys → ∀ (i : Nat) x y, xs[i]? = some x → ys[i]? = some y → F x y
  | _, _, .nil, i, x, y, h, _ => by simp at h
  | _, _, .cons r t, 0, x, y, h1, h2 => by simp at h1 h2; subst h1; subst h2; exact r
  | _, _, .cons r t, i + 1, x, y, h1, h2 => Xk t i x y (by simpa using h1) (by simpa using h2)
theorem Qf {α β : Type} {F : α → β → Prop} {xs : List α} {ys : List β} (h : Paired F xs ys) {i : Nat} {x : α} (hx : xs[i]? = some x) : ∃ y, ys[i]? = some y ∧ F x y := by
  have hl := h.length
  have hi := (List.getElem?_eq_some_iff.mp hx).1
  have hy : ys[i]? = some (ys[i]'(by omega)) := List.getElem?_eq_getElem (by omega)
  exact ⟨_, hy, Xk h i _ _ hx hy⟩
theorem QL {α β : Type} {F : α → β → Prop} : ∀ {xs xs' : List α} {ys ys' : List β}, Paired F xs ys → Paired F xs' ys' → Paired F (xs ++ xs') (ys ++ ys')
  | _, _, _, _, .nil, h => h
  | _, _, _, _, .cons r t, h => .cons r (QL t h)
theorem ZbL {α β : Type} {F : α → β → Prop} : ∀ {xs : List α} {ys : List β} (n : Nat), Paired F xs ys → Paired F (xs.take n) (ys.take n)
  | _, _, 0, _ => .nil
  | _, _, _ + 1, .nil => .nil
  | _, _, n + 1, .cons r t => .cons r (ZbL n t)
theorem ZbN {α β : Type} {F : α → β → Prop} : ∀ {xs : List α} {ys : List β} (n : Nat), Paired F xs ys → Paired F (xs.drop n) (ys.drop n)
  | _, _, 0, r => r
  | _, _, _ + 1, .nil => .nil
  | _, _, n + 1, .cons _ t => ZbN n t
theorem Zcm {α β : Type} {F : α → β → Prop} {x : α} {y : β} (r : F x y) : ∀ {xs : List α} {ys : List β} (i : Nat), Paired F xs ys → Paired F (xs.set i x) (ys.set i y)
  | _, _, _, .nil => .nil
  | _, _, 0, .cons _ t => .cons r t
  | _, _, i + 1, .cons q t => .cons q (Zcm r i t)
theorem ZF {α β : Type} {F G : α → β → Prop} (f : ∀ a b, F a b → G a b) {xs : List α} {ys : List β} (h : Paired F xs ys) : Paired G xs ys := L2.Paired.mapP h f
theorem RT.mtup {a : Addr} {ts : List T} {vs : List V} (h : SqT K H a vs) (r : RTs K cm m H ts vs) : RT K cm m H (.tup ts) (.ref a) := .tup h r.length fun i t v h1 h2 => Xk r i t v h1 h2
theorem RT.mlst {a : Addr} {ts : List T} {vs : List V} (h : H a = some (.lst vs)) (n : ZX cm m a) (r : RTs K cm m H ts vs) : RT K cm m H (.lst ts) (.ref a) := .lst h n r.length fun i t v h1 h2 => Xk r i t v h1 h2
theorem RT.itup {ts : List T} {v : V} (h : RT K cm m H (.tup ts) v) : ∃ a vs, v = .ref a ∧ SqT K H a vs ∧ RTs K cm m H ts vs := by
  cases h with
  | tup h1 h2 h3 => exact ⟨_, _, rfl, h1, ZbM h2 h3⟩
theorem RT.ilst {ts : List T} {v : V} (h : RT K cm m H (.lst ts) v) : ∃ a vs, v = .ref a ∧ H a = some (.lst vs) ∧ ZX cm m a ∧ RTs K cm m H ts vs := by
  cases h with
  | lst h1 h2 h3 h4 => exact ⟨_, _, rfl, h1, h2, ZbM h3 h4⟩
theorem Zab (M : MemR K cm m H) {a : Addr} {o : HO} (h : H a = some o) (hn : ∀ vs, o ≠ .lst vs) : ZX cm m a := fun i ts e z => by
  obtain ⟨b, vs, h1, h2, _, _⟩ := M.at' i ts e
  rw [h1] at z; cases z
  rw [h2] at h; cases h
  exact hn _ rfl
theorem Ext.sqT (x : Ext cm m H cm' m' H') (M : MemR K cm m H) {a : Addr} {vs : List V} (h : SqT K H a vs) : SqT K H' a vs := by
  rcases h with (h | ⟨o, h⟩) | h
  · exact .inl (.inl (x.keep a _ h (Zab M h (fun _ z => by cases z))).1)
  · exact .inl (.inr ⟨o, (x.keep a _ h (Zab M h (fun _ z => by cases z))).1⟩)
  · exact .inr h
theorem Ext.scr (x : Ext cm m H cm' m' H') (M : MemR K cm m H) {a : Addr} {ns : List Int} (h : Zd9 K H a ns) : Zd9 K H' a ns := by
  rcases h with ⟨o, h⟩ | h
  · exact .inl ⟨o, (x.keep a _ h (Zab M h (fun _ z => by cases z))).1⟩
  · exact .inr h
theorem Zd9.sq {a : Addr} {ns : List Int} (h : Zd9 K H a ns) : SqL K H a (ns.map V.int) := by
  rcases h with ⟨o, h⟩ | h
  · exact .inl (.inr ⟨o, h⟩)
  · exact .inr h
theorem RT.ext (x : Ext cm m H cm' m' H') (M : MemR K cm m H) (M' : MemR K cm' m' H') {t : T} {v : V} (h : RT K cm m H t v) : RT K cm' m' H' t v := by
  induction h with
  | non => exact .non
  | bl b => exact .bl b
  | int i => exact .int i
  | str cs => exact .str cs
  | tup h1 h2 _ ih => exact .tup (x.sqT M h1) h2 ih
  | lst h1 h2 h3 _ ih => exact .lst (x.keep _ _ h1 h2).1 (x.keep _ _ h1 h2).2 h3 ih
  | scr ns h => exact .scr ns (x.scr M h)
  | dct h1 h2 h3 h4 _ ih => exact .dct (x.keep _ _ h1 h2).1 (x.keep _ _ h1 h2).2 h3 h4 ih
theorem RTs.ext (x : Ext cm m H cm' m' H') (M : MemR K cm m H) (M' : MemR K cm' m' H') {ts : List T} {vs : List V} (h : RTs K cm m H ts vs) : RTs K cm' m' H' ts vs := ZF (fun _ _ z => z.ext x M M') h
theorem RW.ext (x : Ext cm m H cm' m' H') (M : MemR K cm m H) (M' : MemR K cm' m' H') {w : W} {v : V} (h : RW K cm m H w v) : RW K cm' m' H' w v := by
  cases w with
  | t t => exact RT.ext x M M' h
  | c i => obtain ⟨a, h1, h2⟩ := h; exact ⟨a, x.pre i a h1, h2⟩
  | f a => exact h
theorem RWs.ext (x : Ext cm m H cm' m' H') (M : MemR K cm m H) (M' : MemR K cm' m' H') {ws : List W} {vs : List V} (h : RWs K cm m H ws vs) : RWs K cm' m' H' ws vs := ZF (fun _ _ z => RW.ext x M M' z) h
theorem EnvR.ext (x : Ext cm m H cm' m' H') (M : MemR K cm m H) (M' : MemR K cm' m' H') {env : Env} {σ : L2.St} (h : EnvR K cm m H env σ) : EnvR K cm' m' H' env σ := fun i w e => by
  obtain ⟨v, h1, h2⟩ := h i w e
  exact ⟨v, h1, h2.ext x M M'⟩
theorem Ext.refl : Ext cm m H cm m H := ⟨fun _ _ h => h, Nat.le_refl _, fun _ _ h => h, fun _ _ h n => ⟨h, n⟩⟩
theorem Ext.trans (x : Ext cm m H cm' m' H') (y : Ext cm' m' H' cm'' m'' H'') : Ext cm m H cm'' m'' H'' :=
  ⟨fun i a h => y.pre i a (x.pre i a h), Nat.le_trans x.len y.len, fun i ts h => y.lent i ts (x.lent i ts h), fun a o h n => y.keep a o (x.keep a o h n).1 (x.keep a o h n).2⟩
noncomputable abbrev XR := Exc → List Addr → Mem → Hp → Prop
variable (K) in
noncomputable def OkR {α : Type} (r : Res α) (xr : XR) (cm : List Addr) (m : Mem) (H : Hp) (k : α → List Addr → Mem → Hp → Prop) : Prop := match r with
  | .ok a m' => ∀ cm' H', Ext cm m H cm' m' H' → MemR K cm' m' H' → k a cm' m' H'
  | .exc x m' => ∀ cm' H', Ext cm m H cm' m' H' → MemR K cm' m' H' → xr x cm' m' H'
  | .stuck => False
variable {xr : XR}
theorem OkR.shift {α : Type} {r : Res α} {k : α → List Addr → Mem → Hp → Prop} (h : OkR K r xr cm m H k) (x : Ext cm m H cm' m' H') : OkR K r xr cm' m' H' k := by
  cases r with
  | ok a m2 => exact fun c h' e M => h c h' (x.trans e) M
  | exc a m2 => exact fun c h' e M => h c h' (x.trans e) M
  | stuck => exact h
theorem OkR.bind {α β : Type} {r : Res α} {f : α → Mem → Res β} {k : β → List Addr → Mem → Hp → Prop} (h : OkR K (r.bind f) xr cm m H k) :
    OkR K r xr cm m H fun a cm' m' H' => OkR K (f a m') xr cm' m' H' k := by
  cases r with
  | ok a m2 => exact fun c h' e M => OkR.shift (show OkR K (f a m2) xr cm m H k from h) e
  | exc a m2 => exact h
  | stuck => exact h
theorem OkR.bind0 {α β : Type} {r : Res α} {f : α → Mem → Res β} {k : β → List Addr → Mem → Hp → Prop} (h : OkR K (r.bind f) xr cm m H k) :
    OkR K r xr cm m H fun a _ m' _ => OkR K (f a m') xr cm m H k := by
  cases r with
  | ok a m2 => exact fun c h' e M => h
  | exc a m2 => exact h
  | stuck => exact h
theorem OkR.mono {α : Type} {r : Res α} {k k' : α → List Addr → Mem → Hp → Prop} (h : OkR K r xr cm m H k) (f : ∀ a cm' m' H', Ext cm m H cm' m' H' → MemR K cm' m' H' → k a cm' m' H' → k' a cm' m' H') : OkR K r xr cm m H k' := by
  cases r with
  | ok a m2 => exact fun c h' e M => f a c m2 h' e M (h c h' e M)
  | exc a m2 => exact h
  | stuck => exact h
theorem OkR.now {α : Type} {a : α} {k : α → List Addr → Mem → Hp → Prop} (h : OkR K (.ok a m) xr cm m H k) (M : MemR K cm m H) : k a cm m H := h cm H .refl M
theorem OkR.to {α : Type} {a : α} {m' : Mem} {k : α → List Addr → Mem → Hp → Prop} (h : OkR K (.ok a m') xr cm m H k) (x : Ext cm m H cm' m' H') (M : MemR K cm' m' H') : k a cm' m' H' := h cm' H' x M
end
section
variable (K : PySem.W.Frag) (call : Nat → List W → Mem → Res W) (gv : List T) (xr : XR)
noncomputable def tE (e : E) : TE := fun σ H Q => ∃ env cm m, EnvR K cm m H env σ ∧ MemR K cm m H ∧ OkR K (ev call gv e env m) xr cm m H fun w cm' m' H' => ∀ v, RW K cm' m' H' w v → Q v H'
noncomputable def tA (es : Es) : TA := fun σ H Q => ∃ env cm m, EnvR K cm m H env σ ∧ MemR K cm m H ∧ OkR K (evs call gv es env m) xr cm m H fun ws cm' m' H' => ∀ vs, RWs K cm' m' H' ws vs → Q vs H'
noncomputable def tT (e : E) : TT := fun σ H Q => ∃ env cm m, EnvR K cm m H env σ ∧ MemR K cm m H ∧ OkR K ((ev call gv e env m).bind JD) xr cm m H fun k _ _ H' => Q k H'
noncomputable def r2 (f : W → W → Mem → Res W) : R2 := fun x y H Q => ∃ cm m a b, MemR K cm m H ∧ RW K cm m H a x ∧ RW K cm m H b y ∧ OkR K (f a b m) xr cm m H fun w cm' m' H' => ∀ v, RW K cm' m' H' w v → Q v H'
noncomputable def r1 (f : W → Mem → Res W) : V → Hp → VK → Prop := fun x H Q => ∃ cm m a, MemR K cm m H ∧ RW K cm m H a x ∧ OkR K (f a m) xr cm m H fun w cm' m' H' => ∀ v, RW K cm' m' H' w v → Q v H'
noncomputable def rN (f : List W → Mem → Res W) : List V → Hp → VK → Prop := fun xs H Q => ∃ cm m ws, MemR K cm m H ∧ RWs K cm m H ws xs ∧ OkR K (f ws m) xr cm m H fun w cm' m' H' => ∀ v, RW K cm' m' H' w v → Q v H'
end
section
variable {K : PySem.W.Frag} {call : Nat → List W → Mem → Res W} {gv : List T} {xr : XR} {X : Cx}
theorem PE.mono {e : Expr} {t t' : TE} (h : PE X e t) (f : ∀ σ H Q, t' σ H Q → t σ H Q) : PE X e t' := fun pins s σ H Q I q => h pins s σ H Q I (f σ H Q q)
theorem PT.mono {e : Expr} {t t' : TT} (h : PT X e t) (f : ∀ σ H Q, t' σ H Q → t σ H Q) : PT X e t' := fun pins s σ H Q I q => h pins s σ H Q I (f σ H Q q)
theorem PA.mono {e : List Expr} {t t' : TA} (h : PA X e t) (f : ∀ σ H Q, t' σ H Q → t σ H Q) : PA X e t' := fun pos pins s σ H Q I q => h pos pins s σ H Q I (f σ H Q q)
theorem Zib {a b e : E} {f : W → W → Mem → Res W} (h : ∀ env m, ev call gv e env m = (ev call gv a env m).bind fun x m => (ev call gv b env m).bind fun y m => f x y m) (σ : L2.St) (H : Hp) (Q : VK) (q : tE K call gv xr e σ H Q) :
    tOp (r2 K xr f) (tE K call gv xr a) (tE K call gv xr b) σ H Q := by
  obtain ⟨env, cm, m, hE, hM, ho⟩ := q
  rw [h] at ho
  refine ⟨env, cm, m, hE, hM, ho.bind.mono fun w cm1 m1 H1 x1 M1 o1 v rv => ?_⟩
  refine ⟨env, cm1, m1, hE.ext x1 hM M1, M1, o1.bind.mono fun w2 cm2 m2 H2 x2 M2 o2 v2 rv2 => ?_⟩
  exact ⟨cm2, m2, w, w2, M2, rv.ext x2 M1 M2, rv2, o2⟩
end
end Mi
end
section
namespace Mi
open PySem PySem.Spec PyProof.Rows L2
section
variable {K : PySem.W.Frag} {cm : List Addr} {m : Mem} {H : Hp} {xr : XR} {X : Cx}
theorem Zm {w : W} {v : V} {t : T} (h : RW K cm m H w v) (e : view w m = some t) (n : ∀ ts, t ≠ .lst ts) : RT K cm m H t v := by
  cases w with
  | t x => cases e; exact h
  | f a => cases e
  | c i =>
    unfold view at e
    dsimp only at e
    split at e
    · cases e; exact absurd rfl (n _)
    · cases e
theorem Qh {w : W} {v : V} {ts : List T} (M : MemR K cm m H) (h : RW K cm m H w v) (e : view w m = some (.lst ts)) : ∃ a vs, v = .ref a ∧ H a = some (.lst vs) ∧ RTs K cm m H ts vs := by
  cases w with
  | t x =>
    cases e
    obtain ⟨a, vs, h1, h2, _, h3⟩ := RT.ilst h
    exact ⟨a, vs, h1, h2, h3⟩
  | f a => cases e
  | c i =>
    unfold view at e
    dsimp only at e
    split at e
    · rename_i fl us hu
      cases e
      obtain ⟨a, h1, h2⟩ := h
      obtain ⟨b, vs, h3, h4, _, h5⟩ := M.at' i _ hu
      rw [h1] at h3; cases h3
      exact ⟨a, vs, h2, h4, h5⟩
    · cases e
theorem RT.vint {i : Int} {v : V} (h : RT K cm m H (.int i) v) : v = .int i := by cases h; rfl
theorem RT.vbl {b : Bool} {v : V} (h : RT K cm m H (.bl b) v) : v = .bl b := by cases h; rfl
theorem RT.vnon {v : V} (h : RT K cm m H .non v) : v = .non := by cases h; rfl
theorem RT.vstr {cs : List Nat} {v : V} (h : RT K cm m H (.str cs) v) : v = .str ⟨cs.toArray⟩ := by cases h; rfl
theorem RT.vscr {ns : List Int} {v : V} (h : RT K cm m H (.scr ns) v) : ∃ a, v = .ref a ∧ Zd9 K H a ns := by
  cases h with
  | scr _ h => exact ⟨_, rfl, h⟩
theorem Zer (M : MemR K cm m H) {p : Addr} (hp : H p = none) : ZX cm m p := fun i ts e z => by
  obtain ⟨a, vs, h1, h2, _⟩ := M.at' i ts e
  rw [h1] at z; cases z
  rw [hp] at h2; cases h2
theorem Ext.new {p : Addr} {o : HO} (hp : H p = none) : Ext cm m H cm m (upd H p o) :=
  ⟨fun _ _ h => h, Nat.le_refl _, fun _ _ h => h, fun a u h n => ⟨by rw [Qp (QV h hp)]; exact h, n⟩⟩
theorem RT.same {H' : Hp} {cm' : List Addr} {m' : Mem} (h1 : ∀ a o, H a = some o → H' a = some o) (h2 : ∀ a, ZX cm m a → H a ≠ none → ZX cm' m' a) {t : T} {v : V} (h : RT K cm m H t v) : RT K cm' m' H' t v := by
  induction h with
  | non => exact .non
  | bl b => exact .bl b
  | int i => exact .int i
  | str cs => exact .str cs
  | tup q1 q2 _ ih =>
    refine .tup ?_ q2 ih
    rcases q1 with (q | ⟨o, q⟩) | q
    · exact .inl (.inl (h1 _ _ q))
    · exact .inl (.inr ⟨o, h1 _ _ q⟩)
    · exact .inr q
  | lst q1 q2 q3 _ ih => exact .lst (h1 _ _ q1) (h2 _ q2 (by rw [q1]; simp)) q3 ih
  | dct q1 q2 q3 q4 _ ih => exact .dct (h1 _ _ q1) (h2 _ q2 (by rw [q1]; simp)) q3 q4 ih
  | scr ns q =>
    refine .scr ns ?_
    rcases q with ⟨o, q⟩ | q
    · exact .inl ⟨o, h1 _ _ q⟩
    · exact .inr q
theorem JL {p : Addr} {o : HO} (hp : H p = none) : ∀ a u, H a = some u → upd H p o a = some u := fun a u h => by rw [Qp (QV h hp)]; exact h
theorem MemR.new (M : MemR K cm m H) {p : Addr} {o : HO} (hp : H p = none) : MemR K cm m (upd H p o) :=
  ⟨M.len, M.inj, fun i ts e => by
    obtain ⟨a, vs, h1, h2, h3, h4⟩ := M.at' i ts e
    exact ⟨a, vs, h1, JL hp _ _ h2, h3, ZF (fun _ _ z => z.same (JL hp) fun _ n _ => n) h4⟩⟩
theorem RTs.new {ts : List T} {vs : List V} (r : RTs K cm m H ts vs) {p : Addr} {o : HO} (hp : H p = none) : RTs K cm m (upd H p o) ts vs := ZF (fun _ _ z => z.same (JL hp) fun _ n _ => n) r
theorem RT.newTup {ts : List T} {vs : List V} (r : RTs K cm m H ts vs) {p : Addr} (hp : H p = none) : RT K cm m (upd H p (.tup vs)) (.tup ts) (.ref p) := .mtup (.of JX) (RTs.new r hp)
theorem RT.newLst (M : MemR K cm m H) {ts : List T} {vs : List V} (r : RTs K cm m H ts vs) {p : Addr} (hp : H p = none) : RT K cm m (upd H p (.lst vs)) (.lst ts) (.ref p) := .mlst JX (Zer M hp) (RTs.new r hp)
theorem ZbQ {p : Addr} {c : Bool × List T} (hl : cm.length = m.length) {a : Addr} (n : ZX cm m a) (ne : a ≠ p) : ZX (cm ++ [p]) (m ++ [some c]) a := fun i us e z => by
  by_cases hi : i < m.length
  · rw [List.getElem?_append_left hi] at e
    rw [List.getElem?_append_left (by omega)] at z
    exact n i us e z
  · by_cases hj : i = m.length
    · subst hj
      rw [← hl, List.getElem?_append_right (Nat.le_refl _)] at z
      simp at z
      exact ne z.symm
    · rw [List.getElem?_eq_none (by simp; omega)] at e
      cases e
theorem Zjb (M : MemR K cm m H) {ts : List T} {vs : List V} (r : RTs K cm m H ts vs) {p : Addr} (hp : H p = none) (hk : K.lookup p = none) :
    Ext cm m H (cm ++ [p]) (m ++ [some (false, ts)]) (upd H p (.lst vs)) ∧ MemR K (cm ++ [p]) (m ++ [some (false, ts)]) (upd H p (.lst vs)) ∧ RW K (cm ++ [p]) (m ++ [some (false, ts)]) (upd H p (.lst vs)) (.c m.length) (.ref p) := by
  have sm : ∀ {t : T} {v : V}, RT K cm m H t v → RT K (cm ++ [p]) (m ++ [some (false, ts)]) (upd H p (.lst vs)) t v := fun h =>
    h.same (JL hp) fun a n hn => ZbQ M.len n fun z => by subst z; exact hn hp
  have cs : ∀ {i : Nat} {c : Bool × List T}, (m ++ [some (false, ts)])[i]? = some (some c) → (m[i]? = some (some c) ∧ i < m.length) ∨ (i = m.length ∧ c = (false, ts)) := fun {i c} e => by
    by_cases hi : i < m.length
    · rw [List.getElem?_append_left hi] at e
      exact .inl ⟨e, hi⟩
    · by_cases hj : i = m.length
      · subst hj
        simp at e
        exact .inr ⟨rfl, e.symm⟩
      · rw [List.getElem?_eq_none (by simp; omega)] at e
        cases e
  have cl : ∀ {i : Nat}, i < m.length → (cm ++ [p])[i]? = cm[i]? := fun {i} h => List.getElem?_append_left (by rw [M.len]; exact h)
  have cp : (cm ++ [p])[m.length]? = some p := by rw [← M.len]; simp
  have np : ∀ {i : Nat} {c : Bool × List T} {a : Addr}, m[i]? = some (some c) → cm[i]? = some a → a ≠ p := fun {i c a} e1 e2 z => by
    subst z
    obtain ⟨b, ws, q1, q2, _⟩ := M.at' i c e1
    rw [e2] at q1; cases q1
    rw [hp] at q2; cases q2
  refine ⟨⟨fun i a h => ?_, by simp, fun i us h => ?_, fun a o h n => ⟨JL hp _ _ h, ZbQ M.len n (QV h hp)⟩⟩, ⟨by simp [M.len], fun i j a us us' e1 e2 f1 f2 => ?_, fun i us e => ?_⟩, ⟨p, cp, rfl⟩⟩
  · rw [List.getElem?_append_left (List.getElem?_eq_some_iff.mp h).1]; exact h
  · rw [List.getElem?_append_left (List.getElem?_eq_some_iff.mp h).1]; exact h
  · rcases cs e1 with ⟨g1, l1⟩ | ⟨k1, _⟩
    · rw [cl l1] at f1
      rcases cs e2 with ⟨g2, l2⟩ | ⟨k2, _⟩
      · rw [cl l2] at f2
        exact M.inj i j a _ _ g1 g2 f1 f2
      · rw [k2, cp] at f2; cases f2
        exact absurd rfl (np g1 f1)
    · rw [k1, cp] at f1; cases f1
      rcases cs e2 with ⟨g2, l2⟩ | ⟨k2, _⟩
      · rw [cl l2] at f2
        exact absurd rfl (np g2 f2)
      · rw [k1, k2]
  · rcases cs e with ⟨g, l⟩ | ⟨k, z⟩
    · obtain ⟨a, ws, q1, q2, q3, q4⟩ := M.at' i us g
      exact ⟨a, ws, by rw [cl l]; exact q1, JL hp _ _ q2, q3, ZF (fun _ _ z => sm z) q4⟩
    · rw [k, z]
      exact ⟨p, vs, cp, JX, hk, ZF (fun _ _ z => sm z) r⟩
theorem XC {i : Nat} {c c' : Bool × List T} (e : m[i]? = some (some c)) {j : Nat} {d : Bool × List T} (q : (m.set i (some c'))[j]? = some (some d)) : ∃ d', m[j]? = some (some d') := by
  by_cases hj : j = i
  · subst hj; exact ⟨c, e⟩
  · rw [List.getElem?_set_ne (Ne.symm hj)] at q; exact ⟨d, q⟩
theorem ZcD (M : MemR K cm m H) {i : Nat} {ts ts' : List T} {a : Addr} {vs' : List V} (e : m[i]? = some (some (false, ts))) (hc : cm[i]? = some a) (r : RTs K cm m H ts' vs') :
    Ext cm m H cm (m.set i (some (false, ts'))) (upd H a (.lst vs')) ∧ MemR K cm (m.set i (some (false, ts'))) (upd H a (.lst vs')) := by
  have hi : i < m.length := (List.getElem?_eq_some_iff.mp e).1
  have nl : ∀ {b : Addr}, ZX cm m b → ZX cm (m.set i (some (false, ts'))) b := fun {b} n j us q => by
    obtain ⟨us', q'⟩ := XC e q
    exact n j us' q'
  have ne : ∀ {b : Addr}, ZX cm m b → b ≠ a := fun {b} n z => by subst z; exact n i _ e hc
  have x : Ext cm m H cm (m.set i (some (false, ts'))) (upd H a (.lst vs')) := ⟨fun _ _ h => h, by simp, fun j us h => by
    by_cases hj : j = i
    · subst hj; rw [e] at h; cases h
    · rw [List.getElem?_set_ne (Ne.symm hj)]; exact h, fun b o h n => ⟨by rw [Qp (ne n)]; exact h, nl n⟩⟩
  have sm : ∀ {t : T} {v : V}, RT K cm m H t v → RT K cm (m.set i (some (false, ts'))) (upd H a (.lst vs')) t v := fun {t v} h => by
    induction h with
    | non => exact .non
    | bl b => exact .bl b
    | int i => exact .int i
    | str cs => exact .str cs
    | tup q1 q2 _ ih => exact .tup (x.sqT M q1) q2 ih
    | lst q1 q2 q3 _ ih => exact .lst (x.keep _ _ q1 q2).1 (x.keep _ _ q1 q2).2 q3 ih
    | dct q1 q2 q3 q4 _ ih => exact .dct (x.keep _ _ q1 q2).1 (x.keep _ _ q1 q2).2 q3 q4 ih
    | scr ns q => exact .scr ns (x.scr M q)
  refine ⟨x, ⟨by simp [M.len], fun j k b us us' e1 e2 f1 f2 => ?_, fun j us q => ?_⟩⟩
  · obtain ⟨_, e1⟩ := XC e e1
    obtain ⟨_, e2⟩ := XC e e2
    exact M.inj j k b _ _ e1 e2 f1 f2
  · by_cases hj : j = i
    · subst hj
      rw [List.getElem?_set_self hi] at q
      cases q
      obtain ⟨b, ws, q1, _, q3, _⟩ := M.at' j _ e
      rw [hc] at q1; cases q1
      exact ⟨a, vs', hc, JX, q3, ZF (fun _ _ z => sm z) r⟩
    · rw [List.getElem?_set_ne (Ne.symm hj)] at q
      obtain ⟨b, ws, q1, q2, q3, q4⟩ := M.at' j us q
      have hb : b ≠ a := fun z => by
        subst z
        exact hj (M.inj j i b _ _ q e q1 hc)
      exact ⟨b, ws, q1, by rw [Qp hb]; exact q2, q3, ZF (fun _ _ z => sm z) q4⟩
theorem ZhN (M : MemR K cm m H) {i : Nat} {ts : List T} (e : m[i]? = some (some (false, ts))) :
    ∃ a vs, cm[i]? = some a ∧ H a = some (.lst vs) ∧ K.lookup a = none ∧ Ext cm m H cm (m.set i none) H ∧ MemR K cm (m.set i none) H ∧ RTs K cm (m.set i none) H ts vs ∧ RT K cm (m.set i none) H (.lst ts) (.ref a) := by
  obtain ⟨a, vs, q1, q2, q3, q4⟩ := M.at' i _ e
  have hi : i < m.length := (List.getElem?_eq_some_iff.mp e).1
  have lv : ∀ {j : Nat} {us : Bool × List T}, (m.set i none)[j]? = some (some us) → m[j]? = some (some us) ∧ j ≠ i := fun {j us} q => by
    by_cases hj : j = i
    · subst hj; rw [List.getElem?_set_self hi] at q; cases q
    · rw [List.getElem?_set_ne (Ne.symm hj)] at q; exact ⟨q, hj⟩
  have nl : ∀ {b : Addr}, ZX cm m b → ZX cm (m.set i none) b := fun {b} n j us q => n j us (lv q).1
  have sm : ∀ {t : T} {v : V}, RT K cm m H t v → RT K cm (m.set i none) H t v := fun h => h.same (fun _ _ z => z) fun _ n _ => nl n
  have na : ZX cm (m.set i none) a := fun j us q z => (lv q).2 (M.inj j i a _ _ (lv q).1 e z q1)
  have rs : RTs K cm (m.set i none) H ts vs := ZF (fun _ _ z => sm z) q4
  refine ⟨a, vs, q1, q2, q3, ⟨fun _ _ h => h, by simp, fun j us h => ?_, fun b o h n => ⟨h, nl n⟩⟩, ⟨by simp [M.len], fun j k b us us' e1 e2 => M.inj j k b _ _ (lv e1).1 (lv e2).1, fun j us q => ?_⟩, rs, .mlst q2 na rs⟩
  · by_cases hj : j = i
    · subst hj; rw [e] at h; cases h
    · rw [List.getElem?_set_ne (Ne.symm hj)]; exact h
  · obtain ⟨b, ws, p1, p2, p3, p4⟩ := M.at' j us (lv q).1
    exact ⟨b, ws, p1, p2, p3, ZF (fun _ _ z => sm z) p4⟩
theorem Zb1 (M : MemR K cm m H) {i : Nat} {b b' : Bool} {ts : List T} (e : m[i]? = some (some (b, ts))) :
    (∀ a, ZX cm m a ↔ ZX cm (m.set i (some (b', ts))) a) ∧ MemR K cm (m.set i (some (b', ts))) H ∧ (∀ t v, RT K cm m H t v → RT K cm (m.set i (some (b', ts))) H t v) := by
  have hi : i < m.length := (List.getElem?_eq_some_iff.mp e).1
  have nl : ∀ a, ZX cm m a ↔ ZX cm (m.set i (some (b', ts))) a := fun a => by
    constructor
    · intro n j us q
      obtain ⟨d, q'⟩ := XC e q
      exact n j d q'
    · intro n j us q
      by_cases hj : j = i
      · subst hj
        exact n j _ (List.getElem?_set_self hi)
      · exact n j us (by rw [List.getElem?_set_ne (Ne.symm hj)]; exact q)
  have sm : ∀ t v, RT K cm m H t v → RT K cm (m.set i (some (b', ts))) H t v := fun t v h => h.same (fun _ _ z => z) fun a n _ => (nl a).mp n
  refine ⟨nl, ⟨by simp [M.len], fun j k a us us' e1 e2 f1 f2 => ?_, fun j us q => ?_⟩, sm⟩
  · obtain ⟨_, e1⟩ := XC e e1
    obtain ⟨_, e2⟩ := XC e e2
    exact M.inj j k a _ _ e1 e2 f1 f2
  · by_cases hj : j = i
    · subst hj
      rw [List.getElem?_set_self hi] at q
      cases q
      obtain ⟨a, vs, q1, q2, q3, q4⟩ := M.at' j _ e
      exact ⟨a, vs, q1, q2, q3, ZF (fun _ _ z => sm _ _ z) q4⟩
    · rw [List.getElem?_set_ne (Ne.symm hj)] at q
      obtain ⟨a, vs, q1, q2, q3, q4⟩ := M.at' j us q
      exact ⟨a, vs, q1, q2, q3, ZF (fun _ _ z => sm _ _ z) q4⟩
theorem ZhM (M : MemR K cm m H) {i : Nat} {b : Bool} {ts : List T} (e : m[i]? = some (some (b, ts))) : Ext cm m H cm (m.set i (some (true, ts))) H ∧ MemR K cm (m.set i (some (true, ts))) H := by
  have hi : i < m.length := (List.getElem?_eq_some_iff.mp e).1
  obtain ⟨nl, M', _⟩ := Zb1 (b' := true) M e
  refine ⟨⟨fun _ _ h => h, by simp, fun j us h => ?_, fun a o h n => ⟨h, (nl a).mp n⟩⟩, M'⟩
  by_cases hj : j = i
  · subst hj
    rw [e] at h; cases h
    exact List.getElem?_set_self hi
  · rw [List.getElem?_set_ne (Ne.symm hj)]; exact h
theorem Xn {cm' : List Addr} {m1 m' : Mem} {H' : Hp} {w : W} {ts : List T} (M : MemR K cm m H) (e : QD w m = .ok ts m1) (x : Ext cm m1 H cm' m' H') (M' : MemR K cm' m' H') :
    Ext cm m H cm' (giveBack w m m') H' ∧ MemR K cm' (giveBack w m m') H' ∧ ∀ t v, RT K cm' m' H' t v → RT K cm' (giveBack w m m') H' t v := by
  cases w with
  | t t =>
    unfold QD at e
    dsimp only at e
    split at e <;> cases e
    exact ⟨x, M', fun _ _ h => h⟩
  | f a => cases e
  | c i =>
    unfold QD at e
    dsimp only at e
    split at e
    · rename_i b us h
      cases e
      have hi : i < m.length := (List.getElem?_eq_some_iff.mp h).1
      have h' : m'[i]? = some (some (true, ts)) := x.lent i ts (List.getElem?_set_self hi)
      have hi' : i < m'.length := (List.getElem?_eq_some_iff.mp h').1
      obtain ⟨nl, M2, sm⟩ := Zb1 (b' := b) M' h'
      have eg : giveBack (.c i) m m' = m'.set i (some (b, ts)) := by unfold giveBack; dsimp only; rw [h]
      rw [eg]
      obtain ⟨nl0, M1, _⟩ := Zb1 (b' := true) M h
      refine ⟨⟨fun j a q => x.pre j a q, by rw [List.length_set]; have := x.len; rw [List.length_set] at this; exact this, fun j vs q => ?_, fun a o q n => ?_⟩, M2, sm⟩
      · by_cases hj : j = i
        · subst hj
          rw [h] at q; cases q
          exact List.getElem?_set_self hi'
        · rw [List.getElem?_set_ne (Ne.symm hj)]
          exact x.lent j vs (by rw [List.getElem?_set_ne (Ne.symm hj)]; exact q)
      · obtain ⟨q1, q2⟩ := x.keep a o q ((nl0 a).mp n)
        exact ⟨q1, (nl a).mp q2⟩
    · cases e
end
end Mi
end
section
namespace Mi
open PySem PySem.Spec PyProof.Rows L2
section
variable {K : PySem.W.Frag} {cm : List Addr} {m : Mem} {H : Hp} {xr : XR} {X : Cx}
theorem Qo : lim ≤ sizeLine := by rw [sizeLine_eq]; decide
theorem JM {o : Option T} {k : W → List Addr → Mem → Hp → Prop} (h : OkR K (pur o m) xr cm m H k) : ∃ t, o = some t ∧ OkR K (.ok (.t t) m) xr cm m H k := by
  cases o with
  | none => exact h.elim
  | some t => exact ⟨t, rfl, h⟩
theorem Zdl {α : Type} {o p : Option T} {f : T → T → Option α} {z : α} (h : (o.bind fun x => p.bind fun y => f x y) = some z) : ∃ x y, o = some x ∧ p = some y ∧ f x y = some z := by
  cases o with
  | none => cases h
  | some x =>
    cases p with
    | none => cases h
    | some y => exact ⟨x, y, rfl, rfl, h⟩
theorem strApp (a b : List Nat) : (⟨a.toArray⟩ : Str) ++ ⟨b.toArray⟩ = ⟨(a ++ b).toArray⟩ := by
  show (⟨a.toArray ++ b.toArray⟩ : Str) = _
  simp
theorem Zag (a : List Nat) : (⟨a.toArray⟩ : Str).length = a.length := by simp [Str.length]
theorem ans {t : T} {Q : VK} (ho : OkR K (.ok (.t t) m) xr cm m H fun w cm' m' H' => ∀ v, RW K cm' m' H' w v → Q v H') (M : MemR K cm m H) {v : V} (r : RT K cm m H t v) : Q v H := ho.now M v r
theorem ZcL {ts : List T} {Q : VK} (ho : OkR K (.ok (.t (.tup ts)) m) xr cm m H fun w cm' m' H' => ∀ v, RW K cm' m' H' w v → Q v H') (M : MemR K cm m H) {vs : List V} (r : RTs K cm m H ts vs) {p : Addr} (hp : H p = none) :
    Q (.ref p) (upd H p (.tup vs)) := ho.to (.new hp) (M.new hp) _ (RT.newTup r hp)
theorem Zb8 {ts : List T} {Q : VK} (ho : OkR K (.ok (.t (.lst ts)) m) xr cm m H fun w cm' m' H' => ∀ v, RW K cm' m' H' w v → Q v H') (M : MemR K cm m H) {vs : List V} (r : RTs K cm m H ts vs) {p : Addr} (hp : H p = none) :
    Q (.ref p) (upd H p (.lst vs)) := ho.to (.new hp) (M.new hp) _ (RT.newLst M r hp)
theorem Zkj {i j : Int} (h1 : i.natAbs < bigN) (h2 : j.natAbs < bigN) : IntMulOk i j := by
  have b : ∀ {k : Int}, k.natAbs < bigN → Builtin.Int.intBits k ≤ 2000 := fun {k} h => intBits_le (by
    have e : bigN = 2 ^ (250 * 8) := by unfold bigN; rw [← Nat.pow_mul]
    rw [e] at h
    exact h)
  exact mulOk_of_bits (b h1) (b h2) (by decide)
theorem Zdu {i : Int} (h : small i = true) : -(2 ^ 64) < i ∧ i < 2 ^ 64 := by
  have h' : i.natAbs < 2 ^ 64 := of_decide_eq_true h
  omega
theorem ZiL {i j : Int} (h : ZaT i j = true) : IntMulOk i j := by
  unfold ZaT at h
  simp only [Bool.or_eq_true, Bool.and_eq_true, decide_eq_true_eq] at h
  rcases h with (h | h) | ⟨h1, h2⟩
  · exact CMul.ok (.inl (Zdu h))
  · exact CMul.ok (.inr (Zdu h))
  · exact Zkj h1 h2
theorem Zj9 : OpR X (binaryOp .Mult) (rI (fun i j => ZaT i j = true) fun i j => .int (i * j)) := opI fun _ _ _ _ _ _ _ hc q => mul_int q (ZiL hc)
theorem ZkK {prog : Program} {w : World} {A : Around} {E : Value → Shared → Prop} {s : Shared} {t b : Addr} {ws : List Value} {Q : Value → Shared → Prop} (ht : IsTup s.heap t ([] : List Value).toArray) (hb : IsTup s.heap b ws.toArray)
    (h : Q (.ref b) s) : wpAny (model prog w) A (binaryOp .Add (.ref t) (.ref b)) Q E s := by
  obtain ⟨⟨cls, dd, data, sl⟩, ho, hc, n, hd⟩ := id ht
  obtain ⟨⟨cls2, dd2, data2, sl2⟩, ho2, hc2, n2, hd2⟩ := id hb
  simp only at hc hd hc2 hd2
  subst hc hd hc2 hd2
  exact concat_meets ⟨_, ho, rfl⟩ ⟨_, ho2, rfl⟩ noFill_tuple_add seq_tuple_add PySem.F.slot_tuple_add PySem.F.entry_tuple_add (PySem.F.args_tuple_add_2 _ _)
      (tuple_addW0 t b ([] : List Value).toArray ws.toArray n n2 dd dd2 sl sl2 (by simp)) ⟨ho, ho2, h⟩
theorem Zj8 : OpR X (binaryOp .Add) (fun x y H Q => ∃ a b ys, x = .ref a ∧ y = .ref b ∧ SqT X.K H a [] ∧ SqT X.K H b ys ∧ Q (.ref b) H) := by
  intro pins s σ H x y v u Q I rx ry h
  obtain ⟨a, b, ys, rfl, rfl, ha, hb, q⟩ := h
  cases rx
  cases ry
  obtain ⟨its, r1, p1, _⟩ := I.tuple ha
  obtain ⟨its2, r2, p2, _⟩ := I.tuple hb
  cases r1
  exact ZkK p1 p2 ⟨.ref b, H, I, rfl, q⟩
theorem Zax {f : Int → Int → Option T} {x y t : T} (e : intT f x y = some t) : ∃ i j, x = .int i ∧ y = .int j ∧ f i j = some t := by
  cases x with
  | int i => cases y with
    | int j => exact ⟨i, j, rfl, rfl, e⟩
    | _ => cases e
  | _ => cases e
theorem ZaW {f : Int → Int → Bool} {x y : T} {c : Bool} (e : ZiQ f x y = some c) : ∃ i j, x = .int i ∧ y = .int j ∧ f i j = c := by
  cases x with
  | int i => cases y with
    | int j => exact ⟨i, j, rfl, rfl, Option.some.inj e⟩
    | _ => cases e
  | _ => cases e
noncomputable def fBin (op : Operator) (x y : W) (m : Mem) : Res W := pur ((view x m).bind fun x => (view y m).bind fun y => binT op x y) m
theorem ZfI : OpR X (binaryOp .Add) (r2 X.K xr (fBin .Add)) := by
  rintro pins s σ H x y v u Q I rx ry ⟨cm, m, a, b, M, ra, rb, ho⟩
  obtain ⟨t, e, ho⟩ := JM ho
  obtain ⟨ta, tb, ea, eb, e⟩ := Zdl e
  change addT ta tb = some t at e
  unfold addT at e
  have hz := Qo
  split at e
  · cases e
    cases (Zm ra ea (fun _ z => by cases z)).vint
    cases (Zm rb eb (fun _ z => by cases z)).vint
    exact op_add pins s σ H _ _ v u Q I rx ry ⟨_, _, rfl, rfl, ans ho M (.int _)⟩
  · split at e <;> cases e
    cases (Zm ra ea (fun _ z => by cases z)).vstr
    cases (Zm rb eb (fun _ z => by cases z)).vstr
    exact ZfJ pins s σ H _ _ v u Q I rx ry ⟨_, _, rfl, rfl, by rw [Zag, Zag]; omega, by rw [strApp]; exact ans ho M (.str _)⟩
  · split at e <;> cases e
    obtain ⟨p, vs, rfl, h1, r1⟩ := (Zm ra ea (fun _ z => by cases z)).itup
    obtain ⟨q, us, rfl, h2, r2⟩ := (Zm rb eb (fun _ z => by cases z)).itup
    have l1 := r1.length
    have l2 := r2.length
    cases vs with
    | nil =>
      cases r1
      exact Zj8 pins s σ H _ _ v u Q I rx ry ⟨p, q, us, rfl, rfl, h1, h2, ans ho M (.mtup h2 r2)⟩
    | cons v1 vs =>
      refine Zkb pins s σ H _ _ v u Q I rx ry ⟨p, q, _, us, rfl, rfl, h1, h2, by simp, by omega, fun z => ?_, fun z l hl => ZcL ho M (QL r1 r2) hl⟩
      subst z
      cases r2
      rw [List.append_nil] at ho
      exact ans ho M (.mtup h1 r1)
  · split at e <;> cases e
    obtain ⟨p, vs, rfl, h1, r1⟩ := Qh M ra ea
    obtain ⟨q, us, rfl, h2, r2⟩ := Qh M rb eb
    have l1 := r1.length
    have l2 := r2.length
    exact op_cat pins s σ H _ _ v u Q I rx ry ⟨p, q, vs, us, rfl, rfl, h1, h2, by omega, fun l hl => Zb8 ho M (QL r1 r2) hl⟩
  all_goals cases e
theorem ZfE : OpR X (binaryOp .Sub) (r2 X.K xr (fBin .Sub)) := by
  rintro pins s σ H x y v u Q I rx ry ⟨cm, m, a, b, M, ra, rb, ho⟩
  obtain ⟨t, e, ho⟩ := JM ho
  obtain ⟨ta, tb, ea, eb, e⟩ := Zdl e
  obtain ⟨i, j, rfl, rfl, e2⟩ := Zax e
  cases (Zm ra ea (fun _ z => by cases z)).vint
  cases (Zm rb eb (fun _ z => by cases z)).vint
  cases e2
  exact op_sub pins s σ H _ _ v u Q I rx ry ⟨_, _, rfl, rfl, ans ho M (.int _)⟩
theorem Zen : OpR X (binaryOp .FloorDiv) (r2 X.K xr (fBin .FloorDiv)) := by
  rintro pins s σ H x y v u Q I rx ry ⟨cm, m, a, b, M, ra, rb, ho⟩
  obtain ⟨t, e, ho⟩ := JM ho
  obtain ⟨ta, tb, ea, eb, e⟩ := Zdl e
  obtain ⟨i, j, rfl, rfl, e2⟩ := Zax e
  cases (Zm ra ea (fun _ z => by cases z)).vint
  cases (Zm rb eb (fun _ z => by cases z)).vint
  split at e2 <;> cases e2
  exact Zka pins s σ H _ _ v u Q I rx ry ⟨_, _, rfl, rfl, ‹_ ∧ _›, ans ho M (.int _)⟩
theorem ZfH : OpR X (binaryOp .Mod) (r2 X.K xr (fBin .Mod)) := by
  rintro pins s σ H x y v u Q I rx ry ⟨cm, m, a, b, M, ra, rb, ho⟩
  obtain ⟨t, e, ho⟩ := JM ho
  obtain ⟨ta, tb, ea, eb, e⟩ := Zdl e
  obtain ⟨i, j, rfl, rfl, e2⟩ := Zax e
  cases (Zm ra ea (fun _ z => by cases z)).vint
  cases (Zm rb eb (fun _ z => by cases z)).vint
  split at e2 <;> cases e2
  exact op_mod pins s σ H _ _ v u Q I rx ry ⟨_, _, rfl, rfl, ‹_›, ans ho M (.int _)⟩
theorem ZfF : OpR X (binaryOp .Pow) (r2 X.K xr (fBin .Pow)) := by
  rintro pins s σ H x y v u Q I rx ry ⟨cm, m, a, b, M, ra, rb, ho⟩
  obtain ⟨t, e, ho⟩ := JM ho
  obtain ⟨ta, tb, ea, eb, e⟩ := Zdl e
  obtain ⟨i, j, rfl, rfl, e2⟩ := Zax e
  cases (Zm ra ea (fun _ z => by cases z)).vint
  cases (Zm rb eb (fun _ z => by cases z)).vint
  have hc : 0 ≤ j ∧ j ≤ 1000 ∧ i.natAbs < 2 ^ 64 := by
    by_cases hc : 0 ≤ j ∧ j ≤ 1000 ∧ i.natAbs < 2 ^ 64
    · exact hc
    · rw [if_neg hc] at e2; cases e2
  rw [if_pos hc] at e2
  cases e2
  exact op_pow pins s σ H _ _ v u Q I rx ry ⟨_, _, rfl, rfl, ⟨hc.1, by omega, hc.2.2⟩, ans ho M (.int _)⟩
theorem ZaQ {α β : Type} {F : α → β → Prop} {xs : List α} {ys : List β} (h : Paired F xs ys) : ∀ k : Nat, Paired F (repT xs k) (List.replicate k ys).flatten
  | 0 => .nil
  | k + 1 => by
    unfold repT
    rw [List.replicate_succ, List.replicate_succ, List.flatten_cons, List.flatten_cons]
    exact QL h (ZaQ h k)
end
end Mi
end
section
namespace Mi
open PySem PySem.Spec PyProof.Rows L2
section
variable {K : PySem.W.Frag} {cm : List Addr} {m : Mem} {H : Hp} {xr : XR} {X : Cx}
noncomputable def fCmp (op : CmpOp) (x y : W) (m : Mem) : Res W := pur (((view x m).bind fun x => (view y m).bind fun y => cmpT op x y).map .bl) m
theorem X3 {op : CmpOp} {a b : W} {k : W → List Addr → Mem → Hp → Prop} (h : OkR K (fCmp op a b m) xr cm m H k) : ∃ ta tb c, view a m = some ta ∧ view b m = some tb ∧ cmpT op ta tb = some c ∧ OkR K (.ok (.t (.bl c)) m) xr cm m H k := by
  obtain ⟨t, e, ho⟩ := JM h
  cases q : ((view a m).bind fun x => (view b m).bind fun y => cmpT op x y) with
  | none => rw [q] at e; cases e
  | some c =>
    rw [q] at e; cases e
    obtain ⟨ta, tb, ea, eb, e⟩ := Zdl q
    exact ⟨ta, tb, c, ea, eb, e, ho⟩
noncomputable def flV : T → V
  | .bl b => .bl b
  | .int i => .int i
  | .str cs => .str ⟨cs.toArray⟩
  | _ => .non
theorem RT.fl {t : T} {v : V} (h : RT K cm m H t v) (f : flat t = true) : v = flV t := by
  cases h <;> first | rfl | cases f
theorem JR {w : W} {v : V} {t : T} (h : RW K cm m H w v) (e : view w m = some t) (f : flat t = true) : v = flV t :=
  (Zm h e (fun ts z => by subst z; cases f)).fl f
theorem Zec {a b : List Nat} : (⟨a.toArray⟩ : Str) = ⟨b.toArray⟩ ↔ a = b := by
  constructor
  · intro h
    injection h with h
    simpa using h
  · intro h; rw [h]
theorem Zi3 {a b : List Nat} : decide (V.str ⟨a.toArray⟩ = V.str ⟨b.toArray⟩) = (a == b) := by
  by_cases h : a = b
  · subst h; simp
  · rw [beq_eq_false_iff_ne.mpr h]
    exact decide_eq_false fun z => h (Zec.mp (V.str.inj z))
theorem Zgy {x y : T} (h : Zdx x y = true) : flat x = true ∧ flat y = true ∧ scal (flV x) (flV y) = true ∧ decide (flV x = flV y) = eqT x y := by
  cases x <;> cases y <;> first
    | (cases h; done)
    | (refine ⟨rfl, rfl, rfl, ?_⟩; unfold eqT; first | exact Zez | exact ZhF | exact Zi3 | exact decide_eq_true rfl | exact decide_eq_false (fun z => nomatch z))
theorem ZkF (x y : T) : cmpT .Eq x y = if Zdx x y || (Zu 60 x && Zu 60 y) then some (eqT x y) else none := by cases x <;> cases y <;> rfl
theorem ZkE (x y : T) : cmpT .NotEq x y = if Zdx x y || (Zu 60 x && Zu 60 y) then some (!eqT x y) else none := by cases x <;> cases y <;> rfl
mutual
noncomputable def pyT : T → PyData
  | .bl b => .bool b
  | .int i => .int i
  | .str cs => .str ⟨cs.toArray⟩
  | .tup ts => .tuple (pyTs ts)
  | .lst ts => .list (pyTs ts)
  | _ => .none
noncomputable def pyTs : List T → List PyData
  | [] => []
  | t :: ts => pyT t :: pyTs ts
end
mutual
theorem ZdA : ∀ (n : Nat) (t : T), Zu n t = true → PyData.canLay0 (pyT t) = true ∧ PyData.depth (pyT t) ≤ n
  | n, .non, h => ⟨by simp [pyT, PyData.canLay0], by simp [pyT, PyData.depth]⟩
  | n, .bl b, h => ⟨by rw [pyT]; simp [PyData.canLay0], by rw [pyT]; simp [PyData.depth]⟩
  | n, .int i, h => ⟨by rw [pyT]; simp [PyData.canLay0], by rw [pyT]; simp [PyData.depth]⟩
  | n, .str cs, h => ⟨by rw [pyT, PyData.canLay0]; rw [Zu] at h; exact h, by rw [pyT]; simp [PyData.depth]⟩
  | 0, .tup ts, h => by simp [Zu] at h
  | 0, .lst ts, h => by simp [Zu] at h
  | n + 1, .tup ts, h => by
    rw [Zu] at h
    have := Zef n ts h
    exact ⟨by rw [pyT, PyData.canLay0]; exact this.1, by rw [pyT]; simp only [PyData.depth]; omega⟩
  | n + 1, .lst ts, h => by
    rw [Zu] at h
    have := Zef n ts h
    exact ⟨by rw [pyT, PyData.canLay0]; exact this.1, by rw [pyT]; simp only [PyData.depth]; omega⟩
  | n, .dct _ _, h => by cases n <;> simp [Zu] at h
  | n, .scr _, h => by cases n <;> simp [Zu] at h
theorem Zef : ∀ (n : Nat) (ts : List T), ZM n ts = true → PyData.canLayAll0 (pyTs ts) = true ∧ PyData.depthAll (pyTs ts) ≤ n
  | n, [], h => ⟨by rw [pyTs]; simp [PyData.canLayAll0], by rw [pyTs]; simp [PyData.depthAll]⟩
  | n, t :: ts, h => by
    rw [ZM, Bool.and_eq_true] at h
    have h1 := ZdA n t h.1
    have h2 := Zef n ts h.2
    refine ⟨by rw [pyTs, PyData.canLayAll0, h1.1, h2.1]; rfl, ?_⟩
    rw [pyTs, PyData.depthAll]
    omega
end
theorem str_beq {a b : List Nat} : ((⟨a.toArray⟩ : Str) == ⟨b.toArray⟩) = (a == b) := by
  by_cases h : a = b
  · subst h; simp
  · rw [beq_eq_false_iff_ne.mpr h, beq_eq_false_iff_ne.mpr fun z => h (Zec.mp z)]
mutual
theorem ZgC : ∀ (n k : Nat) (x y : T), Zu n x = true → Zu k y = true → PyData.eqv (pyT x) (pyT y) = eqT x y
  | n, k, .tup xs, .tup ys, h1, h2 => by
    cases n with
    | zero => simp [Zu] at h1
    | succ n => cases k with
      | zero => simp [Zu] at h2
      | succ k =>
        rw [Zu] at h1 h2
        rw [pyT, pyT, PyData.eqv, eqT]
        exact Zeg n k xs ys h1 h2
  | n, k, .lst xs, .lst ys, h1, h2 => by
    cases n with
    | zero => simp [Zu] at h1
    | succ n => cases k with
      | zero => simp [Zu] at h2
      | succ k =>
        rw [Zu] at h1 h2
        rw [pyT, pyT, PyData.eqv, eqT]
        exact Zeg n k xs ys h1 h2
  | n, k, .str xs, .str ys, _, _ => by rw [pyT, pyT, PyData.eqv, eqT]; exact str_beq
  | n, k, .non, y, _, h2 => by cases y <;> first | (simp [pyT, PyData.eqv, eqT]; done) | (cases k <;> simp [Zu] at h2)
  | n, k, .bl b, y, _, h2 => by cases y <;> first | (simp [pyT, PyData.eqv, eqT, b2i]; done) | (cases k <;> simp [Zu] at h2)
  | n, k, .int b, y, _, h2 => by cases y <;> first | (simp [pyT, PyData.eqv, eqT, b2i]; done) | (cases k <;> simp [Zu] at h2)
  | n, k, .str xs, .non, _, _ => by simp [pyT, PyData.eqv, eqT]
  | n, k, .str xs, .bl _, _, _ => by simp [pyT, PyData.eqv, eqT]
  | n, k, .str xs, .int _, _, _ => by simp [pyT, PyData.eqv, eqT]
  | n, k, .str xs, .tup _, _, _ => by simp [pyT, PyData.eqv, eqT]
  | n, k, .str xs, .lst _, _, _ => by simp [pyT, PyData.eqv, eqT]
  | n, k, .tup xs, .non, _, _ => by simp [pyT, PyData.eqv, eqT]
  | n, k, .tup xs, .bl _, _, _ => by simp [pyT, PyData.eqv, eqT]
  | n, k, .tup xs, .int _, _, _ => by simp [pyT, PyData.eqv, eqT]
  | n, k, .tup xs, .str _, _, _ => by simp [pyT, PyData.eqv, eqT]
  | n, k, .tup xs, .lst _, _, _ => by simp [pyT, PyData.eqv, eqT]
  | n, k, .lst xs, .non, _, _ => by simp [pyT, PyData.eqv, eqT]
  | n, k, .lst xs, .bl _, _, _ => by simp [pyT, PyData.eqv, eqT]
  | n, k, .lst xs, .int _, _, _ => by simp [pyT, PyData.eqv, eqT]
  | n, k, .lst xs, .str _, _, _ => by simp [pyT, PyData.eqv, eqT]
  | n, k, .lst xs, .tup _, _, _ => by simp [pyT, PyData.eqv, eqT]
  | n, k, x, .dct _ _, _, h2 => by cases k <;> simp [Zu] at h2
  | n, k, x, .scr _, _, h2 => by cases k <;> simp [Zu] at h2
  | n, k, .dct _ _, y, h1, _ => by cases n <;> simp [Zu] at h1
  | n, k, .scr _, y, h1, _ => by cases n <;> simp [Zu] at h1
theorem Zeg : ∀ (n k : Nat) (xs ys : List T), ZM n xs = true → ZM k ys = true → PyData.eqvAll (pyTs xs) (pyTs ys) = eqTs xs ys
  | n, k, [], [], _, _ => by rw [pyTs, PyData.eqvAll, eqTs]
  | n, k, [], _ :: _, _, _ => by rw [pyTs, pyTs, PyData.eqvAll, eqTs] <;> simp
  | n, k, _ :: _, [], _, _ => by rw [pyTs, pyTs, PyData.eqvAll, eqTs] <;> simp
  | n, k, x :: xs, y :: ys, h1, h2 => by
    rw [ZM, Bool.and_eq_true] at h1 h2
    rw [pyTs, pyTs, PyData.eqvAll, eqTs, ZgC n k x y h1.1 h2.1, Zeg n k xs ys h1.2 h2.2]
end
theorem Zao {pins : List (Addr × Obj)} {σ : L2.St} {s : Shared} (I : Inv X pins σ H s) : ∀ {ts : List T} {vs : List V} {us : List Value}, ts.length = vs.length → (∀ (i : Nat) t v u, ts[i]? = some t → vs[i]? = some v → RelV v u → ∃ as, Reads s.heap u (pyT t) as) → Vals vs us → ∃ as, ReadsAll s.heap us (pyTs ts) as
  | [], [], _, _, _, .nil => ⟨_, by rw [pyTs]; exact .nil⟩
  | t :: ts, v :: vs, _, hl, h, .cons r rs => by
    obtain ⟨as, h1⟩ := h 0 t v _ rfl rfl r
    obtain ⟨bs, h2⟩ := Zao I (ts := ts) (vs := vs) (by simpa using hl) (fun i t v u a b c => h (i + 1) t v u (by simpa using a) (by simpa using b) c) rs
    exact ⟨_, by rw [pyTs]; exact .cons h1 h2⟩
  | [], _ :: _, _, hl, _, _ => by simp at hl
  | _ :: _, [], _, hl, _, _ => by simp at hl
theorem RT.reads {pins : List (Addr × Obj)} {σ : L2.St} {s : Shared} {K : PySem.W.Frag} (hK : X.K = K) (I : Inv X pins σ H s) {t : T} {v : V} (h : RT K cm m H t v) : ∀ {n : Nat} {u : Value}, Zu n t = true → RelV v u → ∃ as, Reads s.heap u (pyT t) as := by
  subst hK
  induction h with
  | non => intro n u _ r; cases r; exact ⟨[], by simp only [pyT]; exact .none⟩
  | bl b => intro n u _ r; cases r; exact ⟨_, by rw [pyT]; exact .bool b⟩
  | int i => intro n u _ r; obtain ⟨t, rfl⟩ := r; exact ⟨_, by rw [pyT]; exact .int i t⟩
  | str cs => intro n u _ r; obtain ⟨t, rfl⟩ := r; exact ⟨_, by rw [pyT]; exact .str _ t⟩
  | @tup a ts vs h1 h2 h3 ih =>
    intro n u hd r
    cases n with
    | zero => simp [Zu] at hd
    | succ n =>
      rw [Zu] at hd
      cases r
      obtain ⟨its, rv, ⟨o, ho, hc, k, hdt⟩, hz⟩ := I.tuple h1
      have hall : ∀ (i : Nat) t, ts[i]? = some t → Zu n t = true := fun i t e => by
        have : ∀ {l : List T}, ZM n l = true → ∀ x ∈ l, Zu n x = true := fun {l} => by
          induction l with
          | nil => intro _ x hx; cases hx
          | cons y l ih => intro h x hx; rw [ZM, Bool.and_eq_true] at h; rcases List.mem_cons.mp hx with rfl | hx; exact h.1; exact ih h.2 x hx
        exact this hd t (List.mem_of_getElem? e)
      obtain ⟨as, hr⟩ := Zao I h2 (fun i t v u e1 e2 r => ih i t v e1 e2 (hall i t e1) r) rv
      exact ⟨_, by rw [pyT]; exact .tuple ho hc hdt (by simpa using hr)⟩
  | @lst a ts vs h1 h2 h3 h4 ih =>
    intro n u hd r
    cases n with
    | zero => simp [Zu] at hd
    | succ n =>
      rw [Zu] at hd
      cases r
      obtain ⟨its, k, rv, ho, hz⟩ := I.lst h1
      have hall : ∀ (i : Nat) t, ts[i]? = some t → Zu n t = true := fun i t e => by
        have : ∀ {l : List T}, ZM n l = true → ∀ x ∈ l, Zu n x = true := fun {l} => by
          induction l with
          | nil => intro _ x hx; cases hx
          | cons y l ih => intro h x hx; rw [ZM, Bool.and_eq_true] at h; rcases List.mem_cons.mp hx with rfl | hx; exact h.1; exact ih h.2 x hx
        exact this hd t (List.mem_of_getElem? e)
      obtain ⟨as, hr⟩ := Zao I h3 (fun i t v u e1 e2 r => ih i t v e1 e2 (hall i t e1) r) rv
      exact ⟨_, by rw [pyT]; exact .list ho rfl rfl (by simpa using hr)⟩
  | dct _ _ _ _ _ _ => intro n u hd _; cases n <;> simp [Zu] at hd
  | scr _ _ => intro n u hd _; cases n <;> simp [Zu] at hd
theorem Xz {pins : List (Addr × Obj)} {σ : L2.St} {s : Shared} (I : Inv X pins σ H s) (M : MemR X.K cm m H) {w : W} {t : T} {v : V} {u : Value} (r : RW X.K cm m H w v) (e : view w m = some t) (rv : RelV v u) {n : Nat} (hd : Zu n t = true) : ∃ as, Reads s.heap u (pyT t) as := by
  cases t with
  | lst ts =>
    cases n with
    | zero => simp [Zu] at hd
    | succ n =>
      rw [Zu] at hd
      obtain ⟨a, vs, rfl, h1, rr⟩ := Qh M r e
      cases rv
      obtain ⟨its, k, rv, ho, hz⟩ := I.lst h1
      obtain ⟨as, hr⟩ := Zao I rr.length (fun i t v u e1 e2 r => RT.reads rfl I (Xk rr i t v e1 e2) (n := n) (by
        have : ∀ {l : List T}, ZM n l = true → ∀ x ∈ l, Zu n x = true := fun {l} => by
          induction l with
          | nil => intro _ x hx; cases hx
          | cons y l ih => intro h x hx; rw [ZM, Bool.and_eq_true] at h; rcases List.mem_cons.mp hx with rfl | hx; exact h.1; exact ih h.2 x hx
        exact this hd t (List.mem_of_getElem? e1)) r) rv
      exact ⟨_, by rw [pyT]; exact .list ho rfl rfl (by simpa using hr)⟩
  | _ => exact RT.reads rfl I (Zm r e (fun _ z => by cases z)) hd rv
theorem Zg4 (hu : X.A.units + 64 < cLine) : OpR X (compareOp .Eq) (r2 X.K xr (fCmp .Eq)) := by
  rintro pins s σ H x y v u Q I rx ry ⟨cm, m, a, b, M, ra, rb, ho⟩
  obtain ⟨ta, tb, c, ea, eb, e, ho⟩ := X3 ho
  rw [ZkF] at e
  split at e <;> cases e
  rename_i hs
  rw [Bool.or_eq_true] at hs
  rcases hs with hs | hs
  · obtain ⟨f1, f2, f3, f4⟩ := Zgy hs
    cases JR ra ea f1
    cases JR rb eb f2
    exact op_eq pins s σ H _ _ v u Q I rx ry ⟨f3, by rw [f4]; exact ans ho M (.bl _)⟩
  · rw [Bool.and_eq_true] at hs
    obtain ⟨as, ha⟩ := Xz I M ra ea rx hs.1
    obtain ⟨bs, hb⟩ := Xz I M rb eb ry hs.2
    have d1 := ZdA 60 ta hs.1
    have d2 := ZdA 60 tb hs.2
    refine SeqAt.compareEq_reads ha hb d1.1 d2.1 (by omega) ⟨.bl (eqT ta tb), H, I, ?_, ans ho M (.bl _)⟩
    rw [ZgC 60 60 ta tb hs.1 hs.2]
    rfl
theorem ZgX (hu : X.A.units + 64 < cLine) : OpR X (compareOp .NotEq) (r2 X.K xr (fCmp .NotEq)) := by
  rintro pins s σ H x y v u Q I rx ry ⟨cm, m, a, b, M, ra, rb, ho⟩
  obtain ⟨ta, tb, c, ea, eb, e, ho⟩ := X3 ho
  rw [ZkE] at e
  split at e <;> cases e
  rename_i hs
  rw [Bool.or_eq_true] at hs
  rcases hs with hs | hs
  · obtain ⟨f1, f2, f3, f4⟩ := Zgy hs
    cases JR ra ea f1
    cases JR rb eb f2
    exact op_ne pins s σ H _ _ v u Q I rx ry ⟨f3, by rw [f4]; exact ans ho M (.bl _)⟩
  · rw [Bool.and_eq_true] at hs
    obtain ⟨as, ha⟩ := Xz I M ra ea rx hs.1
    obtain ⟨bs, hb⟩ := Xz I M rb eb ry hs.2
    have d1 := ZdA 60 ta hs.1
    have d2 := ZdA 60 tb hs.2
    refine SeqAt.compareNe_reads ha hb d1.1 d2.1 (by omega) ⟨.bl (!eqT ta tb), H, I, ?_, ans ho M (.bl _)⟩
    rw [ZgC 60 60 ta tb hs.1 hs.2]
    rfl
theorem ZeZ : ∀ a b : List Nat, nlt a b = decide (a < b)
  | [], [] => by simp [nlt]
  | [], _ :: _ => by simp [nlt]
  | _ :: _, [] => by simp [nlt]
  | a :: x, b :: y => by
    unfold nlt
    rw [ZeZ x y]
    by_cases h : a < b
    · rw [if_pos h]
      exact (decide_eq_true (List.cons_lt_cons_iff.mpr (.inl h))).symm
    · rw [if_neg h]
      by_cases h2 : b < a
      · rw [if_pos h2]
        refine (decide_eq_false fun z => ?_).symm
        rcases List.cons_lt_cons_iff.mp z with z | ⟨z, _⟩ <;> omega
      · rw [if_neg h2]
        have e : a = b := by omega
        subst e
        simp
theorem ZgY : OpR X (compareOp .Lt) (r2 X.K xr (fCmp .Lt)) := by
  rintro pins s σ H x y v u Q I rx ry ⟨cm, m, a, b, M, ra, rb, ho⟩
  obtain ⟨ta, tb, c, ea, eb, e, ho⟩ := X3 ho
  change ltT ta tb = some c at e
  cases ta with
  | int i => cases tb with
    | int j =>
      cases e
      cases (Zm ra ea (fun _ z => by cases z)).vint
      cases (Zm rb eb (fun _ z => by cases z)).vint
      exact op_lt pins s σ H _ _ v u Q I rx ry ⟨_, _, rfl, rfl, ans ho M (.bl _)⟩
    | _ => cases e
  | str i => cases tb with
    | str j =>
      cases e
      cases (Zm ra ea (fun _ z => by cases z)).vstr
      cases (Zm rb eb (fun _ z => by cases z)).vstr
      refine ZgV pins s σ H _ _ v u Q I rx ry ⟨_, _, rfl, rfl, ?_⟩
      have := ans ho M (.bl _)
      rw [ZeZ] at this
      exact this
    | _ => cases e
  | _ => cases e
theorem ZgZ : OpR X (compareOp .LtE) (r2 X.K xr (fCmp .LtE)) := by
  rintro pins s σ H x y v u Q I rx ry ⟨cm, m, a, b, M, ra, rb, ho⟩
  obtain ⟨ta, tb, c, ea, eb, e, ho⟩ := X3 ho
  obtain ⟨i, j, rfl, rfl, rfl⟩ := ZaW e
  cases (Zm ra ea (fun _ z => by cases z)).vint
  cases (Zm rb eb (fun _ z => by cases z)).vint
  exact op_le pins s σ H _ _ v u Q I rx ry ⟨_, _, rfl, rfl, ans ho M (.bl _)⟩
theorem Zg2 : OpR X (compareOp .Gt) (r2 X.K xr (fCmp .Gt)) := by
  rintro pins s σ H x y v u Q I rx ry ⟨cm, m, a, b, M, ra, rb, ho⟩
  obtain ⟨ta, tb, c, ea, eb, e, ho⟩ := X3 ho
  obtain ⟨i, j, rfl, rfl, rfl⟩ := ZaW e
  cases (Zm ra ea (fun _ z => by cases z)).vint
  cases (Zm rb eb (fun _ z => by cases z)).vint
  exact op_gt pins s σ H _ _ v u Q I rx ry ⟨_, _, rfl, rfl, ans ho M (.bl _)⟩
theorem Zg3 : OpR X (compareOp .GtE) (r2 X.K xr (fCmp .GtE)) := by
  rintro pins s σ H x y v u Q I rx ry ⟨cm, m, a, b, M, ra, rb, ho⟩
  obtain ⟨ta, tb, c, ea, eb, e, ho⟩ := X3 ho
  obtain ⟨i, j, rfl, rfl, rfl⟩ := ZaW e
  cases (Zm ra ea (fun _ z => by cases z)).vint
  cases (Zm rb eb (fun _ z => by cases z)).vint
  exact op_ge pins s σ H _ _ v u Q I rx ry ⟨_, _, rfl, rfl, ans ho M (.bl _)⟩
theorem Zi0 {a b : List Nat} : eqV (.str ⟨a.toArray⟩) (.str ⟨b.toArray⟩) = (a == b) := by
  show ((⟨a.toArray⟩ : Str) == ⟨b.toArray⟩) = (a == b)
  by_cases h : a = b
  · subst h; simp
  · rw [beq_eq_false_iff_ne.mpr h, beq_eq_false_iff_ne.mpr fun z => h (Zec.mp z)]
theorem fl_eqV {x y : T} (f : flat x = true) (g : flat y = true) : eqV (flV y) (flV x) = eqT y x := by
  cases x <;> cases y <;> first
    | (cases f; done)
    | (cases g; done)
    | (unfold eqT; exact Zi0)
    | (unfold eqT; rfl)
theorem RTs.fl {ts : List T} {vs : List V} (h : RTs K cm m H ts vs) (f : ts.all flat = true) : vs = ts.map flV ∧ vs.all Zbp = true := by
  induction h with
  | nil => exact ⟨rfl, rfl⟩
  | @cons t v _ _ r _ ih =>
    rw [List.all_cons, Bool.and_eq_true] at f
    obtain ⟨h1, h2⟩ := ih f.2
    have h3 := r.fl f.1
    subst h3
    refine ⟨by rw [List.map_cons, h1], ?_⟩
    rw [List.all_cons, h2, Bool.and_true]
    cases t <;> first | rfl | (cases f.1)
theorem ZhY {x : T} (f : flat x = true) : ∀ {ts : List T}, ts.all flat = true → inV (flV x) (ts.map flV) = ts.any fun t => eqT t x
  | [], _ => rfl
  | t :: ts, g => by
    rw [List.all_cons, Bool.and_eq_true] at g
    have ih := ZhY f g.2
    unfold inV at ih ⊢
    rw [List.map_cons, List.any_cons, List.any_cons, ih, fl_eqV f g.1]
theorem Zbw {x : T} (f : flat x = true) : Zbp (flV x) = true := by cases x <;> first | rfl | cases f
end
end Mi
end
section
namespace Mi
open PySem PySem.Spec PyProof.Rows L2
section
variable {K : PySem.W.Frag} {cm : List Addr} {m : Mem} {H : Hp} {xr : XR} {X : Cx}
theorem Zjw (b : List Nat) (a : Nat) : (!(Builtin.Str.occurrences ⟨b.toArray⟩ ⟨#[a]⟩ 0 (⟨b.toArray⟩ : Str).length 1).isEmpty) = decide (a ∈ b) := by
  have := PySem.StrLaws.found_one (⟨b.toArray⟩ : Str) a
  simpa using this
theorem ZaD {x y : T} {c : Bool} (e : cmpT .In x y = some c) : (∃ a b, x = .str [a] ∧ y = .str b ∧ c = decide (a ∈ b)) ∨ (flat x = true ∧ ∃ ts, (y = .tup ts ∨ y = .lst ts) ∧ ts.all flat = true ∧ c = ts.any fun t => eqT t x) := by
  have hh : ∀ {x y : T} {c : Bool}, hasT x y = some c → flat x = true ∧ ∃ ts, (y = .tup ts ∨ y = .lst ts) ∧ ts.all flat = true ∧ c = ts.any fun t => eqT t x := by
    intro x y c e
    unfold hasT at e
    split at e
    · split at e <;> cases e
      rename_i h
      rw [Bool.and_eq_true] at h
      exact ⟨h.1, _, .inl rfl, h.2, rfl⟩
    · split at e <;> cases e
      rename_i h
      rw [Bool.and_eq_true] at h
      exact ⟨h.1, _, .inr rfl, h.2, rfl⟩
    · cases e
  cases x with
  | str cs =>
    cases cs with
    | nil => cases y <;> exact .inr (hh e)
    | cons a r =>
      cases r with
      | nil =>
        cases y with
        | str b => cases e; exact .inl ⟨a, b, rfl, rfl, rfl⟩
        | _ => exact .inr (hh e)
      | cons _ _ => cases y <;> exact .inr (hh e)
  | _ => cases y <;> exact .inr (hh e)
theorem Zf3 (x y : T) : cmpT .NotIn x y = (cmpT .In x y).map (!·) := by
  cases x with
  | str cs =>
    cases cs with
    | nil => cases y <;> rfl
    | cons a r => cases r <;> cases y <;> rfl
  | _ => cases y <;> rfl
theorem Zg1 : OpR X (compareOp .In) (r2 X.K xr (fCmp .In)) := by
  rintro pins s σ H x y v u Q I rx ry ⟨cm, m, a, b, M, ra, rb, ho⟩
  obtain ⟨ta, tb, c, ea, eb, e, ho⟩ := X3 ho
  rcases ZaD e with ⟨p, q, rfl, rfl, rfl⟩ | ⟨f, ts, hy, g, rfl⟩
  · cases (Zm ra ea (fun _ z => by cases z)).vstr
    cases (Zm rb eb (fun _ z => by cases z)).vstr
    exact ZgW pins s σ H _ _ v u Q I rx ry ⟨_, _, rfl, rfl, by rw [Zjw]; exact ans ho M (.bl _)⟩
  · cases JR ra ea f
    have fin : ∀ {vs : List V}, RTs X.K cm m H ts vs → vs = ts.map flV ∧ vs.all Zbp = true ∧ Q (.bl (inV (flV ta) vs)) H := fun r => by
      obtain ⟨h1, h2⟩ := RTs.fl r g
      exact ⟨h1, h2, by rw [h1, ZhY f g]; exact ans ho M (.bl _)⟩
    rcases hy with rfl | rfl
    · obtain ⟨p, vs, rfl, h1, r⟩ := (Zm rb eb (fun _ z => by cases z)).itup
      obtain ⟨_, f2, f3⟩ := fin r
      exact ZdF pins s σ H _ _ v u Q I rx ry ⟨p, vs, rfl, .inr h1, Zbw f, f2, f3⟩
    · obtain ⟨p, vs, rfl, h1, r⟩ := Qh M rb eb
      obtain ⟨_, f2, f3⟩ := fin r
      exact ZdF pins s σ H _ _ v u Q I rx ry ⟨p, vs, rfl, .inl (.of h1), Zbw f, f2, f3⟩
theorem ZdG : OpR X (compareOp .NotIn) (r2 X.K xr (fCmp .NotIn)) := by
  rintro pins s σ H x y v u Q I rx ry ⟨cm, m, a, b, M, ra, rb, ho⟩
  obtain ⟨ta, tb, c', ea, eb, e, ho⟩ := X3 ho
  rw [Zf3] at e
  cases e2 : cmpT .In ta tb with
  | none => rw [e2] at e; cases e
  | some c =>
  rw [e2] at e; cases e
  rcases ZaD e2 with ⟨p, q, rfl, rfl, rfl⟩ | ⟨f, ts, hy, g, rfl⟩
  · cases (Zm ra ea (fun _ z => by cases z)).vstr
    cases (Zm rb eb (fun _ z => by cases z)).vstr
    exact ZdE pins s σ H _ _ v u Q I rx ry ⟨_, _, rfl, rfl, by rw [Zjw]; exact ans ho M (.bl _)⟩
  · cases JR ra ea f
    have fin : ∀ {vs : List V}, RTs X.K cm m H ts vs → vs = ts.map flV ∧ vs.all Zbp = true ∧ Q (.bl (!inV (flV ta) vs)) H := fun r => by
      obtain ⟨h1, h2⟩ := RTs.fl r g
      exact ⟨h1, h2, by rw [h1, ZhY f g]; exact ans ho M (.bl _)⟩
    rcases hy with rfl | rfl
    · obtain ⟨p, vs, rfl, h1, r⟩ := (Zm rb eb (fun _ z => by cases z)).itup
      obtain ⟨_, f2, f3⟩ := fin r
      exact Zbd pins s σ H _ _ v u Q I rx ry ⟨p, vs, rfl, .inr h1, Zbw f, f2, f3⟩
    · obtain ⟨p, vs, rfl, h1, r⟩ := Qh M rb eb
      obtain ⟨_, f2, f3⟩ := fin r
      exact Zbd pins s σ H _ _ v u Q I rx ry ⟨p, vs, rfl, .inl (.of h1), Zbw f, f2, f3⟩
noncomputable def hdV : V → Option (Option Bool)
  | .non => some none
  | .bl b => some (some b)
  | _ => none
noncomputable def hdT : T → Option (Option Bool)
  | .non => some none
  | .bl b => some (some b)
  | _ => none
theorem RW.hd {w : W} {v : V} {t : T} (M : MemR K cm m H) (h : RW K cm m H w v) (e : view w m = some t) : hdV v = hdT t := by
  cases t with
  | lst ts => obtain ⟨a, vs, rfl, _⟩ := Qh M h e; rfl
  | _ => cases Zm h e (fun _ z => by cases z) <;> rfl
theorem is_bl {prog : Program} {w : World} {A : Around} {E : Value → Shared → Prop} {s : Shared} {x : V} {v : Value} {b : Bool} {Q : Value → Shared → Prop} (rx : RelV x v) (h : Q (.bool (hdV x == some (some b))) s) :
    wpAny (model prog w) A (compareOp .Is v (.bool b)) Q E s := by
  cases x with
  | bl c =>
    cases rx
    refine wpAny_is_plain rfl ?_
    have e : ((Value.bool c) == (Value.bool b)) = (hdV (.bl c) == some (some b)) := by cases c <;> cases b <;> rfl
    rw [e]; exact h
  | non => cases rx; exact wpAny_is_other rfl (fun z => nomatch z) h
  | int i => obtain ⟨t, rfl⟩ := rx; exact wpAny_is_other rfl (fun z => nomatch z) h
  | str i => obtain ⟨t, rfl⟩ := rx; exact wpAny_is_other rfl (fun z => nomatch z) h
  | byt i => obtain ⟨t, rfl⟩ := rx; exact wpAny_is_other rfl (fun z => nomatch z) h
  | flt i => obtain ⟨t, rfl⟩ := rx; exact wpAny_is_other rfl (fun z => nomatch z) h
  | ref a => cases rx; exact wpAny_is_other rfl (fun z => nomatch z) h
  | ty n => cases rx; exact wpAny_is_other rfl (fun z => nomatch z) h
theorem ZiP {prog : Program} {w : World} {A : Around} {E : Value → Shared → Prop} {s : Shared} {x : V} {v : Value} {b : Bool} {Q : Value → Shared → Prop} (rx : RelV x v) (h : Q (.bool (!(hdV x == some (some b)))) s) :
    wpAny (model prog w) A (compareOp .IsNot v (.bool b)) Q E s := by
  cases x with
  | bl c =>
    cases rx
    refine wpAny_isNot_plain rfl ?_
    have e : ((Value.bool c) == (Value.bool b)) = (hdV (.bl c) == some (some b)) := by cases c <;> cases b <;> rfl
    rw [e]; exact h
  | non => cases rx; exact wpAny_isNot_other rfl (fun z => nomatch z) h
  | int i => obtain ⟨t, rfl⟩ := rx; exact wpAny_isNot_other rfl (fun z => nomatch z) h
  | str i => obtain ⟨t, rfl⟩ := rx; exact wpAny_isNot_other rfl (fun z => nomatch z) h
  | byt i => obtain ⟨t, rfl⟩ := rx; exact wpAny_isNot_other rfl (fun z => nomatch z) h
  | flt i => obtain ⟨t, rfl⟩ := rx; exact wpAny_isNot_other rfl (fun z => nomatch z) h
  | ref a => cases rx; exact wpAny_isNot_other rfl (fun z => nomatch z) h
  | ty n => cases rx; exact wpAny_isNot_other rfl (fun z => nomatch z) h
theorem ZhI {x y : T} {c : Bool} (e : cmpT .Is x y = some c) : (y = .non ∧ c = (hdT x == some none)) ∨ ∃ b, y = .bl b ∧ c = (hdT x == some (some b)) := by
  cases y with
  | non => cases x <;> (cases e; exact .inl ⟨rfl, rfl⟩)
  | bl b =>
    refine .inr ⟨b, rfl, ?_⟩
    cases x with
    | bl a => cases e; cases a <;> cases b <;> rfl
    | _ => cases e; rfl
  | _ => cases x <;> cases e
theorem Zf4 (x y : T) : cmpT .IsNot x y = (cmpT .Is x y).map (!·) := by
  cases y with
  | non => cases x <;> rfl
  | bl b => cases x <;> first | rfl | (rename_i a; cases a <;> cases b <;> rfl)
  | _ => cases x <;> rfl
theorem Zju {x : V} : decide (x = .non) = (hdV x == some none) := by cases x <;> first | rfl | exact decide_eq_true rfl | exact decide_eq_false (fun z => nomatch z)
theorem Zg0 : OpR X (compareOp .Is) (r2 X.K xr (fCmp .Is)) := by
  rintro pins s σ H x y v u Q I rx ry ⟨cm, m, a, b, M, ra, rb, ho⟩
  obtain ⟨ta, tb, c, ea, eb, e, ho⟩ := X3 ho
  have hx := RW.hd M ra ea
  rcases ZhI e with ⟨rfl, rfl⟩ | ⟨k, rfl, rfl⟩
  · cases (Zm rb eb (fun _ z => by cases z)).vnon
    refine op_isN pins s σ H _ _ v u Q I rx ry ⟨rfl, ?_⟩
    rw [Zju, hx]
    exact ans ho M (.bl _)
  · cases (Zm rb eb (fun _ z => by cases z)).vbl
    cases ry
    refine is_bl rx ⟨.bl _, H, I, rfl, ?_⟩
    rw [hx]
    exact ans ho M (.bl _)
theorem ZdH : OpR X (compareOp .IsNot) (r2 X.K xr (fCmp .IsNot)) := by
  rintro pins s σ H x y v u Q I rx ry ⟨cm, m, a, b, M, ra, rb, ho⟩
  obtain ⟨ta, tb, c', ea, eb, e, ho⟩ := X3 ho
  have hx := RW.hd M ra ea
  rw [Zf4] at e
  cases e2 : cmpT .Is ta tb with
  | none => rw [e2] at e; cases e
  | some c =>
  rw [e2] at e; cases e
  rcases ZhI e2 with ⟨rfl, rfl⟩ | ⟨k, rfl, rfl⟩
  · cases (Zm rb eb (fun _ z => by cases z)).vnon
    refine Zj7 pins s σ H _ _ v u Q I rx ry ⟨rfl, ?_⟩
    rw [Zju, hx]
    exact ans ho M (.bl _)
  · cases (Zm rb eb (fun _ z => by cases z)).vbl
    cases ry
    refine ZiP rx ⟨.bl _, H, I, rfl, ?_⟩
    rw [hx]
    exact ans ho M (.bl _)
theorem Zjp (hu : X.A.units + 64 < cLine) : ∀ op : CmpOp, OpR X (compareOp op) (r2 X.K xr (fCmp op))
  | .Eq => Zg4 hu
  | .NotEq => ZgX hu
  | .Lt => ZgY
  | .LtE => ZgZ
  | .Gt => Zg2
  | .GtE => Zg3
  | .Is => Zg0
  | .IsNot => ZdH
  | .In => Zg1
  | .NotIn => ZdG
noncomputable def fIx (x y : W) (m : Mem) : Res W := pur ((view x m).bind fun x => (view y m).bind fun y => ixT x y) m
theorem Zkt (n : Nat) (i : Int) : ixOf n i = ixN n i := rfl
theorem Za8 {α β : Type} {F : α → β → Prop} {xs : List α} {ys : List β} (h : Paired F xs ys) {i : Int} {x : α} (e : atT xs i = some x) : ∃ y, atI ys i = some y ∧ F x y := by
  unfold atT at e
  unfold atI
  rw [← h.length]
  cases q : ixOf xs.length i with
  | none => rw [q] at e; cases e
  | some j =>
    rw [q] at e
    rw [Zkt] at q
    obtain ⟨y, e1, e2⟩ := Qf h e
    exact ⟨y, by rw [q]; exact e1, e2⟩
theorem ZaK (ns : List Int) : RTs K cm m H (ns.map .int) (ns.map V.int) := by
  induction ns with
  | nil => exact .nil
  | cons n ns ih => exact .cons (.int n) ih
theorem ZkR {α β : Type} (f : α → β) (xs : List α) (i : Int) : atT (xs.map f) i = (atT xs i).map f := by
  unfold atT
  rw [List.length_map]
  cases ixOf xs.length i with
  | none => rfl
  | some j => simp
theorem ix_ix : IxR X (r2 X.K xr fIx) := by
  rintro value slice pins s σ H x y v u Q I rx ry ⟨cm, m, a, b, M, ra, rb, ho⟩ hs
  obtain ⟨t, e, ho⟩ := JM ho
  obtain ⟨ta, tb, ea, eb, e⟩ := Zdl e
  unfold ixT at e
  have hz := Qo
  split at e
  · cases (Zm rb eb (fun _ z => by cases z)).vint
    obtain ⟨p, vs, rfl, h1, r⟩ := (Zm ra ea (fun _ z => by cases z)).itup
    obtain ⟨z, e1, e2⟩ := Za8 r e
    exact ix_tup value slice pins s σ H _ _ v u Q I rx ry ⟨p, vs, _, z, rfl, rfl, h1, e1, ans ho M e2⟩ hs
  · cases (Zm rb eb (fun _ z => by cases z)).vint
    obtain ⟨p, vs, rfl, h1, r⟩ := Qh M ra ea
    obtain ⟨z, e1, e2⟩ := Za8 r e
    exact Zhl value slice pins s σ H _ _ v u Q I rx ry ⟨p, vs, _, z, rfl, rfl, .of h1, e1, ans ho M e2⟩ hs
  · cases (Zm rb eb (fun _ z => by cases z)).vint
    obtain ⟨p, rfl, h1⟩ := (Zm ra ea (fun _ z => by cases z)).vscr
    rw [← ZkR] at e
    obtain ⟨z, e1, e2⟩ := Za8 (ZaK (K := X.K) (cm := cm) (m := m) (H := H) _) e
    exact Zhl value slice pins s σ H _ _ v u Q I rx ry ⟨p, _, _, z, rfl, rfl, h1.sq, e1, ans ho M e2⟩ hs
  · split at e
    · rename_i cs k hl
      cases (Zm rb eb (fun _ z => by cases z)).vint
      cases (Zm ra ea (fun _ z => by cases z)).vstr
      cases q : atT cs k with
      | none => rw [q] at e; cases e
      | some c =>
        rw [q] at e; cases e
        exact ix_str value slice pins s σ H _ _ v u Q I rx ry ⟨_, k, c, rfl, rfl, by rw [Zag]; omega, q, ans ho M (.str [c])⟩ hs
    · cases e
  · cases e
end
end Mi
end
section
namespace Mi
open PySem PySem.Spec PyProof.Rows L2
section
variable {P : Program} {w : World} {A : Around} {E : Value → Shared → Prop} {s : Shared}
structure Side (z TI TO i j a b : Addr) (k : Nat) (h : Heap) : Prop where
  zip : IsZip h z TI TO .none
  its : IsPair h TI (.ref i) (.ref j)
  out : ∃ p q, IsPair h TO p q
  one : h.IsTupleIter i a k
  two : h.IsTupleIter j b k
end
theorem Inv.turnedL {X : Cx} {pins : List (Addr × Obj)} {σ : L2.St} {H : Hp} {s : Shared} {g : Heap} {t' : Nat} {ch : List Addr} (I : Inv X pins σ H s) (k : ∀ b o, b ∉ ch → s.heap.get? b = some o → g.get? b = some o) (hf : ∀ b ∈ ch, FpOk X pins H b) :
    Inv X pins σ H { s with heap := g, toks := t' } := by
  have nit : ∀ b u, H b = some u → b ∉ ch := fun b u e z => by rw [(hf b z).1] at e; cases e
  obtain ⟨m0, hm0, _⟩ := id I.loc
  refine I.step (g' := s.gens) (d' := s.drawn) (ch := ch) (fun b hb => ⟨(hf b hb).2.2.2.1, (hf b hb).2.1, (hf b hb).2.2.2.2.1, (hf b hb).2.2.2.2.2⟩) (fun b o _ _ hc e _ => k b o hc e) (fun b o _ _ hc e _ => ⟨o.slots, k b o hc e⟩) (fun _ _ _ _ n => n)
    (fun b o hc e => ⟨o, k b o hc e⟩) (fun _ _ e => e) (fun _ _ _ e => e) (fun b ps e => ⟨#[], by rw [e]; simp⟩) (fun m hm => ?_) (fun b u e => ?_) I.bare
  · obtain ⟨o, es, ep, ho, r⟩ := hm
    exact ⟨o, es, ep, k _ o (fun z => (hf _ z).2.1 rfl) ho, r⟩
  · refine (I.hok b u e).stay (fun c v hc q => k c v ?_ q) (fun _ q => q) fun _ _ q => q
    rcases hc with z | z
    · rw [z]; exact nit b u e
    · exact nit c _ z
noncomputable def Itz (K : PySem.W.Frag) (a b : Addr) : It :=
  ⟨fun i H => ∃ xs ys x y, SqT K H a xs ∧ SqT K H b ys ∧ xs[i]? = some x ∧ ys[i]? = some y,
   fun i H v H' => ∃ x y c, (∀ xs, SqT K H a xs → xs[i]? = some x) ∧ (∀ ys, SqT K H b ys → ys[i]? = some y) ∧ H c = none ∧ v = .ref c ∧ H' = upd H c (.tup [x, y]),
   fun i H => ∃ xs, SqT K H a xs ∧ xs.length ≤ i⟩
end Mi
end
section
namespace Mi
open PySem PySem.Spec PyProof.Rows L2
noncomputable def It4 (n : Nat) (l : Nat → Nat) (xs : Nat → Array Value) (p : Nat → Nat) (h : Heap) : Prop := ∀ j : Nat, j < 4 → h.IsListIter (n + j) (l j) (p j) ∧ h.IsList (l j) (xs j) ∧ l j < n
noncomputable abbrev IsZ (h : Heap) (n : Nat) (f0 : Value) (f1 : Bool) : Prop :=
  h.get? (n + 6) = some { cls := .type "zip", dict := none, data := .fields #[f0, .bool f1, .bool false, .ref (n + 4), .ref (n + 5)], slots := #[] }
noncomputable abbrev IsQ (h : Heap) (t : Nat) (a b c d : Value) : Prop := h.get? t = some { cls := .type "tuple", data := .seq #[a, b, c, d] }
section
variable {P : Program} {w : World} {A : Around} {E : Value → Shared → Prop} {s : Shared} {n : Nat} {l : Nat → Nat} {xs : Nat → Array Value} {p : Nat → Nat}
noncomputable def Free (h : Heap) (n : Nat) : Prop := ∃ f1, IsZ h n .none f1 ∨ ∃ a : Nat, IsZ h n (rawInt a) f1
structure Sd (n : Nat) (l : Nat → Nat) (k : Nat) (h : Heap) : Prop where
  zip : Free h n
  its : IsQ h (n + 4) (.ref (n + 0)) (.ref (n + 1)) (.ref (n + 2)) (.ref (n + 3))
  out : ∃ a b c d, IsQ h (n + 5) a b c d
  pos : ∀ j : Nat, j < 4 → h.IsListIter (n + j) (l j) k ∧ l j < n
noncomputable def Kp (n : Nat) (h g : Heap) : Prop := g.objs.size = h.objs.size ∧ ∀ c o, (c < n ∨ n + 7 ≤ c) → h.get? c = some o → g.get? c = some o
end
noncomputable abbrev fp4 (n : Nat) : List Addr := [n + 6, n + 4, n + 5, n + 0, n + 1, n + 2, n + 3]
noncomputable def Itz4 (K : PySem.W.Frag) (l : Nat → Nat) : It :=
  ⟨fun i H => ∃ (xs : Nat → List V) (x : Nat → V), ∀ j : Nat, j < 4 → SqL K H (l j) (xs j) ∧ (xs j)[i]? = some (x j),
   fun i H v H' => ∃ (x : Nat → V) (c : Addr), (∀ j : Nat, j < 4 → ∀ ys, SqL K H (l j) ys → ys[i]? = some (x j)) ∧ H c = none ∧ v = .ref c ∧ H' = upd H c (.tup [x 0, x 1, x 2, x 3]),
   fun i H => ∃ xs, SqL K H (l 0) xs ∧ xs.length ≤ i⟩
noncomputable def pick4 {α : Type} (a b c d : α) : Nat → α
  | 0 => a
  | 1 => b
  | 2 => c
  | _ => d
theorem all4 {Q : Nat → Prop} (h0 : Q 0) (h1 : Q 1) (h2 : Q 2) (h3 : Q 3) : ∀ j : Nat, j < 4 → Q j
  | 0, _ => h0
  | 1, _ => h1
  | 2, _ => h2
  | 3, _ => h3
end Mi
end
section
namespace Mi
open PySem PySem.Spec PyProof.Rows L2
noncomputable def Ite (K : PySem.W.Frag) (l : Addr) : It :=
  ⟨fun i H => ∃ xs x, SqL K H l xs ∧ xs[i]? = some x,
   fun i H v H' => ∃ x c, (∀ xs, SqL K H l xs → xs[i]? = some x) ∧ H c = none ∧ v = .ref c ∧ H' = upd H c (.tup [.int (i : Int), x]),
   fun i H => ∃ xs, SqL K H l xs ∧ xs.length ≤ i⟩
theorem Zgo {P : Program} {w : World} {K : PySem.W.Frag} {es : List Expr} {kk} {pos : Pos} {e it l : Addr} (hei : e ≠ it) :
    Turn P w K (.Tuple es kk pos) (Ite K l) [e, it] e (fun k h => (∃ old, IsEnum h e it (k : Int) old) ∧ h.IsListIter it l k) where
  mem := by simp
  obj := fun k h st c hc => by
    obtain ⟨⟨old, he⟩, ⟨o1, e1, c1, d1⟩⟩ := st
    simp only [List.mem_cons, List.not_mem_nil, or_false] at hc
    rcases hc with rfl | rfl
    · exact ⟨_, he, fun v y => by cases (show Data.fields _ = Data.cell v from y)⟩
    · exact ⟨o1, e1, fun v y => by rw [d1] at y; cases y⟩
  keep := fun k h h' st f => by
    obtain ⟨⟨old, he⟩, h1⟩ := st
    exact ⟨⟨old, f e (by simp) _ he⟩, h1.at fun o q => f it (by simp) o q⟩
  item := by
    intro X hP hw hK hc k pins s σ H E I hf st hg
    subst hP hw hK
    obtain ⟨xs, x, q1, hx⟩ := hg
    obtain ⟨its, rv, p, _⟩ := I.list q1
    obtain ⟨u, hu, ru⟩ := rv.get hx
    obtain ⟨⟨old, he⟩, hit⟩ := st
    obtain ⟨oi, ei, _⟩ := id hit
    refine wpAny_pyNext_enum_item he hit p.isList (x := u) (by simpa using hu) hei fun h' heo hit' ht hz kp => ?_
    refine ⟨_, rfl, ?_⟩
    have fr : ∀ {c : Addr} {o : Obj}, s.heap.get? c = some o → c ≠ s.heap.objs.size := fun q => Nat.ne_of_lt (Heap.lt_size q)
    have fresh : H s.heap.objs.size = none := I.hok.fresh (Nat.le_refl _)
    have I6 : Inv X pins σ (upd H s.heap.objs.size (.tup [.int (k : Int), x])) { s with heap := s.heap.push { cls := .type "tuple", data := .seq #[.int k s.toks, u] }, toks := s.toks } :=
      I.laid (t' := s.toks) (fun c o q => Heap.get?_push_of_some _ q) (Nat.le_refl _) ⟨by unfold sizeLine; simp, [.int k s.toks, u], .cons ⟨_, rfl⟩ (.cons ru .nil), ⟨_, Heap.get?_push_size _ rfl, rfl, ⟨_, rfl⟩, rfl⟩⟩
    have hf6 : ∀ b ∈ [e, it], FpOk X pins (upd H s.heap.objs.size (.tup [.int (k : Int), x])) b := fun b hb => by
      refine ⟨?_, (hf b hb).2⟩
      have nb : b ≠ s.heap.objs.size := by
        simp only [List.mem_cons, List.not_mem_nil, or_false] at hb
        rcases hb with rfl | rfl
        · exact fr he
        · exact fr ei
      rw [Qp nb]
      exact (hf b hb).1
    have up : ∀ c o, c ∉ [e, it] → (s.heap.push { cls := .type "tuple", data := .seq #[.int k s.toks, u] }).get? c = some o → h'.get? c = some o := fun c o hc q => by
      rcases Heap.get?_push_cases q with ⟨rfl, rfl⟩ | q
      · exact ht
      · exact kp c o (fun y => hc (by simp [y])) (fun y => hc (by simp [y])) q
    have I8 : Inv X pins σ (upd H s.heap.objs.size (.tup [.int (k : Int), x])) { s with heap := h', toks := s.toks + 1 } :=
      Inv.turnedL (s := { s with heap := s.heap.push { cls := .type "tuple", data := .seq #[.int k s.toks, u] }, toks := s.toks }) (t' := s.toks + 1) (ch := [e, it]) I6 up hf6
    refine wpAny_letOwnedTupleGo_enum heo fun h2 he2 sb => ?_
    have I9 := Inv.turnedL (s := { s with heap := h', toks := s.toks + 1 }) (g := h2) (t' := s.toks + 1) (ch := [e]) I8 (fun c o hc q => sb.extBut c o (fun y => hc (by simp [y])) q) (fun b hb => hf6 b (by
      have z : b = e := by simpa using hb
      simp [z]))
    exact ⟨.ref s.heap.objs.size, upd H s.heap.objs.size (.tup [.int (k : Int), x]), I9, rfl, ⟨x, _, fun ys q => by rw [← I.list_inj q1 q]; exact hx, fresh, rfl, rfl⟩, ⟨⟨_, he2⟩, hit'.extBut sb.extBut hei.symm⟩, fun b hb => (hf6 b hb).1⟩
  done := by
    intro X hP hw hK hc k pins s σ H E I hf st hg
    subst hP hw hK
    obtain ⟨xs, q1, hx⟩ := hg
    obtain ⟨its, rv, p, _⟩ := I.list q1
    have hl := rv.length
    obtain ⟨⟨old, he⟩, hit⟩ := st
    refine wpAny_pyNext_enum_end (I.ok.hd hc) he hit p.isList (by simp; omega) fun h' kp => ⟨rfl, ?_⟩
    exact Inv.turnedL (t' := s.toks) (ch := [it]) I (fun c o hc q => kp c o (fun y => hc (by simp [y])) q) (fun b hb => hf b (by
      have z : b = it := by simpa using hb
      simp [z]))
  self := fun _ _ _ _ _ st h => by
    obtain ⟨⟨old, he⟩, _⟩ := st
    exact wpAny_pyIter_enum he h
end Mi
end
section
namespace Mi
open PySem PySem.Spec PyProof.Rows L2
noncomputable def Its (cs : List Nat) : It := ⟨fun i _ => i < cs.length, fun i H x H' => H' = H ∧ ∃ c, cs[i]? = some c ∧ x = .str ⟨#[c]⟩, fun i _ => cs.length ≤ i⟩
theorem ZeL {P : Program} {w : World} {K : PySem.W.Frag} {tg : Expr} {cs : List Nat} {it : Addr} {cl : String} {t : Tok}
    (hcl : ["enumerate", "zip", "dict_itemiterator", "dict_reverseitemiterator", "odict_iterator", "itertools.zip_longest", "itertools.pairwise"].contains cl = false)
    (hself : ∀ (A : Around) (i : Nat) (s : Shared) (Q : Value → Shared → Prop) (E : Value → Shared → Prop), s.heap.IsStrIter it cl ⟨cs.toArray⟩ t i → Q (.ref it) s → wpAny (model P w) A (pyIter (.ref it)) Q E s)
    (W : ∀ A' : Around, A'.handled = none → Walks P w A' it [it] [it] cs.length (SignAt ⟨cs.toArray⟩) (fun i h => h.IsStrIter it cl ⟨cs.toArray⟩ t i)) : Turn P w K tg (Its cs) [it] it (fun i h => h.IsStrIter it cl ⟨cs.toArray⟩ t i ∧ i ≤ cs.length) where
  mem := by simp
  obj := fun i h st b hb => by
    have e : b = it := by simpa using hb
    subst e
    obtain ⟨⟨o, e, c, d⟩, _⟩ := st
    exact ⟨o, e, fun v z => by rw [d] at z; cases z⟩
  keep := fun i h h' st k => ⟨let ⟨⟨o, ho, r⟩, _⟩ := st; ⟨o, k it (by simp) o ho, r⟩, st.2⟩
  item := by
    intro X hP hw hK hc i pins s σ H E I hf st hg
    subst hP hw hK
    obtain ⟨f0, f1, f2, f3, f4, f5⟩ := hf it (by simp)
    have hg' : i < cs.length := hg
    refine (W X.A (I.ok.hd hc)).item i s _ _ hg' st.1 fun v h' tk hv st' kk => ?_
    obtain ⟨c, u, hc', rfl⟩ := hv
    have I1 : Inv X pins σ H { s with heap := h', toks := tk } := I.turned (fun b o hb e => kk b o (by simpa using hb) e) f0 f1 f3 f4 f5
    obtain ⟨o, e, cc, d⟩ := id st'
    refine ⟨_, rfl, ZiX (s := { s with heap := h', toks := tk }) e cc d hcl ⟨.str ⟨#[c]⟩, H, I1, ⟨u, rfl⟩, ⟨rfl, c, by simpa using hc', rfl⟩, ⟨st', by omega⟩, fun b hb => (hf b hb).1⟩⟩
  done := by
    intro X hP hw hK hc i pins s σ H E I hf st hg
    subst hP hw hK
    obtain ⟨f0, f1, f2, f3, f4, f5⟩ := hf it (by simp)
    have hg' : cs.length ≤ i := hg
    have e : i = cs.length := by have := st.2; omega
    subst e
    exact (W X.A (I.ok.hd hc)).done s _ _ st.1 fun h' tk kk => ⟨rfl, I.turned (fun b o hb e => kk b o (by simpa using hb) e) f0 f1 f3 f4 f5⟩
  self := fun A i s Q E st h => hself A i s Q E st.1 h
section
variable {K : PySem.W.Frag} {cm cm' : List Addr} {m m' : Mem} {H H' : Hp} {xr : XR} {X : Cx}
variable (K) in
inductive Src (cm : List Addr) (m : Mem) (H : Hp) : It → List T → Prop where
  | tup {a : Addr} {vs : List V} {ts : List T} : SqT K H a vs → RTs K cm m H ts vs → Src cm m H (Itt K a) ts
  | lst {a : Addr} {vs : List V} {ts : List T} : H a = some (.lst vs) → ZX cm m a → RTs K cm m H ts vs → Src cm m H (Itl K a) ts
  | cel {a : Addr} {i : Nat} {ts : List T} : m[i]? = some (some (true, ts)) → cm[i]? = some a → Src cm m H (Itl K a) ts
  | scr {a : Addr} (ns : List Int) : Zd9 K H a ns → Src cm m H (Itl K a) (ns.map .int)
  | str (cs : List Nat) : Src cm m H (Its cs) (cs.map fun c => .str [c])
  | rng (lo : Int) (n : Nat) : Src cm m H (Itr lo n) (rangeT lo n)
  | zip {a b : Addr} {xs ys : List V} {ts us : List T} : SqT K H a xs → SqT K H b ys → RTs K cm m H ts xs → RTs K cm m H us ys → ts.length = us.length → Src cm m H (Itz K a b) (zipL ts us)
  | zip4 {l : Nat → Nat} {vs : Nat → List V} {ts : Nat → List T} : (∀ j : Nat, j < 4 → H (l j) = some (.lst (vs j)) ∧ ZX cm m (l j) ∧ RTs K cm m H (ts j) (vs j)) → (∀ j : Nat, j < 4 → (ts 0).length = (ts j).length) → Src cm m H (Itz4 K l) (Zgh (ts 0) (ts 1) (ts 2) (ts 3))
  | enm {a : Addr} {vs : List V} {ts : List T} : H a = some (.lst vs) → ZX cm m a → RTs K cm m H ts vs → Src cm m H (Ite K a) (Zey ts)
theorem Src.ext (x : Ext cm m H cm' m' H') (M : MemR K cm m H) (M' : MemR K cm' m' H') {J : It} {ts : List T} (h : Src K cm m H J ts) : Src K cm' m' H' J ts := by
  cases h with
  | tup h1 h2 => exact .tup (x.sqT M h1) (RTs.ext x M M' h2)
  | lst h1 h2 h3 => exact .lst (x.keep _ _ h1 h2).1 (x.keep _ _ h1 h2).2 (RTs.ext x M M' h3)
  | cel h1 h2 => exact .cel (x.lent _ _ h1) (x.pre _ _ h2)
  | scr ns h => exact .scr ns (x.scr M h)
  | str cs => exact .str cs
  | rng lo n => exact .rng lo n
  | zip h1 h2 h3 h4 h5 => exact .zip (x.sqT M h1) (x.sqT M h2) (RTs.ext x M M' h3) (RTs.ext x M M' h4) h5
  | zip4 h1 h2 => exact .zip4 (fun j hj => let ⟨a, b, c⟩ := h1 j hj; ⟨(x.keep _ _ a b).1, (x.keep _ _ a b).2, RTs.ext x M M' c⟩) h2
  | enm h1 h2 h3 => exact .enm (x.keep _ _ h1 h2).1 (x.keep _ _ h1 h2).2 (RTs.ext x M M' h3)
theorem stay (M : MemR K cm m H) (z : H' = H) {t : T} {x : V} (r : RT K cm m H t x) : Ext cm m H cm m H' ∧ MemR K cm m H' ∧ RT K cm m H' t x := by
  subst z
  exact ⟨.refl, M, r⟩
theorem Zh4 {xs ys : List T} {i : Nat} {t : T} (e : (zipL xs ys)[i]? = some t) : ∃ x y, xs[i]? = some x ∧ ys[i]? = some y ∧ t = .tup [x, y] := by
  unfold zipL at e
  rw [List.getElem?_zipWith] at e
  split at e
  · rename_i x y h1 h2
    cases e
    exact ⟨x, y, h1, h2, rfl⟩
  · cases e
theorem Zgg {a b c d : List T} {i : Nat} {t : T} (e : (Zgh a b c d)[i]? = some t) : ∃ x y z w, a[i]? = some x ∧ b[i]? = some y ∧ c[i]? = some z ∧ d[i]? = some w ∧ t = .tup [x, y, z, w] := by
  unfold Zgh at e
  rw [List.getElem?_map] at e
  obtain ⟨p, h1, h2⟩ := Option.map_eq_some_iff.mp e
  obtain ⟨q1, q2⟩ := List.getElem?_zip_eq_some.mp h1
  obtain ⟨q3, q4⟩ := List.getElem?_zip_eq_some.mp q2
  obtain ⟨q5, q6⟩ := List.getElem?_zip_eq_some.mp q4
  exact ⟨_, _, _, _, q1, q3, q5, q6, h2.symm⟩
theorem Zhz {xs : List T} {i : Nat} {t : T} (e : (Zey xs)[i]? = some t) : ∃ x, xs[i]? = some x ∧ t = .tup [.int (i : Int), x] := by
  unfold Zey at e
  rw [List.getElem?_zipWith] at e
  split at e
  · rename_i k y h1 h2
    cases e
    have hi := (List.getElem?_eq_some_iff.mp h1).1
    rw [List.length_range] at hi
    rw [List.getElem?_range hi] at h1
    cases h1
    exact ⟨y, h2, rfl⟩
  · cases e
theorem ZdT (xs : List T) : (Zey xs).length = xs.length := by
  unfold Zey
  rw [List.length_zipWith, List.length_range, Nat.min_self]
theorem Src.go (M : MemR K cm m H) {J : It} {ts : List T} (h : Src K cm m H J ts) {i : Nat} {t : T} (e : ts[i]? = some t) : J.go i H ∧ ∀ x H', J.yld i H x H' → Ext cm m H cm m H' ∧ MemR K cm m H' ∧ RT K cm m H' t x := by
  cases h with
  | tup h1 h2 =>
    obtain ⟨v, e1, e2⟩ := Qf h2 e
    refine ⟨⟨_, v, h1, e1⟩, fun x H' ⟨z, q⟩ => stay M z ?_⟩
    have := q _ h1
    rw [e1] at this; cases this
    exact e2
  | lst h1 h2 h3 =>
    obtain ⟨v, e1, e2⟩ := Qf h3 e
    refine ⟨⟨_, v, .of h1, e1⟩, fun x H' ⟨z, q⟩ => stay M z ?_⟩
    have := q _ (.of h1)
    rw [e1] at this; cases this
    exact e2
  | cel h1 h2 =>
    obtain ⟨b, vs, q1, q2, q3, q4⟩ := M.at' _ _ h1
    rw [h2] at q1; cases q1
    obtain ⟨v, e1, e2⟩ := Qf q4 e
    refine ⟨⟨_, v, .of q2, e1⟩, fun x H' ⟨z, q⟩ => stay M z ?_⟩
    have := q _ (.of q2)
    rw [e1] at this; cases this
    exact e2
  | scr ns h =>
    obtain ⟨v, e1, e2⟩ := Qf (ZaK (K := K) (cm := cm) (m := m) (H := H) ns) e
    refine ⟨⟨_, v, h.sq, e1⟩, fun x H' ⟨z, q⟩ => stay M z ?_⟩
    have := q _ h.sq
    rw [e1] at this; cases this
    exact e2
  | str cs =>
    rw [List.getElem?_map] at e
    cases q : cs[i]? with
    | none => rw [q] at e; cases e
    | some c =>
      rw [q] at e; cases e
      refine ⟨(List.getElem?_eq_some_iff.mp q).1, fun x H' ⟨z, c', q', e'⟩ => stay M z ?_⟩
      rw [q] at q'; cases q'
      subst e'
      exact .str [c]
  | rng lo n =>
    unfold rangeT at e
    rw [List.getElem?_map] at e
    cases q : (List.range n)[i]? with
    | none => rw [q] at e; cases e
    | some k =>
      rw [q] at e; cases e
      have hi := (List.getElem?_eq_some_iff.mp q).1
      rw [List.length_range] at hi
      rw [List.getElem?_range hi] at q
      cases q
      exact ⟨hi, fun x H' ⟨z, e'⟩ => stay M z (by subst e'; exact .int _)⟩
  | zip h1 h2 h3 h4 h5 =>
    obtain ⟨x, y, hx, hy, rfl⟩ := Zh4 e
    obtain ⟨u, e1, r1⟩ := Qf h3 hx
    obtain ⟨v, e2, r2⟩ := Qf h4 hy
    refine ⟨⟨_, _, u, v, h1, h2, e1, e2⟩, ?_⟩
    rintro x' H' ⟨u', v', c, q1, q2, hc, rfl, rfl⟩
    have z1 := q1 _ h1
    rw [e1] at z1; cases z1
    have z2 := q2 _ h2
    rw [e2] at z2; cases z2
    exact ⟨.new hc, M.new hc, RT.newTup (.cons r1 (.cons r2 .nil)) hc⟩
  | @zip4 l vs ts h1 h2 =>
    obtain ⟨x0, x1, x2, x3, e0, e1, e2, e3, rfl⟩ := Zgg e
    obtain ⟨q0, _, p0⟩ := h1 0 (by decide)
    obtain ⟨q1, _, p1⟩ := h1 1 (by decide)
    obtain ⟨q2, _, p2⟩ := h1 2 (by decide)
    obtain ⟨q3, _, p3⟩ := h1 3 (by decide)
    obtain ⟨u0, f0, r0⟩ := Qf p0 e0
    obtain ⟨u1, f1, r1⟩ := Qf p1 e1
    obtain ⟨u2, f2, r2⟩ := Qf p2 e2
    obtain ⟨u3, f3, r3⟩ := Qf p3 e3
    refine ⟨⟨vs, pick4 u0 u1 u2 u3, all4 ⟨.of q0, f0⟩ ⟨.of q1, f1⟩ ⟨.of q2, f2⟩ ⟨.of q3, f3⟩⟩, ?_⟩
    rintro x' H' ⟨x, c, q, hc, rfl, rfl⟩
    have z0 := q 0 (by decide) _ (.of q0)
    rw [f0] at z0
    have z1 := q 1 (by decide) _ (.of q1)
    rw [f1] at z1
    have z2 := q 2 (by decide) _ (.of q2)
    rw [f2] at z2
    have z3 := q 3 (by decide) _ (.of q3)
    rw [f3] at z3
    rw [← Option.some.inj z0, ← Option.some.inj z1, ← Option.some.inj z2, ← Option.some.inj z3]
    exact ⟨.new hc, M.new hc, RT.newTup (.cons r0 (.cons r1 (.cons r2 (.cons r3 .nil)))) hc⟩
  | enm h1 h2 h3 =>
    obtain ⟨x, hx, rfl⟩ := Zhz e
    obtain ⟨u, e1, r1⟩ := Qf h3 hx
    refine ⟨⟨_, u, .of h1, e1⟩, ?_⟩
    rintro x' H' ⟨u', c, q1, hc, rfl, rfl⟩
    have z1 := q1 _ (.of h1)
    rw [e1] at z1; cases z1
    exact ⟨.new hc, M.new hc, RT.newTup (.cons (.int _) (.cons r1 .nil)) hc⟩
theorem Src.stop (M : MemR K cm m H) {J : It} {ts : List T} (h : Src K cm m H J ts) {i : Nat} (e : ts[i]? = none) : J.stop i H := by
  have l := List.getElem?_eq_none_iff.mp e
  cases h with
  | tup h1 h2 => exact ⟨_, h1, by rw [← h2.length]; exact l⟩
  | lst h1 h2 h3 => exact ⟨_, .of h1, by rw [← h3.length]; exact l⟩
  | cel h1 h2 =>
    obtain ⟨b, vs, q1, q2, q3, q4⟩ := M.at' _ _ h1
    rw [h2] at q1; cases q1
    exact ⟨_, .of q2, by rw [← q4.length]; exact l⟩
  | scr ns h => exact ⟨_, h.sq, by rw [List.length_map] at l ⊢; exact l⟩
  | str cs => rw [List.length_map] at l; exact l
  | rng lo n =>
    unfold rangeT at l
    rw [List.length_map, List.length_range] at l
    exact l
  | zip h1 h2 h3 h4 h5 =>
    refine ⟨_, h1, ?_⟩
    unfold zipL at l
    rw [List.length_zipWith] at l
    rw [← h3.length]
    omega
  | @zip4 l vs ts h1 h2 =>
    obtain ⟨q0, _, p0⟩ := h1 0 (by decide)
    refine ⟨_, .of q0, ?_⟩
    have l1 := h2 1 (by decide)
    have l2 := h2 2 (by decide)
    have l3 := h2 3 (by decide)
    unfold Zgh at l
    rw [List.length_map, List.length_zip, List.length_zip, List.length_zip] at l
    rw [← p0.length]
    omega
  | enm h1 h2 h3 =>
    refine ⟨_, .of h1, ?_⟩
    rw [ZdT] at l
    rw [← h3.length]
    exact l
variable (K) in
noncomputable def tI (call : Nat → List W → Mem → Res W) (gv : List T) (xr : XR) (it : E) : TI := fun σ H R => ∃ env cm m, EnvR K cm m H env σ ∧ MemR K cm m H ∧
  OkR K (ev call gv it env m) xr cm m H fun x cm1 m1 H1 => ∃ ts m2, QD x m1 = .ok ts m2 ∧ ∀ J, Src K cm1 m2 H1 J ts → R J H1
theorem PI.mono {tg iter : Expr} {t t' : TI} (h : PI X tg iter t) (f : ∀ σ H R, t' σ H R → t σ H R) : PI X tg iter t' := fun pins s σ H R I q => h pins s σ H R I (f σ H R q)
theorem J9 {tg iter : Expr} {call : Nat → List W → Mem → Res W} {gv : List T} {it : E} (h : PE X iter (tE X.K call gv xr it)) : PI X tg iter (tI X.K call gv xr it) := by
  rintro pins s σ H R I ⟨env, cm, m, hE, hM, ho⟩
  refine thn (h pins s σ H (fun v H1 => ∃ cm1 m1 w, MemR X.K cm1 m1 H1 ∧ RW X.K cm1 m1 H1 w v ∧ ∃ ts m2, QD w m1 = .ok ts m2 ∧ ∀ J, Src X.K cm1 m2 H1 J ts → R J H1) I
    ⟨env, cm, m, hE, hM, ho.mono fun w cm1 m1 H1 x1 M1 o1 v rv => ⟨cm1, m1, w, M1, rv, o1⟩⟩) fun v s1 ⟨x, H1, I1, r1, cm1, m1, w, M1, rw1, ts0, m2, eb, o1⟩ => ?_
  -- an iterator over a list that stands at a
  have onList : ∀ (a : Addr) (vs : List V), x = .ref a → SqL X.K H1 a vs → R (Itl X.K a) H1 → wpAny (model X.prog X.w) X.A (pyIter v) (PIE X pins σ tg R) X.xe s1 := fun a vs e hq q => by
    subst e
    cases r1
    obtain ⟨its, rv, p, hz⟩ := I1.list hq
    refine wpAny_pyIter_list p.isList ?_
    refine ⟨s1.heap.objs.size, [s1.heap.objs.size], _, _, H1, rfl, I1.kept (t' := s1.toks) fun b o e => Heap.get?_push_of_some _ e, Zgn a _, ⟨_, Heap.get?_push_size _ rfl, rfl, rfl⟩, fun b hb => ?_, q⟩
    have e : b = s1.heap.objs.size := by simpa using hb
    subst e
    exact I1.fpOk (Nat.le_refl _) (I1.hok.fresh (Nat.le_refl _))
  cases w with
  | f a => cases eb
  | c i =>
    unfold QD at eb
    dsimp only at eb
    split at eb
    · rename_i fl ts e
      cases eb
      obtain ⟨a, vs, q1, q2, _⟩ := M1.at' i _ e
      obtain ⟨b, h1, h2⟩ := rw1
      rw [q1] at h1; cases h1
      exact onList a vs h2 (.of q2) (o1 _ (.cel (List.getElem?_set_self (List.getElem?_eq_some_iff.mp e).1) q1))
    · cases eb
  | t t =>
    unfold QD at eb
    dsimp only at eb
    cases t with
    | tup ts =>
      cases eb
      obtain ⟨a, vs, e, h1, h2⟩ := RT.itup rw1
      subst e
      cases r1
      obtain ⟨its, rv, p, hz⟩ := I1.tuple h1
      refine wpAny_pyIter_tuple (show s1.heap.IsTuple a its.toArray from p) ?_
      refine ⟨s1.heap.objs.size, [s1.heap.objs.size], _, _, H1, rfl, I1.kept (t' := s1.toks) fun b o e => Heap.get?_push_of_some _ e, Zfi a _, ⟨_, Heap.get?_push_size _ rfl, rfl, rfl⟩, fun b hb => ?_, o1 _ (.tup h1 h2)⟩
      have e : b = s1.heap.objs.size := by simpa using hb
      subst e
      exact I1.fpOk (Nat.le_refl _) (I1.hok.fresh (Nat.le_refl _))
    | lst ts =>
      cases eb
      obtain ⟨a, vs, e, h1, h2, h3⟩ := RT.ilst rw1
      exact onList a vs e (.of h1) (o1 _ (.lst h1 h2 h3))
    | scr ns =>
      cases eb
      obtain ⟨a, e, h1⟩ := RT.vscr rw1
      exact onList a _ e h1.sq (o1 _ (.scr ns h1))
    | str cs =>
      unfold Zjt at eb
      dsimp only at eb
      split at eb
      · rename_i ts e
        split at e <;> cases e
        cases eb
        cases RT.vstr rw1
        obtain ⟨t, rfl⟩ := r1
        have q := o1 _ (.str cs)
        have I2 : ∀ o : Obj, Inv X pins σ H1 { s1 with heap := s1.heap.push o } := fun o => I1.kept (t' := s1.toks) fun b o e => Heap.get?_push_of_some _ e
        have fpk : ∀ b ∈ [s1.heap.objs.size], FpOk X pins H1 b := fun b hb => by
          have e : b = s1.heap.objs.size := by simpa using hb
          subst e
          exact I1.fpOk (Nat.le_refl _) (I1.hok.fresh (Nat.le_refl _))
        cases ha : (⟨cs.toArray⟩ : Str).cps.all (· < 128)
        · refine wpAny_pyIter_wide ha ?_
          exact ⟨s1.heap.objs.size, [s1.heap.objs.size], _, _, H1, rfl, I2 _, ZeL (cl := "str_iterator") (t := t) (by decide) (fun A i s Q E st h => wpAny_pyIter_striter_wide st h) (fun A' hA => by simpa using Walks.strWide hA _ ⟨cs.toArray⟩ t), ⟨⟨_, Heap.get?_push_size _ rfl, rfl, rfl⟩, Nat.zero_le _⟩, fpk, q⟩
        · refine wpAny_pyIter_ascii ha ?_
          exact ⟨s1.heap.objs.size, [s1.heap.objs.size], _, _, H1, rfl, I2 _, ZeL (cl := "str_ascii_iterator") (t := t) (by decide) (fun A i s Q E st h => wpAny_pyIter_striter_ascii st h) (fun A' hA => by simpa using Walks.strAscii hA _ ⟨cs.toArray⟩ t), ⟨⟨_, Heap.get?_push_size _ rfl, rfl, rfl⟩, Nat.zero_le _⟩, fpk, q⟩
      · cases eb
    | _ => cases eb
end
end Mi
end
section
namespace Mi
open PySem PySem.Spec PyProof.Rows L2
theorem Zdd {elt : Expr} {gens : List Comprehension} {scope : Scope} {pos : Pos} {d : Nat} {target iter : Expr} {ifs : List Expr} {it acc : Value} {env : PySem.Env} (hg : gens[d]? = some ⟨target, iter, ifs, 0⟩) (hn : gens[d + 1]? = none) :
    compTurn (.ListComp elt gens scope pos) d it acc env = (do
      standAt iter.pos
      match ← pyNext it with
      | none => pure (.done .next)
      | some v =>
        letOwnedTupleGo target it v
        assign target env v
        let mut ok := true
        for c in ifs do
          if ok then ok ← isTrue c env (eval c env)
        if ok then
          (do let _ ← call (.builtin "list.append") [acc, ← eval elt env])
        again (.compLoop (.ListComp elt gens scope pos) d it acc env)) := by
  unfold compTurn
  simp only [hg, hn]
  rfl
theorem Zdc {elt : Expr} {gens : List Comprehension} {scope : Scope} {pos : Pos} {d : Nat} {target iter : Expr} {ifs : List Expr} {it acc : Value} {env : PySem.Env} {target' iter' : Expr} {ifs' : List Expr} (hg : gens[d]? = some ⟨target, iter, ifs, 0⟩) (hn : gens[d + 1]? = some ⟨target', iter', ifs', 0⟩) :
    compTurn (.ListComp elt gens scope pos) d it acc env = (do
      standAt iter.pos
      match ← pyNext it with
      | none => pure (.done .next)
      | some v =>
        letOwnedTupleGo target it v
        assign target env v
        let mut ok := true
        for c in ifs do
          if ok then ok ← isTrue c env (eval c env)
        if ok then
          let x ← eval iter' env
          standAt iter'.pos
          let x ← foldedSetIterable iter' env x
          let _ ← runOwn (.compStart (.ListComp elt gens scope pos) (d + 1) (← holding [x] (pyIter x)) acc env) env
        again (.compLoop (.ListComp elt gens scope pos) d it acc env)) := by
  unfold compTurn
  simp only [hg, hn]
  rfl
section
variable {K : PySem.W.Frag} {cm cm' : List Addr} {m m' : Mem} {H H' : Hp} {xr : XR} {Y : Cx}
noncomputable def AccAt (h : Heap) (D : Addr) (vs : List V) : Prop := vs.length ≤ sizeLine ∧ ∃ (its : List Value) (n : Nat), Vals vs its ∧ h.get? D = some { cls := .type "list", data := .seq its.toArray n }
structure DOk (Y : Cx) (pins : List (Addr × Obj)) (H : Hp) (D : Addr) : Prop where
  free : H D = none
  loc : D ≠ Y.env.locals
  nofs : D ∉ Y.fs
  own : D ∈ Y.ex ∨ Y.s₀.heap.objs.size ≤ D
  cell : ∀ x c, Y.env.cells.lookup x = some c → c ≠ D
  pin : ∀ p ∈ Y.pn ++ pins, p.1 ≠ D
theorem Zjn {e : Expr} {call : Nat → List W → Mem → Res W} {gv : List T} {a : E} (h : PE Y e (tE Y.K call gv xr a)) {pins : List (Addr × Obj)} {s : Shared} {σ : L2.St} {env : Env} {w : W} (I : Inv Y pins σ H s) (hE : EnvR Y.K cm m H env σ) (M : MemR Y.K cm m H)
    (ok : ev call gv a env m = .ok w m') : wpAny (model Y.prog Y.w) Y.A (eval e Y.env) (EP Y pins σ fun v H' => ∃ cm', Ext cm m H cm' m' H' ∧ MemR Y.K cm' m' H' ∧ RW Y.K cm' m' H' w v) Y.xe s := by
  refine h pins s σ H _ I ⟨env, cm, m, hE, M, ?_⟩
  rw [ok]
  exact fun cm' H' x M' v r => ⟨cm', x, M', r⟩
theorem pt_run {e : Expr} {call : Nat → List W → Mem → Res W} {gv : List T} {a : E} (h : PT Y e (tT Y.K call gv xr a)) {pins : List (Addr × Obj)} {s : Shared} {σ : L2.St} {env : Env} {k : Bool} (I : Inv Y pins σ H s) (hE : EnvR Y.K cm m H env σ) (M : MemR Y.K cm m H)
    (ok : (ev call gv a env m).bind JD = .ok k m') : wpAny (model Y.prog Y.w) Y.A (isTrue e Y.env (eval e Y.env)) (TP Y pins σ fun b H' => b = k ∧ ∃ cm', Ext cm m H cm' m' H' ∧ MemR Y.K cm' m' H') Y.xe s := by
  refine h pins s σ H _ I ⟨env, cm, m, hE, M, ?_⟩
  rw [ok]
  exact fun cm' H' x M' => ⟨rfl, cm', x, M'⟩
noncomputable def PTs (Y : Cx) (call : Nat → List W → Mem → Res W) (gv : List T) (xr : XR) : Es → List Expr → Prop
  | .nil, [] => True
  | .cons a es, e :: r => PT Y e (tT Y.K call gv xr a) ∧ PTs Y call gv xr es r
  | _, _ => False
theorem ZbC {env : PySem.Env} {M : Model} {A : Around} {E : Value → Shared → Prop} {s : Shared} {Q : Bool → Shared → Prop} (h : Q false s) : ∀ ifs : List Expr,
    wpAny M A (forIn ifs false fun c r => if r = true then do let ok ← isTrue c env (eval c env); pure (ForInStep.yield ok) else pure (ForInStep.yield r)) Q E s
  | [] => wpAny_pure h
  | _ :: r => by
    simp only [List.forIn_cons, Bool.false_eq_true, if_false]
    exact wpAny_bind (wpAny_pure (ZbC h r))
theorem Zdr {call : Nat → List W → Mem → Res W} {gv : List T} {pins : List (Addr × Obj)} {σ : L2.St} {env : Env} : ∀ {cs : Es} {ifs : List Expr} {cm : List Addr} {m m' : Mem} {H : Hp} {s : Shared} {k : Bool}, PTs Y call gv xr cs ifs → Inv Y pins σ H s → EnvR Y.K cm m H env σ → MemR Y.K cm m H →
    tests call gv cs env m = .ok k m' →
    wpAny (model Y.prog Y.w) Y.A (forIn ifs true fun c r => if r = true then do let ok ← isTrue c Y.env (eval c Y.env); pure (ForInStep.yield ok) else pure (ForInStep.yield r))
      (fun b s' => b = k ∧ ∃ H' cm', Inv Y pins σ H' s' ∧ Ext cm m H cm' m' H' ∧ MemR Y.K cm' m' H') Y.xe s
  | .nil, [], cm, m, m', H, s, k, _, I, hE, M, ok => by
    unfold tests at ok
    cases ok
    exact wpAny_pure ⟨rfl, H, cm, I, .refl, M⟩
  | .cons a es, e :: r, cm, m, m', H, s, k, hp, I, hE, M, ok => by
    unfold tests at ok
    obtain ⟨h1, h2⟩ := hp
    simp only [List.forIn_cons, if_true]
    cases e1 : ev call gv a env m with
    | ok w m1 =>
      rw [e1] at ok
      change (JD w m1).bind _ = _ at ok
      cases e2 : JD w m1 with
      | ok b m2 =>
        rw [e2] at ok
        change (if b = true then _ else _) = _ at ok
        refine wpAny_bind (wpAny_bind (thn (pt_run h1 I hE M (m' := m2) (k := b) (by rw [e1]; exact e2)) fun c s1 ⟨H1, I1, hb, cm1, x1, M1⟩ => wpAny_pure ?_))
        subst hb
        cases c with
        | true =>
          rw [if_pos rfl] at ok
          exact thn (Zdr h2 I1 (hE.ext x1 M M1) M1 ok) fun b' s2 ⟨hb', H2, cm2, I2, x2, M2⟩ => ⟨hb', H2, cm2, I2, x1.trans x2, M2⟩
        | false =>
          rw [if_neg Bool.false_ne_true] at ok
          cases ok
          exact ZbC (Q := fun b s' => b = false ∧ ∃ H' cm', Inv Y pins σ H' s' ∧ Ext cm m H cm' m' H' ∧ MemR Y.K cm' m' H') ⟨rfl, H1, cm1, I1, x1, M1⟩ r
      | exc _ _ => rw [e2] at ok; cases ok
      | stuck => rw [e2] at ok; cases ok
    | exc _ _ => rw [e1] at ok; cases ok
    | stuck => rw [e1] at ok; cases ok
  | .nil, _ :: _, _, _, _, _, _, _, hp, _, _, _, _ => hp.elim
  | .cons _ _, [], _, _, _, _, _, _, hp, _, _, _, _ => hp.elim
noncomputable def tgS : Tg → List Nat
  | .nm i => [i]
  | .tp is => is
noncomputable def Agree (S : List Nat) (σ σ' : L2.St) : Prop := ∀ i, i ∉ S → σ'[i]? = σ[i]?
noncomputable def setAll : List Nat → List V → L2.St → L2.St
  | i :: is, v :: vs, σ => setAll is vs (σ.set i (some v))
  | _, _, σ => σ
variable (K) in
noncomputable def gT : Tg → TG
  | .nm i => Zkx i
  | .tp is => fun v σ H Q => ∃ a xs, v = .ref a ∧ SqT K H a xs ∧ xs.length = is.length ∧ Q (setAll is xs σ) H
theorem Za9 : ∀ (is : List Nat) (vs : List V) (σ : L2.St), Agree is σ (setAll is vs σ)
  | [], _, _ => fun _ _ => by unfold setAll; rfl
  | _ :: _, [], _ => fun _ _ => by unfold setAll; rfl
  | i :: is, v :: vs, σ => fun j hj => by
    unfold setAll
    rw [List.mem_cons] at hj
    rw [Za9 is vs _ j fun z => hj (.inr z), List.getElem?_set_ne fun z => hj (.inl z.symm)]
theorem EnvR.set {env : Env} {σ : L2.St} (h : EnvR K cm m H env σ) {w : W} {v : V} (r : RW K cm m H w v) (i : Nat) (hi : i < σ.length) : EnvR K cm m H (env.set i (some w)) (σ.set i (some v)) := fun j u e => by
  by_cases hj : j = i
  · subst hj
    have hl : j < env.length := by
      have := (List.getElem?_eq_some_iff.mp e).1
      rwa [List.length_set] at this
    rw [List.getElem?_set_self hl] at e
    cases e
    exact ⟨v, List.getElem?_set_self hi, r⟩
  · rw [List.getElem?_set_ne (Ne.symm hj)] at e
    obtain ⟨v', h1, h2⟩ := h j u e
    exact ⟨v', by rw [List.getElem?_set_ne (Ne.symm hj)]; exact h1, h2⟩
theorem EnvR.setAll : ∀ {is : List Nat} {ts : List T} {vs : List V} {env : Env} {σ : L2.St}, EnvR K cm m H env σ → RTs K cm m H ts vs → (∀ i ∈ is, i < σ.length) →
    EnvR K cm m H ((is.zip ts).foldl (fun env p => env.set p.1 (some (.t p.2))) env) (Mi.setAll is vs σ)
  | [], _, _, _, _, h, _, _ => by unfold Mi.setAll; exact h
  | _ :: _, [], _, _, _, h, .nil, _ => by unfold Mi.setAll; exact h
  | i :: is, t :: ts, v :: vs, env, σ, h, .cons r rs, hi => by
    unfold Mi.setAll
    rw [List.zip_cons_cons, List.foldl_cons]
    refine EnvR.setAll (h.set (w := .t t) r i (hi i List.mem_cons_self)) rs fun j hj => ?_
    rw [List.length_set]
    exact hi j (List.mem_cons_of_mem _ hj)
theorem Zkw {tg : Tg} {t : T} {v : V} {env env' : Env} {σ : L2.St} (hE : EnvR K cm m H env σ) (hi : ∀ i ∈ tgS tg, i < σ.length) (r : RT K cm m H t v) (e : Jl tg t env = some env') {Q : L2.St → Hp → Prop}
    (q : ∀ σ', EnvR K cm m H env' σ' → Agree (tgS tg) σ σ' → Q σ' H) : gT K tg v σ H Q := by
  cases tg with
  | nm i =>
    cases e
    refine q _ (hE.set (w := .t t) r i (hi i (by simp [tgS]))) fun j hj => ?_
    rw [List.getElem?_set_ne]
    intro z
    exact hj (by simp [tgS, z])
  | tp is =>
    unfold Jl at e
    dsimp only at e
    split at e
    · split at e <;> cases e
      rename_i ts hl
      obtain ⟨a, vs, rfl, h1, h2⟩ := RT.itup r
      exact ⟨a, vs, rfl, h1, by rw [← h2.length]; exact hl, q _ (EnvR.setAll hE h2 hi) (Za9 is vs σ)⟩
    · cases e
end
end Mi
end
section
namespace Mi
open PySem PySem.Spec PyProof.Rows L2
noncomputable def innS : E → List Nat
  | .more _ tg _ inner => tgS tg ++ innS inner
  | _ => []
section
variable {xr : XR} {Y : Cx} {call : Nat → List W → Mem → Res W} {gv : List T}
variable (Y call gv xr) in
noncomputable def Ins (elt : Expr) (gens : List Comprehension) : Nat → E → Prop
  | d, .emit a => gens[d + 1]? = none ∧ PE Y elt (tE Y.K call gv xr a)
  | d, .more it tg cs inner => (∃ target iter ifs, gens[d + 1]? = some ⟨target, iter, ifs, 0⟩ ∧ PI Y target iter (tI Y.K call gv xr it) ∧ (∀ x, foldedSetIterable iter Y.env x = pure x) ∧ PG Y target (gT Y.K tg) ∧ PTs Y call gv xr cs ifs) ∧
      (∀ i ∈ tgS tg, i ∉ innS inner) ∧ (∀ i ∈ tgS tg ++ innS inner, i < Y.N.length) ∧ Ins elt gens (d + 1) inner
  | _, _ => False
theorem ZfS {α : Type} {M : Model} {A : Around} {t : Sem α} {Q : α → Shared → Prop} {E : Value → Shared → Prop} {s : Shared} (hxe : ∀ e s, ¬ Y.xe e s) (h : wpAny M A t Q Y.xe s) : wpAny M A t Q E s := wpAny_mono h (fun _ _ q => q) fun _ _ z => (hxe _ _ z).elim
noncomputable abbrev turnF (call : Nat → List W → Mem → Res W) (gv : List T) (cs : Es) (inner : E) : Env → Mem → Res (List T) := fun env m => (tests call gv cs env m).bind fun k m => if k then (ev call gv inner env m).bind Zd8 else .ok [] m
noncomputable def Zh3 (Y : Cx) (Acc : Heap → List V → Prop) (D : Addr) (S : List Nat) (pins : List (Addr × Obj)) (σ : L2.St) (cm : List Addr) (m : Mem) (H : Hp) (vs : List V) (out : List T) (m' : Mem) (s' : Shared) : Prop :=
  ∃ σ' H' cm' vs', Inv Y pins σ' H' s' ∧ Ext cm m H cm' m' H' ∧ MemR Y.K cm' m' H' ∧ RTs Y.K cm' m' H' out vs' ∧ Acc s'.heap (vs ++ vs') ∧ Agree S σ σ' ∧ H' D = none
noncomputable abbrev CEnd (Y : Cx) (D : Addr) := Zh3 Y (fun h vs => AccAt h D vs) D
theorem AccAt.keep {h h' : Heap} {D : Addr} {vs : List V} (a : AccAt h D vs) (k : ∀ o, h.get? D = some o → h'.get? D = some o) : AccAt h' D vs := by
  obtain ⟨z, its, n, r, e⟩ := a
  exact ⟨z, its, n, r, k _ e⟩
theorem EnvR.agree {K : PySem.W.Frag} {cm : List Addr} {m : Mem} {H : Hp} {env : Env} {σ σ' : L2.St} {S : List Nat} (h : EnvR K cm m H env σ) (a : Agree S σ σ') (n : ∀ i ∈ S, ∀ w, env[i]? ≠ some (some w)) : EnvR K cm m H env σ' := fun i w e => by
  obtain ⟨v, h1, h2⟩ := h i w e
  refine ⟨v, ?_, h2⟩
  rw [a i fun z => n i z w e]
  exact h1
theorem Agree.trans {S : List Nat} {a b c : L2.St} (h : Agree S a b) (g : Agree S b c) : Agree S a c := fun i hi => (g i hi).trans (h i hi)
theorem Agree.mono {S S' : List Nat} {a b : L2.St} (h : Agree S a b) (g : ∀ i ∈ S, i ∈ S') : Agree S' a b := fun i hi => h i fun z => hi (g i z)
theorem Agree.refl {S : List Nat} {a : L2.St} : Agree S a a := fun _ _ => rfl
theorem ZeG {tg : Tg} {t : T} {env env' : Env} (e : Jl tg t env = some env') {i : Nat} (hi : i ∉ tgS tg) : env'[i]? = env[i]? := by
  cases tg with
  | nm j =>
    cases e
    rw [List.getElem?_set_ne]
    intro z; exact hi (by simp [tgS, z])
  | tp is =>
    unfold Jl at e
    dsimp only at e
    split at e
    · split at e <;> cases e
      rename_i ts hl
      have : ∀ (is : List Nat) (ts : List T) (env : Env), i ∉ is → ((is.zip ts).foldl (fun env p => env.set p.1 (some (.t p.2))) env)[i]? = env[i]? := by
        intro is
        induction is with
        | nil => intro ts env _; rfl
        | cons j is ih =>
          intro ts env h
          cases ts with
          | nil => rfl
          | cons t ts =>
            rw [List.mem_cons] at h
            rw [List.zip_cons_cons, List.foldl_cons, ih ts _ fun z => h (.inr z), List.getElem?_set_ne fun z => h (.inl z.symm)]
      exact this is ts env hi
    · cases e
theorem ZK {α β : Type} {r : Res α} {f : α → Mem → Res β} {y : β} {m' : Mem} (h : r.bind f = .ok y m') : ∃ x m, r = .ok x m ∧ f x m = .ok y m' := by
  cases r with
  | ok x m => exact ⟨x, m, rfl, h⟩
  | exc _ _ => cases h
  | stuck => cases h
theorem Zb6 {w : W} {m m' : Mem} {ts : List T} (h : Zd8 w m = .ok ts m') : w = .t (.lst ts) ∧ m' = m := by
  unfold Zd8 at h
  split at h <;> cases h
  exact ⟨rfl, rfl⟩
theorem Ze9 {K : PySem.W.Frag} {cm : List Addr} {m m' : Mem} {H : Hp} {w : W} {v : V} {t : T} (M : MemR K cm m H) (r : RW K cm m H w v) (e : frz w m = .ok t m') : Ext cm m H cm m' H ∧ MemR K cm m' H ∧ RT K cm m' H t v := by
  cases w with
  | t x => cases e; exact ⟨.refl, M, r⟩
  | f a => cases e
  | c i =>
    unfold frz at e
    dsimp only at e
    split at e
    · rename_i ts h
      cases e
      obtain ⟨a, vs, q1, q2, q3, q4, q5, q6, q7⟩ := ZhN M h
      obtain ⟨b, h1, h2⟩ := r
      rw [q1] at h1; cases h1
      subst h2
      exact ⟨q4, q5, q7⟩
    · cases e
theorem Zhv {pins : List (Addr × Obj)} {H : Hp} {b : Addr} {fp : List Addr} {h : Heap} (f : FpOk Y pins H b) (n : b ∉ fp) : FpOk Y (pins ++ XS fp h) H b :=
  ⟨f.1, f.2.1, f.2.2.1, f.2.2.2.1, f.2.2.2.2.1, fun p hp z => by
    rw [← List.append_assoc] at hp
    rcases List.mem_append.mp hp with hp | hp
    · exact f.2.2.2.2.2 p hp z
    · exact n (by rw [← z]; exact (ZdJ hp).1)⟩
structure AccK (D : Addr) (Acc : Heap → List V → Prop) : Prop where
  obj : ∀ {h vs}, Acc h vs → ∃ o, h.get? D = some o ∧ ∀ v, o.data ≠ .cell v
  keep : ∀ {h h' vs}, Acc h vs → (∀ o, h.get? D = some o → h'.get? D = some o) → Acc h' vs
theorem ZbA (D : Addr) : AccK D (fun h vs => AccAt h D vs) := ⟨fun ⟨_, _, _, _, e⟩ => ⟨_, e, fun v z => by cases z⟩, fun a k => a.keep k⟩
theorem Zdm {pins : List (Addr × Obj)} {s : Shared} {σ : L2.St} {H : Hp} {D : Addr} {Acc : Heap → List V → Prop} (hA : AccK D Acc) {vs : List V} (I : Inv Y pins σ H s) (f : FpOk Y pins H D) (a : Acc s.heap vs) : Inv Y (pins ++ XS [D] s.heap) σ H s := by
  refine I.pinned (fun b hb => ?_) fun b hb => ?_
  · have e : b = D := by simpa using hb
    rw [e]; exact f
  · have e : b = D := by simpa using hb
    obtain ⟨o, q, n⟩ := hA.obj a
    rw [e]
    exact ⟨_, q, n⟩
theorem Zca {pins : List (Addr × Obj)} {h : Heap} {s : Shared} {σ : L2.St} {H : Hp} {D : Addr} {Acc : Heap → List V → Prop} (hA : AccK D Acc) {vs : List V} (a : Acc h vs) (I : Inv Y pins σ H s) (hp : ∀ o, h.get? D = some o → (D, o) ∈ pins) : Acc s.heap vs ∧ H D = none := by
  obtain ⟨o, q, _⟩ := hA.obj a
  obtain ⟨h1, h2, _⟩ := I.pin _ (List.mem_append_right _ (hp _ q))
  refine ⟨hA.keep a fun o' e => ?_, h2⟩
  rw [q] at e; cases e
  exact h1
theorem Zh0 {pins : List (Addr × Obj)} {s : Shared} {σ : L2.St} {H : Hp} {D : Addr} {vs : List V} (I : Inv Y pins σ H s) (f : FpOk Y pins H D) (a : AccAt s.heap D vs) : Inv Y (pins ++ XS [D] s.heap) σ H s := Zdm (ZbA D) I f a
theorem ZjF {pins : List (Addr × Obj)} {h : Heap} {s : Shared} {σ : L2.St} {H : Hp} {D : Addr} {vs : List V} (a : AccAt h D vs) (I : Inv Y pins σ H s) (hp : ∀ o, h.get? D = some o → (D, o) ∈ pins) : AccAt s.heap D vs ∧ H D = none := Zca (ZbA D) a I hp
noncomputable abbrev Zh6 (target iter : Expr) (ifs : List Expr) (env : PySem.Env) (it : Value) (c : Code) (br : Sem PySem.Fin) : Sem PySem.Fin :=
  standAt iter.pos >>= fun _ => pyNext it >>= fun r => match r with
    | none => pure (.done .next)
    | some v => letOwnedTupleGo target it v >>= fun _ => assign target env v >>= fun _ =>
      (forIn ifs true fun c r => if r = true then do let ok ← isTrue c env (eval c env); pure (ForInStep.yield ok) else pure (ForInStep.yield r)) >>= fun ok => if ok = true then br else again c
theorem Zc2 (hc : Y.calm = true) (hxe : ∀ e s, ¬ Y.xe e s) {ce : Expr} {D : Addr} {Acc : Heap → List V → Prop} (hA : AccK D Acc) {L : Nat} {Pt : T → Prop} {inner : E} {d : Nat} {target iter : Expr} {ifs : List Expr} {tg : Tg} {cs : Es} {it : Addr} {br : Sem PySem.Fin}
    (hu : Y.A.under (.compLoop ce d (.ref it) (.ref D) Y.env) = Y.A) (hd : (model Y.prog Y.w).den (.compLoop ce d (.ref it) (.ref D) Y.env) = (compTurn ce d (.ref it) (.ref D) Y.env).onRaise (fun x => do noteFrame x Y.env; theTreesLotGoes x))
    (code : compTurn ce d (.ref it) (.ref D) Y.env = Zh6 target iter ifs Y.env (.ref it) (.compLoop ce d (.ref it) (.ref D) Y.env) br)
    (hg : PG Y target (gT Y.K tg)) (ht : PTs Y call gv xr cs ifs) (hdis : ∀ i ∈ tgS tg, i ∉ innS inner) (hlt : ∀ i ∈ tgS tg ++ innS inner, i < Y.N.length)
    (hbr : ∀ {pins : List (Addr × Obj)} {s : Shared} {σ : L2.St} {H : Hp} {cm : List Addr} {m m' : Mem} {env : Env} {out : List T} {vs : List V}, Inv Y pins σ H s → FpOk Y pins H D → Acc s.heap vs → EnvR Y.K cm m H env σ → (∀ i ∈ innS inner, ∀ w, env[i]? ≠ some (some w)) → MemR Y.K cm m H →
      (ev call gv inner env m).bind Zd8 = .ok out m' → vs.length + out.length ≤ L → (∀ t ∈ out, Pt t) →
      wpAny (model Y.prog Y.w) Y.A br (fun fin s' => fin = .again (.compLoop ce d (.ref it) (.ref D) Y.env) ∧ Zh3 Y Acc D (innS inner) pins σ cm m H vs out m' s') Y.xe s)
    {pins : List (Addr × Obj)} {s : Shared} {σ : L2.St} {H : Hp} {cm : List Addr} {m m' : Mem} {env : Env} {ts out : List T} {J : It} {fp : List Addr} {tn : Nat → Heap → Prop} {vs : List V} (I : Inv Y pins σ H s) (hD : FpOk Y pins H D) (ha : Acc s.heap vs)
    (hT : Turn Y.prog Y.w Y.K target J fp it tn) (h0 : tn 0 s.heap) (hf : ∀ b ∈ fp, FpOk Y pins H b) (hDf : D ∉ fp) (hE : EnvR Y.K cm m H env σ) (hn : ∀ i ∈ tgS tg ++ innS inner, ∀ w, env[i]? ≠ some (some w)) (M : MemR Y.K cm m H) (hs : Src Y.K cm m H J ts)
    (ok : Q8 (turnF call gv cs inner) tg ts env m = .ok out m') (hl : vs.length + out.length ≤ L) (hpt : ∀ t ∈ out, Pt t) :
    codeAny (model Y.prog Y.w) Y.A (.compLoop ce d (.ref it) (.ref D) Y.env) (fun r s' => r = .ok .next ∧ Zh3 Y Acc D (tgS tg ++ innS inner) pins σ cm m H vs out m' s') s := by
  have statD : ∀ {H1 : Hp}, H1 D = none → FpOk Y pins H1 D := fun h => ⟨h, hD.2⟩
  have stat : ∀ {H1 : Hp}, (∀ b ∈ fp, H1 b = none) → ∀ b ∈ fp, FpOk Y pins H1 b := fun h b hb => ⟨h b hb, (hf b hb).2⟩
  refine codeAny_loop rfl (fun n s1 => ∃ i σ1 H1 cm1 m1 vs1 done rest, Inv Y pins σ1 H1 s1 ∧ tn i s1.heap ∧ (∀ b ∈ fp, H1 b = none) ∧ H1 D = none ∧ Ext cm m H cm1 m1 H1 ∧ MemR Y.K cm1 m1 H1 ∧ Agree (tgS tg ++ innS inner) σ σ1 ∧
      Acc s1.heap (vs ++ vs1) ∧ RTs Y.K cm1 m1 H1 done vs1 ∧ Q8 (turnF call gv cs inner) tg (ts.drop i) env m1 = .ok rest m' ∧ out = done ++ rest ∧ n = ts.length + 1 - i ∧ i ≤ ts.length) ?_ (ts.length + 1)
    ⟨0, σ, H, cm, m, [], [], out, I, h0, fun b hb => (hf b hb).1, hD.1, .refl, M, .refl, by rw [List.append_nil]; exact ha, .nil, by rw [List.drop_zero]; exact ok, rfl, rfl, Nat.zero_le _⟩
  rintro n s1 ⟨i, σ1, H1, cm1, m1, vs1, done, rest, I1, st1, fr1, d1, x1, M1, ag1, a1, r1, ok1, eo, rfl, hi⟩
  rw [hu, hd]
  refine wpAny_noted ?_
  rw [code]
  refine wpAny_bind (wpAny_standAt (wpAny_bind ?_))
  have hE1 : EnvR Y.K cm1 m1 H1 env σ1 := (hE.ext x1 M M1).agree ag1 hn
  have s1' := hs.ext x1 M M1
  have I1D := Zdm hA I1 (statD d1) a1
  have fpD : ∀ {H1 : Hp}, (∀ b ∈ fp, H1 b = none) → ∀ b ∈ fp, FpOk Y (pins ++ XS [D] s1.heap) H1 b := fun h b hb => Zhv (stat h b hb) fun z => hDf (by
    have e : b = D := by simpa using z
    rw [← e]; exact hb)
  have inD : ∀ o, s1.heap.get? D = some o → (D, o) ∈ pins ++ XS [D] s1.heap := fun o e => List.mem_append_right _ (Qs (by simp) e)
  cases et : ts[i]? with
  | none =>
    refine ZfS hxe (thn (hT.done Y rfl rfl rfl hc i _ s1 σ1 H1 Y.xe I1D (fpD fr1) st1 (Src.stop M1 s1' et)) fun r s2 ⟨hr, I2⟩ => ?_)
    subst hr
    have hd : ts.drop i = [] := List.drop_eq_nil_of_le (List.getElem?_eq_none_iff.mp et)
    rw [hd] at ok1
    unfold Q8 at ok1
    cases ok1
    rw [List.append_nil] at eo
    subst eo
    exact wpAny_pure ⟨rfl, σ1, H1, cm1, vs1, I2.unpinned, x1, M1, r1, (Zca hA a1 I2 inD).1, ag1, (Zca hA a1 I2 inD).2⟩
  | some t =>
    obtain ⟨go, yl⟩ := Src.go M1 s1' et
    have hit : i < ts.length := (List.getElem?_eq_some_iff.mp et).1
    have hd : ts.drop i = t :: ts.drop (i + 1) := by
      rw [List.drop_eq_getElem_cons hit]
      congr 1
      exact Option.some.inj ((List.getElem?_eq_getElem hit).symm.trans et)
    rw [hd] at ok1
    unfold Q8 at ok1
    split at ok1
    · cases ok1
    · rename_i env' eb
      obtain ⟨xs, m2, ok2, ok3⟩ := ZK ok1
      obtain ⟨ys, m3, ok4, ok5⟩ := ZK ok3
      cases ok5
      obtain ⟨k, m4, okt, okb⟩ := ZK ok2
      refine ZfS hxe (thn (hT.item Y rfl rfl rfl hc i _ s1 σ1 H1 Y.xe I1D (fpD fr1) st1 go) fun r s2 ⟨u, hr, h2⟩ => ?_)
      subst hr
      refine wpAny_bind (ZfS hxe (thn h2 fun _ s3 ⟨x, H3, I3, rx, y3, st3, fr3⟩ => ?_))
      obtain ⟨xy, My, rt⟩ := yl x H3 y3
      have hE1 := hE1.ext xy M1 My
      have x1 := x1.trans xy
      have r1 := RTs.ext xy M1 My r1
      have M1 := My
      -- pinned: the list that is filled, and the iterator
      have I3' := I3.pinned (fpD fr3) (hT.obj _ _ st3)
      refine wpAny_bind (ZfS hxe (thn (hg _ s3 σ1 H3 x u (fun σ' H' => H' = H3 ∧ EnvR Y.K cm1 m1 H3 env' σ' ∧ Agree (tgS tg) σ1 σ') I3' rx (Zkw hE1 (fun j hj => by rw [I3.len]; exact hlt j (List.mem_append_left _ hj)) rt eb fun σ' h1 h2 => ⟨rfl, h1, h2⟩)) fun _ s4 ⟨σ4, H4, I4, e4, hE4, ag4⟩ => ?_))
      subst e4
      refine wpAny_bind (ZfS hxe (thn (Zdr ht I4 hE4 M1 okt) fun b s5 ⟨hb, H5, cm5, I5, x5, M5⟩ => ?_))
      subst hb
      have a5 := Zca hA a1 I5 fun o e => List.mem_append_left _ (inD o e)
      have st5 : tn (i + 1) s5.heap := hT.keep _ _ _ st3 fun b hb o e => (I5.pin (b, o) (List.mem_append_right _ (List.mem_append_right _ (Qs hb e)))).1
      have f5 : ∀ b ∈ fp, H5 b = none := fun b hb => by
        obtain ⟨o, e, dd⟩ := hT.obj _ _ st3 b hb
        exact (I5.pin (b, o) (List.mem_append_right _ (List.mem_append_right _ (Qs hb e)))).2.1
      have ag45 : Agree (tgS tg ++ innS inner) σ σ4 := ag1.trans (ag4.mono fun i hi => List.mem_append_left _ hi)
      cases b with
      | false =>
        rw [if_neg Bool.false_ne_true] at okb ⊢
        cases okb
        rw [List.nil_append] at eo
        exact wpAny_pure ⟨rfl, _, by omega, i + 1, σ4, H5, cm5, m2, vs1, done, ys, I5.unpinned.unpinned, st5, f5, a5.2, x1.trans x5, M5, ag45, a5.1, RTs.ext x5 M1 M5 r1, ok4, eo, rfl, hit⟩
      | true =>
        rw [if_pos rfl] at okb ⊢
        have I6 : Inv Y (pins ++ XS fp s5.heap) σ4 H5 s5 := I5.unpinned.unpinned.pinned (stat f5) (hT.obj _ _ st5)
        have hv := r1.length
        have hz : (vs ++ vs1).length + xs.length ≤ L := by
          rw [List.length_append, ← hv]
          rw [eo, List.length_append, List.length_append] at hl
          omega
        have hn6 : ∀ j ∈ innS inner, ∀ w, env'[j]? ≠ some (some w) := fun j hj w => by
          rw [ZeG eb fun z => hdis j z hj]
          exact hn j (List.mem_append_right _ hj) w
        refine ZfS hxe (thn (hbr I6 (Zhv (statD a5.2) hDf) a5.1 (hE4.ext x5 M1 M5) hn6 M5 okb hz fun t ht' => hpt t (by rw [eo]; exact List.mem_append_right _ (List.mem_append_left _ ht'))) fun fin s7 ⟨hfin, σ7, H7, cm7, vs7, I7, x7, M7, r7, a7, ag7, d7⟩ => ?_)
        subst hfin
        have keep7 : ∀ b ∈ fp, ∀ o, s5.heap.get? b = some o → s7.heap.get? b = some o := fun b hb o e => (I7.pin (b, o) (List.mem_append_right _ (List.mem_append_right _ (Qs hb e)))).1
        refine ⟨rfl, _, by omega, i + 1, σ7, H7, cm7, m2, vs1 ++ vs7, done ++ xs, ys, I7.unpinned, hT.keep _ _ _ st5 keep7, fun b hb => ?_, ?_, (x1.trans x5).trans x7, M7, ag45.trans (ag7.mono fun i hi => List.mem_append_right _ hi), by rw [← List.append_assoc]; exact a7,
          QL (RTs.ext x7 M5 M7 (RTs.ext x5 M1 M5 r1)) r7, ok4, by rw [eo, List.append_assoc], rfl, hit⟩
        · obtain ⟨o, e, dd⟩ := hT.obj _ _ st5 b hb
          exact (I7.pin (b, o) (List.mem_append_right _ (List.mem_append_right _ (Qs hb e)))).2.1
        · exact d7
end
end Mi
end
section
namespace Mi
open PySem PySem.Spec PyProof.Rows L2
section
variable {xr : XR} {Y : Cx} {call : Nat → List W → Mem → Res W} {gv : List T}
theorem ZaC {prog : Program} {w : World} {A : Around} {R : Result → Shared → Prop} {s : Shared} {elt : Expr} {gens : List Comprehension} {scope : Scope} {pos : Pos} {d : Nat} {target iter : Expr} {ifs : List Expr} {it acc : Value} {env : PySem.Env} (hg : gens[d]? = some ⟨target, iter, ifs, 0⟩)
    (h0 : codeAny (model prog w) A (.compLoop (.ListComp elt gens scope pos) d it acc env) R s)
    (h : wpAny (model prog w) A (pyIter it) (fun it' s' => codeAny (model prog w) A (.compLoop (.ListComp elt gens scope pos) d it' acc env) R s') (notedBy (model prog w) A env fun x s' => R (.error x) s') s) :
    codeAny (model prog w) A (.compStart (.ListComp elt gens scope pos) d it acc env) R s := by
  refine codeAny_of_tree ?_
  show wpAny _ _ ((compStart (.ListComp elt gens scope pos) d it acc env).onRaise (fun x => do noteFrame x env; standAt theWindowsPlace)) _ _ s
  refine wpAny_notedAt ?_
  unfold compStart
  have e : (clausesOf (.ListComp elt gens scope pos))[d]? = some ⟨target, iter, ifs, 0⟩ := hg
  rw [e]
  show wpAny _ _ (ask >>= _) _ _ s
  refine wpAny_bind (wpAny_askSetting (wpAny_ite ?_))
  split
  · first
      | exact wpAny_bind (wpAny_pure (wpAny_pure (And.intro rfl h0)))
      | exact wpAny_pure (And.intro rfl h0)
  · first
      | exact wpAny_bind (wpAny_rule (wpAny_bind (wpAny_standAt (wpAny_bind (wpAny_mono h (fun it' s' h' => wpAny_pure (And.intro rfl h')) fun _ _ x => x)))))
      | (refine wpAny_bind (wpAny_rule ?_); show wpAny _ _ (standAt iter.pos >>= _) _ _ s; exact wpAny_bind (wpAny_standAt (wpAny_bind (wpAny_mono h (fun it' s' h' => wpAny_pure (And.intro rfl h')) fun _ _ x => x))))
theorem Zgf {pins : List (Addr × Obj)} {s : Shared} {σ : L2.St} {H : Hp} {D : Addr} {vs : List V} {v : V} {u : Value} {E : Value → Shared → Prop} {Q : Value → Shared → Prop} (I : Inv Y pins σ H s) (f : FpOk Y pins H D) (a : AccAt s.heap D vs) (r : RelV v u) (hz : vs.length < sizeLine)
    (q : ∀ s', Inv Y pins σ H s' → AccAt s'.heap D (vs ++ [v]) → Q .none s') : wpAny (model Y.prog Y.w) Y.A (PySem.call (.builtin "list.append") [.ref D, u]) Q E s := by
  obtain ⟨z, its, n, rv, e⟩ := a
  have hl := rv.length
  refine call_meets F.slot_list_append ⟨_, e, rfl⟩ F.entry_list_append (F.args_list_append_2 _ _) (PySem.list_append D its.toArray n u (by rw [List.size_toArray]; omega)) ⟨e, ?_⟩
  have e2 := PySem.IsL.update e (·.push u)
  have hf : its.toArray.push u = (its ++ [u]).toArray := by simp
  rw [hf] at e2
  obtain ⟨f0, f1, f2, f3, f4, f5⟩ := f
  refine q _ (I.turned (t' := s.toks) (it := D) (fun b o hb eb => (Heap.get?_update_other s.heap (Obj.mapSeq (·.push u)) (Ne.symm hb)).trans eb) f0 f1 f3 f4 f5) ⟨?_, its ++ [u], _, rv.append (.cons r .nil), e2⟩
  rw [List.length_append, List.length_singleton]
  omega
theorem ZaH {K : PySem.W.Frag} {cm : List Addr} {m m1 : Mem} {H : Hp} {w : W} {ts : List T} (M : MemR K cm m H) (e : QD w m = .ok ts m1) : Ext cm m H cm m1 H ∧ MemR K cm m1 H := by
  cases w with
  | t t =>
    unfold QD at e
    dsimp only at e
    split at e <;> cases e
    exact ⟨.refl, M⟩
  | f a => cases e
  | c i =>
    unfold QD at e
    dsimp only at e
    split at e
    · cases e
      exact ZhM M (by assumption)
    · cases e
theorem Zhh (hc : Y.calm = true) (hxe : ∀ e s, ¬ Y.xe e s) {elt : Expr} {gens : List Comprehension} {scope : Scope} {pos : Pos} {D : Addr} : ∀ (inner : E) (d : Nat) (target iter : Expr) (ifs : List Expr) (tg : Tg) (cs : Es), gens[d]? = some ⟨target, iter, ifs, 0⟩ →
    PG Y target (gT Y.K tg) → PTs Y call gv xr cs ifs → Ins xr Y call gv elt gens d inner → (∀ i ∈ tgS tg, i ∉ innS inner) → (∀ i ∈ tgS tg ++ innS inner, i < Y.N.length) →
    ∀ {pins : List (Addr × Obj)} {s : Shared} {σ : L2.St} {H : Hp} {cm : List Addr} {m m' : Mem} {env : Env} {ts out : List T} {J : It} {it : Addr} {fp : List Addr} {tn : Nat → Heap → Prop} {vs : List V}, Inv Y pins σ H s → FpOk Y pins H D → AccAt s.heap D vs →
      Turn Y.prog Y.w Y.K target J fp it tn → tn 0 s.heap → (∀ b ∈ fp, FpOk Y pins H b) → D ∉ fp → EnvR Y.K cm m H env σ → (∀ i ∈ tgS tg ++ innS inner, ∀ w, env[i]? ≠ some (some w)) → MemR Y.K cm m H → Src Y.K cm m H J ts →
      Q8 (turnF call gv cs inner) tg ts env m = .ok out m' → vs.length + out.length ≤ lim →
      codeAny (model Y.prog Y.w) Y.A (.compLoop (.ListComp elt gens scope pos) d (.ref it) (.ref D) Y.env) (fun r s' => r = .ok .next ∧ CEnd Y D (tgS tg ++ innS inner) pins σ cm m H vs out m' s') s
  | .emit a => @fun d target iter ifs tg cs hg pg pt hin hdis hlt pins s σ H cm m m' env ts out J it fp tn vs I hD ha hT h0 hf hDf hE hn M hs ok hl => by
    obtain ⟨hnx, pe⟩ := hin
    refine Zc2 hc hxe (ZbA D) (br := do (do let _ ← PySem.call (.builtin "list.append") [.ref D, ← eval elt Y.env]); again (.compLoop (.ListComp elt gens scope pos) d (.ref it) (.ref D) Y.env)) rfl rfl (Zdd hg hnx) pg pt hdis hlt ?_ I hD ha hT h0 hf hDf hE hn M hs ok hl (Pt := fun _ => True) (fun _ _ => trivial)
    intro pins s σ H cm m m' env out vs I hD ha hE hn M ok hl _
    obtain ⟨w, m1, ok1, ok2⟩ := ZK ok
    obtain ⟨rfl, rfl⟩ := Zb6 ok2
    unfold ev at ok1
    obtain ⟨w1, m2, ok3, ok4⟩ := ZK ok1
    obtain ⟨t, m3, ok5, ok6⟩ := ZK ok4
    cases ok6
    have hz := Qo
    refine wpAny_bind (wpAny_bind (thn (Zjn pe (Zh0 I hD ha) hE M ok3) fun u s1 ⟨v, H1, I1, rv, cm1, x1, M1, r1⟩ => ?_))
    obtain ⟨a1, d1⟩ := ZjF ha I1 fun o e => List.mem_append_right _ (Qs (by simp) e)
    obtain ⟨x2, M2, r2⟩ := Ze9 M1 r1 ok5
    have I1' : Inv Y pins σ H1 s1 := I1.unpinned
    refine wpAny_bind (Zgf I1' ⟨d1, hD.2⟩ a1 rv (by simp at hl; omega) fun s2 I2 a2 => wpAny_pure (wpAny_pure ⟨rfl, σ, H1, cm1, [v], I2, x1.trans x2, M2, .cons r2 .nil, a2, .refl, d1⟩))
  | .more it' tg' cs' inner' => @fun d target iter ifs tg cs hg pg pt hin hdis hlt pins s σ H cm m m' env ts out J it fp tn vs I hD ha hT h0 hf hDf hE hn M hs ok hl => by
    obtain ⟨⟨target', iter', ifs', hnx, pi, hfs, pg', pt'⟩, hdis', hlt', hin'⟩ := hin
    have rec_ := @Zhh hc hxe elt gens scope pos D inner' (d + 1) target' iter' ifs' tg' cs' hnx pg' pt' hin' hdis' hlt'
    refine Zc2 hc hxe (ZbA D) rfl rfl (Zdc hg hnx) pg pt hdis hlt ?_ I hD ha hT h0 hf hDf hE hn M hs ok hl (Pt := fun _ => True) (fun _ _ => trivial)
    intro pins s σ H cm m m' env out vs I hD ha hE hn M ok hl _
    obtain ⟨w, m1, ok1, ok2⟩ := ZK ok
    obtain ⟨rfl, rfl⟩ := Zb6 ok2
    unfold ev at ok1
    obtain ⟨w1, m2, ok3, ok4⟩ := ZK ok1
    obtain ⟨ts', m3, ok5, ok6⟩ := ZK ok4
    obtain ⟨out', m4, ok7, ok8⟩ := ZK ok6
    cases ok8
    have hz := Qo
    refine wpAny_bind (thn (pi _ s σ H (fun J H1 => ∃ cm1, Ext cm m H cm1 m2 H1 ∧ MemR Y.K cm1 m2 H1 ∧ Src Y.K cm1 m3 H1 J ts') (Zh0 I hD ha) ⟨env, cm, m, hE, M, by
      rw [ok3]
      exact fun cm1 H1 x M1 => ⟨ts', m3, ok5, fun J hs => ⟨cm1, x, M1, hs⟩⟩⟩) fun xv s1 h1 => ?_)
    refine wpAny_bind (wpAny_standAt (wpAny_bind (wpAny_of_eq (hfs xv) (wpAny_bind (wpAny_holding (thn h1 fun itv s2 h2 => ?_))))))
    obtain ⟨it2, fp2, tn2, J2, H2, rfl, I2, T2, st2, f2, cm2, x2, M2, hs2⟩ := h2
    obtain ⟨a2, d2⟩ := ZjF ha I2 fun o e => List.mem_append_right _ (Qs (by simp) e)
    have hDf2 : D ∉ fp2 := fun z => by
      obtain ⟨_, its, n, _, e⟩ := id ha
      exact (f2 D z).2.2.2.2.2 (D, _) (List.mem_append_right _ (List.mem_append_right _ (Qs (by simp) e))) rfl
    have f2' : ∀ b ∈ fp2, FpOk Y pins H2 b := fun b hb => ⟨(f2 b hb).1, (f2 b hb).2.1, (f2 b hb).2.2.1, (f2 b hb).2.2.2.1, (f2 b hb).2.2.2.2.1, fun p hp => (f2 b hb).2.2.2.2.2 p (by rw [← List.append_assoc]; exact List.mem_append_left _ hp)⟩
    have hb3 : Ext cm2 m2 H2 cm2 m3 H2 ∧ MemR Y.K cm2 m3 H2 := ZaH M2 ok5
    have E2 : EnvR Y.K cm2 m3 H2 env σ := (hE.ext x2 M M2).ext hb3.1 M2 hb3.2
    have go := rec_ I2.unpinned ⟨d2, hD.2⟩ a2 T2 st2 f2' hDf2 E2 hn hb3.2 hs2 ok7 hl
    have self : codeAny (model Y.prog Y.w) Y.A (.compStart (.ListComp elt gens scope pos) (d + 1) (.ref it2) (.ref D) Y.env) _ s2 := ZaC hnx go (T2.self Y.A 0 s2 _ _ st2 go)
    refine wpAny_bind (wpAny_runOwn (codeAny_mono self fun r s3 ⟨hr, σ3, H3, cm3, vs3, I3, x3, M3, r3, a3, ag3, d3⟩ => ?_))
    subst hr
    obtain ⟨x4, M4, sm⟩ := Xn M2 ok5 x3 M3
    exact wpAny_pure ⟨rfl, σ3, H3, cm3, vs3, I3, x2.trans x4, M4, ZF (fun _ _ z => sm _ _ z) r3, a3, ag3, d3⟩
  | .var _ => @fun d target iter ifs tg cs hg pg pt hin => hin.elim
  | .gl _ => @fun d target iter ifs tg cs hg pg pt hin => hin.elim
  | .con _ => @fun d target iter ifs tg cs hg pg pt hin => hin.elim
  | .bin _ _ _ => @fun d target iter ifs tg cs hg pg pt hin => hin.elim
  | .neg _ => @fun d target iter ifs tg cs hg pg pt hin => hin.elim
  | .not _ => @fun d target iter ifs tg cs hg pg pt hin => hin.elim
  | .and _ _ => @fun d target iter ifs tg cs hg pg pt hin => hin.elim
  | .or _ _ => @fun d target iter ifs tg cs hg pg pt hin => hin.elim
  | .one _ => @fun d target iter ifs tg cs hg pg pt hin => hin.elim
  | .cmp _ _ _ => @fun d target iter ifs tg cs hg pg pt hin => hin.elim
  | .chn _ _ _ _ _ => @fun d target iter ifs tg cs hg pg pt hin => hin.elim
  | .ite _ _ _ => @fun d target iter ifs tg cs hg pg pt hin => hin.elim
  | .tup _ => @fun d target iter ifs tg cs hg pg pt hin => hin.elim
  | .lst _ => @fun d target iter ifs tg cs hg pg pt hin => hin.elim
  | .cel _ => @fun d target iter ifs tg cs hg pg pt hin => hin.elim
  | .celL _ => @fun d target iter ifs tg cs hg pg pt hin => hin.elim
  | .celA _ _ => @fun d target iter ifs tg cs hg pg pt hin => hin.elim
  | .dsp _ _ => @fun d target iter ifs tg cs hg pg pt hin => hin.elim
  | .ix _ _ => @fun d target iter ifs tg cs hg pg pt hin => hin.elim
  | .slc _ _ _ => @fun d target iter ifs tg cs hg pg pt hin => hin.elim
  | .rev _ => @fun d target iter ifs tg cs hg pg pt hin => hin.elim
  | .hole => @fun d target iter ifs tg cs hg pg pt hin => hin.elim
  | .call _ _ => @fun d target iter ifs tg cs hg pg pt hin => hin.elim
  | .blt _ _ => @fun d target iter ifs tg cs hg pg pt hin => hin.elim
  | .mth _ _ _ => @fun d target iter ifs tg cs hg pg pt hin => hin.elim
  | .isi _ _ => @fun d target iter ifs tg cs hg pg pt hin => hin.elim
  | .comp _ _ _ _ _ _ => @fun d target iter ifs tg cs hg pg pt hin => hin.elim
  | .tr _ => @fun d target iter ifs tg cs hg pg pt hin => hin.elim
  | .fnv _ => @fun d target iter ifs tg cs hg pg pt hin => hin.elim
  | .callV _ _ _ => @fun d target iter ifs tg cs hg pg pt hin => hin.elim
end
end Mi
end
section
namespace Mi
open PySem PySem.Spec PyProof.Rows L2
theorem ZcB {scope : Scope} {env : PySem.Env} (h : ∀ x, (x, NameKind.free) ∈ scope.names → ∃ c, env.cells.lookup x = some c) :
    ∃ cl, closureFor scope env = pure cl ∧ (∀ x c, cl.lookup x = some c → env.cells.lookup x = some c) ∧ ∀ x, (x, NameKind.free) ∈ scope.names → ∃ c, cl.lookup x = some c := by
  have go : ∀ (ns : List (Str × NameKind)) (acc : List (Str × Addr)), (∀ x, (x, NameKind.free) ∈ ns → ∃ c, env.cells.lookup x = some c) → (∀ x c, acc.lookup x = some c → env.cells.lookup x = some c) →
      ∃ cl, (forIn ns acc fun (x : Str × NameKind) cs => (match x with | (name, kind) => if (kind == NameKind.free) = true then do let a ← cellOf env name; pure (ForInStep.yield ((name, a) :: cs)) else pure (ForInStep.yield cs) : Sem (ForInStep (List (Str × Addr))))) = pure cl ∧
        (∀ x c, cl.lookup x = some c → env.cells.lookup x = some c) ∧ (∀ x, (x, NameKind.free) ∈ ns → ∃ c, cl.lookup x = some c) ∧ ∀ x c, acc.lookup x = some c → ∃ c, cl.lookup x = some c := by
    intro ns
    induction ns with
    | nil => intro acc _ h2; exact ⟨acc, rfl, h2, fun x hx => absurd hx (by simp), fun x c e => ⟨c, e⟩⟩
    | cons p ns ih =>
      intro acc h1 h2
      obtain ⟨n, k⟩ := p
      have h1' : ∀ x, (x, NameKind.free) ∈ ns → ∃ c, env.cells.lookup x = some c := fun x hx => h1 x (List.mem_cons_of_mem _ hx)
      by_cases hk : k = .free
      · subst hk
        obtain ⟨c, hc⟩ := h1 n List.mem_cons_self
        have h2' : ∀ x d, ((n, c) :: acc).lookup x = some d → env.cells.lookup x = some d := fun x d e => by
          rw [List.lookup_cons] at e
          cases hx : x == n with
          | true => rw [hx] at e; cases e; rw [eq_of_beq hx]; exact hc
          | false => rw [hx] at e; exact h2 x d e
        obtain ⟨cl, e1, e2, e3, e4⟩ := ih ((n, c) :: acc) h1' h2'
        refine ⟨cl, ?_, e2, fun x hx => ?_, fun x d e => ?_⟩
        · rw [List.forIn_cons]
          simp only [beq_self_eq_true, if_true, cellOf, hc, pure_bind]
          exact e1
        · rcases List.mem_cons.mp hx with z | z
          · cases z
            exact e4 n c (by rw [List.lookup_cons, beq_self_eq_true])
          · exact e3 x z
        · by_cases hx : x = n
          · subst hx; exact e4 x c (by rw [List.lookup_cons, beq_self_eq_true])
          · exact e4 x d (by rw [List.lookup_cons, beq_eq_false_iff_ne.mpr hx]; exact e)
      · obtain ⟨cl, e1, e2, e3, e4⟩ := ih acc h1' h2
        have hb : (k == NameKind.free) = false := beq_eq_false_iff_ne.mpr hk
        refine ⟨cl, ?_, e2, fun x hx => ?_, e4⟩
        · rw [List.forIn_cons]
          simp only [hb, Bool.false_eq_true, if_false, pure_bind]
          exact e1
        · rcases List.mem_cons.mp hx with z | z
          · cases z; exact absurd rfl hk
          · exact e3 x z
  obtain ⟨cl, e1, e2, e3, _⟩ := go scope.names [] h (fun x c e => by simp at e)
  refine ⟨cl, ?_, e2, e3⟩
  unfold closureFor
  have : (forIn scope.names ([] : List (Str × Addr)) fun (x : Str × NameKind) cs => (match x with | (name, kind) => if (kind == NameKind.free) = true then do let a ← cellOf env name; pure (ForInStep.yield ((name, a) :: cs)) else pure (ForInStep.yield cs) : Sem (ForInStep (List (Str × Addr))))) >>= (fun cs => pure cs) = (pure cl : Sem (List (Str × Addr))) := by rw [e1]; rfl
  exact this
end Mi
end
section
namespace Mi
open PySem PySem.Spec PyProof.Rows L2
section
variable {xr : XR} {X : Cx} {call : Nat → List W → Mem → Res W} {gv : List T}
noncomputable abbrev Jz (X : Cx) (N' : List Str) (scope : Scope) (cl : List (Str × Addr)) (C : Addr) (s2 : Shared) (H2 : Hp) (fp : List Addr) : Cx :=
  { X with N := N', s₀ := s2, H₀ := H2, env := compEnvC scope cl C X.env, outer := X.stack, stack := X.stack, ex := fp, fn := fun _ => false, pn := [], xe := fun _ _ => False }
structure CompSc (X : Cx) (N' : List Str) (scope : Scope) : Prop where
  kind : scope.kind = .function
  cell : ∀ y ∈ scope.names, y.2 ≠ NameKind.cell
  look : ∀ p ∈ scope.names, scope.names.lookup p.1 = some p.2
  free : ∀ x, (x, NameKind.free) ∈ scope.names → X.env.kindOf x = some .cell ∨ X.env.kindOf x = some .free
theorem Zbc {scope : Scope} {env : PySem.Env} (look : ∀ p ∈ scope.names, scope.names.lookup p.1 = some p.2) {x : Str} {k : NameKind} (h : (relabel scope env).names.lookup x = some k) :
    ∃ k', scope.names.lookup x = some k' ∧ (k = k' ∨ (k' = .free ∧ k = .cell)) := by
  have go : ∀ (ns : List (Str × NameKind)), (ns.map fun (n, k) => if (k == NameKind.free && env.scope.kind == .function && env.kindOf n == some .cell) then (n, NameKind.cell) else (n, k)).lookup x = some k → ∃ k', ns.lookup x = some k' ∧ (k = k' ∨ (k' = .free ∧ k = .cell)) := by
    intro ns
    induction ns with
    | nil => intro h; simp at h
    | cons p r ih =>
      obtain ⟨n, q⟩ := p
      intro h
      rw [List.map_cons] at h
      by_cases hc : (q == NameKind.free && env.scope.kind == .function && env.kindOf n == some .cell) = true
      · simp only [hc, if_true] at h
        rw [List.lookup_cons] at h ⊢
        cases hx : x == n with
        | true =>
          rw [hx] at h; cases h
          rw [Bool.and_eq_true, Bool.and_eq_true] at hc
          exact ⟨q, rfl, .inr ⟨eq_of_beq hc.1.1, rfl⟩⟩
        | false => rw [hx] at h; exact ih h
      · simp only [hc, Bool.false_eq_true, if_false] at h
        rw [List.lookup_cons] at h ⊢
        cases hx : x == n with
        | true => rw [hx] at h; cases h; exact ⟨_, rfl, .inl rfl⟩
        | false => rw [hx] at h; exact ih h
  exact go scope.names h
theorem Zac {ns : List (Str × NameKind)} {x : Str} {k : NameKind} (h : ns.lookup x = some k) : (x, k) ∈ ns := PySem.mem_of_lookup h
theorem ZcA {pins : List (Addr × Obj)} {s : Shared} {σ σ' : L2.St} {H : Hp} {fp : List Addr} {N' : List Str} {scope : Scope} {cl : List (Str × Addr)} {C : Addr} {h1 : Heap} {t : Nat} (I : Inv X pins σ H s) (S : CompSc X N' scope) (hf : ∀ b ∈ fp, FpOk X pins H b) (hlt : ∀ b ∈ fp, b < s.heap.objs.size)
    (hC : s.heap.objs.size ≤ C) (hns : ∃ m, h1.Ns C m) (hk : ∀ b o, s.heap.get? b = some o → h1.get? b = some o)
    (hcl1 : ∀ x c, cl.lookup x = some c → X.env.cells.lookup x = some c) (hcl2 : ∀ x, (x, NameKind.free) ∈ scope.names → ∃ c, cl.lookup x = some c) (hl : σ'.length = N'.length)
    (hσ : ∀ (i : Nat) (x : Str) (v : V), N'[i]? = some x → σ'[i]? = some (some v) → ∃ j : Nat, X.N[j]? = some x ∧ σ[j]? = some (some v) ∧ (x, NameKind.free) ∈ scope.names) :
    Inv (Jz X N' scope cl C s H fp) [] σ' H { s with heap := h1, toks := t } := by
  have hfree : ∀ x k, (relabel scope X.env).names.lookup x = some k → (k = .cell ∨ k = .free) → (x, NameKind.free) ∈ scope.names := fun x k h hk' => by
    obtain ⟨k', h1, h2⟩ := Zbc S.look h
    rcases h2 with rfl | ⟨rfl, _⟩
    · rcases hk' with rfl | rfl
      · exact absurd rfl (S.cell _ (Zac h1))
      · exact Zac h1
    · exact Zac h1
  obtain ⟨mm, hns⟩ := hns
  refine ⟨⟨I.ok.mod, S.kind, I.ok.glob, I.ok.blt, hC, fun x y c e1 e2 => I.ok.inj x y c (hcl1 x c e1) (hcl1 y c e2), fun x hx => ?_, fun x c h => ?_, I.ok.hd, I.ok.frames, .inl rfl, fun b hb => ⟨Nat.ne_of_lt (Nat.lt_of_lt_of_le (hlt b hb) hC), fun x c e => (hf b hb).2.2.2.2.1 x c (hcl1 x c e)⟩, I.bs, Nat.le_trans I.ok.bsz I.sz, fun b o e hb => ?_, fun b hb z => ?_, I.stack, I.stkFree⟩,
    rfl, I.bare, Un.kept hk, ⟨mm, hns, fun i x v e1 e2 e3 => ?_⟩, fun x c e => ?_, I.hok.fresh hC, fun x c e => I.freeC x c (hcl1 x c e), fun p hp => absurd (show p ∈ ([] : List (Addr × Obj)) from hp) (by simp), I.hok.kept hk, hl⟩
  · rcases hx with hx | hx
    · exact hcl2 x (hfree x _ hx (.inl rfl))
    · exact hcl2 x (hfree x _ hx (.inr rfl))
  · exact absurd (show false = true from h) Bool.false_ne_true
  · rcases (hf b hb).2.2.2.1 with z | z
    · exact I.ok.noex b o e z
    · exact absurd (Nat.lt_of_lt_of_le (Heap.lt_size e) (Nat.le_trans I.ok.bsz z)) (Nat.lt_irrefl _)
  · rcases List.mem_cons.mp (I.stkSub b z) with q | q
    · exact (hf b hb).2.1 q
    · exact (hf b hb).2.2.1 q
  · obtain ⟨j, h1', h2', h3'⟩ := hσ i x v e1 e2
    obtain ⟨m0, hn0, hl0⟩ := I.loc
    have kx := S.free x h3'
    obtain ⟨u, ru, lu⟩ := hl0 j x v h1' h2' (kx.elim (fun z => .inr (.inl z)) fun z => .inr (.inr z))
    refine ⟨u, ru, .inr ?_⟩
    obtain ⟨c, ec, ic⟩ : ∃ c, X.env.cells.lookup x = some c ∧ s.heap.IsCell c (some u) := by
      rcases lu with ⟨q, _⟩ | ⟨_, c, q1, q2⟩
      · rcases kx with z | z
        · rw [z] at q; cases q
        · rw [z] at q; cases q
      · exact ⟨c, q1, q2⟩
    obtain ⟨c', ec'⟩ := hcl2 x h3'
    have : c' = c := by
      have := hcl1 x c' ec'
      rw [ec] at this; exact (Option.some.inj this).symm
    subst this
    obtain ⟨o, ho, hd⟩ := ic
    refine ⟨?_, c', ec', o, hk _ _ ho, hd⟩
    rcases e3 with e3 | e3 | e3
    · obtain ⟨k', q1, q2⟩ := Zbc S.look e3
      rw [S.look _ h3'] at q1; cases q1
      rcases q2 with q2 | ⟨_, q2⟩ <;> cases q2
    · exact .inl e3
    · exact .inr e3
  · obtain ⟨v, o, ho, hd⟩ := I.cell x c (hcl1 x c e)
    exact ⟨v, o, hk _ _ ho, hd⟩
theorem Zcz {pins : List (Addr × Obj)} {s s' : Shared} {σ σ' : L2.St} {H H' : Hp} {fp : List Addr} {N' : List Str} {scope : Scope} {cl : List (Str × Addr)} {C : Addr} (I : Inv X pins σ H s) (hf : ∀ b ∈ fp, FpOk X pins H b) (J : Inv (Jz X N' scope cl C s H fp) [] σ' H' s') :
    Inv X pins σ H' s' :=
  I.call' J.os J.base J.hok J.bare fun b hb => ⟨(hf b hb).2.2.2.1, (hf b hb).2.1, (hf b hb).2.2.2.2.1, (hf b hb).2.2.2.2.2⟩
theorem Inv.adopt {pins : List (Addr × Obj)} {s : Shared} {σ : L2.St} {H : Hp} {D : Addr} {vs : List V} (I : Inv X pins σ H s) (f : FpOk X pins H D) (a : AccAt s.heap D vs) : Inv X pins σ (upd H D (.lst vs)) s := by
  obtain ⟨f0, f1, f2, f3, f4, f5⟩ := f
  have hne : ∀ b u, H b = some u → b ≠ D := fun b u e z => by subst z; rw [f0] at e; cases e
  refine I.call' (ch := [D]) rfl ⟨fun b o e _ _ _ => e, fun b o e _ _ _ => ⟨o.slots, e⟩, fun b o e n hx => by rw [Qp (by simpa using hx)]; exact n, fun b o e _ => ⟨o, e⟩, fun b xs e => by rw [Qp (hne b _ e)]; exact e, fun b o u e => by rw [Qp (hne b _ e)]; exact e,
    fun b ps e => ⟨#[], by rw [Qp (hne b _ e), e]; simp⟩⟩ (fun b u e => ?_) I.bare fun b hb => ?_
  · by_cases hb : b = D
    · subst hb
      rw [JX] at e; cases e
      exact a
    · rw [Qp hb] at e
      exact (I.hok b u e).stay (fun _ _ _ q => q) (fun c q => by rw [Qp (hne c _ q)]; exact q) fun c xs q => by rw [Qp (hne c _ q)]; exact q
  · have e : b = D := by simpa using hb
    subst e
    exact ⟨f3, f1, f4, f5⟩
end
end Mi
end
section
namespace Mi
open PySem PySem.Spec PyProof.Rows L2
section
variable {xr : XR} {X : Cx} {call : Nat → List W → Mem → Res W} {gv : List T}
noncomputable def Zfh (X : Cx) (xr : XR) (call : Nat → List W → Mem → Res W) (gv : List T) (N' : List Str) (scope : Scope) (elt target : Expr) (ifs : List Expr) (gens : List Comprehension) (tg : Tg) (cs : Es) (inner : E) : Prop :=
  ∀ (cl : List (Str × Addr)) (C : Addr) (s2 : Shared) (H2 : Hp) (fp : List Addr), PG (Jz X N' scope cl C s2 H2 fp) target (gT X.K tg) ∧ PTs (Jz X N' scope cl C s2 H2 fp) call gv xr cs ifs ∧ Ins xr (Jz X N' scope cl C s2 H2 fp) call gv elt gens 0 inner
noncomputable def envC (own : Nat) (keep : List Nat) (env : Env) : Env := List.replicate own none ++ keep.map fun i => (env[i]?).join
noncomputable def stC (own : Nat) (keep : List Nat) (σ : L2.St) : L2.St := List.replicate own none ++ keep.map fun i => (σ[i]?).join
theorem ZjA {K : PySem.W.Frag} {cm : List Addr} {m : Mem} {H : Hp} {env : Env} {σ : L2.St} {own : Nat} {keep : List Nat} (h : EnvR K cm m H env σ) : EnvR K cm m H (envC own keep env) (stC own keep σ) := fun i w e => by
  unfold envC at e
  unfold stC
  by_cases hi : i < own
  · rw [List.getElem?_append_left (by simpa using hi), List.getElem?_replicate] at e
    split at e <;> cases e
  · rw [List.getElem?_append_right (by simpa using hi), List.length_replicate, List.getElem?_map] at e
    rw [List.getElem?_append_right (by simpa using hi), List.length_replicate, List.getElem?_map]
    cases q : keep[i - own]? with
    | none => rw [q] at e; cases e
    | some j =>
      rw [q] at e
      have e' : (env[j]?).join = some w := Option.some.inj e
      cases r : env[j]? with
      | none => rw [r] at e'; cases e'
      | some o =>
        rw [r] at e'
        have e2 : o = some w := e'
        subst e2
        obtain ⟨v, h1, h2⟩ := h j w r
        exact ⟨v, by simp [h1], h2⟩
theorem Zbu {α : Type} {r : Res α} {x : α} {m : Mem} (h : r.only = .ok x m) : r = .ok x m := by
  cases r with
  | ok _ _ => exact h
  | exc _ _ => cases h
  | stuck => cases h
theorem Zcn {α β : Type} {r : Res α} {f : α → Mem → Res β} (hf : ∀ x m e m', f x m ≠ .exc e m') (e : Exc) (m' : Mem) : r.only.bind f ≠ .exc e m' := by
  cases r with
  | ok x m => exact hf x m e m'
  | exc _ _ => intro h; cases h
  | stuck => intro h; cases h
theorem Za0 {own : Nat} {keep : List Nat} {it : E} {tg : Tg} {cs : Es} {inner : E} {env : Env} {m : Mem} (e : Exc) (m' : Mem) : ev call gv (.comp own keep it tg cs inner) env m ≠ .exc e m' := by
  unfold ev
  refine Zcn (fun x m0 e m' => ?_) e m'
  cases h : QD x m0 with
  | ok ts m1 =>
    refine Zcn (fun out m2 e m' => ?_) e m'
    split <;> (intro h; cases h)
  | exc _ _ =>
    unfold QD at h
    split at h <;> first
      | (cases h; done)
      | (split at h <;> cases h)
  | stuck => intro h; cases h
theorem ZbZ {own : Nat} {keep : List Nat} {it : E} {tg : Tg} {cs : Es} {inner : E} {env : Env} {m m' : Mem} {w : W} (h : ev call gv (.comp own keep it tg cs inner) env m = .ok w m') : ∃ out, w = .t (.lst out) := by
  unfold ev at h
  obtain ⟨_, _, _, h⟩ := ZK h
  obtain ⟨_, _, _, h⟩ := ZK h
  obtain ⟨out, _, _, h⟩ := ZK h
  split at h <;> cases h
  exact ⟨_, rfl⟩
theorem ZdV {elt target iter : Expr} {ifs : List Expr} {gs : List Comprehension} {scope : Scope} {pos pos' : Pos} {N' : List Str} {own : Nat} {keep : List Nat} {it : E} {tg : Tg} {cs : Es} {inner : E} {use : Option (Value → Sem Unit)}
    (hc : X.calm = true) (S : CompSc X N' scope) (hown : N'.length = own + keep.length) (hkeep : ∀ (i : Nat) x, N'[own + i]? = some x → ∃ j, keep[i]? = some j ∧ X.N[j]? = some x ∧ (x, NameKind.free) ∈ scope.names)
    (hlocal : ∀ x ∈ scope.names, x.2 = NameKind.local → scope.names.lookup x.1 = some .local)
    (pi : PI X target iter (tI X.K call gv xr it)) (hfs : ∀ x, foldedSetIterable iter X.env x = pure x) (hY : Zfh X xr call gv N' scope elt target ifs (⟨target, iter, ifs, 0⟩ :: gs) tg cs inner)
    (hdis : ∀ i ∈ tgS tg, i ∉ innS inner) (hsl : ∀ i ∈ tgS tg ++ innS inner, i < own)
    {pins : List (Addr × Obj)} {s : Shared} {σ : L2.St} {H : Hp} {cm : List Addr} {m m' : Mem} {env : Env} {out : List T} {Q : Value → Shared → Prop} (I : Inv X pins σ H s) (hE : EnvR X.K cm m H env σ) (M : MemR X.K cm m H)
    (ok : ev call gv (.comp own keep it tg cs inner) env m = .ok (.t (.lst out)) m')
    (fin : ∀ (D C : Addr) (s3 : Shared) (H3 : Hp) (cm3 : List Addr) (vs : List V), Inv X pins σ (upd H3 D (.lst vs)) s3 → H3 D = none → X.K.lookup D = none → Ext cm m H cm3 m' H3 → MemR X.K cm3 m' H3 → RTs X.K cm3 m' H3 out vs → (∃ mm, s3.heap.Ns C mm) → FpOk X pins (upd H3 D (.lst vs)) C →
      compPost (model X.prog X.w) X.A X.xe use Q (.ref D) C (.ok .next) s3) :
    wpAny (model X.prog X.w) X.A (comprehension (.ListComp elt (⟨target, iter, ifs, 0⟩ :: gs) scope pos) scope X.env pos' (newList []) false (eval iter X.env) use) Q X.xe s := by
  obtain ⟨cl, hclos, hcl1, hcl2⟩ := ZcB (scope := scope) (env := X.env) fun x hx => I.ok.has x (S.free x hx)
  unfold ev at ok
  obtain ⟨w1, m1, ok0, ok2⟩ := ZK ok
  have ok1 := Zbu ok0
  obtain ⟨ts, m2, ok3, ok4⟩ := ZK ok2
  obtain ⟨out', m3, ok5, ok6⟩ := ZK ok4
  split at ok6 <;> cases ok6
  rename_i hlen
  have ok5' : Q8 (turnF call gv cs inner) tg ts (envC own keep env) m2 = .ok out m3 := Zbu ok5
  have hz := Qo
  refine wpAny_comprehension_free rfl hfs hclos S.kind hlocal (thn (pi pins s σ H (fun J H1 => ∃ cm1, Ext cm m H cm1 m1 H1 ∧ MemR X.K cm1 m1 H1 ∧ Src X.K cm1 m2 H1 J ts) I ⟨env, cm, m, hE, M, by
      rw [ok1]
      exact fun cm1 H1 x M1 => ⟨ts, m2, ok3, fun J hs => ⟨cm1, x, M1, hs⟩⟩⟩) fun xv s1 h1 => thn h1 fun itv s2 h2 => ?_)
  obtain ⟨it2, fp, tn, J, H2, rfl, I2, T2, st2, f2, cm2, x2, M2, hs2⟩ := h2
  refine wpAny_newObj_type (wpAny_newFunctionEnv S.cell (by intro y hy; simp at hy) (fun h₁ hns₁ hsb₁ => ?_) S.kind)
  dsimp only at hns₁ hsb₁ ⊢
  generalize hH2 : s2.heap.push { cls := .type "list", dict := none, data := .seq ([] : List Value).toArray } = P2 at hns₁ hsb₁ ⊢
  have hCs : P2.objs.size = s2.heap.objs.size + 1 := by rw [← hH2, Heap.size_push]
  have hDC : s2.heap.objs.size ≠ P2.objs.size := by omega
  have below : ∀ b, b < s2.heap.objs.size → b ≠ P2.objs.size := fun b hb => by omega
  have old : ∀ b o, s2.heap.get? b = some o → h₁.get? b = some o := fun b o e => hsb₁.extBut b o (below b (Heap.lt_size e)) (Heap.get?_push_of_some _ (hH2 ▸ Heap.get?_push_of_some _ e))
  have hacc : h₁.get? s2.heap.objs.size = some { cls := .type "list", data := .seq ([] : List Value).toArray } := hsb₁.extBut _ _ hDC (Heap.get?_push_of_some _ (hH2 ▸ Heap.get?_push_size _ rfl))
  have flt : ∀ b ∈ fp, b < s2.heap.objs.size := fun b hb => by
    obtain ⟨o, e, _⟩ := T2.obj _ _ st2 b hb
    exact Heap.lt_size e
  have hb3 := ZaH M2 ok3
  have E2 : EnvR X.K cm2 m2 H2 env σ := (hE.ext x2 M M2).ext hb3.1 M2 hb3.2
  have hσl : (stC own keep σ).length = N'.length := by unfold stC; simp [hown]
  have J0 : Inv (Jz X N' scope cl P2.objs.size s2 H2 fp) [] (stC own keep σ) H2 { s2 with heap := h₁, toks := s2.toks + ([] : List (Str × Value)).length } :=
    ZcA I2 S f2 flt (by omega) ⟨_, hns₁⟩ old hcl1 hcl2 hσl fun i x v e1 e2 => by
      unfold stC at e2
      by_cases hi : i < own
      · rw [List.getElem?_append_left (by simpa using hi), List.getElem?_replicate] at e2
        split at e2 <;> cases e2
      · rw [List.getElem?_append_right (by simpa using hi), List.length_replicate, List.getElem?_map] at e2
        have ei : N'[own + (i - own)]? = some x := by rw [show own + (i - own) = i by omega]; exact e1
        obtain ⟨j, q1, q2, q3⟩ := hkeep (i - own) x ei
        rw [q1] at e2
        have e3 : (σ[j]?).join = some v := Option.some.inj e2
        refine ⟨j, q2, ?_, q3⟩
        cases r : σ[j]? with
        | none => rw [r] at e3; cases e3
        | some o => rw [r] at e3; exact congrArg some e3
  obtain ⟨pg, pt, hin⟩ := hY cl P2.objs.size s2 H2 fp
  have fD : FpOk (Jz X N' scope cl P2.objs.size s2 H2 fp) [] H2 s2.heap.objs.size := by
    refine ⟨I2.hok.fresh (Nat.le_refl _), hDC, fun z => ?_, .inr (Nat.le_refl _), fun x c e z => ?_, fun p hp => absurd (show p ∈ ([] : List (Addr × Obj)) from hp) (by simp)⟩
    · have := I2.stkSub _ z
      rcases List.mem_cons.mp this with q | q
      · exact absurd I2.lt (by rw [← q]; exact Nat.lt_irrefl _)
      · exact I2.nofs (Nat.le_refl _) q
    · obtain ⟨v, q⟩ := I2.cell x c (hcl1 x c e)
      exact absurd q.lt (by rw [z]; exact Nat.lt_irrefl _)
  have fF : ∀ b ∈ fp, FpOk (Jz X N' scope cl P2.objs.size s2 H2 fp) [] H2 b := fun b hb => by
    refine ⟨(f2 b hb).1, below b (flt b hb), fun z => ?_, .inl hb, fun x c e => (f2 b hb).2.2.2.2.1 x c (hcl1 x c e), fun p hp => absurd (show p ∈ ([] : List (Addr × Obj)) from hp) (by simp)⟩
    rcases List.mem_cons.mp (I2.stkSub b z) with q | q
    · exact (f2 b hb).2.1 q
    · exact (f2 b hb).2.2.1 q
  have st2' : tn 0 h₁ := T2.keep _ _ _ st2 fun b _ o e => old b o e
  have hDf : s2.heap.objs.size ∉ fp := fun z => absurd (flt _ z) (Nat.lt_irrefl _)
  have hnone : ∀ i ∈ tgS tg ++ innS inner, ∀ w, (envC own keep env)[i]? ≠ some (some w) := fun i hi w e => by
    unfold envC at e
    rw [List.getElem?_append_left (by simpa using hsl i hi), List.getElem?_replicate] at e
    split at e <;> cases e
  have go := Zhh (Y := Jz X N' scope cl P2.objs.size s2 H2 fp) (xr := xr) (call := call) (gv := gv) hc (fun _ _ z => z) (elt := elt) (scope := scope) (pos := pos) (D := s2.heap.objs.size) inner 0 target iter ifs tg cs rfl pg pt hin hdis (fun i hi => by
    show i < N'.length
    rw [hown]
    have := hsl i hi
    omega) J0 fD (vs := []) ⟨Nat.zero_le _, [], 0, .nil, hacc⟩ T2 st2' fF hDf (ZjA E2) hnone hb3.2 hs2 ok5' (by rw [List.length_nil, Nat.zero_add]; exact hlen)
  have fine : ∀ r s3, (r = .ok .next ∧ CEnd (Jz X N' scope cl P2.objs.size s2 H2 fp) s2.heap.objs.size (tgS tg ++ innS inner) [] (stC own keep σ) cm2 m2 H2 [] out m3 s3) → compPost (model X.prog X.w) X.A X.xe use Q (.ref s2.heap.objs.size) P2.objs.size r s3 := fun r s3 ⟨hr, σ3, H3, cm3, vs3, J3, x3, M3, r3, a3, ag3, d3⟩ => by
    subst hr
    rw [List.nil_append] at a3
    obtain ⟨x4, M4, sm⟩ := Xn M2 ok3 x3 M3
    have I3 : Inv X pins σ H3 s3 := Zcz I2 f2 J3
    have fX : ∀ b, s2.heap.objs.size ≤ b → ∀ H', H' b = none → FpOk X pins H' b := fun b hb H' hn => I2.fpOk hb hn
    obtain ⟨mm, hmm, _⟩ := J3.loc
    have neC : P2.objs.size ≠ s2.heap.objs.size := Ne.symm hDC
    refine fin s2.heap.objs.size P2.objs.size s3 H3 cm3 vs3 (Inv.adopt I3 (fX _ (Nat.le_refl _) _ d3) a3) d3 ?_ (x2.trans x4) M4 (ZF (fun _ _ z => sm _ _ z) r3) ⟨mm, hmm⟩ (fX _ (by omega) _ ?_)
    · cases q : X.K.lookup s2.heap.objs.size with
      | none => rfl
      | some o => exact absurd (Heap.lt_size (I2.kIn _ _ q)) (Nat.lt_irrefl _)
    · rw [Qp neC]; exact J3.free
  exact codeAny_mono (ZaC (gens := ⟨target, iter, ifs, 0⟩ :: gs) rfl go (T2.self X.A 0 { s2 with heap := h₁, toks := s2.toks + ([] : List (Str × Value)).length } _ _ st2' go)) fine
structure CompK (X : Cx) (xr : XR) (call : Nat → List W → Mem → Res W) (gv : List T) (N' : List Str) (scope : Scope) (own : Nat) (keep : List Nat) (elt target iter : Expr) (ifs : List Expr) (gs : List Comprehension) (it : E) (tg : Tg) (cs : Es) (inner : E) : Prop where
  sc : CompSc X N' scope
  hown : N'.length = own + keep.length
  hkeep : ∀ (i : Nat) x, N'[own + i]? = some x → ∃ j, keep[i]? = some j ∧ X.N[j]? = some x ∧ (x, NameKind.free) ∈ scope.names
  pi : PI X target iter (tI X.K call gv xr it)
  fs : ∀ x, foldedSetIterable iter X.env x = pure x
  ins : Zfh X xr call gv N' scope elt target ifs (⟨target, iter, ifs, 0⟩ :: gs) tg cs inner
  dis : ∀ i ∈ tgS tg, i ∉ innS inner
  slt : ∀ i ∈ tgS tg ++ innS inner, i < own
variable {elt target iter : Expr} {ifs : List Expr} {gs : List Comprehension} {scope : Scope} {pos : Pos} {N' : List Str} {own : Nat} {keep : List Nat} {it : E} {tg : Tg} {cs : Es} {inner : E}
theorem QQ (hc : X.calm = true) (k : CompK X xr call gv N' scope own keep elt target iter ifs gs it tg cs inner) :
    PE X (.ListComp elt (⟨target, iter, ifs, 0⟩ :: gs) scope pos) (tE X.K call gv xr (.comp own keep it tg cs inner)) := by
  rintro pins s σ H Q I ⟨env, cm, m, hE, M, ho⟩
  cases h : ev call gv (.comp own keep it tg cs inner) env m with
  | stuck => rw [h] at ho; exact ho.elim
  | exc e m' => exact absurd h (Za0 e m')
  | ok w m' =>
    obtain ⟨out, rfl⟩ := ZbZ h
    rw [h] at ho
    rw [eval_ListComp]
    refine ZdV (use := none) hc k.sc k.hown k.hkeep (fun x hx e => by rw [k.sc.look x hx, e]) k.pi k.fs k.ins k.dis k.slt I hE M h ?_
    rintro D C s3 H3 cm3 vs I3 hD _ x3 M3 r3 ⟨mm, hm⟩ fC
    refine ⟨mm, hm, fun h' hs' => ?_⟩
    have I4 : Inv X pins σ (upd H3 D (.lst vs)) { s3 with heap := h' } := I3.turned (t' := s3.toks) (it := C) (fun b o hb e => (hs'.2 b hb).trans e) fC.1 fC.2.1 fC.2.2.2.1 fC.2.2.2.2.1 fC.2.2.2.2.2
    exact ⟨.ref D, _, I4, rfl, OkR.to ho (x3.trans (.new hD)) (M3.new hD) _ (RT.newLst M3 r3 hD)⟩
theorem Zi4 {i : Nat} {x : Str} {px spos : Pos} (hc : X.calm = true) (k : CompK X xr call gv N' scope own keep elt target iter ifs gs it tg cs inner) (hN : X.N.Nodup) (hi : X.N[i]? = some x) (hx : X.env.scope.names.lookup x = some .local)
    (hsw : swapsWith (.ListComp elt (⟨target, iter, ifs, 0⟩ :: gs) scope pos) (some (.Name x px)) spos.line X.env = pure true)
    {pins : List (Addr × Obj)} {s : Shared} {σ : L2.St} {H : Hp} {cm : List Addr} {m m' : Mem} {env : Env} {out : List T} {D : Ends} (I : Inv X pins σ H s) (hE : EnvR X.K cm m H env σ) (M : MemR X.K cm m H)
    (ok : ev call gv (.comp own keep it tg cs inner) env m = .ok (.t (.lst out)) m')
    (q : ∀ (p : Addr) (H3 : Hp) (cm3 : List Addr) (vs : List V), H3 p = none → X.K.lookup p = none → Ext cm m H cm3 m' H3 → MemR X.K cm3 m' H3 → RTs X.K cm3 m' H3 out vs → D.nx (σ.set i (some (.ref p))) (upd H3 p (.lst vs))) :
    wpAny (model X.prog X.w) X.A (exec (.Assign [.Name x px] (.ListComp elt (⟨target, iter, ifs, 0⟩ :: gs) scope pos) spos) X.env) (SP X pins D) X.xe s := by
  rw [exec_Assign_Name_used _ _ _ _ hsw]
  refine wpAny_bind (wpAny_standAt (wpAny_bind ?_))
  show wpAny _ _ (do let _ ← comprehension (.ListComp elt (⟨target, iter, ifs, 0⟩ :: gs) scope pos) scope X.env _ (newList []) false (eval iter X.env) (some (assign (.Name x px) X.env))) _ _ s
  refine wpAny_bind (thn (ZdV (use := some (assign (.Name x px) X.env)) (Q := fun _ s' => SP X pins D .next s') hc k.sc k.hown k.hkeep (fun x hx e => by rw [k.sc.look x hx, e]) k.pi k.fs k.ins k.dis k.slt I hE M ok ?_) fun _ s' h => wpAny_pure (wpAny_pure h))
  rintro p C s3 H3 cm3 vs I3 hD hK x3 M3 r3 ⟨mm, hm⟩ fC
  show wpAny _ _ (assign (.Name x px) X.env (.ref p)) _ _ s3
  refine wpAny_assign_Name (Zds I3 hN hi (.inl hx) (v := .ref p) rfl (fun s4 I4 ⟨a, hs4, ha⟩ => ?_) (.inr hx))
  have hac : C ≠ a := by
    rcases ha with rfl | ha
    · exact fC.2.1
    · exact fun z => fC.2.2.2.2.1 x a ha z.symm
  refine ⟨mm, hm.sameBut hs4 hac, fun h' hs' => ?_⟩
  have I5 : Inv X pins (σ.set i (some (.ref p))) (upd H3 p (.lst vs)) { s4 with heap := h' } := I4.turned (t' := s4.toks) (it := C) (fun b o hb e => (hs'.2 b hb).trans e) fC.1 fC.2.1 fC.2.2.2.1 fC.2.2.2.2.1 fC.2.2.2.2.2
  exact ⟨_, _, I5, q p H3 cm3 vs hD hK x3 M3 r3⟩
end
end Mi
end
section
namespace Mi
open PySem PySem.Spec PyProof.Rows L2
theorem ZdW {elt : Expr} {gens : List Comprehension} {scope : Scope} {pos : Pos} {d : Nat} {target iter : Expr} {ifs : List Expr} {it acc : Value} {env : PySem.Env} (hg : gens[d]? = some ⟨target, iter, ifs, 0⟩) (hn : gens[d + 1]? = none) :
    compTurn (.SetComp elt gens scope pos) d it acc env = (do
      standAt iter.pos
      match ← pyNext it with
      | none => pure (.done .next)
      | some v =>
        letOwnedTupleGo target it v
        assign target env v
        let mut ok := true
        for c in ifs do
          if ok then ok ← isTrue c env (eval c env)
        if ok then
          (do let v ← eval elt env; standAt elt.pos; let _ ← call (.builtin "set.add") [acc, v])
        again (.compLoop (.SetComp elt gens scope pos) d it acc env)) := by
  unfold compTurn
  simp only [hg, hn]
  rfl
noncomputable def dl (ss : List Str) : List Str := ss.foldl (fun D x => if x ∈ D then D else D ++ [x]) []
theorem ZhB (ss : List Str) (x : Str) : dl (ss ++ [x]) = if x ∈ dl ss then dl ss else dl ss ++ [x] := by
  unfold dl
  rw [List.foldl_append]
  rfl
theorem ZjB (ss : List Str) : (dl ss).length ≤ ss.length := by
  have : ∀ (ss D : List Str), (ss.foldl (fun D x => if x ∈ D then D else D ++ [x]) D).length ≤ D.length + ss.length := by
    intro ss
    induction ss with
    | nil => intro D; exact Nat.le_refl _
    | cons x r ih =>
      intro D
      rw [List.foldl_cons, List.length_cons]
      refine Nat.le_trans (ih _) ?_
      split
      · omega
      · rw [List.length_append, List.length_singleton]; omega
  have h := this ss []
  rw [List.length_nil, Nat.zero_add] at h
  exact h
noncomputable abbrev ledS (w : World) : Bool := !w.params.followText "set-order"
noncomputable def AccS (prog : Program) (w : World) (D : Addr) (h : Heap) (vs : List V) : Prop := ∃ ss : List Str, vs = ss.map V.str ∧ h.SetOf (PySem.strKind prog w) D (fun k => decide (k ∈ dl ss)) (dl ss).length
theorem Zdn (prog : Program) (w : World) (D : Addr) : AccK D (AccS prog w D) := ⟨fun ⟨ss, _, o, es, ep, t, e, _, d, _⟩ => ⟨o, e, fun v z => by rw [d] at z; cases z⟩, fun ⟨ss, q, o, es, ep, t, e, r⟩ k => ⟨ss, q, o, es, ep, t, k o e, r⟩⟩
theorem Zhu {prog : Program} {w : World} {h : Heap} {a : Addr} {led : Bool} (ha : h.get? a = some { cls := .type "set", dict := none, data := .set #[] 0 (.fresh 0 0 led) }) : AccS prog w a h [] :=
  ⟨[], rfl, PyProof.Rows.SetOf_congr ((PyProof.Rows.setObjOf_fresh (knd := PySem.strKind prog w) led).setOf ha (by unfold scanBound; omega)) (fun _ => rfl) rfl⟩
section
variable {xr : XR} {Y : Cx} {call : Nat → List W → Mem → Res W} {gv : List T}
theorem Zcd {prog : Program} {w : World} {A : Around} {R : Result → Shared → Prop} {s : Shared} {elt : Expr} {gens : List Comprehension} {scope : Scope} {pos : Pos} {d : Nat} {target iter : Expr} {ifs : List Expr} {it acc : Value} {env : PySem.Env} (hg : gens[d]? = some ⟨target, iter, ifs, 0⟩)
    (h0 : codeAny (model prog w) A (.compLoop (.SetComp elt gens scope pos) d it acc env) R s)
    (h : wpAny (model prog w) A (pyIter it) (fun it' s' => codeAny (model prog w) A (.compLoop (.SetComp elt gens scope pos) d it' acc env) R s') (notedBy (model prog w) A env fun x s' => R (.error x) s') s) :
    codeAny (model prog w) A (.compStart (.SetComp elt gens scope pos) d it acc env) R s := by
  refine codeAny_of_tree ?_
  show wpAny _ _ ((compStart (.SetComp elt gens scope pos) d it acc env).onRaise (fun x => do noteFrame x env; standAt theWindowsPlace)) _ _ s
  refine wpAny_notedAt ?_
  unfold compStart
  have e : (clausesOf (.SetComp elt gens scope pos))[d]? = some ⟨target, iter, ifs, 0⟩ := hg
  rw [e]
  show wpAny _ _ (ask >>= _) _ _ s
  refine wpAny_bind (wpAny_askSetting (wpAny_ite ?_))
  split
  · first
      | exact wpAny_bind (wpAny_pure (wpAny_pure (And.intro rfl h0)))
      | exact wpAny_pure (And.intro rfl h0)
  · first
      | exact wpAny_bind (wpAny_rule (wpAny_bind (wpAny_standAt (wpAny_bind (wpAny_mono h (fun it' s' h' => wpAny_pure (And.intro rfl h')) fun _ _ x => x)))))
      | (refine wpAny_bind (wpAny_rule ?_); show wpAny _ _ (standAt iter.pos >>= _) _ _ s; exact wpAny_bind (wpAny_standAt (wpAny_bind (wpAny_mono h (fun it' s' h' => wpAny_pure (And.intro rfl h')) fun _ _ x => x))))
theorem ZkU {pins : List (Addr × Obj)} {s : Shared} {σ : L2.St} {H : Hp} {D : Addr} {vs : List V} {x : Str} {t : Tok} {E : Value → Shared → Prop} {Q : Value → Shared → Prop} (I : Inv Y pins σ H s) (f : FpOk Y pins H D) (a : AccS Y.prog Y.w D s.heap vs) (hz : vs.length < 64)
    (q : ∀ s', Inv Y pins σ H s' → AccS Y.prog Y.w D s'.heap (vs ++ [.str x]) → Q .none s') : wpAny (model Y.prog Y.w) Y.A (PySem.call (.builtin "set.add") [.ref D, .str x t]) Q E s := by
  obtain ⟨ss, rfl, hS⟩ := a
  have hl := ZjB ss
  rw [List.length_map] at hz
  refine call_set_add (k := x) (by show Value.isStrOf x (.str x t) = true; simp [Value.isStrOf]) rfl hS (by unfold scanBound; omega) fun h' sb hS' => ?_
  obtain ⟨f0, f1, f2, f3, f4, f5⟩ := f
  refine q _ (I.turned (t' := s.toks + 1) (it := D) (fun b o hb e => (sb.2 b hb).trans e) f0 f1 f3 f4 f5) ⟨ss ++ [x], by simp, PyProof.Rows.SetOf_congr hS' (fun k => ?_) ?_⟩
  · rw [ZhB]
    split
    · rename_i h
      by_cases hk : k = x
      · subst hk; simp [h]
      · simp [hk]
    · by_cases hk : k = x <;> simp [hk]
  · rw [ZhB]
    by_cases h : x ∈ dl ss <;> simp [h]
theorem ZiM (hc : Y.calm = true) (hxe : ∀ e s, ¬ Y.xe e s) {elt : Expr} {gens : List Comprehension} {scope : Scope} {pos : Pos} {D : Addr} {ea : E} {target iter : Expr} {ifs : List Expr} {tg : Tg} {cs : Es} (hg : gens[0]? = some ⟨target, iter, ifs, 0⟩)
    (pg : PG Y target (gT Y.K tg)) (pt : PTs Y call gv xr cs ifs) (hin : Ins xr Y call gv elt gens 0 (.emit ea)) (hdis : ∀ i ∈ tgS tg, i ∉ innS (.emit ea)) (hlt : ∀ i ∈ tgS tg ++ innS (.emit ea), i < Y.N.length)
    {pins : List (Addr × Obj)} {s : Shared} {σ : L2.St} {H : Hp} {cm : List Addr} {m m' : Mem} {env : Env} {ts out : List T} {J : It} {it : Addr} {fp : List Addr} {tn : Nat → Heap → Prop} {vs : List V} (I : Inv Y pins σ H s) (hD : FpOk Y pins H D) (ha : AccS Y.prog Y.w D s.heap vs)
    (hT : Turn Y.prog Y.w Y.K target J fp it tn) (h0 : tn 0 s.heap) (hf : ∀ b ∈ fp, FpOk Y pins H b) (hDf : D ∉ fp) (hE : EnvR Y.K cm m H env σ) (hn : ∀ i ∈ tgS tg ++ innS (.emit ea), ∀ w, env[i]? ≠ some (some w)) (M : MemR Y.K cm m H) (hs : Src Y.K cm m H J ts)
    (ok : Q8 (turnF call gv cs (.emit ea)) tg ts env m = .ok out m') (hl : vs.length + out.length ≤ 63) (hst : ∀ t ∈ out, ∃ c, t = .str c) :
    codeAny (model Y.prog Y.w) Y.A (.compLoop (.SetComp elt gens scope pos) 0 (.ref it) (.ref D) Y.env) (fun r s' => r = .ok .next ∧ Zh3 Y (AccS Y.prog Y.w D) D (tgS tg ++ innS (.emit ea)) pins σ cm m H vs out m' s') s := by
  obtain ⟨hnx, pe⟩ := hin
  refine Zc2 hc hxe (Zdn Y.prog Y.w D) (Pt := fun t => ∃ c, t = .str c) (br := do (do let v ← eval elt Y.env; standAt elt.pos; let _ ← PySem.call (.builtin "set.add") [.ref D, v]); again (.compLoop (.SetComp elt gens scope pos) 0 (.ref it) (.ref D) Y.env)) rfl rfl (ZdW hg hnx) pg pt hdis hlt ?_ I hD ha hT h0 hf hDf hE hn M hs ok hl hst
  intro pins s σ H cm m m' env out vs I hD ha hE hn M ok hl hst
  obtain ⟨w, m1, ok1, ok2⟩ := ZK ok
  obtain ⟨rfl, rfl⟩ := Zb6 ok2
  unfold ev at ok1
  obtain ⟨w1, m2, ok3, ok4⟩ := ZK ok1
  obtain ⟨t, m3, ok5, ok6⟩ := ZK ok4
  cases ok6
  obtain ⟨c, rfl⟩ := hst t (by simp)
  refine wpAny_bind (wpAny_bind (thn (Zjn pe (Zdm (Zdn Y.prog Y.w D) I hD ha) hE M ok3) fun u s1 ⟨v, H1, I1, rv, cm1, x1, M1, r1⟩ => ?_))
  obtain ⟨a1, d1⟩ := Zca (Zdn Y.prog Y.w D) ha I1 fun o e => List.mem_append_right _ (Qs (by simp) e)
  obtain ⟨x2, M2, r2⟩ := Ze9 M1 r1 ok5
  have I1' : Inv Y pins σ H1 s1 := I1.unpinned
  cases RT.vstr r2
  obtain ⟨tk, rfl⟩ := rv
  refine wpAny_bind (wpAny_standAt (wpAny_bind (ZkU I1' ⟨d1, hD.2⟩ a1 (by simp at hl; omega) fun s2 I2 a2 => wpAny_pure (wpAny_pure ⟨rfl, σ, H1, cm1, [_], I2, x1.trans x2, M2, .cons r2 .nil, a2, .refl, d1⟩))))
end
section
variable {xr : XR} {X : Cx} {call : Nat → List W → Mem → Res W} {gv : List T}
theorem Zdo {P : Program} {w : World} {A : Around} {E : Value → Shared → Prop} {s : Shared} {Q : Value → Shared → Prop}
    (h : Q (.ref s.heap.objs.size) { s with heap := s.heap.push { cls := .type "set", dict := none, data := .set #[] 0 (.fresh 0 0 (ledS w)) } }) : wpAny (model P w) A (newSet (.type "set")) Q E s := by
  unfold newSet setsByText
  refine wpAny_bind (wpAny_bind (wpAny_askSetting (wpAny_pure ?_)))
  dsimp only
  simp only [newObj]
  exact wpAny_bind (wpAny_alloc (wpAny_pure h))
theorem Zf2 {elt target iter : Expr} {ifs : List Expr} {gs : List Comprehension} {scope : Scope} {pos pos' : Pos} {N' : List Str} {own : Nat} {keep : List Nat} {it : E} {tg : Tg} {cs : Es} {ea : E}
    (hc : X.calm = true) (S : CompSc X N' scope) (hown : N'.length = own + keep.length) (hkeep : ∀ (i : Nat) x, N'[own + i]? = some x → ∃ j, keep[i]? = some j ∧ X.N[j]? = some x ∧ (x, NameKind.free) ∈ scope.names)
    (hlocal : ∀ x ∈ scope.names, x.2 = NameKind.local → scope.names.lookup x.1 = some .local)
    (pi : PI X target iter (tI X.K call gv xr it)) (hfs : ∀ x, foldedSetIterable iter X.env x = pure x) (hY : Zfh X xr call gv N' scope elt target ifs (⟨target, iter, ifs, 0⟩ :: gs) tg cs (.emit ea))
    (hdis : ∀ i ∈ tgS tg, i ∉ innS (.emit ea)) (hsl : ∀ i ∈ tgS tg ++ innS (.emit ea), i < own)
    {pins : List (Addr × Obj)} {s : Shared} {σ : L2.St} {H : Hp} {cm : List Addr} {m m' : Mem} {env : Env} {out : List T} {Q : Value → Shared → Prop} (I : Inv X pins σ H s) (hE : EnvR X.K cm m H env σ) (M : MemR X.K cm m H)
    (h63 : out.length < 64) (hst : ∀ t ∈ out, ∃ c, t = .str c)
    (ok : ev call gv (.comp own keep it tg cs (.emit ea)) env m = .ok (.t (.lst out)) m')
    (fin : ∀ (D C : Addr) (s3 : Shared) (H3 : Hp) (cm3 : List Addr) (vs : List V), Inv X pins σ H3 s3 → AccS X.prog X.w D s3.heap vs → Ext cm m H cm3 m' H3 → MemR X.K cm3 m' H3 → RTs X.K cm3 m' H3 out vs → (∃ mm, s3.heap.Ns C mm) → FpOk X pins H3 C → D ≠ C →
      compPost (model X.prog X.w) X.A X.xe none Q (.ref D) C (.ok .next) s3) :
    wpAny (model X.prog X.w) X.A (comprehension (.SetComp elt (⟨target, iter, ifs, 0⟩ :: gs) scope pos) scope X.env pos' (newSet (.type "set")) false (eval iter X.env) none) Q X.xe s := by
  obtain ⟨cl, hclos, hcl1, hcl2⟩ := ZcB (scope := scope) (env := X.env) fun x hx => I.ok.has x (S.free x hx)
  unfold ev at ok
  obtain ⟨w1, m1, ok0, ok2⟩ := ZK ok
  have ok1 := Zbu ok0
  obtain ⟨ts, m2, ok3, ok4⟩ := ZK ok2
  obtain ⟨out', m3, ok5, ok6⟩ := ZK ok4
  split at ok6 <;> cases ok6
  rename_i hlen
  have ok5' : Q8 (turnF call gv cs (.emit ea)) tg ts (envC own keep env) m2 = .ok out m3 := Zbu ok5
  have hz := Qo
  refine wpAny_comprehension_free rfl hfs hclos S.kind hlocal (thn (pi pins s σ H (fun J H1 => ∃ cm1, Ext cm m H cm1 m1 H1 ∧ MemR X.K cm1 m1 H1 ∧ Src X.K cm1 m2 H1 J ts) I ⟨env, cm, m, hE, M, by
      rw [ok1]
      exact fun cm1 H1 x M1 => ⟨ts, m2, ok3, fun J hs => ⟨cm1, x, M1, hs⟩⟩⟩) fun xv s1 h1 => thn h1 fun itv s2 h2 => ?_)
  obtain ⟨it2, fp, tn, J, H2, rfl, I2, T2, st2, f2, cm2, x2, M2, hs2⟩ := h2
  refine Zdo (wpAny_newFunctionEnv S.cell (by intro y hy; simp at hy) (fun h₁ hns₁ hsb₁ => ?_) S.kind)
  dsimp only at hns₁ hsb₁ ⊢
  generalize hH2 : s2.heap.push { cls := .type "set", dict := none, data := .set #[] 0 (.fresh 0 0 (ledS X.w)) } = P2 at hns₁ hsb₁ ⊢
  have hCs : P2.objs.size = s2.heap.objs.size + 1 := by rw [← hH2, Heap.size_push]
  have hDC : s2.heap.objs.size ≠ P2.objs.size := by omega
  have below : ∀ b, b < s2.heap.objs.size → b ≠ P2.objs.size := fun b hb => by omega
  have old : ∀ b o, s2.heap.get? b = some o → h₁.get? b = some o := fun b o e => hsb₁.extBut b o (below b (Heap.lt_size e)) (Heap.get?_push_of_some _ (hH2 ▸ Heap.get?_push_of_some _ e))
  have hacc : h₁.get? s2.heap.objs.size = some { cls := .type "set", dict := none, data := .set #[] 0 (.fresh 0 0 (ledS X.w)) } := hsb₁.extBut _ _ hDC (Heap.get?_push_of_some _ (hH2 ▸ Heap.get?_push_size _ rfl))
  have flt : ∀ b ∈ fp, b < s2.heap.objs.size := fun b hb => by
    obtain ⟨o, e, _⟩ := T2.obj _ _ st2 b hb
    exact Heap.lt_size e
  have hb3 := ZaH M2 ok3
  have E2 : EnvR X.K cm2 m2 H2 env σ := (hE.ext x2 M M2).ext hb3.1 M2 hb3.2
  have hσl : (stC own keep σ).length = N'.length := by unfold stC; simp [hown]
  have J0 : Inv (Jz X N' scope cl P2.objs.size s2 H2 fp) [] (stC own keep σ) H2 { s2 with heap := h₁, toks := s2.toks + ([] : List (Str × Value)).length } :=
    ZcA I2 S f2 flt (by omega) ⟨_, hns₁⟩ old hcl1 hcl2 hσl fun i x v e1 e2 => by
      unfold stC at e2
      by_cases hi : i < own
      · rw [List.getElem?_append_left (by simpa using hi), List.getElem?_replicate] at e2
        split at e2 <;> cases e2
      · rw [List.getElem?_append_right (by simpa using hi), List.length_replicate, List.getElem?_map] at e2
        have ei : N'[own + (i - own)]? = some x := by rw [show own + (i - own) = i by omega]; exact e1
        obtain ⟨j, q1, q2, q3⟩ := hkeep (i - own) x ei
        rw [q1] at e2
        have e3 : (σ[j]?).join = some v := Option.some.inj e2
        refine ⟨j, q2, ?_, q3⟩
        cases r : σ[j]? with
        | none => rw [r] at e3; cases e3
        | some o => rw [r] at e3; exact congrArg some e3
  obtain ⟨pg, pt, hin⟩ := hY cl P2.objs.size s2 H2 fp
  have fD : FpOk (Jz X N' scope cl P2.objs.size s2 H2 fp) [] H2 s2.heap.objs.size := by
    refine ⟨I2.hok.fresh (Nat.le_refl _), hDC, fun z => ?_, .inr (Nat.le_refl _), fun x c e z => ?_, fun p hp => absurd (show p ∈ ([] : List (Addr × Obj)) from hp) (by simp)⟩
    · have := I2.stkSub _ z
      rcases List.mem_cons.mp this with q | q
      · exact absurd I2.lt (by rw [← q]; exact Nat.lt_irrefl _)
      · exact I2.nofs (Nat.le_refl _) q
    · obtain ⟨v, q⟩ := I2.cell x c (hcl1 x c e)
      exact absurd q.lt (by rw [z]; exact Nat.lt_irrefl _)
  have fF : ∀ b ∈ fp, FpOk (Jz X N' scope cl P2.objs.size s2 H2 fp) [] H2 b := fun b hb => by
    refine ⟨(f2 b hb).1, below b (flt b hb), fun z => ?_, .inl hb, fun x c e => (f2 b hb).2.2.2.2.1 x c (hcl1 x c e), fun p hp => absurd (show p ∈ ([] : List (Addr × Obj)) from hp) (by simp)⟩
    rcases List.mem_cons.mp (I2.stkSub b z) with q | q
    · exact (f2 b hb).2.1 q
    · exact (f2 b hb).2.2.1 q
  have st2' : tn 0 h₁ := T2.keep _ _ _ st2 fun b _ o e => old b o e
  have hDf : s2.heap.objs.size ∉ fp := fun z => absurd (flt _ z) (Nat.lt_irrefl _)
  have hnone : ∀ i ∈ tgS tg ++ innS (.emit ea), ∀ w, (envC own keep env)[i]? ≠ some (some w) := fun i hi w e => by
    unfold envC at e
    rw [List.getElem?_append_left (by simpa using hsl i hi), List.getElem?_replicate] at e
    split at e <;> cases e
  have go := ZiM (Y := Jz X N' scope cl P2.objs.size s2 H2 fp) (xr := xr) (call := call) (gv := gv) hc (fun _ _ z => z) (elt := elt) (scope := scope) (pos := pos) (D := s2.heap.objs.size) (ea := ea) (gens := ⟨target, iter, ifs, 0⟩ :: gs) (target := target) (iter := iter) (ifs := ifs) (tg := tg) (cs := cs) rfl pg pt hin hdis (fun i hi => by
    show i < N'.length
    rw [hown]
    have := hsl i hi
    omega) J0 fD (vs := []) (Zhu hacc) T2 st2' fF hDf (ZjA E2) hnone hb3.2 hs2 ok5' (by rw [List.length_nil, Nat.zero_add]; omega) hst
  have fine : ∀ r s3, (r = .ok .next ∧ Zh3 (Jz X N' scope cl P2.objs.size s2 H2 fp) (AccS X.prog X.w s2.heap.objs.size) s2.heap.objs.size (tgS tg ++ innS (.emit ea)) [] (stC own keep σ) cm2 m2 H2 [] out m3 s3) → compPost (model X.prog X.w) X.A X.xe none Q (.ref s2.heap.objs.size) P2.objs.size r s3 := fun r s3 ⟨hr, σ3, H3, cm3, vs3, J3, x3, M3, r3, a3, ag3, d3⟩ => by
    subst hr
    rw [List.nil_append] at a3
    obtain ⟨x4, M4, sm⟩ := Xn M2 ok3 x3 M3
    have I3 : Inv X pins σ H3 s3 := Zcz I2 f2 J3
    have fX : ∀ b, s2.heap.objs.size ≤ b → ∀ H', H' b = none → FpOk X pins H' b := fun b hb H' hn => I2.fpOk hb hn
    obtain ⟨mm, hmm, _⟩ := J3.loc
    have neC : P2.objs.size ≠ s2.heap.objs.size := Ne.symm hDC
    exact fin s2.heap.objs.size P2.objs.size s3 H3 cm3 vs3 I3 a3 (x2.trans x4) M4 (ZF (fun _ _ z => sm _ _ z) r3) ⟨mm, hmm⟩ (fX _ (by omega) _ J3.free) hDC
  exact codeAny_mono (Zcd (gens := ⟨target, iter, ifs, 0⟩ :: gs) rfl go (T2.self X.A 0 { s2 with heap := h₁, toks := s2.toks + ([] : List (Str × Value)).length } _ _ st2' go)) fine
end
end Mi
end
section
namespace Mi
open PySem PySem.Spec PyProof.Rows L2
section
variable {K : PySem.W.Frag} {cm : List Addr} {m : Mem} {H : Hp} {xr : XR} {X : Cx} {call : Nat → List W → Mem → Res W} {gv : List T}
theorem RTs.nil_iff {ts : List T} {vs : List V} (h : RTs K cm m H ts vs) : (!ts.isEmpty) = !vs.isEmpty := by cases h <;> rfl
theorem tru_of {w : W} {v : V} {t : T} (M : MemR K cm m H) (r : RW K cm m H w v) (e : view w m = some t) (f : fitT t = true) : TruV K v H (ZeO t) := by
  have hz := Qo
  cases t with
  | lst ts =>
    obtain ⟨a, vs, rfl, h1, h2⟩ := Qh M r e
    exact .inl ⟨vs, .of h1, h2.nil_iff⟩
  | non => cases (Zm r e (fun _ z => by cases z)).vnon; exact rfl
  | bl b => cases (Zm r e (fun _ z => by cases z)).vbl; exact rfl
  | int i => cases (Zm r e (fun _ z => by cases z)).vint; exact rfl
  | str cs =>
    cases (Zm r e (fun _ z => by cases z)).vstr
    have hl : cs.length ≤ lim := of_decide_eq_true f
    refine ⟨by rw [Zag]; omega, ?_⟩
    rw [Zag]
    cases cs with
    | nil => rfl
    | cons c cs =>
      show true = _
      symm
      simp
      omega
  | tup ts =>
    obtain ⟨a, vs, rfl, h1, h2⟩ := (Zm r e (fun _ z => by cases z)).itup
    exact .inr (.inl ⟨vs, h1, h2.nil_iff⟩)
  | dct ks ts =>
    have h := Zm r e (fun _ z => by cases z)
    cases h with
    | @dct a ks ts vs h1 h2 h3 h4 h5 =>
      refine .inr (.inr ⟨_, h1, ?_⟩)
      cases ks with
      | nil => rfl
      | cons k ks =>
        cases vs with
        | nil => simp at h3
        | cons v vs => rfl
  | scr ns =>
    obtain ⟨a, rfl, h1⟩ := (Zm r e (fun _ z => by cases z)).vscr
    exact .inl ⟨_, h1.sq, by cases ns <;> rfl⟩
theorem Zgq {w : W} {k : Bool → List Addr → Mem → Hp → Prop} (h : OkR K (JD w m) xr cm m H k) : ∃ t, view w m = some t ∧ fitT t = true ∧ OkR K (.ok (ZeO t) m) xr cm m H k := by
  unfold JD at h
  split at h
  · split at h
    · exact ⟨_, ‹_›, ‹_›, h⟩
    · exact h.elim
  · exact h.elim
theorem Zdk {w : W} {k : Bool → List Addr → Mem → Hp → Prop} (h : OkR K (Zd3 w m) xr cm m H k) : ∃ b, w = .t (.bl b) ∧ OkR K (.ok b m) xr cm m H k := by
  unfold Zd3 at h
  split at h
  · exact ⟨_, rfl, h⟩
  · exact h.elim
theorem Zbl {e : Expr} {a : E} (h : PE X e (tE X.K call gv xr a)) (he : ∀ whole, isTrue e X.env whole = (do let v ← whole; standAt e.pos; holding [v] (truthy v))) : PT X e (tT X.K call gv xr a) := by
  refine PT.mono (Zik h he) fun σ H Q ⟨env, cm, m, hE, M, ho⟩ => ⟨env, cm, m, hE, M, ho.bind.mono fun w cm1 m1 H1 x1 M1 o1 v rv => ?_⟩
  obtain ⟨t, e1, f1, o2⟩ := Zgq o1
  exact ⟨ZeO t, tru_of M1 rv e1 f1, OkR.now o2 M1⟩
theorem Zel {a b : Expr} {rest : List Expr} {pos : Pos} {ea eb : E} (ha : PE X a (tE X.K call gv xr ea)) (hb : PE X (.BoolOp .And (b :: rest) pos) (tE X.K call gv xr eb)) : PE X (.BoolOp .And (a :: b :: rest) pos) (tE X.K call gv xr (.and ea eb)) := by
  refine PE.mono (pe_and ha hb) ?_
  rintro σ H Q ⟨env, cm, m, hE, M, ho⟩
  unfold ev at ho
  refine ⟨env, cm, m, hE, M, ho.bind.mono fun w cm1 m1 H1 x1 M1 o1 v rv => ?_⟩
  obtain ⟨c, rfl, o2⟩ := Zdk o1.bind
  cases RT.vbl rv
  have o3 := OkR.now o2 M1
  refine ⟨c, rfl, ?_⟩
  cases c with
  | true => exact iteT ⟨env, cm1, m1, hE.ext x1 M M1, M1, o3⟩
  | false => exact iteF (OkR.now o3 M1 _ (.bl false))
theorem pe_orW {a b : Expr} {rest : List Expr} {pos : Pos} {ea eb : E} (ha : PE X a (tE X.K call gv xr ea)) (hb : PE X (.BoolOp .Or (b :: rest) pos) (tE X.K call gv xr eb)) : PE X (.BoolOp .Or (a :: b :: rest) pos) (tE X.K call gv xr (.or ea eb)) := by
  refine PE.mono (pe_or ha hb) ?_
  rintro σ H Q ⟨env, cm, m, hE, M, ho⟩
  unfold ev at ho
  refine ⟨env, cm, m, hE, M, ho.bind.mono fun w cm1 m1 H1 x1 M1 o1 v rv => ?_⟩
  obtain ⟨c, rfl, o2⟩ := Zdk o1.bind
  cases RT.vbl rv
  have o3 := OkR.now o2 M1
  refine ⟨c, rfl, ?_⟩
  cases c with
  | true => exact iteT (OkR.now o3 M1 _ (.bl true))
  | false => exact iteF ⟨env, cm1, m1, hE.ext x1 M M1, M1, o3⟩
theorem ZbH {a : Expr} {pos : Pos} {ea : E} (ha : PE X a (tE X.K call gv xr ea)) : PE X (.UnaryOp .Not a pos) (tE X.K call gv xr (.not ea)) := by
  refine PE.mono (pe_not ha) ?_
  rintro σ H Q ⟨env, cm, m, hE, M, ho⟩
  unfold ev at ho
  refine ⟨env, cm, m, hE, M, ho.bind.mono fun w cm1 m1 H1 x1 M1 o1 v rv => ?_⟩
  obtain ⟨c, rfl, o2⟩ := Zdk o1.bind
  cases RT.vbl rv
  exact ⟨c, rfl, OkR.now (OkR.now o2 M1) M1 _ (.bl _)⟩
theorem Zeb {a : E} {σ : L2.St} {H : Hp} {env : Env} {cm : List Addr} {m : Mem} {f : Bool → Mem → Res W} {Q : Bool → Hp → Prop} (hE : EnvR K cm m H env σ) (M : MemR K cm m H)
    (ho : OkR K (((ev call gv a env m).bind fun x m => (Zd3 x m).bind f).bind JD) xr cm m H fun k _ _ H' => Q k H') :
    tT K call gv xr a σ H fun c H1 => ∃ cm1 m1, Ext cm m H cm1 m1 H1 ∧ MemR K cm1 m1 H1 ∧ OkR K ((f c m1).bind JD) xr cm1 m1 H1 fun k _ _ H' => Q k H' := by
  refine ⟨env, cm, m, hE, M, ?_⟩
  cases h : ev call gv a env m with
  | stuck => rw [h] at ho; exact ho.elim
  | exc e m' => rw [h] at ho; exact ho
  | ok w m1 =>
    rw [h] at ho
    have ho' : OkR K (((Zd3 w m1).bind f).bind JD) xr cm m H fun k _ _ H' => Q k H' := ho
    cases w with
    | f a => exact ho'.elim
    | c i => exact ho'.elim
    | t x =>
      cases x with
      | bl b => exact fun cm1 H1 x1 M1 => ⟨cm1, m1, x1, M1, OkR.shift ho' x1⟩
      | _ => exact ho'.elim
theorem ZgE {a b : Expr} {rest : List Expr} {pos : Pos} {ea eb : E} (ha : PT X a (tT X.K call gv xr ea)) (hb : PW X (.BoolOp .And (b :: rest) pos) (tT X.K call gv xr eb)) : PW X (.BoolOp .And (a :: b :: rest) pos) (tT X.K call gv xr (.and ea eb)) := by
  rintro whole pins s σ H Q I ⟨env, cm, m, hE, M, ho⟩
  unfold ev at ho
  obtain ⟨env', cm', m', hE', M', ho'⟩ := Zeb hE M ho
  refine pw_and ha hb whole pins s σ H Q I ⟨env', cm', m', hE', M', ho'.mono fun c cm1 m1 H1 _ _ ⟨cm2, m2, x2, M2, o2⟩ => ?_⟩
  cases c with
  | true => exact iteT ⟨env, cm2, m2, hE.ext x2 M M2, M2, o2⟩
  | false => exact iteF (OkR.now (show OkR X.K (.ok false m2) xr cm2 m2 H1 _ from o2) M2)
theorem ZgD {a b : Expr} {rest : List Expr} {pos : Pos} {ea eb : E} (ha : PT X a (tT X.K call gv xr ea)) (hb : PW X (.BoolOp .Or (b :: rest) pos) (tT X.K call gv xr eb)) : PW X (.BoolOp .Or (a :: b :: rest) pos) (tT X.K call gv xr (.or ea eb)) := by
  rintro whole pins s σ H Q I ⟨env, cm, m, hE, M, ho⟩
  unfold ev at ho
  obtain ⟨env', cm', m', hE', M', ho'⟩ := Zeb hE M ho
  refine pw_or ha hb whole pins s σ H Q I ⟨env', cm', m', hE', M', ho'.mono fun c cm1 m1 H1 _ _ ⟨cm2, m2, x2, M2, o2⟩ => ?_⟩
  cases c with
  | true => exact iteT (OkR.now (show OkR X.K (.ok true m2) xr cm2 m2 H1 _ from o2) M2)
  | false => exact iteF ⟨env, cm2, m2, hE.ext x2 M M2, M2, o2⟩
theorem ZcT {a : Expr} {pos : Pos} {ea : E} (ha : PT X a (tT X.K call gv xr ea)) : PT X (.UnaryOp .Not a pos) (tT X.K call gv xr (.not ea)) := by
  refine PT.mono (pt_not ha) ?_
  rintro σ H Q ⟨env, cm, m, hE, M, ho⟩
  unfold ev at ho
  obtain ⟨env', cm', m', hE', M', ho'⟩ := Zeb hE M ho
  exact ⟨env', cm', m', hE', M', ho'.mono fun c cm1 m1 H1 _ _ ⟨cm2, m2, x2, M2, o2⟩ => OkR.now (show OkR X.K (.ok (!c) m2) xr cm2 m2 H1 _ from o2) M2⟩
end
end Mi
end
section
namespace Mi
open PySem PySem.Spec PyProof.Rows L2
open Builtin
theorem Zbo : fillsNumberSlot (.type "tuple") "mul" = pure false :=
  PySem.fillsNumberSlot_seq (id := "tuple.__mul__") (r := some (.builtin "tuple.__rmul__")) F.slot_tuple_mul.lookup (by decide +kernel) F.slot_tuple_rmul.lookup (by decide +kernel)
theorem Zdy : seqRepeat? (.type "tuple") = pure (some (.builtin "tuple.__mul__")) := by
  unfold seqRepeat?
  rw [PySem.seqSlot_of (T := "tuple") (name := "__mul__") (id := "tuple.__mul__") F.slot_tuple_mul.lookup (by decide +kernel), PySem.seqSlot_of (T := "tuple") (name := "__rmul__") (id := "tuple.__rmul__") F.slot_tuple_rmul.lookup (by decide +kernel)]
  rfl
theorem Zfu (a : Int) (t : Tok) (l : Addr) (items : Array Value) (n : Nat) (dd : Option Addr) (sl : Array (Option Value)) :
    Meets (Builtin.«int.__rmul__» ⟨[.int a t, .ref l], []⟩) (fun _ R s => s.heap.get? l = some { cls := .type "tuple", dict := dd, data := .seq items n, slots := sl } ∧ R (.ok (.ret Value.notImplemented)) s) :=
  .of_wp fun prog w A R s h => by obtain ⟨hp, g, d, tk, os⟩ := s; obtain ⟨hl, h⟩ := h; wp_walk; exact ⟨_, rfl, h⟩
theorem tmul0 (l : Addr) (items : Array Value) (n : Nat) (dd : Option Addr) (sl : Array (Option Value)) (k : Int) (u : Tok) (h1 : (decide (k < -(2 ^ 63)) || decide (k ≥ 2 ^ 63)) = false) (hc : (items.isEmpty || k == 1) = true) :
    Meets (Builtin.«tuple.__mul__» ⟨[.ref l, .int k u], []⟩) (fun _ R s => s.heap.get? l = some { cls := .type "tuple", dict := dd, data := .seq items n, slots := sl } ∧ R (.ok (.ret (Value.ref l))) s) :=
  .of_wp fun prog w A R s h => by obtain ⟨hp, g, d, tk, os⟩ := s; obtain ⟨hl, h⟩ := h; have f1 := AutoSeq1.idx_int; have f2 := AutoSeq1.sub_tuple_tuple; wp_walk; refine wpAny_ite_false (decide_eq_false (Bool.eq_false_iff.mp h1)) ?_; wp_walk using wpAny_loadPart' hl; exact ⟨_, rfl, h⟩
theorem tmul1 (l : Addr) (items : Array Value) (n : Nat) (dd : Option Addr) (sl : Array (Option Value)) (k : Int) (u : Tok) (h1 : (decide (k < -(2 ^ 63)) || decide (k ≥ 2 ^ 63)) = false) (hc : ¬ (items.isEmpty || k == 1) = true) (hc1 : (decide (k ≤ 0) || items.isEmpty) = true) :
    Meets (Builtin.«tuple.__mul__» ⟨[.ref l, .int k u], []⟩) (fun _ R s => s.heap.get? l = some { cls := .type "tuple", dict := dd, data := .seq items n, slots := sl } ∧ R (.ok (.ret (Value.ref s.heap.objs.size))) { s with heap := s.heap.push { cls := Value.type "tuple", data := Data.seq #[] }, toks := s.toks }) :=
  .of_wp fun prog w A R s h => by obtain ⟨hp, g, d, tk, os⟩ := s; obtain ⟨hl, h⟩ := h; have f1 := AutoSeq1.idx_int; have f2 := AutoSeq1.sub_tuple_tuple; wp_walk; refine wpAny_ite_false (decide_eq_false (Bool.eq_false_iff.mp h1)) ?_; wp_walk using wpAny_loadPart' hl; exact ⟨_, rfl, h⟩
theorem tmul2 (l : Addr) (items : Array Value) (n : Nat) (dd : Option Addr) (sl : Array (Option Value)) (k : Int) (u : Tok) (h1 : (decide (k < -(2 ^ 63)) || decide (k ≥ 2 ^ 63)) = false) (hc : ¬ (items.isEmpty || k == 1) = true) (hc1 : ¬ (decide (k ≤ 0) || items.isEmpty) = true)
    (hc2 : ¬ (items.size : Int) * k > (2 ^ 63 - 1) / 8) (hc3 : ¬ Tuple.tupleTooMany ((items.size : Int) * k) = true) (hz : (List.foldl (fun x1 x2 => x1 ++ x2) #[] (List.replicate k.toNat items)).size ≤ sizeLine) :
    Meets (Builtin.«tuple.__mul__» ⟨[.ref l, .int k u], []⟩) (fun _ R s => s.heap.get? l = some { cls := .type "tuple", dict := dd, data := .seq items n, slots := sl } ∧ R (.ok (.ret (Value.ref s.heap.objs.size))) { s with heap := s.heap.push { cls := Value.type "tuple", data := Data.seq (List.foldl (fun x1 x2 => x1 ++ x2) #[] (List.replicate k.toNat items)) }, toks := s.toks }) :=
  .of_wp fun prog w A R s h => by obtain ⟨hp, g, d, tk, os⟩ := s; obtain ⟨hl, h⟩ := h; have f1 := AutoSeq1.idx_int; have f2 := AutoSeq1.sub_tuple_tuple; wp_walk; refine wpAny_ite_false (decide_eq_false (Bool.eq_false_iff.mp h1)) ?_; wp_walk using wpAny_loadPart' hl; refine wpAny_ite_false (decide_eq_false hc2) ?_; wp_walk using wpAny_loadPart' hl; exact ⟨_, rfl, h⟩
section
variable {X : Cx}
theorem Zfk {n : Nat} (h : n ≤ sizeLine) : ¬ Tuple.tupleTooMany (n : Int) = true := by
  unfold Tuple.tupleTooMany
  intro hc
  have := of_decide_eq_true hc
  have e := sizeLine_eq
  omega
theorem Zj6 : OpR X (binaryOp .Mult) (fun x y H Q => ∃ l k xs, x = .ref l ∧ y = .int k ∧ SqT X.K H l xs ∧ (-(2 ^ 63) ≤ k ∧ k < 2 ^ 63) ∧ xs.length * k.toNat ≤ sizeLine ∧ ((xs = [] ∨ k = 1) → Q (.ref l) H) ∧
    (¬ (xs = [] ∨ k = 1) → ∀ p, H p = none → Q (.ref p) (upd H p (.tup (List.replicate k.toNat xs).flatten)))) := by
  intro pins s σ H x y v u Q I rx ry h
  obtain ⟨l, k, xs, rfl, rfl, hH, ⟨h1, h2⟩, hz, q1, q2⟩ := h
  cases rx
  obtain ⟨t, rfl⟩ := ry
  obtain ⟨its, r, ⟨⟨cls, dd, data, sl⟩, ho, hc, n, hd⟩, hz2⟩ := I.tuple hH
  simp only at hc hd
  subst hc hd
  have hl := r.length
  have g1 : (decide (k < -(2 ^ 63)) || decide (k ≥ 2 ^ 63)) = false := by
    rw [decide_eq_false (by omega), decide_eq_false (by omega)]; rfl
  have road : ∀ {Q' : Value → Shared → Prop}, wpAny (model X.prog X.w) X.A (call (.builtin "tuple.__mul__") [.ref l, .int k t]) Q' X.xe s → wpAny (model X.prog X.w) X.A (binaryOp .Mult (.ref l) (.int k t)) Q' X.xe s := fun hq =>
    wpAny_binaryOp_repeat_ref (T := "tuple") (U := "int") (by decide) ⟨_, ho, rfl⟩ (fun s' => typeIs_int s' k t) Zbo F.fills_int_mul F.slot_int_rmul Zdy F.slot_int_index.lookup
      (call_meets F.slot_int_rmul (typeIs_int s k t) F.entry_int_rmul (F.args_int_rmul_2 _ _) (Zfu k t l its.toArray n dd sl) ⟨ho, rfl, ⟨_, ho, rfl⟩, hq⟩)
  refine road ?_
  by_cases hc : xs = [] ∨ k = 1
  · have g2 : (its.toArray.isEmpty || k == 1) = true := by
      rcases hc with rfl | rfl
      · cases r; rfl
      · simp
    exact call_meets F.slot_tuple_mul ⟨_, ho, rfl⟩ F.entry_tuple_mul (F.args_tuple_mul_2 _ _) (tmul0 l its.toArray n dd sl k t g1 g2) ⟨ho, .ref l, H, I, rfl, q1 hc⟩
  · have hne : its ≠ [] := fun e => hc (.inl (r.nil_iff.mp e))
    have g2 : ¬ (its.toArray.isEmpty || k == 1) = true := by
      intro hh
      rw [Bool.or_eq_true] at hh
      rcases hh with hh | hh
      · exact hne (by simpa using hh)
      · exact hc (.inr (eq_of_beq hh))
    have fin : ∀ arr : Array Value, arr = (List.replicate k.toNat its).flatten.toArray → EP X pins σ Q (.ref s.heap.objs.size) { s with heap := s.heap.push { cls := .type "tuple", data := .seq arr } } := fun arr e => by
      subst e
      refine ⟨.ref s.heap.objs.size, _, I.laid (t' := s.toks) (o := .tup (List.replicate k.toNat xs).flatten) (fun b ob q => Heap.get?_push_of_some _ q) (Nat.le_refl _) ?_, rfl, q2 hc _ (I.hok.fresh (Nat.le_refl _))⟩
      exact ⟨by rw [len_rep, Nat.mul_comm]; exact hz, _, r.rep k.toNat, TupP.new _ _⟩
    by_cases h0 : k ≤ 0
    · have g3 : (decide (k ≤ 0) || its.toArray.isEmpty) = true := by rw [decide_eq_true h0]; rfl
      refine call_meets F.slot_tuple_mul ⟨_, ho, rfl⟩ F.entry_tuple_mul (F.args_tuple_mul_2 _ _) (tmul1 l its.toArray n dd sl k t g1 g2 g3) ⟨ho, fin #[] ?_⟩
      have : k.toNat = 0 := by omega
      rw [this]; rfl
    · have g3 : ¬ (decide (k ≤ 0) || its.toArray.isEmpty) = true := by
        intro hh
        rw [Bool.or_eq_true] at hh
        rcases hh with hh | hh
        · exact h0 (of_decide_eq_true hh)
        · exact hne (by simpa using hh)
      have hk : (k.toNat : Int) = k := by omega
      have hs : (its.toArray.size : Int) * k = ((xs.length * k.toNat : Nat) : Int) := by
        rw [List.size_toArray, ← hl, Int.natCast_mul, hk]
      have hsl : (sizeLine : Nat) = 16777216 := sizeLine_eq
      have hf : List.foldl (fun x1 x2 => x1 ++ x2) #[] (List.replicate k.toNat its.toArray) = (List.replicate k.toNat its).flatten.toArray := by
        have := foldl_rep its k.toNat []
        rw [List.nil_append] at this
        exact this
      refine call_meets F.slot_tuple_mul ⟨_, ho, rfl⟩ F.entry_tuple_mul (F.args_tuple_mul_2 _ _) (tmul2 l its.toArray n dd sl k t g1 g2 g3 (by rw [hs]; omega) (by rw [hs]; exact Zfk hz) ?_) ⟨ho, fin _ hf⟩
      rw [hf, List.size_toArray, len_rep, ← hl, Nat.mul_comm]
      exact hz
end
end Mi
end
section
namespace Mi
open PySem PySem.Spec PyProof.Rows L2
section
variable {K : PySem.W.Frag} {cm : List Addr} {m : Mem} {H : Hp} {xr : XR} {X : Cx} {call : Nat → List W → Mem → Res W} {gv : List T}
theorem Zj1 {i : Nat} {x : Str} {pos : Pos} (hN : X.N[i]? = some x) (hv : Vis X.env.scope x) (hd : (x == ("__debug__" : Str)) = false) (hcd : (x == ("__classdict__" : Str)) = false) : PE X (.Name x pos) (tE X.K call gv xr (.var i)) := by
  refine PE.mono (pe_var hN hv hd hcd) ?_
  rintro σ H Q ⟨env, cm, m, hE, M, ho⟩
  unfold ev at ho
  split at ho
  · rename_i w e
    obtain ⟨v, h1, h2⟩ := hE i w e
    exact ⟨v, h1, OkR.now ho M v h2⟩
  · exact ho.elim
theorem Ze {i : Int} {j pos} : PE X (.Constant (.int i) j pos) (tE X.K call gv xr (.con (.int i))) := PE.mono pe_int fun σ H Q ⟨env, cm, m, hE, M, ho⟩ => by
  unfold ev at ho
  exact OkR.now ho M _ (.int i)
theorem Zcl {b : Bool} {j pos} : PE X (.Constant (.bool b) j pos) (tE X.K call gv xr (.con (.bl b))) := PE.mono pe_bl fun σ H Q ⟨env, cm, m, hE, M, ho⟩ => by
  unfold ev at ho
  exact OkR.now ho M _ (.bl b)
theorem Xj {j pos} : PE X (.Constant .none j pos) (tE X.K call gv xr (.con .non)) := PE.mono pe_non fun σ H Q ⟨env, cm, m, hE, M, ho⟩ => by
  unfold ev at ho
  exact OkR.now ho M _ .non
theorem str_of {x : Str} {cs : List Nat} (h : x.cps.toList = cs) : x = ⟨cs.toArray⟩ := by
  subst h
  cases x
  simp
theorem Zk {x : Str} {cs : List Nat} {j pos} (h : x.cps.toList = cs) : PE X (.Constant (.str x) j pos) (tE X.K call gv xr (.con (.str cs))) := PE.mono pe_str fun σ H Q ⟨env, cm, m, hE, M, ho⟩ => by
  unfold ev at ho
  have := OkR.now ho M _ (.str cs)
  rw [str_of h]
  exact this
theorem ZfG : OpR X (binaryOp .Mult) (r2 X.K xr (fBin .Mult)) := by
  rintro pins s σ H x y v u Q I rx ry ⟨cm, m, a, b, M, ra, rb, ho⟩
  obtain ⟨t, e, ho⟩ := JM ho
  obtain ⟨ta, tb, ea, eb, e⟩ := Zdl e
  change mulT ta tb = some t at e
  unfold mulT at e
  split at e
  rotate_left
  · cases e
  rename_i k
  split at e
  · split at e <;> cases e
    cases (Zm ra ea (fun _ z => by cases z)).vint
    cases (Zm rb eb (fun _ z => by cases z)).vint
    exact Zj9 pins s σ H _ _ v u Q I rx ry ⟨_, _, rfl, rfl, ‹_›, ans ho M (.int _)⟩
  · split at e <;> cases e
    rename_i ts hc
    obtain ⟨p, vs, rfl, h1, r1⟩ := (Zm ra ea (fun _ z => by cases z)).itup
    cases (Zm rb eb (fun _ z => by cases z)).vint
    have l1 := r1.length
    have hz := Qo
    have hl : (lim : Int) < 2 ^ 63 := by unfold lim; decide
    refine Zj6 pins s σ H _ _ v u Q I rx ry ⟨p, _, vs, rfl, rfl, h1, by omega, by rw [← l1]; omega, fun hq => ?_, fun _ l hl => ZcL ho M (ZaQ r1 _) hl⟩
    have e : repT ts k.toNat = ts := by
      rcases hq with rfl | rfl
      · cases r1; simp [repT]
      · simp [repT]
    rw [e] at ho
    exact ans ho M (.mtup h1 r1)
  · split at e <;> cases e
    rename_i hc
    obtain ⟨p, vs, rfl, h1, r1⟩ := Qh M ra ea
    cases (Zm rb eb (fun _ z => by cases z)).vint
    have l1 := r1.length
    have hz := Qo
    have hl : (lim : Int) < 2 ^ 63 := by unfold lim; decide
    exact op_rep pins s σ H _ _ v u Q I rx ry ⟨p, _, vs, rfl, rfl, h1, by omega, by omega, by rw [← l1]; omega, fun l hl => Zb8 ho M (ZaQ r1 _) hl⟩
  · split at e <;> cases e
    rename_i cs hc
    cases (Zm ra ea (fun _ z => by cases z)).vstr
    cases (Zm rb eb (fun _ z => by cases z)).vint
    obtain ⟨tx, rfl⟩ := rx
    obtain ⟨ty, rfl⟩ := ry
    rcases hc with rfl | rfl
    · refine SB.mul ⟨by decide, fun h => absurd (by decide) h, fun h => absurd (by decide) h⟩ fun t' k => ⟨.str ⟨([] : List Nat).toArray⟩, H, I.tok _, ⟨t', ?_⟩, ans ho M (.str _)⟩
      rfl
    · refine SB.mul ⟨by decide, fun _ h => ?_, fun _ h => ?_⟩ fun t' k => ⟨.str ⟨cs.toArray⟩, H, I.tok _, ⟨t', ?_⟩, ?_⟩
      · simp at h
      · simp at h
      · unfold Txt.mul; rw [if_neg (by decide), if_pos (by simp)]
      · have := ans ho M (.str _)
        rw [show repT cs (1 : Int).toNat = cs by simp [repT]] at this
        exact this
  all_goals cases e
theorem op_no {op : Operator} (h : ∀ x y, binT op x y = none) : OpR X (binaryOp op) (r2 X.K xr (fBin op)) := by
  rintro pins s σ H x y v u Q I rx ry ⟨cm, m, a, b, M, ra, rb, ho⟩
  obtain ⟨t, e, ho⟩ := JM ho
  obtain ⟨ta, tb, ea, eb, e⟩ := Zdl e
  rw [h] at e
  cases e
theorem op_bin (op : Operator) : OpR X (binaryOp op) (r2 X.K xr (fBin op)) := by
  cases op <;> first | exact ZfI | exact ZfE | exact ZfG | exact Zen | exact ZfH | exact ZfF | exact op_no fun x y => by cases x <;> cases y <;> rfl
variable {a b c : Expr} {ea eb ec : E} {pos : Pos}
theorem Zt {op : Operator} (ha : PE X a (tE X.K call gv xr ea)) (hb : PE X b (tE X.K call gv xr eb)) : PE X (.BinOp a op b pos) (tE X.K call gv xr (.bin op ea eb)) :=
  PE.mono (pe_op (op_bin op) ha hb) (Zib fun env m => by rw [ev]; rfl)
theorem Qd {op : CmpOp} (ha : PE X a (tE X.K call gv xr ea)) (hb : PE X b (tE X.K call gv xr eb)) (hm : behindInMarks op b = false) (hu : X.A.units + 64 < cLine) : PE X (.Compare a [op] [b] pos) (tE X.K call gv xr (.cmp op ea eb)) :=
  PE.mono (Zj3 (Zjp hu op) ha hb hm) (Zib fun env m => by rw [ev]; rfl)
theorem Zky {op : CmpOp} {x y w : W} {m m' : Mem} (h : fCmp op x y m = .ok w m') : ∃ k, w = .t (.bl k) ∧ m' = m := by
  unfold fCmp at h
  cases q : ((view x m).bind fun x => (view y m).bind fun y => cmpT op x y) with
  | none => rw [q] at h; cases h
  | some k => rw [q] at h; cases h; exact ⟨k, rfl, rfl⟩
theorem ZjR {f : Env → Mem → Res W} {e : Expr} {te : TE} {a : E} (h : PT X e (tTest te)) (hk : ∀ env m w m', ev call gv a env m = .ok w m' → ∃ k, w = .t (.bl k)) (he : ∀ σ H Q, tE X.K call gv xr a σ H Q → te σ H Q) : PT X e (tT X.K call gv xr a) := by
  refine PT.mono h fun σ H Q ⟨env, cm, m, hE, M, ho⟩ => he σ H _ ⟨env, cm, m, hE, M, ?_⟩
  cases q : ev call gv a env m with
  | stuck => rw [q] at ho; exact ho.elim
  | exc e m' => rw [q] at ho; exact ho
  | ok w m' =>
    obtain ⟨k, rfl⟩ := hk env m w m' q
    rw [q] at ho
    intro cm1 H1 x1 M1 v rv
    cases RT.vbl rv
    exact ⟨k, rfl, (show OkR X.K (.ok k m') xr cm m H _ from ho) cm1 H1 x1 M1⟩
theorem Zz {op : CmpOp} (ha : PE X a (tE X.K call gv xr ea)) (hb : PE X b (tE X.K call gv xr eb)) (hm : behindInMarks op b = false) (hu : X.A.units + 64 < cLine) : PT X (.Compare a [op] [b] pos) (tT X.K call gv xr (.cmp op ea eb)) := by
  refine ZjR (f := fun _ _ => .stuck) (ZjQ (Zjp hu op) ha hb hm) (fun env m w m' h => ?_) (Zib fun env m => by rw [ev]; rfl)
  rw [ev] at h
  obtain ⟨x, m1, _, h⟩ := ZK h
  obtain ⟨y, m2, _, h⟩ := ZK h
  obtain ⟨k, hk, _⟩ := Zky h
  exact ⟨k, hk⟩
theorem Zi (ha : PE X a (tE X.K call gv xr ea)) (hb : PE X b (tE X.K call gv xr eb)) (hs : Zh1 b) : PE X (.Subscript a b pos) (tE X.K call gv xr (.ix ea eb)) :=
  PE.mono (pe_ix ix_ix ha hb hs) (Zib fun env m => by rw [ev]; rfl)
end
end Mi
end
section
namespace Mi
open PySem PySem.Spec PyProof.Rows L2
section
variable {K : PySem.W.Frag} {cm : List Addr} {m : Mem} {H : Hp} {xr : XR} {X : Cx} {call : Nat → List W → Mem → Res W} {gv : List T}
variable {a b c e : Expr} {es : List Expr} {ea eb ec : E} {eas : Es} {pos p : Pos}
noncomputable def notStar : Expr → Bool
  | .Starred _ _ => false
  | _ => true
theorem JF {env : PySem.Env} (h : notStar e = true) : starEach (e :: es) env = (false, eval e env) :: starEach es env := by
  cases e <;> first | rfl | cases h
theorem Zgt {env : PySem.Env} : ∀ {es : List Expr}, es.all notStar = true → (backTo pos (starEach es env)).all (fun x => !x.1) = true
  | [], _ => rfl
  | e :: es, h => by
    rw [List.all_cons, Bool.and_eq_true] at h
    rw [JF h.1]
    show (!false && (backTo pos (starEach es env)).all (fun x => !x.1)) = true
    rw [Zgt h.2]
    rfl
theorem Zdt {env : PySem.Env} {es : List Expr} (h : es.all notStar = true) : (backTo pos (starEach es env)).any (·.1) = false := by
  have h1 := Zgt (pos := pos) (env := env) h
  rw [List.any_eq_false]
  intro x hx
  have := List.all_eq_true.mp h1 x hx
  simpa using this
theorem Zc : PA X [] (tA X.K call gv xr .nil) := PA.mono Zjo fun σ H Q ⟨env, cm, m, hE, M, ho⟩ => by
  rw [evs] at ho
  exact OkR.now ho M [] .nil
theorem Za (ha : PE X e (tE X.K call gv xr ea)) (hr : PA X es (tA X.K call gv xr eas)) (hs : notStar e = true) : PA X (e :: es) (tA X.K call gv xr (.cons ea eas)) := by
  refine PA.mono (Zem ha hr (JF hs)) ?_
  rintro σ H Q ⟨env, cm, m, hE, M, ho⟩
  rw [evs] at ho
  refine ⟨env, cm, m, hE, M, ho.bind.mono fun w cm1 m1 H1 x1 M1 o1 v rv => ?_⟩
  exact ⟨env, cm1, m1, hE.ext x1 M M1, M1, o1.bind.mono fun ws cm2 m2 H2 x2 M2 o2 vs rvs => OkR.now o2 M2 (v :: vs) (.cons (rv.ext x2 M1 M2) rvs)⟩
theorem ZdP {w : W} {m m' : Mem} {x : Exc} : frz w m ≠ .exc x m' := by
  intro h
  unfold frz at h
  split at h
  · cases h
  · cases h
  · split at h <;> cases h
theorem Zcu : ∀ {ws : List W} {m m' : Mem} {x : Exc}, frzs ws m ≠ .exc x m'
  | [], _, _, _ => fun h => by cases h
  | w :: ws, m, m', x => fun h => by
    rw [frzs] at h
    cases q : frz w m with
    | stuck => rw [q] at h; cases h
    | exc y m1 => exact ZdP q
    | ok t m1 =>
      rw [q] at h
      have h' : ((frzs ws m1).bind fun ts m => Res.ok (t :: ts) m) = .exc x m' := h
      cases q2 : frzs ws m1 with
      | stuck => rw [q2] at h'; cases h'
      | exc y m2 => exact Zcu q2
      | ok ts m2 => rw [q2] at h'; cases h'
theorem ZbW : ∀ {ws : List W} {vs : List V} {ts : List T} {m m' : Mem}, MemR K cm m H → RWs K cm m H ws vs → frzs ws m = .ok ts m' → Ext cm m H cm m' H ∧ MemR K cm m' H ∧ RTs K cm m' H ts vs
  | [], _, _, _, _, M, .nil, e => by cases e; exact ⟨.refl, M, .nil⟩
  | w :: ws, v :: vs, ts, m, m', M, .cons r rs, e => by
    rw [frzs] at e
    obtain ⟨t, m1, e1, e⟩ := ZK e
    obtain ⟨us, m2, e2, e⟩ := ZK e
    cases e
    obtain ⟨x1, M1, r1⟩ := Ze9 M r e1
    obtain ⟨x2, M2, r2⟩ := ZbW M1 (RWs.ext x1 M M1 rs) e2
    exact ⟨x1.trans x2, M2, .cons (RT.ext x2 M1 M2 r1) r2⟩
theorem Zbv {α : Type} {ws : List W} {f : List T → Mem → Res α} {k : α → List Addr → Mem → Hp → Prop} (h : OkR K ((frzs ws m).bind f) xr cm m H k) : ∃ ts m', frzs ws m = .ok ts m' ∧ OkR K (f ts m') xr cm m H k := by
  cases q : frzs ws m with
  | stuck => rw [q] at h; exact h.elim
  | exc x m' => exact absurd q Zcu
  | ok ts m' => rw [q] at h; exact ⟨ts, m', rfl, h⟩
theorem Ze5 {α : Type} {c : Prop} [Decidable c] {r : Res α} {k : α → List Addr → Mem → Hp → Prop} (h : OkR K (if c then r else .stuck) xr cm m H k) : c ∧ OkR K r xr cm m H k := by
  by_cases hc : c
  · rw [if_pos hc] at h; exact ⟨hc, h⟩
  · rw [if_neg hc] at h; exact h.elim
theorem ZV {x1} (h : PA X es (tA X.K call gv xr eas)) : PE X (.Tuple es x1 pos) (tE X.K call gv xr (.tup eas)) := by
  refine PE.mono (pe_tup h) ?_
  rintro σ H Q ⟨env, cm, m, hE, M, ho⟩
  rw [ev] at ho
  refine ⟨env, cm, m, hE, M, ho.bind.mono fun ws cm1 m1 H1 x1 M1 o1 vs rvs => ?_⟩
  obtain ⟨ts, m2, e2, o2⟩ := Zbv o1
  obtain ⟨hl, o3⟩ := Ze5 o2
  obtain ⟨x2, M2, r2⟩ := ZbW M1 rvs e2
  have l2 := r2.length
  have hz := Qo
  exact ⟨by omega, fun p hp => ZcL (OkR.shift o3 x2) M2 r2 hp⟩
theorem Qn (h : PA X es (tA X.K call gv xr eas)) : PE X (.List es pos) (tE X.K call gv xr (.lst eas)) := by
  refine PE.mono (pe_lst h) ?_
  rintro σ H Q ⟨env, cm, m, hE, M, ho⟩
  rw [ev] at ho
  refine ⟨env, cm, m, hE, M, ho.bind.mono fun ws cm1 m1 H1 x1 M1 o1 vs rvs => ?_⟩
  obtain ⟨ts, m2, e2, o2⟩ := Zbv o1
  obtain ⟨hl, o3⟩ := Ze5 o2
  obtain ⟨x2, M2, r2⟩ := ZbW M1 rvs e2
  have l2 := r2.length
  have hz := Qo
  exact ⟨by omega, fun p hp => Zb8 (OkR.shift o3 x2) M2 r2 hp⟩
noncomputable def tLstN (K : PySem.W.Frag) (t : TA) : TE := fun σ H Q => t σ H fun xs H1 => xs.length ≤ sizeLine ∧ ∀ p, H1 p = none → K.lookup p = none → Q (.ref p) (upd H1 p (.lst xs))
theorem Inv.notK {pins : List (Addr × Obj)} {σ : L2.St} {H : Hp} {s : Shared} (I : Inv X pins σ H s) : X.K.lookup s.heap.objs.size = none := by
  cases q : X.K.lookup s.heap.objs.size with
  | none => rfl
  | some o => exact absurd (Heap.lt_size (I.kIn _ _ q)) (Nat.lt_irrefl _)
theorem Zj2 {t : TA} (h : PA X es t) : PE X (.List es pos) (tLstN X.K t) := by
  intro pins s σ H Q I hq
  refine wpAny_List_spliced (thn (h pos pins s σ H _ I hq) fun us s1 ⟨xs, H1, I1, r, z, q⟩ => ⟨by rw [← r.length]; exact z, ?_⟩)
  have hf : H1 s1.heap.objs.size = none := I1.hok.fresh (Nat.le_refl _)
  refine ⟨.ref s1.heap.objs.size, upd H1 s1.heap.objs.size (.lst xs), I1.laid (t' := s1.toks) (fun b u e => Heap.get?_push_of_some _ e) (Nat.le_refl _) ?_, rfl, q _ hf (Mi.Inv.notK I1)⟩
  exact ⟨z, us, 0, r, Heap.get?_push_size _ rfl⟩
theorem ZgT (h : PA X es (tA X.K call gv xr eas)) : PE X (.List es pos) (tE X.K call gv xr (.cel eas)) := by
  refine PE.mono (Zj2 h) ?_
  rintro σ H Q ⟨env, cm, m, hE, M, ho⟩
  rw [ev] at ho
  refine ⟨env, cm, m, hE, M, ho.bind.mono fun ws cm1 m1 H1 x1 M1 o1 vs rvs => ?_⟩
  obtain ⟨ts, m2, e2, o2⟩ := Zbv o1
  obtain ⟨hl, o3⟩ := Ze5 o2
  obtain ⟨x2, M2, r2⟩ := ZbW M1 rvs e2
  have l2 := r2.length
  have hz := Qo
  refine ⟨by omega, fun p hp hk => ?_⟩
  obtain ⟨x3, M3, r3⟩ := Zjb M2 r2 hp hk
  exact OkR.to o3 (x2.trans x3) M3 _ r3
theorem Zbi {α : Type} (xs : List α) (lo hi : Option Int) : cut xs lo hi = (xs.drop (HT.sIx xs.length 0 lo)).take (HT.sIx xs.length xs.length hi - HT.sIx xs.length 0 lo) := by
  have e : ∀ n d o, ZhH n d o = HT.sIx n d o := fun n d o => by cases o <;> rfl
  unfold cut
  rw [e, e]
theorem ZaR {α β : Type} {F : α → β → Prop} {xs : List α} {ys : List β} (h : Paired F xs ys) (lo hi : Option Int) : Paired F (cut xs lo hi) (cut ys lo hi) := by
  rw [Zbi, Zbi, ← h.length]
  exact ZbL _ (ZbN _ h)
theorem ZeA (xs : List V) (lo hi : Option Int) : cutV xs lo hi = cut xs lo hi := (Zbi xs lo hi).symm
theorem Zij (x y : Nat) : sliceRange (x : Int) (y : Int) 1 = (List.range (y - x)).map fun k => x + k := by
  unfold sliceRange
  simp only [show ((1 : Int) > 0) = True from by simp, if_true]
  by_cases h : (x : Int) < y
  · have e3 : (((y : Int) - x + 1 - 1) / 1).toNat = y - x := by first | omega | (simp; done) | (simp; omega)
    rw [if_pos h, e3]
    refine List.map_congr_left fun k _ => ?_
    omega
  · have e3 : y - x = 0 := by omega
    rw [if_neg h, e3]
    rfl
theorem Zbx (n d : Nat) (v : Int) : max 0 (min (if v < 0 then v + n else v) (n : Int)) = ((HT.sIx n d (some v) : Nat) : Int) := by
  show max 0 (min (if v < 0 then v + n else v) (n : Int)) = (((if v < 0 then (v + (n : Int)).toNat else min v.toNat n) : Nat) : Int)
  split <;> omega
theorem Zf0 (lo hi : Option Int) (n : Nat) : (Builtin.Str.strSliceIndices lo hi 1 n) = (List.range (HT.sIx n n hi - HT.sIx n 0 lo)).map fun k => HT.sIx n 0 lo + k := by
  rw [← Zij]
  unfold Builtin.Str.strSliceIndices
  cases lo with
  | none =>
    cases hi with
    | none => rfl
    | some j =>
      rw [← Zbx]
      rfl
  | some i =>
    cases hi with
    | none =>
      rw [← Zbx]
      rfl
    | some j =>
      rw [← Zbx, ← Zbx]
      rfl
noncomputable def fSl (w : W) (lo hi : Option Int) (m : Mem) : Res W := pur ((view w m).bind fun x => slT x lo hi) m
noncomputable def rSl (K : PySem.W.Frag) (xr : XR) : V → Option Int → Option Int → Hp → VK → Prop := fun x lo hi H Q => ∃ cm m w, MemR K cm m H ∧ RW K cm m H w x ∧ OkR K (fSl w lo hi m) xr cm m H fun w cm' m' H' => ∀ v, RW K cm' m' H' w v → Q v H'
theorem Zgu {prog : Program} {w : World} {A : Around} {E : Value → Shared → Prop} {s : Shared} {cs : List Nat} {t : Tok} {sl : Addr} {vl vu : Value} {lo hi : Option Int} {Q : Value → Shared → Prop} (hs : s.heap.IsSliceOf sl vl vu .none) (pl : IsPart vl lo) (pu : IsPart vu hi) (hz : cs.length ≤ lim)
    (h : ∀ t' k, Q (.str ⟨(cut cs lo hi).toArray⟩ t') { s with toks := k }) : wpAny (model prog w) A (getItem (.str ⟨cs.toArray⟩ t) (.ref sl)) Q E s := by
  have hl := Qo
  obtain ⟨l, e1, e2⟩ : ∃ l : Option (Int × Tok), vl = partValue l ∧ l.map (·.1) = lo := by
    cases pl with
    | none => exact ⟨none, rfl, rfl⟩
    | int i t => exact ⟨some (i, t), rfl, rfl⟩
  obtain ⟨u, f1, f2⟩ : ∃ l : Option (Int × Tok), vu = partValue l ∧ l.map (·.1) = hi := by
    cases pu with
    | none => exact ⟨none, rfl, rfl⟩
    | int i t => exact ⟨some (i, t), rfl, rfl⟩
  subst e1 f1
  refine wpAny_getItem_str_slice (l := l) (u := u) (st := none) hs (by rfl) ?_
  have pk : slicePicked ⟨cs.toArray⟩ l u none = (List.range (HT.sIx cs.length cs.length hi - HT.sIx cs.length 0 lo)).map fun k => HT.sIx cs.length 0 lo + k := by
    unfold slicePicked
    rw [e2, f2, Zag]
    exact Zf0 lo hi cs.length
  have hn : HT.sIx cs.length cs.length hi ≤ cs.length := HT.sIx_le _ _ (Nat.le_refl _) hi
  have fm : ((slicePicked ⟨cs.toArray⟩ l u none).filterMap ((⟨cs.toArray⟩ : Str).cps[·]?)) = cut cs lo hi := by
    rw [pk, Zbi]
    by_cases hle : HT.sIx cs.length 0 lo ≤ HT.sIx cs.length cs.length hi
    · have := StrLaws.picks cs (HT.sIx cs.length cs.length hi - HT.sIx cs.length 0 lo) (HT.sIx cs.length 0 lo) (by omega)
      rw [← this]
      simp
    · have : HT.sIx cs.length cs.length hi - HT.sIx cs.length 0 lo = 0 := by omega
      rw [this]
      simp
  unfold sliceMade
  split
  · rename_i hw
    rw [Bool.and_eq_true] at hw
    have q : (slicePicked ⟨cs.toArray⟩ l u none).length = cs.length := by rw [eq_of_beq hw.2, Zag]
    rw [pk, List.length_map, List.length_range] at q
    have e : cut cs lo hi = cs := by
      rw [Zbi]
      have : HT.sIx cs.length 0 lo = 0 ∨ cs.length = 0 := by omega
      rcases this with h0 | h0
      · rw [h0] at q ⊢
        rw [List.drop_zero, q]
        exact List.take_length
      · rw [List.length_eq_zero_iff] at h0
        subst h0
        simp
    have := h t s.toks
    rw [e] at this
    exact this
  · rw [fm]
    have hc : (cut cs lo hi).length ≤ cs.length := by
      rw [Zbi, List.length_take, List.length_drop]; omega
    exact ⟨by show (cut cs lo hi).toArray.size ≤ _; rw [List.size_toArray]; omega, h _ _⟩
theorem Zgj {prog : Program} {w : World} {A : Around} {E : Value → Shared → Prop} {s : Shared} {t sl : Addr} {items : Array Value} {vl vu : Value} {lo hi : Option Int} {Q : Value → Shared → Prop} (ht : IsTup s.heap t items) (hs : s.heap.IsSliceOf sl vl vu .none) (pl : IsPart vl lo) (pu : IsPart vu hi)
    (hw : HT.sIx items.size 0 lo = 0 ∧ HT.sIx items.size items.size hi = items.size) (h : Q (.ref t) s) : wpAny (model prog w) A (getItem (.ref t) (.ref sl)) Q E s := by
  obtain ⟨os, hos, hcs, hds⟩ := id hs
  have hTs : s.TypeIs (.ref sl) "slice" := ⟨os, hos, hcs⟩
  unfold getItem
  try with_reducible refine wpAny_holding ?_
  first | refine wpAny_bind (wpAny_pure ?_) | skip
  refine wpAny_bind (wpAny_sequenceKey ht.typeIs (by decide) ?_)
  refine wpAny_bind (wpAny_callSpecial?_slot (name := Str.ofString "__getitem__") ht.typeIs PyProof.Rows.slot_tuple_getitem
    (wpAny_call_entry PyProof.Rows.slot_tuple_getitem ht.typeIs entry_tuple_getitem ?_ (args_tuple_getitem _ _)))
  show wpAny _ _ (Builtin.Tuple.tupleItemsOf (.ref t) >>= _) _ _ s
  refine wpAny_bind (tupleItemsOf_ ht ?_)
  refine wpAny_bind (wpAny_typeOf hTs ?_)
  rw [if_pos (by decide)]
  refine wpAny_bind (HT.sliceApplied_gen hs pl pu ?_)
  show wpAny _ _ (if (((HT.sIx items.size 0 lo : Nat) : Int) == 0 && (1 : Int) == 1 && (HT.sIx items.size items.size hi - HT.sIx items.size 0 lo) == items.size) = true then _ else _) _ _ s
  rw [if_pos (by rw [hw.1, hw.2]; simp)]
  refine wpAny_bind ?_
  unfold Builtin.Tuple.tupleIsExact
  refine wpAny_bind (wpAny_typeOf ht.typeIs (wpAny_pure ?_))
  rw [if_pos (by decide)]
  exact wpAny_bind (wpAny_rule (wpAny_pure ⟨_, rfl, wpAny_pure h⟩))
theorem Zid {pins : List (Addr × Obj)} {s : Shared} {σ : L2.St} {H : Hp} {x : V} {v vl vu : Value} {lo hi : Option Int} {sl : Addr} {Q : VK} {a : Addr} {xs : List V} (I : Inv X pins σ H s) (rx : RelV x v) (hs : s.heap.IsSliceOf sl vl vu .none) (pl : IsPart vl lo) (pu : IsPart vu hi) (e : x = .ref a) (hx : SqT X.K H a xs)
    (hw : HT.sIx xs.length 0 lo = 0 ∧ HT.sIx xs.length xs.length hi = xs.length) (q : Q (.ref a) H) : ∃ T id, typeLookup (.type T) "__getitem__" = pure (some (.builtin id)) ∧ s.TypeIs v T ∧ wpAny (model X.prog X.w) X.A (getItem v (.ref sl)) (EP X pins σ Q) X.xe s := by
  subst e
  cases rx
  obtain ⟨its, r, ht, hz⟩ := I.tuple hx
  have hlen : its.toArray.size = xs.length := by rw [List.size_toArray]; exact r.length.symm
  exact ⟨"tuple", _, PyProof.Rows.slot_tuple_getitem.lookup, ht.typeIs, Zgj ht hs pl pu (by rw [hlen]; exact hw) ⟨.ref a, H, I, rfl, q⟩⟩
theorem sl_any : SlR X (rSl X.K xr) := by
  rintro pins s σ H x v vl vu lo hi sl Q I rx hs pl pu ⟨cm, m, w, M, rw', ho⟩
  obtain ⟨t, e, ho⟩ := JM ho
  cases q : view w m with
  | none => rw [q] at e; cases e
  | some tw =>
    rw [q] at e
    have e : slT tw lo hi = some t := e
    cases tw with
    | tup ts =>
      cases e
      obtain ⟨a, vs, rfl, h1, r1⟩ := (Zm rw' q (fun _ z => by cases z)).itup
      have l1 := r1.length
      have e : ∀ n d o, ZhH n d o = HT.sIx n d o := fun n d o => by cases o <;> rfl
      by_cases hc : HT.sIx vs.length 0 lo = 0 ∧ HT.sIx vs.length vs.length hi = vs.length
      · refine Zid I rx hs pl pu rfl h1 hc ?_
        have ec : cut ts lo hi = ts := by
          unfold cut
          rw [e, e, l1, hc.1, hc.2, List.drop_zero, Nat.sub_zero, ← l1, List.take_length]
        rw [ec] at ho
        exact ans ho M (.mtup h1 r1)
      · refine sl_tup pins s σ H _ v vl vu lo hi sl Q I rx hs pl pu ⟨a, vs, rfl, h1, hc, fun p hp => ?_⟩
        rw [ZeA]; exact ZcL ho M (ZaR r1 lo hi) hp
    | lst ts =>
      cases e
      obtain ⟨a, vs, rfl, h1, r1⟩ := Qh M rw' q
      exact Zgv pins s σ H _ v vl vu lo hi sl Q I rx hs pl pu ⟨a, vs, rfl, .of h1, fun p hp => by rw [ZeA]; exact Zb8 ho M (ZaR r1 lo hi) hp⟩
    | scr ns =>
      cases e
      obtain ⟨a, rfl, h1⟩ := (Zm rw' q (fun _ z => by cases z)).vscr
      refine Zgv pins s σ H _ v vl vu lo hi sl Q I rx hs pl pu ⟨a, _, rfl, h1.sq, fun p hp => ?_⟩
      rw [ZeA]
      refine Zb8 ho M ?_ hp
      have := ZaR (ZaK (K := X.K) (cm := cm) (m := m) (H := H) ns) lo hi
      have e : cut (ns.map T.int) lo hi = (cut ns lo hi).map T.int := by
        rw [Zbi, Zbi, List.length_map, List.map_take, List.map_drop]
      rw [e] at this
      exact this
    | str cs =>
      unfold slT at e
      dsimp only at e
      split at e <;> cases e
      rename_i hc
      cases (Zm rw' q (fun _ z => by cases z)).vstr
      obtain ⟨t, rfl⟩ := rx
      exact ⟨"str", _, slot_str_getitem.lookup, typeIs_str s _ t, Zgu hs pl pu hc fun t' k => ⟨.str ⟨(cut cs lo hi).toArray⟩, H, I.tok _, ⟨t', rfl⟩, ans ho M (.str _)⟩⟩
    | _ => cases e
noncomputable def evP (call : Nat → List W → Mem → Res W) (gv : List T) (lo : E) (env : Env) (m : Mem) : Res (Option Int) := if Z0 lo then Res.ok none m else (ev call gv lo env m).bind intP
noncomputable def tP (K : PySem.W.Frag) (call : Nat → List W → Mem → Res W) (gv : List T) (xr : XR) (lo : E) : TO := fun σ H Q => ∃ env cm m, EnvR K cm m H env σ ∧ MemR K cm m H ∧ OkR K (evP call gv lo env m) xr cm m H fun o cm' m' H' => Q o H'
theorem Zit : PO X none (tP X.K call gv xr .hole) := fun pins s σ H Q I ⟨env, cm, m, hE, M, ho⟩ => ZjY pins s σ H Q I (OkR.now ho M)
theorem ZcW {lo : Expr} (h : PE X lo (tE X.K call gv xr ea)) (hn : evP call gv ea = fun env m => (ev call gv ea env m).bind intP) : PO X (some lo) (tP X.K call gv xr ea) := fun pins s σ H Q I ⟨env, cm, m, hE, M, ho⟩ => by
  rw [hn] at ho
  refine ZjX h pins s σ H Q I ⟨env, cm, m, hE, M, (OkR.bind ho).mono fun w cm1 m1 H1 x1 M1 o1 v rv => ?_⟩
  unfold intP at o1
  split at o1
  · cases RT.vint rv
    exact ⟨_, rfl, OkR.now o1 M1⟩
  · exact o1.elim
theorem ZgR {lo hi : Option Expr} {p2 : Pos} (he : PE X e (tE X.K call gv xr ea)) (hl : PO X lo (tP X.K call gv xr eb)) (hu : PO X hi (tP X.K call gv xr ec)) : PE X (.Subscript e (.Slice lo hi none p2) pos) (tE X.K call gv xr (.slc ea eb ec)) := by
  refine PE.mono (Ziy (sl_any (xr := xr)) he hl hu) ?_
  rintro σ H Q ⟨env, cm, m, hE, M, ho⟩
  have e : ev call gv (.slc ea eb ec) env m = (ev call gv ea env m).bind fun x m => (evP call gv eb env m).bind fun l m => (evP call gv ec env m).bind fun h m => fSl x l h m := by
    rw [ev]
    rfl
  rw [e] at ho
  refine ⟨env, cm, m, hE, M, ho.bind.mono fun w cm1 m1 H1 x1 M1 o1 v rv => ?_⟩
  refine ⟨env, cm1, m1, hE.ext x1 M M1, M1, o1.bind.mono fun l cm2 m2 H2 x2 M2 o2 => ?_⟩
  refine ⟨env, cm2, m2, (hE.ext x1 M M1).ext x2 M1 M2, M2, o2.bind.mono fun h cm3 m3 H3 x3 M3 o3 => ?_⟩
  exact ⟨cm3, m3, w, M3, (rv.ext x2 M1 M2).ext x3 M2 M3, o3⟩
noncomputable def fBlt (b : B) (ws : List W) (m : Mem) : Res W := pur ((views ws m).bind fun ts => bltT b ts) m
theorem Zjg {b : B} (σ : L2.St) (H : Hp) (Q : VK) (q : tE X.K call gv xr (.blt b eas) σ H Q) : tCB (rN X.K xr (fBlt b)) (tA X.K call gv xr eas) σ H Q := by
  obtain ⟨env, cm, m, hE, M, ho⟩ := q
  rw [ev] at ho
  exact ⟨env, cm, m, hE, M, ho.bind.mono fun ws cm1 m1 H1 x1 M1 o1 vs rvs => ⟨cm1, m1, ws, M1, rvs, o1⟩⟩
theorem ZbK {b : B} {id : String} {x : Str} (hc : Xg X (.builtin id) (rN X.K xr (fBlt b))) (hv : bootBuiltins x = some (.builtin id)) (hg : Gl X x) (hm : X.mg x = none) (ha : PA X (e :: es) (tA X.K call gv xr eas)) (hn : x ≠ "__name__") (hdb : (x == ("__debug__" : Str)) = false)
    (he : notStar e = true) (hpl : es.all notStar = true) : PE X (.Call (.Name x p) (e :: es) [] pos) (tE X.K call gv xr (.blt b eas)) :=
  PE.mono (ZeX hc hg hm hv ha hn hdb (JF he) (Zdt hpl)) Zjg
theorem Zek {b : B} {id : String} {x : Str} (hc : Xg X (.type id) (rN X.K xr (fBlt b))) (hv : bootBuiltins x = some (.type id)) (hg : Gl X x) (hm : X.mg x = none) (ha : PA X (e :: es) (tA X.K call gv xr eas)) (hn : x ≠ "__name__") (hdb : (x == ("__debug__" : Str)) = false)
    (he : notStar e = true) (hpl : es.all notStar = true) : PE X (.Call (.Name x p) (e :: es) [] pos) (tE X.K call gv xr (.blt b eas)) :=
  PE.mono (ZgU hc hg hm hv ha hn hdb (JF he) (Zdt hpl)) Zjg
theorem blt1 {b : B} {ws : List W} {vs : List V} {k : W → List Addr → Mem → Hp → Prop} (r : RWs K cm m H ws vs) (h1 : ∀ ts t, bltT b ts = some t → ts.length = 1) (h : OkR K (fBlt b ws m) xr cm m H k) :
    ∃ w v t r, ws = [w] ∧ vs = [v] ∧ RW K cm m H w v ∧ view w m = some t ∧ bltT b [t] = some r ∧ OkR K (.ok (.t r) m) xr cm m H k := by
  obtain ⟨t, e, ho⟩ := JM h
  cases q : views ws m with
  | none => rw [q] at e; cases e
  | some ts =>
    rw [q] at e
    have e : bltT b ts = some t := e
    have hl := h1 ts t e
    have hvl : ∀ (ws : List W) (ts : List T), views ws m = some ts → ts.length = ws.length := fun ws => by
      induction ws with
      | nil => intro ts h; cases h; rfl
      | cons w ws ih =>
        intro ts h
        unfold views at h
        cases q1 : view w m with
        | none => rw [q1] at h; cases h
        | some t1 =>
          rw [q1] at h
          cases q2 : views ws m with
          | none => rw [q2] at h; cases h
          | some us => rw [q2] at h; cases h; simp [ih us q2]
    have hw := hvl ws ts q
    match ws, vs, r with
    | [], _, _ => rw [hl] at hw; simp at hw
    | w :: w' :: ws, _, _ => rw [hl] at hw; simp at hw
    | [w], _, .cons rv .nil =>
      unfold views at q
      cases q1 : view w m with
      | none => rw [q1] at q; cases q
      | some t1 =>
        rw [q1] at q
        cases q
        exact ⟨w, _, t1, t, rfl, rfl, rv, q1, e, ho⟩
theorem Zg5 {f : T → Option T} : ∀ {ts : List T} {t : T}, one1 f ts = some t → ∃ x, ts = [x] ∧ f x = some t
  | [], _, h => by cases h
  | [x], _, h => ⟨x, rfl, h⟩
  | _ :: _ :: _, _, h => by cases h
theorem Zgl {f : Int → Int → Option T} {ts : List T} {t : T} (h : two2 f ts = some t) : ∃ i j, ts = [.int i, .int j] ∧ f i j = some t := by
  unfold two2 at h
  split at h
  · exact ⟨_, _, rfl, h⟩
  · cases h
theorem JC {b : B} (hb : b ≠ .min2 ∧ b ≠ .max2 ∧ b ≠ .range2 ∧ b ≠ .zip2 ∧ b ≠ .zip4 ∧ b ≠ .dget ∧ b ≠ .din ∧ b ≠ .dnot) : ∀ ts t, bltT b ts = some t → ts.length = 1 := by
  intro ts t h
  have h1 : ∀ f : T → Option T, one1 f ts = some t → ts.length = 1 := fun f h => by
    obtain ⟨x, rfl, _⟩ := Zg5 h
    rfl
  cases b <;> first | exact h1 _ h | exact absurd hb (by decide) | cases h
theorem ZhR : Xg X (.builtin "len") (rN X.K xr (fBlt .len)) := by
  rintro pins s σ H xs us Q I r ⟨cm, m, ws, M, rws, ho⟩
  obtain ⟨w, v, t, rr, rfl, rfl, rv, e, eb, ho⟩ := blt1 rws (JC (by decide)) ho
  have hz := Qo
  cases t with
  | str cs =>
    change (if cs.length ≤ lim then some (T.int cs.length) else none) = some rr at eb
    split at eb <;> cases eb
    cases (Zm rv e (fun _ z => by cases z)).vstr
    exact Zbz pins s σ H _ us Q I r ⟨_, _, rfl, ⟨by rw [Zag]; omega, rfl⟩, by rw [Zag]; exact ans ho M (.int _)⟩
  | tup ts =>
    cases eb
    obtain ⟨a, vs, rfl, h1, r1⟩ := (Zm rv e (fun _ z => by cases z)).itup
    exact Zbz pins s σ H _ us Q I r ⟨_, _, rfl, .inr ⟨vs, h1, r1.length⟩, ans ho M (.int _)⟩
  | lst ts =>
    cases eb
    obtain ⟨a, vs, rfl, h1, r1⟩ := Qh M rv e
    exact Zbz pins s σ H _ us Q I r ⟨_, _, rfl, .inl ⟨vs, .of h1, r1.length⟩, ans ho M (.int _)⟩
  | scr ns =>
    cases eb
    obtain ⟨a, rfl, h1⟩ := (Zm rv e (fun _ z => by cases z)).vscr
    exact Zbz pins s σ H _ us Q I r ⟨_, _, rfl, .inl ⟨_, h1.sq, by simp⟩, ans ho M (.int _)⟩
  | _ => cases eb
theorem ZhS : Xg X (.type "int") (rN X.K xr (fBlt .int)) := by
  rintro pins s σ H xs us Q I r ⟨cm, m, ws, M, rws, ho⟩
  obtain ⟨w, v, t, rr, rfl, rfl, rv, e, eb, ho⟩ := blt1 rws (JC (by decide)) ho
  cases t with
  | int i =>
    cases eb
    cases (Zm rv e (fun _ z => by cases z)).vint
    exact Zd0 pins s σ H _ us Q I r (.inl ⟨_, rfl, ans ho M (.int _)⟩)
  | bl b =>
    cases eb
    cases (Zm rv e (fun _ z => by cases z)).vbl
    exact Zd0 pins s σ H _ us Q I r (.inr ⟨_, rfl, ans ho M (.int _)⟩)
  | _ => cases eb
theorem Zi5 (cs : List Nat) : RTs K cm m H (cs.map fun c => T.str [c]) (cs.map fun c => V.str ⟨#[c]⟩) := by
  induction cs with
  | nil => exact .nil
  | cons c cs ih => exact .cons (.str [c]) ih
theorem ZcC {x : Str} : ∀ (cs : List Nat) (k : Nat) (vs : List Value), vs.length = cs.length → (∀ (j : Nat) (v : Value), vs[j]? = some v → ∃ c u, cs[j]? = some c ∧ v = Value.str ⟨#[c]⟩ u) → Vals (cs.map fun c => V.str ⟨#[c]⟩) vs
  | [], _, [], _, _ => .nil
  | [], _, _ :: _, h, _ => by simp at h
  | _ :: _, _, [], h, _ => by simp at h
  | c :: cs, k, v :: vs, hl, h => by
    obtain ⟨c', u, e1, e2⟩ := h 0 v rfl
    cases e1
    exact .cons ⟨u, e2⟩ (ZcC (x := x) cs k vs (by simpa using hl) fun j w hw => h (j + 1) w (by simpa using hw))
theorem ZeF (hcalm : X.calm = true) : Xg X (.type "tuple") (rN X.K xr (fBlt .tuple)) := by
  rintro pins s σ H xs us Q I r ⟨cm, m, ws, M, rws, ho⟩
  obtain ⟨w, v, t, rr, rfl, rfl, rv, e, eb, ho⟩ := blt1 rws (JC (by decide)) ho
  cases t with
  | tup ts =>
    cases eb
    obtain ⟨a, vs, rfl, h1, r1⟩ := (Zm rv e (fun _ z => by cases z)).itup
    exact ZaG pins s σ H _ us Q I r ⟨a, vs, rfl, .inr ⟨h1, ans ho M (.mtup h1 r1)⟩⟩
  | lst ts =>
    cases eb
    obtain ⟨a, vs, rfl, h1, r1⟩ := Qh M rv e
    exact ZaG pins s σ H _ us Q I r ⟨a, vs, rfl, .inl ⟨.of h1, fun l hl => ZcL ho M r1 hl⟩⟩
  | str cs =>
    change (if cs.length ≤ lim then some (T.tup (cs.map fun c => T.str [c])) else none) = some rr at eb
    split at eb <;> cases eb
    rename_i hc
    cases (Zm rv e (fun _ z => by cases z)).vstr
    obtain ⟨u, rfl, ru⟩ := vals1 r
    obtain ⟨tk, rfl⟩ := ru
    have hz := Qo
    refine call_tuple_str (I.ok.hd hcalm) ⟨cs.toArray⟩ tk (fun h' tk' acc hk hit => ?_) (by show cs.toArray.size ≤ _; rw [List.size_toArray]; omega)
    obtain ⟨h1, h2⟩ := hit
    have I1 : Inv X pins σ H { s with heap := h', toks := tk' } := I.kept hk
    have rv2 : Vals (cs.map fun c => V.str ⟨#[c]⟩) acc.toList := ZcC (x := ⟨cs.toArray⟩) cs 0 acc.toList (by simpa using h1) fun j w hw => by
      obtain ⟨c, u, e1, e2⟩ := h2 j w (by simpa using hw)
      exact ⟨c, u, by simpa using e1, e2⟩
    refine ⟨.ref h'.objs.size, _, I1.laid (t' := tk') (o := .tup (cs.map fun c => V.str ⟨#[c]⟩)) (fun b ob q => Heap.get?_push_of_some _ q) (Nat.le_refl _) ?_, rfl, ZcL ho M (Zi5 cs) (I1.hok.fresh (Nat.le_refl _))⟩
    refine ⟨by rw [List.length_map]; omega, acc.toList, rv2, ?_⟩
    have := TupP.new h' acc.toList.toArray
    simpa using this
  | _ => cases eb
theorem Zgc : Xg X (.type "list") (rN X.K xr (fBlt .list)) := by
  rintro pins s σ H xs us Q I r ⟨cm, m, ws, M, rws, ho⟩
  obtain ⟨w, v, t, rr, rfl, rfl, rv, e, eb, ho⟩ := blt1 rws (JC (by decide)) ho
  cases t with
  | tup ts =>
    cases eb
    obtain ⟨a, vs, rfl, h1, r1⟩ := (Zm rv e (fun _ z => by cases z)).itup
    exact Zbj pins s σ H _ us Q I r ⟨a, vs, rfl, .inr h1, fun l hl => Zb8 ho M r1 hl⟩
  | lst ts =>
    cases eb
    obtain ⟨a, vs, rfl, h1, r1⟩ := Qh M rv e
    exact Zbj pins s σ H _ us Q I r ⟨a, vs, rfl, .inl (.of h1), fun l hl => Zb8 ho M r1 hl⟩
  | _ => cases eb
theorem RTs.bools : ∀ {ts : List T} {vs : List V} {bs : List Bool}, RTs K cm m H ts vs → bools? ts = some bs → vs = bs.map V.bl
  | [], _, _, .nil, e => by cases e; rfl
  | t :: ts, _, bs, .cons r rs, e => by
    cases t with
    | bl c =>
      unfold bools? at e
      cases q : bools? ts with
      | none => rw [q] at e; cases e
      | some cs =>
        rw [q] at e; cases e
        cases RT.vbl r
        rw [RTs.bools rs q]
        rfl
    | _ => cases e
theorem JK : ∀ {bs : List Bool} {us : List Value}, Vals (bs.map V.bl) us → us = bs.map Value.bool
  | [], _, .nil => rfl
  | b :: bs, _, .cons r rs => by
    cases r
    rw [JK rs]
    rfl
theorem Zc7 {s : Shared} {h' : Heap} {o : Obj} (hk : ∀ b x, b ∉ [s.heap.objs.size] → (s.heap.push o).get? b = some x → h'.get? b = some x) : ∀ b x, s.heap.get? b = some x → h'.get? b = some x :=
  fun b x e => hk b x (fun hm => by rw [List.mem_singleton.mp hm] at e; exact Nat.lt_irrefl _ (Heap.lt_size e)) (Heap.get?_push_of_some _ e)
theorem ZeT {α : Type} (f : List α → Bool) (bs : List Bool) (d : Bool) : (List.range bs.length).map (fun i => (bs[i]?).getD d) = bs := by
  apply List.ext_getElem?
  intro i
  rw [List.getElem?_map]
  by_cases h : i < bs.length
  · rw [List.getElem?_range h]; simp [h]
  · simp [h]
theorem ZhU (hc : X.calm = true) : Xg X (.builtin "all") (rN X.K xr (fBlt .all)) := by
  rintro pins s σ H xs us Q I r ⟨cm, m, ws, M, rws, ho⟩
  obtain ⟨w, v, t, rr, rfl, rfl, rv, e, eb, ho⟩ := blt1 rws (JC (by decide)) ho
  cases t with
  | lst ts =>
    have eb : (bools? ts).map (fun bs => T.bl (bs.all id)) = some rr := eb
    cases q : bools? ts with
    | none => rw [q] at eb; cases eb
    | some bs =>
      rw [q] at eb; cases eb
      obtain ⟨a, vs, rfl, h1, r1⟩ := Qh M rv e
      obtain ⟨u, rfl, ru⟩ := vals1 r
      cases ru
      obtain ⟨its, rv', pl, hz⟩ := I.list (.of h1)
      cases RTs.bools r1 q
      cases JK rv'
      have hl := pl.isList
      have hlt : a < s.heap.objs.size := by obtain ⟨_, e, _⟩ := hl; exact Heap.lt_size e
      refine call_all_walk (wpAny_pyIter_list hl ?_)
      refine ⟨s.heap.objs.size, [s.heap.objs.size, a], [s.heap.objs.size], (bs.map Value.bool).toArray.size, _, _, fun i => (bs[i]?).getD true, rfl, Walks.list (A := X.A.in1) (I.ok.hd hc) _ a (Nat.ne_of_lt hlt) (bs.map Value.bool).toArray,
        ⟨⟨_, Heap.get?_push_size _ rfl, rfl, rfl⟩, hl.push _⟩, fun i v s' Q' E' hP hQ => ?_, fun h' tk hk => ?_⟩
      · have hP' : (bs.map Value.bool)[i]? = some v := by simpa using hP
        rw [List.getElem?_map] at hP'
        cases qq : bs[i]? with
        | none => rw [qq] at hP'; cases hP'
        | some b =>
          rw [qq] at hP'; cases hP'
          dsimp only at hQ
          rw [qq] at hQ
          exact wpAny_truthy_bool hQ
      · have e : ((List.range (bs.map Value.bool).toArray.size).all fun i => (bs[i]?).getD true) = bs.all id := by
          rw [List.size_toArray, List.length_map]
          have := congrArg (fun l => l.all id) (ZeT (α := Nat) (fun _ => true) bs true)
          rw [← this, List.all_map]
          rfl
        rw [e]
        exact ⟨.bl _, H, I.kept (Zc7 hk), rfl, ans ho M (.bl _)⟩
  | tup ts =>
    have eb : (bools? ts).map (fun bs => T.bl (bs.all id)) = some rr := eb
    cases q : bools? ts with
    | none => rw [q] at eb; cases eb
    | some bs =>
      rw [q] at eb; cases eb
      obtain ⟨a, vs, rfl, h1, r1⟩ := RT.itup (Zm rv e (fun _ z => by cases z))
      obtain ⟨u, rfl, ru⟩ := vals1 r
      cases ru
      obtain ⟨its, rv', pl, hz⟩ := I.tuple h1
      cases RTs.bools r1 q
      cases JK rv'
      have hl : s.heap.IsTuple a (bs.map Value.bool).toArray := pl
      have hlt : a < s.heap.objs.size := by obtain ⟨_, e, _⟩ := hl; exact Heap.lt_size e
      refine call_all_walk (wpAny_pyIter_tuple hl ?_)
      refine ⟨s.heap.objs.size, [s.heap.objs.size, a], [s.heap.objs.size], (bs.map Value.bool).toArray.size, _, _, fun i => (bs[i]?).getD true, rfl, Walks.tuple (A := X.A.in1) (I.ok.hd hc) _ a (Nat.ne_of_lt hlt) (bs.map Value.bool).toArray,
        ⟨⟨_, Heap.get?_push_size _ rfl, rfl, rfl⟩, (show Heap.IsTuple (s.heap.push _) a _ from let ⟨o, ho, r⟩ := hl; ⟨o, Heap.get?_push_of_some _ ho, r⟩)⟩, fun i v s' Q' E' hP hQ => ?_, fun h' tk hk => ?_⟩
      · have hP' : (bs.map Value.bool)[i]? = some v := by simpa using hP
        rw [List.getElem?_map] at hP'
        cases qq : bs[i]? with
        | none => rw [qq] at hP'; cases hP'
        | some b =>
          rw [qq] at hP'; cases hP'
          dsimp only at hQ
          rw [qq] at hQ
          exact wpAny_truthy_bool hQ
      · have e : ((List.range (bs.map Value.bool).toArray.size).all fun i => (bs[i]?).getD true) = bs.all id := by
          rw [List.size_toArray, List.length_map]
          have := congrArg (fun l => l.all id) (ZeT (α := Nat) (fun _ => true) bs true)
          rw [← this, List.all_map]
          rfl
        rw [e]
        exact ⟨.bl _, H, I.kept (Zc7 hk), rfl, ans ho M (.bl _)⟩
  | _ => cases eb
theorem ZhT (hc : X.calm = true) : Xg X (.builtin "any") (rN X.K xr (fBlt .any)) := by
  rintro pins s σ H xs us Q I r ⟨cm, m, ws, M, rws, ho⟩
  obtain ⟨w, v, t, rr, rfl, rfl, rv, e, eb, ho⟩ := blt1 rws (JC (by decide)) ho
  cases t with
  | lst ts =>
    have eb : (bools? ts).map (fun bs => T.bl (bs.any id)) = some rr := eb
    cases q : bools? ts with
    | none => rw [q] at eb; cases eb
    | some bs =>
      rw [q] at eb; cases eb
      obtain ⟨a, vs, rfl, h1, r1⟩ := Qh M rv e
      obtain ⟨u, rfl, ru⟩ := vals1 r
      cases ru
      obtain ⟨its, rv', pl, hz⟩ := I.list (.of h1)
      cases RTs.bools r1 q
      cases JK rv'
      have hl := pl.isList
      have hlt : a < s.heap.objs.size := by obtain ⟨_, e, _⟩ := hl; exact Heap.lt_size e
      refine call_any_walk (wpAny_pyIter_list hl ?_)
      refine ⟨s.heap.objs.size, [s.heap.objs.size, a], [s.heap.objs.size], (bs.map Value.bool).toArray.size, _, _, fun i => (bs[i]?).getD false, rfl, Walks.list (A := X.A.in1) (I.ok.hd hc) _ a (Nat.ne_of_lt hlt) (bs.map Value.bool).toArray,
        ⟨⟨_, Heap.get?_push_size _ rfl, rfl, rfl⟩, hl.push _⟩, fun i v s' Q' E' hP hQ => ?_, fun h' tk hk => ?_⟩
      · have hP' : (bs.map Value.bool)[i]? = some v := by simpa using hP
        rw [List.getElem?_map] at hP'
        cases qq : bs[i]? with
        | none => rw [qq] at hP'; cases hP'
        | some b =>
          rw [qq] at hP'; cases hP'
          dsimp only at hQ
          rw [qq] at hQ
          exact wpAny_truthy_bool hQ
      · have e : ((List.range (bs.map Value.bool).toArray.size).any fun i => (bs[i]?).getD false) = bs.any id := by
          rw [List.size_toArray, List.length_map]
          have := congrArg (fun l => l.any id) (ZeT (α := Nat) (fun _ => true) bs false)
          rw [← this, List.any_map]
          rfl
        rw [e]
        exact ⟨.bl _, H, I.kept (Zc7 hk), rfl, ans ho M (.bl _)⟩
  | tup ts =>
    have eb : (bools? ts).map (fun bs => T.bl (bs.any id)) = some rr := eb
    cases q : bools? ts with
    | none => rw [q] at eb; cases eb
    | some bs =>
      rw [q] at eb; cases eb
      obtain ⟨a, vs, rfl, h1, r1⟩ := RT.itup (Zm rv e (fun _ z => by cases z))
      obtain ⟨u, rfl, ru⟩ := vals1 r
      cases ru
      obtain ⟨its, rv', pl, hz⟩ := I.tuple h1
      cases RTs.bools r1 q
      cases JK rv'
      have hl : s.heap.IsTuple a (bs.map Value.bool).toArray := pl
      have hlt : a < s.heap.objs.size := by obtain ⟨_, e, _⟩ := hl; exact Heap.lt_size e
      refine call_any_walk (wpAny_pyIter_tuple hl ?_)
      refine ⟨s.heap.objs.size, [s.heap.objs.size, a], [s.heap.objs.size], (bs.map Value.bool).toArray.size, _, _, fun i => (bs[i]?).getD false, rfl, Walks.tuple (A := X.A.in1) (I.ok.hd hc) _ a (Nat.ne_of_lt hlt) (bs.map Value.bool).toArray,
        ⟨⟨_, Heap.get?_push_size _ rfl, rfl, rfl⟩, (show Heap.IsTuple (s.heap.push _) a _ from let ⟨o, ho, r⟩ := hl; ⟨o, Heap.get?_push_of_some _ ho, r⟩)⟩, fun i v s' Q' E' hP hQ => ?_, fun h' tk hk => ?_⟩
      · have hP' : (bs.map Value.bool)[i]? = some v := by simpa using hP
        rw [List.getElem?_map] at hP'
        cases qq : bs[i]? with
        | none => rw [qq] at hP'; cases hP'
        | some b =>
          rw [qq] at hP'; cases hP'
          dsimp only at hQ
          rw [qq] at hQ
          exact wpAny_truthy_bool hQ
      · have e : ((List.range (bs.map Value.bool).toArray.size).any fun i => (bs[i]?).getD false) = bs.any id := by
          rw [List.size_toArray, List.length_map]
          have := congrArg (fun l => l.any id) (ZeT (α := Nat) (fun _ => true) bs false)
          rw [← this, List.any_map]
          rfl
        rw [e]
        exact ⟨.bl _, H, I.kept (Zc7 hk), rfl, ans ho M (.bl _)⟩
  | _ => cases eb
end
end Mi
end
section
namespace Mi
open PySem PySem.Spec PyProof.Rows L2
section
variable {K : PySem.W.Frag} {cm : List Addr} {m : Mem} {H : Hp} {xr : XR} {X : Cx} {call : Nat → List W → Mem → Res W} {gv : List T}
variable {a b c e : Expr} {es : List Expr} {ea eb ec : E} {eas : Es} {pos p p2 : Pos}
noncomputable def tyN : Ty → String
  | .int => "int"
  | .bool => "bool"
  | .str => "str"
  | .tuple => "tuple"
  | .list => "list"
  | .dict => "dict"
noncomputable def tyT : T → String
  | .non => "NoneType"
  | .bl _ => "bool"
  | .int _ => "int"
  | .str _ => "str"
  | .tup _ => "tuple"
  | .lst _ => "list"
  | .dct _ _ => "dict"
  | .scr _ => "list"
theorem Zks (t : T) (ty : Ty) : PySem.W.kitOne K (.type (tyT t)) (.type (tyN ty)) = some (isT t ty) := by cases t <;> cases ty <;> rfl
theorem Zku {pins : List (Addr × Obj)} {σ : L2.St} {s : Shared} {A : Around} {E : Value → Shared → Prop} {Q : Value → Shared → Prop} {w : W} {v : V} {u : Value} {t : T} {ty : Ty} (I : Inv X pins σ H s) (M : MemR X.K cm m H) (rx : RelV v u) (r : RW X.K cm m H w v) (ew : view w m = some t) (h : ∀ tk, Q (.bool (isT t ty)) { s with toks := tk }) :
    wpAny (model X.prog X.w) A (PySem.call (.builtin "isinstance") [u, .type (tyN ty)]) Q E s := by
  have k := Zks (K := X.K) t ty
  have onL : ∀ (a : Addr) (vs : List V), v = .ref a → SqL X.K H a vs → tyT t = "list" → wpAny (model X.prog X.w) A (PySem.call (.builtin "isinstance") [u, .type (tyN ty)]) Q E s := fun a vs e hq et => by
    subst e
    cases rx
    obtain ⟨its, _, pl, _⟩ := I.list hq
    obtain ⟨o, n, e, c, _⟩ := pl
    rw [et] at k
    exact PySem.W.kia_one PySem.W.kitx_list I.kIn ⟨o, e, c⟩ k (fun z => nomatch z) h
  cases t with
  | non => cases (Zm r ew (fun _ z => by cases z)).vnon; exact Xm I rx .non k h
  | bl y => cases (Zm r ew (fun _ z => by cases z)).vbl; exact Xm I rx (.bl y) k h
  | int i => cases (Zm r ew (fun _ z => by cases z)).vint; exact Xm I rx (.int i) k h
  | str cs => cases (Zm r ew (fun _ z => by cases z)).vstr; exact Xm I rx (.str _) k h
  | tup ts =>
    obtain ⟨a, vs, rfl, h1, _⟩ := (Zm r ew (fun _ z => by cases z)).itup
    cases rx
    obtain ⟨its, _, p, _⟩ := I.tuple h1
    obtain ⟨o, h1, h2, _⟩ := p
    exact PySem.W.kia_one PySem.W.kitx_tuple I.kIn ⟨o, h1, h2⟩ k (fun z => nomatch z) h
  | lst ts =>
    obtain ⟨a, vs, e, h1, _⟩ := Qh M r ew
    exact onL a vs e (.of h1) rfl
  | scr ns =>
    obtain ⟨a, e, h1⟩ := (Zm r ew (fun _ z => by cases z)).vscr
    exact onL a _ e h1.sq rfl
  | dct ks ts =>
    have r' := Zm r ew (fun _ z => by cases z)
    cases r' with
    | dct q1 q2 q3 q4 q5 => exact Xm I rx (.dK q1) k h
noncomputable def fIsi (ty : Ty) (w : W) (m : Mem) : Res W := pur ((view w m).map fun x => .bl (isT x ty)) m
theorem Zjc {ty : Ty} : Xg X (.builtin "isinstance") (fun xs H Q => ∃ x, xs = [x, .ty (tyN ty)] ∧ r1 X.K xr (fIsi ty) x H Q) := by
  rintro pins s σ H xs us Q I r ⟨x, e, cm, m, w, M, rw', ho⟩
  subst e
  obtain ⟨u1, u2, rfl, ru1, ru2⟩ := vals2 r
  cases (show u2 = Value.type (tyN ty) from ru2)
  obtain ⟨t, et, ho⟩ := JM ho
  cases q : view w m with
  | none => rw [q] at et; cases et
  | some tw =>
    rw [q] at et; cases et
    exact Zku I M ru1 rw' q fun tk => ⟨.bl _, H, I.tok _, rfl, ans ho M (.bl _)⟩
theorem ZbJ {ty : Ty} {x : Str} (ha : PE X a (tE X.K call gv xr ea)) (hg : Gl X "isinstance") (hm : X.mg "isinstance" = none) (hgT : Gl X x) (hmT : X.mg x = none) (hv : bootBuiltins x = some (.type (tyN ty)))
    (hn : x ≠ "__name__" := by decide) (hd : (x == ("__debug__" : Str)) = false := by decide)
    (hs : notStar a = true := by rfl) :
    PE X (.Call (.Name "isinstance" p) [a, .Name x p2] [] pos) (tE X.K call gv xr (.isi ea ty)) := by
  refine PE.mono (ZeX (Zjc (ty := ty) (xr := xr)) hg hm (by decide +kernel) (Zem ha (Zem (Zj5 (v := .ty (tyN ty)) hgT hmT hv rfl hn hd) Zjo (JF rfl)) (JF hs)) (by decide) (by decide) (JF hs) (Zdt rfl)) ?_
  rintro σ H Q ⟨env, cm, m, hE, M, ho⟩
  rw [ev] at ho
  exact ⟨env, cm, m, hE, M, ho.bind.mono fun w cm1 m1 H1 x1 M1 o1 v rv => ⟨v, rfl, cm1, m1, w, M1, rv, o1⟩⟩
noncomputable def rM (K : PySem.W.Frag) (xr : XR) (b : Mt) : V → List V → Hp → VK → Prop := fun x xs H Q => ∃ cm m w ws, MemR K cm m H ∧ RW K cm m H w x ∧ RWs K cm m H ws xs ∧ OkR K (doM b w ws m) xr cm m H fun w cm' m' H' => ∀ v, RW K cm' m' H' w v → Q v H'
theorem RTs.strs : ∀ {ts : List T} {vs : List V} {bs : List (List Nat)}, RTs K cm m H ts vs → strs? ts = some bs → vs = bs.map fun c => V.str ⟨c.toArray⟩
  | [], _, _, .nil, e => by cases e; rfl
  | t :: ts, _, bs, .cons r rs, e => by
    cases t with
    | str c =>
      unfold strs? at e
      cases q : strs? ts with
      | none => rw [q] at e; cases e
      | some cs =>
        rw [q] at e; cases e
        cases RT.vstr r
        rw [RTs.strs rs q]
        rfl
    | _ => cases e
theorem ZbB : ∀ {bs : List (List Nat)} {us : List Value}, Vals (bs.map fun c => V.str ⟨c.toArray⟩) us → StrsAre us (bs.map fun c => (⟨c.toArray⟩ : Str))
  | [], _, .nil => .nil
  | b :: bs, _, .cons ⟨t, e⟩ rs => by
    cases e
    exact .cons _ t (ZbB rs)
theorem few1 {cpos : Pos} (hs : notStar e = true) : ((backTo cpos (starEach [e] X.env)).all (fun x => !x.1) && (backToKw cpos (keywordEach [] X.env)).all (fun x => x.1.isSome)
      && decide ([e].length + ([] : List Keyword).length + (if ([] : List Keyword).isEmpty then 0 else 1) < 30)) = true := by
  rw [Zgt (by rw [List.all_cons, hs]; rfl)]
  rfl
structure At (X : Cx) (call : Nat → List W → Mem → Res W) (gv : List T) (e : Expr) (a : E) (f : L2.St → Option V) : Prop where
  pe : PE X e (fun σ H Q => ∃ v, f σ = some v ∧ Q v H)
  rd : ∀ env cm m H σ, EnvR X.K cm m H env σ → (∃ w v, ev call gv a env m = .ok w m ∧ f σ = some v ∧ RW X.K cm m H w v) ∨ ev call gv a env m = .stuck
theorem Qq {tg : Expr} (hg : Gl X "range") (hm : X.mg "range" = none) (ha : PA X [a] (tA X.K call gv xr eas)) (hs : notStar a = true := by rfl) : PI X tg (.Call (.Name "range" p) [a] [] pos) (tI X.K call gv xr (.blt .range1 eas)) := by
  refine PI.mono (ZgP hg hm ha (JF hs)) ?_
  rintro σ H R ⟨env, cm, m, hE, M, ho⟩
  rw [ev] at ho
  refine ⟨env, cm, m, hE, M, ho.bind.mono fun ws cm1 m1 H1 x1 M1 o1 vs rvs => ?_⟩
  obtain ⟨w, v, t, rr, rfl, rfl, rv, e, eb, o2⟩ := blt1 (b := .range1) rvs (JC (by decide)) o1
  cases t with
  | int i =>
    change (if i < 2 ^ 62 ∧ -(2 ^ 62) ≤ i then some (T.lst (rangeT 0 i.toNat)) else none) = some rr at eb
    split at eb <;> cases eb
    rename_i hc
    cases (Zm rv e (fun _ z => by cases z)).vint
    obtain ⟨ts, m2, q1, q2⟩ := OkR.now o2 M1
    cases q1
    exact ⟨_, rfl, hc.2, hc.1, q2 _ (.rng 0 _)⟩
  | _ => cases eb
end
end Mi
end
section
namespace Mi
open PySem PySem.Spec PyProof.Rows L2
section
variable (K : PySem.W.Frag) (call : Nat → List W → Mem → Res W) (gv : List T) (xr : XR)
noncomputable def ZhA (n : Nat) (D : Ends) (fl : Flow) (cm : List Addr) (m : Mem) (H : Hp) : Prop := match fl with
  | .next env => ∀ σ : L2.St, σ.length = n → EnvR K cm m H env σ → D.nx σ H
  | .ret w => ∀ v, RW K cm m H w v → D.rt v H
  | .brk env => ∀ σ : L2.St, σ.length = n → EnvR K cm m H env σ → D.bk σ H
  | .cont env => ∀ σ : L2.St, σ.length = n → EnvR K cm m H env σ → D.ct σ H
noncomputable def tS (n : Nat) (s : S) : TS := fun D σ H => σ.length = n ∧ ∃ env cm m, EnvR K cm m H env σ ∧ MemR K cm m H ∧ OkR K (ex call gv s env m) xr cm m H fun fl cm' m' H' => ZhA K n D fl cm' m' H'
end
section
variable {K : PySem.W.Frag} {cm : List Addr} {m : Mem} {H : Hp} {xr : XR} {X : Cx} {call : Nat → List W → Mem → Res W} {gv : List T}
variable {a b c e : Expr} {es : List Expr} {ea eb ec : E} {eas : Es} {pos p p2 : Pos} {rest : List Stmt} {k : S} {n : Nat}
theorem PSs.mono {sts : List Stmt} {t t' : TS} (h : PSs X sts t) (f : ∀ D σ H, t' D σ H → t D σ H) : PSs X sts t' := fun pins s σ H D I q => h pins s σ H D I (f D σ H q)
theorem Zn : PSs X [] (tS X.K call gv xr n .done) := PSs.mono ZjS fun D σ H ⟨hl, env, cm, m, hE, M, ho⟩ => by
  rw [ex] at ho
  exact OkR.now ho M σ hl hE
theorem Zh (h : PE X e (tE X.K call gv xr ea)) : PSs X (.Return (some e) pos :: rest) (tS X.K call gv xr n (.ret ea k)) := PSs.mono (JH (ps_ret h) ZgG) fun D σ H ⟨hl, env, cm, m, hE, M, ho⟩ => by
  rw [ex] at ho
  exact ⟨env, cm, m, hE, M, ho.bind.mono fun w cm1 m1 H1 x1 M1 o1 v rv => OkR.now o1 M1 v rv⟩
theorem ZgH (h : PE X e (tE X.K call gv xr ea)) (hk : PSs X rest (tS X.K call gv xr n k)) (hs : swapsWith e none pos.line X.env = pure false := by rfl) : PSs X (.Expr e pos :: rest) (tS X.K call gv xr n (.expr ea k)) := PSs.mono (JH (ZjU h hs) hk) fun D σ H ⟨hl, env, cm, m, hE, M, ho⟩ => by
  rw [ex] at ho
  exact ⟨env, cm, m, hE, M, ho.bind.mono fun w cm1 m1 H1 x1 M1 o1 v rv => ⟨hl, env, cm1, m1, hE.ext x1 M M1, M1, o1⟩⟩
theorem Zil {i : Nat} {x : Str} {px : Pos} (hN : X.N.Nodup) (hn : X.N.length = n) (hi : X.N[i]? = some x) (hx : Loc X.env.scope x) (h : PE X e (tE X.K call gv xr ea)) (hk : PSs X rest (tS X.K call gv xr n k))
    (hs : swapsWith e (some (.Name x px)) pos.line X.env = pure false := by rfl) (hf : X.fn x = true ∨ X.env.scope.names.lookup x = some .local := by first | exact .inl rfl | exact .inr rfl | assumption) : PSs X (.Assign [.Name x px] e pos :: rest) (tS X.K call gv xr n (.asg i ea k)) := PSs.mono (JH (ps_set hN hi hx h hs hf) hk) fun D σ H ⟨hl, env, cm, m, hE, M, ho⟩ => by
  rw [ex] at ho
  have hi' : i < σ.length := by rw [hl, ← hn]; exact (List.getElem?_eq_some_iff.mp hi).1
  exact ⟨env, cm, m, hE, M, ho.bind.mono fun w cm1 m1 H1 x1 M1 o1 v rv => ⟨by rw [List.length_set]; exact hl, env.set i (some w), cm1, m1, EnvR.set (hE.ext x1 M M1) rv i hi', M1, o1⟩⟩
theorem ZeU {o i v : Expr} {eo ei ev' : E} {tp : Pos} (hv : PE X v (tE X.K call gv xr ev')) (ho : PE X o (tE X.K call gv xr eo)) (hi : PE X i (tE X.K call gv xr ei)) (hk : PSs X rest (tS X.K call gv xr n k))
    (ha : ∀ v, assign (.Subscript o i tp) X.env v = (do
      let ov ← holding [v] (eval o X.env)
      let iv ← holding [v, ov] (eval i X.env)
      standAt tp
      holding [v, ov, iv] (setItem ov iv v)
      release [v, ov, iv] []) := by intro _; rfl)
    (hs : swapsWithSole [.Subscript o i tp] v pos.line X.env = pure false := by rfl) (hw : swappedStores [.Subscript o i tp] v X.env = pure none := by rfl)
    (h1 : (assignEach [.Subscript o i tp] X.env).map (·.2) = [assign (.Subscript o i tp) X.env] := by rfl) : PSs X (.Assign [.Subscript o i tp] v pos :: rest) (tS X.K call gv xr n (.set eo ei ev' k)) :=
  PSs.mono (JH (Zjl hv (pg_sub ho hi set_list ha) hs hw h1) hk) fun D σ H ⟨hl, env, cm, m, hE, M, hq⟩ => by
    rw [ex] at hq
    refine ⟨env, cm, m, hE, M, hq.bind.mono fun z cm1 m1 H1 x1 M1 o1 vz rz => ?_⟩
    refine ⟨env, cm1, m1, hE.ext x1 M M1, M1, o1.bind.mono fun x cm2 m2 H2 x2 M2 o2 vx rx => ?_⟩
    refine ⟨env, cm2, m2, (hE.ext x1 M M1).ext x2 M1 M2, M2, o2.bind.mono fun y cm3 m3 H3 x3 M3 o3 vy ry => ?_⟩
    unfold setM at o3
    split at o3
    · rename_i cc kk
      cases q : frz z m3 with
      | stuck => rw [q] at o3; exact o3.elim
      | exc e' m' => exact absurd q ZdP
      | ok t m4 =>
        rw [q] at o3
        obtain ⟨x4, M4, r4⟩ := Ze9 M3 ((rz.ext x2 M1 M2).ext x3 M2 M3) q
        have rx' : RW X.K cm3 m4 H3 (.c cc) vx := (rx.ext x3 M2 M3).ext x4 M3 M4
        cases RT.vint ry
        obtain ⟨a, ha1, rfl⟩ := rx'
        have o3 : OkR X.K ((match m4[cc]? with
          | some (some (false, xs)) => match ixOf xs.length kk with
            | some j => Res.ok () (m4.set cc (some (false, xs.set j t)))
            | none => .stuck
          | _ => .stuck).bind fun _ m => ex call gv k env m) xr cm3 m3 H3 _ := o3
        split at o3
        · rename_i xs e1
          split at o3
          · rename_i j e2
            obtain ⟨b, vs, q1, q2, q3, q4⟩ := M4.at' cc _ e1
            rw [ha1] at q1; cases q1
            have l4 := q4.length
            dsimp only at l4
            obtain ⟨x5, M5⟩ := ZcD M4 e1 ha1 (Zcm r4 j q4)
            refine ⟨a, vs, kk, j, rfl, rfl, q2, by rw [← l4]; exact e2, ?_⟩
            have xx := (x4.trans x5)
            exact ⟨hl, env, cm3, _, (((hE.ext x1 M M1).ext x2 M1 M2).ext x3 M2 M3).ext xx M3 M5, M5, OkR.shift (show OkR X.K (ex call gv k env _) xr cm3 m3 H3 _ from o3) xx⟩
          · exact o3.elim
        · exact o3.elim
    · exact o3.elim
theorem bind_assoc {α β γ : Type} (r : Res α) (f : α → Mem → Res β) (g : β → Mem → Res γ) : (r.bind f).bind g = r.bind fun a m => (f a m).bind g := by cases r <;> rfl
theorem ZC {A B : List Stmt} {sa sb : S} (hc : PT X c (tT X.K call gv xr ec)) (ha : PSs X A (tS X.K call gv xr n sa)) (hb : PSs X B (tS X.K call gv xr n sb)) (hk : PSs X rest (tS X.K call gv xr n k)) : PSs X (.If c A B pos :: rest) (tS X.K call gv xr n (.ife ec sa sb k)) :=
  PSs.mono (JH (ps_if hc ha hb) hk) fun D σ H ⟨hl, env, cm, m, hE, M, ho⟩ => by
    rw [ex, ← bind_assoc] at ho
    refine ⟨env, cm, m, hE, M, ho.bind.mono fun t cm1 m1 H1 x1 M1 o1 => ?_⟩
    have go : ∀ s : S, OkR X.K ((ex call gv s env m1).bind fun fl m => match fl with | .next env => ex call gv k env m | fl => .ok fl m) xr cm1 m1 H1 (fun fl cm' m' H' => ZhA X.K n D fl cm' m' H') → tS X.K call gv xr n s { D with nx := tS X.K call gv xr n k D } σ H1 := fun s o => by
      refine ⟨hl, env, cm1, m1, hE.ext x1 M M1, M1, o.bind.mono fun fl cm2 m2 H2 x2 M2 o2 => ?_⟩
      cases fl with
      | next env' => exact fun σ' hl' hE' => ⟨hl', env', cm2, m2, hE', M2, o2⟩
      | ret w => exact OkR.now (xr := xr) (a := Flow.ret w) o2 M2
      | brk env' => exact OkR.now (xr := xr) (a := Flow.brk env') o2 M2
      | cont env' => exact OkR.now (xr := xr) (a := Flow.cont env') o2 M2
    cases t with
    | true => exact iteT (go sa o1)
    | false => exact iteF (go sb o1)
theorem Zai : ∀ (is : List Nat) (vs : List V) (σ : L2.St), (setAll is vs σ).length = σ.length
  | [], _, _ => by unfold setAll; rfl
  | _ :: _, [], _ => by unfold setAll; rfl
  | i :: is, v :: vs, σ => by unfold setAll; rw [Zai, List.length_set]
theorem Zjv {tg : Tg} {v : V} {σ : L2.St} {Q : L2.St → Hp → Prop} (h : gT K tg v σ H Q) : gT K tg v σ H fun σ' H' => σ'.length = σ.length ∧ Q σ' H' := by
  cases tg with
  | nm i => exact ⟨List.length_set, h⟩
  | tp is =>
    obtain ⟨a, xs, h1, h2, h3, h4⟩ := h
    exact ⟨a, xs, h1, h2, h3, Zai _ _ _, h4⟩
theorem EnvR.same {cm : List Addr} {m m' : Mem} {H : Hp} {env : Env} {σ : L2.St} (h : EnvR K cm m H env σ) (f : ∀ t v, RT K cm m H t v → RT K cm m' H t v) : EnvR K cm m' H env σ := fun i w e => by
  obtain ⟨v, h1, h2⟩ := h i w e
  refine ⟨v, h1, ?_⟩
  cases w with
  | t t => exact f t v h2
  | f a => exact h2
  | c i => exact h2
theorem Jd {tgt iter : Expr} {body : List Stmt} {tg : Tg} {it : E} {sb : S} (hc : X.calm = true) (hp : PassesOwn (model X.prog X.w) X.A X.env X.xe) (hi : PI X tgt iter (tI X.K call gv xr it)) (hg : PG X tgt (gT X.K tg)) (ht : ∀ i ∈ tgS tg, i < n)
    (hb : PSs X body (tS X.K call gv xr n sb)) (hk : PSs X rest (tS X.K call gv xr n k)) (hs : ∀ x, foldedSetIterable iter X.env x = pure x := by intro _; rfl) : PSs X (.For tgt iter body [] pos :: rest) (tS X.K call gv xr n (.forr tg it sb k)) :=
  PSs.mono (JH (ps_for hp hc hi hg hb hs) hk) fun D σ0 H0 ⟨hl0, env0, cm0, m0, hE0, M0, ho⟩ => by
    rw [ex] at ho
    refine ⟨env0, cm0, m0, hE0, M0, ho.bind.mono fun x cm1 m1 H1 x1 M1 o1 => ?_⟩
    cases hbr : QD x m1 with
    | stuck => rw [hbr] at o1; exact o1.elim
    | exc e' m' =>
      exfalso
      unfold QD at hbr
      split at hbr <;> first | (cases hbr; done) | (split at hbr <;> cases hbr)
    | ok ts m2 =>
      rw [hbr] at o1
      obtain ⟨xb, Mb⟩ := ZaH M1 hbr
      let g : Flow → Mem → Res Flow := fun fl m => match fl with
        | .next env => ex call gv k env (giveBack x m1 m)
        | .ret w => .ok (.ret w) (giveBack x m1 m)
        | _ => .stuck
      have o1 : OkR X.K ((Qk (fun env m => ex call gv sb env m) tg ts env0 m2).bind g) xr cm1 m1 H1 (fun fl cm' m' H' => ZhA X.K n D fl cm' m' H') := o1
      refine ⟨ts, m2, rfl, fun J hJ => ?_⟩
      let P : Flow → List Addr → Mem → Hp → Prop := fun fl _ m' _ => OkR X.K (g fl m') xr cm1 m1 H1 (fun fl cm' m' H' => ZhA X.K n D fl cm' m' H')
      -- behind the walk
      have fin : ∀ env cm m H σ, σ.length = n → EnvR X.K cm m H env σ → MemR X.K cm m H → Ext cm1 m2 H1 cm m H → P (.next env) cm m H → tS X.K call gv xr n k D σ H := fun env cm m H σ hl hE M xx hP => by
        obtain ⟨xg, Mg, fg⟩ := Xn M1 hbr xx M
        exact ⟨hl, env, cm, _, EnvR.same hE fg, Mg, OkR.shift (show OkR X.K (ex call gv k env (giveBack x m1 m)) xr cm1 m1 H1 _ from hP) xg⟩
      refine ⟨fun i μ σ H => μ = ts.length - i ∧ σ.length = n ∧ ∃ env cm m, EnvR X.K cm m H env σ ∧ MemR X.K cm m H ∧ Ext cm1 m2 H1 cm m H ∧ OkR X.K (Qk (fun env m => ex call gv sb env m) tg (ts.drop i) env m) xr cm m H P, ⟨ts.length - 0, rfl, hl0, env0, cm1, m2, (hE0.ext x1 M0 M1).ext xb M1 Mb, Mb, .refl, ?_⟩, ?_⟩
      · rw [List.drop_zero]
        exact OkR.shift o1.bind0 xb
      · rintro i μ σ H ⟨rfl, hl, env, cm, m, hE, M, xx, hq⟩
        have sJ := hJ.ext xx Mb M
        cases e : ts[i]? with
        | none =>
          have ed : ts.drop i = [] := List.drop_eq_nil_iff.mpr (List.getElem?_eq_none_iff.mp e)
          rw [ed, Qk] at hq
          exact .inl ⟨sJ.stop M e, fin env cm m H σ hl hE M xx (OkR.now hq M)⟩
        | some t =>
          have hlt := (List.getElem?_eq_some_iff.mp e).1
          have ed : ts.drop i = t :: ts.drop (i + 1) := by
            rw [List.drop_eq_getElem_cons hlt]
            rw [(List.getElem?_eq_some_iff.mp e).2]
          rw [ed, Qk] at hq
          obtain ⟨go, hy⟩ := sJ.go M e
          refine .inr ⟨go, fun σ' H' => σ'.length = n ∧ ∃ env cm m, EnvR X.K cm m H' env σ' ∧ MemR X.K cm m H' ∧ Ext cm1 m2 H1 cm m H' ∧ OkR X.K (Qk (fun env m => ex call gv sb env m) tg (ts.drop (i + 1)) env m) xr cm m H' P,
            fun σ' H' hN => ⟨ts.length - (i + 1), by omega, rfl, hN⟩, fun v H' y => ?_⟩
          obtain ⟨xy, My, rt⟩ := hy v H' y
          have hE := hE.ext xy M My
          have xx := xx.trans xy
          have hq := OkR.shift hq xy
          have M := My
          split at hq
          · exact hq.elim
          · rename_i env' eb
            have := Zjv (Zkw (Q := fun σ' H2 => H2 = H' ∧ EnvR X.K cm m H' env' σ') hE (fun j hj => by rw [hl]; exact ht j hj) rt eb fun σ' hE' _ => ⟨rfl, hE'⟩)
            have mono : ∀ {Q Q' : L2.St → Hp → Prop}, gT X.K tg v σ H' Q → (∀ σ' H', Q σ' H' → Q' σ' H') → gT X.K tg v σ H' Q' := fun {Q Q'} h f => by
              cases tg with
              | nm j => exact f _ _ h
              | tp is =>
                obtain ⟨a1, xs, z1, z2, z3, z4⟩ := h
                exact ⟨a1, xs, z1, z2, z3, f _ _ z4⟩
            refine mono this ?_
            rintro σ2 H2 ⟨hl2, e2, hE2⟩
            subst e2
            refine ⟨hl2.trans hl, env', cm, m, hE2, M, hq.bind.mono fun fl cm3 m3 H3 x3 M3 o3 => ?_⟩
            cases fl with
            | next env3 => exact fun σ3 hl3 hE3 => ⟨hl3, env3, cm3, m3, hE3, M3, xx.trans x3, o3⟩
            | cont env3 => exact fun σ3 hl3 hE3 => ⟨hl3, env3, cm3, m3, hE3, M3, xx.trans x3, o3⟩
            | brk env3 => exact fun σ3 hl3 hE3 => fin env3 cm3 m3 H3 σ3 hl3 hE3 M3 (xx.trans x3) (OkR.now (a := Flow.next env3) o3 M3)
            | ret w =>
              intro v3 rv3
              have hP : P (.ret w) cm3 m3 H3 := OkR.now (a := Flow.ret w) o3 M3
              obtain ⟨xg, Mg, fg⟩ := Xn M1 hbr (xx.trans x3) M3
              refine OkR.to (a := Flow.ret w) (m' := giveBack x m1 m3) hP xg Mg v3 ?_
              cases w with
              | t t => exact fg t v3 rv3
              | f a => exact rv3
              | c j => exact rv3
theorem ZcU {elt target iter : Expr} {ifs : List Expr} {gs : List Comprehension} {scope : Scope} {N' : List Str} {own : Nat} {keep : List Nat} {it : E} {tg : Tg} {cs : Es} {inner : E} {i : Nat} {x : Str} {px spos : Pos}
    (hc : X.calm = true) (kk : CompK X xr call gv N' scope own keep elt target iter ifs gs it tg cs inner) (hN : X.N.Nodup) (hn : X.N.length = n) (hi : X.N[i]? = some x) (hx : X.env.scope.names.lookup x = some .local)
    (hk : PSs X rest (tS X.K call gv xr n k))
    (hsw : swapsWith (.ListComp elt (⟨target, iter, ifs, 0⟩ :: gs) scope pos) (some (.Name x px)) spos.line X.env = pure true := by rfl) :
    PSs X (.Assign [.Name x px] (.ListComp elt (⟨target, iter, ifs, 0⟩ :: gs) scope pos) spos :: rest) (tS X.K call gv xr n (.asg i (.comp own keep it tg cs inner) k)) := by
  have h1 : PS X (.Assign [.Name x px] (.ListComp elt (⟨target, iter, ifs, 0⟩ :: gs) scope pos) spos) (fun D σ H => ∃ env cm m m' out, EnvR X.K cm m H env σ ∧ MemR X.K cm m H ∧ ev call gv (.comp own keep it tg cs inner) env m = .ok (.t (.lst out)) m' ∧
      ∀ (p : Addr) (H3 : Hp) (cm3 : List Addr) (vs : List V), H3 p = none → X.K.lookup p = none → Ext cm m H cm3 m' H3 → MemR X.K cm3 m' H3 → RTs X.K cm3 m' H3 out vs → D.nx (σ.set i (some (.ref p))) (upd H3 p (.lst vs))) :=
    fun pins s σ H D I ⟨env, cm, m, m', out, hE, M, ok, q⟩ => Zi4 hc kk hN hi hx hsw I hE M ok q
  refine PSs.mono (JH h1 hk) ?_
  rintro D σ H ⟨hl, env, cm, m, hE, M, ho⟩
  rw [ex] at ho
  cases h : ev call gv (.comp own keep it tg cs inner) env m with
  | stuck => rw [h] at ho; exact ho.elim
  | exc e m' => exact absurd h (Za0 e m')
  | ok w m' =>
    obtain ⟨out, rfl⟩ := ZbZ h
    rw [h] at ho
    refine ⟨env, cm, m, m', out, hE, M, h, fun p H3 cm3 vs hp _ x3 M3 r3 => ?_⟩
    have hi' : i < σ.length := by rw [hl, ← hn]; exact (List.getElem?_eq_some_iff.mp hi).1
    have x4 := x3.trans (Ext.new (o := .lst vs) hp)
    have M4 := M3.new (o := .lst vs) hp
    exact ⟨by rw [List.length_set]; exact hl, _, cm3, m', EnvR.set (w := .t (.lst out)) (hE.ext x4 M M4) (RT.newLst M3 r3 hp) i hi', M4, OkR.shift (show OkR X.K (ex call gv k (env.set i (some (.t (.lst out)))) m') xr cm m H _ from ho) x4⟩
end
end Mi
end
section
namespace Mi
open PySem PySem.Spec PyProof.Rows L2
noncomputable def xr0 : XR := fun _ _ _ _ => False
noncomputable def spF (K : PySem.W.Frag) (fns : List Fn) (gv : List T) (k f : Nat) : Sp := fun vs H Q _ => ∃ cm m ws, MemR K cm m H ∧ RWs K cm m H ws vs ∧ OkR K (Qi fns gv k f ws m) xr0 cm m H fun w cm' m' H' => ∀ v, RW K cm' m' H' w v → Q v H'
noncomputable def FOk (P : Program) (w : World) (K : PySem.W.Frag) (mg : Str → Option Value) (base : Heap) (fns : List Fn) (gv : List T) (k : Nat) (x : Str) (fi : Nat) : Prop :=
  ∃ f fd ps, mg x = some (.ref f) ∧ PySem.W.keepIn K (.ref f) = true ∧ Binds K fd ps [] ∧ FnOk P w K mg base CX0 k f fd ps (spF K fns gv k fi)
section
variable {K : PySem.W.Frag} {cm cm' : List Addr} {m m' : Mem} {H H' : Hp} {X : Cx} {fns : List Fn} {gv : List T}
variable {a b c e : Expr} {es : List Expr} {ea eb ec : E} {eas : Es} {pos p p2 : Pos} {k n : Nat}
theorem Zg {fi : Nat} {x : Str} (F : FOk X.prog X.w X.K X.mg X.base fns gv k x fi) (hr : Room k X.A) (hg : Gl X x) (ha : PA X (e :: es) (tA X.K (Qi fns gv k) gv xr0 eas)) (hdb : (x == ("__debug__" : Str)) = false := by decide)
    (he : notStar e = true := by rfl) (hpl : es.all notStar = true := by rfl) :
    PE X (.Call (.Name x p) (e :: es) [] pos) (tE X.K (Qi fns gv k) gv xr0 (.call fi eas)) := by
  obtain ⟨f, fd, ps, hm, hk, hb, F⟩ := F
  refine PE.mono (Zj4 F hr hg hm hk hb (dvs := []) .nil (E := E0) pass0 ha hdb (JF he) (Zdt hpl)) ?_
  rintro σ H Q ⟨env, cm, m, hE, M, ho⟩
  rw [ev] at ho
  refine ⟨env, cm, m, hE, M, ho.bind.mono fun ws cm1 m1 H1 x1 M1 o1 vs rvs => ?_⟩
  show spF X.K fns gv k fi (vs ++ []) H1 Q E0
  rw [List.append_nil]
  exact ⟨cm1, m1, ws, M1, rvs, o1⟩
theorem JQ {i n : Nat} {c : Bool × List T} (h : (m.take n)[i]? = some (some c)) : m[i]? = some (some c) ∧ i < n := by
  rw [List.getElem?_take] at h
  split at h
  · exact ⟨h, ‹_›⟩
  · cases h
theorem Jg {i n : Nat} (h : i < n) : (cm.take n)[i]? = cm[i]? := by rw [List.getElem?_take, if_pos h]
theorem Xl {n : Nat} {a : Addr} (h : ZX cm m a) : ZX (cm.take n) (m.take n) a := fun i q e => by
  obtain ⟨e1, hi⟩ := JQ e
  rw [Jg hi]
  exact h i q e1
theorem Zh8 (M : MemR K cm m H) (n : Nat) : MemR K (cm.take n) (m.take n) H ∧ ∀ t v, RT K cm m H t v → RT K (cm.take n) (m.take n) H t v := by
  have sm : ∀ t v, RT K cm m H t v → RT K (cm.take n) (m.take n) H t v := fun t v r => r.same (fun _ _ z => z) fun _ z _ => Xl z
  refine ⟨⟨by rw [List.length_take, List.length_take, M.len], fun i j a q r e1 e2 f1 f2 => ?_, fun i q e => ?_⟩, sm⟩
  · obtain ⟨e1, h1⟩ := JQ e1
    obtain ⟨e2, h2⟩ := JQ e2
    rw [Jg h1] at f1
    rw [Jg h2] at f2
    exact M.inj i j a q r e1 e2 f1 f2
  · obtain ⟨e1, h1⟩ := JQ e
    obtain ⟨a, vs, q1, q2, q3, q4⟩ := M.at' i q e1
    exact ⟨a, vs, by rw [Jg h1]; exact q1, q2, q3, ZF (fun _ _ z => sm _ _ z) q4⟩
theorem Zh9 (M : MemR K cm m H) (x : Ext cm m H cm' m' H') : Ext cm m H (cm'.take m.length) (m'.take m.length) H' := by
  refine ⟨fun i a h => ?_, by rw [List.length_take]; have := x.len; omega, fun i ts h => ?_, fun a o h n => ⟨(x.keep a o h n).1, Xl (x.keep a o h n).2⟩⟩
  · have hi := (List.getElem?_eq_some_iff.mp h).1
    rw [M.len] at hi
    rw [Jg hi]
    exact x.pre i a h
  · have hi := (List.getElem?_eq_some_iff.mp h).1
    rw [List.getElem?_take, if_pos hi]
    exact x.lent i ts h
theorem fin_ok {cell : Bool} {fl : Flow} {Q : VK} {nn : Nat} (M : MemR K cm m H) (x : Ext cm m H cm' m' H') (M' : MemR K cm' m' H') (ho : OkR K (fin m.length cell fl m') xr0 cm m H fun w cm' m' H' => ∀ v, RW K cm' m' H' w v → Q v H') :
    ZhA K nn { nx := fun _ H' => Q .non H', rt := Q } fl cm' m' H' := by
  obtain ⟨Mt, st⟩ := Zh8 M' m.length
  have xt := Zh9 M x
  cases fl with
  | next env => exact fun σ _ _ => OkR.to (a := W.t .non) ho xt Mt _ .non
  | brk env => exact ho.elim
  | cont env => exact ho.elim
  | ret w =>
    intro v rv
    cases w with
    | t t => exact OkR.to (a := W.t t) ho xt Mt v (st t v rv)
    | f a => exact ho.elim
    | c i =>
      unfold fin at ho
      dsimp only at ho
      split at ho
      · rename_i hi
        obtain ⟨a, h1, h2⟩ := rv
        exact OkR.to ho xt Mt v ⟨a, by rw [Jg hi]; exact h1, h2⟩
      · rename_i hi
        split at ho
        · rename_i ts e
          obtain ⟨a, h1, h2⟩ := rv
          obtain ⟨a', vs, q1, q2, q3, q4⟩ := M'.at' i _ e
          rw [h1] at q1; cases q1
          have na : ZX (cm'.take m.length) (m'.take m.length) a := fun j q ej z => by
            obtain ⟨ej, hj⟩ := JQ ej
            rw [Jg hj] at z
            have := M'.inj j i a _ _ ej e z h1
            omega
          have lt : (cm'.take m.length).length = m.length := by rw [List.length_take, M'.len]; have := x.len; omega
          have lm : (m'.take m.length).length = m.length := by rw [List.length_take]; have := x.len; omega
          split at ho
          · -- a list that may change is handed back
            have nl : ∀ b, ZX cm' m' b → ZX (cm'.take m.length ++ [a]) (m'.take m.length ++ [some (false, ts)]) b := fun b n => by
              refine ZbQ (by rw [lt, lm]) (Xl n) fun z => ?_
              subst z
              exact n i _ e h1
            have sm : ∀ t v, RT K cm' m' H' t v → RT K (cm'.take m.length ++ [a]) (m'.take m.length ++ [some (false, ts)]) H' t v := fun t v r => r.same (fun _ _ z => z) fun b z _ => nl b z
            have cs : ∀ {j : Nat} {c : Bool × List T}, (m'.take m.length ++ [some (false, ts)])[j]? = some (some c) → ((m'.take m.length)[j]? = some (some c) ∧ j < m.length) ∨ (j = m.length ∧ c = (false, ts)) := fun {j c} ej => by
              by_cases hj : j < m.length
              · rw [List.getElem?_append_left (by rw [lm]; exact hj)] at ej
                exact .inl ⟨ej, hj⟩
              · by_cases hj2 : j = m.length
                · subst hj2
                  rw [List.getElem?_append_right (by rw [lm]; exact Nat.le_refl _), lm, Nat.sub_self] at ej
                  cases ej
                  exact .inr ⟨rfl, rfl⟩
                · rw [List.getElem?_eq_none (by rw [List.length_append, lm]; simp; omega)] at ej
                  cases ej
            have cl : ∀ {j : Nat}, j < m.length → (cm'.take m.length ++ [a])[j]? = (cm'.take m.length)[j]? := fun {j} hj => List.getElem?_append_left (by rw [lt]; exact hj)
            have cp : (cm'.take m.length ++ [a])[m.length]? = some a := by
              rw [List.getElem?_append_right (by rw [lt]; exact Nat.le_refl _), lt, Nat.sub_self]
              rfl
            refine OkR.to (cm' := cm'.take m.length ++ [a]) ho ⟨fun j b h => ?_, by rw [List.length_append, lm]; simp, fun j us h => ?_, fun b o h nb => ⟨(x.keep b o h nb).1, nl b (x.keep b o h nb).2⟩⟩ ⟨by rw [List.length_append, List.length_append, lt, lm]; rfl, fun j1 j2 b c1 c2 e1 e2 f1 f2 => ?_, fun j c ej => ?_⟩ v ⟨a, cp, h2⟩
            · have hj := (List.getElem?_eq_some_iff.mp h).1
              rw [M.len] at hj
              rw [cl hj]
              exact xt.pre j b h
            · have hj := (List.getElem?_eq_some_iff.mp h).1
              rw [List.getElem?_append_left (by rw [lm]; exact hj)]
              exact xt.lent j us h
            · rcases cs e1 with ⟨g1, l1⟩ | ⟨k1, _⟩
              · rw [cl l1] at f1
                rcases cs e2 with ⟨g2, l2⟩ | ⟨k2, _⟩
                · rw [cl l2] at f2
                  exact Mt.inj j1 j2 b _ _ g1 g2 f1 f2
                · rw [k2, cp] at f2; cases f2
                  exact absurd f1 (na j1 _ g1)
              · rw [k1, cp] at f1; cases f1
                rcases cs e2 with ⟨g2, l2⟩ | ⟨k2, _⟩
                · rw [cl l2] at f2
                  exact absurd f2 (na j2 _ g2)
                · rw [k1, k2]
            · rcases cs ej with ⟨g, l⟩ | ⟨kk, z⟩
              · obtain ⟨gg, _⟩ := JQ g
                obtain ⟨b, ws, w1, w2, w3, w4⟩ := M'.at' j c gg
                exact ⟨b, ws, by rw [cl l, Jg l]; exact w1, w2, w3, ZF (fun _ _ z => sm _ _ z) w4⟩
              · rw [kk, z]
                exact ⟨a, vs, cp, q2, q3, ZF (fun _ _ z => sm _ _ z) q4⟩
          · subst h2
            exact OkR.to (a := W.t (.lst ts)) ho xt Mt _ (RT.mlst q2 na (ZF (fun _ _ z => st _ _ z) q4))
        · exact ho.elim
theorem ZjN {N : List Str} {ws : List W} {vs : List V} {j : Nat} (r : RWs K cm m H ws vs) (hj : j = N.length - vs.length) : EnvR K cm m H (ws.map some ++ List.replicate j none) (L2.start N vs) := fun i w e => by
  unfold L2.start
  have hl := r.length
  by_cases hi : i < ws.length
  · rw [List.getElem?_append_left (by simpa using hi), List.getElem?_map] at e
    cases q : ws[i]? with
    | none => rw [q] at e; cases e
    | some w' =>
      rw [q] at e; cases e
      obtain ⟨v, h1, h2⟩ := Qf r q
      refine ⟨v, ?_, h2⟩
      rw [List.getElem?_append_left (by rw [List.length_map]; omega), List.getElem?_map, h1]
      rfl
  · rw [List.getElem?_append_right (by simpa using hi), List.getElem?_replicate] at e
    split at e <;> cases e
theorem Zgs {N : List Str} {vs : List V} (h : vs.length ≤ N.length) : (L2.start N vs).length = N.length := by
  unfold L2.start
  rw [List.length_append, List.length_map, List.length_replicate]
  omega
theorem fn_okW {P : Program} {w : World} {mg : Str → Option Value} {base : Heap} {x qual : Str} {st : Stmt} {f : Addr} {fd : FuncData} {N ps : List Str} {fi : Nat} {d : Fn} (F : Fun K x qual st f fd) (S : FnScope N ps (Zd st)) (hd : fns[fi]? = some d) (hps : d.ps = ps.length) (hn : d.n = N.length)
    (hbody : ∀ (cdv : Value) (A : Around) (outer : List PySem.Env) (s : Shared) (H : Hp) (E : XK), Room k (A.deeper (envOfC qual (Zd st) s.heap.objs.size f cdv)) →
      PSs (cxOf CX0 P w K mg base N qual (Zd st) f cdv A outer s H E).nox (Zj st) (tS K (Qi fns gv k) gv xr0 N.length d.body)) :
    FnOk P w K mg base CX0 (k + 1) f fd ps (spF K fns gv (k + 1) fi) := by
  have hpl : ps.length ≤ N.length := by have := congrArg List.length S.pre; rw [List.length_take] at this; omega
  have len : ∀ {ws : List W} {m : Mem} {cm : List Addr} {H : Hp} {post : W → List Addr → Mem → Hp → Prop}, OkR K (Qi fns gv (k + 1) fi ws m) xr0 cm m H post → ws.length = d.ps ∧ OkR K ((ex (Qi fns gv k) gv d.body (ws.map some ++ List.replicate (d.n - d.ps) none) m).bind fun fl m' => fin m.length d.cell fl m') xr0 cm m H post := fun {ws m cm H post} h => by
    rw [Qi, hd] at h
    dsimp only at h
    by_cases hc : ws.length = d.ps
    · rw [if_pos hc] at h; exact ⟨hc, h⟩
    · rw [if_neg hc] at h; exact h.elim
  refine F.ok S (fun vs H Q E ⟨cm, m, ws, M, r, ho⟩ => by rw [← r.length, (len ho).1, hps]) (fun cdv A outer s H vs Q E hr ⟨cm, m, ws, M, r, ho⟩ => ?_)
  obtain ⟨hl, ho⟩ := len ho
  have hv : vs.length = ps.length := by rw [← r.length, hl, hps]
  refine ⟨_, hbody cdv A outer s H E hr, Zgs (by omega), ws.map some ++ List.replicate (d.n - d.ps) none, cm, m, ZjN r (by rw [hn, hps, hv]), M, ?_⟩
  exact ho.bind0.mono fun fl cm1 m1 H1 x1 M1 o1 => fin_ok M x1 M1 o1
theorem ZR {P : Program} {w : World} {mg : Str → Option Value} {base : Heap} {f : Addr} {fd : FuncData} {ps : List Str} {fi : Nat} : FnOk P w K mg base CX0 0 f fd ps (spF K fns gv 0 fi) := by
  have no : ∀ vs H Q E, ¬ spF K fns gv 0 fi vs H Q E := fun vs H Q E ⟨cm, m, ws, M, r, ho⟩ => by
    rw [Qi] at ho
    exact ho
  exact ⟨fun vs H Q E h => absurd h (no vs H Q E), fun A outer s H args us vs Q E _ _ _ _ h => absurd h (no vs H Q E)⟩
end
end Mi
end
section
namespace Mi
open PySem PySem.Spec PyProof.Rows L2
section
variable {K : PySem.W.Frag} {xr : XR} {X : Cx} {call : Nat → List W → Mem → Res W} {gv : List T}
variable {e : Expr} {ea : E} {pos : Pos} {rest : List Stmt} {k : S} {n : Nat}
theorem vr (i : Nat) {x : Str} {pos : Pos} (hN : X.N[i]? = some x := by rfl) (hv : Vis X.env.scope x := by first | exact Or.inl rfl | exact Or.inr (Or.inl rfl) | exact Or.inr (Or.inr rfl)) (hd : (x == ("__debug__" : Str)) = false := by decide)
    (hcd : (x == ("__classdict__" : Str)) = false := by decide) : PE X (.Name x pos) (tE X.K call gv xr (.var i)) := Zj1 hN hv hd hcd
theorem sg (i : Nat) {x : Str} {px : Pos} (hN : X.N.Nodup) (h : PE X e (tE X.K call gv xr ea)) (hk : PSs X rest (tS X.K call gv xr n k)) (hn : X.N.length = n := by rfl) (hi : X.N[i]? = some x := by rfl) (hx : Loc X.env.scope x := by first | exact Or.inl rfl | exact Or.inr rfl)
    (hs : swapsWith e (some (.Name x px)) pos.line X.env = pure false := by rfl) (hf : X.fn x = true ∨ X.env.scope.names.lookup x = some .local := by first | exact .inl rfl | exact .inr rfl) : PSs X (.Assign [.Name x px] e pos :: rest) (tS X.K call gv xr n (.asg i ea k)) := Zil hN hn hi hx h hk hs hf
theorem Z3 (i : Nat) {x : Str} {pos : Pos} (hN : X.N.Nodup) (hi : X.N[i]? = some x := by rfl) (hx : Loc X.env.scope x := by first | exact Or.inl rfl | exact Or.inr rfl) (hf : X.fn x = true ∨ X.env.scope.names.lookup x = some .local := by first | exact .inl rfl | exact .inr rfl) : PG X (.Name x pos) (gT X.K (.nm i)) := ZaP hN hi hx hf
noncomputable def scOk (scope osc : Scope) : Bool := scope.kind == .function && scope.names.all fun p => p.2 != .cell && scope.names.lookup p.1 == some p.2 && (p.2 != .free || osc.names.lookup p.1 == some .cell || osc.names.lookup p.1 == some .free)
noncomputable def Zjs (N' N : List Str) (own : Nat) (keep : List Nat) (scope : Scope) : Bool := N'.length == own + keep.length && (List.range keep.length).all fun i => match N'[own + i]?, keep[i]? with
  | some x, some j => N[j]? == some x && scope.names.any fun p => p.1 == x && p.2 == .free
  | _, _ => false
theorem Z5 {N' : List Str} {scope : Scope} {own : Nat} {keep : List Nat} {elt target iter : Expr} {ifs : List Expr} {gs : List Comprehension} {it : E} {tg : Tg} {cs : Es} {inner : E} (h1 : scOk scope X.env.scope = true) (h2 : Zjs N' X.N own keep scope = true)
    (pi : PI X target iter (tI X.K call gv xr it)) (fs : ∀ x, foldedSetIterable iter X.env x = pure x) (ins : Zfh X xr call gv N' scope elt target ifs (⟨target, iter, ifs, 0⟩ :: gs) tg cs inner) (dis : ∀ i ∈ tgS tg, i ∉ innS inner) (slt : ∀ i ∈ tgS tg ++ innS inner, i < own) :
    CompK X xr call gv N' scope own keep elt target iter ifs gs it tg cs inner := by
  unfold scOk at h1
  rw [Bool.and_eq_true] at h1
  obtain ⟨hk, h1⟩ := h1
  have h1 := List.all_eq_true.mp h1
  unfold Zjs at h2
  rw [Bool.and_eq_true] at h2
  obtain ⟨hl, h2⟩ := h2
  have h2 := List.all_eq_true.mp h2
  refine ⟨⟨eq_of_beq hk, fun y hy => ?_, fun p hp => ?_, fun x hx => ?_⟩, eq_of_beq hl, fun i x e => ?_, pi, fs, ins, dis, slt⟩
  · have := h1 y hy
    simp only [Bool.and_eq_true] at this
    have h := this.1.1
    exact fun z => by rw [z] at h; cases h
  · have := h1 p hp
    simp only [Bool.and_eq_true] at this
    exact eq_of_beq this.1.2
  · have := h1 _ hx
    simp only [Bool.and_eq_true, Bool.or_eq_true] at this
    rcases this.2 with (h | h) | h
    · cases h
    · exact .inl (eq_of_beq h)
    · exact .inr (eq_of_beq h)
  · have hlen : N'.length = own + keep.length := eq_of_beq hl
    have hi : i < keep.length := by
      have := (List.getElem?_eq_some_iff.mp e).1
      omega
    have h := h2 i (List.mem_range.mpr hi)
    rw [e] at h
    cases q : keep[i]? with
    | none => rw [q] at h; cases h
    | some j =>
      rw [q] at h
      have h : (X.N[j]? == some x && scope.names.any fun p => p.1 == x && p.2 == .free) = true := h
      rw [Bool.and_eq_true] at h
      refine ⟨j, rfl, eq_of_beq h.1, ?_⟩
      obtain ⟨p, hp, hq⟩ := List.any_eq_true.mp h.2
      rw [Bool.and_eq_true] at hq
      rw [← eq_of_beq hq.1]
      have : p.2 = NameKind.free := eq_of_beq hq.2
      rw [← this]
      exact hp
theorem scr_of {H : Hp} {a : Addr} {ns : List Int} (hO : Only H) (hS : SqL K H a (ns.map V.int)) : Zd9 K H a ns := by
  rcases hS with (h | ⟨o, h⟩) | h
  · rcases hO a with q | ⟨o, xs, q⟩ <;> rw [h] at q <;> cases q
  · exact .inl ⟨o, h⟩
  · exact .inr h
theorem law_sp {fns : List Fn} {k fi : Nat} {H : Hp} {a : Addr} {ns : List Int} {E : XK} (hO : Only H) (hS : SqL K H a (ns.map V.int)) (h : ∃ m, Qi fns gv k fi [.t (.scr ns)] [] = .ok (.t (.bl true)) m) : spF K fns gv k fi [.ref a] H (fun v _ => v = .bl true) E := by
  obtain ⟨m, h⟩ := h
  refine ⟨[], [], [.t (.scr ns)], ⟨rfl, fun i j a p q e => by simp at e, fun i p e => by simp at e⟩, .cons (.scr ns (scr_of hO hS)) .nil, ?_⟩
  rw [h]
  intro cm' H' x M v rv
  cases RT.vbl rv
  rfl
inductive StrsV : List (List Nat) → List Value → Prop where
  | nil : StrsV [] []
  | cons {y : Str} {t : Tok} {cs : List Nat} {r : List (List Nat)} {us : List Value} : y.cps.toList = cs → StrsV r us → StrsV (cs :: r) (.str y t :: us)
end
end Mi
end
section
namespace Mi
open PySem PySem.Spec PyProof.Rows L2
section
variable {K : PySem.W.Frag} {cm : List Addr} {m : Mem} {H : Hp} {xr : XR} {X : Cx} {call : Nat → List W → Mem → Res W} {gv : List T}
variable {a b c e : Expr} {es : List Expr} {ea eb ec : E} {eas : Es} {pos p p2 : Pos} {rest : List Stmt} {k : S} {n : Nat}
theorem blt2 {b : B} {ws : List W} {vs : List V} {k : W → List Addr → Mem → Hp → Prop} (r : RWs K cm m H ws vs) (h1 : ∀ ts t, bltT b ts = some t → ∃ i j, ts = [.int i, .int j]) (h : OkR K (fBlt b ws m) xr cm m H k) :
    ∃ i j r, vs = [.int i, .int j] ∧ bltT b [.int i, .int j] = some r ∧ OkR K (.ok (.t r) m) xr cm m H k := by
  obtain ⟨t, e, ho⟩ := JM h
  cases q : views ws m with
  | none => rw [q] at e; cases e
  | some ts =>
    rw [q] at e
    have e : bltT b ts = some t := e
    obtain ⟨i, j, rfl⟩ := h1 ts t e
    match ws, vs, r with
    | [], _, _ => cases q
    | [w], _, _ =>
      unfold views at q
      cases q1 : view w m with
      | none => rw [q1] at q; cases q
      | some t1 => rw [q1] at q; cases q
    | [w1, w2], _, .cons r1 (.cons r2 .nil) =>
      unfold views at q
      cases q1 : view w1 m with
      | none => rw [q1] at q; cases q
      | some t1 =>
        rw [q1] at q
        unfold views at q
        cases q2 : view w2 m with
        | none => rw [q2] at q; cases q
        | some t2 =>
          rw [q2] at q
          cases q
          cases (Zm r1 q1 (fun _ z => by cases z)).vint
          cases (Zm r2 q2 (fun _ z => by cases z)).vint
          exact ⟨i, j, t, rfl, e, ho⟩
    | w1 :: w2 :: w3 :: ws, _, _ =>
      unfold views at q
      cases q1 : view w1 m with
      | none => rw [q1] at q; cases q
      | some t1 =>
        rw [q1] at q
        unfold views at q
        cases q2 : view w2 m with
        | none => rw [q2] at q; cases q
        | some t2 =>
          rw [q2] at q
          unfold views at q
          cases q3 : view w3 m with
          | none => rw [q3] at q; cases q
          | some t3 =>
            rw [q3] at q
            cases q4 : views ws m with
            | none => rw [q4] at q; cases q
            | some t4 => rw [q4] at q; cases q
theorem Zh5 {b : B} (hb : b = .min2 ∨ b = .max2) : ∀ ts t, bltT b ts = some t → ∃ i j, ts = [.int i, .int j] := by
  intro ts t h
  rcases hb with rfl | rfl <;> exact (Zgl h).imp fun i hi => hi.imp fun j hj => hj.1
theorem ZhP (hc : X.calm = true) : Xg X (.builtin "min") (rN X.K xr (fBlt .min2)) := by
  rintro pins s σ H xs us Q I r ⟨cm, m, ws, M, rws, ho⟩
  obtain ⟨i, j, rr, rfl, eb, ho⟩ := blt2 rws (Zh5 (.inl rfl)) ho
  cases eb
  exact ZhQ hc pins s σ H _ us Q I r ⟨i, j, rfl, ans ho M (.int _)⟩
theorem RTs.ints : ∀ {ts : List T} {vs : List V} {bs : List Int}, RTs K cm m H ts vs → ints? ts = some bs → vs = bs.map V.int
  | [], _, _, .nil, e => by cases e; rfl
  | t :: ts, _, bs, .cons r rs, e => by
    cases t with
    | int c =>
      unfold ints? at e
      cases q : ints? ts with
      | none => rw [q] at e; cases e
      | some cs =>
        rw [q] at e; cases e
        cases RT.vint r
        rw [RTs.ints rs q]
        rfl
    | _ => cases e
theorem ZfU : MtR X "list.append" (rM X.K xr .append) := by
  rintro pins s σ H x xs v us Q I rx rs ⟨cm, m, w, ws, M, rw', rws, ho⟩
  cases w with
  | t t => exact ho.elim
  | f a => exact ho.elim
  | c i =>
    have ho : OkR X.K ((frzs ws m).bind fun ts m => match m[i]? with
      | some (some (false, xs)) => match mutM .append xs ts with
        | some (t, ys) => .ok (W.t t) (m.set i (some (false, ys)))
        | none => .stuck
      | _ => .stuck) xr cm m H _ := ho
    obtain ⟨ts, m2, e2, o2⟩ := Zbv ho
    obtain ⟨x2, M2, r2⟩ := ZbW M rws e2
    obtain ⟨a, ha, rfl⟩ := rw'
    split at o2
    · rename_i ys e3
      split at o2
      · rename_i t zs e4
        obtain ⟨b, vs, q1, q2, q3, q4⟩ := M2.at' i _ e3
        rw [ha] at q1; cases q1
        have l4 := q4.length
        dsimp only at l4
        have hz := Qo
        match ts, r2, e4 with
        | [t1], .cons r3 .nil, e4 =>
          unfold mutM at e4
          dsimp only at e4
          split at e4 <;> cases e4
          rename_i hlt
          obtain ⟨x5, M5⟩ := ZcD M2 e3 ha (QL q4 (.cons r3 .nil))
          exact Zhe pins s σ H _ _ v us Q I rx rs ⟨a, vs, _, rfl, rfl, q2, by omega, OkR.to o2 (x2.trans x5) M5 _ .non⟩
        | [], _, e4 => cases e4
        | _ :: _ :: _, _, e4 => cases e4
      · exact o2.elim
    · exact o2.elim
theorem ZfD {o : Expr} {apos cpos : Pos} (ho : PE X o (tE X.K call gv xr ea)) (ha : PA X [e] (tA X.K call gv xr eas))
    (hbase : attributeBase o "append" X.env (eval o X.env) = eval o X.env := by rfl)
    (hline : (apos.endLine == cpos.line) = true := by rfl) (hs : notStar e = true := by rfl) :
    PE X (.Call (.Attribute o "append" apos) [e] [] cpos) (tE X.K call gv xr (.mth .append ea eas)) := by
  refine PE.mono (pe_bm PySem.F.plainAttrs_list PySem.F.slot_list_append PySem.F.type_list_append (ZfU (xr := xr)) ho ha hbase (few1 hs) hline (JF hs) (Zdt rfl)) ?_
  rintro σ H Q ⟨env, cm, m, hE, M, hq⟩
  rw [ev] at hq
  refine ⟨env, cm, m, hE, M, hq.bind.mono fun w cm1 m1 H1 x1 M1 o1 v rv => ?_⟩
  obtain ⟨ht, o1⟩ := Ze5 o1
  refine ⟨?_, env, cm1, m1, hE.ext x1 M M1, M1, o1.bind.mono fun ws cm2 m2 H2 x2 M2 o2 vs rvs => ?_⟩
  · cases w with
    | t t => cases ht
    | f a => cases ht
    | c i =>
      obtain ⟨a, h1, rfl⟩ := rv
      have ht : (match m1[i]? with
        | some (some _) => true
        | _ => false) = true := ht
      split at ht
      · rename_i c e1
        obtain ⟨b, vs, q1, q2, _⟩ := M1.at' i _ e1
        rw [h1] at q1; cases q1
        exact .inl ⟨rfl, vs, .of q2⟩
      · cases ht
  · exact ⟨cm2, m2, w, ws, M2, rv.ext x2 M1 M2, rvs, o2⟩
theorem Je (i j : Nat) {x y : Str} {px py : Pos} {kk : Nat} (hc : X.calm = true) (hN : X.N.Nodup) (hi : X.N[i]? = some x := by rfl) (hj : X.N[j]? = some y := by rfl) (hx : Loc X.env.scope x := by first | exact Or.inl rfl | exact Or.inr rfl) (hy : Loc X.env.scope y := by first | exact Or.inl rfl | exact Or.inr rfl)
    (hf : X.fn x = true ∨ X.env.scope.names.lookup x = some .local := by first | exact .inl rfl | exact .inr rfl) (hg : X.fn y = true ∨ X.env.scope.names.lookup y = some .local := by first | exact .inl rfl | exact .inr rfl)
    (hs : (assignEach [.Name x px, .Name y py] X.env).map (·.2) = assign (.Name x px) X.env :: (assignEach [.Name y py] X.env).map (·.2) := by rfl) (hs2 : (assignEach [.Name y py] X.env).map (·.2) = assign (.Name y py) X.env :: (assignEach [] X.env).map (·.2) := by rfl)
    (hn : (assignEach [.Name x px, .Name y py] X.env).length = 2 := by rfl) (hst : (assignEach [.Name x px, .Name y py] X.env).findIdx? (·.1) = none := by rfl) : PG X (.Tuple [.Name x px, .Name y py] kk pos) (gT X.K (.tp [i, j])) := by
  rintro pins s σ H v u Q I r ⟨a, xs, e1, h1, h2, h3⟩
  refine Zjm hc (Zar (ZaP hN hi hx hf) (Zar (ZaP hN hj hy hg) ZgQ hs2) hs) hn hst pins s σ H v u Q I r ⟨a, xs, e1, h1, h2, ?_⟩
  match xs, h2 with
  | [v1, v2], _ => exact ⟨v1, [v2], rfl, v2, [], rfl, rfl, h3⟩
theorem ZeV {tg : Expr} {is : List Nat} (hN : ∀ i ∈ is, i < n) (h : PE X e (tE X.K call gv xr ea)) (hg : PG X tg (gT X.K (.tp is))) (hk : PSs X rest (tS X.K call gv xr n k))
    (hs : swapsWithSole [tg] e pos.line X.env = pure false := by rfl) (hw : swappedStores [tg] e X.env = pure none := by rfl) (h1 : (assignEach [tg] X.env).map (·.2) = [assign tg X.env] := by rfl) : PSs X (.Assign [tg] e pos :: rest) (tS X.K call gv xr n (.asgT is ea k)) := by
  refine PSs.mono (JH (Zjl h hg hs hw h1) hk) ?_
  rintro D σ H ⟨hl, env, cm, m, hE, M, ho⟩
  rw [ex] at ho
  refine ⟨env, cm, m, hE, M, ho.bind.mono fun w cm1 m1 H1 x1 M1 o1 v rv => ?_⟩
  cases w with
  | f a => exact o1.elim
  | c i => exact o1.elim
  | t t =>
    have o1 : OkR X.K (match Jl (.tp is) t env with
      | some env => ex call gv k env m1
      | none => .stuck) xr cm1 m1 H1 _ := o1
    split at o1
    · rename_i env' eb
      have := Zjv (Zkw (Q := fun σ' H' => H' = H1 ∧ EnvR X.K cm1 m1 H1 env' σ') (hE.ext x1 M M1) (fun j hj => by rw [hl]; exact hN j hj) rv eb fun σ' hE' _ => ⟨rfl, hE'⟩)
      obtain ⟨a1, xs, z1, z2, z3, z4, z5, z6⟩ := this
      exact ⟨a1, xs, z1, z2, z3, z4.trans hl, env', cm1, m1, z6, M1, o1⟩
    · exact o1.elim
end
end Mi
namespace Mi
open PySem PySem.Spec PyProof.Rows L2
section
variable {xr : XR} {X : Cx} {call : Nat → List W → Mem → Res W} {gv : List T}
variable {e : Expr} {es : List Expr} {eas : Es} {pos p : Pos}
theorem QT (hg : Gl X "len") (hm : X.mg "len" = none) (ha : PA X (e :: es) (tA X.K call gv xr eas)) (he : notStar e = true) (hpl : es.all notStar = true) : PE X (.Call (.Name "len" p) (e :: es) [] pos) (tE X.K call gv xr (.blt .len eas)) := ZbK ZhR (by decide +kernel) hg hm ha (by decide) (by decide) he hpl
theorem Zbt (hg : Gl X "int") (hm : X.mg "int" = none) (ha : PA X (e :: es) (tA X.K call gv xr eas)) (he : notStar e = true) (hpl : es.all notStar = true) : PE X (.Call (.Name "int" p) (e :: es) [] pos) (tE X.K call gv xr (.blt .int eas)) := Zek ZhS (by decide +kernel) hg hm ha (by decide) (by decide) he hpl
theorem JP (hg : Gl X "tuple") (hm : X.mg "tuple" = none) (ha : PA X (e :: es) (tA X.K call gv xr eas)) (he : notStar e = true) (hpl : es.all notStar = true) (hc : X.calm = true := by rfl) : PE X (.Call (.Name "tuple" p) (e :: es) [] pos) (tE X.K call gv xr (.blt .tuple eas)) := Zek (ZeF hc) (by decide +kernel) hg hm ha (by decide) (by decide) he hpl
theorem ZgS (hg : Gl X "list") (hm : X.mg "list" = none) (ha : PA X (e :: es) (tA X.K call gv xr eas)) (he : notStar e = true) (hpl : es.all notStar = true) : PE X (.Call (.Name "list" p) (e :: es) [] pos) (tE X.K call gv xr (.blt .list eas)) := Zek Zgc (by decide +kernel) hg hm ha (by decide) (by decide) he hpl
theorem ZcY (hg : Gl X "all") (hm : X.mg "all" = none) (ha : PA X (e :: es) (tA X.K call gv xr eas)) (he : notStar e = true) (hpl : es.all notStar = true) (hc : X.calm = true := by rfl) : PE X (.Call (.Name "all" p) (e :: es) [] pos) (tE X.K call gv xr (.blt .all eas)) := ZbK (ZhU hc) (by decide +kernel) hg hm ha (by decide) (by decide) he hpl
theorem ZiA (hg : Gl X "any") (hm : X.mg "any" = none) (ha : PA X (e :: es) (tA X.K call gv xr eas)) (he : notStar e = true) (hpl : es.all notStar = true) (hc : X.calm = true := by rfl) : PE X (.Call (.Name "any" p) (e :: es) [] pos) (tE X.K call gv xr (.blt .any eas)) := ZbK (ZhT hc) (by decide +kernel) hg hm ha (by decide) (by decide) he hpl
theorem ZcX (hg : Gl X "min") (hm : X.mg "min" = none) (ha : PA X (e :: es) (tA X.K call gv xr eas)) (he : notStar e = true) (hpl : es.all notStar = true) (hc : X.calm = true := by rfl) : PE X (.Call (.Name "min" p) (e :: es) [] pos) (tE X.K call gv xr (.blt .min2 eas)) := ZbK (ZhP hc) (by decide +kernel) hg hm ha (by decide) (by decide) he hpl
end
end Mi
namespace Mi
open PySem PySem.Spec PyProof.Rows L2
structure Bd (X : Cx) (st : List Stmt) (t : TS) : Prop where
  h : PSs X st t
theorem Z9 {K : PySem.W.Frag} {fns : List Fn} {gv : List T} {k : Nat} {P : Program} {w : World} {mg : Str → Option Value} {base : Heap} {x qual : Str} {st : Stmt} {f : Addr} {fd : FuncData} {N ps : List Str} {fi np n : Nat} {body : S} {cell : Bool} (F : Fun K x qual st f fd) (S : FnScope N ps (Zd st)) (hd : fns[fi]? = some ⟨np, n, body, cell⟩) (hps : np = ps.length) (hn : N.length = n)
    (hbody : ∀ (cdv : Value) (A : Around) (outer : List PySem.Env) (s : Shared) (H : Hp) (E : XK), Room k (A.deeper (envOfC qual (Zd st) s.heap.objs.size f cdv)) →
      Bd (cxOf CX0 P w K mg base N qual (Zd st) f cdv A outer s H E).nox (Zj st) (tS K (Qi fns gv k) gv xr0 n body)) :
    FnOk P w K mg base CX0 (k + 1) f fd ps (spF K fns gv (k + 1) fi) := by
  subst hn
  exact fn_okW F S hd hps rfl fun cdv A outer s H E hr => (hbody cdv A outer s H E hr).h
end Mi
end
section
namespace Mi
open PySem PySem.Spec PyProof.Rows L2
section
variable {K : PySem.W.Frag} {cm : List Addr} {m : Mem} {H : Hp} {xr : XR} {X : Cx} {call : Nat → List W → Mem → Res W} {gv : List T}
variable {a b c e : Expr} {es : List Expr} {ea eb ec : E} {eas : Es} {pos p p2 : Pos} {rest : List Stmt} {k : S} {n : Nat}
theorem Zix (i0 : Nat) (i1 : Nat) (i2 : Nat) {x0 x1 x2 : Str} {p0 p1 p2 : Pos} {kk : Nat} (hc : X.calm = true) (hN : X.N.Nodup) (hi0 : X.N[i0]? = some x0 := by rfl) (hi1 : X.N[i1]? = some x1 := by rfl) (hi2 : X.N[i2]? = some x2 := by rfl) (hx0 : Loc X.env.scope x0 := by first | exact Or.inl rfl | exact Or.inr rfl) (hx1 : Loc X.env.scope x1 := by first | exact Or.inl rfl | exact Or.inr rfl) (hx2 : Loc X.env.scope x2 := by first | exact Or.inl rfl | exact Or.inr rfl) (hf0 : X.fn x0 = true ∨ X.env.scope.names.lookup x0 = some .local := by first | exact .inl rfl | exact .inr rfl) (hf1 : X.fn x1 = true ∨ X.env.scope.names.lookup x1 = some .local := by first | exact .inl rfl | exact .inr rfl) (hf2 : X.fn x2 = true ∨ X.env.scope.names.lookup x2 = some .local := by first | exact .inl rfl | exact .inr rfl)
    (hs0 : (assignEach [.Name x0 p0, .Name x1 p1, .Name x2 p2] X.env).map (·.2) = assign (.Name x0 p0) X.env :: (assignEach [.Name x1 p1, .Name x2 p2] X.env).map (·.2) := by rfl)
    (hs1 : (assignEach [.Name x1 p1, .Name x2 p2] X.env).map (·.2) = assign (.Name x1 p1) X.env :: (assignEach [.Name x2 p2] X.env).map (·.2) := by rfl)
    (hs2 : (assignEach [.Name x2 p2] X.env).map (·.2) = assign (.Name x2 p2) X.env :: (assignEach [] X.env).map (·.2) := by rfl)
    (hn : (assignEach [.Name x0 p0, .Name x1 p1, .Name x2 p2] X.env).length = 3 := by rfl) (hst : (assignEach [.Name x0 p0, .Name x1 p1, .Name x2 p2] X.env).findIdx? (·.1) = none := by rfl) : PG X (.Tuple [.Name x0 p0, .Name x1 p1, .Name x2 p2] kk pos) (gT X.K (.tp [i0, i1, i2])) := by
  rintro pins s σ H v u Q I r ⟨a, xs, e1, h1, h2, h3⟩
  refine Zjm hc (Zar (ZaP hN hi0 hx0 hf0) (Zar (ZaP hN hi1 hx1 hf1) (Zar (ZaP hN hi2 hx2 hf2) ZgQ hs2) hs1) hs0) hn hst pins s σ H v u Q I r ⟨a, xs, e1, h1, h2, ?_⟩
  match xs, h2 with
  | [v0, v1, v2], _ => exact ⟨v0, [v1, v2], rfl, v1, [v2], rfl, v2, [], rfl, rfl, h3⟩
end
end Mi
end
section
namespace Mi
theorem Js {f : Env → Mem → Res (List T)} {tg : Tg} {env : Env} {m : Mem} {g : T → List T} : ∀ (ts : List T), (∀ t ∈ ts, ∃ env', Jl tg t env = some env' ∧ f env' m = .ok (g t) m) → Q8 f tg ts env m = .ok (ts.flatMap g) m
  | [], _ => rfl
  | t :: ts, h => by
    obtain ⟨env', e1, e2⟩ := h t List.mem_cons_self
    rw [Q8, e1]
    show (f env' m).bind _ = _
    rw [e2]
    show (Q8 f tg ts env m).bind _ = _
    rw [Js ts fun t ht => h t (List.mem_cons_of_mem _ ht)]
    rfl
inductive Turns {α β : Type} (R : α → β → Prop) : List α → List β → Prop where
  | nil : Turns R [] []
  | cons {a : α} {b : β} {as : List α} {bs : List β} : R a b → Turns R as bs → Turns R (a :: as) (b :: bs)
theorem Zav {f : Env → Mem → Res (List T)} {tg : Tg} {env : Env} {P : Mem → Prop} {R : T → List T → Prop} : ∀ (ts : List T) (m : Mem), P m → (∀ t ∈ ts, ∀ m, P m → ∃ env' xs m', Jl tg t env = some env' ∧ f env' m = .ok xs m' ∧ P m' ∧ R t xs) →
    ∃ xss m', Q8 f tg ts env m = .ok xss.flatten m' ∧ P m' ∧ Turns R ts xss
  | [], m, hm, _ => ⟨[], m, rfl, hm, .nil⟩
  | t :: ts, m, hm, h => by
    obtain ⟨env', xs, m1, e1, e2, p1, r1⟩ := h t List.mem_cons_self m hm
    obtain ⟨xss, m2, e3, p2, r2⟩ := Zav ts m1 p1 fun t ht => h t (List.mem_cons_of_mem _ ht)
    refine ⟨xs :: xss, m2, ?_, p2, .cons r1 r2⟩
    rw [Q8, e1]
    show (f env' m).bind _ = _
    rw [e2]
    show (Q8 f tg ts env m1).bind _ = _
    rw [e3]
    rfl
theorem Zcp {f : Env → Mem → Res Flow} {tg : Tg} {P : Env → Mem → Prop} : ∀ (ts : List T) (env : Env) (m : Mem), P env m → (∀ t ∈ ts, ∀ env m, P env m → ∃ env1 env2 m2, Jl tg t env = some env1 ∧ f env1 m = .ok (.next env2) m2 ∧ P env2 m2) →
    ∃ env' m', Qk f tg ts env m = .ok (.next env') m' ∧ P env' m'
  | [], env, m, hm, _ => ⟨env, m, rfl, hm⟩
  | t :: ts, env, m, hm, h => by
    obtain ⟨env1, env2, m2, e1, e2, p2⟩ := h t List.mem_cons_self env m hm
    obtain ⟨env3, m3, e3, p3⟩ := Zcp ts env2 m2 p2 fun t ht => h t (List.mem_cons_of_mem _ ht)
    refine ⟨env3, m3, ?_, p3⟩
    rw [Qk, e1]
    show (f env1 m).bind _ = _
    rw [e2]
    exact e3
theorem Jc {α : Type} {xs : List α} {i : Int} (h0 : 0 ≤ i) (h1 : i < xs.length) : ∃ x, atT xs i = some x ∧ x ∈ xs := by
  have hi : i.toNat < xs.length := by omega
  refine ⟨xs[i.toNat], ?_, List.getElem_mem hi⟩
  unfold atT ixOf
  rw [if_pos h0, if_pos h1]
  exact List.getElem?_eq_getElem hi
theorem Xr {α : Type} (f : α → Bool) : ∀ xs : List α, bools? (xs.map fun x => .bl (f x)) = some (xs.map f)
  | [] => rfl
  | x :: xs => by
    rw [List.map_cons, bools?, Xr f xs]
    rfl
theorem strs_map {α : Type} (f : α → List Nat) : ∀ xs : List α, strs? (xs.map fun x => .str (f x)) = some (xs.map f)
  | [] => rfl
  | x :: xs => by
    rw [List.map_cons, strs?, strs_map f xs]
    rfl
section
variable {call : Nat → List W → Mem → Res W} {gv : List T}
noncomputable def QW (call : Nat → List W → Mem → Res W) (gv : List T) (cs : Es) (inner : E) (env : Env) (m : Mem) : Res (List T) := (tests call gv cs env m).bind fun k m => if k then (ev call gv inner env m).bind Zd8 else .ok [] m
theorem QB {own : Nat} {keep : List Nat} {it : E} {tg : Tg} {cs : Es} {inner : E} {env : Env} {m m0 m1 m2 : Mem} {x : W} {ts out : List T} (h1 : ev call gv it env m = .ok x m0) (h2 : QD x m0 = .ok ts m1)
    (h3 : Q8 (QW call gv cs inner) tg ts (List.replicate own none ++ keep.map fun i => (env[i]?).join) m1 = .ok out m2) (hz : out.length ≤ lim) : ev call gv (.comp own keep it tg cs inner) env m = .ok (.t (.lst out)) (giveBack x m0 m2) := by
  have e : ev call gv (.comp own keep it tg cs inner) env m = (ev call gv it env m).only.bind fun x m0 => (QD x m0).bind fun ts m =>
      (Q8 (QW call gv cs inner) tg ts (List.replicate own none ++ keep.map fun i => (env[i]?).join) m).only.bind fun out m =>
        if out.length ≤ lim then .ok (.t (.lst out)) (giveBack x m0 m) else .stuck := by rw [ev]; rfl
  rw [e, h1]
  show (QD x m0).bind _ = _
  rw [h2]
  show (Q8 (QW call gv cs inner) tg ts (List.replicate own none ++ keep.map fun i => (env[i]?).join) m1).only.bind _ = _
  rw [h3]
  exact if_pos hz
theorem XD {tg : Tg} {it : E} {body k : S} {env env' : Env} {m m0 m1 m2 : Mem} {x : W} {ts : List T} (h1 : ev call gv it env m = .ok x m0) (h2 : QD x m0 = .ok ts m1) (h3 : Qk (ex call gv body) tg ts env m1 = .ok (.next env') m2) :
    ex call gv (.forr tg it body k) env m = ex call gv k env' (giveBack x m0 m2) := by
  rw [ex, h1]
  show (QD x m0).bind _ = _
  rw [h2]
  show (Qk (ex call gv body) tg ts env m1).bind _ = _
  rw [h3]
  rfl
end
section
variable {call : Nat → List W → Mem → Res W} {gv : List T} {env : Env} {m m1 m2 : Mem} {k a b : S} {e : E} {w : W}
theorem Zw {α β : Type} (x : α) (m : Mem) (f : α → Mem → Res β) : (Res.ok x m).bind f = f x m := rfl
theorem only_k {α : Type} (x : α) (m : Mem) : (Res.ok x m).only = .ok x m := rfl
theorem view_k (x : T) (m : Mem) : view (.t x) m = some x := rfl
theorem pur_k (x : T) (m : Mem) : pur (some x) m = .ok (.t x) m := rfl
theorem ZkO (x : Bool) (m : Mem) : Zd3 (.t (.bl x)) m = .ok x m := rfl
theorem ZcN (x : Bool) (m : Mem) : JD (.t (.bl x)) m = .ok x m := rfl
theorem frz_k (x : T) (m : Mem) : frz (.t x) m = .ok x m := rfl
theorem ZkS (x : List T) (m : Mem) : Zd8 (.t (.lst x)) m = .ok x m := rfl
theorem intP_k (x : Int) (m : Mem) : intP (.t (.int x)) m = .ok (some x) m := rfl
theorem c_lt (i j : Int) : cmpT .Lt (.int i) (.int j) = some (decide (i < j)) := rfl
theorem c_le (i j : Int) : cmpT .LtE (.int i) (.int j) = some (decide (i ≤ j)) := rfl
theorem c_gt (i j : Int) : cmpT .Gt (.int i) (.int j) = some (decide (j < i)) := rfl
theorem c_ge (i j : Int) : cmpT .GtE (.int i) (.int j) = some (decide (j ≤ i)) := rfl
theorem ZkN (i j : Int) : cmpT .Eq (.int i) (.int j) = some (i == j) := rfl
theorem Zjd (i j : Int) : cmpT .NotEq (.int i) (.int j) = some (!(i == j)) := rfl
theorem ZhV (i j : Bool) : cmpT .Eq (.bl i) (.bl j) = some (i == j) := rfl
theorem c_neB (i j : Bool) : cmpT .NotEq (.bl i) (.bl j) = some (!(i == j)) := rfl
theorem Zbr (i j : List Nat) : cmpT .Eq (.str i) (.str j) = some (i == j) := rfl
theorem ZkM (i j : List Nat) : cmpT .NotEq (.str i) (.str j) = some (!(i == j)) := rfl
theorem c_in1 (i : Nat) (j : List Nat) : cmpT .In (.str [i]) (.str j) = some (decide (i ∈ j)) := rfl
theorem c_isT (b x : Bool) : cmpT .Is (.bl x) (.bl b) = some (x == b) := rfl
theorem ZeJ (i j : Int) : binT .Add (.int i) (.int j) = some (.int (i + j)) := rfl
theorem b_sub (i j : Int) : binT .Sub (.int i) (.int j) = some (.int (i - j)) := rfl
theorem ZjD {a b : List T} (h : a.length + b.length ≤ lim) : binT .Add (.lst a) (.lst b) = some (.lst (a ++ b)) := if_pos h
theorem Zgd {i j : Int} (h : ZaT i j = true) : binT .Mult (.int i) (.int j) = some (.int (i * j)) := if_pos h
theorem Zje {i j : Int} (h : 0 < j ∧ j < 1073741824) : binT .FloorDiv (.int i) (.int j) = some (.int (i / j)) := if_pos h
theorem ZeH {i j : Int} (h : 0 < j) : binT .Mod (.int i) (.int j) = some (.int (i % j)) := if_pos h
theorem ZkQ {i j : Int} (h : 0 ≤ j ∧ j ≤ 1000 ∧ i.natAbs < 2 ^ 64) : binT .Pow (.int i) (.int j) = some (.int (i ^ j.toNat)) := if_pos h
theorem x_tup (ts : List T) (i : Int) : ixT (.tup ts) (.int i) = atT ts i := rfl
theorem x_lst (ts : List T) (i : Int) : ixT (.lst ts) (.int i) = atT ts i := rfl
theorem x_scr (ts : List Int) (i : Int) : ixT (.scr ts) (.int i) = (atT ts i).map .int := rfl
theorem s_lst (ts : List T) (lo hi : Option Int) : slT (.lst ts) lo hi = some (.lst (cut ts lo hi)) := rfl
theorem s_scr (ts : List Int) (lo hi : Option Int) : slT (.scr ts) lo hi = some (.lst ((cut ts lo hi).map .int)) := rfl
theorem l_lst (ts : List T) : bltT .len [.lst ts] = some (.int ts.length) := rfl
theorem Zhj (ts : List T) : bltT .len [.tup ts] = some (.int ts.length) := rfl
theorem l_scr (ts : List Int) : bltT .len [.scr ts] = some (.int ts.length) := rfl
theorem l_int (b : Bool) : bltT .int [.bl b] = some (.int (b2i b)) := rfl
theorem ZdO (ts : List T) : bltT .tuple [.lst ts] = some (.tup ts) := rfl
theorem Zkr {ts : List T} {bs : List Bool} (h : bools? ts = some bs) : bltT .all [.lst ts] = some (.bl (bs.all id)) := by
  show (bools? ts).map _ = _
  rw [h]; rfl
theorem l_any {ts : List T} {bs : List Bool} (h : bools? ts = some bs) : bltT .any [.lst ts] = some (.bl (bs.any id)) := by
  show (bools? ts).map _ = _
  rw [h]; rfl
theorem Zeu {i : Int} (h : i < 2 ^ 62 ∧ -(2 ^ 62) ≤ i) : bltT .range1 [.int i] = some (.lst (rangeT 0 i.toNat)) := if_pos h
theorem ZjI : views [] m = some [] := rfl
theorem ZjJ (x : T) (ws : List W) : views (.t x :: ws) m = (views ws m).map (x :: ·) := rfl
theorem Zcv : frzs [] m = .ok [] m := rfl
theorem Zcw (x : T) (ws : List W) : frzs (.t x :: ws) m = (frzs ws m).bind fun ts m => .ok (x :: ts) m := rfl
theorem Zx {i : Nat} (h : ev call gv e env m = .ok w m1) : ex call gv (.asg i e k) env m = ex call gv k (env.set i (some w)) m1 := by rw [ex, h]; rfl
theorem Zo (h : ev call gv e env m = .ok w m1) : ex call gv (.ret e k) env m = .ok (.ret w) m1 := by rw [ex, h]; rfl
theorem Qj (h : ev call gv e env m = .ok (.t (.bl true)) m1) (h2 : ex call gv a env m1 = .ok (.ret w) m2) : ex call gv (.ife e a b k) env m = .ok (.ret w) m2 := by
  rw [ex, h]
  show (ex call gv a env m1).bind _ = _
  rw [h2]; rfl
theorem Z2 (h : ev call gv e env m = .ok (.t (.bl false)) m1) : ex call gv (.ife e a .done k) env m = ex call gv k env m1 := by rw [ex, h]; rfl
theorem Zhx {c : Nat} {o i v : E} {x : T} {j : Int} {xs : List T} {q : Nat} (h1 : ev call gv v env m = .ok (.t x) m1) (h2 : ev call gv o env m1 = .ok (.c c) m1) (h3 : ev call gv i env m1 = .ok (.t (.int j)) m1) (h4 : m1[c]? = some (some (false, xs))) (h5 : ixOf xs.length j = some q) :
    ex call gv (.set o i v k) env m = ex call gv k env (m1.set c (some (false, xs.set q x))) := by
  rw [ex, h1]
  show ((ev call gv o env m1).bind _) = _
  rw [h2]
  show ((ev call gv i env m1).bind _) = _
  rw [h3]
  show (setM (.c c) (.t (.int j)) (.t x) m1).bind _ = _
  have : setM (.c c) (.t (.int j)) (.t x) m1 = .ok () (m1.set c (some (false, xs.set q x))) := by
    unfold setM
    dsimp only [frz, Res.bind]
    rw [h4]
    dsimp only
    rw [h5]
  rw [this]; rfl
theorem ZS {n : Nat} {cell : Bool} {t : T} (h : m1.length = n) : fin n cell (.ret (.t t)) m1 = .ok (.t t) m1 := by
  show Res.ok (W.t t) (m1.take n) = _
  rw [← h, List.take_length]
theorem Qv {c : Prop} [Decidable c] {b : S} {env : Env} {m m1 m2 : Mem} {k : Nat} {cell : Bool} {X : Res W} {w w' : W} (hX : X = if c then (ex call gv b env m).bind fun fl m' => fin k cell fl m' else .stuck) (hc : c) (key : ex call gv b env m = .ok (.ret w) m1) (hf : fin k cell (.ret w) m1 = .ok w' m2) : X = .ok w' m2 := by
  rw [hX, if_pos hc, key]
  exact hf
end
noncomputable def EVs := And.intro @Zw (And.intro @only_k (And.intro @view_k (And.intro @pur_k (And.intro @ZkO (And.intro @ZcN (And.intro @frz_k (And.intro @ZkS (And.intro @intP_k (And.intro @c_lt (And.intro @c_le (And.intro @c_gt (And.intro @c_ge (And.intro @ZkN (And.intro @Zjd (And.intro @ZhV (And.intro @c_neB (And.intro @Zbr (And.intro @ZkM (And.intro @c_in1 (And.intro @c_isT (And.intro @ZeJ (And.intro @b_sub (And.intro @x_tup (And.intro @x_lst (And.intro @x_scr (And.intro @s_lst (And.intro @s_scr (And.intro @l_lst (And.intro @Zhj (And.intro @l_scr (And.intro @l_int (And.intro @ZdO (And.intro @ZjI (And.intro @ZjJ (And.intro @Zcv (@Zcw))))))))))))))))))))))))))))))))))))
end Mi
end
section
namespace Mi
open PySem PySem.Spec PyProof.Rows L2
theorem Ze0 : ∀ {a b : List Nat}, nlt a b = false → nlt b a = false → a = b
  | [], [], _, _ => rfl
  | [], _ :: _, h, _ => by simp [nlt] at h
  | _ :: _, [], _, h => by simp [nlt] at h
  | a :: x, b :: y, h1, h2 => by
    unfold nlt at h1 h2
    by_cases h : a < b
    · simp [h] at h1
    · by_cases h' : b < a
      · simp [h'] at h2
      · have e : a = b := by omega
        subst e
        simp at h1 h2
        rw [Ze0 h1 h2]
section
variable {K : PySem.W.Frag} {cm : List Addr} {m : Mem} {H : Hp} {xr : XR} {X : Cx} {call : Nat → List W → Mem → Res W} {gv : List T}
variable {a b c e : Expr} {es : List Expr} {ea eb ec : E} {eas : Es} {pos p p2 : Pos} {rest : List Stmt} {k : S} {n : Nat}
end
end Mi
end
section
namespace Mi
open PySem PySem.Spec PyProof.Rows L2
theorem Zkh (a : List Nat) : nlt a a = false := by rw [ZeZ]; simp
theorem nlt_tr {a b c : List Nat} (h1 : nlt a b = true) (h2 : nlt b c = true) : nlt a c = true := by
  rw [ZeZ] at *
  have h1 : a < b := of_decide_eq_true h1
  have h2 : b < c := of_decide_eq_true h2
  exact decide_eq_true (List.lt_trans h1 h2)
theorem Zc9 (x y : List Nat) : ∀ l, y ∈ insT x l ↔ y = x ∨ y ∈ l
  | [] => by simp [insT]
  | z :: l => by
    unfold insT
    split
    · simp
    · split
      · rw [List.mem_cons, Zc9 x y l, List.mem_cons]
        constructor
        · rintro (h | h | h)
          · exact .inr (.inl h)
          · exact .inl h
          · exact .inr (.inr h)
        · rintro (h | h | h)
          · exact .inr (.inl h)
          · exact .inl h
          · exact .inr (.inr h)
      · rename_i h1 h2
        have e : x = z := Ze0 (by simpa using h1) (by simpa using h2)
        subst e
        simp
theorem Zho (x : List Nat) : ∀ l, l.Pairwise (fun a b => nlt a b = true) → (insT x l).Pairwise (fun a b => nlt a b = true)
  | [], _ => List.pairwise_singleton _ _
  | z :: l, h => by
    unfold insT
    obtain ⟨h1, h2⟩ := List.pairwise_cons.mp h
    split
    · rename_i hx
      refine List.pairwise_cons.mpr ⟨fun y hy => ?_, h⟩
      rcases List.mem_cons.mp hy with rfl | hy
      · exact hx
      · exact nlt_tr hx (h1 y hy)
    · split
      · rename_i hz
        refine List.pairwise_cons.mpr ⟨fun y hy => ?_, Zho x l h2⟩
        rcases (Zc9 x y l).mp hy with rfl | hy
        · exact hz
        · exact h1 y hy
      · exact h
theorem ZbD (y : List Nat) : ∀ xs, y ∈ Qw xs ↔ y ∈ xs
  | [] => by simp [Qw]
  | x :: xs => by
    show y ∈ insT x (Qw xs) ↔ _
    rw [Zc9, ZbD y xs, List.mem_cons]
theorem Zcg : ∀ xs, (Qw xs).Pairwise (fun a b => nlt a b = true)
  | [] => .nil
  | x :: xs => Zho x _ (Zcg xs)
theorem Zfl (xs : List (List Nat)) : (Qw xs).Nodup := (Zcg xs).imp fun {a b} h e => by
  subst e
  rw [Zkh] at h
  cases h
theorem ZhG (val : Nat → Str) (x : Str) : ∀ n, x ∈ dd val n ↔ ∃ i, i < n ∧ val i = x
  | 0 => by simp [dd]
  | n + 1 => by
    have ih := ZhG val x n
    unfold dd
    split
    · rename_i h
      rw [ih]
      constructor
      · rintro ⟨i, hi, e⟩
        exact ⟨i, by omega, e⟩
      · rintro ⟨i, hi, e⟩
        by_cases hn : i = n
        · subst hn
          rw [e] at h
          exact ih.mp h
        · exact ⟨i, by omega, e⟩
    · rw [List.mem_append, ih, List.mem_singleton]
      constructor
      · rintro (⟨i, hi, e⟩ | e)
        · exact ⟨i, by omega, e⟩
        · exact ⟨n, by omega, e.symm⟩
      · rintro ⟨i, hi, e⟩
        by_cases hn : i = n
        · subst hn; exact .inr e.symm
        · exact .inl ⟨i, by omega, e⟩
theorem Zkn {a b : List Nat} (h : (⟨a.toArray⟩ : Str) = ⟨b.toArray⟩) : a = b := by
  injection h with h
  simpa using h
section
variable {K : PySem.W.Frag} {cm : List Addr} {m : Mem} {H : Hp} {xr : XR} {X : Cx} {call : Nat → List W → Mem → Res W} {gv : List T}
variable {a b c e : Expr} {es : List Expr} {ea eb ec : E} {eas : Es} {pos p p2 pos2 : Pos} {rest : List Stmt} {k : S} {n : Nat}
theorem Zjh {its : List Value} {xs : List (List Nat)} (h : StrsAre its (xs.map fun c => (⟨c.toArray⟩ : Str))) : ∀ (i : Nat) v, its[i]? = some v → ∃ t, v = .str ((xs.map fun c => (⟨c.toArray⟩ : Str)).getD i ⟨#[]⟩) t := by
  generalize xs.map (fun c => (⟨c.toArray⟩ : Str)) = ss at h
  induction h with
  | nil => intro i v e; simp at e
  | cons y t _ ih =>
    intro i v e
    cases i with
    | zero => simp at e; exact ⟨t, by rw [← e]; rfl⟩
    | succ i =>
      obtain ⟨t', h'⟩ := ih i v (by simpa using e)
      exact ⟨t', by rw [h']; rfl⟩
end
end Mi
end
section
namespace Mi
open PySem PySem.Spec PyProof.Rows L2
section
variable {prog : Program} {w : World} {A : Around} {E : Value → Shared → Prop} {s : Shared} {led : Bool}
set_option maxHeartbeats 3200000 in
theorem Zce {l : Addr} {items : Array Value} {val : Nat → Str} {Q : Value → Shared → Prop} (hh : A.handled = none) (hl : s.heap.IsTuple l items) (hv : ∀ (i : Nat) v, items[i]? = some v → ∃ t, v = .str (val i) t) (hb : items.size + 1 < scanBound)
    (h : ∀ (h' : Heap) (tk : Nat), SetS prog w (Q9 w) h' s.heap.objs.size (dd val items.size) → (∀ b o, s.heap.get? b = some o → h'.get? b = some o) → Q (.ref s.heap.objs.size) { s with heap := h', toks := tk }) :
    wpAny (model prog w) A (PySem.call (.type "set") [.ref l]) Q E s := by
  obtain ⟨c, tl, hmro⟩ := PySem.F.called_set.mro
  have hmade := PySem.F.called_set.made
  have hsub := PySem.F.called_set.sub
  refine wpAny_call (codeAny_of_tree ?_)
  show wpAny _ _ (callAny (.type "set") _) _ _ _
  refine wpAny_pure ⟨Code.quiet_builtin _ (by decide +kernel), codeAny_builtin PySem.F.entry_type_call ?_⟩
  rw [Around.under_plain (weight_type_call_type "set" [.ref l] []) rfl]
  have h1 := PySem.F.called_set.notType
  have h2 := PySem.F.called_set.canCreate
  have hct := PySem.F.typeCall_set_1 (.ref l)
  repeat (any_goals (first | assumption | wp_step))
  refine codeAny_mono (ZeR (.ref l) (E := E) (Q₁ := fun obj s₁ => obj = .ref s.heap.objs.size ∧ s₁ = { s with heap := s.heap.push { cls := .type "set", dict := none, data := .set #[] 0 (.fresh 0 0 (Q9 w)) } }) ⟨rfl, rfl⟩) fun r s₁ hr => ?_
  cases r with
  | error e => exact hr
  | ok fl =>
    cases fl with
    | ret obj =>
      obtain ⟨rfl, rfl⟩ := hr
      have hS : (s.heap.push { cls := .type "set", dict := none, data := .set #[] 0 (.fresh 0 0 (Q9 w)) }).get? s.heap.objs.size = some { cls := .type "set", dict := none, data := .set #[] 0 (.fresh 0 0 (Q9 w)) } := Heap.get?_push_size _ rfl
      have hT : Shared.TypeIs { s with heap := s.heap.push { cls := .type "set", dict := none, data := .set #[] 0 (.fresh 0 0 (Q9 w)) } } (.ref s.heap.objs.size) "set" := ⟨_, hS, rfl⟩
      have hli := PySem.F.called_set.init.lookup
      have hbi := PySem.F.called_set.init.bind (.ref s.heap.objs.size)
      repeat (any_goals (first | assumption | wp_step))
      refine codeAny_mono (codeAny_call_builtin (R := wants (fun r s₂ => r = .none ∧ ∃ h' tk, s₂ = { s with heap := h', toks := tk } ∧ SetS prog w (Q9 w) h' s.heap.objs.size (dd val items.size) ∧ (∀ b o, s.heap.get? b = some o → h'.get? b = some o)) E) PySem.F.called_set.init.plain PySem.F.entry_set_init (check_set_init_1 hT ?_)) fun r₂ s₂ hr₂ => ?_
      · obtain ⟨ol, hol, hcl, nl, hdl⟩ := hl
        obtain ⟨ocls, odict, odata, oslots⟩ := ol
        simp only at hcl hdl
        subst hcl; subst hdl
        have hol' : (s.heap.push { cls := .type "set", dict := none, data := .set #[] 0 (.fresh 0 0 (Q9 w)) }).get? l = some { cls := .type "tuple", dict := odict, data := .seq items nl, slots := oslots } := Heap.get?_push_of_some _ hol
        have hsls := PySem.F.sub_tuple_set
        have hslf := PySem.F.sub_tuple_frozenset
        have hne : (Value.type "tuple" == Value.type "dict") = false := by decide
        have hl1 : (s.heap.push { cls := .type "set", dict := none, data := .set #[] 0 (.fresh 0 0 (Q9 w)) }).IsTuple l items := ⟨_, hol', rfl, nl, rfl⟩
        unfold Builtin.«set.__init__» noKeywords Builtin.Frozenset.updateFrom
        generalize hPI : pyIter = PI
        wp_walk
        subst hPI
        refine wpAny_pyIter_tuple hl1 ?_
        refine wpAny_bind (wpAny_runValue ?_)
        have hlS : l < s.heap.objs.size := Heap.lt_size hol
        have hh3 : A.in1.in1.in1.handled = none := by simp [hh]
        have hneI : l ≠ (s.heap.push { cls := .type "set", dict := none, data := .set #[] 0 (.fresh 0 0 (Q9 w)) }).objs.size := by
          rw [Heap.size_push]; exact Nat.ne_of_lt (Nat.lt_succ_of_lt hlS)
        have hSf : s.heap.objs.size ∉ [(s.heap.push { cls := .type "set", dict := none, data := .set #[] 0 (.fresh 0 0 (Q9 w)) }).objs.size, l] := by
          rw [Heap.size_push]; simp only [List.mem_cons, List.mem_singleton, List.not_mem_nil, or_false, not_or]
          exact ⟨Nat.ne_of_lt (Nat.lt_succ_self _), Nat.ne_of_gt hlS⟩
        refine Zah (led := Q9 w) ((Walks.tuple hh3 _ l hneI items).toS) s.heap.objs.size hSf val hv hb (items.size - 0) 0 _ (by omega) (Nat.zero_le _)
          ⟨⟨_, Heap.get?_push_size _ rfl, rfl, rfl⟩, (hl1.push _)⟩ ?hS0 ?hR
        case hS0 =>
          exact ZdQ (led := Q9 w) (Heap.get?_push_of_some _ hS)
        case hR =>
          intro s' hm hS'
          obtain ⟨h', g', d', tk', os'⟩ := s'
          have eg : g' = s.gens := hm.gens
          have ed : d' = s.drawn := hm.drawn
          have eo : os' = s.os := hm.os
          subst eg; subst ed; subst eo
          show wpAny _ _ _ _ _ _
          refine wpAny_pure ?_
          show wpAny _ _ (ret Value.none) _ _ _
          refine wpAny_pure ⟨rfl, h', tk', rfl, hS', fun b o e => ?_⟩
          have hb := Heap.lt_size e
          have hb1 : b ≠ s.heap.objs.size := Nat.ne_of_lt hb
          have hb2 : b ≠ (s.heap.push { cls := .type "set", dict := none, data := .set #[] 0 (.fresh 0 0 (Q9 w)) }).objs.size := by
            rw [Heap.size_push]; exact Nat.ne_of_lt (Nat.lt_succ_of_lt hb)
          exact hm.heap b o (by simp only [List.mem_cons, List.mem_singleton, List.not_mem_nil, or_false, not_or]; exact ⟨hb1, hb2⟩) (Heap.get?_push_of_some _ (Heap.get?_push_of_some _ e))
      · cases r₂ with
        | error e => exact hr₂
        | ok fl₂ =>
          cases fl₂ with
          | ret r =>
            obtain ⟨rfl, h', tk, rfl, hS', hk'⟩ := hr₂
            repeat (any_goals (first | assumption | wp_step))
            exact h _ _ hS' hk'
          | _ => exact hr₂.elim
    | _ => exact hr.elim
end
theorem Zhg : ∀ (ns : List Int) (n : Int), minI n ns ≤ n ∧ (∀ x ∈ ns, minI n ns ≤ x) ∧ minI n ns ∈ n :: ns
  | [], n => ⟨Int.le_refl _, fun x hx => by simp at hx, by simp [minI]⟩
  | a :: r, n => by
    obtain ⟨h1, h2, h3⟩ := Zhg r (if a < n then a else n)
    have e : minI n (a :: r) = minI (if a < n then a else n) r := rfl
    rw [e]
    by_cases h : a < n
    · rw [if_pos h] at h1 h2 h3 ⊢
      refine ⟨by omega, fun x hx => ?_, List.mem_cons_of_mem _ h3⟩
      rcases List.mem_cons.mp hx with rfl | hx
      · exact h1
      · exact h2 x hx
    · rw [if_neg h] at h1 h2 h3 ⊢
      refine ⟨h1, fun x hx => ?_, ?_⟩
      · rcases List.mem_cons.mp hx with rfl | hx
        · omega
        · exact h2 x hx
      · rcases List.mem_cons.mp h3 with h3 | h3
        · rw [h3]; exact List.mem_cons_self
        · exact List.mem_cons_of_mem _ (List.mem_cons_of_mem _ h3)
theorem Zko {prog : Program} {w : World} {A : Around} {E : Value → Shared → Prop} {s : Shared} {l : Addr} {vs : List Value} {n : Int} {ns : List Int} {Q : Value → Shared → Prop} (hh : A.handled = none) (hl : s.heap.IsList l vs.toArray) (hi : IntsAre vs (n :: ns))
    (h : ∀ h' tk t', (∀ b o, s.heap.get? b = some o → h'.get? b = some o) → Q (.int (minI n ns) t') { s with heap := h', toks := tk }) : wpAny (model prog w) A (PySem.call (.builtin "min") [.ref l]) Q E s := by
  obtain ⟨xs, hx⟩ := hi.allInts.items
  have hl' : s.heap.IsList l (intItems xs) := hx ▸ hl
  have e1 : n :: ns = xs.toList.map (·.1) := by
    rw [← nums_intItems, ← hx]
    exact (show numsOf vs.toArray.toList = n :: ns from hi.numsOf).symm
  have hsz : xs.size = ns.length + 1 := by
    have := congrArg List.length e1
    simpa using this.symm
  have num : ∀ j, j < xs.size → numAt xs j = (n :: ns).getD j 0 := fun j hj => by
    rw [e1]
    simp [numAt, List.getD]
  refine min_intList hh hl' (by omega) fun v h' tk hv hk => ?_
  obtain ⟨t, rfl⟩ := intItems_at hv
  obtain ⟨b1, b2⟩ := argBest_lt (numAt xs) (xs.size - 1)
  obtain ⟨m1, m2, m3⟩ := Zhg ns n
  have key : numAt xs (argBest (fun i j => decide (numAt xs i < numAt xs j)) (xs.size - 1)) = minI n ns := by
    refine Int.le_antisymm ?_ ?_
    · obtain ⟨j, hj, ej⟩ := List.getElem_of_mem m3
      have hj' : j < xs.size := by rw [hsz]; exact hj
      have := b2 j (by omega)
      rw [num j hj'] at this
      rw [← ej]
      rw [List.getD_eq_getElem?_getD, List.getElem?_eq_getElem hj] at this
      exact this
    · have hb : argBest (fun i j => decide (numAt xs i < numAt xs j)) (xs.size - 1) < xs.size := by omega
      rw [num _ hb]
      generalize argBest (fun i j => decide (numAt xs i < numAt xs j)) (xs.size - 1) = b at hb
      have hb' : b < (n :: ns).length := by rw [List.length_cons]; omega
      have : (n :: ns).getD b 0 ∈ n :: ns := by
        rw [List.getD_eq_getElem?_getD, List.getElem?_eq_getElem hb']
        exact List.getElem_mem hb'
      rcases List.mem_cons.mp this with e | e
      · rw [e]; exact m1
      · exact m2 _ e
  rw [key]
  exact h h' tk t hk
section
variable {K : PySem.W.Frag} {cm : List Addr} {m : Mem} {H : Hp} {xr : XR} {X : Cx} {call : Nat → List W → Mem → Res W} {gv : List T}
variable {a b c e : Expr} {es : List Expr} {ea eb ec : E} {eas : Es} {pos p p2 pos2 : Pos}
theorem Zgb (hc : X.calm = true) : Xg X (.builtin "min") (rN X.K xr (fBlt .minl)) := by
  rintro pins s σ H xs us Q I r ⟨cm, m, ws, M, rws, ho⟩
  obtain ⟨w, v, t, rr, rfl, rfl, rv, e, eb, ho⟩ := blt1 rws (JC (by decide)) ho
  cases t with
  | lst ts =>
    have eb : Zhf ts = some rr := eb
    unfold Zhf at eb
    cases q : ints? ts with
    | none => rw [q] at eb; cases eb
    | some bs =>
      rw [q] at eb
      cases bs with
      | nil => cases eb
      | cons b bs =>
        have eb : (if bs.length < 64 then some (T.int (minI b bs)) else none) = some rr := eb
        split at eb <;> cases eb
        obtain ⟨a, vs, rfl, h1, r1⟩ := Qh M rv e
        obtain ⟨u, rfl, ru⟩ := vals1 r
        cases ru
        obtain ⟨its, rv', pl, hz⟩ := I.list (.of h1)
        cases RTs.ints r1 q
        exact Zko (I.ok.hd hc) pl.isList (intsAre_of rv') fun h' tk t' hk => ⟨.int _, H, I.kept hk, ⟨_, rfl⟩, ans ho M (.int _)⟩
  | _ => cases eb
theorem ZdD (hg : Gl X "min") (hm : X.mg "min" = none) (ha : PA X (e :: es) (tA X.K call gv xr eas)) (he : notStar e = true) (hpl : es.all notStar = true) (hc : X.calm = true := by rfl) : PE X (.Call (.Name "min" p) (e :: es) [] pos) (tE X.K call gv xr (.blt .minl eas)) := ZbK (Zgb hc) (by decide +kernel) hg hm ha (by decide) (by decide) he hpl
noncomputable def iEnum (K : PySem.W.Frag) (ta : TA) : TI := fun σ H R => ta σ H fun vs H1 => ∃ a xs, vs = [.ref a] ∧ SqL K H1 a xs ∧ R (Ite K a) H1
theorem Zj0 {ts : List Expr} {kk} {tp : Pos} {ta : TA} (hg : Gl X "enumerate") (hm : X.mg "enumerate" = none) (ha : PA X [a] ta) (h1 : notStar a = true) :
    PI X (.Tuple ts kk tp) (.Call (.Name "enumerate" p) [a] [] pos) (iEnum X.K ta) := by
  intro pins s σ H R I h
  refine Call_ (Xf I hg hm (show bootBuiltins "enumerate" = some (.type "enumerate") from by decide +kernel) (PyProof.Rows.callWith_type1 (thn (ha pos pins s σ H _ I h) fun us s1 ⟨vs, H1, I1, r1, q1⟩ => ?_) (JF h1) rfl))
  obtain ⟨x, xs, e, q1, q⟩ := q1
  subst e
  cases r1 with
  | cons r rr =>
    cases rr
    cases r
    obtain ⟨its, rv, p, _⟩ := I1.list q1
    refine call_enumerate_list p.isList fun g hE hI hsz hk => wpAny_pyIter_enum hE ?_
    refine ⟨_, [s1.heap.objs.size + 1, s1.heap.objs.size], _, _, H1, rfl, I1.kept (t' := s1.toks) hk, Zgo (Nat.succ_ne_self _), ⟨⟨_, hE⟩, hI⟩, fun b hb => ?_, q⟩
    have hb' : s1.heap.objs.size ≤ b := by
      simp only [List.mem_cons, List.not_mem_nil, or_false] at hb
      rcases hb with rfl | rfl <;> omega
    exact I1.fpOk hb' (I1.hok.fresh hb')
theorem PE.tree (h : PE X e (tE X.K call gv xr ea)) : PE X e (tE X.K call gv xr (.tr ea)) := by
  refine PE.mono h ?_
  rintro σ H Q ⟨env, cm, m, hE, M, ho⟩
  refine ⟨env, cm, m, hE, M, ?_⟩
  rw [ev] at ho
  exact ho.bind.mono fun w cm1 m1 H1 x1 M1 o1 => by
    cases w with
    | t x => exact OkR.now o1 M1
    | f a => exact o1.elim
    | c i => exact o1.elim
theorem Ziw {ts : List Expr} {kk} {tp : Pos} (hg : Gl X "enumerate") (hm : X.mg "enumerate" = none) (ha : PA X [a] (tA X.K call gv xr (.cons (.tr ea) .nil))) (hs : notStar a = true := by rfl) : PI X (.Tuple ts kk tp) (.Call (.Name "enumerate" p) [a] [] pos) (tI X.K call gv xr (.blt .enum (.cons (.tr ea) .nil))) := by
  refine PI.mono (Zj0 hg hm ha hs) ?_
  rintro σ H R ⟨env, cm, m, hE, M, ho⟩
  rw [ev] at ho
  cases h : evs call gv (.cons (.tr ea) .nil) env m with
  | stuck => rw [h] at ho; exact ho.elim
  | exc x m' =>
    refine ⟨env, cm, m, hE, M, ?_⟩
    rw [h] at ho ⊢
    exact ho
  | ok ws m' =>
    refine ⟨env, cm, m, hE, M, ?_⟩
    rw [h] at ho ⊢
    have hT : ∃ t, ws = [.t t] := by
      rw [evs] at h
      obtain ⟨w, m1, h1, h2⟩ := ZK h
      obtain ⟨ws', m2, h3, h4⟩ := ZK h2
      rw [evs] at h3
      cases h3
      cases h4
      rw [ev] at h1
      obtain ⟨w0, m0, h5, h6⟩ := ZK h1
      cases w0 with
      | t x => cases h6; exact ⟨x, rfl⟩
      | f a => cases h6
      | c i => cases h6
    obtain ⟨t, rfl⟩ := hT
    have ho1 := OkR.bind ho
    intro cm1 H1 x1 M1 vs rvs
    have o1 : OkR X.K (fBlt .enum [W.t t] m') xr cm1 m' H1 _ := ho1 cm1 H1 x1 M1
    obtain ⟨w, v, t', rr, e1, rfl, rv, e, eb, ho⟩ := blt1 rvs (JC (by decide)) o1
    cases e1
    cases e
    cases t with
    | lst ts =>
      have eb : (if ts.length ≤ lim then some (T.lst (Zey ts)) else none) = some rr := eb
      split at eb <;> cases eb
      obtain ⟨ts', m2, q1, q2⟩ := OkR.now ho M1
      cases q1
      obtain ⟨a, vs, rfl, h1, h2, h3⟩ := RT.ilst rv
      exact ⟨a, vs, rfl, .of h1, q2 _ (.enm h1 h2 h3)⟩
    | _ => cases eb
theorem dl_mem (x : Str) (ss : List Str) : x ∈ dl ss ↔ x ∈ ss := by
  have : ∀ (ss D : List Str), x ∈ ss.foldl (fun D x => if x ∈ D then D else D ++ [x]) D ↔ x ∈ D ∨ x ∈ ss := by
    intro ss
    induction ss with
    | nil => intro D; simp
    | cons y r ih =>
      intro D
      rw [List.foldl_cons, ih, List.mem_cons]
      split
      · rename_i h
        constructor
        · rintro (h1 | h1)
          · exact .inl h1
          · exact .inr (.inr h1)
        · rintro (h1 | h1 | h1)
          · exact .inl h1
          · subst h1; exact .inl h
          · exact .inr h1
      · rw [List.mem_append, List.mem_singleton, or_assoc]
  have h := this ss []
  unfold dl
  rw [h]
  simp
theorem dl_nd (ss : List Str) : (dl ss).Nodup := by
  have : ∀ (ss D : List Str), D.Nodup → (ss.foldl (fun D x => if x ∈ D then D else D ++ [x]) D).Nodup := by
    intro ss
    induction ss with
    | nil => intro D h; exact h
    | cons y r ih =>
      intro D h
      rw [List.foldl_cons]
      refine ih _ ?_
      split
      · exact h
      · rename_i hn
        rw [List.nodup_append]
        refine ⟨h, by simp, fun a ha b hb => ?_⟩
        rw [List.mem_singleton.mp hb]
        exact fun e => hn (e ▸ ha)
  exact this ss [] .nil
theorem mkS_nd {xs : List (List Nat)} (h : xs.Nodup) : (xs.map fun c => (⟨c.toArray⟩ : Str)).Nodup := by
  refine List.pairwise_map.mpr (h.imp fun {a b} q e => q (Zkn e))
theorem Zkm {xs ys : List (List Nat)} (h : ∀ c, c ∈ xs ↔ c ∈ ys) (x : Str) : (x ∈ xs.map fun c => (⟨c.toArray⟩ : Str)) ↔ x ∈ ys.map fun c => (⟨c.toArray⟩ : Str) := by
  constructor
  · intro q
    obtain ⟨c, hc, rfl⟩ := List.mem_map.mp q
    exact List.mem_map.mpr ⟨c, (h c).mp hc, rfl⟩
  · intro q
    obtain ⟨c, hc, rfl⟩ := List.mem_map.mp q
    exact List.mem_map.mpr ⟨c, (h c).mpr hc, rfl⟩
theorem Zhc {D : List Str} {bs : List (List Nat)} (hd : D.Nodup) (hm : ∀ x, x ∈ D ↔ x ∈ bs.map fun c => (⟨c.toArray⟩ : Str)) : D.length = (Qw bs).length := by
  have hp : D.Perm ((Qw bs).map fun c => (⟨c.toArray⟩ : Str)) := (List.perm_ext_iff_of_nodup hd (mkS_nd (Zfl bs))).mpr fun x => by
    rw [hm]
    exact Zkm (fun c => (ZbD c bs).symm) x
  have := hp.length_eq
  rw [List.length_map] at this
  exact this
theorem ZeP : ∀ {ts : List T} {bs : List (List Nat)}, strs? ts = some bs → (∀ t ∈ ts, ∃ c, t = .str c) ∧ ts.length = bs.length
  | [], _, e => by cases e; exact ⟨fun t h => by simp at h, rfl⟩
  | t :: ts, bs, e => by
    cases t with
    | str c =>
      unfold strs? at e
      cases q : strs? ts with
      | none => rw [q] at e; cases e
      | some cs =>
        rw [q] at e; cases e
        obtain ⟨h1, h2⟩ := ZeP q
        refine ⟨fun t ht => ?_, by rw [List.length_cons, List.length_cons, h2]⟩
        rcases List.mem_cons.mp ht with rfl | ht
        · exact ⟨c, rfl⟩
        · exact h1 t ht
    | _ => cases e
theorem Zhw {n : Nat} (h : n < 64) : (n : Int) < 2 ^ 63 := Int.lt_of_lt_of_le (b := 64) (by omega) (by decide)
theorem Zck (hc : X.calm = true) (hg1 : Gl X "len") (hm1 : X.mg "len" = none) (hg2 : Gl X "set") (hm2 : X.mg "set" = none) (ha : PA X [e] (tA X.K call gv xr (.cons ea .nil))) (he : notStar e = true := by rfl) :
    PE X (.Call (.Name "len" p) [.Call (.Name "set" p2) [e] [] pos2] [] pos) (tE X.K call gv xr (.blt .lenset (.cons ea .nil))) := by
  rintro pins s σ H Q I ⟨env, cm, m, hE, M, ho⟩
  rw [ev] at ho
  refine wpAny_Call_Name_kw (Xf I hg1 hm1 (show bootBuiltins "len" = some (.builtin "len") from by decide +kernel) ?_ (by decide) (by decide))
  refine PyProof.Rows.callWith_builtin1 ?_ rfl rfl
  show wpAny _ _ (spliced ((false, eval (.Call (.Name "set" p2) [e] [] pos2) X.env) :: backTo pos [])) _ _ s
  refine Calls.spliced_cons ?_
  refine wpAny_Call_Name_kw (Xf I hg2 hm2 (show bootBuiltins "set" = some (.type "set") from by decide +kernel) ?_ (by decide) (by decide))
  refine PyProof.Rows.callWith_type1 (thn (ha pos2 pins s σ H (fun vs H1 => ∃ cm1 m1 ws, MemR X.K cm1 m1 H1 ∧ RWs X.K cm1 m1 H1 ws vs ∧ OkR X.K (fBlt .lenset ws m1) xr cm1 m1 H1 fun w cm' m' H' => ∀ v, RW X.K cm' m' H' w v → Q v H') I ⟨env, cm, m, hE, M, ho.bind.mono fun ws cm1 m1 H1 x1 M1 o1 vs rvs => ⟨cm1, m1, ws, M1, rvs, o1⟩⟩) fun us s1 ⟨vs, H1, I1, r1, cm1, m1, ws, M1, rws, o1⟩ => ?_) (JF he) rfl
  obtain ⟨w, v, t, rr, rfl, rfl, rv, eq, eb, ho⟩ := blt1 rws (JC (by decide)) o1
  have hA : X.A.handled = none := I1.ok.hd hc
  cases t with
  | lst ts =>
    have eb : Zc4 ts = some rr := eb
    unfold Zc4 at eb
    cases q : strs? ts with
    | none => rw [q] at eb; cases eb
    | some bs =>
      rw [q] at eb
      have eb : (if bs.length < 64 then some (T.int ((Qw bs).length : Int)) else none) = some rr := eb
      split at eb <;> cases eb
      rename_i h64
      obtain ⟨a, vs, rfl, h1, rr1⟩ := Qh M1 rv eq
      obtain ⟨u, rfl, ru⟩ := vals1 r1
      cases ru
      obtain ⟨its, rv', pl, hz⟩ := I1.list (.of h1)
      cases RTs.strs rr1 q
      have hsa := ZbB rv'
      have hl := rv'.length
      rw [List.length_map] at hl
      refine Zdf hA pl.isList (fun i v hv => Zjh hsa i v (by simpa using hv)) (by unfold scanBound; simp; omega) fun h' tk hS kp => ?_
      have I2 : Inv X pins σ H1 { s1 with heap := h', toks := tk } := I1.kept kp
      refine wpAny_pure ?_
      rw [show its.toArray.size = bs.length by simp; omega] at hS
      obtain ⟨o, es, ep, t, eo, hE⟩ := hS
      have hsz : es.size = (Qw bs).length := by
        have h1 := hE.txs.length_eq
        rw [List.length_map, Array.length_toList] at h1
        rw [h1]
        refine Zhc hE.nd fun x => ?_
        rw [ZhG]
        constructor
        · rintro ⟨i, hi, e⟩
          rw [← e]
          simp [List.getD, hi]
        · intro h
          obtain ⟨c, hc, rfl⟩ := List.mem_map.mp h
          obtain ⟨i, hi, rfl⟩ := List.getElem_of_mem hc
          exact ⟨i, hi, by simp [List.getD, hi]⟩
      have hlt : es.size < 64 := by
        have h1 := hE.txs.length_eq
        rw [List.length_map, Array.length_toList] at h1
        have := Zfa (fun i => (bs.map fun c => (⟨c.toArray⟩ : Str)).getD i ⟨#[]⟩) bs.length
        omega
      refine call_len_set eo hE.ex hE.data hE.fits (Zhw hlt) ?_
      rw [hsz]
      exact ⟨.int _, H1, I2.kept (t' := tk + 1 + 1) fun b o e => e, ⟨_, rfl⟩, ans ho M1 (.int _)⟩
  | tup ts =>
    have eb : Zc4 ts = some rr := eb
    unfold Zc4 at eb
    cases q : strs? ts with
    | none => rw [q] at eb; cases eb
    | some bs =>
      rw [q] at eb
      have eb : (if bs.length < 64 then some (T.int ((Qw bs).length : Int)) else none) = some rr := eb
      split at eb <;> cases eb
      rename_i h64
      obtain ⟨a, vs, rfl, h1, rr1⟩ := RT.itup (Zm rv eq fun _ z => by cases z)
      obtain ⟨u, rfl, ru⟩ := vals1 r1
      cases ru
      obtain ⟨its, rv', pl, hz⟩ := I1.tuple h1
      cases RTs.strs rr1 q
      have hsa := ZbB rv'
      have hl := rv'.length
      rw [List.length_map] at hl
      refine Zce hA (show s1.heap.IsTuple a its.toArray from pl) (fun i v hv => Zjh hsa i v (by simpa using hv)) (by unfold scanBound; simp; omega) fun h' tk hS kp => ?_
      have I2 : Inv X pins σ H1 { s1 with heap := h', toks := tk } := I1.kept kp
      refine wpAny_pure ?_
      rw [show its.toArray.size = bs.length by simp; omega] at hS
      obtain ⟨o, es, ep, t, eo, hE⟩ := hS
      have hsz : es.size = (Qw bs).length := by
        have h1 := hE.txs.length_eq
        rw [List.length_map, Array.length_toList] at h1
        rw [h1]
        refine Zhc hE.nd fun x => ?_
        rw [ZhG]
        constructor
        · rintro ⟨i, hi, e⟩
          rw [← e]
          simp [List.getD, hi]
        · intro h
          obtain ⟨c, hc, rfl⟩ := List.mem_map.mp h
          obtain ⟨i, hi, rfl⟩ := List.getElem_of_mem hc
          exact ⟨i, hi, by simp [List.getD, hi]⟩
      have hlt : es.size < 64 := by
        have h1 := hE.txs.length_eq
        rw [List.length_map, Array.length_toList] at h1
        have := Zfa (fun i => (bs.map fun c => (⟨c.toArray⟩ : Str)).getD i ⟨#[]⟩) bs.length
        omega
      refine call_len_set eo hE.ex hE.data hE.fits (Zhw hlt) ?_
      rw [hsz]
      exact ⟨.int _, H1, I2.kept (t' := tk + 1 + 1) fun b o e => e, ⟨_, rfl⟩, ans ho M1 (.int _)⟩
  | _ => cases eb
theorem ZbI {elt target iter : Expr} {ifs : List Expr} {gs : List Comprehension} {scope : Scope} {N' : List Str} {own : Nat} {keep : List Nat} {it : E} {tg : Tg} {cs : Es} (hc : X.calm = true) (hg1 : Gl X "len") (hm1 : X.mg "len" = none) (k : CompK X xr call gv N' scope own keep elt target iter ifs gs it tg cs (.emit ea)) :
    PE X (.Call (.Name "len" p) [.SetComp elt (⟨target, iter, ifs, 0⟩ :: gs) scope pos2] [] pos) (tE X.K call gv xr (.blt .lenset (.cons (.comp own keep it tg cs (.emit ea)) .nil))) := by
  rintro pins s σ H Q I ⟨env, cm, m, hE, M, ho⟩
  rw [ev] at ho
  refine wpAny_Call_Name_kw (Xf I hg1 hm1 (show bootBuiltins "len" = some (.builtin "len") from by decide +kernel) ?_ (by decide) (by decide))
  refine PyProof.Rows.callWith_builtin1 ?_ rfl rfl
  show wpAny _ _ (spliced ((false, eval (.SetComp elt (⟨target, iter, ifs, 0⟩ :: gs) scope pos2) X.env) :: backTo pos [])) _ _ s
  refine Calls.spliced_cons ?_
  cases h : ev call gv (.comp own keep it tg cs (.emit ea)) env m with
  | stuck =>
    rw [evs, h] at ho
    exact ho.elim
  | exc e m' => exact absurd h (Za0 e m')
  | ok w m' =>
    obtain ⟨out, rfl⟩ := ZbZ h
    rw [evs, h] at ho
    have ho : OkR X.K (pur ((views [W.t (.lst out)] m').bind fun ts => bltT .lenset ts) m') xr cm m H _ := ho
    have ho : OkR X.K (pur (Zc4 out) m') xr cm m H _ := ho
    unfold Zc4 at ho
    cases q : strs? out with
    | none => rw [q] at ho; exact ho.elim
    | some bs =>
      rw [q] at ho
      have ho : OkR X.K (pur (if bs.length < 64 then some (T.int ((Qw bs).length : Int)) else none) m') xr cm m H _ := ho
      split at ho
      · rename_i h64
        have ho : OkR X.K (Res.ok (W.t (T.int ((Qw bs).length : Int))) m') xr cm m H _ := ho
        obtain ⟨hst, hsl⟩ := ZeP q
        rw [arm_eval_SetComp]
        refine Zf2 hc k.sc k.hown k.hkeep (fun x hx e => by rw [k.sc.look x hx, e]) k.pi k.fs k.ins k.dis k.slt I hE M (by omega) hst h ?_
        rintro D C s3 H3 cm3 vs I3 ⟨ss, rfl, hS⟩ x3 M3 r3 ⟨mm, hm⟩ fC nDC
        refine ⟨mm, hm, fun h' hs' => ?_⟩
        have I4 : Inv X pins σ H3 { s3 with heap := h' } := I3.turned (t' := s3.toks) (it := C) (fun b o hb e => (hs'.2 b hb).trans e) fC.1 fC.2.1 fC.2.2.2.1 fC.2.2.2.2.1 fC.2.2.2.2.2
        have e1 := RTs.strs r3 q
        have e2 : ss = bs.map fun c => (⟨c.toArray⟩ : Str) := by
          have e3 : ss.map V.str = (bs.map fun c => (⟨c.toArray⟩ : Str)).map V.str := by rw [e1, List.map_map]; rfl
          exact (List.map_inj_right (fun a b e => by injection e)).mp e3
        subst e2
        obtain ⟨o, es, ep, t, eo, hex, hd, _, _, _, hf, hn⟩ := hS
        have hsz : es.size = (Qw bs).length := by
          rw [hn]
          exact Zhc (dl_nd _) fun x => dl_mem x _
        have hlt : es.size < 64 := by
          have := ZjB (bs.map fun c => (⟨c.toArray⟩ : Str))
          rw [List.length_map] at this
          omega
        refine wpAny_pure ?_
        refine call_len_set (s := { s3 with heap := h' }) ((hs'.2 D nDC).trans eo) hex hd hf (Zhw hlt) ?_
        rw [hsz]
        exact ⟨.int _, H3, I4.kept (s := { s3 with heap := h' }) (t' := s3.toks + 1 + 1) fun b o e => e, ⟨_, rfl⟩, OkR.to ho x3 M3 _ (.int _)⟩
      · exact ho.elim
end
end Mi
end
section
namespace Mi
open PySem PySem.Spec PyProof.Rows L2
section
variable {xr : XR} {X : Cx} {call : Nat → List W → Mem → Res W} {gv : List T}
variable {a : Expr} {ea : E} {pos p p1 p2 p3 p4 : Pos}
theorem Zc8 {prog : Program} {w : World} {A : Around} {E : Value → Shared → Prop} {s : Shared} {Q : Value → Shared → Prop} {x : Value} {Tx : String} {tp : Addr} {vs : List Bool} (hx : s.TypeIs x Tx) (ht : s.heap.get? tp = some { cls := .type "tuple", data := .seq #[.type "bool", .type "int", .type "str"] })
    (ha : AnswersAll (fun s => s.TypeIs x Tx) x [.type "bool", .type "int", .type "str"] vs) (hv : vs.any id = true) (h : ∀ tk, Q (.bool true) { s with toks := tk }) : wpAny (model prog w) A (PySem.call (.builtin "isinstance") [x, .ref tp]) Q E s :=
  call_isinstance (isinstance_tuple ha) ⟨hx, ht, fun tk => by rw [hv]; exact h tk⟩
theorem Ziz (ha : PE X a (tE X.K call gv xr ea)) (hg : Gl X "isinstance") (hm : X.mg "isinstance" = none) (hb : Gl X "bool") (hmb : X.mg "bool" = none) (hi : Gl X "int") (hmi : X.mg "int" = none) (ht : Gl X "str") (hmt : X.mg "str" = none) {k} (hs : notStar a = true := by rfl) :
    PE X (.Call (.Name "isinstance" p) [a, .Tuple [.Name "bool" p1, .Name "int" p2, .Name "str" p3] k p4] [] pos) (tE X.K call gv xr (.blt .isbis (.cons ea .nil))) := by
  rintro pins s σ H Q I ⟨env, cm, m, hE, M, ho⟩
  rw [ev] at ho
  refine wpAny_Call_Name_kw (Xf I hg hm (show bootBuiltins "isinstance" = some (.builtin "isinstance") from by decide +kernel) ?_ (by decide) (by decide))
  refine PyProof.Rows.callWith_builtin1 ?_ (JF hs) rfl
  have hst : backTo pos (starEach [a, .Tuple [.Name "bool" p1, .Name "int" p2, .Name "str" p3] k p4] X.env) = [(false, eval a X.env), (false, eval (.Tuple [.Name "bool" p1, .Name "int" p2, .Name "str" p3] k p4) X.env)] := by
    rw [JF hs]
    rfl
  rw [hst]
  refine Calls.spliced_cons ?_
  refine thn (ha pins s σ H (fun v H1 => ∃ cm1 m1 w, MemR X.K cm1 m1 H1 ∧ RW X.K cm1 m1 H1 w v ∧ OkR X.K (fBlt .isbis [w] m1) xr cm1 m1 H1 fun w cm' m' H' => ∀ v, RW X.K cm' m' H' w v → Q v H') I ⟨env, cm, m, hE, M, ?_⟩) fun u s1 ⟨v, H1, I1, ru, cm1, m1, w, M1, rw1, o1⟩ => ?_
  · have ho2 : OkR X.K ((ev call gv ea env m).bind fun w m1 => fBlt .isbis [w] m1) xr cm m H fun w cm' m' H' => ∀ v, RW X.K cm' m' H' w v → Q v H' := by
      rw [evs] at ho
      cases h : ev call gv ea env m with
      | stuck => rw [h] at ho; exact ho
      | exc e m' => rw [h] at ho; exact ho
      | ok w m' =>
        rw [h] at ho
        have ho : OkR X.K (((evs call gv .nil env m').bind fun ws m => Res.ok (w :: ws) m).bind fun ws m => pur ((views ws m).bind fun ts => bltT .isbis ts) m) xr cm m H _ := ho
        rw [evs] at ho
        exact ho
    exact ho2.bind.mono fun w cm1 m1 H1 x1 M1 o1 v rv => ⟨cm1, m1, w, M1, rv, o1⟩
  · have rvs : RWs X.K cm1 m1 H1 [w] [v] := .cons rw1 .nil
    obtain ⟨w', v', t, rr, e1, e2, rv, eq, eb, ho⟩ := blt1 rvs (JC (by decide)) o1
    cases e1
    cases e2
    refine Calls.spliced_cons (wpAny_Tuple_spliced ?_)
    show wpAny _ _ (spliced [(false, eval (.Name "bool" p1) X.env), (false, eval (.Name "int" p2) X.env), (false, eval (.Name "str" p3) X.env)]) _ _ s1
    refine Calls.spliced_cons (Xf I1 hb hmb (show bootBuiltins "bool" = some (.type "bool") from by decide +kernel) ?_ (by decide) (by decide))
    refine Calls.spliced_cons (Xf I1 hi hmi (show bootBuiltins "int" = some (.type "int") from by decide +kernel) ?_ (by decide) (by decide))
    refine Calls.spliced_cons (Xf I1 ht hmt (show bootBuiltins "str" = some (.type "str") from by decide +kernel) ?_ (by decide) (by decide))
    refine Calls.spliced_nil ⟨by unfold sizeLine; simp, Calls.spliced_nil ?_⟩
    have hget : (s1.heap.push { cls := .type "tuple", data := .seq [Value.type "bool", Value.type "int", Value.type "str"].toArray }).get? s1.heap.objs.size = some { cls := .type "tuple", data := .seq #[.type "bool", .type "int", .type "str"] } := Heap.get?_push_size _ rfl
    have fin : ∀ tk, rr = .bl true → EP X pins σ Q (.bool true) { s1 with heap := s1.heap.push { cls := .type "tuple", data := .seq [Value.type "bool", Value.type "int", Value.type "str"].toArray }, toks := tk } := fun tk e => by
      subst e
      exact ⟨.bl true, H1, I1.kept (t' := tk) fun b o e => Heap.get?_push_of_some _ e, rfl, ans ho M1 (.bl _)⟩
    cases t with
    | bl y =>
      cases (Zm rv eq (fun _ z => by cases z)).vbl
      cases (show u = Value.bool y from ru)
      cases eb
      exact Zc8 (vs := [true, true, false]) (Tx := "bool") rfl hget ⟨Answers.of_true F.isi_meta_bool F.sub_bool_bool, Answers.of_true F.isi_meta_int F.sub_bool_int, Answers.of_false_bool (by decide) F.isi_meta_str F.sub_bool_str, trivial⟩ rfl fun tk => fin tk rfl
    | int y =>
      cases (Zm rv eq (fun _ z => by cases z)).vint
      obtain ⟨tt, hu⟩ := (show ∃ t, u = Value.int y t from ru)
      subst hu
      cases eb
      exact Zc8 (vs := [false, true, false]) (Tx := "int") rfl hget ⟨Answers.of_false_int (by decide) F.isi_meta_bool F.sub_int_bool, Answers.of_true F.isi_meta_int F.sub_int_int, Answers.of_false_int (by decide) F.isi_meta_str F.sub_int_str, trivial⟩ rfl fun tk => fin tk rfl
    | str y =>
      cases (Zm rv eq (fun _ z => by cases z)).vstr
      obtain ⟨tt, hu⟩ := (show ∃ t, u = Value.str ⟨y.toArray⟩ t from ru)
      subst hu
      cases eb
      exact Zc8 (vs := [false, false, true]) (Tx := "str") rfl hget ⟨Answers.of_false_str (by decide) F.isi_meta_bool F.sub_str_bool, Answers.of_false_str (by decide) F.isi_meta_int F.sub_str_int, Answers.of_true F.isi_meta_str F.sub_str_str, trivial⟩ rfl fun tk => fin tk rfl
    | _ => cases eb
end
end Mi
end
section
namespace My
open Mi
noncomputable def Jv : S := (.ret (.cmp .In (.var 1) (.ix (.var 0) (.con (.int 2)))) .done)
noncomputable def Qa : S := (.ife (.cmp .Eq (.var 2) (.var 1)) (.ret (.var 3) .done) .done .done)
noncomputable def JS : S := (.forr (.tp [2, 3]) (.ix (.var 0) (.con (.int 3))) Qa (.ret (.con .non) .done))
noncomputable def ZiS : E := (.emit (.call 2 (.cons (.var 0) (.cons (.var 1) .nil))))
noncomputable def Zfe : E := (.comp 1 [1] (.ix (.var 0) (.con (.int 1))) (.nm 0) .nil ZiS)
noncomputable def ZiR : E := (.emit (.call 2 (.cons (.var 0) (.cons (.var 1) .nil))))
noncomputable def Zfd : E := (.comp 1 [1] (.ix (.var 0) (.con (.int 1))) (.nm 0) .nil ZiR)
noncomputable def X5 : S := (.asg 2 (.ix (.var 0) (.con (.int 0))) (.ife (.cmp .Eq (.var 2) (.con (.str [97, 110, 121]))) (.ret (.con (.bl true)) .done) .done (.ife (.cmp .Eq (.var 2) (.con (.str [105, 115]))) (.ret (.call 0 (.cons (.var 1) (.cons (.ix (.var 0) (.con (.int 1))) .nil))) .done) .done (.ife (.cmp .Eq (.var 2) (.con (.str [98, 121]))) (.ret (.cmp .Eq (.ix (.var 1) (.con (.int 0))) (.ix (.var 0) (.con (.int 1)))) .done) .done (.ife (.cmp .Eq (.var 2) (.con (.str [110, 111, 116]))) (.ret (.not (.call 2 (.cons (.ix (.var 0) (.con (.int 1))) (.cons (.var 1) .nil)))) .done) .done (.ife (.cmp .Eq (.var 2) (.con (.str [97, 110, 100]))) (.ret (.blt .all (.cons Zfd .nil)) .done) .done (.ife (.cmp .Eq (.var 2) (.con (.str [111, 114]))) (.ret (.blt .any (.cons Zfe .nil)) .done) .done (.ret (.call 3 (.cons (.var 0) (.cons (.var 1) .nil))) .done))))))))
noncomputable def Jb : S := (.asg 2 (.call 1 (.cons (.var 1) (.cons (.ix (.var 0) (.con (.int 1))) .nil))) (.ife (.cmp .Is (.var 2) (.con .non)) (.ret (.con (.bl false)) .done) .done (.ife (.cmp .Eq (.ix (.var 0) (.con (.int 0))) (.con (.str [108, 101, 97, 115, 116]))) (.ret (.cmp .GtE (.var 2) (.ix (.var 0) (.con (.int 2)))) .done) .done (.ret (.cmp .LtE (.var 2) (.ix (.var 0) (.con (.int 2)))) .done))))
noncomputable def Zf1 : E := (.emit (.call 4 (.cons (.var 0) (.cons (.var 1) .nil))))
noncomputable def ZcF : E := (.comp 1 [1] (.ix (.var 0) (.con (.int 1))) (.nm 0) .nil Zf1)
noncomputable def Jf : S := (.asg 2 (.ix (.var 0) (.con (.int 0))) (.ife (.cmp .Eq (.var 2) (.con (.str [110, 111, 116]))) (.asg 3 (.call 4 (.cons (.ix (.var 0) (.con (.int 1))) (.cons (.var 1) .nil))) (.ret (.tup (.cons (.not (.ix (.var 3) (.con (.int 0)))) (.cons (.var 3) .nil))) .done)) .done (.ife (.cmp .In (.var 2) (.tup (.cons (.con (.str [97, 110, 100])) (.cons (.con (.str [111, 114])) .nil)))) (.ret (.call 5 (.cons (.var 2) (.cons ZcF .nil))) .done) .done (.ret (.tup (.cons (.call 2 (.cons (.var 0) (.cons (.var 1) .nil))) (.cons (.con .non) .nil))) .done))))
noncomputable def Zr : S := (.ife (.cmp .Eq (.ix (.ix (.var 1) (.var 3)) (.con (.int 0))) (.var 2)) (.ret (.tup (.cons (.var 2) (.cons (.tup (.cons (.var 3) (.cons (.ix (.var 1) (.var 3)) .nil))) .nil))) .done) .done .done)
noncomputable def Qt : S := (.asg 2 (.cmp .Eq (.var 0) (.con (.str [111, 114]))) (.forr (.nm 3) (.blt .range1 (.cons (.blt .len (.cons (.var 1) .nil)) .nil)) Zr (.ret (.tup (.cons (.not (.var 2)) (.cons (.blt .tuple (.cons (.var 1) .nil)) .nil))) .done)))
noncomputable def Xv : S := (.ret (.ix (.ix (.var 0) (.con (.int 1))) (.con (.int 0))) .done)
noncomputable def Xw : S := (.ret (.ix (.ix (.var 0) (.con (.int 1))) (.con (.int 1))) .done)
noncomputable def Xu : S := (.ret (.ix (.ix (.ix (.var 0) (.var 1)) (.con (.int 0))) (.con (.int 2))) .done)
noncomputable def Xx : S := (.ret (.ix (.ix (.ix (.var 0) (.var 1)) (.con (.int 0))) (.con (.int 1))) .done)
noncomputable def Zcc : E := (.emit (.var 1))
noncomputable def X4 : E := (.comp 2 [] (.var 0) (.tp [0, 1]) .nil Zcc)
noncomputable def Jh : S := (.ret (.blt .minl (.cons X4 .nil)) .done)
noncomputable def XQ : E := (.emit (.call 7 (.cons (.var 0) .nil)))
noncomputable def Jk : E := (.comp 2 [] (.var 0) (.tp [0, 1]) .nil XQ)
noncomputable def Qm : S := (.ret (.cmp .Gt (.blt .lenset (.cons Jk .nil)) (.con (.int 1))) .done)
noncomputable def Zae : E := (.emit (.call 6 (.cons (.var 0) .nil)))
noncomputable def JB : E := (.comp 2 [] (.var 0) (.tp [0, 1]) .nil Zae)
noncomputable def Qu : S := (.ret (.cmp .Lt (.blt .lenset (.cons JB .nil)) (.blt .len (.cons (.var 0) .nil))) .done)
noncomputable def QC : S := (.ret (.and (.cmp .NotEq (.var 1) (.var 2)) (.not (.call 2 (.cons (.call 8 (.cons (.var 0) (.cons (.var 1) .nil))) (.cons (.call 9 (.cons (.var 0) (.cons (.var 2) .nil))) .nil))))) .done)
noncomputable def Qg : S := (.asgT [2, 3] (.ix (.var 0) (.var 1)) (.ret (.cmp .Gt (.blt .min2 (.cons (.ix (.var 2) (.con (.int 4))) (.cons (.var 3) .nil))) (.call 10 (.cons (.var 0) .nil))) .done))
noncomputable def ZaV : S := (.ife (.call 14 (.cons (.var 0) (.cons (.var 1) .nil))) (.ret (.tup (.cons (.con (.str [108, 101, 97, 115, 116])) (.cons (.var 1) .nil))) .done) .done .done)
noncomputable def Zcs : S := (.ife (.call 13 (.cons (.var 0) (.cons (.var 1) (.cons (.var 2) .nil)))) (.ret (.tup (.cons (.con (.str [119, 105, 115, 104])) (.cons (.var 1) (.cons (.var 2) .nil)))) .done) .done .done)
noncomputable def Zcr : S := (.forr (.nm 2) (.blt .range1 (.cons (.blt .len (.cons (.var 0) .nil)) .nil)) Zcs .done)
noncomputable def XH : S := (.ife (.call 11 (.cons (.var 0) .nil)) (.ret (.tup (.cons (.con (.str [107, 105, 110, 100])) .nil)) .done) .done (.ife (.call 12 (.cons (.var 0) .nil)) (.ret (.tup (.cons (.con (.str [110, 97, 109, 101])) .nil)) .done) .done (.forr (.nm 1) (.blt .range1 (.cons (.blt .len (.cons (.var 0) .nil)) .nil)) Zcr (.forr (.nm 1) (.blt .range1 (.cons (.blt .len (.cons (.var 0) .nil)) .nil)) ZaV (.ret (.con .non) .done)))))
noncomputable def Ju : S := (.asg 1 (.call 15 (.cons (.var 0) .nil)) (.ife (.or (.cmp .Is (.var 1) (.con .non)) (.cmp .NotEq (.ix (.var 1) (.con (.int 0))) (.con (.str [119, 105, 115, 104])))) (.ret (.var 1) .done) .done (.asgT [2, 3, 4] (.var 1) (.ret (.tup (.cons (.var 2) (.cons (.var 3) (.cons (.var 4) (.cons (.call 4 (.cons (.call 8 (.cons (.var 0) (.cons (.var 3) .nil))) (.cons (.call 9 (.cons (.var 0) (.cons (.var 4) .nil))) .nil))) .nil))))) .done))))
noncomputable def Jw : S := (.ife (.cmp .Lt (.var 1) (.blt .len (.cons (.var 0) .nil))) (.ret (.ix (.var 0) (.var 1)) .done) .done (.ret (.con (.int 0)) .done))
noncomputable def Za3 : S := (.ret (.cel (.cons (.bin .Mult (.var 0) (.blt .int (.cons (.cmp .GtE (.var 0) (.bin .Pow (.con (.int 10)) (.con (.int 18)))) .nil))) (.cons (.bin .Mod (.var 0) (.con (.int 2147483647))) (.cons (.con (.int 0)) .nil)))) .done)
noncomputable def Za6 : S := (.ife (.cmp .Gt (.ix (.var 0) (.con (.int 0))) (.con (.int 0))) (.asg 2 (.bin .Mod (.ix (.var 0) (.con (.int 0))) (.var 1)) (.set (.var 0) (.con (.int 0)) (.bin .FloorDiv (.ix (.var 0) (.con (.int 0))) (.var 1)) (.ret (.var 2) .done))) .done (.set (.var 0) (.con (.int 2)) (.bin .Add (.ix (.var 0) (.con (.int 2))) (.con (.int 1))) (.asg 3 (.bin .Mod (.bin .Mult (.bin .Add (.bin .Add (.ix (.var 0) (.con (.int 1))) (.bin .Mult (.con (.int 7919)) (.ix (.var 0) (.con (.int 2))))) (.con (.int 1))) (.con (.int 48271))) (.con (.int 2147483647))) (.asg 3 (.bin .Mod (.bin .Mult (.var 3) (.bin .Add (.bin .FloorDiv (.var 3) (.con (.int 1009))) (.con (.int 69621)))) (.con (.int 2147483647))) (.ret (.bin .Mod (.bin .Mod (.bin .Mult (.var 3) (.bin .Add (.bin .FloorDiv (.var 3) (.con (.int 2003))) (.con (.int 40692)))) (.con (.int 2147483399))) (.var 1)) .done)))))
noncomputable def Za4 : S := (.ret (.ix (.var 1) (.call 19 (.cons (.var 0) (.cons (.blt .len (.cons (.var 1) .nil)) .nil)))) .done)
noncomputable def Za5 : S := (.asg 1 (.lst (.cons (.con (.str [97])) (.cons (.con (.str [97, 98])) (.cons (.con (.str [98])) (.cons (.con (.str [97, 110, 121, 97])) (.cons (.con (.str [105, 115, 108, 97, 110, 100])) (.cons (.con (.str [97, 98, 99])) (.cons (.con (.str [122])) (.cons (.con (.str [98, 121, 98, 121, 101])) (.cons (.con (.str [111, 114, 100, 101, 114])) (.cons (.con (.str [110, 111, 116, 101, 115])) (.cons (.con (.str [99])) (.cons (.con (.str [122, 122, 122, 122, 122, 122, 122, 122])) .nil))))))))))))) (.ret (.ix (.var 1) (.bin .Mod (.var 0) (.con (.int 12)))) .done))
noncomputable def JT : S := (.ret (.ix (.lst (.cons (.call 19 (.cons (.var 0) (.cons (.con (.int 6)) .nil))) (.cons (.call 19 (.cons (.var 0) (.cons (.con (.int 6)) .nil))) (.cons (.bin .Sub (.bin .Pow (.con (.int 10)) (.con (.int 9))) (.call 19 (.cons (.var 0) (.cons (.con (.int 3)) .nil)))) .nil)))) (.call 19 (.cons (.var 0) (.cons (.con (.int 3)) .nil)))) .done)
noncomputable def Zaz : E := (.emit (.tup (.cons (.var 0) (.cons (.call 22 (.cons (.var 1) .nil)) .nil))))
noncomputable def Zd2 : E := (.comp 1 [0] (.lst (.cons (.con (.str [112, 114, 105, 99, 101])) (.cons (.con (.str [119, 105, 100, 101])) .nil))) (.nm 0) (.cons (.cmp .Eq (.call 19 (.cons (.var 1) (.cons (.con (.int 2)) .nil))) (.con (.int 1))) .nil) Zaz)
noncomputable def Zay : E := (.emit (.var 0))
noncomputable def Zb5 : E := (.comp 1 [0] (.lst (.cons (.con (.str [102, 114, 101, 115, 104])) (.cons (.con (.str [111, 108, 100])) (.cons (.con (.str [111, 108, 100, 115])) .nil)))) (.nm 0) (.cons (.cmp .Eq (.call 19 (.cons (.var 1) (.cons (.con (.int 2)) .nil))) (.con (.int 1))) .nil) Zay)
noncomputable def Za7 : S := (.asg 3 (.blt .tuple (.cons Zb5 .nil)) (.asg 4 (.blt .tuple (.cons Zd2 .nil)) (.ret (.tup (.cons (.var 1) (.cons (.var 2) (.cons (.var 3) (.cons (.var 4) .nil))))) .done)))
noncomputable def ZbU : E := (.emit (.call 24 (.cons (.var 1) (.cons (.bin .Sub (.var 2) (.con (.int 1))) .nil))))
noncomputable def Zd1 : E := (.comp 1 [0, 1] (.blt .range1 (.cons (.var 3) .nil)) (.nm 0) .nil ZbU)
noncomputable def Xy : S := (.asg 2 (.call 19 (.cons (.var 0) (.cons (.bin .Add (.con (.int 6)) (.bin .Mult (.con (.int 3)) (.blt .int (.cons (.cmp .Gt (.var 1) (.con (.int 0))) .nil)))) .nil))) (.ife (.cmp .Lt (.var 2) (.con (.int 2))) (.ret (.tup (.cons (.con (.str [97, 110, 121])) .nil)) .done) .done (.ife (.cmp .Eq (.var 2) (.con (.int 2))) (.ret (.tup (.cons (.con (.str [105, 115])) (.cons (.call 20 (.cons (.var 0) (.cons (.lst (.cons (.con (.str [102, 114, 101, 115, 104])) (.cons (.con (.str [111, 108, 100])) (.cons (.con (.str [111, 108, 100, 115])) (.cons (.con (.str [110, 101, 119])) .nil))))) .nil))) .nil))) .done) .done (.ife (.cmp .Eq (.var 2) (.con (.int 3))) (.ret (.tup (.cons (.con (.str [98, 121])) (.cons (.call 21 (.cons (.call 19 (.cons (.var 0) (.cons (.con (.int 12)) .nil))) .nil)) .nil))) .done) .done (.ife (.cmp .Lt (.var 2) (.con (.int 6))) (.ret (.tup (.cons (.ix (.lst (.cons (.con (.str [108, 101, 97, 115, 116])) (.cons (.con (.str [109, 111, 115, 116])) .nil))) (.bin .Sub (.var 2) (.con (.int 4)))) (.cons (.call 20 (.cons (.var 0) (.cons (.lst (.cons (.con (.str [112, 114, 105, 99, 101])) (.cons (.con (.str [119, 105, 100, 101])) (.cons (.con (.str [102, 97, 114])) .nil)))) .nil))) (.cons (.call 22 (.cons (.var 0) .nil)) .nil)))) .done) .done (.ife (.cmp .Eq (.var 2) (.con (.int 6))) (.ret (.tup (.cons (.con (.str [110, 111, 116])) (.cons (.call 24 (.cons (.var 0) (.cons (.bin .Sub (.var 1) (.con (.int 1))) .nil))) .nil))) .done) .done (.asg 3 (.bin .Add (.con (.int 2)) (.call 19 (.cons (.var 0) (.cons (.con (.int 2)) .nil)))) (.ret (.tup (.cons (.ix (.lst (.cons (.con (.str [97, 110, 100])) (.cons (.con (.str [111, 114])) .nil))) (.bin .Sub (.var 2) (.con (.int 7)))) (.cons (.blt .tuple (.cons Zd1 .nil)) .nil))) .done))))))))
noncomputable def ZaI : S := (.asg 5 (.ix (.lst (.cons (.bin .Add (.con (.int 1)) (.call 19 (.cons (.var 0) (.cons (.con (.int 9)) .nil)))) (.cons (.bin .Add (.con (.int 1)) (.call 19 (.cons (.var 0) (.cons (.con (.int 9)) .nil)))) (.cons (.bin .Add (.con (.int 1)) (.call 19 (.cons (.var 0) (.cons (.bin .Pow (.con (.int 10)) (.con (.int 6))) .nil)))) .nil)))) (.call 19 (.cons (.var 0) (.cons (.con (.int 3)) .nil)))) (.asg 6 (.ix (.lst (.cons (.con (.int 1)) (.cons (.bin .Add (.con (.int 1)) (.call 19 (.cons (.var 0) (.cons (.var 5) .nil)))) (.cons (.var 5) .nil)))) (.call 19 (.cons (.var 0) (.cons (.con (.int 3)) .nil)))) (.asg 7 (.ix (.lst (.cons (.tup (.cons (.con (.str [97, 110, 121])) .nil)) (.cons (.call 24 (.cons (.var 0) (.cons (.con (.int 2)) .nil))) .nil))) (.call 19 (.cons (.var 0) (.cons (.con (.int 2)) .nil)))) (.asg 8 (.ix (.lst (.cons (.call 19 (.cons (.var 0) (.cons (.con (.int 3)) .nil))) (.cons (.call 19 (.cons (.var 0) (.cons (.con (.int 1001)) .nil))) .nil))) (.call 19 (.cons (.var 0) (.cons (.con (.int 2)) .nil)))) (.ret (.tup (.cons (.var 1) (.cons (.call 23 (.cons (.var 0) (.cons (.var 2) (.cons (.var 3) .nil)))) (.cons (.var 7) (.cons (.var 5) (.cons (.var 6) (.cons (.var 8) (.cons (.var 4) .nil)))))))) .done)))))
noncomputable def ZbV : E := (.emit (.var 1))
noncomputable def Zb4 : E := (.comp 2 [0] (.ix (.var 1) (.con (.int 3))) (.tp [0, 1]) (.cons (.cmp .Eq (.var 0) (.ix (.var 2) (.con (.int 1)))) .nil) ZbV)
noncomputable def Zhr : E := (.emit (.var 0))
noncomputable def ZhX : E := (.comp 1 [1] (.ix (.var 0) (.con (.int 1))) (.nm 0) (.cons (.call 26 (.cons (.var 0) (.cons (.var 1) .nil))) .nil) Zhr)
noncomputable def Zhq : E := (.emit (.var 0))
noncomputable def ZhW : E := (.comp 1 [1] (.ix (.var 0) (.con (.int 1))) (.nm 0) (.cons (.not (.call 26 (.cons (.var 0) (.cons (.var 1) .nil)))) .nil) Zhq)
noncomputable def Jj : S := (.asg 2 (.ix (.var 0) (.con (.int 0))) (.ife (.cmp .Eq (.var 2) (.con (.str [97, 110, 121]))) (.ret (.con (.bl true)) .done) .done (.ife (.cmp .Eq (.var 2) (.con (.str [105, 115]))) (.ret (.cmp .In (.ix (.var 0) (.con (.int 1))) (.ix (.var 1) (.con (.int 2)))) .done) .done (.ife (.cmp .Eq (.var 2) (.con (.str [98, 121]))) (.ret (.cmp .Eq (.ix (.var 1) (.con (.int 0))) (.ix (.var 0) (.con (.int 1)))) .done) .done (.ife (.cmp .Eq (.var 2) (.con (.str [110, 111, 116]))) (.ret (.not (.call 26 (.cons (.ix (.var 0) (.con (.int 1))) (.cons (.var 1) .nil)))) .done) .done (.ife (.cmp .Eq (.var 2) (.con (.str [97, 110, 100]))) (.ret (.cmp .Eq ZhW (.lst .nil)) .done) .done (.ife (.cmp .Eq (.var 2) (.con (.str [111, 114]))) (.ret (.cmp .NotEq ZhX (.lst .nil)) .done) .done (.asg 3 Zb4 (.ife (.cmp .Eq (.var 3) (.lst .nil)) (.ret (.con (.bl false)) .done) .done (.ret (.ix (.lst (.cons (.cmp .GtE (.ix (.var 3) (.con (.int 0))) (.ix (.var 0) (.con (.int 2)))) (.cons (.cmp .LtE (.ix (.var 3) (.con (.int 0))) (.ix (.var 0) (.con (.int 2)))) .nil))) (.blt .int (.cons (.cmp .Eq (.var 2) (.con (.str [109, 111, 115, 116]))) .nil))) .done))))))))))
noncomputable def Zaw : S := (.asg 5 (.ix (.lst (.cons (.con (.str [114, 121, 101])) (.cons (.con (.str [111, 97, 116])) .nil))) (.bin .FloorDiv (.call 19 (.cons (.var 0) (.cons (.con (.int 9)) .nil))) (.con (.int 8)))) (.asg 6 (.call 21 (.cons (.bin .Add (.var 2) (.bin .Mult (.var 3) (.blt .int (.cons (.cmp .Gt (.call 19 (.cons (.var 0) (.cons (.con (.int 9)) .nil))) (.con (.int 0))) .nil)))) .nil)) (.asg 7 (.call 25 (.cons (.var 0) (.cons (.var 4) (.cons (.var 6) (.cons (.var 5) (.cons (.call 19 (.cons (.var 0) (.cons (.bin .Pow (.con (.int 10)) (.con (.int 9))) .nil))) .nil)))))) (.asg 8 (.ix (.lst (.cons (.ix (.var 7) (.con (.int 3))) (.cons (.bin .Add (.con (.int 1)) (.call 19 (.cons (.var 0) (.cons (.ix (.var 7) (.con (.int 3))) .nil)))) (.cons (.bin .Add (.con (.int 1)) (.call 19 (.cons (.var 0) (.cons (.blt .min2 (.cons (.con (.int 9)) (.cons (.ix (.var 7) (.con (.int 3))) .nil))) .nil)))) .nil)))) (.call 19 (.cons (.var 0) (.cons (.con (.int 3)) .nil)))) (.expr (.mth .append (.var 1) (.cons (.tup (.cons (.var 7) (.cons (.var 8) .nil))) .nil)) .done)))))
noncomputable def ZcJ : S := (.asg 1 (.cel .nil) (.asg 2 (.call 19 (.cons (.var 0) (.cons (.con (.int 12)) .nil))) (.forr (.tp [3, 4]) (.blt .enum (.cons (.tr (.slc (.lst (.cons (.con (.str [103, 105, 118, 101])) (.cons (.con (.str [116, 97, 107, 101])) (.cons (.con (.str [98, 101, 97, 114])) .nil)))) .hole (.bin .Add (.con (.int 2)) (.call 19 (.cons (.var 0) (.cons (.con (.int 2)) .nil)))))) .nil)) Zaw (.ret (.var 1) .done))))
noncomputable def Xa : E := (.emit (.var 0))
noncomputable def Zb3 : E := (.comp 1 [2, 1, 0] (.blt .range1 (.cons (.blt .len (.cons (.ix (.var 0) (.con (.int 1))) .nil)) .nil)) (.nm 0) (.cons (.cmp .Eq (.call 26 (.cons (.ix (.ix (.var 3) (.con (.int 1))) (.var 0)) (.cons (.var 2) .nil))) (.var 1)) .nil) Xa)
noncomputable def Zev : E := (.emit (.call 28 (.cons (.var 0) (.cons (.var 1) .nil))))
noncomputable def Zb2 : E := (.comp 1 [1] (.ix (.var 0) (.con (.int 1))) (.nm 0) .nil Zev)
noncomputable def QR : S := (.asg 2 (.call 26 (.cons (.var 0) (.cons (.var 1) .nil))) (.ife (.cmp .Eq (.ix (.var 0) (.con (.int 0))) (.con (.str [110, 111, 116]))) (.ret (.tup (.cons (.var 2) (.cons (.call 28 (.cons (.ix (.var 0) (.con (.int 1))) (.cons (.var 1) .nil))) .nil))) .done) .done (.ife (.cmp .NotIn (.ix (.var 0) (.con (.int 0))) (.tup (.cons (.con (.str [97, 110, 100])) (.cons (.con (.str [111, 114])) .nil)))) (.ret (.tup (.cons (.var 2) (.cons (.con .non) .nil))) .done) .done (.ife (.cmp .Eq (.var 2) (.cmp .Eq (.ix (.var 0) (.con (.int 0))) (.con (.str [97, 110, 100])))) (.ret (.tup (.cons (.var 2) (.cons (.blt .tuple (.cons Zb2 .nil)) .nil))) .done) .done (.asg 3 (.ix Zb3 (.con (.int 0))) (.ret (.tup (.cons (.var 2) (.cons (.tup (.cons (.var 3) (.cons (.call 28 (.cons (.ix (.ix (.var 0) (.con (.int 1))) (.var 3)) (.cons (.var 1) .nil))) .nil))) .nil))) .done))))))
noncomputable def Ze8 : E := (.emit (.tup (.cons (.con (.str [108, 101, 97, 115, 116])) (.cons (.var 0) .nil))))
noncomputable def Zdj : E := (.comp 1 [] (.var 5) (.nm 0) .nil Ze8)
noncomputable def Ze7 : E := (.emit (.var 0))
noncomputable def Zdi : E := (.comp 1 [4, 0] (.blt .range1 (.cons (.blt .len (.cons (.var 0) .nil)) .nil)) (.nm 0) (.cons (.cmp .Lt (.var 1) (.blt .min2 (.cons (.ix (.ix (.ix (.var 2) (.var 0)) (.con (.int 0))) (.con (.int 4))) (.cons (.ix (.ix (.var 2) (.var 0)) (.con (.int 1))) .nil)))) .nil) Ze7)
noncomputable def ZiV : E := (.emit (.var 1))
noncomputable def Zdh : E := (.comp 2 [] (.var 0) (.tp [0, 1]) .nil ZiV)
noncomputable def Ze4 : S := (.ife (.and (.cmp .NotEq (.var 2) (.var 3)) (.not (.call 26 (.cons (.ix (.ix (.ix (.var 0) (.var 2)) (.con (.int 0))) (.con (.int 2))) (.cons (.ix (.ix (.ix (.var 0) (.var 3)) (.con (.int 0))) (.con (.int 1))) .nil))))) (.ret (.tup (.cons (.con (.str [119, 105, 115, 104])) (.cons (.var 2) (.cons (.var 3) (.cons (.call 28 (.cons (.ix (.ix (.ix (.var 0) (.var 2)) (.con (.int 0))) (.con (.int 2))) (.cons (.ix (.ix (.ix (.var 0) (.var 3)) (.con (.int 0))) (.con (.int 1))) .nil))) .nil))))) .done) .done .done)
noncomputable def Ze3 : S := (.forr (.nm 3) (.blt .range1 (.cons (.blt .len (.cons (.var 0) .nil)) .nil)) Ze4 .done)
noncomputable def ZiU : E := (.emit (.ix (.ix (.var 0) (.con (.int 1))) (.con (.int 0))))
noncomputable def Zff : E := (.comp 2 [] (.var 0) (.tp [0, 1]) .nil ZiU)
noncomputable def ZiT : E := (.emit (.ix (.ix (.var 0) (.con (.int 1))) (.con (.int 1))))
noncomputable def Zdg : E := (.comp 2 [] (.var 0) (.tp [0, 1]) .nil ZiT)
noncomputable def ZcI : S := (.ife (.cmp .Gt (.blt .lenset (.cons Zdg .nil)) (.con (.int 1))) (.ret (.tup (.cons (.con (.str [107, 105, 110, 100])) .nil)) .done) .done (.asg 1 Zff (.ife (.cmp .Lt (.blt .lenset (.cons (.var 1) .nil)) (.blt .len (.cons (.var 1) .nil))) (.ret (.tup (.cons (.con (.str [110, 97, 109, 101])) .nil)) .done) .done (.forr (.nm 2) (.blt .range1 (.cons (.blt .len (.cons (.var 0) .nil)) .nil)) Ze3 (.asg 4 (.blt .minl (.cons Zdh .nil)) (.asg 5 Zdi (.ret (.ix (.bin .Add Zdj (.lst (.cons (.con .non) .nil))) (.con (.int 0))) .done)))))))
noncomputable def ZaX : E := (.emit (.call 30 (.cons (.var 0) .nil)))
noncomputable def ZcG : E := (.comp 1 [] (.var 0) (.nm 0) .nil ZaX)
noncomputable def Xd : S := (.ife (.isi (.var 0) .tuple) (.ret (.blt .all (.cons ZcG .nil)) .done) .done (.ret (.or (.cmp .Is (.var 0) (.con .non)) (.blt .isbis (.cons (.var 0) .nil))) .done))
noncomputable def ZaY : E := (.emit (.call 31 (.cons (.ix (.var 1) (.var 0)) (.cons (.ix (.var 2) (.var 0)) .nil))))
noncomputable def ZcH : E := (.comp 1 [0, 1] (.blt .range1 (.cons (.blt .len (.cons (.var 0) .nil)) .nil)) (.nm 0) .nil ZaY)
noncomputable def Xe : S := (.ife (.and (.isi (.var 0) .tuple) (.isi (.var 1) .tuple)) (.ret (.and (.cmp .Eq (.blt .len (.cons (.var 0) .nil)) (.blt .len (.cons (.var 1) .nil))) (.blt .all (.cons ZcH .nil))) .done) .done (.ret (.and (.cmp .Eq (.isi (.var 0) .bool) (.isi (.var 1) .bool)) (.cmp .Eq (.var 0) (.var 1))) .done))
noncomputable def ZaU : S := (.asg 6 (.call 16 (.cons (.var 3) .nil)) (.ife (.or (.not (.call 30 (.cons (.var 6) .nil))) (.or (.not (.call 31 (.cons (.var 6) (.cons (.var 4) .nil)))) (.cmp .NotEq (.var 3) (.var 2)))) (.ret (.con (.bl false)) .done) .done .done))
noncomputable def Zc6 : S := (.asg 2 (.call 27 (.cons (.call 18 (.cons (.var 1) .nil)) .nil)) (.asg 3 (.blt .list (.cons (.var 2) .nil)) (.asg 4 (.call 29 (.cons (.var 2) .nil)) (.forr (.nm 5) (.blt .range1 (.cons (.con (.int 2)) .nil)) ZaU .done))))
noncomputable def ZeI : S := (.forr (.nm 1) (.bin .Add (.lst (.cons (.call 17 (.cons (.var 0) (.cons (.con (.int 0)) .nil))) .nil)) (.slc (.var 0) (.con (.int 1)) (.con (.int 10)))) Zc6 (.ret (.con (.bl true)) .done))
noncomputable def fns : List Fn := [⟨2, 2, Jv, false⟩, ⟨2, 4, JS, false⟩, ⟨2, 3, X5, false⟩, ⟨2, 3, Jb, false⟩, ⟨2, 4, Jf, false⟩, ⟨2, 4, Qt, false⟩, ⟨1, 1, Xv, false⟩, ⟨1, 1, Xw, false⟩, ⟨2, 2, Xu, false⟩, ⟨2, 2, Xx, false⟩, ⟨1, 1, Jh, false⟩, ⟨1, 1, Qm, false⟩, ⟨1, 1, Qu, false⟩, ⟨3, 3, QC, false⟩, ⟨2, 4, Qg, false⟩, ⟨1, 3, XH, false⟩, ⟨1, 5, Ju, false⟩, ⟨2, 2, Jw, false⟩, ⟨1, 1, Za3, true⟩, ⟨2, 4, Za6, false⟩, ⟨2, 2, Za4, false⟩, ⟨1, 2, Za5, false⟩, ⟨1, 1, JT, false⟩, ⟨3, 5, Za7, false⟩, ⟨2, 4, Xy, false⟩, ⟨5, 9, ZaI, false⟩, ⟨2, 4, Jj, false⟩, ⟨1, 9, ZcJ, false⟩, ⟨2, 4, QR, false⟩, ⟨1, 6, ZcI, false⟩, ⟨1, 1, Xd, false⟩, ⟨2, 2, Xe, false⟩, ⟨1, 7, ZeI, false⟩]
noncomputable def gv : List T := []
noncomputable abbrev cf := Qi fns gv
noncomputable abbrev CF (k : Nat) (b : S) (p q : Nat) (c : Bool) : Prop := ∀ (n : Nat) (ws : List W) (m : Mem), cf (n + 1) k ws m = if ws.length = p then (ex (cf n) gv b (ws.map some ++ List.replicate (q - p) none) m).bind fun fl m' => fin m.length c fl m' else .stuck
theorem ZeD : CF 0 Jv 2 2 false := fun _ _ _ => rfl
theorem Zf6 : CF 1 JS 2 4 false := fun _ _ _ => rfl
theorem ZeC : CF 2 X5 2 3 false := fun _ _ _ => rfl
theorem ZdX : CF 3 Jb 2 3 false := fun _ _ _ => rfl
theorem Zb0 : CF 4 Jf 2 4 false := fun _ _ _ => rfl
theorem Zbq : CF 5 Qt 2 4 false := fun _ _ _ => rfl
theorem Zf7 : CF 6 Xv 1 1 false := fun _ _ _ => rfl
theorem Zf8 : CF 7 Xw 1 1 false := fun _ _ _ => rfl
theorem Zf5 : CF 8 Xu 2 2 false := fun _ _ _ => rfl
theorem Zf9 : CF 9 Xx 2 2 false := fun _ _ _ => rfl
theorem Zde : CF 10 Jh 1 1 false := fun _ _ _ => rfl
theorem Zaf : CF 11 Qm 1 1 false := fun _ _ _ => rfl
theorem ZaF : CF 12 Qu 1 1 false := fun _ _ _ => rfl
theorem Za1 : CF 13 QC 3 3 false := fun _ _ _ => rfl
theorem ZaE : CF 14 Qg 2 4 false := fun _ _ _ => rfl
theorem ZhK : CF 15 XH 1 3 false := fun _ _ _ => rfl
theorem ZeB : CF 16 Ju 1 5 false := fun _ _ _ => rfl
theorem ZeE : CF 17 Jw 2 2 false := fun _ _ _ => rfl
theorem Zi6 : CF 18 Za3 1 1 true := fun _ _ _ => rfl
theorem Zi9 : CF 19 Za6 2 4 false := fun _ _ _ => rfl
theorem Zi7 : CF 20 Za4 2 2 false := fun _ _ _ => rfl
theorem Zi8 : CF 21 Za5 1 2 false := fun _ _ _ => rfl
theorem Zga : CF 22 JT 1 1 false := fun _ _ _ => rfl
theorem Zja : CF 23 Za7 3 5 false := fun _ _ _ => rfl
theorem Zfb : CF 24 Xy 2 4 false := fun _ _ _ => rfl
theorem ZhL : CF 25 ZaI 5 9 false := fun _ _ _ => rfl
theorem Zby : CF 26 Jj 2 4 false := fun _ _ _ => rfl
theorem ZkI : CF 27 ZcJ 1 9 false := fun _ _ _ => rfl
theorem Za2 : CF 28 QR 2 4 false := fun _ _ _ => rfl
theorem ZkH : CF 29 ZcI 1 6 false := fun _ _ _ => rfl
theorem ZdY : CF 30 Xd 1 1 false := fun _ _ _ => rfl
theorem ZdZ : CF 31 Xe 2 2 false := fun _ _ _ => rfl
theorem cf_law : CF 32 ZeI 1 7 false := fun _ _ _ => rfl
end My
end
section
set_option maxRecDepth 20000
namespace My
open Mi
noncomputable def IsSt (s : List T) : Prop := ∃ a b c : Int, s = [.int a, .int b, .int c]
noncomputable def put (m : Mem) (i : Nat) (s : List T) : Mem := m.set i (some (false, s))
theorem Zjj {m : Mem} {i : Nat} {s : List T} (h : i < m.length) : (put m i s)[i]? = some (some (false, s)) := List.getElem?_set_self h
theorem QM {m : Mem} {i : Nat} {s : List T} : (put m i s).length = m.length := List.length_set
theorem Zgw {m : Mem} {i : Nat} {s s' : List T} : (put m i s).set i (some (false, s')) = put m i s' := List.set_set _
theorem mulL {i j : Int} (h : 0 ≤ i) (h' : i < 4294967296) : ZaT i j = true := by
  have : i.natAbs < 2 ^ 64 := by omega
  simp [ZaT, small, this]
theorem mulR {i j : Int} (h : 0 ≤ j) (h' : j < 4294967296) : ZaT i j = true := by
  have : j.natAbs < 2 ^ 64 := by omega
  simp [ZaT, small, this]
section
variable {call : Nat → List W → Mem → Res W} {gv : List T} {env : Env} {m m1 m2 m3 : Mem} {a b c e o v i : E} {x y z r : T} {w w1 w2 : W} {f : Nat} {bb : B} {k : Bool}
theorem Qe {op : PySem.Operator} (h1 : ev call gv a env m = .ok (.t x) m1) (h2 : ev call gv b env m1 = .ok (.t y) m2) (h3 : binT op x y = some r) : ev call gv (.bin op a b) env m = .ok (.t r) m2 := by
  rw [ev, h1, Zw, h2, Zw]
  show pur (binT op x y) m2 = _
  rw [h3]; rfl
theorem Zv {op : PySem.CmpOp} (h1 : ev call gv a env m = .ok (.t x) m1) (h2 : ev call gv b env m1 = .ok (.t y) m2) (h3 : cmpT op x y = some k) : ev call gv (.cmp op a b) env m = .ok (.t (.bl k)) m2 := by
  rw [ev, h1, Zw, h2, Zw]
  show pur ((cmpT op x y).map .bl) m2 = _
  rw [h3]; rfl
theorem Zf (t : T) : ev call gv (.con t) env m = .ok (.t t) m := by rw [ev]
theorem Zb {i : Nat} {w : W} (h : env[i]? = some (some w)) : ev call gv (.var i) env m = .ok w m := by rw [ev, h]
theorem Zcx {c j : Nat} {k : Int} {xs : List T} (h : env[c]? = some (some (.c j))) (hm : m[j]? = some (some (false, xs))) (hx : atT xs k = some r) : ev call gv (.ix (.var c) (.con (.int k))) env m = .ok (.t r) m := by
  rw [ev, Zb h, Zw, Zf, Zw]
  simp only [view, hm, Option.bind_some, ixT, hx]
  rfl
theorem ZD (h1 : ev call gv a env m = .ok (.t x) m1) (h2 : ev call gv b env m1 = .ok (.t y) m2) (h3 : ixT x y = some r) : ev call gv (.ix a b) env m = .ok (.t r) m2 := by
  rw [ev, h1, Zw, h2, Zw]
  show pur (ixT x y) m2 = _
  rw [h3]; rfl
theorem ZL (h : ev call gv e env m = .ok (.t x) m1) (hb : bltT bb [x] = some r) : ev call gv (.blt bb (.cons e .nil)) env m = .ok (.t r) m1 := by
  rw [ev, evs, h]
  show pur (bltT bb [x]) m1 = _
  rw [hb]; rfl
theorem QS (h : ev call gv e env m = .ok w m1) : ev call gv (.call f (.cons e .nil)) env m = call f [w] m1 := by
  rw [ev, evs, h]
  rfl
theorem Zy (h1 : ev call gv a env m = .ok w m1) (h2 : ev call gv b env m1 = .ok w1 m2) : ev call gv (.call f (.cons a (.cons b .nil))) env m = call f [w, w1] m2 := by
  simp only [ev, evs, h1, h2, Zw]
theorem ZiZ (h1 : ev call gv a env m = .ok w m1) (h2 : ev call gv b env m1 = .ok w1 m2) (h3 : ev call gv c env m2 = .ok w2 m3) : ev call gv (.call f (.cons a (.cons b (.cons c .nil)))) env m = call f [w, w1, w2] m3 := by
  simp only [ev, evs, h1, h2, h3, Zw]
theorem Zdb (h1 : ev call gv a env m = .ok (.t x) m1) : ev call gv (.tup (.cons a .nil)) env m = .ok (.t (.tup [x])) m1 := by
  simp only [ev, evs, h1, Zw, Zcw, Zcv]
  exact if_pos (by simp [lim])
theorem QG (h1 : ev call gv a env m = .ok (.t x) m1) (h2 : ev call gv b env m1 = .ok (.t y) m2) : ev call gv (.tup (.cons a (.cons b .nil))) env m = .ok (.t (.tup [x, y])) m2 := by
  simp only [ev, evs, h1, h2, Zw, Zcw, Zcv]
  exact if_pos (by simp [lim])
theorem ZkA (h1 : ev call gv a env m = .ok (.t x) m1) (h2 : ev call gv b env m1 = .ok (.t y) m2) (h3 : ev call gv c env m2 = .ok (.t z) m3) : ev call gv (.tup (.cons a (.cons b (.cons c .nil)))) env m = .ok (.t (.tup [x, y, z])) m3 := by
  simp only [ev, evs, h1, h2, h3, Zw, Zcw, Zcv]
  exact if_pos (by simp [lim])
theorem ZkC (h1 : ev call gv a env m = .ok (.t x) m1) (h2 : ev call gv b env m1 = .ok (.t y) m2) : ev call gv (.lst (.cons a (.cons b .nil))) env m = .ok (.t (.lst [x, y])) m2 := by
  simp only [ev, evs, h1, h2, Zw, Zcw, Zcv]
  exact if_pos (by simp [lim])
theorem Xq (h : ev call gv a env m = .ok (.t (.bl true)) m1) : ev call gv (.and a b) env m = ev call gv b env m1 := by rw [ev, h]; rfl
theorem ZaZ (h : ev call gv a env m = .ok (.t (.bl false)) m1) : ev call gv (.and a b) env m = .ok (.t (.bl false)) m1 := by rw [ev, h]; rfl
theorem XX (h : ev call gv a env m = .ok (.t (.bl k)) m1) : ev call gv (.not a) env m = .ok (.t (.bl (!k))) m1 := by rw [ev, h]; rfl
theorem Zjx (h : ev call gv a env m = .ok (.t (.bl true)) m1) : ev call gv (.or a b) env m = .ok (.t (.bl true)) m1 := by rw [ev, h]; rfl
theorem Zbh (h : ev call gv a env m = .ok (.t (.bl false)) m1) : ev call gv (.or a b) env m = ev call gv b env m1 := by rw [ev, h]; rfl
theorem Q7 {ty : Ty} (h : ev call gv a env m = .ok (.t x) m1) (hk : isT x ty = k) : ev call gv (.isi a ty) env m = .ok (.t (.bl k)) m1 := by rw [ev, h, ← hk]; rfl
end
section
variable {call : Nat → List W → Mem → Res W} {gv : List T} {env : Env} {m m1 m2 m3 : Mem} {a lo hi : E} {es : Es} {x y z r : T} {w : W} {ws : List W} {ts : List T} {f : Nat} {bb : B}
theorem QF {ts : List T} (h : ts.length ≤ 1000 := by exact Nat.le_of_ble_eq_true rfl) : ts.length ≤ lim := Nat.le_trans h (by decide)
theorem Z8 : evs call gv .nil env m = .ok [] m := by rw [evs]
theorem Zq (h1 : ev call gv a env m = .ok w m1) (h2 : evs call gv es env m1 = .ok ws m2) : evs call gv (.cons a es) env m = .ok (w :: ws) m2 := by rw [evs, h1, Zw, h2]; rfl
theorem Jy (h : evs call gv es env m = .ok ws m1) (h2 : frzs ws m1 = .ok ts m1) (hl : ts.length ≤ lim) : ev call gv (.lst es) env m = .ok (.t (.lst ts)) m1 := by rw [ev, h, Zw, h2, Zw, if_pos hl]
theorem Zbg (h : evs call gv es env m = .ok ws m1) (h2 : frzs ws m1 = .ok ts m1) (hl : ts.length ≤ lim) : ev call gv (.tup es) env m = .ok (.t (.tup ts)) m1 := by rw [ev, h, Zw, h2, Zw, if_pos hl]
theorem Z4 (h : evs call gv es env m = .ok ws m1) : ev call gv (.call f es) env m = call f ws m1 := by rw [ev, h]; rfl
theorem Zjy (h : evs call gv es env m = .ok ws m1) (h2 : views ws m1 = some ts) (h3 : bltT bb ts = some r) : ev call gv (.blt bb es) env m = .ok (.t r) m1 := by
  rw [ev, h, Zw, h2]
  show pur (bltT bb ts) m1 = _
  rw [h3]; rfl
theorem ZkB {k : Int} (h1 : ev call gv a env m = .ok (.t x) m1) (h2 : ev call gv hi env m1 = .ok (.t (.int k)) m2) (h3 : slT x none (some k) = some r) (hh : Z0 hi = false := by rfl) : ev call gv (.slc a .hole hi) env m = .ok (.t r) m2 := by
  rw [ev, h1, Zw, show Z0 .hole = true from rfl, if_pos rfl, Zw, hh, if_neg Bool.false_ne_true, h2]
  show pur (slT x none (some k)) m2 = _
  rw [h3]; rfl
end
section
variable {call : Nat → List W → Mem → Res W} {gv : List T} {env env' : Env} {m m1 m2 : Mem} {k a b : S} {e : E} {w : W}
theorem Zkz (h : ev call gv e env m = .ok w m1) : ex call gv (.expr e k) env m = ex call gv k env m1 := by rw [ex, h]; rfl
end
section
variable {call : Nat → List W → Mem → Res W} {gv : List T} {env : Env} {m m1 m2 : Mem} {a c inner : E} {x : T} {xs : List T}
theorem Xc (h : ev call gv a env m = .ok (.t x) m1) : ev call gv (.emit a) env m = .ok (.t (.lst [x])) m1 := by rw [ev, h]; rfl
theorem ZeM (h : ev call gv c env m = .ok (.t (.bl true)) m1) (h2 : ev call gv inner env m1 = .ok (.t (.lst xs)) m2) : QW call gv (.cons c .nil) inner env m = .ok xs m2 := by
  unfold QW
  rw [tests, h, Zw, ZcN, Zw, if_pos rfl, tests, Zw, if_pos rfl, h2]
  rfl
theorem ZeN (h : ev call gv c env m = .ok (.t (.bl false)) m1) : QW call gv (.cons c .nil) inner env m = .ok [] m1 := by
  unfold QW
  rw [tests, h, Zw, ZcN, Zw, if_neg (by decide), Zw, if_neg (by decide)]
theorem Zgp (h2 : ev call gv inner env m = .ok (.t (.lst xs)) m2) : QW call gv .nil inner env m = .ok xs m2 := by
  unfold QW
  rw [tests, Zw, if_pos rfl, h2]
  rfl
end
theorem at0 {α : Type} (a : α) (r : List α) : atT (a :: r) 0 = some a := by simp [atT, ixOf]
theorem Zfg {α : Type} {xs : List α} {i : Int} (h0 : 0 ≤ i) (h1 : i < xs.length) : atT xs i = xs[i.toNat]? := by
  unfold atT ixOf
  rw [if_pos h0, if_pos h1]
  rfl
theorem Xb {α β : Type} (f : α → β) (xs : List α) : xs.flatMap (fun x => [f x]) = xs.map f := by
  induction xs with
  | nil => rfl
  | cons x xs ih => simp [ih]
noncomputable def Jx (p : List Nat × Int) : T := .tup [.str p.1, .int p.2]
noncomputable def Z7 (nm kd : List Nat) (mk : List (List Nat)) (sz : List (List Nat × Int)) : T := .tup [.str nm, .str kd, .tup (mk.map .str), .tup (sz.map Jx)]
theorem card0 (nm kd mk sz) : ixT (Z7 nm kd mk sz) (.int 0) = some (.str nm) := rfl
theorem card2 (nm kd mk sz) : ixT (Z7 nm kd mk sz) (.int 2) = some (.tup (mk.map .str)) := rfl
theorem card3 (nm kd mk sz) : ixT (Z7 nm kd mk sz) (.int 3) = some (.tup (sz.map Jx)) := rfl
theorem in_words (w : List Nat) (mk : List (List Nat)) : cmpT .In (.str w) (.tup (mk.map .str)) = some (mk.any fun a => a == w) := by
  have h1 : hasT (.str w) (.tup (mk.map .str)) = some (mk.any fun a => a == w) := by
    have ha : (mk.map T.str).all flat = true := by simp [flat]
    have hb : ((mk.map T.str).any fun t => eqT t (.str w)) = mk.any fun a => a == w := by
      induction mk with
      | nil => rfl
      | cons a mk ih => simp only [List.map_cons, List.any_cons, eqT]; rw [ih (by simp [flat])]
    unfold hasT
    dsimp only
    rw [ha, hb]
    rfl
  rw [← h1]
  rcases w with _ | ⟨c, _ | ⟨d, r⟩⟩ <;> rfl
theorem Zew {n : Nat} {m : Mem} {nm kd w : List Nat} {mk sz} : cf (n + 1) 0 [.t (Z7 nm kd mk sz), .t (.str w)] m = .ok (.t (.bl (mk.any fun a => a == w))) m := by
  have key : ex (cf n) gv Jv [some (.t (Z7 nm kd mk sz)), some (.t (.str w))] m = .ok (.ret (.t (.bl (mk.any fun a => a == w)))) m := by
    unfold Jv
    exact Zo (Zv (Zb rfl) (ZD (Zb rfl) (Zf _) (card2 _ _ _ _)) (in_words w mk))
  rw [ZeD]
  simp [key, Zw, ZS]
noncomputable def ZaJ : List (List Nat × Int) → List Nat → Option Int
  | [], _ => none
  | p :: r, w => if p.1 == w then some p.2 else ZaJ r w
noncomputable def optT : Option Int → T
  | some v => .int v
  | none => .non
theorem Zdw {n : Nat} {m : Mem} {c : Option W} {w : List Nat} : ∀ (sz : List (List Nat × Int)) (a b : Option W), match ZaJ sz w with
    | some v => Qk (ex (cf n) gv Qa) (.tp [2, 3]) (sz.map Jx) [c, some (.t (.str w)), a, b] m = .ok (.ret (.t (.int v))) m
    | none => ∃ a' b', Qk (ex (cf n) gv Qa) (.tp [2, 3]) (sz.map Jx) [c, some (.t (.str w)), a, b] m = .ok (.next [c, some (.t (.str w)), a', b']) m
  | [], a, b => ⟨a, b, rfl⟩
  | p :: sz, a, b => by
    have hb : Jl (.tp [2, 3]) (Jx p) [c, some (.t (.str w)), a, b] = some [c, some (.t (.str w)), some (.t (.str p.1)), some (.t (.int p.2))] := rfl
    have hc : ev (cf n) gv (.cmp .Eq (.var 2) (.var 1)) [c, some (.t (.str w)), some (.t (.str p.1)), some (.t (.int p.2))] m = .ok (.t (.bl (p.1 == w))) m := Zv (Zb rfl) (Zb rfl) (Zbr _ _)
    rw [List.map_cons, ZaJ]
    cases hw : (p.1 == w) with
    | true =>
      rw [hw] at hc
      show Qk _ _ (Jx p :: _) _ _ = _
      rw [Qk, hb]
      have : ex (cf n) gv Qa [c, some (.t (.str w)), some (.t (.str p.1)), some (.t (.int p.2))] m = .ok (.ret (.t (.int p.2))) m := Qj hc (Zo (Zb rfl))
      show (ex (cf n) gv Qa [c, some (.t (.str w)), some (.t (.str p.1)), some (.t (.int p.2))] m).bind _ = _
      rw [this]
      rfl
    | false =>
      rw [hw] at hc
      have step : Qk (ex (cf n) gv Qa) (.tp [2, 3]) (Jx p :: sz.map Jx) [c, some (.t (.str w)), a, b] m = Qk (ex (cf n) gv Qa) (.tp [2, 3]) (sz.map Jx) [c, some (.t (.str w)), some (.t (.str p.1)), some (.t (.int p.2))] m := by
        rw [Qk, hb]
        have : ex (cf n) gv Qa [c, some (.t (.str w)), some (.t (.str p.1)), some (.t (.int p.2))] m = .ok (.next [c, some (.t (.str w)), some (.t (.str p.1)), some (.t (.int p.2))]) m := by
          unfold Qa
          rw [Z2 hc, ex]
        show (ex (cf n) gv Qa [c, some (.t (.str w)), some (.t (.str p.1)), some (.t (.int p.2))] m).bind _ = _
        rw [this]
        rfl
      rw [step]
      exact Zdw sz _ _
theorem Zfo {n : Nat} {m : Mem} {nm kd w : List Nat} {mk sz} : cf (n + 1) 1 [.t (Z7 nm kd mk sz), .t (.str w)] m = .ok (.t (optT (ZaJ sz w))) m := by
  have key : ex (cf n) gv JS [some (.t (Z7 nm kd mk sz)), some (.t (.str w)), none, none] m = .ok (.ret (.t (optT (ZaJ sz w)))) m := by
    unfold JS
    have h := Zdw (n := n) (m := m) (c := some (.t (Z7 nm kd mk sz))) (w := w) sz none none
    have hit : ev (cf n) gv (.ix (.var 0) (.con (.int 3))) [some (.t (Z7 nm kd mk sz)), some (.t (.str w)), none, none] m = .ok (.t (.tup (sz.map Jx))) m := ZD (Zb rfl) (Zf _) (card3 _ _ _ _)
    cases q : ZaJ sz w with
    | none =>
      rw [q] at h
      obtain ⟨a', b', h⟩ := h
      rw [XD hit rfl h]
      exact Zo (Zf _)
    | some v =>
      rw [q] at h
      have h : Qk (ex (cf n) gv Qa) (.tp [2, 3]) (sz.map Jx) [some (.t (Z7 nm kd mk sz)), some (.t (.str w)), none, none] m = .ok (.ret (.t (.int v))) m := h
      rw [ex, hit]
      show (Qk (ex (cf n) gv Qa) (.tp [2, 3]) (sz.map Jx) [some (.t (Z7 nm kd mk sz)), some (.t (.str w)), none, none] m).bind _ = _
      rw [h]
      rfl
  rw [Zf6]
  simp [key, Zw, ZS]
inductive Lf : T → Prop where
  | any : Lf (.tup [.str [97, 110, 121]])
  | is (w : List Nat) : Lf (.tup [.str [105, 115], .str w])
  | by (w : List Nat) : Lf (.tup [.str [98, 121], .str w])
  | least (w : List Nat) (v : Int) : Lf (.tup [.str [108, 101, 97, 115, 116], .str w, .int v])
  | most (w : List Nat) (v : Int) : Lf (.tup [.str [109, 111, 115, 116], .str w, .int v])
inductive DW : Nat → T → Prop where
  | leaf {d : Nat} {t : T} : Lf t → DW d t
  | nt {d : Nat} {a : T} : DW d a → DW (d + 1) (.tup [.str [110, 111, 116], a])
  | jn {d : Nat} {b : Bool} {ts : List T} : ts.length ≤ 6 → (∀ t ∈ ts, DW d t) → DW (d + 1) (.tup [.str (if b then [97, 110, 100] else [111, 114]), .tup ts])
noncomputable def XN (nm : List Nat) (mk : List (List Nat)) (sz : List (List Nat × Int)) : T → Bool
  | .tup [.str _] => true
  | .tup [.str a, .str w] => if a == [105, 115] then mk.any fun a => a == w else nm == w
  | .tup [.str a, .str w, .int v] => match ZaJ sz w with
    | none => false
    | some u => if a == [108, 101, 97, 115, 116] then decide (v ≤ u) else decide (u ≤ v)
  | _ => false
theorem optN : ∀ o, cmpT .Is (optT o) .non = some (o.isNone)
  | none => rfl
  | some _ => rfl
theorem Zbe {n : Nat} {m : Mem} {nm kd a w : List Nat} {mk sz} {v : Int} : cf (n + 2) 3 [.t (.tup [.str a, .str w, .int v]), .t (Z7 nm kd mk sz)] m = .ok (.t (.bl (XN nm mk sz (.tup [.str a, .str w, .int v])))) m := by
  have key : ex (cf (n + 1)) gv Jb [some (.t (.tup [.str a, .str w, .int v])), some (.t (Z7 nm kd mk sz)), none] m = .ok (.ret (.t (.bl (XN nm mk sz (.tup [.str a, .str w, .int v]))))) m := by
    unfold Jb
    rw [Zx ((Zy (Zb rfl) (ZD (Zb rfl) (Zf _) rfl)).trans (Zfo (n := n)))]
    simp only [List.set_cons_succ, List.set_cons_zero]
    have hn : ev (cf (n + 1)) gv (.cmp .Is (.var 2) (.con .non)) [some (.t (.tup [.str a, .str w, .int v])), some (.t (Z7 nm kd mk sz)), some (.t (optT (ZaJ sz w)))] m = .ok (.t (.bl (ZaJ sz w).isNone)) m := Zv (Zb rfl) (Zf _) (optN _)
    cases q : ZaJ sz w with
    | none =>
      rw [q] at hn
      rw [Qj hn (Zo (Zf _))]
      simp [XN, q]
    | some u =>
      rw [q] at hn
      rw [Z2 hn]
      have hl : ev (cf (n + 1)) gv (.cmp .Eq (.ix (.var 0) (.con (.int 0))) (.con (.str [108, 101, 97, 115, 116]))) [some (.t (.tup [.str a, .str w, .int v])), some (.t (Z7 nm kd mk sz)), some (.t (optT (some u)))] m = .ok (.t (.bl (a == [108, 101, 97, 115, 116]))) m := Zv (ZD (Zb rfl) (Zf _) rfl) (Zf _) (Zbr _ _)
      cases ha : (a == [108, 101, 97, 115, 116]) with
      | true =>
        rw [ha] at hl
        rw [Qj hl (Zo (Zv (k := decide (v ≤ u)) (Zb rfl) (ZD (Zb rfl) (Zf _) rfl) (c_ge u v)))]
        simp [XN, q, ha]
      | false =>
        rw [ha] at hl
        rw [Z2 hl]
        rw [Zo (Zv (k := decide (u ≤ v)) (Zb rfl) (ZD (Zb rfl) (Zf _) rfl) (c_le u v))]
        simp [XN, q, ha]
  rw [ZdX]
  simp [key, Zw, ZS]
theorem Z1 {n : Nat} {m : Mem} {i : Nat} {s : List T} {many : Int} (hi : i < m.length) (hs : IsSt s) (h1 : 0 < many) (h2 : many < 1073741824) :
    ∃ r s', cf (n + 1) 19 [.c i, .t (.int many)] (put m i s) = .ok (.t (.int r)) (put m i s') ∧ IsSt s' ∧ 0 ≤ r ∧ r < many := by
  obtain ⟨a, b, c, rfl⟩ := hs
  have key : ∃ r s', ex (cf n) gv Za6 [some (.c i), some (.t (.int many)), none, none] (put m i [.int a, .int b, .int c]) = .ok (.ret (.t (.int r))) (put m i s') ∧ IsSt s' ∧ 0 ≤ r ∧ r < many := by
    have h := Zjj (s := [.int a, .int b, .int c]) hi
    unfold Za6
    have hg : ev (cf n) gv (.cmp .Gt (.ix (.var 0) (.con (.int 0))) (.con (.int 0))) [some (.c i), some (.t (.int many)), none, none] (put m i [.int a, .int b, .int c]) = .ok (.t (.bl (decide (0 < a)))) (put m i [.int a, .int b, .int c]) := by
      rw [ev, Zcx rfl h rfl, Zw, Zf, Zw]
      rfl
    by_cases ha : 0 < a
    · rw [decide_eq_true ha] at hg
      refine ⟨a % many, [.int (a / many), .int b, .int c], Qj hg ?_, ⟨_, _, _, rfl⟩, Int.emod_nonneg _ (by omega), Int.emod_lt_of_pos _ h1⟩
      rw [Zx (Qe (Zcx rfl h rfl) (Zb rfl) (ZeH h1))]
      rw [Zhx (Qe (Zcx rfl h rfl) (Zb rfl) (Zje ⟨h1, h2⟩)) (Zb rfl) (Zf _) h rfl]
      rw [Zgw]
      exact Zo (Zb rfl)
    · rw [decide_eq_false ha] at hg
      rw [Z2 hg]
      have h4 : ZaT 7919 (c + 1) = true := mulL (by decide) (by decide)
      have h5 : ∀ x, ZaT x 48271 = true := fun x => mulR (by decide) (by decide)
      have h6 : ∀ x y, ZaT (x % 2147483647) y = true := fun x y => mulL (Int.emod_nonneg _ (by decide)) (by have := Int.emod_lt_of_pos x (b := 2147483647) (by decide); omega)
      have hp := Zjj (s := [.int a, .int b, .int (c + 1)]) hi
      obtain ⟨z, hz⟩ : ∃ z : Int, ex (cf n) gv (.set (.var 0) (.con (.int 2)) (.bin .Add (.ix (.var 0) (.con (.int 2))) (.con (.int 1))) (.asg 3 (.bin .Mod (.bin .Mult (.bin .Add (.bin .Add (.ix (.var 0) (.con (.int 1))) (.bin .Mult (.con (.int 7919)) (.ix (.var 0) (.con (.int 2))))) (.con (.int 1))) (.con (.int 48271))) (.con (.int 2147483647))) (.asg 3 (.bin .Mod (.bin .Mult (.var 3) (.bin .Add (.bin .FloorDiv (.var 3) (.con (.int 1009))) (.con (.int 69621)))) (.con (.int 2147483647))) (.ret (.bin .Mod (.bin .Mod (.bin .Mult (.var 3) (.bin .Add (.bin .FloorDiv (.var 3) (.con (.int 2003))) (.con (.int 40692)))) (.con (.int 2147483399))) (.var 1)) .done)))) [some (.c i), some (.t (.int many)), none, none] (put m i [.int a, .int b, .int c]) = .ok (.ret (.t (.int (z % many)))) (put m i [.int a, .int b, .int (c + 1)]) := by
        refine ⟨(((b + 7919 * (c + 1) + 1) * 48271 % 2147483647) * (((b + 7919 * (c + 1) + 1) * 48271 % 2147483647) / 1009 + 69621) % 2147483647) * ((((b + 7919 * (c + 1) + 1) * 48271 % 2147483647) * (((b + 7919 * (c + 1) + 1) * 48271 % 2147483647) / 1009 + 69621) % 2147483647) / 2003 + 40692) % 2147483399, ?_⟩
        rw [Zhx (Qe (Zcx rfl h rfl) (Zf _) (ZeJ _ _)) (Zb rfl) (Zf _) h rfl]
        show ex (cf n) gv _ _ (put m i [.int a, .int b, .int c] |>.set i (some (false, [.int a, .int b, .int (c + 1)]))) = _
        rw [Zgw]
        rw [Zx (Qe (Qe (Qe (Qe (Zcx rfl hp rfl) (Qe (Zf _) (Zcx rfl hp rfl) (Zgd h4)) (ZeJ _ _)) (Zf _) (ZeJ _ _)) (Zf _) (Zgd (h5 _))) (Zf _) (ZeH (by decide)))]
        rw [Zx (Qe (Qe (Zb rfl) (Qe (Qe (Zb rfl) (Zf _) (Zje (by decide))) (Zf _) (ZeJ _ _)) (Zgd (h6 _ _))) (Zf _) (ZeH (by decide)))]
        exact Zo (Qe (Qe (Qe (Zb rfl) (Qe (Qe (Zb rfl) (Zf _) (Zje (by decide))) (Zf _) (ZeJ _ _)) (Zgd (h6 _ _))) (Zf _) (ZeH (by decide))) (Zb rfl) (ZeH h1))
      exact ⟨z % many, _, hz, ⟨_, _, _, rfl⟩, Int.emod_nonneg _ (Int.ne_of_gt h1), Int.emod_lt_of_pos _ h1⟩
  obtain ⟨r, s', e, h⟩ := key
  refine ⟨r, s', ?_, h⟩
  exact Qv (Zi9 _ _ _) rfl e (ZS (cell := false) (by rw [QM, QM]))
theorem ZjL {n : Nat} {m : Mem} {x : Int} : ∃ s, cf (n + 1) 18 [.t (.int x)] m = .ok (.c m.length) (put (m ++ [none]) m.length s) ∧ IsSt s := by
  have hb : ∀ y : Int, ∀ k : Bool, ZaT y (b2i k) = true := fun y k => mulR (by cases k <;> decide) (by cases k <;> decide)
  refine ⟨[.int (x * b2i (decide (1000000000000000000 ≤ x))), .int (x % 2147483647), .int 0], ?_, ⟨_, _, _, rfl⟩⟩
  have key : ex (cf n) gv Za3 [some (.t (.int x))] m = .ok (.ret (.c m.length)) (m ++ [some (false, [.int (x * b2i (decide (1000000000000000000 ≤ x))), .int (x % 2147483647), .int 0])]) := by
    unfold Za3
    exact Zo (by simp [ev, evs, isT, Z0, EVs, ZkQ, Zgd (hb _ _), ZeH, lim])
  rw [Zi6]
  simp [key, Zw, fin, put]
theorem ZkJ {n : Nat} {m : Mem} {ns : List Int} : ∃ v : Int, cf (n + 1) 17 [.t (.scr ns), .t (.int 0)] m = .ok (.t (.int v)) m := by
  have key : ∃ v : Int, ex (cf n) gv Jw [some (.t (.scr ns)), some (.t (.int 0))] m = .ok (.ret (.t (.int v))) m := by
    unfold Jw
    by_cases h : (0 : Int) < ns.length
    · obtain ⟨v, hv, _⟩ := Jc (xs := ns) (i := 0) (by decide) h
      exact ⟨v, Qj (m1 := m) (by simp [ev, evs, isT, Z0, EVs]; omega) (Zo (by simp [ev, evs, isT, Z0, EVs, hv]))⟩
    · have h' : ns = [] := List.length_eq_zero_iff.mp (by omega)
      subst h'
      refine ⟨0, ?_⟩
      rw [Z2 (m1 := m) (by simp [ev, evs, isT, Z0, EVs])]
      exact Zo (by simp [ev, evs, isT, Z0, EVs])
  obtain ⟨v, e⟩ := key
  refine ⟨v, ?_⟩
  rw [ZeE]
  simp [e, Zw, ZS]
theorem Zhy {call : Nat → List W → Mem → Res W} {gv : List T} {env : Env} {m m1 m2 : Mem} {a b : E} {x y r : T} {bb : B} (h1 : ev call gv a env m = .ok (.t x) m1) (h2 : ev call gv b env m1 = .ok (.t y) m2) (hb : bltT bb [x, y] = some r) : ev call gv (.blt bb (.cons a (.cons b .nil))) env m = .ok (.t r) m2 := by
  rw [ev, evs, h1, Zw, evs, h2, Zw, evs, Zw, Zw, Zw]
  show pur (bltT bb [x, y]) m2 = _
  rw [hb]
  rfl
noncomputable def okS (cs : List Nat) : Bool := PySem.PyData.strOk ⟨cs.toArray⟩
noncomputable def Dk (d : Nat) (w : T) : Prop := ∀ k, Zu (k + (2 * d + 1)) w = true
theorem ZjZ {n : Nat} {m : Mem} {i : Nat} {s xs : List T} (hi : i < m.length) (hs : IsSt s) (h0 : 0 < xs.length) (h1 : xs.length < 1000) :
    ∃ x s', cf (n + 2) 20 [.c i, .t (.lst xs)] (put m i s) = .ok (.t x) (put m i s') ∧ IsSt s' ∧ x ∈ xs := by
  obtain ⟨r, s1, g1, hs1, r0, r1⟩ := Z1 (n := n) (many := (xs.length : Int)) hi hs (by omega) (by omega)
  obtain ⟨x, hx, hm⟩ := Jc r0 r1
  refine ⟨x, s1, ?_, hs1, hm⟩
  have key : ex (cf (n + 1)) gv Za4 [some (.c i), some (.t (.lst xs))] (put m i s) = .ok (.ret (.t x)) (put m i s1) := by
    unfold Za4
    exact Zo (by simp [ev, evs, isT, Z0, EVs, g1, hx])
  exact Qv (Zi7 _ _ _) rfl key (ZS (cell := false) (by rw [QM, QM]))
noncomputable def names12 : List T := [.str [97], .str [97, 98], .str [98], .str [97, 110, 121, 97], .str [105, 115, 108, 97, 110, 100], .str [97, 98, 99], .str [122], .str [98, 121, 98, 121, 101], .str [111, 114, 100, 101, 114], .str [110, 111, 116, 101, 115], .str [99], .str [122, 122, 122, 122, 122, 122, 122, 122]]
theorem Zhd {n : Nat} {m : Mem} {k : Int} : ∃ cs, cf (n + 1) 21 [.t (.int k)] m = .ok (.t (.str cs)) m ∧ okS cs = true := by
  obtain ⟨w, hw, hm⟩ := Jc (xs := names12) (i := k % 12) (by omega) (by simp [names12]; omega)
  have hw' : ∃ cs : List Nat, w = .str cs ∧ okS cs = true := by
    simp only [names12, List.mem_cons, List.not_mem_nil, or_false] at hm
    rcases hm with rfl | rfl | rfl | rfl | rfl | rfl | rfl | rfl | rfl | rfl | rfl | rfl <;> exact ⟨_, rfl, by decide +kernel⟩
  obtain ⟨cs, rfl, hwb⟩ := hw'
  refine ⟨cs, ?_, hwb⟩
  have key : ex (cf n) gv Za5 [some (.t (.int k)), none] m = .ok (.ret (.t (.str cs))) m := by
    unfold Za5
    rw [Zx (w := .t (.lst names12)) (m1 := m) (by simp [ev, evs, isT, Z0, EVs, lim, names12])]
    exact Zo (by simp [ev, evs, isT, Z0, EVs, ZeH, hw])
  exact Qv (Zi8 _ _ _) rfl key (ZS (cell := false) rfl)
theorem ZdK {n : Nat} {m : Mem} {i : Nat} {s : List T} (hi : i < m.length) (hs : IsSt s) : ∃ (v : Int) (s' : List T), cf (n + 2) 22 [.c i] (put m i s) = .ok (.t (.int v)) (put m i s') ∧ IsSt s' ∧ 0 ≤ v ∧ v ≤ 1000000000 := by
  have key : ∃ (v : Int) (s' : List T), ex (cf (n + 1)) gv JT [some (.c i)] (put m i s) = .ok (.ret (.t (.int v))) (put m i s') ∧ IsSt s' ∧ 0 ≤ v ∧ v ≤ 1000000000 := by
    obtain ⟨r1, s1, h1, hs1, a0, a1⟩ := Z1 (n := n) (many := 6) hi hs (by decide) (by decide)
    obtain ⟨r2, s2, h2, hs2, b0, b1⟩ := Z1 (n := n) (many := 6) hi hs1 (by decide) (by decide)
    obtain ⟨r3, s3, h3, hs3, c0, c1⟩ := Z1 (n := n) (many := 3) hi hs2 (by decide) (by decide)
    obtain ⟨r5, s5, h5, hs5, k0, k1⟩ := Z1 (n := n) (many := 3) hi hs3 (by decide) (by decide)
    obtain ⟨z, hz, hzm⟩ := Jc (xs := [T.int r1, .int r2, .int (1000000000 - r3)]) k0 (by simpa using k1)
    have hz' : ∃ v : Int, z = .int v ∧ 0 ≤ v ∧ v ≤ 1000000000 := by
      simp only [List.mem_cons, List.not_mem_nil, or_false] at hzm
      rcases hzm with rfl | rfl | rfl <;> exact ⟨_, rfl, by omega, by omega⟩
    obtain ⟨v, rfl, hv⟩ := hz'
    refine ⟨v, s5, ?_, hs5, hv⟩
    unfold JT
    exact Zo (by simp [ev, evs, isT, Z0, EVs, h1, h2, h3, h5, ZkQ, lim, hz])
  obtain ⟨v, s', e, hs', hl⟩ := key
  refine ⟨v, s', ?_, hs', hl⟩
  exact Qv (Zga _ _ _) rfl e (ZS (cell := false) (by rw [QM, QM]))
theorem turns3 {R : T → List T → Prop} {a b c : T} {xss : List (List T)} (h : Turns R [a, b, c] xss) : ∃ x y z, xss = [x, y, z] ∧ R a x ∧ R b y ∧ R c z := by
  cases h with
  | cons r1 h => cases h with
    | cons r2 h => cases h with
      | cons r3 h => cases h; exact ⟨_, _, _, rfl, r1, r2, r3⟩
theorem turns2 {R : T → List T → Prop} {a b : T} {xss : List (List T)} (h : Turns R [a, b] xss) : ∃ x y, xss = [x, y] ∧ R a x ∧ R b y := by
  cases h with
  | cons r1 h => cases h with
    | cons r2 h => cases h; exact ⟨_, _, rfl, r1, r2⟩
theorem ZfV {n : Nat} {m : Mem} {i : Nat} {s : List T} {e1 e2 e3 e4 : Option W} (hi : i < m.length) (hs : IsSt s) :
    ∃ (mk : List (List Nat)) (s' : List T), ev (cf (n + 1)) gv Zb5 [some (.c i), e1, e2, e3, e4] (put m i s) = .ok (.t (.lst (mk.map .str))) (put m i s') ∧ IsSt s' ∧ mk.length ≤ 100 ∧ ∀ w ∈ mk, okS w = true := by
  obtain ⟨xss, m', h2, ⟨s2, rfl, hs2⟩, ht⟩ := Zav (f := QW (cf (n + 1)) gv (.cons (.cmp .Eq (.call 19 (.cons (.var 1) (.cons (.con (.int 2)) .nil))) (.con (.int 1))) .nil) Zay) (tg := .nm 0) (env := [none, some (.c i)]) (P := fun m' => ∃ s, m' = put m i s ∧ IsSt s) (R := fun t xs => xs = [] ∨ xs = [t]) [.str [102, 114, 101, 115, 104], .str [111, 108, 100], .str [111, 108, 100, 115]] (put m i s) ⟨s, rfl, hs⟩ (by
    rintro t ht m' ⟨s, rfl, hs⟩
    obtain ⟨q, s3, h3, hs3, hq0, hq1⟩ := Z1 (n := n) (many := 2) hi hs (by decide) (by decide)
    by_cases hq : q = 1
    · exact ⟨[some (.t t), some (.c i)], [t], put m i s3, rfl, by simp [QW, tests, Zay, ev, evs, isT, Z0, EVs, h3, hq], ⟨s3, rfl, hs3⟩, .inr rfl⟩
    · exact ⟨[some (.t t), some (.c i)], [], put m i s3, rfl, by simp [QW, tests, Zay, ev, evs, isT, Z0, EVs, h3, hq], ⟨s3, rfl, hs3⟩, .inl rfl⟩)
  obtain ⟨x, y, z, rfl, r1, r2, r3⟩ := turns3 ht
  have hx : ∃ mk : List (List Nat), [x, y, z].flatten = mk.map T.str ∧ mk.length ≤ 100 ∧ ∀ w ∈ mk, okS w = true := by
    have a1 : okS [102, 114, 101, 115, 104] = true := by decide +kernel
    have a2 : okS [111, 108, 100] = true := by decide +kernel
    have a3 : okS [111, 108, 100, 115] = true := by decide +kernel
    rcases r1 with rfl | rfl <;> rcases r2 with rfl | rfl <;> rcases r3 with rfl | rfl
    · exact ⟨[], rfl, by decide, by simp⟩
    · exact ⟨[_], rfl, by decide, by simp [a3]⟩
    · exact ⟨[_], rfl, by decide, by simp [a2]⟩
    · exact ⟨[_, _], rfl, by decide, by simp [a2, a3]⟩
    · exact ⟨[_], rfl, by decide, by simp [a1]⟩
    · exact ⟨[_, _], rfl, by decide, by simp [a1, a3]⟩
    · exact ⟨[_, _], rfl, by decide, by simp [a1, a2]⟩
    · exact ⟨[_, _, _], rfl, by decide, by simp [a1, a2, a3]⟩
  obtain ⟨mk, e, hl, hk⟩ := hx
  rw [e] at h2
  exact ⟨mk, s2, QB (x := .t (.lst [.str [102, 114, 101, 115, 104], .str [111, 108, 100], .str [111, 108, 100, 115]])) (m0 := put m i s) (m1 := put m i s) rfl rfl h2 (by rw [List.length_map]; unfold lim; omega), hs2, hl, hk⟩
theorem Zfn {n : Nat} {m : Mem} {i : Nat} {s : List T} {e1 e2 e3 e4 : Option W} (hi : i < m.length) (hs : IsSt s) :
    ∃ (sz : List (List Nat × Int)) (s' : List T), ev (cf (n + 2)) gv Zd2 [some (.c i), e1, e2, e3, e4] (put m i s) = .ok (.t (.lst (sz.map Jx))) (put m i s') ∧ IsSt s' ∧ sz.length ≤ 100 ∧ ∀ p ∈ sz, okS p.1 = true := by
  obtain ⟨xss, m', h2, ⟨s2, rfl, hs2⟩, ht⟩ := Zav (f := QW (cf (n + 2)) gv (.cons (.cmp .Eq (.call 19 (.cons (.var 1) (.cons (.con (.int 2)) .nil))) (.con (.int 1))) .nil) Zaz) (tg := .nm 0) (env := [none, some (.c i)]) (P := fun m' => ∃ s, m' = put m i s ∧ IsSt s) (R := fun t xs => xs = [] ∨ ∃ v : Int, 0 ≤ v ∧ v ≤ 1000000000 ∧ xs = [.tup [t, .int v]]) [.str [112, 114, 105, 99, 101], .str [119, 105, 100, 101]] (put m i s) ⟨s, rfl, hs⟩ (by
    rintro t ht m' ⟨s, rfl, hs⟩
    obtain ⟨q, s3, h3, hs3, hq0, hq1⟩ := Z1 (n := n + 1) (many := 2) hi hs (by decide) (by decide)
    by_cases hq : q = 1
    · obtain ⟨v, s4, h4, hs4, v0, v1⟩ := ZdK (n := n) hi hs3
      exact ⟨[some (.t t), some (.c i)], [.tup [t, .int v]], put m i s4, rfl, by simp [QW, tests, Zaz, ev, evs, isT, Z0, EVs, h3, hq, h4, lim], ⟨s4, rfl, hs4⟩, .inr ⟨v, v0, v1, rfl⟩⟩
    · exact ⟨[some (.t t), some (.c i)], [], put m i s3, rfl, by simp [QW, tests, Zaz, ev, evs, isT, Z0, EVs, h3, hq], ⟨s3, rfl, hs3⟩, .inl rfl⟩)
  obtain ⟨x, y, rfl, r1, r2⟩ := turns2 ht
  have hx : ∃ sz : List (List Nat × Int), [x, y].flatten = sz.map Jx ∧ sz.length ≤ 100 ∧ ∀ p ∈ sz, okS p.1 = true := by
    have a1 : okS [112, 114, 105, 99, 101] = true := by decide +kernel
    have a2 : okS [119, 105, 100, 101] = true := by decide +kernel
    rcases r1 with rfl | ⟨v, _, _, rfl⟩ <;> rcases r2 with rfl | ⟨u, _, _, rfl⟩
    · exact ⟨[], rfl, by decide, by simp⟩
    · exact ⟨[(_, u)], rfl, by simp, by simp [a2]⟩
    · exact ⟨[(_, v)], rfl, by simp, by simp [a1]⟩
    · exact ⟨[(_, v), (_, u)], rfl, by simp, by simp [a1, a2]⟩
  obtain ⟨sz, e, hl, hk⟩ := hx
  rw [e] at h2
  exact ⟨sz, s2, QB (x := .t (.lst [.str [112, 114, 105, 99, 101], .str [119, 105, 100, 101]])) (m0 := put m i s) (m1 := put m i s) rfl rfl h2 (by rw [List.length_map]; unfold lim; omega), hs2, hl, hk⟩
noncomputable def Zjf (nm kd : List Nat) (mk : List (List Nat)) (sz : List (List Nat × Int)) : Prop := mk.length ≤ 100 ∧ sz.length ≤ 100 ∧ (∀ w ∈ mk, okS w = true) ∧ (∀ p ∈ sz, okS p.1 = true) ∧ okS nm = true ∧ okS kd = true
theorem ZkL {n : Nat} {m : Mem} {i : Nat} {s : List T} {nm kd : List Nat} (hi : i < m.length) (hs : IsSt s) (h1 : okS nm = true) (h2 : okS kd = true) : ∃ (mk : List (List Nat)) (sz : List (List Nat × Int)) (s' : List T), cf (n + 3) 23 [.c i, .t (.str nm), .t (.str kd)] (put m i s) = .ok (.t (Z7 nm kd mk sz)) (put m i s') ∧ IsSt s' ∧ Zjf nm kd mk sz := by
  obtain ⟨mk, s1, g1, hs1, m1, m2⟩ := ZfV (n := n + 1) (e1 := some (.t (.str nm))) (e2 := some (.t (.str kd))) (e3 := none) (e4 := none) hi hs
  obtain ⟨sz, s2, g2, hs2, z1, z2⟩ := Zfn (n := n) (e1 := some (.t (.str nm))) (e2 := some (.t (.str kd))) (e3 := some (.t (.tup (mk.map .str)))) (e4 := none) hi hs1
  refine ⟨mk, sz, s2, ?_, hs2, m1, z1, m2, z2, h1, h2⟩
  have key : ex (cf (n + 2)) gv Za7 [some (.c i), some (.t (.str nm)), some (.t (.str kd)), none, none] (put m i s) = .ok (.ret (.t (Z7 nm kd mk sz))) (put m i s2) := by
    unfold Za7
    have g1 : ev (cf (n + 2)) gv Zb5 [some (.c i), some (.t (.str nm)), some (.t (.str kd)), none, none] (put m i s) = .ok (.t (.lst (mk.map .str))) (put m i s1) := g1
    rw [Zx (w := .t (.tup (mk.map .str))) (m1 := put m i s1) (ZL (bb := .tuple) g1 (ZdO _))]
    simp only [List.set_cons_succ, List.set_cons_zero]
    rw [Zx (w := .t (.tup (sz.map Jx))) (m1 := put m i s2) (ZL (bb := .tuple) g2 (ZdO _))]
    exact Zo rfl
  exact Qv (Zja _ _ _) rfl key (ZS (cell := false) (by rw [QM, QM]))
theorem Zgm {Q : T → Prop} {ts : List T} {xss : List (List T)} (h : Turns (fun _ xs => ∃ w, xs = [w] ∧ Q w) ts xss) : ∃ ws : List T, xss.flatten = ws ∧ ws.length = ts.length ∧ ∀ w ∈ ws, Q w := by
  induction h with
  | nil => exact ⟨[], rfl, rfl, fun w hw => by cases hw⟩
  | cons h _ ih =>
    obtain ⟨w, rfl, hq⟩ := h
    obtain ⟨ws, h1, h2, h3⟩ := ih
    refine ⟨w :: ws, by rw [List.flatten_cons, h1]; rfl, by simp [h2], fun x hx => ?_⟩
    rcases List.mem_cons.mp hx with rfl | hx
    · exact hq
    · exact h3 x hx
theorem ZdC {n : Nat} {m : Mem} {i : Nat} {s : List T} {ws : List (List Nat)} (hi : i < m.length) (hs : IsSt s) (h0 : 0 < ws.length) (h1 : ws.length < 1000) (hw : ∀ w ∈ ws, okS w = true) :
    ∃ w s', cf (n + 2) 20 [.c i, .t (.lst (ws.map .str))] (put m i s) = .ok (.t (.str w)) (put m i s') ∧ IsSt s' ∧ okS w = true ∧ w ∈ ws := by
  obtain ⟨x, s', g, hs', hx⟩ := ZjZ (n := n) (xs := ws.map .str) hi hs (by rw [List.length_map]; exact h0) (by rw [List.length_map]; exact h1)
  obtain ⟨w, hw', rfl⟩ := List.mem_map.mp hx
  exact ⟨w, s', g, hs', hw w hw', hw'⟩
theorem Ze2 {n d : Nat} {m : Mem} {i : Nat} {s : List T} {r : Int} (hi : i < m.length) (hs : IsSt s) (r0 : 0 ≤ r) (r6 : r < 6) (k1 k2 : S) :
    ∃ (t : T) (s' : List T), ex (cf (n + 3)) gv (.ife (.cmp .Lt (.var 2) (.con (.int 2))) (.ret (.tup (.cons (.con (.str [97, 110, 121])) .nil)) .done) .done (.ife (.cmp .Eq (.var 2) (.con (.int 2))) (.ret (.tup (.cons (.con (.str [105, 115])) (.cons (.call 20 (.cons (.var 0) (.cons (.lst (.cons (.con (.str [102, 114, 101, 115, 104])) (.cons (.con (.str [111, 108, 100])) (.cons (.con (.str [111, 108, 100, 115])) (.cons (.con (.str [110, 101, 119])) .nil))))) .nil))) .nil))) .done) .done (.ife (.cmp .Eq (.var 2) (.con (.int 3))) (.ret (.tup (.cons (.con (.str [98, 121])) (.cons (.call 21 (.cons (.call 19 (.cons (.var 0) (.cons (.con (.int 12)) .nil))) .nil)) .nil))) .done) .done (.ife (.cmp .Lt (.var 2) (.con (.int 6))) (.ret (.tup (.cons (.ix (.lst (.cons (.con (.str [108, 101, 97, 115, 116])) (.cons (.con (.str [109, 111, 115, 116])) .nil))) (.bin .Sub (.var 2) (.con (.int 4)))) (.cons (.call 20 (.cons (.var 0) (.cons (.lst (.cons (.con (.str [112, 114, 105, 99, 101])) (.cons (.con (.str [119, 105, 100, 101])) (.cons (.con (.str [102, 97, 114])) .nil)))) .nil))) (.cons (.call 22 (.cons (.var 0) .nil)) .nil)))) .done) .done k1)))) [some (.c i), some (.t (.int (d : Int))), some (.t (.int r)), none] (put m i s) = .ok (.ret (.t t)) (put m i s') ∧ IsSt s' ∧ Lf t ∧ Dk 0 t := by
  have a0 : okS [97, 110, 121] = true := by decide +kernel
  have a1 : okS [105, 115] = true := by decide +kernel
  have a2 : okS [98, 121] = true := by decide +kernel
  have a3 : okS [108, 101, 97, 115, 116] = true := by decide +kernel
  have a4 : okS [109, 111, 115, 116] = true := by decide +kernel
  have dk1 : ∀ a : List Nat, okS a = true → Dk 0 (.tup [.str a]) := fun a h k => by
    show ZM k [.str a] = true
    unfold okS at h
    simp [ZM, Zu, h]
  have dk2 : ∀ a b : List Nat, okS a = true → okS b = true → Dk 0 (.tup [.str a, .str b]) := fun a b h h' k => by
    show ZM k [.str a, .str b] = true
    unfold okS at h h'
    simp [ZM, Zu, h, h']
  have dk3 : ∀ (a b : List Nat) (v : Int), okS a = true → okS b = true → Dk 0 (.tup [.str a, .str b, .int v]) := fun a b v h h' k => by
    show ZM k [.str a, .str b, .int v] = true
    unfold okS at h h'
    simp [ZM, Zu, h, h']
  by_cases h2 : r < 2
  · exact ⟨_, s, Qj (m1 := put m i s) (by simp [ev, evs, isT, Z0, EVs, h2]) (Zo rfl), hs, .any, dk1 _ a0⟩
  rw [Z2 (m1 := put m i s) (by simp [ev, evs, isT, Z0, EVs, h2] <;> omega)]
  by_cases h3 : r = 2
  · obtain ⟨w, s2, g2, hs2, hw2, _⟩ := ZdC (n := n + 1) (ws := [[102, 114, 101, 115, 104], [111, 108, 100], [111, 108, 100, 115], [110, 101, 119]]) hi hs (by simp) (by simp) (by
      intro w hw
      simp only [List.mem_cons, List.not_mem_nil, or_false] at hw
      rcases hw with rfl | rfl | rfl | rfl <;> decide +kernel)
    simp only [List.map_cons, List.map_nil] at g2
    exact ⟨_, s2, Qj (m1 := put m i s) (by simp [ev, evs, isT, Z0, EVs, h3]) (Zo (Zbg (Zq (Zf _) (Zq ((Z4 (Zq (Zb rfl) (Zq (Jy (Zq (Zf _) (Zq (Zf _) (Zq (Zf _) (Zq (Zf _) Z8)))) rfl QF) Z8))).trans g2) Z8)) rfl QF)), hs2, .is w, dk2 _ _ a1 hw2⟩
  rw [Z2 (m1 := put m i s) (by simp [ev, evs, isT, Z0, EVs, h3])]
  by_cases h4 : r = 3
  · obtain ⟨q, s1, g1, hs1, _, _⟩ := Z1 (n := n + 2) (many := 12) hi hs (by decide) (by decide)
    obtain ⟨w, g2, hw2⟩ := Zhd (n := n + 2) (m := put m i s1) (k := q)
    exact ⟨_, s1, Qj (m1 := put m i s) (by simp [ev, evs, isT, Z0, EVs, h4]) (Zo (Zbg (Zq (Zf _) (Zq ((Z4 (Zq ((Z4 (Zq (Zb rfl) (Zq (Zf _) Z8))).trans g1) Z8)).trans g2) Z8)) rfl QF)), hs1, .by w, dk2 _ _ a2 hw2⟩
  rw [Z2 (m1 := put m i s) (by simp [ev, evs, isT, Z0, EVs, h4])]
  obtain ⟨z, hz, hzm⟩ := Jc (xs := [T.str [108, 101, 97, 115, 116], .str [109, 111, 115, 116]]) (i := r - 4) (by omega) (by simp; omega)
  obtain ⟨v, s2, g2, hs2, hv2, _⟩ := ZdC (n := n + 1) (ws := [[112, 114, 105, 99, 101], [119, 105, 100, 101], [102, 97, 114]]) hi hs (by simp) (by simp) (by
      intro w hw
      simp only [List.mem_cons, List.not_mem_nil, or_false] at hw
      rcases hw with rfl | rfl | rfl <;> decide +kernel)
  simp only [List.map_cons, List.map_nil] at g2
  obtain ⟨k, s3, g3, hs3, k0, k1⟩ := ZdK (n := n + 1) hi hs2
  simp only [List.mem_cons, List.not_mem_nil, or_false] at hzm
  rcases hzm with rfl | rfl
  · exact ⟨_, s3, Qj (m1 := put m i s) (by simp [ev, evs, isT, Z0, EVs, r6]) (Zo (Zbg (Zq (ZD (Jy (Zq (Zf _) (Zq (Zf _) Z8)) rfl QF) (Qe (Zb rfl) (Zf _) rfl) hz) (Zq ((Z4 (Zq (Zb rfl) (Zq (Jy (Zq (Zf _) (Zq (Zf _) (Zq (Zf _) Z8))) rfl QF) Z8))).trans g2) (Zq ((Z4 (Zq (Zb rfl) Z8)).trans g3) Z8))) rfl QF)), hs3, .least v k, dk3 _ _ _ a3 hv2⟩
  · exact ⟨_, s3, Qj (m1 := put m i s) (by simp [ev, evs, isT, Z0, EVs, r6]) (Zo (Zbg (Zq (ZD (Jy (Zq (Zf _) (Zq (Zf _) Z8)) rfl QF) (Qe (Zb rfl) (Zf _) rfl) hz) (Zq ((Z4 (Zq (Zb rfl) (Zq (Jy (Zq (Zf _) (Zq (Zf _) (Zq (Zf _) Z8))) rfl QF) Z8))).trans g2) (Zq ((Z4 (Zq (Zb rfl) Z8)).trans g3) Z8))) rfl QF)), hs3, .most v k, dk3 _ _ _ a4 hv2⟩
theorem Zfm {n d : Nat} {m : Mem} {r : Int} {e0 e1 e3 : Option W} (r6 : 6 ≤ r) {a1 a2 a3 a4 k : S} :
    ex (cf n) gv (.ife (.cmp .Lt (.var 2) (.con (.int 2))) a1 .done (.ife (.cmp .Eq (.var 2) (.con (.int 2))) a2 .done (.ife (.cmp .Eq (.var 2) (.con (.int 3))) a3 .done (.ife (.cmp .Lt (.var 2) (.con (.int 6))) a4 .done k)))) [e0, e1, some (.t (.int r)), e3] m = ex (cf n) gv k [e0, e1, some (.t (.int r)), e3] m := by
  have h1 : ¬ r < 2 := by omega
  have h2 : ¬ r = 2 := by omega
  have h3 : ¬ r = 3 := by omega
  have h4 : ¬ r < 6 := by omega
  rw [Z2 (m1 := m) (by simp [ev, evs, isT, Z0, EVs, h1]), Z2 (m1 := m) (by simp [ev, evs, isT, Z0, EVs, h2]), Z2 (m1 := m) (by simp [ev, evs, isT, Z0, EVs, h3]), Z2 (m1 := m) (by simp [ev, evs, isT, Z0, EVs, h4])]
theorem m30 : binT .Mult (.int 3) (.int 0) = some (.int 0) := rfl
theorem m31 : binT .Mult (.int 3) (.int 1) = some (.int 3) := rfl
theorem Dk.mono {d e : Nat} {t : T} (h : Dk d t) (he : d ≤ e) : Dk e t := fun k => by
  have := h (k + 2 * (e - d))
  rw [show k + 2 * (e - d) + (2 * d + 1) = k + (2 * e + 1) by omega] at this
  exact this
theorem dk_nt {d : Nat} {a : T} (h : Dk d a) : Dk (d + 1) (.tup [.str [110, 111, 116], a]) := fun k => by
  have h1 := h (k + 1)
  rw [show k + 1 + (2 * d + 1) = k + (2 * d + 2) by omega] at h1
  have h2 : okS [110, 111, 116] = true := by decide +kernel
  unfold okS at h2
  rw [show k + (2 * (d + 1) + 1) = k + (2 * d + 2) + 1 by omega, Zu]
  simp [ZM, Zu, h1, h2]
theorem Ja {n : Nat} : ∀ {ts : List T}, ZM n ts = true ↔ ∀ t ∈ ts, Zu n t = true
  | [] => by simp [ZM]
  | t :: ts => by simp [ZM, Ja (ts := ts)]
theorem dk_jn {d : Nat} {b : Bool} {ts : List T} (h : ∀ t ∈ ts, Dk d t) : Dk (d + 1) (.tup [.str (if b then [97, 110, 100] else [111, 114]), .tup ts]) := fun k => by
  have h1 : ZM (k + (2 * d + 1)) ts = true := Ja.mpr fun t ht => h t ht k
  have h2 : okS (if b then [97, 110, 100] else [111, 114]) = true := by cases b <;> decide +kernel
  unfold okS at h2
  rw [show k + (2 * (d + 1) + 1) = k + (2 * d + 1) + 1 + 1 by omega, Zu, ZM, ZM, ZM, Zu, Zu, h1, h2]
  rfl
theorem ZjG : ∀ (d : Nat) {n : Nat} {m : Mem} {i : Nat} {s : List T}, i < m.length → IsSt s → ∃ (t : T) (s' : List T), cf (n + (d + 4)) 24 [.c i, .t (.int (d : Int))] (put m i s) = .ok (.t t) (put m i s') ∧ IsSt s' ∧ DW d t ∧ Dk d t := by
  intro d
  induction d with
  | zero =>
    intro n m i s hi hs
    obtain ⟨r, s1, h1, hs1, r0, r1⟩ := Z1 (n := n + 2) (many := 6) hi hs (by decide) (by decide)
    obtain ⟨t, s2, h2, hs2, hl⟩ := Ze2 (n := n) (d := 0) hi hs1 r0 r1 _ .done
    refine ⟨t, s2, ?_, hs2, .leaf hl.1, hl.2⟩
    have e : ex (cf (n + 3)) gv Xy [some (.c i), some (.t (.int 0)), none, none] (put m i s) = .ok (.ret (.t t)) (put m i s2) := by
      unfold Xy
      rw [Zx (w := .t (.int r)) (m1 := put m i s1) (by simp [ev, evs, isT, Z0, EVs, m30, b2i, h1])]
      exact h2
    show cf (n + 3 + 1) _ _ _ = _
    exact Qv (Zfb _ _ _) rfl e (ZS (cell := false) (by rw [QM, QM]))
  | succ d ih =>
    intro n m i s hi hs
    have key : ∃ (t : T) (s' : List T), ex (cf (n + (d + 4))) gv Xy [some (.c i), some (.t (.int ((d : Int) + 1))), none, none] (put m i s) = .ok (.ret (.t t)) (put m i s') ∧ IsSt s' ∧ DW (d + 1) t ∧ Dk (d + 1) t := by
      obtain ⟨r, s1, h1, hs1, r0, r1⟩ := Z1 (n := n + (d + 3)) (many := 9) hi hs (by decide) (by decide)
      have h1 : cf (n + (d + 4)) 19 [.c i, .t (.int 9)] (put m i s) = _ := h1
      have hd0 : (0 : Int) < (d : Int) + 1 := by omega
      have hm : ev (cf (n + (d + 4))) gv (.call 19 (.cons (.var 0) (.cons (.bin .Add (.con (.int 6)) (.bin .Mult (.con (.int 3)) (.blt .int (.cons (.cmp .Gt (.var 1) (.con (.int 0))) .nil)))) .nil))) [some (.c i), some (.t (.int ((d : Int) + 1))), none, none] (put m i s) = .ok (.t (.int r)) (put m i s1) := by
        simp [ev, evs, isT, Z0, EVs, m31, b2i, hd0, h1]
      unfold Xy
      rw [Zx hm]
      simp only [List.set_cons_succ, List.set_cons_zero]
      by_cases h6 : r < 6
      · obtain ⟨t, s2, h2, hs2, hl⟩ := Ze2 (n := n + (d + 1)) (d := d + 1) hi hs1 r0 h6 _ .done
        rw [show ((d + 1 : Nat) : Int) = (d : Int) + 1 by omega] at h2
        exact ⟨t, s2, h2, hs2, .leaf hl.1, hl.2.mono (Nat.zero_le _)⟩
      rw [Zfm (d := d) (by omega)]
      have hsub : (d : Int) + 1 - 1 = (d : Int) := by omega
      by_cases h7 : r = 6
      · obtain ⟨t, s2, h4, hs2, hw⟩ := ih (n := n) hi hs1
        exact ⟨_, s2, Qj (m1 := put m i s1) (by simp [ev, evs, isT, Z0, EVs, h7]) (Zo (by simp [ev, evs, isT, Z0, EVs, hsub, h4, lim])), hs2, .nt hw.1, dk_nt hw.2⟩
      rw [Z2 (m1 := put m i s1) (by simp [ev, evs, isT, Z0, EVs, h7])]
      obtain ⟨q, s2, h4, hs2, q0, q1⟩ := Z1 (n := n + (d + 3)) (many := 2) hi hs1 (by decide) (by decide)
      have h4 : cf (n + (d + 4)) 19 [.c i, .t (.int 2)] (put m i s1) = _ := h4
      rw [Zx (w := .t (.int (2 + q))) (m1 := put m i s2) (by simp [ev, evs, isT, Z0, EVs, h4])]
      simp only [List.set_cons_succ, List.set_cons_zero]
      obtain ⟨z, hz, hzm⟩ := Jc (xs := [T.str [97, 110, 100], .str [111, 114]]) (i := r - 7) (by omega) (by simp; omega)
      have hz' : ∃ b : Bool, z = .str (if b then [97, 110, 100] else [111, 114]) := by
        simp only [List.mem_cons, List.not_mem_nil, or_false] at hzm
        rcases hzm with rfl | rfl
        · exact ⟨true, rfl⟩
        · exact ⟨false, rfl⟩
      obtain ⟨b, rfl⟩ := hz'
      obtain ⟨xss, m', h5, ⟨s3, rfl, hs3⟩, ht⟩ := Zav (f := QW (cf (n + (d + 4))) gv .nil ZbU) (tg := .nm 0) (env := [none, some (.c i), some (.t (.int ((d : Int) + 1)))]) (P := fun m' => ∃ s, m' = put m i s ∧ IsSt s) (R := fun _ xs => ∃ w, xs = [w] ∧ DW d w ∧ Dk d w) (rangeT 0 (2 + q).toNat) (put m i s2) ⟨s2, rfl, hs2⟩ (by
        rintro t ht m' ⟨s, rfl, hs⟩
        obtain ⟨u, s4, h6, hs4, hu⟩ := ih (n := n) hi hs
        exact ⟨[some (.t t), some (.c i), some (.t (.int ((d : Int) + 1)))], [u], put m i s4, rfl, by simp [QW, tests, ZbU, ev, evs, isT, Z0, EVs, hsub, h6], ⟨s4, rfl, hs4⟩, u, rfl, hu⟩)
      obtain ⟨ws, e1, e2, e3⟩ := Zgm ht
      have hr : (rangeT 0 (2 + q).toNat).length = (2 + q).toNat := by simp [rangeT]
      rw [e1] at h5
      have hc : ev (cf (n + (d + 4))) gv Zd1 [some (.c i), some (.t (.int ((d : Int) + 1))), some (.t (.int r)), some (.t (.int (2 + q)))] (put m i s2) = .ok (.t (.lst ws)) (put m i s3) := by
        refine QB (x := .t (.lst (rangeT 0 (2 + q).toNat))) (m0 := put m i s2) (m1 := put m i s2) ?_ rfl h5 (by rw [e2, hr]; unfold lim; omega)
        exact ZL (by rw [ev]; rfl) (Zeu (show 2 + q < 2 ^ 62 ∧ -(2 ^ 62) ≤ 2 + q by omega))
      refine ⟨_, s3, Zo (w := .t (.tup [.str (if b then [97, 110, 100] else [111, 114]), .tup ws])) (by simp [ev, evs, isT, Z0, EVs, hz, hc, lim]), hs3, .jn (by omega) (fun t ht => (e3 t ht).1), dk_jn fun t ht => (e3 t ht).2⟩
    obtain ⟨t, s', e, hs', hl⟩ := key
    refine ⟨t, s', ?_, hs', hl⟩
    rw [show ((d + 1 : Nat) : Int) = (d : Int) + 1 by omega]
    show cf (n + (d + 4) + 1) _ _ _ = _
    exact Qv (Zfb _ _ _) rfl e (ZS (cell := false) (by rw [QM, QM]))
noncomputable def offT (sd nm kd : List Nat) (mk : List (List Nat)) (sz : List (List Nat × Int)) (w : T) (many least wt till : Int) : T := .tup [.str sd, Z7 nm kd mk sz, w, .int many, .int least, .int wt, .int till]
theorem ZiI {n : Nat} {m : Mem} {i : Nat} {s : List T} {sd nm kd : List Nat} {till : Int} (hi : i < m.length) (hs : IsSt s) (h1 : okS nm = true) (h2 : okS kd = true) :
    ∃ (mk : List (List Nat)) (sz : List (List Nat × Int)) (w : T) (many least weight : Int) (s' : List T), cf (n + 7) 25 [.c i, .t (.str sd), .t (.str nm), .t (.str kd), .t (.int till)] (put m i s) = .ok (.t (offT sd nm kd mk sz w many least weight till)) (put m i s') ∧ IsSt s' ∧ Zjf nm kd mk sz ∧ (DW 2 w ∧ Dk 2 w) ∧ (1 ≤ many ∧ many ≤ 1000000) ∧ (1 ≤ least ∧ least ≤ many) ∧ (0 ≤ weight ∧ weight ≤ 1000) := by
  obtain ⟨a1, s1, d1, hs1, a10, a11⟩ := Z1 (n := n + 5) (many := 9) hi hs (by decide) (by decide)
  obtain ⟨a2, s2, d2, hs2, a20, a21⟩ := Z1 (n := n + 5) (many := 9) hi hs1 (by decide) (by decide)
  obtain ⟨a3, s3, d3, hs3, a30, a31⟩ := Z1 (n := n + 5) (many := 1000000) hi hs2 (by decide) (by decide)
  obtain ⟨a4, s4, d4, hs4, a40, a41⟩ := Z1 (n := n + 5) (many := 3) hi hs3 (by decide) (by decide)
  obtain ⟨z, hz, hzm⟩ := Jc (xs := [T.int (1 + a1), .int (1 + a2), .int (1 + a3)]) a40 (by simpa using a41)
  have hz' : ∃ v : Int, z = .int v ∧ 1 ≤ v ∧ v ≤ 1000000 := by
    simp only [List.mem_cons, List.not_mem_nil, or_false] at hzm
    rcases hzm with rfl | rfl | rfl <;> exact ⟨_, rfl, by omega, by omega⟩
  obtain ⟨many, rfl, m1, m2⟩ := hz'
  obtain ⟨b1, s5, d5, hs5, b10, b11⟩ := Z1 (n := n + 5) (many := many) hi hs4 (by omega) (by omega)
  obtain ⟨b2, s6, d6, hs6, b20, b21⟩ := Z1 (n := n + 5) (many := 3) hi hs5 (by decide) (by decide)
  obtain ⟨z, hz2, hzm⟩ := Jc (xs := [T.int 1, .int (1 + b1), .int many]) b20 (by simpa using b21)
  have hz' : ∃ v : Int, z = .int v ∧ 1 ≤ v ∧ v ≤ many := by
    simp only [List.mem_cons, List.not_mem_nil, or_false] at hzm
    rcases hzm with rfl | rfl | rfl <;> exact ⟨_, rfl, by omega, by omega⟩
  obtain ⟨least, rfl, l1, l2⟩ := hz'
  obtain ⟨w0, s7, d7, hs7, hw0⟩ := ZjG 2 (n := n) hi hs6
  have d7 : cf (n + 6) 24 [.c i, .t (.int 2)] (put m i s6) = .ok (.t w0) (put m i s7) := d7
  obtain ⟨c1, s8, d8, hs8, c10, c11⟩ := Z1 (n := n + 5) (many := 2) hi hs7 (by decide) (by decide)
  obtain ⟨w, hz3, hzm⟩ := Jc (xs := [T.tup [.str [97, 110, 121]], w0]) c10 (by simpa using c11)
  have hw : DW 2 w ∧ Dk 2 w := by
    simp only [List.mem_cons, List.not_mem_nil, or_false] at hzm
    rcases hzm with rfl | rfl
    · exact ⟨.leaf .any, fun k => by
        show ZM (k + 4) [.str [97, 110, 121]] = true
        have h : okS [97, 110, 121] = true := by decide +kernel
        unfold okS at h
        simp [ZM, Zu, h]⟩
    · exact hw0
  obtain ⟨e1, s9, d9, hs9, e10, e11⟩ := Z1 (n := n + 5) (many := 3) hi hs8 (by decide) (by decide)
  obtain ⟨e2, s10, d10, hs10, e20, e21⟩ := Z1 (n := n + 5) (many := 1001) hi hs9 (by decide) (by decide)
  obtain ⟨e3, s11, d11, hs11, e30, e31⟩ := Z1 (n := n + 5) (many := 2) hi hs10 (by decide) (by decide)
  obtain ⟨z, hz4, hzm⟩ := Jc (xs := [T.int e1, .int e2]) e30 (by simpa using e31)
  have hz' : ∃ v : Int, z = .int v ∧ 0 ≤ v ∧ v ≤ 1000 := by
    simp only [List.mem_cons, List.not_mem_nil, or_false] at hzm
    rcases hzm with rfl | rfl <;> exact ⟨_, rfl, by omega, by omega⟩
  obtain ⟨weight, rfl, g1, g2⟩ := hz'
  obtain ⟨mk, sz, s12, d12, hs12, hc⟩ := ZkL (n := n + 3) hi hs11 h1 h2
  refine ⟨mk, sz, w, many, least, weight, s12, ?_, hs12, hc, hw, ⟨m1, m2⟩, ⟨l1, l2⟩, ⟨g1, g2⟩⟩
  have key : ex (cf (n + 6)) gv ZaI [some (.c i), some (.t (.str sd)), some (.t (.str nm)), some (.t (.str kd)), some (.t (.int till)), none, none, none, none] (put m i s) = .ok (.ret (.t (offT sd nm kd mk sz w many least weight till))) (put m i s12) := by
    refine (Zx (w := .t (.int many)) (m1 := put m i s4) (ZD (Jy (Zq (Qe (Zf _) ((Z4 (Zq (Zb rfl) (Zq (Zf _) Z8))).trans d1) rfl) (Zq (Qe (Zf _) ((Z4 (Zq (Zb rfl) (Zq (Zf _) Z8))).trans d2) rfl) (Zq (Qe (Zf _) ((Z4 (Zq (Zb rfl) (Zq (Qe (Zf _) (Zf _) rfl) Z8))).trans d3) rfl) Z8))) rfl QF) ((Z4 (Zq (Zb rfl) (Zq (Zf _) Z8))).trans d4) hz)).trans ?_
    refine (Zx (w := .t (.int least)) (m1 := put m i s6) (ZD (Jy (Zq (Zf _) (Zq (Qe (Zf _) ((Z4 (Zq (Zb rfl) (Zq (Zb rfl) Z8))).trans d5) rfl) (Zq (Zb rfl) Z8))) rfl QF) ((Z4 (Zq (Zb rfl) (Zq (Zf _) Z8))).trans d6) hz2)).trans ?_
    refine (Zx (w := .t w) (m1 := put m i s8) (ZD (Jy (Zq (Zbg (Zq (Zf _) Z8) rfl QF) (Zq ((Z4 (Zq (Zb rfl) (Zq (Zf _) Z8))).trans d7) Z8)) rfl QF) ((Z4 (Zq (Zb rfl) (Zq (Zf _) Z8))).trans d8) hz3)).trans ?_
    refine (Zx (w := .t (.int weight)) (m1 := put m i s11) (ZD (Jy (Zq ((Z4 (Zq (Zb rfl) (Zq (Zf _) Z8))).trans d9) (Zq ((Z4 (Zq (Zb rfl) (Zq (Zf _) Z8))).trans d10) Z8)) rfl QF) ((Z4 (Zq (Zb rfl) (Zq (Zf _) Z8))).trans d11) hz4)).trans ?_
    exact Zo (Zbg (Zq (Zb rfl) (Zq ((Z4 (Zq (Zb rfl) (Zq (Zb rfl) (Zq (Zb rfl) Z8)))).trans d12) (Zq (Zb rfl) (Zq (Zb rfl) (Zq (Zb rfl) (Zq (Zb rfl) (Zq (Zb rfl) Z8))))))) rfl QF)
  exact Qv (ZhL _ _ _) rfl key (ZS (cell := false) (by rw [QM, QM]))
section
variable {n : Nat} {m : Mem} {nm kd : List Nat} {mk : List (List Nat)} {sz : List (List Nat × Int)}
theorem w0 {n : Nat} {m : Mem} {ts : List T} {a : List Nat} {e1 e2 : Option W} : ev (cf n) gv (.ix (.var 0) (.con (.int 0))) [some (.t (.tup (.str a :: ts))), e1, e2] m = .ok (.t (.str a)) m := ZD (Zb rfl) (Zf _) (at0 _ _)
theorem way {call : Nat → List W → Mem → Res W} {env : Env} {a b : List Nat} {s k : S} (h : env[2]? = some (some (.t (.str a)))) (hb : (a == b) = false) : ex call gv (.ife (.cmp .Eq (.var 2) (.con (.str b))) s .done k) env m = ex call gv k env m := by
  refine Z2 ?_
  rw [← hb]
  exact Zv (Zb h) (Zf _) (Zbr _ _)
theorem wayT {call : Nat → List W → Mem → Res W} {env : Env} {a b : List Nat} {s k : S} {w : W} {m2 : Mem} (h : env[2]? = some (some (.t (.str a)))) (hb : (a == b) = true) (hs : ex call gv s env m = .ok (.ret w) m2) : ex call gv (.ife (.cmp .Eq (.var 2) (.con (.str b))) s .done k) env m = .ok (.ret w) m2 := by
  refine Qj ?_ hs
  rw [← hb]
  exact Zv (Zb h) (Zf _) (Zbr _ _)
theorem ZdL {w : T} (h : Lf w) : cf (n + 3) 2 [.t w, .t (Z7 nm kd mk sz)] m = .ok (.t (.bl (XN nm mk sz w))) m := by
  have key : ex (cf (n + 2)) gv X5 [some (.t w), some (.t (Z7 nm kd mk sz)), none] m = .ok (.ret (.t (.bl (XN nm mk sz w)))) m := by
    unfold X5
    cases h with
    | any =>
      rw [Zx w0]
      exact wayT rfl rfl (Zo (Zf _))
    | is w =>
      rw [Zx w0, way rfl rfl]
      exact wayT rfl rfl (Zo ((Zy (Zb rfl) (ZD (Zb rfl) (Zf _) rfl)).trans (Zew (n := n + 1))))
    | «by» w =>
      rw [Zx w0, way rfl rfl, way rfl rfl]
      exact wayT rfl rfl (Zo (Zv (ZD (Zb rfl) (Zf _) (card0 _ _ _ _)) (ZD (Zb rfl) (Zf _) rfl) (Zbr _ _)))
    | least w v =>
      rw [Zx w0, way rfl rfl, way rfl rfl, way rfl rfl, way rfl rfl, way rfl rfl, way rfl rfl]
      exact Zo ((Zy (Zb rfl) (Zb rfl)).trans (Zbe (n := n)))
    | most w v =>
      rw [Zx w0, way rfl rfl, way rfl rfl, way rfl rfl, way rfl rfl, way rfl rfl, way rfl rfl]
      exact Zo ((Zy (Zb rfl) (Zb rfl)).trans (Zbe (n := n)))
  rw [ZeC]
  simp [key, Zw, ZS]
end
section
variable {n : Nat} {m : Mem} {nm kd : List Nat} {mk : List (List Nat)} {sz : List (List Nat × Int)}
theorem Zhb {w : List Nat} {v : Int} {a : List Nat} {e3 : Option W} (hl : sz.length ≤ 100) : ev (cf n) gv Zb4 [some (.t (.tup [.str a, .str w, .int v])), some (.t (Z7 nm kd mk sz)), some (.t (.str a)), e3] m = .ok (.t (.lst ((sz.filter fun p => p.1 == w).map fun p => .int p.2))) m := by
  have h := Js (f := QW (cf n) gv (.cons (.cmp .Eq (.var 0) (.ix (.var 2) (.con (.int 1)))) .nil) ZbV) (tg := .tp [0, 1]) (env := [none, none, some (.t (.tup [.str a, .str w, .int v]))]) (m := m)
    (g := fun t => match t with | .tup [.str c, .int u] => (if c == w then [.int u] else []) | _ => []) (sz.map Jx) (fun t ht => by
      obtain ⟨p, _, rfl⟩ := List.mem_map.mp ht
      refine ⟨[some (.t (.str p.1)), some (.t (.int p.2)), some (.t (.tup [.str a, .str w, .int v]))], rfl, ?_⟩
      have hc : ev (cf n) gv (.cmp .Eq (.var 0) (.ix (.var 2) (.con (.int 1)))) [some (.t (.str p.1)), some (.t (.int p.2)), some (.t (.tup [.str a, .str w, .int v]))] m = .ok (.t (.bl (p.1 == w))) m := Zv (Zb rfl) (ZD (Zb rfl) (Zf _) rfl) (Zbr _ _)
      cases hw : (p.1 == w) with
      | true =>
        rw [hw] at hc
        rw [ZeM hc (show ev (cf n) gv ZbV _ m = _ from Xc (Zb rfl))]
        simp [Jx, hw]
      | false =>
        rw [hw] at hc
        rw [ZeN hc]
        simp [Jx, hw])
  have e : (sz.map Jx).flatMap (fun t => match t with | .tup [.str c, .int u] => (if c == w then [T.int u] else []) | _ => []) = (sz.filter fun p => p.1 == w).map fun p => .int p.2 := by
    clear h hl
    induction sz with
    | nil => rfl
    | cons p sz ih =>
      rw [List.map_cons, List.flatMap_cons, ih, List.filter_cons]
      cases hw : (p.1 == w) <;> simp [Jx, hw]
  rw [e] at h
  have hz : ((sz.filter fun p => p.1 == w).map fun p => T.int p.2).length ≤ lim := by
    rw [List.length_map]
    have := List.length_filter_le (fun p : List Nat × Int => p.1 == w) sz
    unfold lim; omega
  exact QB (x := .t (.tup (sz.map Jx))) (m0 := m) (m1 := m) (ZD (Zb rfl) (Zf _) (card3 _ _ _ _)) rfl h hz
theorem ZbE (w : List Nat) : ∀ sz : List (List Nat × Int), match ZaJ sz w with
    | none => (sz.filter fun p => p.1 == w) = []
    | some u => ∃ r, (sz.filter fun p => p.1 == w) = (w, u) :: r
  | [] => rfl
  | p :: sz => by
    rw [ZaJ, List.filter_cons]
    cases hw : (p.1 == w) with
    | true => exact ⟨sz.filter fun p => p.1 == w, by rw [if_pos rfl, ← eq_of_beq hw]⟩
    | false =>
      have := ZbE w sz
      exact this
theorem Zex {xs : List T} (h : ZM 59 xs = true) : cmpT .Eq (.lst xs) (.lst []) = some xs.isEmpty ∧ cmpT .NotEq (.lst xs) (.lst []) = some (!xs.isEmpty) := by
  have h1 : Zu 60 (.lst xs) = true := by rw [Zu]; exact h
  have h2 : Zu 60 (.lst []) = true := by decide
  have h3 : eqT (.lst xs) (.lst []) = xs.isEmpty := by cases xs <;> simp [eqT, eqTs]
  constructor
  · show (if (Zdx (.lst xs) (.lst []) || (Zu 60 (.lst xs) && Zu 60 (.lst []))) = true then some (eqT (.lst xs) (.lst [])) else none) = _
    rw [h1, h2, Bool.true_and, Bool.or_true, if_pos rfl, h3]
  · show (if (Zdx (.lst xs) (.lst []) || (Zu 60 (.lst xs) && Zu 60 (.lst []))) = true then some (!eqT (.lst xs) (.lst [])) else none) = _
    rw [h1, h2, Bool.true_and, Bool.or_true, if_pos rfl, h3]
theorem ZdU : ∀ xs : List (List Nat × Int), ZM 59 (xs.map fun p => T.int p.2) = true
  | [] => rfl
  | x :: xs => by rw [List.map_cons, ZM, ZdU xs]; rfl
theorem law_leaf {w : T} (h : Lf w) (hl : sz.length ≤ 100) : cf (n + 1) 26 [.t w, .t (Z7 nm kd mk sz)] m = .ok (.t (.bl (XN nm mk sz w))) m := by
  have key : ex (cf n) gv Jj [some (.t w), some (.t (Z7 nm kd mk sz)), none, none] m = .ok (.ret (.t (.bl (XN nm mk sz w)))) m := by
    have wz : ∀ {ts : List T} {a : List Nat} {e2 e3 : Option W}, ev (cf n) gv (.ix (.var 0) (.con (.int 0))) [some (.t (.tup (.str a :: ts))), some (.t (Z7 nm kd mk sz)), e2, e3] m = .ok (.t (.str a)) m := ZD (Zb rfl) (Zf _) (at0 _ _)
    have num : ∀ (a : List Nat) (w : List Nat) (v : Int) (k : S), a = [108, 101, 97, 115, 116] ∨ a = [109, 111, 115, 116] → ex (cf n) gv (.asg 3 Zb4 (.ife (.cmp .Eq (.var 3) (.lst .nil)) (.ret (.con (.bl false)) .done) .done (.ret (.ix (.lst (.cons (.cmp .GtE (.ix (.var 3) (.con (.int 0))) (.ix (.var 0) (.con (.int 2)))) (.cons (.cmp .LtE (.ix (.var 3) (.con (.int 0))) (.ix (.var 0) (.con (.int 2)))) .nil))) (.blt .int (.cons (.cmp .Eq (.var 2) (.con (.str [109, 111, 115, 116]))) .nil))) k))) [some (.t (.tup [.str a, .str w, .int v])), some (.t (Z7 nm kd mk sz)), some (.t (.str a)), none] m = .ok (.ret (.t (.bl (XN nm mk sz (.tup [.str a, .str w, .int v]))))) m := by
      intro a w v k ha
      refine (Zx (Zhb hl)).trans ?_
      dsimp only [List.set_cons_succ, List.set_cons_zero]
      have hs := ZbE w sz
      have hemp : ∀ env : Env, ev (cf n) gv (.lst .nil) env m = .ok (.t (.lst [])) m := fun env => Jy Z8 rfl QF
      cases q : ZaJ sz w with
      | none =>
        rw [q] at hs
        have hs : (sz.filter fun p => p.1 == w) = [] := hs
        rw [hs]
        rw [Qj (Zv (k := true) (Zb rfl) (hemp _) rfl) (Zo (Zf _))]
        simp [XN, q]
      | some u =>
        rw [q] at hs
        obtain ⟨r, hs⟩ := hs
        rw [hs]
        have he := (Zex (ZdU ((w, u) :: r))).1
        rw [List.map_cons] at he ⊢
        rw [Z2 (Zv (k := false) (Zb rfl) (hemp _) he)]
        have h0 : ∀ env : Env, env[3]? = some (some (.t (.lst (.int u :: r.map fun p => T.int p.2)))) → ev (cf n) gv (.ix (.var 3) (.con (.int 0))) env m = .ok (.t (.int u)) m := fun env h => ZD (Zb h) (Zf _) (at0 _ _)
        refine Zo ?_
        refine ZD (y := .int (b2i (a == [109, 111, 115, 116]))) (ZkC (Zv (h0 _ rfl) (ZD (Zb rfl) (Zf _) rfl) (c_ge _ _)) (Zv (h0 _ rfl) (ZD (Zb rfl) (Zf _) rfl) (c_le _ _))) (ZL (Zv (Zb rfl) (Zf _) (Zbr _ _)) (l_int _)) ?_
        rcases ha with rfl | rfl
        · simp [XN, q]; rfl
        · simp [XN, q]; rfl
    unfold Jj
    cases h with
    | any =>
      rw [Zx wz]
      exact wayT rfl rfl (Zo (Zf _))
    | is w =>
      rw [Zx wz, way rfl rfl]
      exact wayT rfl rfl (Zo (Zv (ZD (Zb rfl) (Zf _) rfl) (ZD (Zb rfl) (Zf _) (card2 _ _ _ _)) (in_words w mk)))
    | «by» w =>
      rw [Zx wz, way rfl rfl, way rfl rfl]
      exact wayT rfl rfl (Zo (Zv (ZD (Zb rfl) (Zf _) (card0 _ _ _ _)) (ZD (Zb rfl) (Zf _) rfl) (Zbr _ _)))
    | least w v =>
      rw [Zx wz, way rfl rfl, way rfl rfl, way rfl rfl, way rfl rfl, way rfl rfl, way rfl rfl]
      exact num _ _ _ _ (.inl rfl)
    | most w v =>
      rw [Zx wz, way rfl rfl, way rfl rfl, way rfl rfl, way rfl rfl, way rfl rfl, way rfl rfl]
      exact num _ _ _ _ (.inr rfl)
  exact Qv (Zby _ _ _) rfl key (ZS (cell := false) rfl)
end
section
variable {nm kd : List Nat} {mk : List (List Nat)} {sz : List (List Nat × Int)}
theorem ZdS {call : Nat → List W → Mem → Res W} {m : Mem} {c test : E} {env : Env} {ts : List T} {g : T → Bool} {card : T} (hc : c = .comp 1 [1] (.ix (.var 0) (.con (.int 1))) (.nm 0) (.cons test .nil) (.emit (.var 0))) {a : List Nat} (h0 : env[0]? = some (some (.t (.tup [.str a, .tup ts])))) (hk : env[1]? = some (some (.t card))) (hl : ts.length ≤ 100) (hg : ∀ t ∈ ts, ev call gv test [some (.t t), some (.t card)] m = .ok (.t (.bl (g t))) m) :
    ev call gv c env m = .ok (.t (.lst (ts.filter g))) m := by
  subst hc
  have h := Js (f := QW call gv (.cons test .nil) (.emit (.var 0))) (tg := .nm 0) (env := [none, some (.t card)]) (m := m) (g := fun t => if g t then [t] else []) ts (fun t ht => by
    refine ⟨[some (.t t), some (.t card)], rfl, ?_⟩
    have hgt := hg t ht
    cases q : g t with
    | true =>
      rw [q] at hgt
      exact ZeM hgt (Xc (Zb rfl))
    | false =>
      rw [q] at hgt
      exact ZeN hgt)
  have e : (ts.flatMap fun t => if g t = true then [t] else []) = ts.filter g := by
    clear h hg hl h0
    induction ts with
    | nil => rfl
    | cons t ts ih =>
      rw [List.flatMap_cons, ih, List.filter_cons]
      cases g t <;> rfl
  rw [e] at h
  refine QB (x := .t (.tup ts)) (m0 := m) (m1 := m) (ZD (Zb h0) (Zf _) rfl) rfl ?_ (by have := List.length_filter_le g ts; unfold lim; omega)
  show Q8 _ _ _ ([none] ++ [(env[1]?).join]) _ = _
  rw [hk]
  exact h
theorem ZcM (f : T → Bool) : ∀ ts : List T, (ts.filter fun t => !f t).isEmpty = (ts.map f).all id
  | [] => rfl
  | t :: ts => by
    have ih := ZcM f ts
    rw [List.filter_cons, List.map_cons, List.all_cons]
    cases h : f t
    · simp
    · simpa using ih
theorem ZcK (f : T → Bool) : ∀ ts : List T, (!(ts.filter f).isEmpty) = (ts.map f).any id
  | [] => rfl
  | t :: ts => by
    have ih := ZcK f ts
    rw [List.filter_cons, List.map_cons, List.any_cons]
    cases h : f t
    · simpa using ih
    · simp
theorem ZhC {c : Nat} {a : List Nat} {ts : List T} (h : Dk c (.tup [.str a, .tup ts])) : ∀ t ∈ ts, Dk c t := fun t ht k => by
  have h1 := h (k + 2)
  rw [show k + 2 + (2 * c + 1) = k + (2 * c + 1) + 1 + 1 by omega, Zu, ZM, ZM, ZM, Zu, Zu] at h1
  simp only [Bool.and_eq_true] at h1
  exact Ja.mp h1.2.1 t ht
theorem dk_kid {c : Nat} {w : List Nat} {a : T} (h : Dk c (.tup [.str w, a])) : Dk c a := fun k => by
  have h1 := h (k + 1)
  rw [show k + 1 + (2 * c + 1) = k + (2 * c + 1) + 1 by omega, Zu, ZM, ZM, ZM] at h1
  simp only [Bool.and_eq_true] at h1
  exact h1.2.1
theorem wz4 {call : Nat → List W → Mem → Res W} {m : Mem} {ts : List T} {a : List Nat} {e1 e2 e3 : Option W} : ev call gv (.ix (.var 0) (.con (.int 0))) [some (.t (.tup (.str a :: ts))), e1, e2, e3] m = .ok (.t (.str a)) m := ZD (Zb rfl) (Zf _) (at0 _ _)
theorem ZjC {d : Nat} {ts : List T} (hd : d ≤ 20) (h : ∀ t ∈ ts, Dk d t) : ∀ (g : T → Bool), ZM 59 (ts.filter g) = true := fun g => Ja.mpr fun t ht => by
  have := h t (List.mem_filter.mp ht).1 (59 - (2 * d + 1))
  rw [show 59 - (2 * d + 1) + (2 * d + 1) = 59 by omega] at this
  exact this
end
inductive Sm : Nat → T → Prop where
  | bl {d : Nat} (b : Bool) : Sm d (.bl b)
  | int {d : Nat} (i : Int) : Sm d (.int i)
  | non {d : Nat} : Sm d .non
  | str {d : Nat} (c : List Nat) : Sm d (.str c)
  | tup {d : Nat} {ts : List T} : ts.length ≤ 100 → (∀ t ∈ ts, Sm d t) → Sm (d + 1) (.tup ts)
theorem Sm.mono : ∀ {d e : Nat} {t : T}, Sm d t → d ≤ e → Sm e t
  | _, _, _, .bl b, _ => .bl b
  | _, _, _, .int i, _ => .int i
  | _, _, _, .non, _ => .non
  | _, _, _, .str c, _ => .str c
  | d + 1, e + 1, _, .tup h1 h2, hle => .tup h1 fun t ht => (h2 t ht).mono (by omega)
theorem ZbG (j : Int) (r : Nat) : rangeT j (r + 1) = .int j :: rangeT (j + 1) r := by
  unfold rangeT
  rw [List.range_succ_eq_map, List.map_cons, List.map_map]
  congr 1
  · simp
  · refine List.map_congr_left fun k _ => ?_
    simp only [Function.comp, T.int.injEq]
    omega
noncomputable def joinR (b : Bool) (bs : List Bool) (rs : List T) : T := match bs.findIdx? (· == b) with
  | some k => .tup [.bl b, .tup [.int (k : Int), rs.getD k .non]]
  | none => .tup [.bl (!b), .tup rs]
theorem join_loop {n : Nat} {m : Mem} {a : Option W} {by1 : Bool} {rs : List T} {f : T → Bool} (hf : ∀ t ∈ rs, ∃ x, t = .tup [.bl (f t), x]) : ∀ (r j : Nat) (c : Option W), j + r = rs.length →
    match ((rs.drop j).map f).findIdx? (· == by1) with
    | some k => Qk (ex (cf n) gv Zr) (.nm 3) (rangeT (j : Int) r) [a, some (.t (.lst rs)), some (.t (.bl by1)), c] m = .ok (.ret (.t (.tup [.bl by1, .tup [.int ((j + k : Nat) : Int), rs.getD (j + k) .non]]))) m
    | none => ∃ c', Qk (ex (cf n) gv Zr) (.nm 3) (rangeT (j : Int) r) [a, some (.t (.lst rs)), some (.t (.bl by1)), c] m = .ok (.next [a, some (.t (.lst rs)), some (.t (.bl by1)), c']) m
  | 0, j, c, h => by
    rw [List.drop_eq_nil_of_le (by omega)]
    exact ⟨c, rfl⟩
  | r + 1, j, c, h => by
    have hj : j < rs.length := by omega
    have hd : rs.drop j = rs[j] :: rs.drop (j + 1) := (List.drop_eq_getElem_cons hj)
    obtain ⟨x, hx⟩ := hf rs[j] (List.getElem_mem hj)
    have hat : atT rs (j : Int) = some rs[j] := by
      rw [Zfg (by omega) (by omega), Int.toNat_natCast]
      exact List.getElem?_eq_getElem hj
    have hi : ∀ env : Env, env[1]? = some (some (.t (.lst rs))) → env[3]? = some (some (.t (.int (j : Int)))) → ev (cf n) gv (.ix (.var 1) (.var 3)) env m = .ok (.t rs[j]) m := fun env h1 h3 => ZD (Zb h1) (Zb h3) hat
    have hc : ev (cf n) gv (.cmp .Eq (.ix (.ix (.var 1) (.var 3)) (.con (.int 0))) (.var 2)) [a, some (.t (.lst rs)), some (.t (.bl by1)), some (.t (.int (j : Int)))] m = .ok (.t (.bl (f rs[j] == by1))) m := by
      have hfx : ixT rs[j] (.int 0) = some (.bl (f rs[j])) := by
        have hx := hx
        generalize f rs[j] = b at hx ⊢
        rw [hx]
        rfl
      exact Zv (ZD (hi _ rfl rfl) (Zf _) hfx) (Zb rfl) (ZhV _ _)
    have hb : Jl (.nm 3) (.int (j : Int)) [a, some (.t (.lst rs)), some (.t (.bl by1)), c] = some [a, some (.t (.lst rs)), some (.t (.bl by1)), some (.t (.int (j : Int)))] := rfl
    have hg : rs.getD j .non = rs[j] := by simp [hj]
    rw [ZbG, hd, List.map_cons, List.findIdx?_cons]
    cases hq : (f rs[j] == by1) with
    | true =>
      rw [hq] at hc
      rw [if_pos rfl]
      show Qk _ _ _ _ _ = _
      rw [Qk, hb]
      have : ex (cf n) gv Zr [a, some (.t (.lst rs)), some (.t (.bl by1)), some (.t (.int (j : Int)))] m = .ok (.ret (.t (.tup [.bl by1, .tup [.int (j : Int), rs[j]]]))) m := Qj hc (Zo (QG (Zb rfl) (QG (Zb rfl) (hi _ rfl rfl))))
      show (ex (cf n) gv Zr [a, some (.t (.lst rs)), some (.t (.bl by1)), some (.t (.int (j : Int)))] m).bind _ = _
      rw [this, Nat.add_zero, hg]
      rfl
    | false =>
      rw [hq] at hc
      have step : Qk (ex (cf n) gv Zr) (.nm 3) (.int (j : Int) :: rangeT ((j : Int) + 1) r) [a, some (.t (.lst rs)), some (.t (.bl by1)), c] m = Qk (ex (cf n) gv Zr) (.nm 3) (rangeT ((j + 1 : Nat) : Int) r) [a, some (.t (.lst rs)), some (.t (.bl by1)), some (.t (.int (j : Int)))] m := by
        rw [Qk, hb]
        have : ex (cf n) gv Zr [a, some (.t (.lst rs)), some (.t (.bl by1)), some (.t (.int (j : Int)))] m = .ok (.next [a, some (.t (.lst rs)), some (.t (.bl by1)), some (.t (.int (j : Int)))]) m := by
          unfold Zr
          rw [Z2 hc, ex]
        show (ex (cf n) gv Zr [a, some (.t (.lst rs)), some (.t (.bl by1)), some (.t (.int (j : Int)))] m).bind _ = _
        rw [this, show ((j + 1 : Nat) : Int) = (j : Int) + 1 by omega]
        rfl
      rw [step, if_neg (by decide)]
      have ih := join_loop (n := n) (m := m) (a := a) (by1 := by1) hf r (j + 1) (some (.t (.int (j : Int)))) (by omega)
      cases q : ((rs.drop (j + 1)).map f).findIdx? (· == by1) with
      | none => rw [q] at ih; exact ih
      | some k =>
        rw [q] at ih
        show Qk _ _ _ _ _ = _
        rw [show j + (k + 1) = j + 1 + k by omega]
        exact ih
section
variable {n : Nat} {m : Mem} {nm kd : List Nat} {mk : List (List Nat)} {sz : List (List Nat × Int)}
theorem ix0 (a : T) (r : List T) : ixT (.tup (a :: r)) (.int 0) = some a := at0 a r
theorem w4 {call : Nat → List W → Mem → Res W} {ts : List T} {a : List Nat} {e1 e2 e3 : Option W} : ev call gv (.ix (.var 0) (.con (.int 0))) [some (.t (.tup (.str a :: ts))), e1, e2, e3] m = .ok (.t (.str a)) m := ZD (Zb rfl) (Zf _) (ix0 _ _)
theorem Zhk {a : List Nat} {rs : List T} {f : T → Bool} (ha : a = [97, 110, 100] ∨ a = [111, 114]) (hl : rs.length ≤ 100) (hf : ∀ t ∈ rs, ∃ x, t = .tup [.bl (f t), x]) :
    cf (n + 1) 5 [.t (.str a), .t (.lst rs)] m = .ok (.t (joinR (a == [111, 114]) (rs.map f) rs)) m := by
  have key : ex (cf n) gv Qt [some (.t (.str a)), some (.t (.lst rs)), none, none] m = .ok (.ret (.t (joinR (a == [111, 114]) (rs.map f) rs))) m := by
    unfold Qt
    rw [Zx (Zv (Zb rfl) (Zf _) (Zbr _ _))]
    simp only [List.set_cons_succ, List.set_cons_zero]
    have h := join_loop (n := n) (m := m) (a := some (.t (.str a))) (by1 := a == [111, 114]) hf rs.length 0 none (by omega)
    rw [List.drop_zero] at h
    have hr := Zeu (i := (rs.length : Int)) ⟨by omega, by omega⟩
    rw [Int.toNat_natCast] at hr
    have hit : ev (cf n) gv (.blt .range1 (.cons (.blt .len (.cons (.var 1) .nil)) .nil)) [some (.t (.str a)), some (.t (.lst rs)), some (.t (.bl (a == [111, 114]))), none] m = .ok (.t (.lst (rangeT 0 rs.length))) m := ZL (ZL (Zb rfl) (l_lst rs)) hr
    unfold joinR
    cases q : (rs.map f).findIdx? (· == (a == [111, 114])) with
    | none =>
      rw [q] at h
      obtain ⟨c', h⟩ := h
      rw [XD hit rfl h]
      exact Zo (QG (XX (Zb rfl)) (ZL (Zb rfl) (ZdO rs)))
    | some k =>
      rw [q] at h
      have h : Qk (ex (cf n) gv Zr) (.nm 3) (rangeT 0 rs.length) [some (.t (.str a)), some (.t (.lst rs)), some (.t (.bl (a == [111, 114]))), none] m = .ok (.ret (.t (.tup [.bl (a == [111, 114]), .tup [.int ((0 + k : Nat) : Int), rs.getD (0 + k) .non]]))) m := h
      rw [ex, hit]
      show (Qk (ex (cf n) gv Zr) (.nm 3) (rangeT 0 rs.length) [some (.t (.str a)), some (.t (.lst rs)), some (.t (.bl (a == [111, 114]))), none] m).bind _ = _
      rw [h, Nat.zero_add]
      rfl
  rw [Zbq]
  simp [key, Zw, ZS]
noncomputable def Told (nm kd : List Nat) (mk : List (List Nat)) (sz : List (List Nat × Int)) (d : Nat) (w : T) (b : Bool) (R : T) : Prop :=
  (∃ x, R = .tup [.bl b, x]) ∧ Sm (2 * d + 1) R ∧ ∀ (n : Nat) (m : Mem),
    cf (n + (d + 3)) 2 [.t w, .t (Z7 nm kd mk sz)] m = .ok (.t (.bl b)) m ∧
    cf (n + (d + 1)) 26 [.t w, .t (Z7 nm kd mk sz)] m = .ok (.t (.bl b)) m ∧
    cf (n + (d + 4)) 4 [.t w, .t (Z7 nm kd mk sz)] m = .ok (.t R) m ∧
    cf (n + (d + 2)) 28 [.t w, .t (Z7 nm kd mk sz)] m = .ok (.t R) m
theorem cf2 {n f : Nat} {a b t : T} {body : S} {k : Nat} (hcf : ∀ ws : List W, cf (n + 1) f ws m = if ws.length = 2 then (ex (cf n) gv body (ws.map some ++ List.replicate (2 + k - 2) none) m).bind fun fl m' => fin m.length false fl m' else .stuck) (h : ex (cf n) gv body ([some (.t a), some (.t b)] ++ List.replicate k none) m = .ok (.ret (.t t)) m) : cf (n + 1) f [.t a, .t b] m = .ok (.t t) m := by
  rw [hcf]
  rw [if_pos (show [W.t a, W.t b].length = 2 from rfl)]
  have : 2 + k - 2 = k := by omega
  rw [this]
  show (ex (cf n) gv body ([some (.t a), some (.t b)] ++ List.replicate k none) m).bind _ = _
  rw [h]
  exact ZS (cell := false) rfl
theorem Zgr {d : Nat} {w : T} (h : Lf w) (hl : sz.length ≤ 100) : Told nm kd mk sz d w (XN nm mk sz w) (.tup [.bl (XN nm mk sz w), .non]) := by
  refine ⟨⟨_, rfl⟩, .tup (by simp) fun t ht => ?_, fun n m => ⟨?_, ?_, ?_, ?_⟩⟩
  · simp only [List.mem_cons, List.not_mem_nil, or_false] at ht
    rcases ht with rfl | rfl
    · exact .bl _
    · exact .non
  · exact ZdL (n := n + d) h
  · exact law_leaf (n := n + d) h hl
  · have hw : ∃ a ts, w = .tup (.str a :: ts) ∧ (a == [110, 111, 116]) = false ∧ cmpT .In (.str a) (.tup [.str [97, 110, 100], .str [111, 114]]) = some false := by
      cases h <;> exact ⟨_, _, rfl, rfl, rfl⟩
    obtain ⟨a, ts, rfl, h1, h2⟩ := hw
    refine cf2 (n := n + (d + 3)) (k := 2) (fun ws => Zb0 _ ws m) ?_
    show ex _ gv Jf [some (.t (.tup (.str a :: ts))), some (.t (Z7 nm kd mk sz)), none, none] m = _
    unfold Jf
    rw [Zx w4]
    rw [way rfl h1, Z2 (Zv (Zb rfl) (QG (Zf _) (Zf _)) h2)]
    exact Zo (QG ((Zy (Zb rfl) (Zb rfl)).trans (ZdL (n := n + d) h)) (Zf _))
  · have hw : ∃ a ts, w = .tup (.str a :: ts) ∧ (a == [110, 111, 116]) = false ∧ cmpT .NotIn (.str a) (.tup [.str [97, 110, 100], .str [111, 114]]) = some true := by
      cases h <;> exact ⟨_, _, rfl, rfl, rfl⟩
    obtain ⟨a, ts, rfl, h1, h2⟩ := hw
    refine cf2 (n := n + (d + 1)) (k := 2) (fun ws => Za2 _ ws m) ?_
    show ex _ gv QR [some (.t (.tup (.str a :: ts))), some (.t (Z7 nm kd mk sz)), none, none] m = _
    unfold QR
    have g : cf (n + (d + 1)) 26 [.t (.tup (.str a :: ts)), .t (Z7 nm kd mk sz)] m = .ok (.t (.bl (XN nm mk sz (.tup (.str a :: ts))))) m := law_leaf (n := n + d) h hl
    rw [Zx ((Zy (Zb rfl) (Zb rfl)).trans g)]
    simp only [List.set_cons_succ, List.set_cons_zero]
    rw [Z2 (Zv w4 (Zf _) (by rw [Zbr, h1]))]
    exact Qj (Zv w4 (QG (Zf _) (Zf _)) h2) (Zo (QG (Zb rfl) (Zf _)))
theorem Zh7 {d : Nat} {w R : T} {b : Bool} (h : Told nm kd mk sz d w b R) : Told nm kd mk sz (d + 1) (.tup [.str [110, 111, 116], w]) (!b) (.tup [.bl (!b), R]) := by
  obtain ⟨⟨x, rfl⟩, h2, h3⟩ := h
  refine ⟨⟨_, rfl⟩, .tup (by simp) fun t ht => ?_, fun n m => ?_⟩
  · simp only [List.mem_cons, List.not_mem_nil, or_false] at ht
    rcases ht with rfl | rfl
    · exact .bl _
    · exact h2.mono (by omega)
  · obtain ⟨g1, g2, g3, g4⟩ := h3 n m
    refine ⟨?_, ?_, ?_, ?_⟩
    · refine cf2 (n := n + (d + 3)) (k := 1) (fun ws => ZeC _ ws m) ?_
      show ex _ gv X5 [some (.t (.tup [.str [110, 111, 116], w])), some (.t (Z7 nm kd mk sz)), none] m = _
      unfold X5
      rw [Zx w0, way rfl rfl, way rfl rfl, way rfl rfl]
      exact wayT rfl rfl (Zo (XX ((Zy (ZD (Zb rfl) (Zf _) rfl) (Zb rfl)).trans g1)))
    · refine cf2 (n := n + (d + 1)) (k := 2) (fun ws => Zby _ ws m) ?_
      show ex _ gv Jj [some (.t (.tup [.str [110, 111, 116], w])), some (.t (Z7 nm kd mk sz)), none, none] m = _
      unfold Jj
      rw [Zx w4, way rfl rfl, way rfl rfl, way rfl rfl]
      exact wayT rfl rfl (Zo (XX ((Zy (ZD (Zb rfl) (Zf _) rfl) (Zb rfl)).trans g2)))
    · refine cf2 (n := n + (d + 4)) (k := 2) (fun ws => Zb0 _ ws m) ?_
      show ex _ gv Jf [some (.t (.tup [.str [110, 111, 116], w])), some (.t (Z7 nm kd mk sz)), none, none] m = _
      unfold Jf
      rw [Zx w4]
      refine wayT rfl rfl ?_
      rw [Zx ((Zy (ZD (Zb rfl) (Zf _) rfl) (Zb rfl)).trans g3)]
      exact Zo (QG (XX (ZD (Zb rfl) (Zf _) rfl)) (Zb rfl))
    · have g2' := (h3 (n + 1) m).2.1
      refine cf2 (n := n + (d + 2)) (k := 2) (fun ws => Za2 _ ws m) ?_
      show ex _ gv QR [some (.t (.tup [.str [110, 111, 116], w])), some (.t (Z7 nm kd mk sz)), none, none] m = _
      have hl : cf (n + (d + 2)) 26 [.t (.tup [.str [110, 111, 116], w]), .t (Z7 nm kd mk sz)] m = .ok (.t (.bl (!b))) m := by
        refine cf2 (n := n + (d + 1)) (k := 2) (fun ws => Zby _ ws m) ?_
        show ex _ gv Jj [some (.t (.tup [.str [110, 111, 116], w])), some (.t (Z7 nm kd mk sz)), none, none] m = _
        unfold Jj
        rw [Zx w4, way rfl rfl, way rfl rfl, way rfl rfl]
        exact wayT rfl rfl (Zo (XX ((Zy (ZD (Zb rfl) (Zf _) rfl) (Zb rfl)).trans g2)))
      unfold QR
      rw [Zx ((Zy (Zb rfl) (Zb rfl)).trans hl)]
      exact Qj (Zv (k := true) w4 (Zf _) rfl) (Zo (QG (Zb rfl) ((Zy (ZD (Zb rfl) (Zf _) rfl) (Zb rfl)).trans g4)))
end
section
variable {nm kd : List Nat} {mk : List (List Nat)} {sz : List (List Nat × Int)}
theorem ZkG {P : T → Bool → T → Prop} {ts : List T} (h : ∀ t ∈ ts, ∃ b R, P t b R) : ∃ (f : T → Bool) (g : T → T), ∀ t ∈ ts, P t (f t) (g t) := by
  classical
  refine ⟨fun t => if ht : t ∈ ts then (h t ht).choose else false, fun t => if ht : t ∈ ts then (h t ht).choose_spec.choose else .non, fun t ht => ?_⟩
  simp only [dif_pos ht]
  exact (h t ht).choose_spec.choose_spec
theorem Zc1 {call : Nat → List W → Mem → Res W} {m : Mem} {c : E} {env : Env} {ts : List T} {F : Nat} {g : T → T} {k : Nat} {card : T} (hc : c = .comp 1 [k] (.ix (.var 0) (.con (.int 1))) (.nm 0) .nil (.emit (.call F (.cons (.var 0) (.cons (.var 1) .nil))))) {a : List Nat} (h0 : env[0]? = some (some (.t (.tup [.str a, .tup ts])))) (hk : env[k]? = some (some (.t card))) (hl : ts.length ≤ 100) (hg : ∀ t ∈ ts, call F [.t t, .t card] m = .ok (.t (g t)) m) :
    ev call gv c env m = .ok (.t (.lst (ts.map g))) m := by
  subst hc
  have h := Js (f := QW call gv .nil (.emit (.call F (.cons (.var 0) (.cons (.var 1) .nil))))) (tg := .nm 0) (env := [none, some (.t card)]) (m := m) (g := fun t => [g t]) ts (fun t ht => ⟨[some (.t t), some (.t card)], rfl, Zgp (Xc ((Zy (Zb rfl) (Zb rfl)).trans (hg t ht)))⟩)
  rw [Xb] at h
  refine QB (x := .t (.tup ts)) (m0 := m) (m1 := m) (ZD (Zb h0) (Zf _) rfl) rfl ?_ (by rw [List.length_map]; unfold lim; omega)
  show Q8 _ _ _ ([none] ++ [(env[k]?).join]) _ = _
  rw [hk]
  exact h
theorem ZaA (bs : List Bool) : bs.findIdx? (· == true) = none ↔ bs.any id = false := by
  rw [List.findIdx?_eq_none_iff, List.any_eq_false]
  constructor
  · intro h x hx; have := h x hx; simpa using this
  · intro h x hx; have := h x hx; simpa using this
theorem ZaB (bs : List Bool) : bs.findIdx? (· == false) = none ↔ bs.all id = true := by
  rw [List.findIdx?_eq_none_iff, List.all_eq_true]
  constructor
  · intro h x hx; have := h x hx; cases x <;> simp_all
  · intro h x hx; have := h x hx; cases x <;> simp_all
noncomputable def jnB (b : Bool) (bs : List Bool) : Bool := if b then bs.all id else bs.any id
theorem ZiO (b : Bool) (bs : List Bool) (rs : List T) : joinR (!b) bs rs = if jnB b bs == b then .tup [.bl (jnB b bs), .tup rs] else .tup [.bl (jnB b bs), .tup [.int (((bs.findIdx? (· == jnB b bs)).getD 0 : Nat) : Int), rs.getD ((bs.findIdx? (· == jnB b bs)).getD 0) .non]] := by
  cases b with
  | true =>
    cases q : bs.all id with
    | true =>
      have h1 : jnB true bs = true := q
      have h2 := (ZaB bs).mpr q
      rw [h1]
      unfold joinR
      show (match bs.findIdx? (· == false) with | some k => _ | none => _) = _
      rw [h2]
      rfl
    | false =>
      have h1 : jnB true bs = false := q
      rw [h1]
      unfold joinR
      show (match bs.findIdx? (· == false) with | some k => _ | none => _) = _
      cases q2 : bs.findIdx? (· == false) with
      | none => rw [(ZaB _).mp q2] at q; cases q
      | some k => rfl
  | false =>
    cases q : bs.any id with
    | false =>
      have h1 : jnB false bs = false := q
      have h2 := (ZaA bs).mpr q
      rw [h1]
      unfold joinR
      show (match bs.findIdx? (· == true) with | some k => _ | none => _) = _
      rw [h2]
      rfl
    | true =>
      have h1 : jnB false bs = true := q
      rw [h1]
      unfold joinR
      show (match bs.findIdx? (· == true) with | some k => _ | none => _) = _
      cases q2 : bs.findIdx? (· == true) with
      | none => rw [(ZaA _).mp q2] at q; cases q
      | some k => rfl
theorem Ze6 {N : Nat} {m : Mem} {a : List Nat} {ts : List T} {f : T → Bool} {c : Bool} {card : T} (hf : ∀ t ∈ ts, cf N 26 [.t t, .t card] m = .ok (.t (.bl (f t))) m) : ∀ (r j : Nat), j + r = ts.length →
    ∃ out, Q8 (QW (cf N) gv (.cons (.cmp .Eq (.call 26 (.cons (.ix (.ix (.var 3) (.con (.int 1))) (.var 0)) (.cons (.var 2) .nil))) (.var 1)) .nil) Xa) (.nm 0) (rangeT (j : Int) r) [none, some (.t (.bl c)), some (.t card), some (.t (.tup [.str a, .tup ts]))] m = .ok out m ∧ out.length ≤ r ∧ (match ((ts.drop j).map f).findIdx? (· == c) with
      | some k => ∃ r', out = .int ((j + k : Nat) : Int) :: r'
      | none => out = [])
  | 0, j, h => by
    refine ⟨[], rfl, Nat.le_refl _, ?_⟩
    rw [List.drop_eq_nil_of_le (by omega)]
    rfl
  | r + 1, j, h => by
    have hj : j < ts.length := by omega
    have hd : ts.drop j = ts[j] :: ts.drop (j + 1) := List.drop_eq_getElem_cons hj
    have hx : ixT (.tup ts) (.int (j : Int)) = some ts[j] := by
      show atT ts (j : Int) = _
      rw [Zfg (by omega) (by omega), Int.toNat_natCast]
      exact List.getElem?_eq_getElem hj
    have hc : ev (cf N) gv (.cmp .Eq (.call 26 (.cons (.ix (.ix (.var 3) (.con (.int 1))) (.var 0)) (.cons (.var 2) .nil))) (.var 1)) [some (.t (.int (j : Int))), some (.t (.bl c)), some (.t card), some (.t (.tup [.str a, .tup ts]))] m = .ok (.t (.bl (f ts[j] == c))) m := Zv ((Zy (ZD (ZD (Zb rfl) (Zf _) rfl) (Zb rfl) hx) (Zb rfl)).trans (hf _ (List.getElem_mem hj))) (Zb rfl) (ZhV _ _)
    obtain ⟨out, ho, hl, hm⟩ := Ze6 (a := a) (c := c) hf r (j + 1) (by omega)
    have ho : Q8 (QW (cf N) gv (.cons (.cmp .Eq (.call 26 (.cons (.ix (.ix (.var 3) (.con (.int 1))) (.var 0)) (.cons (.var 2) .nil))) (.var 1)) .nil) Xa) (.nm 0) (rangeT ((j : Int) + 1) r) [none, some (.t (.bl c)), some (.t card), some (.t (.tup [.str a, .tup ts]))] m = .ok out m := by
      rw [show ((j : Int) + 1) = ((j + 1 : Nat) : Int) by omega]
      exact ho
    rw [ZbG, hd, List.map_cons, List.findIdx?_cons]
    cases q : (f ts[j] == c) with
    | true =>
      rw [q] at hc
      refine ⟨.int (j : Int) :: out, ?_, by rw [List.length_cons]; omega, ?_⟩
      · rw [Q8]
        show (QW (cf N) gv _ _ [some (.t (.int (j : Int))), some (.t (.bl c)), some (.t card), some (.t (.tup [.str a, .tup ts]))] m).bind _ = _
        rw [ZeM hc (show ev (cf N) gv Xa _ m = _ from Xc (Zb rfl)), Zw, ho]
        rfl
      · exact ⟨out, rfl⟩
    | false =>
      rw [q] at hc
      refine ⟨out, ?_, by omega, ?_⟩
      · rw [Q8]
        show (QW (cf N) gv _ _ [some (.t (.int (j : Int))), some (.t (.bl c)), some (.t card), some (.t (.tup [.str a, .tup ts]))] m).bind _ = _
        rw [ZeN hc, Zw, ho]
        rfl
      · rw [if_neg Bool.false_ne_true]
        cases q2 : ((ts.drop (j + 1)).map f).findIdx? (· == c) with
        | none =>
          rw [q2] at hm
          exact hm
        | some k =>
          rw [q2] at hm
          obtain ⟨r', e⟩ := hm
          exact ⟨r', by rw [e, show j + 1 + k = j + (k + 1) by omega]⟩
theorem ZjK {c0 d : Nat} {ts : List T} {b : Bool} (hd : c0 ≤ 20) (hkt : ∀ t ∈ ts, Dk c0 t) (hl : ts.length ≤ 6) (h : ∀ t ∈ ts, ∃ c R, Told nm kd mk sz d t c R) : ∃ c R, Told nm kd mk sz (d + 1) (.tup [.str (if b then [97, 110, 100] else [111, 114]), .tup ts]) c R := by
  obtain ⟨f, g, hfg⟩ := ZkG h
  have hlen : (ts.map g).length = ts.length := List.length_map ..
  refine ⟨jnB b (ts.map f), joinR (!b) (ts.map f) (ts.map g), ?_, ?_, ?_⟩
  · unfold joinR jnB
    cases b with
    | true =>
      cases q : (ts.map f).findIdx? (· == !true) with
      | none => exact ⟨_, by rw [(ZaB _).mp q]; rfl⟩
      | some k =>
        have : (ts.map f).all id = false := by
          cases q2 : (ts.map f).all id with
          | false => rfl
          | true => rw [show (!true) = false from rfl, (ZaB _).mpr q2] at q; cases q
        exact ⟨_, by rw [this]; rfl⟩
    | false =>
      cases q : (ts.map f).findIdx? (· == !false) with
      | none => exact ⟨_, by rw [(ZaA _).mp q]; rfl⟩
      | some k =>
        have : (ts.map f).any id = true := by
          cases q2 : (ts.map f).any id with
          | true => rfl
          | false => rw [show (!false) = true from rfl, (ZaA _).mpr q2] at q; cases q
        exact ⟨_, by rw [this]; rfl⟩
  · have hs : ∀ t ∈ ts.map g, Sm (2 * d + 1) t := fun t ht => by
      obtain ⟨x, hx, rfl⟩ := List.mem_map.mp ht
      exact (hfg x hx).2.1
    unfold joinR
    cases q : (ts.map f).findIdx? (· == !b) with
    | none =>
      refine .tup (by simp) fun t ht => ?_
      simp only [List.mem_cons, List.not_mem_nil, or_false] at ht
      rcases ht with rfl | rfl
      · exact .bl _
      · exact Sm.tup (d := 2 * d + 1) (by omega) hs
    | some k =>
      refine .tup (by simp) fun t ht => ?_
      simp only [List.mem_cons, List.not_mem_nil, or_false] at ht
      rcases ht with rfl | rfl
      · exact .bl _
      · refine Sm.tup (d := 2 * d + 1) (by simp) fun t ht => ?_
        simp only [List.mem_cons, List.not_mem_nil, or_false] at ht
        rcases ht with rfl | rfl
        · exact .int _
        · by_cases hk : k < (ts.map g).length
          · have hk' : k < ts.length := by simpa using hk
            have : (ts.map g).getD k .non = (ts.map g)[k] := by simp [hk']
            rw [this]
            exact hs _ (List.getElem_mem hk)
          · have : (ts.map g).getD k .non = .non := by simp [List.getD, List.getElem?_eq_none (by omega : (ts.map g).length ≤ k)]
            rw [this]
            exact .non
  · have lawl : ∀ (n : Nat) (m : Mem), cf (n + (d + 2)) 26 [.t (.tup [.str (if b then [97, 110, 100] else [111, 114]), .tup ts]), .t (Z7 nm kd mk sz)] m = .ok (.t (.bl (jnB b (ts.map f)))) m := fun n m => by
      refine cf2 (n := n + (d + 1)) (k := 2) (fun ws => Zby _ ws m) ?_
      show ex _ gv Jj [some (.t (.tup [.str (if b then [97, 110, 100] else [111, 114]), .tup ts])), some (.t (Z7 nm kd mk sz)), none, none] m = _
      have hemp : ∀ env : Env, ev (cf (n + (d + 1))) gv (.lst .nil) env m = .ok (.t (.lst [])) m := fun env => Jy Z8 rfl QF
      unfold Jj
      cases b with
      | true =>
        refine (Zx (w := .t (.str [97, 110, 100])) (m1 := m) wz4).trans ?_
        rw [way rfl rfl, way rfl rfl, way rfl rfl, way rfl rfl]
        refine wayT rfl rfl (Zo ?_)
        rw [show jnB true (ts.map f) = (ts.map f).all id from rfl, ← ZcM]
        exact Zv (ZdS (g := fun t => !f t) rfl rfl rfl (by omega) fun t ht => XX ((Zy (Zb rfl) (Zb rfl)).trans ((hfg t ht).2.2 n m).2.1)) (hemp _) (Zex (ZjC hd hkt _)).1
      | false =>
        refine (Zx (w := .t (.str [111, 114])) (m1 := m) wz4).trans ?_
        rw [way rfl rfl, way rfl rfl, way rfl rfl, way rfl rfl, way rfl rfl]
        refine wayT rfl rfl (Zo ?_)
        rw [show jnB false (ts.map f) = (ts.map f).any id from rfl, ← ZcK]
        exact Zv (ZdS (g := f) rfl rfl rfl (by omega) fun t ht => (Zy (Zb rfl) (Zb rfl)).trans ((hfg t ht).2.2 n m).2.1) (hemp _) (Zex (ZjC hd hkt _)).2
    have letl : ∀ (n : Nat) (m : Mem), cf (n + (d + 4)) 2 [.t (.tup [.str (if b then [97, 110, 100] else [111, 114]), .tup ts]), .t (Z7 nm kd mk sz)] m = .ok (.t (.bl (jnB b (ts.map f)))) m := fun n m => by
      refine cf2 (n := n + (d + 3)) (k := 1) (fun ws => ZeC _ ws m) ?_
      show ex _ gv X5 [some (.t (.tup [.str (if b then [97, 110, 100] else [111, 114]), .tup ts])), some (.t (Z7 nm kd mk sz)), none] m = _
      have hc : ∀ (c : E), c = .comp 1 [1] (.ix (.var 0) (.con (.int 1))) (.nm 0) .nil (.emit (.call 2 (.cons (.var 0) (.cons (.var 1) .nil)))) → ∀ env : Env, env[0]? = some (some (.t (.tup [.str (if b then [97, 110, 100] else [111, 114]), .tup ts]))) → env[1]? = some (some (.t (Z7 nm kd mk sz))) → ev (cf (n + (d + 3))) gv c env m = .ok (.t (.lst (ts.map fun t => .bl (f t)))) m := fun c hc env h0 h1 =>
        Zc1 hc h0 h1 (by omega) fun t ht => ((hfg t ht).2.2 n m).1
      unfold X5
      rw [Zx w0]
      cases b with
      | true =>
        rw [way rfl rfl, way rfl rfl, way rfl rfl, way rfl rfl]
        exact wayT rfl rfl (Zo (ZL (hc Zfd rfl _ rfl rfl) (Zkr (Xr f ts))))
      | false =>
        rw [way rfl rfl, way rfl rfl, way rfl rfl, way rfl rfl, way rfl rfl]
        exact wayT rfl rfl (Zo (ZL (hc Zfe rfl _ rfl rfl) (l_any (Xr f ts))))
    have hgf : ∀ t ∈ ts.map g, ∃ (c : Bool) (x : T), t = .tup [.bl c, x] := fun t ht => by
      obtain ⟨x, hx, rfl⟩ := List.mem_map.mp ht
      obtain ⟨y, hy⟩ := (hfg x hx).1
      exact ⟨_, _, hy⟩
    refine fun n m => ⟨letl n m, lawl n m, ?_, ?_⟩
    · refine cf2 (n := n + (d + 4)) (k := 2) (fun ws => Zb0 _ ws m) ?_
      show ex _ gv Jf [some (.t (.tup [.str (if b then [97, 110, 100] else [111, 114]), .tup ts])), some (.t (Z7 nm kd mk sz)), none, none] m = _
      have hc : ∀ env : Env, env[0]? = some (some (.t (.tup [.str (if b then [97, 110, 100] else [111, 114]), .tup ts]))) → env[1]? = some (some (.t (Z7 nm kd mk sz))) → ev (cf (n + (d + 4))) gv ZcF env m = .ok (.t (.lst (ts.map g))) m := fun env h0 h1 =>
        Zc1 rfl h0 h1 (by omega) fun t ht => ((hfg t ht).2.2 n m).2.2.1
      let h : T → Bool := fun t => match t with
        | .tup (.bl c :: _) => c
        | _ => false
      have hh : ∀ t ∈ ts.map g, ∃ x, t = .tup [.bl (h t), x] := fun t ht => by
        obtain ⟨c, x, rfl⟩ := hgf t ht
        exact ⟨x, rfl⟩
      have hm : (ts.map g).map h = ts.map f := by
        rw [List.map_map]
        refine List.map_congr_left fun t ht => ?_
        obtain ⟨y, hy⟩ := (hfg t ht).1
        show h (g t) = f t
        rw [hy]
      have hj := Zhk (n := n + (d + 3)) (m := m) (a := if b then [97, 110, 100] else [111, 114]) (rs := ts.map g) (f := h) (by cases b; exact .inr rfl; exact .inl rfl) (by omega) hh
      rw [hm] at hj
      have hb : ((if b then [97, 110, 100] else [111, 114]) == [111, 114]) = !b := by cases b <;> rfl
      rw [hb] at hj
      unfold Jf
      rw [Zx w4, way rfl (by cases b <;> rfl)]
      exact Qj (Zv (k := true) (Zb rfl) (QG (Zf _) (Zf _)) (by cases b <;> rfl)) (Zo ((Zy (Zb rfl) (hc _ rfl rfl)).trans hj))
    · refine cf2 (n := n + (d + 2)) (k := 2) (fun ws => Za2 _ ws m) ?_
      show ex _ gv QR [some (.t (.tup [.str (if b then [97, 110, 100] else [111, 114]), .tup ts])), some (.t (Z7 nm kd mk sz)), none, none] m = _
      have hc1 : ∀ env : Env, env[0]? = some (some (.t (.tup [.str (if b then [97, 110, 100] else [111, 114]), .tup ts]))) → env[1]? = some (some (.t (Z7 nm kd mk sz))) → ev (cf (n + (d + 2))) gv Zb2 env m = .ok (.t (.lst (ts.map g))) m := fun env h0 h1 =>
        Zc1 rfl h0 h1 (by omega) fun t ht => ((hfg t ht).2.2 n m).2.2.2
      unfold QR
      rw [Zx ((Zy (Zb rfl) (Zb rfl)).trans (lawl n m))]
      simp only [List.set_cons_succ, List.set_cons_zero]
      rw [Z2 (Zv (k := false) w4 (Zf _) (by cases b <;> rfl))]
      rw [Z2 (Zv (k := false) w4 (QG (Zf _) (Zf _)) (by cases b <;> rfl))]
      have hcond : ∀ env : Env, env = [some (.t (.tup [.str (if b then [97, 110, 100] else [111, 114]), .tup ts])), some (.t (Z7 nm kd mk sz)), some (.t (.bl (jnB b (ts.map f)))), none] → ev (cf (n + (d + 2))) gv (.cmp .Eq (.var 2) (.cmp .Eq (.ix (.var 0) (.con (.int 0))) (.con (.str [97, 110, 100])))) env m = .ok (.t (.bl (jnB b (ts.map f) == b))) m := fun env he => by
        subst he
        exact Zv (y := .bl b) (Zb rfl) (Zv w4 (Zf _) (by cases b <;> rfl)) (ZhV _ _)
      have hcond := hcond _ rfl
      have hj := ZiO b (ts.map f) (ts.map g)
      rw [hj]
      cases hq : (jnB b (ts.map f) == b) with
      | true =>
        rw [hq] at hcond
        rw [Qj hcond (Zo (QG (Zb rfl) (ZL (hc1 _ rfl rfl) (ZdO _))))]
        rfl
      | false =>
        rw [hq] at hcond
        rw [Z2 hcond]
        have hex : ∃ k, (ts.map f).findIdx? (· == jnB b (ts.map f)) = some k ∧ k < ts.length := by
          have hsome : (ts.map f).findIdx? (· == jnB b (ts.map f)) ≠ none := by
            intro hn
            cases b with
            | true =>
              have : jnB true (ts.map f) = false := by cases h : jnB true (ts.map f) <;> simp_all
              rw [this] at hn
              have h2 := (ZaB _).mp hn
              have : jnB true (ts.map f) = true := by simp [jnB, h2]
              simp_all
            | false =>
              have : jnB false (ts.map f) = true := by cases h : jnB false (ts.map f) <;> simp_all
              rw [this] at hn
              have h2 := (ZaA _).mp hn
              have : jnB false (ts.map f) = false := by simp [jnB, h2]
              simp_all
          cases q : (ts.map f).findIdx? (· == jnB b (ts.map f)) with
          | none => exact absurd q hsome
          | some k =>
            refine ⟨k, rfl, ?_⟩
            have := (List.findIdx?_eq_some_iff_getElem.mp q).1
            simpa using this
        obtain ⟨k, hk, hkl⟩ := hex
        have hidx : ev (cf (n + (d + 2))) gv (.ix Zb3 (.con (.int 0))) [some (.t (.tup [.str (if b then [97, 110, 100] else [111, 114]), .tup ts])), some (.t (Z7 nm kd mk sz)), some (.t (.bl (jnB b (ts.map f)))), none] m = .ok (.t (.int (k : Int))) m := by
          obtain ⟨out, ho, hol, hout⟩ := Ze6 (N := n + (d + 2)) (m := m) (a := if b then [97, 110, 100] else [111, 114]) (ts := ts) (f := f) (c := jnB b (ts.map f)) (card := Z7 nm kd mk sz) (fun t ht => by
            have := ((hfg t ht).2.2 (n + 1) m).2.1
            rw [show n + 1 + (d + 1) = n + (d + 2) by omega] at this
            exact this) ts.length 0 (by omega)
          rw [List.drop_zero, hk] at hout
          obtain ⟨r', rfl⟩ := hout
          have hr := Zeu (i := (ts.length : Int)) ⟨by omega, by omega⟩
          rw [Int.toNat_natCast] at hr
          refine ZD (QB (x := .t (.lst (rangeT 0 ts.length))) (m0 := m) (m1 := m) (ZL (ZL (ZD (Zb rfl) (Zf _) rfl) (Zhj ts)) hr) rfl ho (by unfold lim; omega)) (Zf _) ?_
          show atT _ 0 = _
          rw [at0, Nat.zero_add]
        rw [Zx hidx]
        simp only [List.set_cons_succ, List.set_cons_zero]
        have hxk : ixT (.tup ts) (.int (k : Int)) = some ts[k] := by
          show atT ts (k : Int) = _
          rw [Zfg (by omega) (by omega), Int.toNat_natCast]
          exact List.getElem?_eq_getElem hkl
        have hgk : (ts.map g).getD k .non = g ts[k] := by simp [hkl]
        have hr := ((hfg ts[k] (List.getElem_mem hkl)).2.2 n m).2.2.2
        rw [hk]
        simp only [Option.getD_some]
        rw [hgk]
        exact Zo (QG (Zb rfl) (QG (Zb rfl) ((Zy (ZD (ZD (Zb rfl) (Zf _) rfl) (Zb rfl) hxk) (Zb rfl)).trans hr)))
theorem told {c0 : Nat} (hd : c0 ≤ 20) (hl : sz.length ≤ 100) : ∀ (d : Nat) {w : T}, DW d w → Dk c0 w → ∃ c R, Told nm kd mk sz d w c R := by
  intro d w h
  induction h with
  | leaf h => exact fun _ => ⟨_, _, Zgr h hl⟩
  | nt _ ih =>
    intro hk
    obtain ⟨c, R, h⟩ := ih (dk_kid hk)
    exact ⟨_, _, Zh7 h⟩
  | jn h6 _ ih => exact fun hk => ZjK hd (ZhC hk) h6 fun t ht => ih t ht (ZhC hk t ht)
end
theorem Xp {call : Nat → List W → Mem → Res W} {gv : List T} {env : Env} {m : Mem} : ex call gv .done env m = .ok (.next env) m := by rw [ex]
structure Ent where
  sd : List Nat
  nm : List Nat
  kd : List Nat
  mrk : List (List Nat)
  sz : List (List Nat × Int)
  w : T
  many : Int
  least : Int
  wt : Int
  till : Int
  left : Int
noncomputable def Ent.card (e : Ent) : T := Z7 e.nm e.kd e.mrk e.sz
noncomputable def Ent.off (e : Ent) : T := offT e.sd e.nm e.kd e.mrk e.sz e.w e.many e.least e.wt e.till
noncomputable def Ent.t (e : Ent) : T := .tup [e.off, .int e.left]
structure EntOk (e : Ent) : Prop where
  card : Zjf e.nm e.kd e.mrk e.sz
  wish : DW 2 e.w ∧ Dk 2 e.w
  sd : okS e.sd = true
  least : 1 ≤ e.least
  left : 1 ≤ e.left
noncomputable def LR (e f : Ent) : Bool × T := by
  classical exact if h : ∃ p : Bool × T, Told f.nm f.kd f.mrk f.sz 2 e.w p.1 p.2 then h.choose else (false, .non)
noncomputable def LB (e f : Ent) : Bool := (LR e f).1
noncomputable def RR (e f : Ent) : T := (LR e f).2
theorem lr {e f : Ent} (he : EntOk e) (hf : EntOk f) : Told f.nm f.kd f.mrk f.sz 2 e.w (LB e f) (RR e f) := by
  have h : ∃ p : Bool × T, Told f.nm f.kd f.mrk f.sz 2 e.w p.1 p.2 := by
    obtain ⟨c, R, h⟩ := told (nm := f.nm) (kd := f.kd) (mk := f.mrk) (c0 := 2) (by decide) hf.card.2.1 2 he.wish.1 he.wish.2
    exact ⟨(c, R), h⟩
  unfold LB RR LR
  rw [dif_pos h]
  exact h.choose_spec
theorem lb1 {n : Nat} {m : Mem} {e f : Ent} (he : EntOk e) (hf : EntOk f) : cf (n + 5) 2 [.t e.w, .t f.card] m = .ok (.t (.bl (LB e f))) m := ((lr he hf).2.2 n m).1
theorem lb2 {n : Nat} {m : Mem} {e f : Ent} (he : EntOk e) (hf : EntOk f) : cf (n + 3) 26 [.t e.w, .t f.card] m = .ok (.t (.bl (LB e f))) m := ((lr he hf).2.2 n m).2.1
theorem lb3 {n : Nat} {m : Mem} {e f : Ent} (he : EntOk e) (hf : EntOk f) : cf (n + 6) 4 [.t e.w, .t f.card] m = .ok (.t (RR e f)) m := ((lr he hf).2.2 n m).2.2.1
theorem lb4 {n : Nat} {m : Mem} {e f : Ent} (he : EntOk e) (hf : EntOk f) : cf (n + 4) 28 [.t e.w, .t f.card] m = .ok (.t (RR e f)) m := ((lr he hf).2.2 n m).2.2.2
noncomputable def min2 (a b : Int) : Int := if b < a then b else a
noncomputable def minL : List Ent → Int
  | [] => 0
  | e :: r => minI e.left (r.map (·.left))
noncomputable def ZbR (es : List Ent) : Bool := decide ((1 : Int) < ((Qw (es.map (·.kd))).length : Int))
noncomputable def ZbP (es : List Ent) : Bool := decide (((Qw (es.map (·.nm))).length : Int) < (es.length : Int))
noncomputable def wayB (es : List Ent) (i j : Nat) : Bool := !((i : Int) == (j : Int)) && !(match es[i]?, es[j]? with
  | some e, some f => LB e f
  | _, _ => false)
noncomputable def Qz (es : List Ent) (i : Nat) : Bool := match es[i]? with
  | some e => decide (minL es < min2 e.least e.left)
  | none => false
noncomputable def XJ (i j : Nat) : T := .tup [.str [119, 105, 115, 104], .int (i : Int), .int (j : Int)]
noncomputable def Zbf (i : Nat) : T := .tup [.str [108, 101, 97, 115, 116], .int (i : Int)]
noncomputable def wayI (es : List Ent) (i : Nat) : Option T := (List.range es.length).findSome? fun j => if wayB es i j then some (XJ i j) else none
noncomputable def wayW (es : List Ent) : Option T := (List.range es.length).findSome? (wayI es)
noncomputable def wayL (es : List Ent) : Option T := (List.range es.length).findSome? fun i => if Qz es i then some (Zbf i) else none
noncomputable def XM (es : List Ent) : Option T := if ZbR es then some (.tup [.str [107, 105, 110, 100]]) else if ZbP es then some (.tup [.str [110, 97, 109, 101]]) else match wayW es with
  | some t => some t
  | none => wayL es
noncomputable def partN (es : List Ent) : Int := if (XM es).isNone then minL es else 0
theorem Zco {α : Type} {f : Env → Mem → Res Flow} {tg : Tg} {m : Mem} {P : Env → Prop} {emb : α → T} {g : α → Option T} : ∀ (as : List α) (env : Env), P env → (∀ a ∈ as, ∀ env, P env → ∃ env1, Jl tg (emb a) env = some env1 ∧ (match g a with
      | some r => f env1 m = .ok (.ret (.t r)) m
      | none => ∃ env2, f env1 m = .ok (.next env2) m ∧ P env2)) →
    match as.findSome? g with
    | some r => Qk f tg (as.map emb) env m = .ok (.ret (.t r)) m
    | none => ∃ env', Qk f tg (as.map emb) env m = .ok (.next env') m ∧ P env'
  | [], env, hp, _ => ⟨env, rfl, hp⟩
  | t :: ts, env, hp, h => by
    obtain ⟨env1, hb, hf⟩ := h t List.mem_cons_self env hp
    rw [List.findSome?_cons, List.map_cons]
    cases q : g t with
    | some r =>
      rw [q] at hf
      show Qk _ _ _ _ _ = _
      rw [Qk, hb]
      show (f env1 m).bind _ = _
      rw [show f env1 m = _ from hf]
      rfl
    | none =>
      rw [q] at hf
      obtain ⟨env2, h2, hp2⟩ := hf
      have step : Qk f tg (emb t :: ts.map emb) env m = Qk f tg (ts.map emb) env2 m := by
        rw [Qk, hb]
        show (f env1 m).bind _ = _
        rw [h2]
        rfl
      have ih := Zco ts env2 hp2 fun u hu => h u (List.mem_cons_of_mem _ hu)
      rw [step]
      exact ih
theorem Xo {α : Type} {call : Nat → List W → Mem → Res W} {tg : Tg} {it : E} {body k : S} {env : Env} {m : Mem} {P : Env → Prop} {emb : α → T} {g : α → Option T} {x : T} {as : List α} (hit : ev call gv it env m = .ok (.t x) m) (hb : QD (.t x) m = .ok (as.map emb) m) (hp : P env) (h : ∀ a ∈ as, ∀ env, P env → ∃ env1, Jl tg (emb a) env = some env1 ∧ (match g a with
      | some r => ex call gv body env1 m = .ok (.ret (.t r)) m
      | none => ∃ env2, ex call gv body env1 m = .ok (.next env2) m ∧ P env2)) :
    match as.findSome? g with
    | some r => ex call gv (.forr tg it body k) env m = .ok (.ret (.t r)) m
    | none => ∃ env', ex call gv (.forr tg it body k) env m = ex call gv k env' m ∧ P env' := by
  have hl := Zco (f := ex call gv body) (tg := tg) (m := m) (P := P) (emb := emb) (g := g) as env hp h
  cases q : as.findSome? g with
  | some r =>
    rw [q] at hl
    have hl : Qk (ex call gv body) tg (as.map emb) env m = .ok (.ret (.t r)) m := hl
    show ex _ _ _ _ _ = _
    rw [ex, hit, Zw, hb, Zw]
    show (Qk (ex call gv body) tg (as.map emb) env m).bind _ = _
    rw [hl]
    rfl
  | none =>
    rw [q] at hl
    obtain ⟨env', hl, hp'⟩ := hl
    exact ⟨env', XD hit hb hl, hp'⟩
theorem ZjO (n : Nat) : rangeT 0 n = (List.range n).map fun k : Nat => T.int (k : Int) := by
  unfold rangeT
  exact List.map_congr_left fun k _ => by rw [Int.zero_add]
noncomputable def intN (k : Nat) : T := .int (k : Int)
theorem Jt {m : Mem} (n : Nat) : QD (.t (.lst (rangeT 0 n))) m = .ok ((List.range n).map intN) m := by
  rw [ZjO]
  rfl
section
variable {n : Nat} {m : Mem} {es : List Ent}
noncomputable def setT (es : List Ent) : T := .lst (es.map Ent.t)
theorem Zcy {i : Nat} {e : Ent} (h : es[i]? = some e) : ixT (setT es) (.int (i : Int)) = some e.t := by
  have hi := (List.getElem?_eq_some_iff.mp h).1
  show atT (es.map Ent.t) (i : Int) = _
  rw [Zfg (by omega) (by rw [List.length_map]; omega), Int.toNat_natCast, List.getElem?_map, h]
  rfl
theorem XF {call : Nat → List W → Mem → Res W} {c a : E} {env : Env} {g : Ent → T} (hc : c = .comp 2 [] (.var 0) (.tp [0, 1]) .nil (.emit a)) (h0 : env[0]? = some (some (.t (setT es)))) (hl : es.length ≤ 100) (hg : ∀ e ∈ es, ev call gv a [some (.t e.off), some (.t (.int e.left))] m = .ok (.t (g e)) m) :
    ev call gv c env m = .ok (.t (.lst (es.map g))) m := by
  subst hc
  obtain ⟨xss, m', h, rfl, ht⟩ := Zav (f := QW call gv .nil (.emit a)) (tg := .tp [0, 1]) (env := [none, none]) (P := fun m' => m' = m) (R := fun t xs => ∀ e ∈ es, t = e.t → xs = [g e]) (es.map Ent.t) m rfl (by
    rintro t ht m' rfl
    obtain ⟨e, he, rfl⟩ := List.mem_map.mp ht
    refine ⟨[some (.t e.off), some (.t (.int e.left))], [g e], m', rfl, Zgp (Xc (hg e he)), rfl, fun f hf e' => ?_⟩
    have h1 := hg e he
    have h2 := hg f hf
    have h3 : e.off = f.off ∧ T.int e.left = .int f.left := by
      unfold Ent.t at e'
      injection e' with e'
      injection e' with e1 e'
      injection e' with e2 e'
      exact ⟨e1, e2⟩
    rw [h3.1, h3.2, h2] at h1
    injection h1 with h1
    injection h1 with h1
    rw [h1])
  have e : xss.flatten = es.map g := by
    have : ∀ (l : List Ent) (xss : List (List T)), (∀ e ∈ l, e ∈ es) → Turns (fun t xs => ∀ e ∈ es, t = e.t → xs = [g e]) (l.map Ent.t) xss → xss.flatten = l.map g := by
      intro l
      induction l with
      | nil => intro xss _ h; cases h; rfl
      | cons e l ih =>
        intro xss hs h
        cases h with
        | cons h ht =>
          rw [h e (hs e List.mem_cons_self) rfl, List.flatten_cons, ih _ (fun x hx => hs x (List.mem_cons_of_mem _ hx)) ht]
          rfl
    exact this es xss (fun e he => he) ht
  rw [e] at h
  exact QB (x := .t (setT es)) (m0 := m') (m1 := m') (Zb h0) rfl h (by rw [List.length_map]; unfold lim; omega)
theorem Zc3 {g : Ent → List Nat} (hl : es.length < 64) : bltT .lenset [.lst (es.map fun e => .str (g e))] = some (.int ((Qw (es.map g)).length : Int)) := by
  show Zc4 (es.map fun e => T.str (g e)) = _
  unfold Zc4
  rw [strs_map]
  exact if_pos (by rw [List.length_map]; exact hl)
theorem ints_map {α : Type} (f : α → Int) : ∀ xs : List α, ints? (xs.map fun x => T.int (f x)) = some (xs.map f)
  | [] => rfl
  | x :: xs => by rw [List.map_cons, ints?, ints_map f xs]; rfl
theorem Zjr (h0 : es ≠ []) (hl : es.length < 64) : bltT .minl [.lst (es.map fun e => .int e.left)] = some (.int (minL es)) := by
  show Zhf (es.map fun e => T.int e.left) = _
  unfold Zhf
  rw [ints_map]
  cases es with
  | nil => exact absurd rfl h0
  | cons e r =>
    rw [List.length_cons] at hl
    exact if_pos (by rw [List.length_map]; omega)
theorem ZfT {e : Ent} : cf (n + 1) 6 [.t e.off] m = .ok (.t (.str e.nm)) m :=
  Qv (Zf7 _ _ _) rfl (show ex (cf n) gv Xv [some (.t e.off)] m = .ok (.ret (.t (.str e.nm))) m from Zo (ZD (ZD (x := e.off) (Zb rfl) (Zf _) rfl) (Zf _) rfl)) (ZS (cell := false) rfl)
theorem ZfY {e : Ent} : cf (n + 1) 7 [.t e.off] m = .ok (.t (.str e.kd)) m :=
  Qv (Zf8 _ _ _) rfl (show ex (cf n) gv Xw [some (.t e.off)] m = .ok (.ret (.t (.str e.kd))) m from Zo (ZD (ZD (x := e.off) (Zb rfl) (Zf _) rfl) (Zf _) rfl)) (ZS (cell := false) rfl)
theorem Zcf {i : Nat} {e : Ent} (h : es[i]? = some e) : cf (n + 1) 8 [.t (setT es), .t (.int (i : Int))] m = .ok (.t e.w) m :=
  Qv (Zf5 _ _ _) rfl (show ex (cf n) gv Xu [some (.t (setT es)), some (.t (.int (i : Int)))] m = .ok (.ret (.t e.w)) m from Zo (ZD (ZD (ZD (Zb rfl) (Zb rfl) (Zcy h)) (Zf _) rfl) (Zf _) rfl)) (ZS (cell := false) rfl)
theorem ZcE {i : Nat} {e : Ent} (h : es[i]? = some e) : cf (n + 1) 9 [.t (setT es), .t (.int (i : Int))] m = .ok (.t e.card) m :=
  Qv (Zf9 _ _ _) rfl (show ex (cf n) gv Xx [some (.t (setT es)), some (.t (.int (i : Int)))] m = .ok (.ret (.t e.card)) m from Zo (ZD (ZD (ZD (Zb rfl) (Zb rfl) (Zcy h)) (Zf _) rfl) (Zf _) rfl)) (ZS (cell := false) rfl)
theorem Zc5 (h0 : es ≠ []) (hl : es.length < 64) : cf (n + 1) 10 [.t (setT es)] m = .ok (.t (.int (minL es))) m := by
  have hc : ev (cf n) gv X4 [some (.t (setT es))] m = .ok (.t (.lst (es.map fun e => .int e.left))) m := XF rfl rfl (by omega) fun e he => Zb rfl
  exact Qv (Zde _ _ _) rfl (show ex (cf n) gv Jh [some (.t (setT es))] m = .ok (.ret (.t (.int (minL es)))) m from Zo (ZL hc (Zjr h0 hl))) (ZS (cell := false) rfl)
theorem Zet : bltT .len [setT es] = some (.int (es.length : Int)) := by
  show some (T.int ((es.map Ent.t).length : Int)) = _
  rw [List.length_map]
theorem kinds_ok (hl : es.length < 64) : cf (n + 2) 11 [.t (setT es)] m = .ok (.t (.bl (ZbR es))) m := by
  have hc : ev (cf (n + 1)) gv Jk [some (.t (setT es))] m = .ok (.t (.lst (es.map fun e => .str e.kd))) m := XF rfl rfl (by omega) fun e he => (QS (Zb rfl)).trans ZfY
  exact Qv (Zaf _ _ _) rfl (show ex (cf (n + 1)) gv Qm [some (.t (setT es))] m = .ok (.ret (.t (.bl (ZbR es)))) m from Zo (Zv (ZL hc (Zc3 hl)) (Zf _) (c_gt _ _))) (ZS (cell := false) rfl)
theorem ZiK (hl : es.length < 64) : cf (n + 2) 12 [.t (setT es)] m = .ok (.t (.bl (ZbP es))) m := by
  have hc : ev (cf (n + 1)) gv JB [some (.t (setT es))] m = .ok (.t (.lst (es.map fun e => .str e.nm))) m := XF rfl rfl (by omega) fun e he => (QS (Zb rfl)).trans ZfT
  exact Qv (ZaF _ _ _) rfl (show ex (cf (n + 1)) gv Qu [some (.t (setT es))] m = .ok (.ret (.t (.bl (ZbP es)))) m from Zo (Zv (ZL hc (Zc3 hl)) (ZL (Zb rfl) Zet) (c_lt _ _))) (ZS (cell := false) rfl)
theorem Zea {i j : Nat} {e f : Ent} (hi : es[i]? = some e) (hj : es[j]? = some f) (ho : ∀ e ∈ es, EntOk e) : cf (n + 6) 13 [.t (setT es), .t (.int (i : Int)), .t (.int (j : Int))] m = .ok (.t (.bl (wayB es i j))) m := by
  have hL : cf (n + 5) 2 [.t e.w, .t f.card] m = .ok (.t (.bl (LB e f))) m := lb1 (ho e (List.mem_of_getElem? hi)) (ho f (List.mem_of_getElem? hj))
  have hw : wayB es i j = (!((i : Int) == (j : Int)) && !LB e f) := by
    unfold wayB
    rw [hi, hj]
  have key : ex (cf (n + 5)) gv QC [some (.t (setT es)), some (.t (.int (i : Int))), some (.t (.int (j : Int)))] m = .ok (.ret (.t (.bl (wayB es i j)))) m := by
    rw [hw]
    refine Zo ?_
    have hne := Zv (call := cf (n + 5)) (gv := gv) (m := m) (op := .NotEq) (a := .var 1) (b := .var 2) (env := [some (.t (setT es)), some (.t (.int (i : Int))), some (.t (.int (j : Int)))]) (Zb rfl) (Zb rfl) (Zjd (i : Int) (j : Int))
    cases q : ((i : Int) == (j : Int)) with
    | true =>
      rw [q] at hne
      exact ZaZ hne
    | false =>
      rw [q] at hne
      refine (Xq hne).trans ?_
      exact XX ((Zy ((Zy (Zb rfl) (Zb rfl)).trans (Zcf (n := n + 4) hi)) ((Zy (Zb rfl) (Zb rfl)).trans (ZcE (n := n + 4) hj))).trans hL)
  exact Qv (Za1 _ _ _) rfl key (ZS (cell := false) rfl)
theorem ZdM {i : Nat} {e : Ent} (hi : es[i]? = some e) (h0 : es ≠ []) (hl : es.length < 64) : cf (n + 2) 14 [.t (setT es), .t (.int (i : Int))] m = .ok (.t (.bl (Qz es i))) m := by
  have hw : Qz es i = decide (minL es < min2 e.least e.left) := by
    unfold Qz
    rw [hi]
  have key : ex (cf (n + 1)) gv Qg [some (.t (setT es)), some (.t (.int (i : Int))), none, none] m = .ok (.ret (.t (.bl (Qz es i)))) m := by
    rw [hw]
    unfold Qg
    rw [ex, ZD (Zb rfl) (Zb rfl) (Zcy hi)]
    show ex (cf (n + 1)) gv _ [some (.t (setT es)), some (.t (.int (i : Int))), some (.t e.off), some (.t (.int e.left))] m = _
    exact Zo (Zv (Zhy (x := .int e.least) (y := .int e.left) (ZD (Zb rfl) (Zf _) rfl) (Zb rfl) rfl) ((QS (Zb rfl)).trans (Zc5 (n := n) h0 hl)) (c_gt _ _))
  exact Qv (ZaE _ _ _) rfl key (ZS (cell := false) rfl)
theorem ZjH {t : T} (h : XM es = some t) : ∃ ts, t = .tup ts := by
  unfold XM at h
  split at h
  · cases h; exact ⟨_, rfl⟩
  · split at h
    · cases h; exact ⟨_, rfl⟩
    · split at h
      · rename_i u q
        cases h
        obtain ⟨i, _, q⟩ := List.exists_of_findSome?_eq_some q
        obtain ⟨j, _, q⟩ := List.exists_of_findSome?_eq_some q
        split at q <;> cases q
        exact ⟨_, rfl⟩
      · obtain ⟨i, _, q⟩ := List.exists_of_findSome?_eq_some h
        split at q <;> cases q
        exact ⟨_, rfl⟩
theorem Zhp (h0 : es ≠ []) (hl : es.length < 64) (ho : ∀ e ∈ es, EntOk e) : cf (n + 7) 15 [.t (setT es)] m = .ok (.t ((XM es).getD .non)) m := by
  have hr : ∀ env : Env, env[0]? = some (some (.t (setT es))) → ev (cf (n + 6)) gv (.blt .range1 (.cons (.blt .len (.cons (.var 0) .nil)) .nil)) env m = .ok (.t (.lst (rangeT 0 es.length))) m := fun env h => by
    have := Zeu (i := (es.length : Int)) (by omega)
    rw [Int.toNat_natCast] at this
    exact ZL (ZL (Zb h) Zet) this
  have key : ex (cf (n + 6)) gv XH [some (.t (setT es)), none, none] m = .ok (.ret (.t ((XM es).getD .non))) m := by
    unfold XH XM
    have hk : ev (cf (n + 6)) gv (.call 11 (.cons (.var 0) .nil)) [some (.t (setT es)), none, none] m = .ok (.t (.bl (ZbR es))) m := (QS (Zb rfl)).trans (kinds_ok (n := n + 4) hl)
    have hn : ev (cf (n + 6)) gv (.call 12 (.cons (.var 0) .nil)) [some (.t (setT es)), none, none] m = .ok (.t (.bl (ZbP es))) m := (QS (Zb rfl)).trans (ZiK (n := n + 4) hl)
    cases qk : ZbR es with
    | true =>
      rw [qk] at hk
      exact Qj hk (Zo (Zdb (Zf _)))
    | false =>
      rw [qk] at hk
      refine (Z2 hk).trans ?_
      cases qn : ZbP es with
      | true =>
        rw [qn] at hn
        exact Qj hn (Zo (Zdb (Zf _)))
      | false =>
        rw [qn] at hn
        refine (Z2 hn).trans ?_
        rw [if_neg Bool.false_ne_true, if_neg Bool.false_ne_true]
        have ge : ∀ {k : Nat}, k ∈ List.range es.length → ∃ e, es[k]? = some e := fun hk => ⟨_, List.getElem?_eq_getElem (List.mem_range.mp hk)⟩
        -- the wishes
        have hW := Xo (emb := intN) (as := List.range es.length) (call := cf (n + 6)) (tg := .nm 1) (it := .blt .range1 (.cons (.blt .len (.cons (.var 0) .nil)) .nil)) (body := Zcr) (k := .forr (.nm 1) (.blt .range1 (.cons (.blt .len (.cons (.var 0) .nil)) .nil)) ZaV (.ret (.con .non) .done)) (env := [some (.t (setT es)), none, none]) (m := m) (P := fun env => ∃ a b, env = [some (.t (setT es)), a, b]) (g := wayI es) (hr _ rfl) (Jt _) ⟨_, _, rfl⟩ (by
          rintro i hi env ⟨a, b, rfl⟩
          obtain ⟨e, he⟩ := ge hi
          refine ⟨[some (.t (setT es)), some (.t (.int (i : Int))), b], rfl, ?_⟩
          have hI := Xo (emb := intN) (as := List.range es.length) (call := cf (n + 6)) (tg := .nm 2) (it := .blt .range1 (.cons (.blt .len (.cons (.var 0) .nil)) .nil)) (body := Zcs) (k := .done) (env := [some (.t (setT es)), some (.t (.int (i : Int))), b]) (m := m) (P := fun env => ∃ b, env = [some (.t (setT es)), some (.t (.int (i : Int))), b]) (g := fun j => if wayB es i j then some (XJ i j) else none) (hr _ rfl) (Jt _) ⟨_, rfl⟩ (by
            rintro j hj env ⟨b, rfl⟩
            obtain ⟨f, hf⟩ := ge hj
            refine ⟨[some (.t (setT es)), some (.t (.int (i : Int))), some (.t (.int (j : Int)))], rfl, ?_⟩
            have hc : ev (cf (n + 6)) gv (.call 13 (.cons (.var 0) (.cons (.var 1) (.cons (.var 2) .nil)))) [some (.t (setT es)), some (.t (.int (i : Int))), some (.t (.int (j : Int)))] m = .ok (.t (.bl (wayB es i j))) m := (ZiZ (Zb rfl) (Zb rfl) (Zb rfl)).trans (Zea he hf ho)
            show match (if wayB es i j = true then some (XJ i j) else none) with
              | some r => _
              | none => _
            cases q : wayB es i j with
            | true =>
              rw [q] at hc
              exact Qj hc (Zo (ZkA (Zf _) (Zb rfl) (Zb rfl)))
            | false =>
              rw [q] at hc
              exact ⟨_, (Z2 hc).trans Xp, _, rfl⟩)
          show match (List.range es.length).findSome? fun j => if wayB es i j then some (XJ i j) else none with
            | some r => _
            | none => _
          cases q : (List.range es.length).findSome? fun j => if wayB es i j then some (XJ i j) else none with
          | some r => rw [q] at hI; exact hI
          | none =>
            rw [q] at hI
            obtain ⟨env', h1, b', rfl⟩ := hI
            exact ⟨_, h1.trans Xp, _, _, rfl⟩)
        show ex _ _ _ _ _ = .ok (.ret (.t ((match wayW es with
          | some t => some t
          | none => wayL es).getD .non))) m
        cases qw : wayW es with
        | some r =>
          rw [show (List.range es.length).findSome? (wayI es) = some r from qw] at hW
          exact hW
        | none =>
          rw [show (List.range es.length).findSome? (wayI es) = none from qw] at hW
          obtain ⟨env', h1, a, b, rfl⟩ := hW
          refine h1.trans ?_
          have hL := Xo (emb := intN) (as := List.range es.length) (call := cf (n + 6)) (tg := .nm 1) (it := .blt .range1 (.cons (.blt .len (.cons (.var 0) .nil)) .nil)) (body := ZaV) (k := .ret (.con .non) .done) (env := [some (.t (setT es)), a, b]) (m := m) (P := fun env => ∃ a b, env = [some (.t (setT es)), a, b]) (g := fun i => if Qz es i then some (Zbf i) else none) (hr _ rfl) (Jt _) ⟨_, _, rfl⟩ (by
            rintro i hi env ⟨a, b, rfl⟩
            obtain ⟨e, he⟩ := ge hi
            refine ⟨[some (.t (setT es)), some (.t (.int (i : Int))), b], rfl, ?_⟩
            have hc : ev (cf (n + 6)) gv (.call 14 (.cons (.var 0) (.cons (.var 1) .nil))) [some (.t (setT es)), some (.t (.int (i : Int))), b] m = .ok (.t (.bl (Qz es i))) m := (Zy (Zb rfl) (Zb rfl)).trans (ZdM (n := n + 4) he h0 hl)
            show match (if Qz es i = true then some (Zbf i) else none) with
              | some r => _
              | none => _
            cases q : Qz es i with
            | true =>
              rw [q] at hc
              exact Qj hc (Zo (QG (Zf _) (Zb rfl)))
            | false =>
              rw [q] at hc
              exact ⟨_, (Z2 hc).trans Xp, _, _, rfl⟩)
          cases ql : wayL es with
          | some r =>
            rw [show ((List.range es.length).findSome? fun i => if Qz es i then some (Zbf i) else none) = some r from ql] at hL
            exact hL
          | none =>
            rw [show ((List.range es.length).findSome? fun i => if Qz es i then some (Zbf i) else none) = none from ql] at hL
            obtain ⟨env', h2, _⟩ := hL
            exact h2.trans (Zo (Zf _))
  exact Qv (ZhK _ _ _) rfl key (ZS (cell := false) rfl)
theorem way_is : cmpT .Is ((XM es).getD .non) .non = some (XM es).isNone := by
  cases q : XM es with
  | none => rfl
  | some t =>
    obtain ⟨ts, rfl⟩ := ZjH q
    rfl
end
noncomputable def RI (es : List Ent) (i j : Nat) : T := match es[i]?, es[j]? with
  | some e, some f => RR e f
  | _, _ => .non
noncomputable def addR (es : List Ent) : T → T
  | .tup [.str w, .int i, .int j] => .tup [.str w, .int i, .int j, RI es i.toNat j.toNat]
  | t => t
noncomputable def whyT (es : List Ent) : T := match XM es with
  | some t => addR es t
  | none => .non
theorem Zb9 (es : List Ent) (i j : Nat) : addR es (XJ i j) = .tup [.str [119, 105, 115, 104], .int (i : Int), .int (j : Int), RI es i j] := by
  show T.tup [.str [119, 105, 115, 104], .int (i : Int), .int (j : Int), RI es (i : Int).toNat (j : Int).toNat] = _
  rw [Int.toNat_natCast, Int.toNat_natCast]
theorem Zdp {es : List Ent} {t : T} (h : XM es = some t) : (∃ w, (w == [119, 105, 115, 104]) = false ∧ (t = .tup [.str w] ∨ ∃ i : Nat, t = .tup [.str w, .int (i : Int)])) ∨ ∃ i j e f, t = XJ i j ∧ es[i]? = some e ∧ es[j]? = some f := by
  unfold XM at h
  split at h
  · cases h; exact .inl ⟨_, rfl, .inl rfl⟩
  · split at h
    · cases h; exact .inl ⟨_, rfl, .inl rfl⟩
    · split at h
      · rename_i u q
        cases h
        obtain ⟨i, hi, q⟩ := List.exists_of_findSome?_eq_some q
        obtain ⟨j, hj, q⟩ := List.exists_of_findSome?_eq_some q
        split at q <;> cases q
        exact .inr ⟨i, j, _, _, rfl, List.getElem?_eq_getElem (List.mem_range.mp hi), List.getElem?_eq_getElem (List.mem_range.mp hj)⟩
      · obtain ⟨i, _, q⟩ := List.exists_of_findSome?_eq_some h
        split at q <;> cases q
        exact .inl ⟨_, rfl, .inr ⟨i, rfl⟩⟩
section
variable {n : Nat} {m : Mem} {es : List Ent}
theorem why_ok (h0 : es ≠ []) (hl : es.length < 64) (ho : ∀ e ∈ es, EntOk e) : cf (n + 8) 16 [.t (setT es)] m = .ok (.t (whyT es)) m := by
  have key : ex (cf (n + 7)) gv Ju [some (.t (setT es)), none, none, none, none] m = .ok (.ret (.t (whyT es))) m := by
    unfold Ju whyT
    refine (Zx ((QS (Zb rfl)).trans (Zhp h0 hl ho))).trans ?_
    dsimp only [List.set_cons_succ, List.set_cons_zero]
    have h1 := Zv (call := cf (n + 7)) (gv := gv) (m := m) (op := .Is) (a := .var 1) (b := .con .non) (env := [some (.t (setT es)), some (.t ((XM es).getD .non)), none, none, none]) (Zb rfl) (Zf _) way_is
    cases q : XM es with
    | none =>
      rw [q] at h1
      exact Qj (Zjx h1) (Zo (Zb rfl))
    | some t =>
      rw [q] at h1
      rcases Zdp q with ⟨w, hw, rfl | ⟨i, rfl⟩⟩ | ⟨i, j, e, f, rfl, hi, hj⟩
      · exact Qj ((Zbh h1).trans (Zv (k := true) (ZD (Zb rfl) (Zf _) (at0 _ _)) (Zf _) (by rw [ZkM, hw]; rfl))) (Zo (Zb rfl))
      · exact Qj ((Zbh h1).trans (Zv (k := true) (ZD (Zb rfl) (Zf _) (at0 _ _)) (Zf _) (by rw [ZkM, hw]; rfl))) (Zo (Zb rfl))
      · refine (Z2 ((Zbh h1).trans (Zv (k := false) (ZD (x := XJ i j) (Zb rfl) (Zf _) rfl) (Zf _) rfl))).trans ?_
        rw [ex, Zb rfl]
        show ex (cf (n + 7)) gv _ [some (.t (setT es)), some (.t (XJ i j)), some (.t (.str [119, 105, 115, 104])), some (.t (.int (i : Int))), some (.t (.int (j : Int)))] m = _
        rw [show (match some (XJ i j) with
          | some t => addR es t
          | none => T.non) = addR es (XJ i j) from rfl, Zb9]
        have hR : RI es i j = RR e f := by
          unfold RI
          rw [hi, hj]
        rw [hR]
        have gr := lb3 (n := n + 1) (m := m) (ho e (List.mem_of_getElem? hi)) (ho f (List.mem_of_getElem? hj))
        exact Zo (Zbg (Zq (Zb rfl) (Zq (Zb rfl) (Zq (Zb rfl) (Zq ((Zy ((Zy (Zb rfl) (Zb rfl)).trans (Zcf (n := n + 6) hi)) ((Zy (Zb rfl) (Zb rfl)).trans (ZcE (n := n + 6) hj))).trans gr) Z8)))) rfl QF)
  exact Qv (ZeB _ _ _) rfl key (ZS (cell := false) rfl)
end
theorem Zda {α : Type} (g : α → Option T) (A : T → T) : ∀ l : List α, l.findSome? (fun a => (g a).map A) = (l.findSome? g).map A
  | [] => rfl
  | a :: l => by
    rw [List.findSome?_cons, List.findSome?_cons]
    cases g a with
    | some t => rfl
    | none => exact Zda g A l
theorem ZdR {α : Type} (p : α → Bool) (F : α → T) : ∀ l : List α, l.findSome? (fun a => if p a then some (F a) else none) = ((l.filter p).map F).head?
  | [] => rfl
  | a :: l => by
    rw [List.findSome?_cons, List.filter_cons]
    cases p a with
    | true => rfl
    | false => exact ZdR p F l
theorem Zad {α : Type} {f : Env → Mem → Res (List T)} {tg : Tg} {env : Env} {m : Mem} {emb : α → T} {g : α → List T} : ∀ (as : List α), (∀ a ∈ as, ∃ env', Jl tg (emb a) env = some env' ∧ f env' m = .ok (g a) m) → Q8 f tg (as.map emb) env m = .ok (as.flatMap g) m
  | [], _ => rfl
  | a :: as, h => by
    obtain ⟨env', h1, h2⟩ := h a List.mem_cons_self
    rw [List.map_cons, Q8, h1]
    show (f env' m).bind _ = _
    rw [h2, Zw, Zad as fun x hx => h x (List.mem_cons_of_mem _ hx)]
    rfl
theorem ZbX {α : Type} (p : α → Bool) (F : α → T) : ∀ l : List α, (l.flatMap fun a => if p a then [F a] else []) = (l.filter p).map F
  | [] => rfl
  | a :: l => by
    rw [List.flatMap_cons, ZbX p F l, List.filter_cons]
    cases p a <;> rfl
theorem Zht (l : List T) : ixT (.lst (l ++ [.non])) (.int 0) = some (l.head?.getD .non) := by
  cases l with
  | nil => rfl
  | cons a l => exact at0 _ _
section
variable {n : Nat} {m : Mem} {es : List Ent}
theorem law_why_ok (h0 : es ≠ []) (hl : es.length < 64) (ho : ∀ e ∈ es, EntOk e) : cf (n + 5) 29 [.t (setT es)] m = .ok (.t (whyT es)) m := by
  have ll : bltT .len [.lst (es.map fun e => T.str e.nm)] = some (.int (es.length : Int)) := by
    show some (T.int ((es.map fun e => T.str e.nm).length : Int)) = _
    rw [List.length_map]
  have hr : ∀ env : Env, env[0]? = some (some (.t (setT es))) → ev (cf (n + 4)) gv (.blt .range1 (.cons (.blt .len (.cons (.var 0) .nil)) .nil)) env m = .ok (.t (.lst (rangeT 0 es.length))) m := fun env h => by
    have := Zeu (i := (es.length : Int)) (by omega)
    rw [Int.toNat_natCast] at this
    exact ZL (ZL (Zb h) Zet) this
  have ge : ∀ {k : Nat}, k ∈ List.range es.length → ∃ e, es[k]? = some e := fun hk => ⟨_, List.getElem?_eq_getElem (List.mem_range.mp hk)⟩
  have key : ex (cf (n + 4)) gv ZcI [some (.t (setT es)), none, none, none, none, none] m = .ok (.ret (.t (whyT es))) m := by
    unfold ZcI whyT XM
    have hk : ev (cf (n + 4)) gv Zdg [some (.t (setT es)), none, none, none, none, none] m = .ok (.t (.lst (es.map fun e => .str e.kd))) m := XF (g := fun e => .str e.kd) rfl rfl (by omega) fun e he => ZD (ZD (x := e.off) (Zb rfl) (Zf _) rfl) (Zf _) rfl
    have hk : ev (cf (n + 4)) gv (.cmp .Gt (.blt .lenset (.cons Zdg .nil)) (.con (.int 1))) [some (.t (setT es)), none, none, none, none, none] m = .ok (.t (.bl (ZbR es))) m := Zv (ZL hk (Zc3 hl)) (Zf _) (c_gt _ _)
    cases qk : ZbR es with
    | true =>
      rw [qk] at hk
      exact Qj hk (Zo (Zdb (Zf _)))
    | false =>
      rw [qk] at hk
      refine (Z2 hk).trans ?_
      have hn : ev (cf (n + 4)) gv Zff [some (.t (setT es)), none, none, none, none, none] m = .ok (.t (.lst (es.map fun e => .str e.nm))) m := XF (g := fun e => .str e.nm) rfl rfl (by omega) fun e he => ZD (ZD (x := e.off) (Zb rfl) (Zf _) rfl) (Zf _) rfl
      refine (Zx hn).trans ?_
      dsimp only [List.set_cons_succ, List.set_cons_zero]
      have hnm : ev (cf (n + 4)) gv (.cmp .Lt (.blt .lenset (.cons (.var 1) .nil)) (.blt .len (.cons (.var 1) .nil))) [some (.t (setT es)), some (.t (.lst (es.map fun e => .str e.nm))), none, none, none, none] m = .ok (.t (.bl (ZbP es))) m := Zv (ZL (Zb rfl) (Zc3 (g := fun e => e.nm) hl)) (ZL (Zb rfl) ll) (c_lt _ _)
      cases qn : ZbP es with
      | true =>
        rw [qn] at hnm
        exact Qj hnm (Zo (Zdb (Zf _)))
      | false =>
        rw [qn] at hnm
        refine (Z2 hnm).trans ?_
        rw [if_neg Bool.false_ne_true, if_neg Bool.false_ne_true]
        have hW := Xo (emb := intN) (as := List.range es.length) (call := cf (n + 4)) (tg := .nm 2) (it := .blt .range1 (.cons (.blt .len (.cons (.var 0) .nil)) .nil)) (body := Ze3) (k := .asg 4 (.blt .minl (.cons Zdh .nil)) (.asg 5 Zdi (.ret (.ix (.bin .Add Zdj (.lst (.cons (.con .non) .nil))) (.con (.int 0))) .done))) (env := [some (.t (setT es)), some (.t (.lst (es.map fun e => .str e.nm))), none, none, none, none]) (m := m) (P := fun env => ∃ a b, env = [some (.t (setT es)), some (.t (.lst (es.map fun e => .str e.nm))), a, b, none, none]) (g := fun i => (wayI es i).map (addR es)) (hr _ rfl) (Jt _) ⟨_, _, rfl⟩ (by
          rintro i hi env ⟨a, b, rfl⟩
          obtain ⟨e, he⟩ := ge hi
          refine ⟨[some (.t (setT es)), some (.t (.lst (es.map fun e => .str e.nm))), some (.t (.int (i : Int))), b, none, none], rfl, ?_⟩
          have hI := Xo (emb := intN) (as := List.range es.length) (call := cf (n + 4)) (tg := .nm 3) (it := .blt .range1 (.cons (.blt .len (.cons (.var 0) .nil)) .nil)) (body := Ze4) (k := .done) (env := [some (.t (setT es)), some (.t (.lst (es.map fun e => .str e.nm))), some (.t (.int (i : Int))), b, none, none]) (m := m) (P := fun env => ∃ b, env = [some (.t (setT es)), some (.t (.lst (es.map fun e => .str e.nm))), some (.t (.int (i : Int))), b, none, none]) (g := fun j => (if wayB es i j then some (XJ i j) else none).map (addR es)) (hr _ rfl) (Jt _) ⟨_, rfl⟩ (by
            rintro j hj env ⟨b, rfl⟩
            obtain ⟨f, hf⟩ := ge hj
            refine ⟨[some (.t (setT es)), some (.t (.lst (es.map fun e => .str e.nm))), some (.t (.int (i : Int))), some (.t (.int (j : Int))), none, none], rfl, ?_⟩
            have e1 : ∀ (k : Nat) (g : Ent) (v : Nat), es[k]? = some g → [some (W.t (setT es)), some (.t (.lst (es.map fun e => .str e.nm))), some (.t (.int (i : Int))), some (.t (.int (j : Int))), none, none][v]? = some (some (.t (.int (k : Int)))) → ∀ (c : Int) (t : T), ixT g.off (.int c) = some t → ev (cf (n + 4)) gv (.ix (.ix (.ix (.var 0) (.var v)) (.con (.int 0))) (.con (.int c))) [some (.t (setT es)), some (.t (.lst (es.map fun e => .str e.nm))), some (.t (.int (i : Int))), some (.t (.int (j : Int))), none, none] m = .ok (.t t) m := fun k g v hk hv c t ht => ZD (ZD (ZD (Zb rfl) (Zb hv) (Zcy hk)) (Zf _) rfl) (Zf _) ht
            have a1 := e1 i e 2 he rfl 2 e.w rfl
            have a2 := e1 j f 3 hf rfl 1 f.card rfl
            have hw : wayB es i j = (!((i : Int) == (j : Int)) && !LB e f) := by
              unfold wayB
              rw [he, hf]
            have hc : ev (cf (n + 4)) gv (.and (.cmp .NotEq (.var 2) (.var 3)) (.not (.call 26 (.cons (.ix (.ix (.ix (.var 0) (.var 2)) (.con (.int 0))) (.con (.int 2))) (.cons (.ix (.ix (.ix (.var 0) (.var 3)) (.con (.int 0))) (.con (.int 1))) .nil))))) [some (.t (setT es)), some (.t (.lst (es.map fun e => .str e.nm))), some (.t (.int (i : Int))), some (.t (.int (j : Int))), none, none] m = .ok (.t (.bl (wayB es i j))) m := by
              rw [hw]
              have hne := Zv (call := cf (n + 4)) (gv := gv) (m := m) (op := .NotEq) (a := .var 2) (b := .var 3) (env := [some (.t (setT es)), some (.t (.lst (es.map fun e => .str e.nm))), some (.t (.int (i : Int))), some (.t (.int (j : Int))), none, none]) (Zb rfl) (Zb rfl) (Zjd (i : Int) (j : Int))
              cases q : ((i : Int) == (j : Int)) with
              | true => rw [q] at hne; exact ZaZ hne
              | false =>
                rw [q] at hne
                refine (Xq hne).trans ?_
                exact XX ((Zy a1 a2).trans (lb2 (n := n + 1) (ho e (List.mem_of_getElem? he)) (ho f (List.mem_of_getElem? hf))))
            show match (if wayB es i j = true then some (XJ i j) else none).map (addR es) with
              | some r => _
              | none => _
            cases q : wayB es i j with
            | true =>
              rw [q] at hc
              show ex _ _ _ _ _ = .ok (.ret (.t (addR es (XJ i j)))) m
              rw [Zb9]
              have hR : RI es i j = RR e f := by
                unfold RI
                rw [he, hf]
              rw [hR]
              exact Qj hc (Zo (Zbg (Zq (Zf _) (Zq (Zb rfl) (Zq (Zb rfl) (Zq ((Zy a1 a2).trans (lb4 (n := n) (ho e (List.mem_of_getElem? he)) (ho f (List.mem_of_getElem? hf)))) Z8)))) rfl QF))
            | false =>
              rw [q] at hc
              exact ⟨_, (Z2 hc).trans Xp, _, rfl⟩)
          rw [Zda] at hI
          show match (wayI es i).map (addR es) with
            | some r => _
            | none => _
          unfold wayI
          cases q : (List.range es.length).findSome? fun j => if wayB es i j then some (XJ i j) else none with
          | some r => rw [q] at hI; exact hI
          | none =>
            rw [q] at hI
            obtain ⟨env', h1, b', rfl⟩ := hI
            exact ⟨_, h1.trans Xp, _, _, rfl⟩)
        rw [Zda] at hW
        cases qw : wayW es with
        | some r =>
          rw [show (List.range es.length).findSome? (wayI es) = some r from qw] at hW
          exact hW
        | none =>
          rw [show (List.range es.length).findSome? (wayI es) = none from qw] at hW
          obtain ⟨env', h1, a, b, rfl⟩ := hW
          refine h1.trans ?_
          have hm : ev (cf (n + 4)) gv Zdh [some (.t (setT es)), some (.t (.lst (es.map fun e => .str e.nm))), a, b, none, none] m = .ok (.t (.lst (es.map fun e => .int e.left))) m := XF rfl rfl (by omega) fun e he => Zb rfl
          refine (Zx (ZL hm (Zjr h0 hl))).trans ?_
          dsimp only [List.set_cons_succ, List.set_cons_zero]
          have hs : ev (cf (n + 4)) gv Zdi [some (.t (setT es)), some (.t (.lst (es.map fun e => .str e.nm))), a, b, some (.t (.int (minL es))), none] m = .ok (.t (.lst (((List.range es.length).filter (Qz es)).map intN))) m := by
            have h := Zad (f := QW (cf (n + 4)) gv (.cons (.cmp .Lt (.var 1) (.blt .min2 (.cons (.ix (.ix (.ix (.var 2) (.var 0)) (.con (.int 0))) (.con (.int 4))) (.cons (.ix (.ix (.var 2) (.var 0)) (.con (.int 1))) .nil)))) .nil) Ze7) (tg := .nm 0) (env := [none, some (.t (.int (minL es))), some (.t (setT es))]) (m := m) (emb := intN) (g := fun k => if Qz es k then [intN k] else []) (List.range es.length) (fun k hk => by
              obtain ⟨e, he⟩ := ge hk
              refine ⟨[some (.t (.int (k : Int))), some (.t (.int (minL es))), some (.t (setT es))], rfl, ?_⟩
              have hw : Qz es k = decide (minL es < min2 e.least e.left) := by
                unfold Qz
                rw [he]
              have hc : ev (cf (n + 4)) gv (.cmp .Lt (.var 1) (.blt .min2 (.cons (.ix (.ix (.ix (.var 2) (.var 0)) (.con (.int 0))) (.con (.int 4))) (.cons (.ix (.ix (.var 2) (.var 0)) (.con (.int 1))) .nil)))) [some (.t (.int (k : Int))), some (.t (.int (minL es))), some (.t (setT es))] m = .ok (.t (.bl (Qz es k))) m := by
                rw [hw]
                exact Zv (Zb rfl) (Zhy (x := .int e.least) (y := .int e.left) (ZD (ZD (ZD (Zb rfl) (Zb rfl) (Zcy he)) (Zf _) rfl) (Zf _) rfl) (ZD (ZD (Zb rfl) (Zb rfl) (Zcy he)) (Zf _) rfl) rfl) (c_lt _ _)
              cases q : Qz es k with
              | true =>
                rw [q] at hc
                exact ZeM hc (Xc (Zb rfl))
              | false =>
                rw [q] at hc
                exact ZeN hc)
            rw [ZbX] at h
            exact QB (x := .t (.lst (rangeT 0 es.length))) (m0 := m) (m1 := m) (hr _ rfl) (Jt _) h (by rw [List.length_map]; have := List.length_filter_le (Qz es) (List.range es.length); rw [List.length_range] at this; unfold lim; omega)
          refine (Zx hs).trans ?_
          dsimp only [List.set_cons_succ, List.set_cons_zero]
          have hflen : ((List.range es.length).filter (Qz es)).length ≤ 64 := by
            have := List.length_filter_le (Qz es) (List.range es.length)
            rw [List.length_range] at this
            omega
          have hp : ev (cf (n + 4)) gv Zdj [some (.t (setT es)), some (.t (.lst (es.map fun e => .str e.nm))), a, b, some (.t (.int (minL es))), some (.t (.lst (((List.range es.length).filter (Qz es)).map intN)))] m = .ok (.t (.lst (((List.range es.length).filter (Qz es)).map Zbf))) m := by
            have h := Zad (f := QW (cf (n + 4)) gv .nil Ze8) (tg := .nm 0) (env := [none]) (m := m) (emb := intN) (g := fun k => [Zbf k]) ((List.range es.length).filter (Qz es)) (fun k hk => ⟨[some (.t (.int (k : Int)))], rfl, Zgp (Xc (QG (Zf _) (Zb rfl)))⟩)
            rw [Xb] at h
            exact QB (x := .t (.lst (((List.range es.length).filter (Qz es)).map intN))) (m0 := m) (m1 := m) (Zb rfl) rfl h (by rw [List.length_map]; unfold lim; omega)
          have hhead : wayL es = (((List.range es.length).filter (Qz es)).map Zbf).head? := by
            unfold wayL
            exact ZdR _ _ _
          have hfin := Zo (k := .done) (ZD (Qe (op := .Add) hp (Jy (Zq (Zf .non) Z8) rfl QF) (ZjD (by rw [List.length_map]; simp [lim]; omega))) (Zf (.int 0)) (Zht _))
          rw [← hhead] at hfin
          refine hfin.trans ?_
          cases ql : wayL es with
          | none => rfl
          | some t =>
            have : addR es t = t := by
              obtain ⟨i, _, q⟩ := List.exists_of_findSome?_eq_some ql
              split at q <;> cases q
              rfl
            show Res.ok (Flow.ret (.t t)) m = .ok (.ret (.t (addR es t))) m
            rw [this]
  exact Qv (ZkH _ _ _) rfl key (ZS (cell := false) rfl)
theorem Zgi (ho : ∀ e ∈ es, EntOk e) : Sm 6 (whyT es) := by
  unfold whyT
  cases q : XM es with
  | none => exact .non
  | some t =>
    rcases Zdp q with ⟨w, hw, rfl | ⟨i, rfl⟩⟩ | ⟨i, j, e, f, rfl, hi, hj⟩
    · exact .tup (by simp) fun t ht => by
        rw [List.mem_singleton.mp ht]; exact .str _
    · exact .tup (by simp) fun t ht => by
        simp only [List.mem_cons, List.not_mem_nil, or_false] at ht
        rcases ht with rfl | rfl
        · exact .str _
        · exact .int _
    · show Sm 6 (addR es (XJ i j))
      rw [Zb9]
      refine .tup (by simp) fun t ht => ?_
      simp only [List.mem_cons, List.not_mem_nil, or_false] at ht
      rcases ht with rfl | rfl | rfl | rfl
      · exact .str _
      · exact .int _
      · exact .int _
      · unfold RI
        rw [hi, hj]
        exact (lr (ho e (List.mem_of_getElem? hi)) (ho f (List.mem_of_getElem? hj))).2.1
end
noncomputable def ZiY : List Nat := [103, 105, 118, 101]
noncomputable def Zia : List Nat := [116, 97, 107, 101]
noncomputable def ZkP : List Nat := [98, 101, 97, 114]
noncomputable def mm (m : Mem) (xs : List T) : Mem := m ++ [some (false, xs)]
theorem Zjq {m : Mem} {xs : List T} : (mm m xs).length = m.length + 1 := by simp [mm]
theorem Zkl {m : Mem} {i : Nat} {s xs : List T} (hi : i < m.length) : (put (mm m xs) i s)[m.length]? = some (some (false, xs)) := by
  unfold put mm
  rw [List.getElem?_set_ne (by omega), List.getElem?_append_right (Nat.le_refl _), Nat.sub_self]
  rfl
theorem mm_set {m : Mem} {i : Nat} {s xs ys : List T} (hi : i < m.length) : (put (mm m xs) i s).set m.length (some (false, ys)) = put (mm m ys) i s := by
  unfold put mm
  rw [List.set_comm _ _ (by omega), List.set_append_right _ _ (Nat.le_refl _), Nat.sub_self]
  rfl
theorem Zkk {m : Mem} {i : Nat} {s xs : List T} (hi : i < m.length) : (put (mm m xs) i s).take m.length = put m i s := by
  unfold put mm
  rw [List.set_append_left _ _ hi, List.take_left' (by rw [List.length_set])]
theorem mm_nil {m : Mem} {i : Nat} {s : List T} (hi : i < m.length) : put m i s ++ [some (false, [])] = put (mm m []) i s := by
  unfold put mm
  rw [List.set_append_left _ _ hi]
theorem d_app {m : Mem} {j : Nat} {xs : List T} {x : T} (h : m[j]? = some (some (false, xs))) (hl : xs.length < 1000) : doM .append (.c j) [.t x] m = .ok (.t .non) (m.set j (some (false, xs ++ [x]))) := by
  have hm : mutM .append xs [x] = some (.non, xs ++ [x]) := if_pos (by unfold lim; omega)
  simp [doM, Zcw, Zcv, Zw, h, hm]
theorem ev_tr {call : Nat → List W → Mem → Res W} {env : Env} {m m1 : Mem} {a : E} {x : T} (h : ev call gv a env m = .ok (.t x) m1) : ev call gv (.tr a) env m = .ok (.t x) m1 := by rw [ev, h]; rfl
theorem Zie {n : Nat} {m : Mem} {i : Nat} {s : List T} {es : List Ent} {k turn : Int} {sd : List Nat} {f5 f6 f7 f8 : Option W} (hi : i < m.length) (hs : IsSt s) (hsd : okS sd = true) (hl : es.length < 100) :
    ∃ (e : Ent) (s' : List T) (g5 g6 g7 g8 : Option W), ex (cf (n + 7)) gv Zaw [some (.c i), some (.c m.length), some (.t (.int turn)), some (.t (.int k)), some (.t (.str sd)), f5, f6, f7, f8] (put (mm m (es.map Ent.t)) i s) = .ok (.next [some (.c i), some (.c m.length), some (.t (.int turn)), some (.t (.int k)), some (.t (.str sd)), g5, g6, g7, g8]) (put (mm m ((es ++ [e]).map Ent.t)) i s') ∧ IsSt s' ∧ EntOk e ∧ e.sd = sd := by
  have hi' : i < (mm m (es.map Ent.t)).length := by rw [Zjq]; omega
  obtain ⟨d1, s1, g1, hs1, a0, a1⟩ := Z1 (n := n + 6) (many := 9) hi' hs (by decide) (by decide)
  have hdv := Zje (i := d1) (j := 8) (by decide)
  obtain ⟨kd, hkd, hkm⟩ := Jc (xs := [T.str [114, 121, 101], .str [111, 97, 116]]) (i := d1 / 8) (by omega) (by simp; omega)
  have hk' : ∃ kd' : List Nat, kd = .str kd' ∧ okS kd' = true := by
    simp only [List.mem_cons, List.not_mem_nil, or_false] at hkm
    rcases hkm with rfl | rfl
    · exact ⟨_, rfl, by decide +kernel⟩
    · exact ⟨_, rfl, by decide +kernel⟩
  obtain ⟨kd, rfl, okd⟩ := hk'
  obtain ⟨d2, s2, g2, hs2, b0, b1⟩ := Z1 (n := n + 6) (many := 9) hi' hs1 (by decide) (by decide)
  have hmu := Zgd (i := k) (j := b2i (decide (0 < d2))) (mulR (by cases decide (0 < d2) <;> decide) (by cases decide (0 < d2) <;> decide))
  obtain ⟨nm, g3, onm⟩ := Zhd (n := n + 6) (m := put (mm m (es.map Ent.t)) i s2) (k := turn + k * b2i (decide (0 < d2)))
  obtain ⟨till, s3, g4, hs3, t0, t1⟩ := Z1 (n := n + 6) (many := 1000000000) hi' hs2 (by decide) (by decide)
  obtain ⟨mk, sz, w, many, least, wt, s4, g5, hs4, hc, hw, ⟨m1, m2⟩, ⟨l1, l2⟩, _⟩ := ZiI (n := n) (sd := sd) (till := till) hi' hs3 onm okd
  obtain ⟨c1, s5, g6, hs5, c10, c11⟩ := Z1 (n := n + 6) (many := many) hi' hs4 (by omega) (by omega)
  have hmn : 1 ≤ min2 9 many ∧ min2 9 many ≤ 9 := by unfold min2; split <;> omega
  obtain ⟨c2, s6, g7, hs6, c20, c21⟩ := Z1 (n := n + 6) (many := min2 9 many) hi' hs5 (by omega) (by omega)
  obtain ⟨c3, s7, g8, hs7, c30, c31⟩ := Z1 (n := n + 6) (many := 3) hi' hs6 (by decide) (by decide)
  obtain ⟨z, hz, hzm⟩ := Jc (xs := [T.int many, .int (1 + c1), .int (1 + c2)]) c30 (by simpa using c31)
  have hz' : ∃ v : Int, z = .int v ∧ 1 ≤ v := by
    simp only [List.mem_cons, List.not_mem_nil, or_false] at hzm
    rcases hzm with rfl | rfl | rfl <;> exact ⟨_, rfl, by omega⟩
  obtain ⟨left, rfl, hleft⟩ := hz'
  refine ⟨⟨sd, nm, kd, mk, sz, w, many, least, wt, till, left⟩, s7, some (.t (.str kd)), some (.t (.str nm)), some (.t (offT sd nm kd mk sz w many least wt till)), some (.t (.int left)), ?_, hs7, ⟨hc, hw, hsd, l1, hleft⟩, rfl⟩
  unfold Zaw
  refine (Zx (w := .t (.str kd)) (m1 := put (mm m (es.map Ent.t)) i s1) (ZD (Jy (Zq (Zf _) (Zq (Zf _) Z8)) rfl QF) (Qe ((Z4 (Zq (Zb rfl) (Zq (Zf _) Z8))).trans g1) (Zf _) hdv) hkd)).trans ?_
  dsimp only [List.set_cons_succ, List.set_cons_zero]
  refine (Zx (w := .t (.str nm)) (m1 := put (mm m (es.map Ent.t)) i s2) ((Z4 (Zq (Qe (Zb rfl) (Qe (Zb rfl) (Zjy (Zq (Zv ((Z4 (Zq (Zb rfl) (Zq (Zf _) Z8))).trans g2) (Zf _) rfl) Z8) rfl rfl) hmu) rfl) Z8)).trans g3)).trans ?_
  dsimp only [List.set_cons_succ, List.set_cons_zero]
  have hpw : binT .Pow (.int 10) (.int 9) = some (.int 1000000000) := by rw [ZkQ (by decide)]; rfl
  refine (Zx (w := .t (offT sd nm kd mk sz w many least wt till)) (m1 := put (mm m (es.map Ent.t)) i s4) ((Z4 (Zq (Zb rfl) (Zq (Zb rfl) (Zq (Zb rfl) (Zq (Zb rfl) (Zq ((Z4 (Zq (Zb rfl) (Zq (Qe (Zf _) (Zf _) hpw) Z8))).trans g4) Z8)))))).trans g5)).trans ?_
  dsimp only [List.set_cons_succ, List.set_cons_zero]
  refine (Zx (w := .t (.int left)) (m1 := put (mm m (es.map Ent.t)) i s7) (ZD (Jy (Zq (ZD (Zb rfl) (Zf _) rfl) (Zq (Qe (Zf _) ((Z4 (Zq (Zb rfl) (Zq (ZD (Zb rfl) (Zf _) rfl) Z8))).trans g6) rfl) (Zq (Qe (Zf _) ((Z4 (Zq (Zb rfl) (Zq (Zjy (Zq (Zf _) (Zq (ZD (Zb rfl) (Zf _) rfl) Z8)) rfl rfl) Z8))).trans g7) rfl) Z8))) rfl QF) ((Z4 (Zq (Zb rfl) (Zq (Zf _) Z8))).trans g8) hz)).trans ?_
  dsimp only [List.set_cons_succ, List.set_cons_zero]
  have happ : ev (cf (n + 7)) gv (.mth .append (.var 1) (.cons (.tup (.cons (.var 7) (.cons (.var 8) .nil))) .nil)) [some (.c i), some (.c m.length), some (.t (.int turn)), some (.t (.int k)), some (.t (.str sd)), some (.t (.str kd)), some (.t (.str nm)), some (.t (offT sd nm kd mk sz w many least wt till)), some (.t (.int left))] (put (mm m (es.map Ent.t)) i s7) = .ok (.t .non) (put (mm m ((es ++ ([⟨sd, nm, kd, mk, sz, w, many, least, wt, till, left⟩] : List Ent)).map Ent.t)) i s7) := by
    rw [ev, Zb rfl, Zw]
    have ht : tyM .append (.c m.length) (put (mm m (es.map Ent.t)) i s7) = true := by
      show (match (put (mm m (es.map Ent.t)) i s7)[m.length]? with
        | some (some _) => true
        | _ => false) = true
      rw [Zkl hi]
    rw [if_pos ht, evs, QG (Zb rfl) (Zb rfl), Zw, evs, Zw, Zw]
    rw [d_app (Zkl hi) (by rw [List.length_map]; omega), mm_set hi, List.map_append]
    rfl
  exact (Zkz happ).trans Xp
theorem Zah {n : Nat} {m : Mem} {i : Nat} {turn : Int} (hi : i < m.length) : ∀ (ps : List (Int × List Nat)) (es : List Ent) (s : List T) (f3 f4 f5 f6 f7 f8 : Option W), IsSt s → (∀ p ∈ ps, okS p.2 = true) → es.length + ps.length < 100 → (∀ e ∈ es, EntOk e) →
    ∃ (es' : List Ent) (s' : List T) (env' : Env), Qk (ex (cf (n + 7)) gv Zaw) (.tp [3, 4]) (ps.map fun p => .tup [.int p.1, .str p.2]) [some (.c i), some (.c m.length), some (.t (.int turn)), f3, f4, f5, f6, f7, f8] (put (mm m (es.map Ent.t)) i s) = .ok (.next env') (put (mm m (es'.map Ent.t)) i s') ∧ IsSt s' ∧ (∀ e ∈ es', EntOk e) ∧ es'.map (·.sd) = es.map (·.sd) ++ ps.map (·.2) ∧ env'[1]? = some (some (.c m.length))
  | [], es, s, f3, f4, f5, f6, f7, f8, hs, _, _, ho => ⟨es, s, _, rfl, hs, ho, by rw [List.map_nil, List.append_nil], rfl⟩
  | p :: ps, es, s, f3, f4, f5, f6, f7, f8, hs, hp, hl, ho => by
    rw [List.length_cons] at hl
    obtain ⟨e, s1, g5, g6, g7, g8, h1, hs1, he, hsd⟩ := Zie (n := n) (es := es) (k := p.1) (turn := turn) (sd := p.2) (f5 := f5) (f6 := f6) (f7 := f7) (f8 := f8) hi hs (hp p List.mem_cons_self) (by omega)
    obtain ⟨es', s', env', h2, hs', ho', hm, hv⟩ := Zah (n := n) (turn := turn) hi ps (es ++ [e]) s1 (some (.t (.int p.1))) (some (.t (.str p.2))) g5 g6 g7 g8 hs1 (fun q hq => hp q (List.mem_cons_of_mem _ hq)) (by rw [List.length_append, List.length_singleton]; omega) (fun x hx => by
      rcases List.mem_append.mp hx with hx | hx
      · exact ho x hx
      · rw [List.mem_singleton.mp hx]; exact he)
    refine ⟨es', s', env', ?_, hs', ho', ?_, hv⟩
    · rw [List.map_cons, Qk]
      show (ex (cf (n + 7)) gv Zaw [some (.c i), some (.c m.length), some (.t (.int turn)), some (.t (.int p.1)), some (.t (.str p.2)), f5, f6, f7, f8] (put (mm m (es.map Ent.t)) i s)).bind _ = _
      rw [h1]
      exact h2
    · rw [hm, List.map_append, List.map_cons, List.map_cons, hsd, List.append_assoc]
      rfl
theorem set_ok {n : Nat} {m : Mem} {i : Nat} {s : List T} (hi : i < m.length) (hs : IsSt s) : ∃ (es : List Ent) (s' : List T), cf (n + 8) 27 [.c i] (put m i s) = .ok (.t (setT es)) (put m i s') ∧ IsSt s' ∧ (∀ e ∈ es, EntOk e) ∧ es ≠ [] ∧ es.length < 64 ∧ (es.map (·.sd)).Nodup := by
  have hi' : i < (mm m []).length := by rw [Zjq]; omega
  obtain ⟨turn, s1, g1, hs1, _, _⟩ := Z1 (n := n + 6) (many := 12) hi' hs (by decide) (by decide)
  obtain ⟨r, s2, g2, hs2, r0, r1⟩ := Z1 (n := n + 6) (many := 2) hi' hs1 (by decide) (by decide)
  have hps : ∃ ps : List (Int × List Nat), bltT .enum [.lst (cut [T.str ZiY, .str Zia, .str ZkP] none (some (2 + r)))] = some (.lst (ps.map fun p => .tup [.int p.1, .str p.2])) ∧ (∀ p ∈ ps, okS p.2 = true) ∧ ps.length ≤ 3 ∧ ps ≠ [] ∧ (ps.map (·.2)).Nodup := by
    have k1 : okS ZiY = true := by decide +kernel
    have k2 : okS Zia = true := by decide +kernel
    have k3 : okS ZkP = true := by decide +kernel
    rcases (show r = 0 ∨ r = 1 by omega) with rfl | rfl
    · exact ⟨[(0, ZiY), (1, Zia)], rfl, by simp [k1, k2], by decide, by simp, by decide⟩
    · exact ⟨[(0, ZiY), (1, Zia), (2, ZkP)], rfl, by simp [k1, k2, k3], by decide, by simp, by decide⟩
  obtain ⟨ps, he, hok, hlen, hne, hnd⟩ := hps
  obtain ⟨es, s3, env', h3, hs3, ho, hm, hv⟩ := Zah (n := n) (turn := turn) hi ps [] s2 none none none none none none hs2 hok (by simp; omega) (fun e he => by cases he)
  have hm : es.map (·.sd) = ps.map (·.2) := by simpa using hm
  have hln : es.length = ps.length := by
    have := congrArg List.length hm
    simpa using this
  refine ⟨es, s3, ?_, hs3, ho, fun z => hne (List.length_eq_zero_iff.mp (by rw [← hln, z]; rfl)), by omega, by rw [hm]; exact hnd⟩
  have key : ex (cf (n + 7)) gv ZcJ [some (.c i), none, none, none, none, none, none, none, none] (put m i s) = .ok (.ret (.c m.length)) (put (mm m (es.map Ent.t)) i s3) := by
    unfold ZcJ
    refine (Zx (w := .c m.length) (m1 := put (mm m []) i s) ?_).trans ?_
    · rw [← mm_nil hi]
      rw [ev, evs]
      show Res.ok (W.c (put m i s).length) _ = _
      rw [QM]
    dsimp only [List.set_cons_succ, List.set_cons_zero]
    refine (Zx ((Zy (Zb rfl) (Zf _)).trans g1)).trans ?_
    dsimp only [List.set_cons_succ, List.set_cons_zero]
    have hit : ev (cf (n + 7)) gv (.blt .enum (.cons (.tr (.slc (.lst (.cons (.con (.str [103, 105, 118, 101])) (.cons (.con (.str [116, 97, 107, 101])) (.cons (.con (.str [98, 101, 97, 114])) .nil)))) .hole (.bin .Add (.con (.int 2)) (.call 19 (.cons (.var 0) (.cons (.con (.int 2)) .nil)))))) .nil)) [some (.c i), some (.c m.length), some (.t (.int turn)), none, none, none, none, none, none] (put (mm m []) i s1) = .ok (.t (.lst (ps.map fun p => .tup [.int p.1, .str p.2]))) (put (mm m []) i s2) := by
      refine ZL (ev_tr (ZkB (Jy (Zq (Zf _) (Zq (Zf _) (Zq (Zf _) Z8))) rfl QF) (Qe (Zf _) ((Zy (Zb rfl) (Zf _)).trans g2) (ZeJ _ _)) rfl)) he
    refine (XD hit rfl h3).trans ?_
    exact Zo (Zb hv)
  refine Qv (ZkI _ _ _) rfl key ?_
  show fin (put m i s).length false (.ret (.c m.length)) _ = _
  rw [QM]
  unfold fin
  dsimp only
  rw [if_neg (Nat.lt_irrefl _), Zkl hi]
  dsimp only
  rw [if_neg Bool.false_ne_true, Zkk hi]
  rfl
theorem Zi1 : ∀ (n : Nat) (t : T), Zu n t = true → eqT t t = true := by
  intro n
  induction n with
  | zero =>
    intro t h
    cases t with
    | non => rfl
    | bl b => simp [eqT]
    | int b => simp [eqT]
    | str b => simp [eqT]
    | tup ts => simp [Zu] at h
    | lst ts => simp [Zu] at h
    | dct ks ts => simp [Zu] at h
    | scr ns => simp [Zu] at h
  | succ n ih =>
    have hl : ∀ ts : List T, ZM n ts = true → eqTs ts ts = true := by
      intro ts
      induction ts with
      | nil => intro _; rfl
      | cons t ts iht =>
        intro h
        rw [ZM, Bool.and_eq_true] at h
        rw [eqTs, ih t h.1, iht h.2]
        rfl
    intro t h
    cases t with
    | tup ts => rw [Zu] at h; rw [eqT]; exact hl ts h
    | lst ts => rw [Zu] at h; rw [eqT]; exact hl ts h
    | non => rfl
    | bl b => simp [eqT]
    | int b => simp [eqT]
    | str b => simp [eqT]
    | dct ks ts => simp [Zu] at h
    | scr ns => simp [Zu] at h
theorem Zki {t : T} (h : Zu 60 t = true) : cmpT .NotEq t t = some false := by
  show (if (Zdx t t || (Zu 60 t && Zu 60 t)) = true then some (!eqT t t) else none) = _
  rw [h, Bool.true_and, Bool.or_true, if_pos rfl, Zi1 60 t h]
  rfl
theorem ZhO {nm kd : List Nat} {mk : List (List Nat)} {sz : List (List Nat × Int)} (h : Zjf nm kd mk sz) : Zu 57 (Z7 nm kd mk sz) = true := by
  obtain ⟨_, _, h1, h2, h3, h4⟩ := h
  have e1 : ZM 55 (mk.map T.str) = true := Ja.mpr fun t ht => by
    obtain ⟨w, hw, rfl⟩ := List.mem_map.mp ht
    exact h1 w hw
  have e2 : ZM 55 (sz.map Jx) = true := Ja.mpr fun t ht => by
    obtain ⟨p, hp, rfl⟩ := List.mem_map.mp ht
    have := h2 p hp
    unfold okS at this
    simp [Jx, Zu, ZM, this]
  unfold okS at h3 h4
  simp [Z7, Zu, ZM, e1, e2, h3, h4]
theorem Zi2 {e : Ent} (h : EntOk e) : Zu 59 e.t = true := by
  have h1 := ZhO h.card
  have h2 := h.wish.2 52
  have h3 := h.sd
  unfold okS at h3
  have h2 : Zu 57 e.w = true := h2
  simp [Ent.t, Ent.off, offT, Zu, ZM, h1, h2, h3]
theorem Zif {es : List Ent} (h : ∀ e ∈ es, EntOk e) : Zu 60 (setT es) = true := by
  show ZM 59 (es.map Ent.t) = true
  refine Ja.mpr fun t ht => ?_
  obtain ⟨e, he, rfl⟩ := List.mem_map.mp ht
  exact Zi2 (h e he)
theorem ne_int (v : Int) : cmpT .NotEq (.int v) (.int v) = some false := by rw [Zjd]; simp
theorem l_list (ts : List T) : bltT .list [.lst ts] = some (.lst ts) := rfl
theorem ZgO {n d : Nat} {m : Mem} {ts : List T} (hl : ts.length ≤ 100) (ih : ∀ t ∈ ts, cf (n + (d + 1)) 30 [.t t] m = .ok (.t (.bl true)) m) : cf (n + (d + 2)) 30 [.t (.tup ts)] m = .ok (.t (.bl true)) m := by
  have h := Js (f := QW (cf (n + (d + 1))) gv .nil ZaX) (tg := .nm 0) (env := [none]) (m := m) (g := fun _ => [T.bl true]) ts (fun t ht => ⟨[some (.t t)], rfl, Zgp (show ev (cf (n + (d + 1))) gv ZaX _ m = _ from Xc ((QS (Zb rfl)).trans (ih t ht)))⟩)
  rw [Xb] at h
  have hc : ev (cf (n + (d + 1))) gv ZcG [some (.t (.tup ts))] m = .ok (.t (.lst (ts.map fun _ => T.bl true))) m := QB (x := .t (.tup ts)) (m0 := m) (m1 := m) (Zb rfl) rfl h (by rw [List.length_map]; unfold lim; omega)
  have ha : bltT .all [.lst (ts.map fun _ => T.bl true)] = some (.bl true) := by
    rw [Zkr (Xr (fun _ => true) ts)]
    simp
  exact Qv (ZdY _ _ _) rfl (show ex (cf (n + (d + 1))) gv Xd [some (.t (.tup ts))] m = .ok (.ret (.t (.bl true))) m from Qj (Q7 (k := true) (Zb rfl) rfl) (Zo (ZL hc ha))) (ZS (cell := false) rfl)
theorem JN {n : Nat} {m : Mem} {t : T} (h : Sm 0 t) : cf (n + 1) 30 [.t t] m = .ok (.t (.bl true)) m := by
  refine Qv (ZdY _ _ _) rfl (show ex (cf n) gv Xd [some (.t t)] m = .ok (.ret (.t (.bl true))) m from ?_) (ZS (cell := false) rfl)
  unfold Xd
  cases h with
  | non => exact (Z2 (Q7 (Zb rfl) rfl)).trans (Zo (Zjx (Zv (k := true) (Zb rfl) (Zf _) rfl)))
  | bl b => exact (Z2 (Q7 (Zb rfl) rfl)).trans (Zo ((Zbh (Zv (k := false) (Zb rfl) (Zf _) rfl)).trans (ZL (Zb rfl) rfl)))
  | int b => exact (Z2 (Q7 (Zb rfl) rfl)).trans (Zo ((Zbh (Zv (k := false) (Zb rfl) (Zf _) rfl)).trans (ZL (Zb rfl) rfl)))
  | str b => exact (Z2 (Q7 (Zb rfl) rfl)).trans (Zo ((Zbh (Zv (k := false) (Zb rfl) (Zf _) rfl)).trans (ZL (Zb rfl) rfl)))
theorem JV {n : Nat} {m : Mem} {t : T} (h : Sm 0 t) : cf (n + 1) 31 [.t t, .t t] m = .ok (.t (.bl true)) m := by
  refine Qv (ZdZ _ _ _) rfl (show ex (cf n) gv Xe [some (.t t), some (.t t)] m = .ok (.ret (.t (.bl true))) m from ?_) (ZS (cell := false) rfl)
  unfold Xe
  cases h with
  | non => exact (Z2 (ZaZ (Q7 (Zb rfl) rfl))).trans (Zo ((Xq (Zv (k := true) (Q7 (Zb rfl) rfl) (Q7 (Zb rfl) rfl) rfl)).trans (Zv (Zb rfl) (Zb rfl) rfl)))
  | bl b => exact (Z2 (ZaZ (Q7 (Zb rfl) rfl))).trans (Zo ((Xq (Zv (k := true) (Q7 (Zb rfl) rfl) (Q7 (Zb rfl) rfl) rfl)).trans (Zv (Zb rfl) (Zb rfl) (by rw [ZhV, beq_self_eq_true]))))
  | int b => exact (Z2 (ZaZ (Q7 (Zb rfl) rfl))).trans (Zo ((Xq (Zv (k := true) (Q7 (Zb rfl) rfl) (Q7 (Zb rfl) rfl) rfl)).trans (Zv (Zb rfl) (Zb rfl) (by rw [ZkN, beq_self_eq_true]))))
  | str b => exact (Z2 (ZaZ (Q7 (Zb rfl) rfl))).trans (Zo ((Xq (Zv (k := true) (Q7 (Zb rfl) rfl) (Q7 (Zb rfl) rfl) rfl)).trans (Zv (Zb rfl) (Zb rfl) (by rw [Zbr, beq_self_eq_true]))))
theorem ZhZ {n d : Nat} {m : Mem} {ts : List T} (hl : ts.length ≤ 100) (ih : ∀ t ∈ ts, cf (n + (d + 1)) 31 [.t t, .t t] m = .ok (.t (.bl true)) m) : cf (n + (d + 2)) 31 [.t (.tup ts), .t (.tup ts)] m = .ok (.t (.bl true)) m := by
  have h := Js (f := QW (cf (n + (d + 1))) gv .nil ZaY) (tg := .nm 0) (env := [none, some (.t (.tup ts)), some (.t (.tup ts))]) (m := m) (g := fun _ => [T.bl true]) (rangeT 0 ts.length) (fun t ht => by
    unfold rangeT at ht
    obtain ⟨k, hk, rfl⟩ := List.mem_map.mp ht
    have hk := List.mem_range.mp hk
    refine ⟨[some (.t (.int (0 + (k : Int)))), some (.t (.tup ts)), some (.t (.tup ts))], rfl, Zgp ?_⟩
    obtain ⟨x, hx, hm⟩ := Jc (xs := ts) (i := 0 + (k : Int)) (by omega) (by omega)
    have hx : ixT (.tup ts) (.int (0 + (k : Int))) = some x := hx
    exact (show ev (cf (n + (d + 1))) gv ZaY _ m = _ from Xc ((Zy (ZD (Zb rfl) (Zb rfl) hx) (ZD (Zb rfl) (Zb rfl) hx)).trans (ih x hm))))
  rw [Xb] at h
  have hr := Zeu (i := (ts.length : Int)) ⟨by omega, by omega⟩
  rw [Int.toNat_natCast] at hr
  have hrl : (rangeT 0 ts.length).length = ts.length := by simp [rangeT]
  have hc : ev (cf (n + (d + 1))) gv ZcH [some (.t (.tup ts)), some (.t (.tup ts))] m = .ok (.t (.lst ((rangeT 0 ts.length).map fun _ => T.bl true))) m := QB (x := .t (.lst (rangeT 0 ts.length))) (m0 := m) (m1 := m) (ZL (ZL (Zb rfl) (Zhj ts)) hr) rfl h (by rw [List.length_map, hrl]; unfold lim; omega)
  have ha : bltT .all [.lst ((rangeT 0 ts.length).map fun _ => T.bl true)] = some (.bl true) := by
    rw [Zkr (Xr (fun _ => true) _)]
    simp
  exact Qv (ZdZ _ _ _) rfl (show ex (cf (n + (d + 1))) gv Xe [some (.t (.tup ts)), some (.t (.tup ts))] m = .ok (.ret (.t (.bl true))) m from Qj ((Xq (Q7 (k := true) (Zb rfl) rfl)).trans (Q7 (k := true) (Zb rfl) rfl)) (Zo ((Xq (Zv (ZL (Zb rfl) (Zhj ts)) (ZL (Zb rfl) (Zhj ts)) (by rw [ZkN, beq_self_eq_true]))).trans (ZL hc ha)))) (ZS (cell := false) rfl)
theorem Ziu : ∀ (d : Nat) {t : T}, Sm d t → ∀ (n : Nat) (m : Mem), cf (n + (d + 1)) 30 [.t t] m = .ok (.t (.bl true)) m ∧ cf (n + (d + 1)) 31 [.t t, .t t] m = .ok (.t (.bl true)) m := by
  intro d
  induction d with
  | zero => exact fun h n m => ⟨JN h, JV h⟩
  | succ d ih =>
    intro t h n m
    cases h with
    | bl b => exact ⟨JN (n := n + (d + 1)) (.bl b), JV (n := n + (d + 1)) (.bl b)⟩
    | int b => exact ⟨JN (n := n + (d + 1)) (.int b), JV (n := n + (d + 1)) (.int b)⟩
    | non => exact ⟨JN (n := n + (d + 1)) .non, JV (n := n + (d + 1)) .non⟩
    | str b => exact ⟨JN (n := n + (d + 1)) (.str b), JV (n := n + (d + 1)) (.str b)⟩
    | tup h1 h2 => exact ⟨ZgO (n := n) h1 fun t ht => (ih (h2 t ht) n m).1, ZhZ (n := n) h1 fun t ht => (ih (h2 t ht) n m).2⟩
theorem law_turn {n : Nat} {ns : List Int} {x : Int} {m : Mem} {e2 e3 e4 e5 e6 : Option W} : ∃ m' f2 f3 f4 f5 f6, ex (cf (n + 20)) gv Zc6 [some (.t (.scr ns)), some (.t (.int x)), e2, e3, e4, e5, e6] m = .ok (.next [some (.t (.scr ns)), some (.t (.int x)), f2, f3, f4, f5, f6]) m' := by
  obtain ⟨s0, g0, hs0⟩ := ZjL (n := n + 19) (m := m) (x := x)
  have hi : m.length < (m ++ [none]).length := by simp
  generalize hM : m ++ [none] = M at g0 hi
  generalize hI : m.length = i at g0 hi
  obtain ⟨es, s1, g1, hs1, ho, h0, hl, hn⟩ := set_ok (n := n + 12) hi hs0
  have gL := law_why_ok (n := n + 15) (m := put M i s1) h0 hl ho
  have gP := why_ok (n := n + 12) (m := put M i s1) h0 hl ho
  have sm := Ziu 6 (Zgi ho) (n + 13) (put M i s1)
  refine ⟨put M i s1, some (.t (setT es)), some (.t (setT es)), some (.t (whyT es)), some (.t (.int 1)), some (.t (whyT es)), ?_⟩
  unfold Zc6
  refine (Zx ((QS ((QS (Zb rfl)).trans g0)).trans g1)).trans ?_
  dsimp only [List.set_cons_succ, List.set_cons_zero]
  refine (Zx (ZL (Zb rfl) (l_list _))).trans ?_
  dsimp only [List.set_cons_succ, List.set_cons_zero]
  refine (Zx ((QS (Zb rfl)).trans gL)).trans ?_
  dsimp only [List.set_cons_succ, List.set_cons_zero]
  have turn : ∀ (a b : Option W), ex (cf (n + 20)) gv ZaU [some (.t (.scr ns)), some (.t (.int x)), some (.t (setT es)), some (.t (setT es)), some (.t (whyT es)), a, b] (put M i s1) = .ok (.next [some (.t (.scr ns)), some (.t (.int x)), some (.t (setT es)), some (.t (setT es)), some (.t (whyT es)), a, some (.t (whyT es))]) (put M i s1) := fun a b => by
    unfold ZaU
    refine (Zx ((QS (Zb rfl)).trans gP)).trans ?_
    dsimp only [List.set_cons_succ, List.set_cons_zero]
    have ht : ev (cf (n + 20)) gv (.or (.not (.call 30 (.cons (.var 6) .nil))) (.or (.not (.call 31 (.cons (.var 6) (.cons (.var 4) .nil)))) (.cmp .NotEq (.var 3) (.var 2)))) [some (.t (.scr ns)), some (.t (.int x)), some (.t (setT es)), some (.t (setT es)), some (.t (whyT es)), a, some (.t (whyT es))] (put M i s1) = .ok (.t (.bl false)) (put M i s1) := by
      rw [Zbh (XX (k := true) ((QS (Zb rfl)).trans sm.1)), Zbh (XX (k := true) ((Zy (Zb rfl) (Zb rfl)).trans sm.2))]
      exact Zv (Zb rfl) (Zb rfl) (Zki (Zif ho))
    exact (Z2 ht).trans Xp
  have hloop : Qk (ex (cf (n + 20)) gv ZaU) (.nm 5) [.int 0, .int 1] [some (.t (.scr ns)), some (.t (.int x)), some (.t (setT es)), some (.t (setT es)), some (.t (whyT es)), e5, e6] (put M i s1) = .ok (.next [some (.t (.scr ns)), some (.t (.int x)), some (.t (setT es)), some (.t (setT es)), some (.t (whyT es)), some (.t (.int 1)), some (.t (whyT es))]) (put M i s1) := by
    rw [Qk]
    show (ex (cf (n + 20)) gv ZaU [some (.t (.scr ns)), some (.t (.int x)), some (.t (setT es)), some (.t (setT es)), some (.t (whyT es)), some (.t (.int 0)), e6] (put M i s1)).bind _ = _
    rw [turn, Zw]
    dsimp only
    rw [Qk]
    show (ex (cf (n + 20)) gv ZaU [some (.t (.scr ns)), some (.t (.int x)), some (.t (setT es)), some (.t (setT es)), some (.t (whyT es)), some (.t (.int 1)), some (.t (whyT es))] (put M i s1)).bind _ = _
    rw [turn]
    rfl
  exact (XD (ZL (Zf _) (Zeu (i := 2) (by decide))) rfl hloop).trans Xp
theorem law_true (ns : List Int) (hl : ns.length ≤ 63) : ∃ m, Qi fns gv 41 32 [.t (.scr ns)] [] = .ok (.t (.bl true)) m := by
  obtain ⟨v, hv⟩ := ZkJ (n := 39) (m := []) (ns := ns)
  obtain ⟨env1, m1, e1, _⟩ := Zcp (f := ex (cf 40) gv Zc6) (tg := .nm 1) (P := fun env m => ∃ a b c d e f, env = [some (.t (.scr ns)), a, b, c, d, e, f]) (.int v :: (cut ns (some 1) (some 10)).map .int) [some (.t (.scr ns)), none, none, none, none, none, none] [] ⟨_, _, _, _, _, _, rfl⟩ (by
    rintro t ht env m ⟨a, b, c, d, e, f, rfl⟩
    have : ∃ x : Int, t = .int x := by
      rcases List.mem_cons.mp ht with rfl | ht
      · exact ⟨v, rfl⟩
      · obtain ⟨x, _, rfl⟩ := List.mem_map.mp ht
        exact ⟨x, rfl⟩
    obtain ⟨x, rfl⟩ := this
    obtain ⟨m', f2, f3, f4, f5, f6, h1⟩ := law_turn (n := 20) (ns := ns) (x := x) (m := m) (e2 := b) (e3 := c) (e4 := d) (e5 := e) (e6 := f)
    exact ⟨_, _, m', rfl, h1, _, _, _, _, _, _, rfl⟩)
  refine ⟨[], ?_⟩
  have key : ex (cf 40) gv ZeI [some (.t (.scr ns)), none, none, none, none, none, none] [] = .ok (.ret (.t (.bl true))) m1 := by
    unfold ZeI
    have hcl : (cut ns (some 1) (some 10)).length ≤ ns.length := by unfold cut; simp; omega
    have hit : ev (cf 40) gv (.bin .Add (.lst (.cons (.call 17 (.cons (.var 0) (.cons (.con (.int 0)) .nil))) .nil)) (.slc (.var 0) (.con (.int 1)) (.con (.int 10)))) [some (.t (.scr ns)), none, none, none, none, none, none] [] = .ok (.t (.lst (.int v :: (cut ns (some 1) (some 10)).map .int))) [] := by
      simp [ev, evs, isT, Z0, EVs, hv, lim]
      rw [ZjD (by simp [lim]; omega)]
      rfl
    refine (XD hit rfl e1).trans ?_
    exact Zo (Zf _)
  show cf 41 32 [.t (.scr ns)] [] = _
  rw [cf_law]
  simp [key, Zw, fin]
end My
end
section
set_option maxHeartbeats 1000000
namespace My
open PySem PySem.Spec PyProof.Rows L2 Mi
noncomputable def top (i : Nat) : Stmt := PySem.Challenge.pw_matepoint_k33_why_none_meet.main.body.getD i (.Pass ⟨0, 0, 0, 0⟩)
noncomputable abbrev QJ : Stmt := top 1
noncomputable abbrev QZ : Stmt := top 2
noncomputable abbrev Zal : Stmt := top 4
noncomputable abbrev Qx : Stmt := top 5
noncomputable abbrev Jm : Stmt := top 7
noncomputable abbrev ZZ : Stmt := top 8
noncomputable abbrev Q0 : Stmt := top 10
noncomputable abbrev Q3 : Stmt := top 11
noncomputable abbrev QX : Stmt := top 12
noncomputable abbrev Q4 : Stmt := top 13
noncomputable abbrev Ql : Stmt := top 14
noncomputable abbrev ZJ : Stmt := top 15
noncomputable abbrev ZQ : Stmt := top 16
noncomputable abbrev ZW : Stmt := top 17
noncomputable abbrev ZP : Stmt := top 18
noncomputable abbrev Jo : Stmt := top 19
noncomputable abbrev QH : Stmt := top 20
noncomputable abbrev QK : Stmt := top 22
noncomputable abbrev J1 : Stmt := top 23
noncomputable abbrev J7 : Stmt := top 24
noncomputable abbrev J4 : Stmt := top 25
noncomputable abbrev J5 : Stmt := top 26
noncomputable abbrev Q6 : Stmt := top 27
noncomputable abbrev J8 : Stmt := top 28
noncomputable abbrev JZ : Stmt := top 29
noncomputable abbrev Jq : Stmt := top 30
noncomputable abbrev J6 : Stmt := top 31
noncomputable abbrev Zan : Stmt := top 32
noncomputable abbrev Q5 : Stmt := top 33
noncomputable abbrev Zam : Stmt := top 34
noncomputable abbrev Jp : Stmt := top 35
noncomputable abbrev Jr : Stmt := top 36
noncomputable abbrev Zbk : Stmt := top 37
theorem Zed : FnScope ["card", "word"] ["card", "word"] (Zd QJ) := ⟨rfl, rfl, rfl, by decide +kernel, rfl, by decide +kernel, by decide +kernel⟩
theorem Zci : FnScope ["card", "word", "name", "number"] ["card", "word"] (Zd QZ) := ⟨rfl, rfl, rfl, by decide +kernel, rfl, by decide +kernel, by decide +kernel⟩
theorem Zgz : FnScope ["wish", "card", "word"] ["wish", "card"] (Zd Zal) := ⟨rfl, rfl, rfl, by decide +kernel, rfl, by decide +kernel, by decide +kernel⟩
theorem Zba : FnScope ["wish", "card", "size"] ["wish", "card"] (Zd Qx) := ⟨rfl, rfl, rfl, by decide +kernel, rfl, by decide +kernel, by decide +kernel⟩
theorem ZbF : FnScope ["wish", "card", "word", "below"] ["wish", "card"] (Zd Jm) := ⟨rfl, rfl, rfl, by decide +kernel, rfl, by decide +kernel, by decide +kernel⟩
theorem Ji : FnScope ["word", "reasons", "by_one", "k"] ["word", "reasons"] (Zd ZZ) := ⟨rfl, rfl, rfl, by decide +kernel, rfl, by decide +kernel, by decide +kernel⟩
theorem Zfq : FnScope ["offer"] ["offer"] (Zd Q0) := ⟨rfl, rfl, rfl, by decide +kernel, rfl, by decide +kernel, by decide +kernel⟩
theorem Zfr : FnScope ["offer"] ["offer"] (Zd Q3) := ⟨rfl, rfl, rfl, by decide +kernel, rfl, by decide +kernel, by decide +kernel⟩
theorem Zfp : FnScope ["some", "place"] ["some", "place"] (Zd QX) := ⟨rfl, rfl, rfl, by decide +kernel, rfl, by decide +kernel, by decide +kernel⟩
theorem Zfs : FnScope ["some", "place"] ["some", "place"] (Zd Q4) := ⟨rfl, rfl, rfl, by decide +kernel, rfl, by decide +kernel, by decide +kernel⟩
theorem ZcP : FnScope ["some"] ["some"] (Zd Ql) := ⟨rfl, rfl, rfl, by decide +kernel, rfl, by decide +kernel, by decide +kernel⟩
theorem X7 : FnScope ["some"] ["some"] (Zd ZJ) := ⟨rfl, rfl, rfl, by decide +kernel, rfl, by decide +kernel, by decide +kernel⟩
theorem Zak : FnScope ["some"] ["some"] (Zd ZQ) := ⟨rfl, rfl, rfl, by decide +kernel, rfl, by decide +kernel, by decide +kernel⟩
theorem ZaL : FnScope ["some", "i", "j"] ["some", "i", "j"] (Zd ZW) := ⟨rfl, rfl, rfl, by decide +kernel, rfl, by decide +kernel, by decide +kernel⟩
theorem JG : FnScope ["some", "i", "offer", "left"] ["some", "i"] (Zd ZP) := ⟨rfl, rfl, rfl, by decide +kernel, rfl, by decide +kernel, by decide +kernel⟩
theorem Zaj : FnScope ["some", "i", "j"] ["some"] (Zd Jo) := ⟨rfl, rfl, rfl, by decide +kernel, rfl, by decide +kernel, by decide +kernel⟩
theorem X6 : FnScope ["some", "way", "word", "i", "j"] ["some"] (Zd QH) := ⟨rfl, rfl, rfl, by decide +kernel, rfl, by decide +kernel, by decide +kernel⟩
theorem Zee : FnScope ["_law_script", "_law_k"] ["_law_script", "_law_k"] (Zd QK) := ⟨rfl, rfl, rfl, by decide +kernel, rfl, by decide +kernel, by decide +kernel⟩
theorem Zig : FnScope ["_law_cell"] ["_law_cell"] (Zd J1) := ⟨rfl, rfl, rfl, by decide +kernel, rfl, by decide +kernel, by decide +kernel⟩
theorem Zbs : FnScope ["_law_tape_here", "_law_many", "_law_found", "_law_number_here"] ["_law_tape_here", "_law_many"] (Zd J7) := ⟨rfl, rfl, rfl, by decide +kernel, rfl, by decide +kernel, by decide +kernel⟩
theorem Zih : FnScope ["_law_tape_here", "_law_some"] ["_law_tape_here", "_law_some"] (Zd J4) := ⟨rfl, rfl, rfl, by decide +kernel, rfl, by decide +kernel, by decide +kernel⟩
theorem ZeS : FnScope ["_law_k", "_law_some"] ["_law_k"] (Zd J5) := ⟨rfl, rfl, rfl, by decide +kernel, rfl, by decide +kernel, by decide +kernel⟩
theorem Zft : FnScope ["_law_tape_here"] ["_law_tape_here"] (Zd Q6) := ⟨rfl, rfl, rfl, by decide +kernel, rfl, by decide +kernel, by decide +kernel⟩
theorem ZcS : FnScope ["_law_tape_here", "_law_name_here", "_law_kind", "_law_marks", "_law_sizes"] ["_law_tape_here", "_law_name_here", "_law_kind"] (Zd J8) := ⟨rfl, rfl, rfl, by decide +kernel, rfl, by decide +kernel, by decide +kernel⟩
theorem ZcQ : FnScope ["_law_tape_here", "_law_deep", "_law_way", "_law_many"] ["_law_tape_here", "_law_deep"] (Zd JZ) := ⟨rfl, rfl, rfl, by decide +kernel, rfl, by decide +kernel, by decide +kernel⟩
theorem Xi : FnScope ["_law_tape_here", "_law_side", "_law_name_here", "_law_kind", "_law_till", "_law_many", "_law_least", "_law_wish_here", "_law_weight"] ["_law_tape_here", "_law_side", "_law_name_here", "_law_kind", "_law_till"] (Zd Jq) := ⟨rfl, rfl, rfl, by decide +kernel, rfl, by decide +kernel, by decide +kernel⟩
theorem ZcR : FnScope ["_law_wish_here", "_law_card_here", "_law_word", "_law_numbers"] ["_law_wish_here", "_law_card_here"] (Zd J6) := ⟨rfl, rfl, rfl, by decide +kernel, rfl, by decide +kernel, by decide +kernel⟩
theorem Xh : FnScope ["_law_tape_here", "_law_found", "_law_turn", "_law_k", "_law_side", "_law_kind", "_law_name_here", "_law_offer_here", "_law_left"] ["_law_tape_here"] (Zd Zan) := ⟨rfl, rfl, rfl, by decide +kernel, rfl, by decide +kernel, by decide +kernel⟩
theorem ZaN : FnScope ["_law_wish_here", "_law_card_here", "_law_truth", "_law_at"] ["_law_wish_here", "_law_card_here"] (Zd Q5) := ⟨rfl, rfl, rfl, by decide +kernel, rfl, by decide +kernel, by decide +kernel⟩
theorem ZaM : FnScope ["_law_some", "_law_names", "_law_i", "_law_j", "_law_many", "_law_short"] ["_law_some"] (Zd Zam) := ⟨rfl, rfl, rfl, by decide +kernel, rfl, by decide +kernel, by decide +kernel⟩
theorem ZgA : FnScope ["_law_thing"] ["_law_thing"] (Zd Jp) := ⟨rfl, rfl, rfl, by decide +kernel, rfl, by decide +kernel, by decide +kernel⟩
theorem ZgB : FnScope ["_law_one", "_law_other"] ["_law_one", "_law_other"] (Zd Jr) := ⟨rfl, rfl, rfl, by decide +kernel, rfl, by decide +kernel, by decide +kernel⟩
theorem Zbb : FnScope ["_law_script", "_law_cell", "_law_some", "_law_handed", "_law_due", "_law_turn", "_law_found"] ["_law_script"] (Zd Zbk) := ⟨rfl, rfl, rfl, by decide +kernel, rfl, by decide +kernel, by decide +kernel⟩
structure Txt0 (K : PySem.W.Frag) (mg : Str → Option Value) : Prop where
  b_all : mg "all" = none
  b_any : mg "any" = none
  b_bool : mg "bool" = none
  b_enumerate : mg "enumerate" = none
  b_int : mg "int" = none
  b_isinstance : mg "isinstance" = none
  b_len : mg "len" = none
  b_list : mg "list" = none
  b_min : mg "min" = none
  b_range : mg "range" = none
  b_set : mg "set" = none
  b_str : mg "str" = none
  b_tuple : mg "tuple" = none
structure Txt1 (P : Program) (w : World) (K : PySem.W.Frag) (mg : Str → Option Value) (base : Heap) (k : Nat) : Prop where
  f_has_mark : FOk P w K mg base fns gv k "has_mark" 0
  f_size_of : FOk P w K mg base fns gv k "size_of" 1
  f_lets : FOk P w K mg base fns gv k "lets" 2
  f_lets_size : FOk P w K mg base fns gv k "lets_size" 3
  f_reason : FOk P w K mg base fns gv k "reason" 4
  f_joined_reason : FOk P w K mg base fns gv k "joined_reason" 5
  f_name_of : FOk P w K mg base fns gv k "name_of" 6
  f_kind_of : FOk P w K mg base fns gv k "kind_of" 7
  f_wish_at : FOk P w K mg base fns gv k "wish_at" 8
  f_card_at : FOk P w K mg base fns gv k "card_at" 9
  f_least_left : FOk P w K mg base fns gv k "least_left" 10
  f_are_kinds_unlike : FOk P w K mg base fns gv k "are_kinds_unlike" 11
  f_are_names_alike : FOk P w K mg base fns gv k "are_names_alike" 12
  f_is_wish_in_way : FOk P w K mg base fns gv k "is_wish_in_way" 13
  f_is_least_in_way : FOk P w K mg base fns gv k "is_least_in_way" 14
  f_in_way : FOk P w K mg base fns gv k "in_way" 15
  f_why_none : FOk P w K mg base fns gv k "why_none" 16
  f_Lcell_at : FOk P w K mg base fns gv k "_law_cell_at" 17
  f_Ltape : FOk P w K mg base fns gv k "_law_tape" 18
  f_Ldraw : FOk P w K mg base fns gv k "_law_draw" 19
  f_Lpick : FOk P w K mg base fns gv k "_law_pick" 20
  f_Lname : FOk P w K mg base fns gv k "_law_name" 21
  f_Lnumber : FOk P w K mg base fns gv k "_law_number" 22
  f_Lcard : FOk P w K mg base fns gv k "_law_card" 23
  f_Lwish : FOk P w K mg base fns gv k "_law_wish" 24
  f_Loffer : FOk P w K mg base fns gv k "_law_offer" 25
  f_Llets : FOk P w K mg base fns gv k "_law_lets" 26
  f_Lset : FOk P w K mg base fns gv k "_law_set" 27
  f_Lreason : FOk P w K mg base fns gv k "_law_reason" 28
  f_Lwhy : FOk P w K mg base fns gv k "_law_why" 29
  f_Lplain : FOk P w K mg base fns gv k "_law_plain" 30
  f_Lalike : FOk P w K mg base fns gv k "_law_alike" 31
  f_law : FOk P w K mg base fns gv k "law" 32
section
variable {P : Program} {w : World} {K : PySem.W.Frag} {mg : Str → Option Value} {base : Heap} {k : Nat} {f : Addr} {cdv : Value} {A : Around} {outer : List PySem.Env} {s : Shared} {H : Hp} {E : XK}
theorem Zei (T0 : Txt0 K mg) (T1 : Txt1 P w K mg base k) (hr : Room k (A.deeper (envOfC "has_mark" (Zd QJ) s.heap.objs.size f cdv))) :
    Bd (cxOf CX0 P w K mg base ["card", "word"] "has_mark" (Zd QJ) f cdv A outer s H E).nox (Zj QJ) (tS K (Qi fns gv k) gv xr0 2 Jv) := by
 refine ⟨?_⟩;refine Zh ?_;refine Qd ?_ ?_ ?_ ?_;exact (vr 1);refine Zi ?_ ?_ ?_;exact (vr 0);exact Ze;exact (fun _ _ => rfl);exact (by with_unfolding_all rfl);exact hr.units
theorem Zfw (T0 : Txt0 K mg) (T1 : Txt1 P w K mg base k) (hr : Room k (A.deeper (envOfC "size_of" (Zd QZ) s.heap.objs.size f cdv))) :
    Bd (cxOf CX0 P w K mg base ["card", "word", "name", "number"] "size_of" (Zd QZ) f cdv A outer s H E).nox (Zj QZ) (tS K (Qi fns gv k) gv xr0 4 JS) := by
 refine ⟨?_⟩;refine Jd ?_ ?_ ?_ ?_ ?_ ?_ ?_;exact rfl;exact PassesOwn.never;refine J9 ?_;refine Zi ?_ ?_ ?_;exact (vr 0);exact Ze;exact (fun _ _ => rfl);exact (Je 2 3 rfl Zci.nd);exact (by decide);refine ZC ?_ ?_ ?_ ?_;refine Zz ?_ ?_ ?_ ?_;exact (vr 2);exact (vr 1);exact (by with_unfolding_all rfl);exact hr.units;refine Zh ?_;exact (vr 3);exact Zn;exact Zn;refine Zh ?_;exact Xj
theorem ZjT (T0 : Txt0 K mg) (T1 : Txt1 P w K mg base k) (hr : Room k (A.deeper (envOfC "lets" (Zd Zal) s.heap.objs.size f cdv))) :
    Bd (cxOf CX0 P w K mg base ["wish", "card", "word"] "lets" (Zd Zal) f cdv A outer s H E).nox (Zj Zal) (tS K (Qi fns gv k) gv xr0 3 X5) := by
 refine ⟨?_⟩;refine sg (i := 2) ?_ ?_ ?_;exact Zgz.nd;refine Zi ?_ ?_ ?_;exact (vr 0);exact Ze;exact (fun _ _ => rfl);refine ZC ?_ ?_ ?_ ?_;refine Zz ?_ ?_ ?_ ?_;exact (vr 2);exact (Zk (by decide +kernel));exact (by with_unfolding_all rfl);exact hr.units;refine Zh ?_;exact Zcl;exact Zn;refine ZC ?_ ?_ ?_ ?_;refine Zz ?_ ?_ ?_ ?_;exact (vr 2);exact (Zk (by decide +kernel));exact (by with_unfolding_all rfl);exact hr.units;refine Zh ?_;refine Zg ?_ ?_ ?_ ?_;exact T1.f_has_mark;exact hr;exact rfl;refine Za ?_ ?_ ?_;exact (vr 1);refine Za ?_ ?_ ?_;refine Zi ?_ ?_ ?_;exact (vr 0);exact Ze;exact (fun _ _ => rfl);exact Zc;exact rfl;exact rfl;exact Zn;refine ZC ?_ ?_ ?_ ?_;refine Zz ?_ ?_ ?_ ?_;exact (vr 2);exact (Zk (by decide +kernel));exact (by with_unfolding_all rfl);exact hr.units;refine Zh ?_;refine Qd ?_ ?_ ?_ ?_;refine Zi ?_ ?_ ?_;exact (vr 1);exact Ze;exact (fun _ _ => rfl);refine Zi ?_ ?_ ?_;exact (vr 0);exact Ze;exact (fun _ _ => rfl);exact (by with_unfolding_all rfl);exact hr.units;exact Zn;refine ZC ?_ ?_ ?_ ?_;refine Zz ?_ ?_ ?_ ?_;exact (vr 2);exact (Zk (by decide +kernel));exact (by with_unfolding_all rfl);exact hr.units;refine Zh ?_;refine ZbH ?_;refine Zg ?_ ?_ ?_ ?_;exact T1.f_lets;exact hr;exact rfl;refine Za ?_ ?_ ?_;refine Zi ?_ ?_ ?_;exact (vr 0);exact Ze;exact (fun _ _ => rfl);refine Za ?_ ?_ ?_;exact (vr 1);exact Zc;exact rfl;exact rfl;exact Zn;refine ZC ?_ ?_ ?_ ?_;refine Zz ?_ ?_ ?_ ?_;exact (vr 2);exact (Zk (by decide +kernel));exact (by with_unfolding_all rfl);exact hr.units;refine Zh ?_;refine ZcY ?_ ?_ ?_ ?_ ?_;exact rfl;exact T0.b_all;refine Za ?_ ?_ ?_;refine QQ (N' := ["one", "card"]) ?_ ?_;exact rfl;refine Z5 ?_ ?_ ?_ ?_ ?_ ?_ ?_;exact (by kernel_rfl);exact (by kernel_rfl);refine J9 ?_;refine Zi ?_ ?_ ?_;exact (vr 0);exact Ze;exact (fun _ _ => rfl);exact (fun _ => rfl);intro _ _ _ _ _;refine ⟨?_, ?_, ?_⟩;exact (Z3 0 (show List.Nodup (["one", "card"] : List Str) from by decide +kernel));exact True.intro;refine ⟨?_, ?_⟩;exact rfl;refine Zg ?_ ?_ ?_ ?_;exact T1.f_lets;exact hr;exact rfl;refine Za ?_ ?_ ?_;exact (vr 0);refine Za ?_ ?_ ?_;exact (vr 1);exact Zc;exact rfl;exact rfl;exact (by decide);exact (by decide);exact Zc;exact rfl;exact rfl;exact rfl;exact Zn;refine ZC ?_ ?_ ?_ ?_;refine Zz ?_ ?_ ?_ ?_;exact (vr 2);exact (Zk (by decide +kernel));exact (by with_unfolding_all rfl);exact hr.units;refine Zh ?_;refine ZiA ?_ ?_ ?_ ?_ ?_;exact rfl;exact T0.b_any;refine Za ?_ ?_ ?_;refine QQ (N' := ["one", "card"]) ?_ ?_;exact rfl;refine Z5 ?_ ?_ ?_ ?_ ?_ ?_ ?_;exact (by kernel_rfl);exact (by kernel_rfl);refine J9 ?_;refine Zi ?_ ?_ ?_;exact (vr 0);exact Ze;exact (fun _ _ => rfl);exact (fun _ => rfl);intro _ _ _ _ _;refine ⟨?_, ?_, ?_⟩;exact (Z3 0 (show List.Nodup (["one", "card"] : List Str) from by decide +kernel));exact True.intro;refine ⟨?_, ?_⟩;exact rfl;refine Zg ?_ ?_ ?_ ?_;exact T1.f_lets;exact hr;exact rfl;refine Za ?_ ?_ ?_;exact (vr 0);refine Za ?_ ?_ ?_;exact (vr 1);exact Zc;exact rfl;exact rfl;exact (by decide);exact (by decide);exact Zc;exact rfl;exact rfl;exact rfl;exact Zn;refine Zh ?_;refine Zg ?_ ?_ ?_ ?_;exact T1.f_lets_size;exact hr;exact rfl;refine Za ?_ ?_ ?_;exact (vr 0);refine Za ?_ ?_ ?_;exact (vr 1);exact Zc;exact rfl;exact rfl
theorem ZdB (T0 : Txt0 K mg) (T1 : Txt1 P w K mg base k) (hr : Room k (A.deeper (envOfC "lets_size" (Zd Qx) s.heap.objs.size f cdv))) :
    Bd (cxOf CX0 P w K mg base ["wish", "card", "size"] "lets_size" (Zd Qx) f cdv A outer s H E).nox (Zj Qx) (tS K (Qi fns gv k) gv xr0 3 Jb) := by
 refine ⟨?_⟩;refine sg (i := 2) ?_ ?_ ?_;exact Zba.nd;refine Zg ?_ ?_ ?_ ?_;exact T1.f_size_of;exact hr;exact rfl;refine Za ?_ ?_ ?_;exact (vr 1);refine Za ?_ ?_ ?_;refine Zi ?_ ?_ ?_;exact (vr 0);exact Ze;exact (fun _ _ => rfl);exact Zc;exact rfl;exact rfl;refine ZC ?_ ?_ ?_ ?_;refine Zz ?_ ?_ ?_ ?_;exact (vr 2);exact Xj;exact (by with_unfolding_all rfl);exact hr.units;refine Zh ?_;exact Zcl;exact Zn;refine ZC ?_ ?_ ?_ ?_;refine Zz ?_ ?_ ?_ ?_;refine Zi ?_ ?_ ?_;exact (vr 0);exact Ze;exact (fun _ _ => rfl);exact (Zk (by decide +kernel));exact (by with_unfolding_all rfl);exact hr.units;refine Zh ?_;refine Qd ?_ ?_ ?_ ?_;exact (vr 2);refine Zi ?_ ?_ ?_;exact (vr 0);exact Ze;exact (fun _ _ => rfl);exact (by with_unfolding_all rfl);exact hr.units;exact Zn;refine Zh ?_;refine Qd ?_ ?_ ?_ ?_;exact (vr 2);refine Zi ?_ ?_ ?_;exact (vr 0);exact Ze;exact (fun _ _ => rfl);exact (by with_unfolding_all rfl);exact hr.units
theorem ZgI (T0 : Txt0 K mg) (T1 : Txt1 P w K mg base k) (hr : Room k (A.deeper (envOfC "reason" (Zd Jm) s.heap.objs.size f cdv))) :
    Bd (cxOf CX0 P w K mg base ["wish", "card", "word", "below"] "reason" (Zd Jm) f cdv A outer s H E).nox (Zj Jm) (tS K (Qi fns gv k) gv xr0 4 Jf) := by
 refine ⟨?_⟩;refine sg (i := 2) ?_ ?_ ?_;exact ZbF.nd;refine Zi ?_ ?_ ?_;exact (vr 0);exact Ze;exact (fun _ _ => rfl);refine ZC ?_ ?_ ?_ ?_;refine Zz ?_ ?_ ?_ ?_;exact (vr 2);exact (Zk (by decide +kernel));exact (by with_unfolding_all rfl);exact hr.units;refine sg (i := 3) ?_ ?_ ?_;exact ZbF.nd;refine Zg ?_ ?_ ?_ ?_;exact T1.f_reason;exact hr;exact rfl;refine Za ?_ ?_ ?_;refine Zi ?_ ?_ ?_;exact (vr 0);exact Ze;exact (fun _ _ => rfl);refine Za ?_ ?_ ?_;exact (vr 1);exact Zc;exact rfl;exact rfl;refine Zh ?_;refine ZV ?_;refine Za ?_ ?_ ?_;refine ZbH ?_;refine Zi ?_ ?_ ?_;exact (vr 3);exact Ze;exact (fun _ _ => rfl);refine Za ?_ ?_ ?_;exact (vr 3);exact Zc;exact rfl;exact rfl;exact Zn;refine ZC ?_ ?_ ?_ ?_;refine Zz ?_ ?_ ?_ ?_;exact (vr 2);refine ZV ?_;refine Za ?_ ?_ ?_;exact (Zk (by decide +kernel));refine Za ?_ ?_ ?_;exact (Zk (by decide +kernel));exact Zc;exact rfl;exact rfl;exact (by with_unfolding_all rfl);exact hr.units;refine Zh ?_;refine Zg ?_ ?_ ?_ ?_;exact T1.f_joined_reason;exact hr;exact rfl;refine Za ?_ ?_ ?_;exact (vr 2);refine Za ?_ ?_ ?_;refine QQ (N' := ["one", "card"]) ?_ ?_;exact rfl;refine Z5 ?_ ?_ ?_ ?_ ?_ ?_ ?_;exact (by kernel_rfl);exact (by kernel_rfl);refine J9 ?_;refine Zi ?_ ?_ ?_;exact (vr 0);exact Ze;exact (fun _ _ => rfl);exact (fun _ => rfl);intro _ _ _ _ _;refine ⟨?_, ?_, ?_⟩;exact (Z3 0 (show List.Nodup (["one", "card"] : List Str) from by decide +kernel));exact True.intro;refine ⟨?_, ?_⟩;exact rfl;refine Zg ?_ ?_ ?_ ?_;exact T1.f_reason;exact hr;exact rfl;refine Za ?_ ?_ ?_;exact (vr 0);refine Za ?_ ?_ ?_;exact (vr 1);exact Zc;exact rfl;exact rfl;exact (by decide);exact (by decide);exact Zc;exact rfl;exact rfl;exact Zn;refine Zh ?_;refine ZV ?_;refine Za ?_ ?_ ?_;refine Zg ?_ ?_ ?_ ?_;exact T1.f_lets;exact hr;exact rfl;refine Za ?_ ?_ ?_;exact (vr 0);refine Za ?_ ?_ ?_;exact (vr 1);exact Zc;exact rfl;exact rfl;refine Za ?_ ?_ ?_;exact Xj;exact Zc;exact rfl;exact rfl
theorem Zbm (T0 : Txt0 K mg) (T1 : Txt1 P w K mg base k) (hr : Room k (A.deeper (envOfC "joined_reason" (Zd ZZ) s.heap.objs.size f cdv))) :
    Bd (cxOf CX0 P w K mg base ["word", "reasons", "by_one", "k"] "joined_reason" (Zd ZZ) f cdv A outer s H E).nox (Zj ZZ) (tS K (Qi fns gv k) gv xr0 4 Qt) := by
 refine ⟨?_⟩;refine sg (i := 2) ?_ ?_ ?_;exact Ji.nd;refine Qd ?_ ?_ ?_ ?_;exact (vr 0);exact (Zk (by decide +kernel));exact (by with_unfolding_all rfl);exact hr.units;refine Jd ?_ ?_ ?_ ?_ ?_ ?_ ?_;exact rfl;exact PassesOwn.never;refine Qq ?_ ?_ ?_;exact rfl;exact T0.b_range;refine Za ?_ ?_ ?_;refine QT ?_ ?_ ?_ ?_ ?_;exact rfl;exact T0.b_len;refine Za ?_ ?_ ?_;exact (vr 1);exact Zc;exact rfl;exact rfl;exact rfl;exact Zc;exact rfl;exact (Z3 3 Ji.nd);exact (by decide);refine ZC ?_ ?_ ?_ ?_;refine Zz ?_ ?_ ?_ ?_;refine Zi ?_ ?_ ?_;refine Zi ?_ ?_ ?_;exact (vr 1);exact (vr 3);exact (fun _ _ => rfl);exact Ze;exact (fun _ _ => rfl);exact (vr 2);exact (by with_unfolding_all rfl);exact hr.units;refine Zh ?_;refine ZV ?_;refine Za ?_ ?_ ?_;exact (vr 2);refine Za ?_ ?_ ?_;refine ZV ?_;refine Za ?_ ?_ ?_;exact (vr 3);refine Za ?_ ?_ ?_;refine Zi ?_ ?_ ?_;exact (vr 1);exact (vr 3);exact (fun _ _ => rfl);exact Zc;exact rfl;exact rfl;exact Zc;exact rfl;exact rfl;exact Zn;exact Zn;refine Zh ?_;refine ZV ?_;refine Za ?_ ?_ ?_;refine ZbH ?_;exact (vr 2);refine Za ?_ ?_ ?_;refine JP ?_ ?_ ?_ ?_ ?_;exact rfl;exact T0.b_tuple;refine Za ?_ ?_ ?_;exact (vr 1);exact Zc;exact rfl;exact rfl;exact rfl;exact Zc;exact rfl;exact rfl
theorem Zfx (T0 : Txt0 K mg) (T1 : Txt1 P w K mg base k) (hr : Room k (A.deeper (envOfC "name_of" (Zd Q0) s.heap.objs.size f cdv))) :
    Bd (cxOf CX0 P w K mg base ["offer"] "name_of" (Zd Q0) f cdv A outer s H E).nox (Zj Q0) (tS K (Qi fns gv k) gv xr0 1 Xv) := by
 refine ⟨?_⟩;refine Zh ?_;refine Zi ?_ ?_ ?_;refine Zi ?_ ?_ ?_;exact (vr 0);exact Ze;exact (fun _ _ => rfl);exact Ze;exact (fun _ _ => rfl)
theorem Zfy (T0 : Txt0 K mg) (T1 : Txt1 P w K mg base k) (hr : Room k (A.deeper (envOfC "kind_of" (Zd Q3) s.heap.objs.size f cdv))) :
    Bd (cxOf CX0 P w K mg base ["offer"] "kind_of" (Zd Q3) f cdv A outer s H E).nox (Zj Q3) (tS K (Qi fns gv k) gv xr0 1 Xw) := by
 refine ⟨?_⟩;refine Zh ?_;refine Zi ?_ ?_ ?_;refine Zi ?_ ?_ ?_;exact (vr 0);exact Ze;exact (fun _ _ => rfl);exact Ze;exact (fun _ _ => rfl)
theorem Zfv (T0 : Txt0 K mg) (T1 : Txt1 P w K mg base k) (hr : Room k (A.deeper (envOfC "wish_at" (Zd QX) s.heap.objs.size f cdv))) :
    Bd (cxOf CX0 P w K mg base ["some", "place"] "wish_at" (Zd QX) f cdv A outer s H E).nox (Zj QX) (tS K (Qi fns gv k) gv xr0 2 Xu) := by
 refine ⟨?_⟩;refine Zh ?_;refine Zi ?_ ?_ ?_;refine Zi ?_ ?_ ?_;refine Zi ?_ ?_ ?_;exact (vr 0);exact (vr 1);exact (fun _ _ => rfl);exact Ze;exact (fun _ _ => rfl);exact Ze;exact (fun _ _ => rfl)
theorem Zfz (T0 : Txt0 K mg) (T1 : Txt1 P w K mg base k) (hr : Room k (A.deeper (envOfC "card_at" (Zd Q4) s.heap.objs.size f cdv))) :
    Bd (cxOf CX0 P w K mg base ["some", "place"] "card_at" (Zd Q4) f cdv A outer s H E).nox (Zj Q4) (tS K (Qi fns gv k) gv xr0 2 Xx) := by
 refine ⟨?_⟩;refine Zh ?_;refine Zi ?_ ?_ ?_;refine Zi ?_ ?_ ?_;refine Zi ?_ ?_ ?_;exact (vr 0);exact (vr 1);exact (fun _ _ => rfl);exact Ze;exact (fun _ _ => rfl);exact Ze;exact (fun _ _ => rfl)
theorem ZcV (T0 : Txt0 K mg) (T1 : Txt1 P w K mg base k) (hr : Room k (A.deeper (envOfC "least_left" (Zd Ql) s.heap.objs.size f cdv))) :
    Bd (cxOf CX0 P w K mg base ["some"] "least_left" (Zd Ql) f cdv A outer s H E).nox (Zj Ql) (tS K (Qi fns gv k) gv xr0 1 Jh) := by
 refine ⟨?_⟩;refine Zh ?_;refine ZdD ?_ ?_ ?_ ?_ ?_;exact rfl;exact T0.b_min;refine Za ?_ ?_ ?_;refine QQ (N' := ["offer", "left"]) ?_ ?_;exact rfl;refine Z5 ?_ ?_ ?_ ?_ ?_ ?_ ?_;exact (by kernel_rfl);exact (by kernel_rfl);refine J9 ?_;exact (vr 0);exact (fun _ => rfl);intro _ _ _ _ _;refine ⟨?_, ?_, ?_⟩;exact (Je 0 1 rfl (show List.Nodup (["offer", "left"] : List Str) from by decide +kernel));exact True.intro;refine ⟨?_, ?_⟩;exact rfl;exact (vr 1);exact (by decide);exact (by decide);exact Zc;exact rfl;exact rfl;exact rfl
theorem X8 (T0 : Txt0 K mg) (T1 : Txt1 P w K mg base k) (hr : Room k (A.deeper (envOfC "are_kinds_unlike" (Zd ZJ) s.heap.objs.size f cdv))) :
    Bd (cxOf CX0 P w K mg base ["some"] "are_kinds_unlike" (Zd ZJ) f cdv A outer s H E).nox (Zj ZJ) (tS K (Qi fns gv k) gv xr0 1 Qm) := by
 refine ⟨?_⟩;refine Zh ?_;refine Qd ?_ ?_ ?_ ?_;refine ZbI (N' := ["offer", "left"]) ?_ ?_ ?_ ?_;exact rfl;exact rfl;exact T0.b_len;refine Z5 ?_ ?_ ?_ ?_ ?_ ?_ ?_;exact (by kernel_rfl);exact (by kernel_rfl);refine J9 ?_;exact (vr 0);exact (fun _ => rfl);intro _ _ _ _ _;refine ⟨?_, ?_, ?_⟩;exact (Je 0 1 rfl (show List.Nodup (["offer", "left"] : List Str) from by decide +kernel));exact True.intro;refine ⟨?_, ?_⟩;exact rfl;refine Zg ?_ ?_ ?_ ?_;exact T1.f_kind_of;exact hr;exact rfl;refine Za ?_ ?_ ?_;exact (vr 0);exact Zc;exact rfl;exact (by decide);exact (by decide);exact Ze;exact (by with_unfolding_all rfl);exact hr.units
theorem Zaq (T0 : Txt0 K mg) (T1 : Txt1 P w K mg base k) (hr : Room k (A.deeper (envOfC "are_names_alike" (Zd ZQ) s.heap.objs.size f cdv))) :
    Bd (cxOf CX0 P w K mg base ["some"] "are_names_alike" (Zd ZQ) f cdv A outer s H E).nox (Zj ZQ) (tS K (Qi fns gv k) gv xr0 1 Qu) := by
 refine ⟨?_⟩;refine Zh ?_;refine Qd ?_ ?_ ?_ ?_;refine ZbI (N' := ["offer", "left"]) ?_ ?_ ?_ ?_;exact rfl;exact rfl;exact T0.b_len;refine Z5 ?_ ?_ ?_ ?_ ?_ ?_ ?_;exact (by kernel_rfl);exact (by kernel_rfl);refine J9 ?_;exact (vr 0);exact (fun _ => rfl);intro _ _ _ _ _;refine ⟨?_, ?_, ?_⟩;exact (Je 0 1 rfl (show List.Nodup (["offer", "left"] : List Str) from by decide +kernel));exact True.intro;refine ⟨?_, ?_⟩;exact rfl;refine Zg ?_ ?_ ?_ ?_;exact T1.f_name_of;exact hr;exact rfl;refine Za ?_ ?_ ?_;exact (vr 0);exact Zc;exact rfl;exact (by decide);exact (by decide);refine QT ?_ ?_ ?_ ?_ ?_;exact rfl;exact T0.b_len;refine Za ?_ ?_ ?_;exact (vr 0);exact Zc;exact rfl;exact rfl;exact rfl;exact (by with_unfolding_all rfl);exact hr.units
theorem ZaO (T0 : Txt0 K mg) (T1 : Txt1 P w K mg base k) (hr : Room k (A.deeper (envOfC "is_wish_in_way" (Zd ZW) s.heap.objs.size f cdv))) :
    Bd (cxOf CX0 P w K mg base ["some", "i", "j"] "is_wish_in_way" (Zd ZW) f cdv A outer s H E).nox (Zj ZW) (tS K (Qi fns gv k) gv xr0 3 QC) := by
 refine ⟨?_⟩;refine Zh ?_;refine Zel ?_ ?_;refine Qd ?_ ?_ ?_ ?_;exact (vr 1);exact (vr 2);exact (by with_unfolding_all rfl);exact hr.units;refine ZeW ?_;refine ZbH ?_;refine Zg ?_ ?_ ?_ ?_;exact T1.f_lets;exact hr;exact rfl;refine Za ?_ ?_ ?_;refine Zg ?_ ?_ ?_ ?_;exact T1.f_wish_at;exact hr;exact rfl;refine Za ?_ ?_ ?_;exact (vr 0);refine Za ?_ ?_ ?_;exact (vr 1);exact Zc;exact rfl;exact rfl;refine Za ?_ ?_ ?_;refine Zg ?_ ?_ ?_ ?_;exact T1.f_card_at;exact hr;exact rfl;refine Za ?_ ?_ ?_;exact (vr 0);refine Za ?_ ?_ ?_;exact (vr 2);exact Zc;exact rfl;exact rfl;exact Zc;exact rfl;exact rfl
theorem Zap (T0 : Txt0 K mg) (T1 : Txt1 P w K mg base k) (hr : Room k (A.deeper (envOfC "is_least_in_way" (Zd ZP) s.heap.objs.size f cdv))) :
    Bd (cxOf CX0 P w K mg base ["some", "i", "offer", "left"] "is_least_in_way" (Zd ZP) f cdv A outer s H E).nox (Zj ZP) (tS K (Qi fns gv k) gv xr0 4 Qg) := by
 refine ⟨?_⟩;refine ZeV ?_ ?_ ?_ ?_;exact (by decide);refine Zi ?_ ?_ ?_;exact (vr 0);exact (vr 1);exact (fun _ _ => rfl);exact (Je 2 3 rfl JG.nd);refine Zh ?_;refine Qd ?_ ?_ ?_ ?_;refine ZcX ?_ ?_ ?_ ?_ ?_;exact rfl;exact T0.b_min;refine Za ?_ ?_ ?_;refine Zi ?_ ?_ ?_;exact (vr 2);exact Ze;exact (fun _ _ => rfl);refine Za ?_ ?_ ?_;exact (vr 3);exact Zc;exact rfl;exact rfl;exact rfl;exact rfl;refine Zg ?_ ?_ ?_ ?_;exact T1.f_least_left;exact hr;exact rfl;refine Za ?_ ?_ ?_;exact (vr 0);exact Zc;exact rfl;exact (by with_unfolding_all rfl);exact hr.units
theorem ZgJ (T0 : Txt0 K mg) (T1 : Txt1 P w K mg base k) (hr : Room k (A.deeper (envOfC "in_way" (Zd Jo) s.heap.objs.size f cdv))) :
    Bd (cxOf CX0 P w K mg base ["some", "i", "j"] "in_way" (Zd Jo) f cdv A outer s H E).nox (Zj Jo) (tS K (Qi fns gv k) gv xr0 3 XH) := by
 refine ⟨?_⟩;refine ZC ?_ ?_ ?_ ?_;refine Zbl ?_ ?_;refine Zg ?_ ?_ ?_ ?_;exact T1.f_are_kinds_unlike;exact hr;exact rfl;refine Za ?_ ?_ ?_;exact (vr 0);exact Zc;exact rfl;exact (fun _ => rfl);refine Zh ?_;refine ZV ?_;refine Za ?_ ?_ ?_;exact (Zk (by decide +kernel));exact Zc;exact rfl;exact Zn;refine ZC ?_ ?_ ?_ ?_;refine Zbl ?_ ?_;refine Zg ?_ ?_ ?_ ?_;exact T1.f_are_names_alike;exact hr;exact rfl;refine Za ?_ ?_ ?_;exact (vr 0);exact Zc;exact rfl;exact (fun _ => rfl);refine Zh ?_;refine ZV ?_;refine Za ?_ ?_ ?_;exact (Zk (by decide +kernel));exact Zc;exact rfl;exact Zn;refine Jd ?_ ?_ ?_ ?_ ?_ ?_ ?_;exact rfl;exact PassesOwn.never;refine Qq ?_ ?_ ?_;exact rfl;exact T0.b_range;refine Za ?_ ?_ ?_;refine QT ?_ ?_ ?_ ?_ ?_;exact rfl;exact T0.b_len;refine Za ?_ ?_ ?_;exact (vr 0);exact Zc;exact rfl;exact rfl;exact rfl;exact Zc;exact rfl;exact (Z3 1 Zaj.nd);exact (by decide);refine Jd ?_ ?_ ?_ ?_ ?_ ?_ ?_;exact rfl;exact PassesOwn.never;refine Qq ?_ ?_ ?_;exact rfl;exact T0.b_range;refine Za ?_ ?_ ?_;refine QT ?_ ?_ ?_ ?_ ?_;exact rfl;exact T0.b_len;refine Za ?_ ?_ ?_;exact (vr 0);exact Zc;exact rfl;exact rfl;exact rfl;exact Zc;exact rfl;exact (Z3 2 Zaj.nd);exact (by decide);refine ZC ?_ ?_ ?_ ?_;refine Zbl ?_ ?_;refine Zg ?_ ?_ ?_ ?_;exact T1.f_is_wish_in_way;exact hr;exact rfl;refine Za ?_ ?_ ?_;exact (vr 0);refine Za ?_ ?_ ?_;exact (vr 1);refine Za ?_ ?_ ?_;exact (vr 2);exact Zc;exact rfl;exact rfl;exact rfl;exact (fun _ => rfl);refine Zh ?_;refine ZV ?_;refine Za ?_ ?_ ?_;exact (Zk (by decide +kernel));refine Za ?_ ?_ ?_;exact (vr 1);refine Za ?_ ?_ ?_;exact (vr 2);exact Zc;exact rfl;exact rfl;exact rfl;exact Zn;exact Zn;exact Zn;refine Jd ?_ ?_ ?_ ?_ ?_ ?_ ?_;exact rfl;exact PassesOwn.never;refine Qq ?_ ?_ ?_;exact rfl;exact T0.b_range;refine Za ?_ ?_ ?_;refine QT ?_ ?_ ?_ ?_ ?_;exact rfl;exact T0.b_len;refine Za ?_ ?_ ?_;exact (vr 0);exact Zc;exact rfl;exact rfl;exact rfl;exact Zc;exact rfl;exact (Z3 1 Zaj.nd);exact (by decide);refine ZC ?_ ?_ ?_ ?_;refine Zbl ?_ ?_;refine Zg ?_ ?_ ?_ ?_;exact T1.f_is_least_in_way;exact hr;exact rfl;refine Za ?_ ?_ ?_;exact (vr 0);refine Za ?_ ?_ ?_;exact (vr 1);exact Zc;exact rfl;exact rfl;exact (fun _ => rfl);refine Zh ?_;refine ZV ?_;refine Za ?_ ?_ ?_;exact (Zk (by decide +kernel));refine Za ?_ ?_ ?_;exact (vr 1);exact Zc;exact rfl;exact rfl;exact Zn;exact Zn;refine Zh ?_;exact Xj
theorem Zeh (T0 : Txt0 K mg) (T1 : Txt1 P w K mg base k) (hr : Room k (A.deeper (envOfC "why_none" (Zd QH) s.heap.objs.size f cdv))) :
    Bd (cxOf CX0 P w K mg base ["some", "way", "word", "i", "j"] "why_none" (Zd QH) f cdv A outer s H E).nox (Zj QH) (tS K (Qi fns gv k) gv xr0 5 Ju) := by
 refine ⟨?_⟩;refine sg (i := 1) ?_ ?_ ?_;exact X6.nd;refine Zg ?_ ?_ ?_ ?_;exact T1.f_in_way;exact hr;exact rfl;refine Za ?_ ?_ ?_;exact (vr 0);exact Zc;exact rfl;refine ZC ?_ ?_ ?_ ?_;refine PW.pt ?_;refine ZgD ?_ ?_;refine Zz ?_ ?_ ?_ ?_;exact (vr 1);exact Xj;exact (by with_unfolding_all rfl);exact hr.units;refine Zji ?_;refine Zz ?_ ?_ ?_ ?_;refine Zi ?_ ?_ ?_;exact (vr 1);exact Ze;exact (fun _ _ => rfl);exact (Zk (by decide +kernel));exact (by with_unfolding_all rfl);exact hr.units;refine Zh ?_;exact (vr 1);exact Zn;refine ZeV ?_ ?_ ?_ ?_;exact (by decide);exact (vr 1);exact (Zix 2 3 4 rfl X6.nd);refine Zh ?_;refine ZV ?_;refine Za ?_ ?_ ?_;exact (vr 2);refine Za ?_ ?_ ?_;exact (vr 3);refine Za ?_ ?_ ?_;exact (vr 4);refine Za ?_ ?_ ?_;refine Zg ?_ ?_ ?_ ?_;exact T1.f_reason;exact hr;exact rfl;refine Za ?_ ?_ ?_;refine Zg ?_ ?_ ?_ ?_;exact T1.f_wish_at;exact hr;exact rfl;refine Za ?_ ?_ ?_;exact (vr 0);refine Za ?_ ?_ ?_;exact (vr 3);exact Zc;exact rfl;exact rfl;refine Za ?_ ?_ ?_;refine Zg ?_ ?_ ?_ ?_;exact T1.f_card_at;exact hr;exact rfl;refine Za ?_ ?_ ?_;exact (vr 0);refine Za ?_ ?_ ?_;exact (vr 4);exact Zc;exact rfl;exact rfl;exact Zc;exact rfl;exact rfl;exact Zc;exact rfl;exact rfl;exact rfl;exact rfl
theorem Zej (T0 : Txt0 K mg) (T1 : Txt1 P w K mg base k) (hr : Room k (A.deeper (envOfC "_law_cell_at" (Zd QK) s.heap.objs.size f cdv))) :
    Bd (cxOf CX0 P w K mg base ["_law_script", "_law_k"] "_law_cell_at" (Zd QK) f cdv A outer s H E).nox (Zj QK) (tS K (Qi fns gv k) gv xr0 2 Jw) := by
 refine ⟨?_⟩;refine ZC ?_ ?_ ?_ ?_;refine Zz ?_ ?_ ?_ ?_;exact (vr 1);refine QT ?_ ?_ ?_ ?_ ?_;exact rfl;exact T0.b_len;refine Za ?_ ?_ ?_;exact (vr 0);exact Zc;exact rfl;exact rfl;exact rfl;exact (by with_unfolding_all rfl);exact hr.units;refine Zh ?_;refine Zi ?_ ?_ ?_;exact (vr 0);exact (vr 1);exact (fun _ _ => rfl);exact Zn;refine Zh ?_;exact Ze
theorem Zin (T0 : Txt0 K mg) (T1 : Txt1 P w K mg base k) (hr : Room k (A.deeper (envOfC "_law_tape" (Zd J1) s.heap.objs.size f cdv))) :
    Bd (cxOf CX0 P w K mg base ["_law_cell"] "_law_tape" (Zd J1) f cdv A outer s H E).nox (Zj J1) (tS K (Qi fns gv k) gv xr0 1 Za3) := by
 refine ⟨?_⟩;refine Zh ?_;refine ZgT ?_;refine Za ?_ ?_ ?_;refine Zt ?_ ?_;exact (vr 0);refine Zbt ?_ ?_ ?_ ?_ ?_;exact rfl;exact T0.b_int;refine Za ?_ ?_ ?_;refine Qd ?_ ?_ ?_ ?_;exact (vr 0);refine Zt ?_ ?_;exact Ze;exact Ze;exact (by with_unfolding_all rfl);exact hr.units;exact Zc;exact rfl;exact rfl;exact rfl;refine Za ?_ ?_ ?_;refine Zt ?_ ?_;exact (vr 0);exact Ze;refine Za ?_ ?_ ?_;exact Ze;exact Zc;exact rfl;exact rfl;exact rfl
theorem Zir (T0 : Txt0 K mg) (T1 : Txt1 P w K mg base k) (hr : Room k (A.deeper (envOfC "_law_draw" (Zd J7) s.heap.objs.size f cdv))) :
    Bd (cxOf CX0 P w K mg base ["_law_tape_here", "_law_many", "_law_found", "_law_number_here"] "_law_draw" (Zd J7) f cdv A outer s H E).nox (Zj J7) (tS K (Qi fns gv k) gv xr0 4 Za6) := by
 refine ⟨?_⟩;refine ZC ?_ ?_ ?_ ?_;refine Zz ?_ ?_ ?_ ?_;refine Zi ?_ ?_ ?_;exact (vr 0);exact Ze;exact (fun _ _ => rfl);exact Ze;exact (by with_unfolding_all rfl);exact hr.units;refine sg (i := 2) ?_ ?_ ?_;exact Zbs.nd;refine Zt ?_ ?_;refine Zi ?_ ?_ ?_;exact (vr 0);exact Ze;exact (fun _ _ => rfl);exact (vr 1);refine ZeU ?_ ?_ ?_ ?_;refine Zt ?_ ?_;refine Zi ?_ ?_ ?_;exact (vr 0);exact Ze;exact (fun _ _ => rfl);exact (vr 1);exact (vr 0);exact Ze;refine Zh ?_;exact (vr 2);exact Zn;refine ZeU ?_ ?_ ?_ ?_;refine Zt ?_ ?_;refine Zi ?_ ?_ ?_;exact (vr 0);exact Ze;exact (fun _ _ => rfl);exact Ze;exact (vr 0);exact Ze;refine sg (i := 3) ?_ ?_ ?_;exact Zbs.nd;refine Zt ?_ ?_;refine Zt ?_ ?_;refine Zt ?_ ?_;refine Zt ?_ ?_;refine Zi ?_ ?_ ?_;exact (vr 0);exact Ze;exact (fun _ _ => rfl);refine Zt ?_ ?_;exact Ze;refine Zi ?_ ?_ ?_;exact (vr 0);exact Ze;exact (fun _ _ => rfl);exact Ze;exact Ze;exact Ze;refine sg (i := 3) ?_ ?_ ?_;exact Zbs.nd;refine Zt ?_ ?_;refine Zt ?_ ?_;exact (vr 3);refine Zt ?_ ?_;refine Zt ?_ ?_;exact (vr 3);exact Ze;exact Ze;exact Ze;refine Zh ?_;refine Zt ?_ ?_;refine Zt ?_ ?_;refine Zt ?_ ?_;exact (vr 3);refine Zt ?_ ?_;refine Zt ?_ ?_;exact (vr 3);exact Ze;exact Ze;exact Ze;exact (vr 1)
theorem Zio (T0 : Txt0 K mg) (T1 : Txt1 P w K mg base k) (hr : Room k (A.deeper (envOfC "_law_pick" (Zd J4) s.heap.objs.size f cdv))) :
    Bd (cxOf CX0 P w K mg base ["_law_tape_here", "_law_some"] "_law_pick" (Zd J4) f cdv A outer s H E).nox (Zj J4) (tS K (Qi fns gv k) gv xr0 2 Za4) := by
 refine ⟨?_⟩;refine Zh ?_;refine Zi ?_ ?_ ?_;exact (vr 1);refine Zg ?_ ?_ ?_ ?_;exact T1.f_Ldraw;exact hr;exact rfl;refine Za ?_ ?_ ?_;exact (vr 0);refine Za ?_ ?_ ?_;refine QT ?_ ?_ ?_ ?_ ?_;exact rfl;exact T0.b_len;refine Za ?_ ?_ ?_;exact (vr 1);exact Zc;exact rfl;exact rfl;exact rfl;exact Zc;exact rfl;exact rfl;exact (fun _ _ => rfl)
theorem Zip (T0 : Txt0 K mg) (T1 : Txt1 P w K mg base k) (hr : Room k (A.deeper (envOfC "_law_name" (Zd J5) s.heap.objs.size f cdv))) :
    Bd (cxOf CX0 P w K mg base ["_law_k", "_law_some"] "_law_name" (Zd J5) f cdv A outer s H E).nox (Zj J5) (tS K (Qi fns gv k) gv xr0 2 Za5) := by
 refine ⟨?_⟩;refine sg (i := 1) ?_ ?_ ?_;exact ZeS.nd;refine Qn ?_;refine Za ?_ ?_ ?_;exact (Zk (by decide +kernel));refine Za ?_ ?_ ?_;exact (Zk (by decide +kernel));refine Za ?_ ?_ ?_;exact (Zk (by decide +kernel));refine Za ?_ ?_ ?_;exact (Zk (by decide +kernel));refine Za ?_ ?_ ?_;exact (Zk (by decide +kernel));refine Za ?_ ?_ ?_;exact (Zk (by decide +kernel));refine Za ?_ ?_ ?_;exact (Zk (by decide +kernel));refine Za ?_ ?_ ?_;exact (Zk (by decide +kernel));refine Za ?_ ?_ ?_;exact (Zk (by decide +kernel));refine Za ?_ ?_ ?_;exact (Zk (by decide +kernel));refine Za ?_ ?_ ?_;exact (Zk (by decide +kernel));refine Za ?_ ?_ ?_;exact (Zk (by decide +kernel));exact Zc;exact rfl;exact rfl;exact rfl;exact rfl;exact rfl;exact rfl;exact rfl;exact rfl;exact rfl;exact rfl;exact rfl;exact rfl;refine Zh ?_;refine Zi ?_ ?_ ?_;exact (vr 1);refine Zt ?_ ?_;exact (vr 0);exact Ze;exact (fun _ _ => rfl)
theorem ZfB (T0 : Txt0 K mg) (T1 : Txt1 P w K mg base k) (hr : Room k (A.deeper (envOfC "_law_number" (Zd Q6) s.heap.objs.size f cdv))) :
    Bd (cxOf CX0 P w K mg base ["_law_tape_here"] "_law_number" (Zd Q6) f cdv A outer s H E).nox (Zj Q6) (tS K (Qi fns gv k) gv xr0 1 JT) := by
 refine ⟨?_⟩;refine Zh ?_;refine Zi ?_ ?_ ?_;refine Qn ?_;refine Za ?_ ?_ ?_;refine Zg ?_ ?_ ?_ ?_;exact T1.f_Ldraw;exact hr;exact rfl;refine Za ?_ ?_ ?_;exact (vr 0);refine Za ?_ ?_ ?_;exact Ze;exact Zc;exact rfl;exact rfl;refine Za ?_ ?_ ?_;refine Zg ?_ ?_ ?_ ?_;exact T1.f_Ldraw;exact hr;exact rfl;refine Za ?_ ?_ ?_;exact (vr 0);refine Za ?_ ?_ ?_;exact Ze;exact Zc;exact rfl;exact rfl;refine Za ?_ ?_ ?_;refine Zt ?_ ?_;refine Zt ?_ ?_;exact Ze;exact Ze;refine Zg ?_ ?_ ?_ ?_;exact T1.f_Ldraw;exact hr;exact rfl;refine Za ?_ ?_ ?_;exact (vr 0);refine Za ?_ ?_ ?_;exact Ze;exact Zc;exact rfl;exact rfl;exact Zc;exact rfl;exact rfl;exact rfl;refine Zg ?_ ?_ ?_ ?_;exact T1.f_Ldraw;exact hr;exact rfl;refine Za ?_ ?_ ?_;exact (vr 0);refine Za ?_ ?_ ?_;exact Ze;exact Zc;exact rfl;exact rfl;exact (fun _ _ => rfl)
theorem Zis (T0 : Txt0 K mg) (T1 : Txt1 P w K mg base k) (hr : Room k (A.deeper (envOfC "_law_card" (Zd J8) s.heap.objs.size f cdv))) :
    Bd (cxOf CX0 P w K mg base ["_law_tape_here", "_law_name_here", "_law_kind", "_law_marks", "_law_sizes"] "_law_card" (Zd J8) f cdv A outer s H E).nox (Zj J8) (tS K (Qi fns gv k) gv xr0 5 Za7) := by
 refine ⟨?_⟩;refine sg (i := 3) ?_ ?_ ?_;exact ZcS.nd;refine JP ?_ ?_ ?_ ?_ ?_;exact rfl;exact T0.b_tuple;refine Za ?_ ?_ ?_;refine QQ (N' := ["_law_mark", "_law_tape_here"]) ?_ ?_;exact rfl;refine Z5 ?_ ?_ ?_ ?_ ?_ ?_ ?_;exact (by kernel_rfl);exact (by kernel_rfl);refine J9 ?_;refine Qn ?_;refine Za ?_ ?_ ?_;exact (Zk (by decide +kernel));refine Za ?_ ?_ ?_;exact (Zk (by decide +kernel));refine Za ?_ ?_ ?_;exact (Zk (by decide +kernel));exact Zc;exact rfl;exact rfl;exact rfl;exact (fun _ => rfl);intro _ _ _ _ _;refine ⟨?_, ?_, ?_⟩;exact (Z3 0 (show List.Nodup (["_law_mark", "_law_tape_here"] : List Str) from by decide +kernel));refine ⟨?_, ?_⟩;refine Zz ?_ ?_ ?_ ?_;refine Zg ?_ ?_ ?_ ?_;exact T1.f_Ldraw;exact hr;exact rfl;refine Za ?_ ?_ ?_;exact (vr 1);refine Za ?_ ?_ ?_;exact Ze;exact Zc;exact rfl;exact rfl;exact Ze;exact (by with_unfolding_all rfl);exact hr.units;exact True.intro;refine ⟨?_, ?_⟩;exact rfl;exact (vr 0);exact (by decide);exact (by decide);exact Zc;exact rfl;exact rfl;exact rfl;refine sg (i := 4) ?_ ?_ ?_;exact ZcS.nd;refine JP ?_ ?_ ?_ ?_ ?_;exact rfl;exact T0.b_tuple;refine Za ?_ ?_ ?_;refine QQ (N' := ["_law_word", "_law_tape_here"]) ?_ ?_;exact rfl;refine Z5 ?_ ?_ ?_ ?_ ?_ ?_ ?_;exact (by kernel_rfl);exact (by kernel_rfl);refine J9 ?_;refine Qn ?_;refine Za ?_ ?_ ?_;exact (Zk (by decide +kernel));refine Za ?_ ?_ ?_;exact (Zk (by decide +kernel));exact Zc;exact rfl;exact rfl;exact (fun _ => rfl);intro _ _ _ _ _;refine ⟨?_, ?_, ?_⟩;exact (Z3 0 (show List.Nodup (["_law_word", "_law_tape_here"] : List Str) from by decide +kernel));refine ⟨?_, ?_⟩;refine Zz ?_ ?_ ?_ ?_;refine Zg ?_ ?_ ?_ ?_;exact T1.f_Ldraw;exact hr;exact rfl;refine Za ?_ ?_ ?_;exact (vr 1);refine Za ?_ ?_ ?_;exact Ze;exact Zc;exact rfl;exact rfl;exact Ze;exact (by with_unfolding_all rfl);exact hr.units;exact True.intro;refine ⟨?_, ?_⟩;exact rfl;refine ZV ?_;refine Za ?_ ?_ ?_;exact (vr 0);refine Za ?_ ?_ ?_;refine Zg ?_ ?_ ?_ ?_;exact T1.f_Lnumber;exact hr;exact rfl;refine Za ?_ ?_ ?_;exact (vr 1);exact Zc;exact rfl;exact Zc;exact rfl;exact rfl;exact (by decide);exact (by decide);exact Zc;exact rfl;exact rfl;exact rfl;refine Zh ?_;refine ZV ?_;refine Za ?_ ?_ ?_;exact (vr 1);refine Za ?_ ?_ ?_;exact (vr 2);refine Za ?_ ?_ ?_;exact (vr 3);refine Za ?_ ?_ ?_;exact (vr 4);exact Zc;exact rfl;exact rfl;exact rfl;exact rfl
theorem Zim (T0 : Txt0 K mg) (T1 : Txt1 P w K mg base k) (hr : Room k (A.deeper (envOfC "_law_wish" (Zd JZ) s.heap.objs.size f cdv))) :
    Bd (cxOf CX0 P w K mg base ["_law_tape_here", "_law_deep", "_law_way", "_law_many"] "_law_wish" (Zd JZ) f cdv A outer s H E).nox (Zj JZ) (tS K (Qi fns gv k) gv xr0 4 Xy) := by
 refine ⟨?_⟩;refine sg (i := 2) ?_ ?_ ?_;exact ZcQ.nd;refine Zg ?_ ?_ ?_ ?_;exact T1.f_Ldraw;exact hr;exact rfl;refine Za ?_ ?_ ?_;exact (vr 0);refine Za ?_ ?_ ?_;refine Zt ?_ ?_;exact Ze;refine Zt ?_ ?_;exact Ze;refine Zbt ?_ ?_ ?_ ?_ ?_;exact rfl;exact T0.b_int;refine Za ?_ ?_ ?_;refine Qd ?_ ?_ ?_ ?_;exact (vr 1);exact Ze;exact (by with_unfolding_all rfl);exact hr.units;exact Zc;exact rfl;exact rfl;exact rfl;exact Zc;exact rfl;exact rfl;refine ZC ?_ ?_ ?_ ?_;refine Zz ?_ ?_ ?_ ?_;exact (vr 2);exact Ze;exact (by with_unfolding_all rfl);exact hr.units;refine Zh ?_;refine ZV ?_;refine Za ?_ ?_ ?_;exact (Zk (by decide +kernel));exact Zc;exact rfl;exact Zn;refine ZC ?_ ?_ ?_ ?_;refine Zz ?_ ?_ ?_ ?_;exact (vr 2);exact Ze;exact (by with_unfolding_all rfl);exact hr.units;refine Zh ?_;refine ZV ?_;refine Za ?_ ?_ ?_;exact (Zk (by decide +kernel));refine Za ?_ ?_ ?_;refine Zg ?_ ?_ ?_ ?_;exact T1.f_Lpick;exact hr;exact rfl;refine Za ?_ ?_ ?_;exact (vr 0);refine Za ?_ ?_ ?_;refine Qn ?_;refine Za ?_ ?_ ?_;exact (Zk (by decide +kernel));refine Za ?_ ?_ ?_;exact (Zk (by decide +kernel));refine Za ?_ ?_ ?_;exact (Zk (by decide +kernel));refine Za ?_ ?_ ?_;exact (Zk (by decide +kernel));exact Zc;exact rfl;exact rfl;exact rfl;exact rfl;exact Zc;exact rfl;exact rfl;exact Zc;exact rfl;exact rfl;exact Zn;refine ZC ?_ ?_ ?_ ?_;refine Zz ?_ ?_ ?_ ?_;exact (vr 2);exact Ze;exact (by with_unfolding_all rfl);exact hr.units;refine Zh ?_;refine ZV ?_;refine Za ?_ ?_ ?_;exact (Zk (by decide +kernel));refine Za ?_ ?_ ?_;refine Zg ?_ ?_ ?_ ?_;exact T1.f_Lname;exact hr;exact rfl;refine Za ?_ ?_ ?_;refine Zg ?_ ?_ ?_ ?_;exact T1.f_Ldraw;exact hr;exact rfl;refine Za ?_ ?_ ?_;exact (vr 0);refine Za ?_ ?_ ?_;exact Ze;exact Zc;exact rfl;exact rfl;exact Zc;exact rfl;exact Zc;exact rfl;exact rfl;exact Zn;refine ZC ?_ ?_ ?_ ?_;refine Zz ?_ ?_ ?_ ?_;exact (vr 2);exact Ze;exact (by with_unfolding_all rfl);exact hr.units;refine Zh ?_;refine ZV ?_;refine Za ?_ ?_ ?_;refine Zi ?_ ?_ ?_;refine Qn ?_;refine Za ?_ ?_ ?_;exact (Zk (by decide +kernel));refine Za ?_ ?_ ?_;exact (Zk (by decide +kernel));exact Zc;exact rfl;exact rfl;refine Zt ?_ ?_;exact (vr 2);exact Ze;exact (fun _ _ => rfl);refine Za ?_ ?_ ?_;refine Zg ?_ ?_ ?_ ?_;exact T1.f_Lpick;exact hr;exact rfl;refine Za ?_ ?_ ?_;exact (vr 0);refine Za ?_ ?_ ?_;refine Qn ?_;refine Za ?_ ?_ ?_;exact (Zk (by decide +kernel));refine Za ?_ ?_ ?_;exact (Zk (by decide +kernel));refine Za ?_ ?_ ?_;exact (Zk (by decide +kernel));exact Zc;exact rfl;exact rfl;exact rfl;exact Zc;exact rfl;exact rfl;refine Za ?_ ?_ ?_;refine Zg ?_ ?_ ?_ ?_;exact T1.f_Lnumber;exact hr;exact rfl;refine Za ?_ ?_ ?_;exact (vr 0);exact Zc;exact rfl;exact Zc;exact rfl;exact rfl;exact rfl;exact Zn;refine ZC ?_ ?_ ?_ ?_;refine Zz ?_ ?_ ?_ ?_;exact (vr 2);exact Ze;exact (by with_unfolding_all rfl);exact hr.units;refine Zh ?_;refine ZV ?_;refine Za ?_ ?_ ?_;exact (Zk (by decide +kernel));refine Za ?_ ?_ ?_;refine Zg ?_ ?_ ?_ ?_;exact T1.f_Lwish;exact hr;exact rfl;refine Za ?_ ?_ ?_;exact (vr 0);refine Za ?_ ?_ ?_;refine Zt ?_ ?_;exact (vr 1);exact Ze;exact Zc;exact rfl;exact rfl;exact Zc;exact rfl;exact rfl;exact Zn;refine sg (i := 3) ?_ ?_ ?_;exact ZcQ.nd;refine Zt ?_ ?_;exact Ze;refine Zg ?_ ?_ ?_ ?_;exact T1.f_Ldraw;exact hr;exact rfl;refine Za ?_ ?_ ?_;exact (vr 0);refine Za ?_ ?_ ?_;exact Ze;exact Zc;exact rfl;exact rfl;refine Zh ?_;refine ZV ?_;refine Za ?_ ?_ ?_;refine Zi ?_ ?_ ?_;refine Qn ?_;refine Za ?_ ?_ ?_;exact (Zk (by decide +kernel));refine Za ?_ ?_ ?_;exact (Zk (by decide +kernel));exact Zc;exact rfl;exact rfl;refine Zt ?_ ?_;exact (vr 2);exact Ze;exact (fun _ _ => rfl);refine Za ?_ ?_ ?_;refine JP ?_ ?_ ?_ ?_ ?_;exact rfl;exact T0.b_tuple;refine Za ?_ ?_ ?_;refine QQ (N' := ["_law_k", "_law_tape_here", "_law_deep"]) ?_ ?_;exact rfl;refine Z5 ?_ ?_ ?_ ?_ ?_ ?_ ?_;exact (by kernel_rfl);exact (by kernel_rfl);refine Qq ?_ ?_ ?_;exact rfl;exact T0.b_range;refine Za ?_ ?_ ?_;exact (vr 3);exact Zc;exact rfl;exact (fun _ => rfl);intro _ _ _ _ _;refine ⟨?_, ?_, ?_⟩;exact (Z3 0 (show List.Nodup (["_law_k", "_law_tape_here", "_law_deep"] : List Str) from by decide +kernel));exact True.intro;refine ⟨?_, ?_⟩;exact rfl;refine Zg ?_ ?_ ?_ ?_;exact T1.f_Lwish;exact hr;exact rfl;refine Za ?_ ?_ ?_;exact (vr 1);refine Za ?_ ?_ ?_;refine Zt ?_ ?_;exact (vr 2);exact Ze;exact Zc;exact rfl;exact rfl;exact (by decide);exact (by decide);exact Zc;exact rfl;exact rfl;exact rfl;exact Zc;exact rfl;exact rfl
theorem ZgL (T0 : Txt0 K mg) (T1 : Txt1 P w K mg base k) (hr : Room k (A.deeper (envOfC "_law_offer" (Zd Jq) s.heap.objs.size f cdv))) :
    Bd (cxOf CX0 P w K mg base ["_law_tape_here", "_law_side", "_law_name_here", "_law_kind", "_law_till", "_law_many", "_law_least", "_law_wish_here", "_law_weight"] "_law_offer" (Zd Jq) f cdv A outer s H E).nox (Zj Jq) (tS K (Qi fns gv k) gv xr0 9 ZaI) := by
 refine ⟨?_⟩;refine sg (i := 5) ?_ ?_ ?_;exact Xi.nd;refine Zi ?_ ?_ ?_;refine Qn ?_;refine Za ?_ ?_ ?_;refine Zt ?_ ?_;exact Ze;refine Zg ?_ ?_ ?_ ?_;exact T1.f_Ldraw;exact hr;exact rfl;refine Za ?_ ?_ ?_;exact (vr 0);refine Za ?_ ?_ ?_;exact Ze;exact Zc;exact rfl;exact rfl;refine Za ?_ ?_ ?_;refine Zt ?_ ?_;exact Ze;refine Zg ?_ ?_ ?_ ?_;exact T1.f_Ldraw;exact hr;exact rfl;refine Za ?_ ?_ ?_;exact (vr 0);refine Za ?_ ?_ ?_;exact Ze;exact Zc;exact rfl;exact rfl;refine Za ?_ ?_ ?_;refine Zt ?_ ?_;exact Ze;refine Zg ?_ ?_ ?_ ?_;exact T1.f_Ldraw;exact hr;exact rfl;refine Za ?_ ?_ ?_;exact (vr 0);refine Za ?_ ?_ ?_;refine Zt ?_ ?_;exact Ze;exact Ze;exact Zc;exact rfl;exact rfl;exact Zc;exact rfl;exact rfl;exact rfl;refine Zg ?_ ?_ ?_ ?_;exact T1.f_Ldraw;exact hr;exact rfl;refine Za ?_ ?_ ?_;exact (vr 0);refine Za ?_ ?_ ?_;exact Ze;exact Zc;exact rfl;exact rfl;exact (fun _ _ => rfl);refine sg (i := 6) ?_ ?_ ?_;exact Xi.nd;refine Zi ?_ ?_ ?_;refine Qn ?_;refine Za ?_ ?_ ?_;exact Ze;refine Za ?_ ?_ ?_;refine Zt ?_ ?_;exact Ze;refine Zg ?_ ?_ ?_ ?_;exact T1.f_Ldraw;exact hr;exact rfl;refine Za ?_ ?_ ?_;exact (vr 0);refine Za ?_ ?_ ?_;exact (vr 5);exact Zc;exact rfl;exact rfl;refine Za ?_ ?_ ?_;exact (vr 5);exact Zc;exact rfl;exact rfl;exact rfl;refine Zg ?_ ?_ ?_ ?_;exact T1.f_Ldraw;exact hr;exact rfl;refine Za ?_ ?_ ?_;exact (vr 0);refine Za ?_ ?_ ?_;exact Ze;exact Zc;exact rfl;exact rfl;exact (fun _ _ => rfl);refine sg (i := 7) ?_ ?_ ?_;exact Xi.nd;refine Zi ?_ ?_ ?_;refine Qn ?_;refine Za ?_ ?_ ?_;refine ZV ?_;refine Za ?_ ?_ ?_;exact (Zk (by decide +kernel));exact Zc;exact rfl;refine Za ?_ ?_ ?_;refine Zg ?_ ?_ ?_ ?_;exact T1.f_Lwish;exact hr;exact rfl;refine Za ?_ ?_ ?_;exact (vr 0);refine Za ?_ ?_ ?_;exact Ze;exact Zc;exact rfl;exact rfl;exact Zc;exact rfl;exact rfl;refine Zg ?_ ?_ ?_ ?_;exact T1.f_Ldraw;exact hr;exact rfl;refine Za ?_ ?_ ?_;exact (vr 0);refine Za ?_ ?_ ?_;exact Ze;exact Zc;exact rfl;exact rfl;exact (fun _ _ => rfl);refine sg (i := 8) ?_ ?_ ?_;exact Xi.nd;refine Zi ?_ ?_ ?_;refine Qn ?_;refine Za ?_ ?_ ?_;refine Zg ?_ ?_ ?_ ?_;exact T1.f_Ldraw;exact hr;exact rfl;refine Za ?_ ?_ ?_;exact (vr 0);refine Za ?_ ?_ ?_;exact Ze;exact Zc;exact rfl;exact rfl;refine Za ?_ ?_ ?_;refine Zg ?_ ?_ ?_ ?_;exact T1.f_Ldraw;exact hr;exact rfl;refine Za ?_ ?_ ?_;exact (vr 0);refine Za ?_ ?_ ?_;exact Ze;exact Zc;exact rfl;exact rfl;exact Zc;exact rfl;exact rfl;refine Zg ?_ ?_ ?_ ?_;exact T1.f_Ldraw;exact hr;exact rfl;refine Za ?_ ?_ ?_;exact (vr 0);refine Za ?_ ?_ ?_;exact Ze;exact Zc;exact rfl;exact rfl;exact (fun _ _ => rfl);refine Zh ?_;refine ZV ?_;refine Za ?_ ?_ ?_;exact (vr 1);refine Za ?_ ?_ ?_;refine Zg ?_ ?_ ?_ ?_;exact T1.f_Lcard;exact hr;exact rfl;refine Za ?_ ?_ ?_;exact (vr 0);refine Za ?_ ?_ ?_;exact (vr 2);refine Za ?_ ?_ ?_;exact (vr 3);exact Zc;exact rfl;exact rfl;exact rfl;refine Za ?_ ?_ ?_;exact (vr 7);refine Za ?_ ?_ ?_;exact (vr 5);refine Za ?_ ?_ ?_;exact (vr 6);refine Za ?_ ?_ ?_;exact (vr 8);refine Za ?_ ?_ ?_;exact (vr 4);exact Zc;exact rfl;exact rfl;exact rfl;exact rfl;exact rfl;exact rfl;exact rfl
theorem Ziq (T0 : Txt0 K mg) (T1 : Txt1 P w K mg base k) (hr : Room k (A.deeper (envOfC "_law_lets" (Zd J6) s.heap.objs.size f cdv))) :
    Bd (cxOf CX0 P w K mg base ["_law_wish_here", "_law_card_here", "_law_word", "_law_numbers"] "_law_lets" (Zd J6) f cdv A outer s H E).nox (Zj J6) (tS K (Qi fns gv k) gv xr0 4 Jj) := by
 refine ⟨?_⟩;refine sg (i := 2) ?_ ?_ ?_;exact ZcR.nd;refine Zi ?_ ?_ ?_;exact (vr 0);exact Ze;exact (fun _ _ => rfl);refine ZC ?_ ?_ ?_ ?_;refine Zz ?_ ?_ ?_ ?_;exact (vr 2);exact (Zk (by decide +kernel));exact (by with_unfolding_all rfl);exact hr.units;refine Zh ?_;exact Zcl;exact Zn;refine ZC ?_ ?_ ?_ ?_;refine Zz ?_ ?_ ?_ ?_;exact (vr 2);exact (Zk (by decide +kernel));exact (by with_unfolding_all rfl);exact hr.units;refine Zh ?_;refine Qd ?_ ?_ ?_ ?_;refine Zi ?_ ?_ ?_;exact (vr 0);exact Ze;exact (fun _ _ => rfl);refine Zi ?_ ?_ ?_;exact (vr 1);exact Ze;exact (fun _ _ => rfl);exact (by with_unfolding_all rfl);exact hr.units;exact Zn;refine ZC ?_ ?_ ?_ ?_;refine Zz ?_ ?_ ?_ ?_;exact (vr 2);exact (Zk (by decide +kernel));exact (by with_unfolding_all rfl);exact hr.units;refine Zh ?_;refine Qd ?_ ?_ ?_ ?_;refine Zi ?_ ?_ ?_;exact (vr 1);exact Ze;exact (fun _ _ => rfl);refine Zi ?_ ?_ ?_;exact (vr 0);exact Ze;exact (fun _ _ => rfl);exact (by with_unfolding_all rfl);exact hr.units;exact Zn;refine ZC ?_ ?_ ?_ ?_;refine Zz ?_ ?_ ?_ ?_;exact (vr 2);exact (Zk (by decide +kernel));exact (by with_unfolding_all rfl);exact hr.units;refine Zh ?_;refine ZbH ?_;refine Zg ?_ ?_ ?_ ?_;exact T1.f_Llets;exact hr;exact rfl;refine Za ?_ ?_ ?_;refine Zi ?_ ?_ ?_;exact (vr 0);exact Ze;exact (fun _ _ => rfl);refine Za ?_ ?_ ?_;exact (vr 1);exact Zc;exact rfl;exact rfl;exact Zn;refine ZC ?_ ?_ ?_ ?_;refine Zz ?_ ?_ ?_ ?_;exact (vr 2);exact (Zk (by decide +kernel));exact (by with_unfolding_all rfl);exact hr.units;refine Zh ?_;refine Qd ?_ ?_ ?_ ?_;refine QQ (N' := ["_law_one", "_law_card_here"]) ?_ ?_;exact rfl;refine Z5 ?_ ?_ ?_ ?_ ?_ ?_ ?_;exact (by kernel_rfl);exact (by kernel_rfl);refine J9 ?_;refine Zi ?_ ?_ ?_;exact (vr 0);exact Ze;exact (fun _ _ => rfl);exact (fun _ => rfl);intro _ _ _ _ _;refine ⟨?_, ?_, ?_⟩;exact (Z3 0 (show List.Nodup (["_law_one", "_law_card_here"] : List Str) from by decide +kernel));refine ⟨?_, ?_⟩;refine ZcT ?_;refine Zbl ?_ ?_;refine Zg ?_ ?_ ?_ ?_;exact T1.f_Llets;exact hr;exact rfl;refine Za ?_ ?_ ?_;exact (vr 0);refine Za ?_ ?_ ?_;exact (vr 1);exact Zc;exact rfl;exact rfl;exact (fun _ => rfl);exact True.intro;refine ⟨?_, ?_⟩;exact rfl;exact (vr 0);exact (by decide);exact (by decide);refine Qn ?_;exact Zc;exact (by with_unfolding_all rfl);exact hr.units;exact Zn;refine ZC ?_ ?_ ?_ ?_;refine Zz ?_ ?_ ?_ ?_;exact (vr 2);exact (Zk (by decide +kernel));exact (by with_unfolding_all rfl);exact hr.units;refine Zh ?_;refine Qd ?_ ?_ ?_ ?_;refine QQ (N' := ["_law_one", "_law_card_here"]) ?_ ?_;exact rfl;refine Z5 ?_ ?_ ?_ ?_ ?_ ?_ ?_;exact (by kernel_rfl);exact (by kernel_rfl);refine J9 ?_;refine Zi ?_ ?_ ?_;exact (vr 0);exact Ze;exact (fun _ _ => rfl);exact (fun _ => rfl);intro _ _ _ _ _;refine ⟨?_, ?_, ?_⟩;exact (Z3 0 (show List.Nodup (["_law_one", "_law_card_here"] : List Str) from by decide +kernel));refine ⟨?_, ?_⟩;refine Zbl ?_ ?_;refine Zg ?_ ?_ ?_ ?_;exact T1.f_Llets;exact hr;exact rfl;refine Za ?_ ?_ ?_;exact (vr 0);refine Za ?_ ?_ ?_;exact (vr 1);exact Zc;exact rfl;exact rfl;exact (fun _ => rfl);exact True.intro;refine ⟨?_, ?_⟩;exact rfl;exact (vr 0);exact (by decide);exact (by decide);refine Qn ?_;exact Zc;exact (by with_unfolding_all rfl);exact hr.units;exact Zn;refine ZcU (N' := ["_law_size", "_law_number_here", "_law_wish_here"]) ?_ ?_ ?_ ?_ ?_ ?_ ?_;exact rfl;refine Z5 ?_ ?_ ?_ ?_ ?_ ?_ ?_;exact (by kernel_rfl);exact (by kernel_rfl);refine J9 ?_;refine Zi ?_ ?_ ?_;exact (vr 1);exact Ze;exact (fun _ _ => rfl);exact (fun _ => rfl);intro _ _ _ _ _;refine ⟨?_, ?_, ?_⟩;exact (Je 0 1 rfl (show List.Nodup (["_law_size", "_law_number_here", "_law_wish_here"] : List Str) from by decide +kernel));refine ⟨?_, ?_⟩;refine Zz ?_ ?_ ?_ ?_;exact (vr 0);refine Zi ?_ ?_ ?_;exact (vr 2);exact Ze;exact (fun _ _ => rfl);exact (by with_unfolding_all rfl);exact hr.units;exact True.intro;refine ⟨?_, ?_⟩;exact rfl;exact (vr 1);exact (by decide);exact (by decide);exact ZcR.nd;exact rfl;exact rfl;exact rfl;refine ZC ?_ ?_ ?_ ?_;refine Zz ?_ ?_ ?_ ?_;exact (vr 3);refine Qn ?_;exact Zc;exact (by with_unfolding_all rfl);exact hr.units;refine Zh ?_;exact Zcl;exact Zn;refine Zh ?_;refine Zi ?_ ?_ ?_;refine Qn ?_;refine Za ?_ ?_ ?_;refine Qd ?_ ?_ ?_ ?_;refine Zi ?_ ?_ ?_;exact (vr 3);exact Ze;exact (fun _ _ => rfl);refine Zi ?_ ?_ ?_;exact (vr 0);exact Ze;exact (fun _ _ => rfl);exact (by with_unfolding_all rfl);exact hr.units;refine Za ?_ ?_ ?_;refine Qd ?_ ?_ ?_ ?_;refine Zi ?_ ?_ ?_;exact (vr 3);exact Ze;exact (fun _ _ => rfl);refine Zi ?_ ?_ ?_;exact (vr 0);exact Ze;exact (fun _ _ => rfl);exact (by with_unfolding_all rfl);exact hr.units;exact Zc;exact rfl;exact rfl;refine Zbt ?_ ?_ ?_ ?_ ?_;exact rfl;exact T0.b_int;refine Za ?_ ?_ ?_;refine Qd ?_ ?_ ?_ ?_;exact (vr 2);exact (Zk (by decide +kernel));exact (by with_unfolding_all rfl);exact hr.units;exact Zc;exact rfl;exact rfl;exact rfl;exact (fun _ _ => rfl)
theorem ZjW (T0 : Txt0 K mg) (T1 : Txt1 P w K mg base k) (hr : Room k (A.deeper (envOfC "_law_set" (Zd Zan) s.heap.objs.size f cdv))) :
    Bd (cxOf CX0 P w K mg base ["_law_tape_here", "_law_found", "_law_turn", "_law_k", "_law_side", "_law_kind", "_law_name_here", "_law_offer_here", "_law_left"] "_law_set" (Zd Zan) f cdv A outer s H E).nox (Zj Zan) (tS K (Qi fns gv k) gv xr0 9 ZcJ) := by
 refine ⟨?_⟩;refine sg (i := 1) ?_ ?_ ?_;exact Xh.nd;refine ZgT ?_;exact Zc;refine sg (i := 2) ?_ ?_ ?_;exact Xh.nd;refine Zg ?_ ?_ ?_ ?_;exact T1.f_Ldraw;exact hr;exact rfl;refine Za ?_ ?_ ?_;exact (vr 0);refine Za ?_ ?_ ?_;exact Ze;exact Zc;exact rfl;exact rfl;refine Jd ?_ ?_ ?_ ?_ ?_ ?_ ?_;exact rfl;exact PassesOwn.never;refine Ziw ?_ ?_ ?_;exact rfl;exact T0.b_enumerate;refine Za ?_ ?_ ?_;refine PE.tree ?_;refine ZgR ?_ ?_ ?_;refine Qn ?_;refine Za ?_ ?_ ?_;exact (Zk (by decide +kernel));refine Za ?_ ?_ ?_;exact (Zk (by decide +kernel));refine Za ?_ ?_ ?_;exact (Zk (by decide +kernel));exact Zc;exact rfl;exact rfl;exact rfl;exact Zit;refine ZcW ?_ ?_;refine Zt ?_ ?_;exact Ze;refine Zg ?_ ?_ ?_ ?_;exact T1.f_Ldraw;exact hr;exact rfl;refine Za ?_ ?_ ?_;exact (vr 0);refine Za ?_ ?_ ?_;exact Ze;exact Zc;exact rfl;exact rfl;exact rfl;exact Zc;exact rfl;exact (Je 3 4 rfl Xh.nd);exact (by decide);refine sg (i := 5) ?_ ?_ ?_;exact Xh.nd;refine Zi ?_ ?_ ?_;refine Qn ?_;refine Za ?_ ?_ ?_;exact (Zk (by decide +kernel));refine Za ?_ ?_ ?_;exact (Zk (by decide +kernel));exact Zc;exact rfl;exact rfl;refine Zt ?_ ?_;refine Zg ?_ ?_ ?_ ?_;exact T1.f_Ldraw;exact hr;exact rfl;refine Za ?_ ?_ ?_;exact (vr 0);refine Za ?_ ?_ ?_;exact Ze;exact Zc;exact rfl;exact rfl;exact Ze;exact (fun _ _ => rfl);refine sg (i := 6) ?_ ?_ ?_;exact Xh.nd;refine Zg ?_ ?_ ?_ ?_;exact T1.f_Lname;exact hr;exact rfl;refine Za ?_ ?_ ?_;refine Zt ?_ ?_;exact (vr 2);refine Zt ?_ ?_;exact (vr 3);refine Zbt ?_ ?_ ?_ ?_ ?_;exact rfl;exact T0.b_int;refine Za ?_ ?_ ?_;refine Qd ?_ ?_ ?_ ?_;refine Zg ?_ ?_ ?_ ?_;exact T1.f_Ldraw;exact hr;exact rfl;refine Za ?_ ?_ ?_;exact (vr 0);refine Za ?_ ?_ ?_;exact Ze;exact Zc;exact rfl;exact rfl;exact Ze;exact (by with_unfolding_all rfl);exact hr.units;exact Zc;exact rfl;exact rfl;exact rfl;exact Zc;exact rfl;refine sg (i := 7) ?_ ?_ ?_;exact Xh.nd;refine Zg ?_ ?_ ?_ ?_;exact T1.f_Loffer;exact hr;exact rfl;refine Za ?_ ?_ ?_;exact (vr 0);refine Za ?_ ?_ ?_;exact (vr 4);refine Za ?_ ?_ ?_;exact (vr 6);refine Za ?_ ?_ ?_;exact (vr 5);refine Za ?_ ?_ ?_;refine Zg ?_ ?_ ?_ ?_;exact T1.f_Ldraw;exact hr;exact rfl;refine Za ?_ ?_ ?_;exact (vr 0);refine Za ?_ ?_ ?_;refine Zt ?_ ?_;exact Ze;exact Ze;exact Zc;exact rfl;exact rfl;exact Zc;exact rfl;exact rfl;exact rfl;exact rfl;exact rfl;refine sg (i := 8) ?_ ?_ ?_;exact Xh.nd;refine Zi ?_ ?_ ?_;refine Qn ?_;refine Za ?_ ?_ ?_;refine Zi ?_ ?_ ?_;exact (vr 7);exact Ze;exact (fun _ _ => rfl);refine Za ?_ ?_ ?_;refine Zt ?_ ?_;exact Ze;refine Zg ?_ ?_ ?_ ?_;exact T1.f_Ldraw;exact hr;exact rfl;refine Za ?_ ?_ ?_;exact (vr 0);refine Za ?_ ?_ ?_;refine Zi ?_ ?_ ?_;exact (vr 7);exact Ze;exact (fun _ _ => rfl);exact Zc;exact rfl;exact rfl;refine Za ?_ ?_ ?_;refine Zt ?_ ?_;exact Ze;refine Zg ?_ ?_ ?_ ?_;exact T1.f_Ldraw;exact hr;exact rfl;refine Za ?_ ?_ ?_;exact (vr 0);refine Za ?_ ?_ ?_;refine ZcX ?_ ?_ ?_ ?_ ?_;exact rfl;exact T0.b_min;refine Za ?_ ?_ ?_;exact Ze;refine Za ?_ ?_ ?_;refine Zi ?_ ?_ ?_;exact (vr 7);exact Ze;exact (fun _ _ => rfl);exact Zc;exact rfl;exact rfl;exact rfl;exact rfl;exact Zc;exact rfl;exact rfl;exact Zc;exact rfl;exact rfl;exact rfl;refine Zg ?_ ?_ ?_ ?_;exact T1.f_Ldraw;exact hr;exact rfl;refine Za ?_ ?_ ?_;exact (vr 0);refine Za ?_ ?_ ?_;exact Ze;exact Zc;exact rfl;exact rfl;exact (fun _ _ => rfl);refine ZgH ?_ ?_;refine ZfD ?_ ?_;exact (vr 1);refine Za ?_ ?_ ?_;refine ZV ?_;refine Za ?_ ?_ ?_;exact (vr 7);refine Za ?_ ?_ ?_;exact (vr 8);exact Zc;exact rfl;exact rfl;exact Zc;exact rfl;exact Zn;refine Zh ?_;exact (vr 1)
theorem ZfA (T0 : Txt0 K mg) (T1 : Txt1 P w K mg base k) (hr : Room k (A.deeper (envOfC "_law_reason" (Zd Q5) s.heap.objs.size f cdv))) :
    Bd (cxOf CX0 P w K mg base ["_law_wish_here", "_law_card_here", "_law_truth", "_law_at"] "_law_reason" (Zd Q5) f cdv A outer s H E).nox (Zj Q5) (tS K (Qi fns gv k) gv xr0 4 QR) := by
 refine ⟨?_⟩;refine sg (i := 2) ?_ ?_ ?_;exact ZaN.nd;refine Zg ?_ ?_ ?_ ?_;exact T1.f_Llets;exact hr;exact rfl;refine Za ?_ ?_ ?_;exact (vr 0);refine Za ?_ ?_ ?_;exact (vr 1);exact Zc;exact rfl;exact rfl;refine ZC ?_ ?_ ?_ ?_;refine Zz ?_ ?_ ?_ ?_;refine Zi ?_ ?_ ?_;exact (vr 0);exact Ze;exact (fun _ _ => rfl);exact (Zk (by decide +kernel));exact (by with_unfolding_all rfl);exact hr.units;refine Zh ?_;refine ZV ?_;refine Za ?_ ?_ ?_;exact (vr 2);refine Za ?_ ?_ ?_;refine Zg ?_ ?_ ?_ ?_;exact T1.f_Lreason;exact hr;exact rfl;refine Za ?_ ?_ ?_;refine Zi ?_ ?_ ?_;exact (vr 0);exact Ze;exact (fun _ _ => rfl);refine Za ?_ ?_ ?_;exact (vr 1);exact Zc;exact rfl;exact rfl;exact Zc;exact rfl;exact rfl;exact Zn;refine ZC ?_ ?_ ?_ ?_;refine Zz ?_ ?_ ?_ ?_;refine Zi ?_ ?_ ?_;exact (vr 0);exact Ze;exact (fun _ _ => rfl);refine ZV ?_;refine Za ?_ ?_ ?_;exact (Zk (by decide +kernel));refine Za ?_ ?_ ?_;exact (Zk (by decide +kernel));exact Zc;exact rfl;exact rfl;exact (by with_unfolding_all rfl);exact hr.units;refine Zh ?_;refine ZV ?_;refine Za ?_ ?_ ?_;exact (vr 2);refine Za ?_ ?_ ?_;exact Xj;exact Zc;exact rfl;exact rfl;exact Zn;refine ZC ?_ ?_ ?_ ?_;refine Zz ?_ ?_ ?_ ?_;exact (vr 2);refine Qd ?_ ?_ ?_ ?_;refine Zi ?_ ?_ ?_;exact (vr 0);exact Ze;exact (fun _ _ => rfl);exact (Zk (by decide +kernel));exact (by with_unfolding_all rfl);exact hr.units;exact (by with_unfolding_all rfl);exact hr.units;refine Zh ?_;refine ZV ?_;refine Za ?_ ?_ ?_;exact (vr 2);refine Za ?_ ?_ ?_;refine JP ?_ ?_ ?_ ?_ ?_;exact rfl;exact T0.b_tuple;refine Za ?_ ?_ ?_;refine QQ (N' := ["_law_one", "_law_card_here"]) ?_ ?_;exact rfl;refine Z5 ?_ ?_ ?_ ?_ ?_ ?_ ?_;exact (by kernel_rfl);exact (by kernel_rfl);refine J9 ?_;refine Zi ?_ ?_ ?_;exact (vr 0);exact Ze;exact (fun _ _ => rfl);exact (fun _ => rfl);intro _ _ _ _ _;refine ⟨?_, ?_, ?_⟩;exact (Z3 0 (show List.Nodup (["_law_one", "_law_card_here"] : List Str) from by decide +kernel));exact True.intro;refine ⟨?_, ?_⟩;exact rfl;refine Zg ?_ ?_ ?_ ?_;exact T1.f_Lreason;exact hr;exact rfl;refine Za ?_ ?_ ?_;exact (vr 0);refine Za ?_ ?_ ?_;exact (vr 1);exact Zc;exact rfl;exact rfl;exact (by decide);exact (by decide);exact Zc;exact rfl;exact rfl;exact rfl;exact Zc;exact rfl;exact rfl;exact Zn;refine sg (i := 3) ?_ ?_ ?_;exact ZaN.nd;refine Zi ?_ ?_ ?_;refine QQ (N' := ["_law_k", "_law_truth", "_law_card_here", "_law_wish_here"]) ?_ ?_;exact rfl;refine Z5 ?_ ?_ ?_ ?_ ?_ ?_ ?_;exact (by kernel_rfl);exact (by kernel_rfl);refine Qq ?_ ?_ ?_;exact rfl;exact T0.b_range;refine Za ?_ ?_ ?_;refine QT ?_ ?_ ?_ ?_ ?_;exact rfl;exact T0.b_len;refine Za ?_ ?_ ?_;refine Zi ?_ ?_ ?_;exact (vr 0);exact Ze;exact (fun _ _ => rfl);exact Zc;exact rfl;exact rfl;exact rfl;exact Zc;exact rfl;exact (fun _ => rfl);intro _ _ _ _ _;refine ⟨?_, ?_, ?_⟩;exact (Z3 0 (show List.Nodup (["_law_k", "_law_truth", "_law_card_here", "_law_wish_here"] : List Str) from by decide +kernel));refine ⟨?_, ?_⟩;refine Zz ?_ ?_ ?_ ?_;refine Zg ?_ ?_ ?_ ?_;exact T1.f_Llets;exact hr;exact rfl;refine Za ?_ ?_ ?_;refine Zi ?_ ?_ ?_;refine Zi ?_ ?_ ?_;exact (vr 3);exact Ze;exact (fun _ _ => rfl);exact (vr 0);exact (fun _ _ => rfl);refine Za ?_ ?_ ?_;exact (vr 2);exact Zc;exact rfl;exact rfl;exact (vr 1);exact (by with_unfolding_all rfl);exact hr.units;exact True.intro;refine ⟨?_, ?_⟩;exact rfl;exact (vr 0);exact (by decide);exact (by decide);exact Ze;exact (fun _ _ => rfl);refine Zh ?_;refine ZV ?_;refine Za ?_ ?_ ?_;exact (vr 2);refine Za ?_ ?_ ?_;refine ZV ?_;refine Za ?_ ?_ ?_;exact (vr 3);refine Za ?_ ?_ ?_;refine Zg ?_ ?_ ?_ ?_;exact T1.f_Lreason;exact hr;exact rfl;refine Za ?_ ?_ ?_;refine Zi ?_ ?_ ?_;refine Zi ?_ ?_ ?_;exact (vr 0);exact Ze;exact (fun _ _ => rfl);exact (vr 3);exact (fun _ _ => rfl);refine Za ?_ ?_ ?_;exact (vr 1);exact Zc;exact rfl;exact rfl;exact Zc;exact rfl;exact rfl;exact Zc;exact rfl;exact rfl
theorem ZjV (T0 : Txt0 K mg) (T1 : Txt1 P w K mg base k) (hr : Room k (A.deeper (envOfC "_law_why" (Zd Zam) s.heap.objs.size f cdv))) :
    Bd (cxOf CX0 P w K mg base ["_law_some", "_law_names", "_law_i", "_law_j", "_law_many", "_law_short"] "_law_why" (Zd Zam) f cdv A outer s H E).nox (Zj Zam) (tS K (Qi fns gv k) gv xr0 6 ZcI) := by
 refine ⟨?_⟩;refine ZC ?_ ?_ ?_ ?_;refine Zz ?_ ?_ ?_ ?_;refine Zck ?_ ?_ ?_ ?_ ?_ ?_;exact rfl;exact rfl;exact T0.b_len;exact rfl;exact T0.b_set;refine Za ?_ ?_ ?_;refine QQ (N' := ["_law_offer_here", "_law_left"]) ?_ ?_;exact rfl;refine Z5 ?_ ?_ ?_ ?_ ?_ ?_ ?_;exact (by kernel_rfl);exact (by kernel_rfl);refine J9 ?_;exact (vr 0);exact (fun _ => rfl);intro _ _ _ _ _;refine ⟨?_, ?_, ?_⟩;exact (Je 0 1 rfl (show List.Nodup (["_law_offer_here", "_law_left"] : List Str) from by decide +kernel));exact True.intro;refine ⟨?_, ?_⟩;exact rfl;refine Zi ?_ ?_ ?_;refine Zi ?_ ?_ ?_;exact (vr 0);exact Ze;exact (fun _ _ => rfl);exact Ze;exact (fun _ _ => rfl);exact (by decide);exact (by decide);exact Zc;exact rfl;exact Ze;exact (by with_unfolding_all rfl);exact hr.units;refine Zh ?_;refine ZV ?_;refine Za ?_ ?_ ?_;exact (Zk (by decide +kernel));exact Zc;exact rfl;exact Zn;refine ZcU (N' := ["_law_offer_here", "_law_left"]) ?_ ?_ ?_ ?_ ?_ ?_ ?_;exact rfl;refine Z5 ?_ ?_ ?_ ?_ ?_ ?_ ?_;exact (by kernel_rfl);exact (by kernel_rfl);refine J9 ?_;exact (vr 0);exact (fun _ => rfl);intro _ _ _ _ _;refine ⟨?_, ?_, ?_⟩;exact (Je 0 1 rfl (show List.Nodup (["_law_offer_here", "_law_left"] : List Str) from by decide +kernel));exact True.intro;refine ⟨?_, ?_⟩;exact rfl;refine Zi ?_ ?_ ?_;refine Zi ?_ ?_ ?_;exact (vr 0);exact Ze;exact (fun _ _ => rfl);exact Ze;exact (fun _ _ => rfl);exact (by decide);exact (by decide);exact ZaM.nd;exact rfl;exact rfl;exact rfl;refine ZC ?_ ?_ ?_ ?_;refine Zz ?_ ?_ ?_ ?_;refine Zck ?_ ?_ ?_ ?_ ?_ ?_;exact rfl;exact rfl;exact T0.b_len;exact rfl;exact T0.b_set;refine Za ?_ ?_ ?_;exact (vr 1);exact Zc;exact rfl;refine QT ?_ ?_ ?_ ?_ ?_;exact rfl;exact T0.b_len;refine Za ?_ ?_ ?_;exact (vr 1);exact Zc;exact rfl;exact rfl;exact rfl;exact (by with_unfolding_all rfl);exact hr.units;refine Zh ?_;refine ZV ?_;refine Za ?_ ?_ ?_;exact (Zk (by decide +kernel));exact Zc;exact rfl;exact Zn;refine Jd ?_ ?_ ?_ ?_ ?_ ?_ ?_;exact rfl;exact PassesOwn.never;refine Qq ?_ ?_ ?_;exact rfl;exact T0.b_range;refine Za ?_ ?_ ?_;refine QT ?_ ?_ ?_ ?_ ?_;exact rfl;exact T0.b_len;refine Za ?_ ?_ ?_;exact (vr 0);exact Zc;exact rfl;exact rfl;exact rfl;exact Zc;exact rfl;exact (Z3 2 ZaM.nd);exact (by decide);refine Jd ?_ ?_ ?_ ?_ ?_ ?_ ?_;exact rfl;exact PassesOwn.never;refine Qq ?_ ?_ ?_;exact rfl;exact T0.b_range;refine Za ?_ ?_ ?_;refine QT ?_ ?_ ?_ ?_ ?_;exact rfl;exact T0.b_len;refine Za ?_ ?_ ?_;exact (vr 0);exact Zc;exact rfl;exact rfl;exact rfl;exact Zc;exact rfl;exact (Z3 3 ZaM.nd);exact (by decide);refine ZC ?_ ?_ ?_ ?_;refine PW.pt ?_;refine ZgE ?_ ?_;refine Zz ?_ ?_ ?_ ?_;exact (vr 2);exact (vr 3);exact (by with_unfolding_all rfl);exact hr.units;refine ZgF ?_;refine ZcT ?_;refine Zbl ?_ ?_;refine Zg ?_ ?_ ?_ ?_;exact T1.f_Llets;exact hr;exact rfl;refine Za ?_ ?_ ?_;refine Zi ?_ ?_ ?_;refine Zi ?_ ?_ ?_;refine Zi ?_ ?_ ?_;exact (vr 0);exact (vr 2);exact (fun _ _ => rfl);exact Ze;exact (fun _ _ => rfl);exact Ze;exact (fun _ _ => rfl);refine Za ?_ ?_ ?_;refine Zi ?_ ?_ ?_;refine Zi ?_ ?_ ?_;refine Zi ?_ ?_ ?_;exact (vr 0);exact (vr 3);exact (fun _ _ => rfl);exact Ze;exact (fun _ _ => rfl);exact Ze;exact (fun _ _ => rfl);exact Zc;exact rfl;exact rfl;exact (fun _ => rfl);refine Zh ?_;refine ZV ?_;refine Za ?_ ?_ ?_;exact (Zk (by decide +kernel));refine Za ?_ ?_ ?_;exact (vr 2);refine Za ?_ ?_ ?_;exact (vr 3);refine Za ?_ ?_ ?_;refine Zg ?_ ?_ ?_ ?_;exact T1.f_Lreason;exact hr;exact rfl;refine Za ?_ ?_ ?_;refine Zi ?_ ?_ ?_;refine Zi ?_ ?_ ?_;refine Zi ?_ ?_ ?_;exact (vr 0);exact (vr 2);exact (fun _ _ => rfl);exact Ze;exact (fun _ _ => rfl);exact Ze;exact (fun _ _ => rfl);refine Za ?_ ?_ ?_;refine Zi ?_ ?_ ?_;refine Zi ?_ ?_ ?_;refine Zi ?_ ?_ ?_;exact (vr 0);exact (vr 3);exact (fun _ _ => rfl);exact Ze;exact (fun _ _ => rfl);exact Ze;exact (fun _ _ => rfl);exact Zc;exact rfl;exact rfl;exact Zc;exact rfl;exact rfl;exact rfl;exact rfl;exact Zn;exact Zn;exact Zn;refine sg (i := 4) ?_ ?_ ?_;exact ZaM.nd;refine ZdD ?_ ?_ ?_ ?_ ?_;exact rfl;exact T0.b_min;refine Za ?_ ?_ ?_;refine QQ (N' := ["_law_offer_here", "_law_left"]) ?_ ?_;exact rfl;refine Z5 ?_ ?_ ?_ ?_ ?_ ?_ ?_;exact (by kernel_rfl);exact (by kernel_rfl);refine J9 ?_;exact (vr 0);exact (fun _ => rfl);intro _ _ _ _ _;refine ⟨?_, ?_, ?_⟩;exact (Je 0 1 rfl (show List.Nodup (["_law_offer_here", "_law_left"] : List Str) from by decide +kernel));exact True.intro;refine ⟨?_, ?_⟩;exact rfl;exact (vr 1);exact (by decide);exact (by decide);exact Zc;exact rfl;exact rfl;exact rfl;refine ZcU (N' := ["_law_k", "_law_many", "_law_some"]) ?_ ?_ ?_ ?_ ?_ ?_ ?_;exact rfl;refine Z5 ?_ ?_ ?_ ?_ ?_ ?_ ?_;exact (by kernel_rfl);exact (by kernel_rfl);refine Qq ?_ ?_ ?_;exact rfl;exact T0.b_range;refine Za ?_ ?_ ?_;refine QT ?_ ?_ ?_ ?_ ?_;exact rfl;exact T0.b_len;refine Za ?_ ?_ ?_;exact (vr 0);exact Zc;exact rfl;exact rfl;exact rfl;exact Zc;exact rfl;exact (fun _ => rfl);intro _ _ _ _ _;refine ⟨?_, ?_, ?_⟩;exact (Z3 0 (show List.Nodup (["_law_k", "_law_many", "_law_some"] : List Str) from by decide +kernel));refine ⟨?_, ?_⟩;refine Zz ?_ ?_ ?_ ?_;exact (vr 1);refine ZcX ?_ ?_ ?_ ?_ ?_;exact rfl;exact T0.b_min;refine Za ?_ ?_ ?_;refine Zi ?_ ?_ ?_;refine Zi ?_ ?_ ?_;refine Zi ?_ ?_ ?_;exact (vr 2);exact (vr 0);exact (fun _ _ => rfl);exact Ze;exact (fun _ _ => rfl);exact Ze;exact (fun _ _ => rfl);refine Za ?_ ?_ ?_;refine Zi ?_ ?_ ?_;refine Zi ?_ ?_ ?_;exact (vr 2);exact (vr 0);exact (fun _ _ => rfl);exact Ze;exact (fun _ _ => rfl);exact Zc;exact rfl;exact rfl;exact rfl;exact rfl;exact (by with_unfolding_all rfl);exact hr.units;exact True.intro;refine ⟨?_, ?_⟩;exact rfl;exact (vr 0);exact (by decide);exact (by decide);exact ZaM.nd;exact rfl;exact rfl;exact rfl;refine Zh ?_;refine Zi ?_ ?_ ?_;refine Zt ?_ ?_;refine QQ (N' := ["_law_k"]) ?_ ?_;exact rfl;refine Z5 ?_ ?_ ?_ ?_ ?_ ?_ ?_;exact (by kernel_rfl);exact (by kernel_rfl);refine J9 ?_;exact (vr 5);exact (fun _ => rfl);intro _ _ _ _ _;refine ⟨?_, ?_, ?_⟩;exact (Z3 0 (show List.Nodup (["_law_k"] : List Str) from by decide +kernel));exact True.intro;refine ⟨?_, ?_⟩;exact rfl;refine ZV ?_;refine Za ?_ ?_ ?_;exact (Zk (by decide +kernel));refine Za ?_ ?_ ?_;exact (vr 0);exact Zc;exact rfl;exact rfl;exact (by decide);exact (by decide);refine Qn ?_;refine Za ?_ ?_ ?_;exact Xj;exact Zc;exact rfl;exact Ze;exact (fun _ _ => rfl)
theorem ZgK (T0 : Txt0 K mg) (T1 : Txt1 P w K mg base k) (hr : Room k (A.deeper (envOfC "_law_plain" (Zd Jp) s.heap.objs.size f cdv))) :
    Bd (cxOf CX0 P w K mg base ["_law_thing"] "_law_plain" (Zd Jp) f cdv A outer s H E).nox (Zj Jp) (tS K (Qi fns gv k) gv xr0 1 Xd) := by
 refine ⟨?_⟩;refine ZC ?_ ?_ ?_ ?_;refine Zbl ?_ ?_;refine ZbJ ?_ ?_ ?_ ?_ ?_ ?_;exact (vr 0);exact rfl;exact T0.b_isinstance;exact rfl;exact T0.b_tuple;exact (by decide +kernel);exact (fun _ => rfl);refine Zh ?_;refine ZcY ?_ ?_ ?_ ?_ ?_;exact rfl;exact T0.b_all;refine Za ?_ ?_ ?_;refine QQ (N' := ["_law_one"]) ?_ ?_;exact rfl;refine Z5 ?_ ?_ ?_ ?_ ?_ ?_ ?_;exact (by kernel_rfl);exact (by kernel_rfl);refine J9 ?_;exact (vr 0);exact (fun _ => rfl);intro _ _ _ _ _;refine ⟨?_, ?_, ?_⟩;exact (Z3 0 (show List.Nodup (["_law_one"] : List Str) from by decide +kernel));exact True.intro;refine ⟨?_, ?_⟩;exact rfl;refine Zg ?_ ?_ ?_ ?_;exact T1.f_Lplain;exact hr;exact rfl;refine Za ?_ ?_ ?_;exact (vr 0);exact Zc;exact rfl;exact (by decide);exact (by decide);exact Zc;exact rfl;exact rfl;exact rfl;exact Zn;refine Zh ?_;refine pe_orW ?_ ?_;refine Qd ?_ ?_ ?_ ?_;exact (vr 0);exact Xj;exact (by with_unfolding_all rfl);exact hr.units;refine ZeW ?_;refine Ziz ?_ ?_ ?_ ?_ ?_ ?_ ?_ ?_ ?_;exact (vr 0);exact rfl;exact T0.b_isinstance;exact rfl;exact T0.b_bool;exact rfl;exact T0.b_int;exact rfl;exact T0.b_str
theorem ZgM (T0 : Txt0 K mg) (T1 : Txt1 P w K mg base k) (hr : Room k (A.deeper (envOfC "_law_alike" (Zd Jr) s.heap.objs.size f cdv))) :
    Bd (cxOf CX0 P w K mg base ["_law_one", "_law_other"] "_law_alike" (Zd Jr) f cdv A outer s H E).nox (Zj Jr) (tS K (Qi fns gv k) gv xr0 2 Xe) := by
 refine ⟨?_⟩;refine ZC ?_ ?_ ?_ ?_;refine PW.pt ?_;refine ZgE ?_ ?_;refine Zbl ?_ ?_;refine ZbJ ?_ ?_ ?_ ?_ ?_ ?_;exact (vr 0);exact rfl;exact T0.b_isinstance;exact rfl;exact T0.b_tuple;exact (by decide +kernel);exact (fun _ => rfl);refine ZgF ?_;refine Zbl ?_ ?_;refine ZbJ ?_ ?_ ?_ ?_ ?_ ?_;exact (vr 1);exact rfl;exact T0.b_isinstance;exact rfl;exact T0.b_tuple;exact (by decide +kernel);exact (fun _ => rfl);refine Zh ?_;refine Zel ?_ ?_;refine Qd ?_ ?_ ?_ ?_;refine QT ?_ ?_ ?_ ?_ ?_;exact rfl;exact T0.b_len;refine Za ?_ ?_ ?_;exact (vr 0);exact Zc;exact rfl;exact rfl;exact rfl;refine QT ?_ ?_ ?_ ?_ ?_;exact rfl;exact T0.b_len;refine Za ?_ ?_ ?_;exact (vr 1);exact Zc;exact rfl;exact rfl;exact rfl;exact (by with_unfolding_all rfl);exact hr.units;refine ZeW ?_;refine ZcY ?_ ?_ ?_ ?_ ?_;exact rfl;exact T0.b_all;refine Za ?_ ?_ ?_;refine QQ (N' := ["_law_k", "_law_one", "_law_other"]) ?_ ?_;exact rfl;refine Z5 ?_ ?_ ?_ ?_ ?_ ?_ ?_;exact (by kernel_rfl);exact (by kernel_rfl);refine Qq ?_ ?_ ?_;exact rfl;exact T0.b_range;refine Za ?_ ?_ ?_;refine QT ?_ ?_ ?_ ?_ ?_;exact rfl;exact T0.b_len;refine Za ?_ ?_ ?_;exact (vr 0);exact Zc;exact rfl;exact rfl;exact rfl;exact Zc;exact rfl;exact (fun _ => rfl);intro _ _ _ _ _;refine ⟨?_, ?_, ?_⟩;exact (Z3 0 (show List.Nodup (["_law_k", "_law_one", "_law_other"] : List Str) from by decide +kernel));exact True.intro;refine ⟨?_, ?_⟩;exact rfl;refine Zg ?_ ?_ ?_ ?_;exact T1.f_Lalike;exact hr;exact rfl;refine Za ?_ ?_ ?_;refine Zi ?_ ?_ ?_;exact (vr 1);exact (vr 0);exact (fun _ _ => rfl);refine Za ?_ ?_ ?_;refine Zi ?_ ?_ ?_;exact (vr 2);exact (vr 0);exact (fun _ _ => rfl);exact Zc;exact rfl;exact rfl;exact (by decide);exact (by decide);exact Zc;exact rfl;exact rfl;exact rfl;exact Zn;refine Zh ?_;refine Zel ?_ ?_;refine Qd ?_ ?_ ?_ ?_;refine ZbJ ?_ ?_ ?_ ?_ ?_ ?_;exact (vr 0);exact rfl;exact T0.b_isinstance;exact rfl;exact T0.b_bool;exact (by decide +kernel);refine ZbJ ?_ ?_ ?_ ?_ ?_ ?_;exact (vr 1);exact rfl;exact T0.b_isinstance;exact rfl;exact T0.b_bool;exact (by decide +kernel);exact (by with_unfolding_all rfl);exact hr.units;refine ZeW ?_;refine Qd ?_ ?_ ?_ ?_;exact (vr 0);exact (vr 1);exact (by with_unfolding_all rfl);exact hr.units
theorem Zjk (T0 : Txt0 K mg) (T1 : Txt1 P w K mg base k) (hr : Room k (A.deeper (envOfC "law" (Zd Zbk) s.heap.objs.size f cdv))) :
    Bd (cxOf CX0 P w K mg base ["_law_script", "_law_cell", "_law_some", "_law_handed", "_law_due", "_law_turn", "_law_found"] "law" (Zd Zbk) f cdv A outer s H E).nox (Zj Zbk) (tS K (Qi fns gv k) gv xr0 7 ZeI) := by
 refine ⟨?_⟩;refine Jd ?_ ?_ ?_ ?_ ?_ ?_ ?_;exact rfl;exact PassesOwn.never;refine J9 ?_;refine Zt ?_ ?_;refine Qn ?_;refine Za ?_ ?_ ?_;refine Zg ?_ ?_ ?_ ?_;exact T1.f_Lcell_at;exact hr;exact rfl;refine Za ?_ ?_ ?_;exact (vr 0);refine Za ?_ ?_ ?_;exact Ze;exact Zc;exact rfl;exact rfl;exact Zc;exact rfl;refine ZgR ?_ ?_ ?_;exact (vr 0);refine ZcW ?_ ?_;exact Ze;exact rfl;refine ZcW ?_ ?_;exact Ze;exact rfl;exact (Z3 1 Zbb.nd);exact (by decide);refine sg (i := 2) ?_ ?_ ?_;exact Zbb.nd;refine Zg ?_ ?_ ?_ ?_;exact T1.f_Lset;exact hr;exact rfl;refine Za ?_ ?_ ?_;refine Zg ?_ ?_ ?_ ?_;exact T1.f_Ltape;exact hr;exact rfl;refine Za ?_ ?_ ?_;exact (vr 1);exact Zc;exact rfl;exact Zc;exact rfl;refine sg (i := 3) ?_ ?_ ?_;exact Zbb.nd;refine ZgS ?_ ?_ ?_ ?_ ?_;exact rfl;exact T0.b_list;refine Za ?_ ?_ ?_;exact (vr 2);exact Zc;exact rfl;exact rfl;exact rfl;refine sg (i := 4) ?_ ?_ ?_;exact Zbb.nd;refine Zg ?_ ?_ ?_ ?_;exact T1.f_Lwhy;exact hr;exact rfl;refine Za ?_ ?_ ?_;exact (vr 2);exact Zc;exact rfl;refine Jd ?_ ?_ ?_ ?_ ?_ ?_ ?_;exact rfl;exact PassesOwn.never;refine Qq ?_ ?_ ?_;exact rfl;exact T0.b_range;refine Za ?_ ?_ ?_;exact Ze;exact Zc;exact rfl;exact (Z3 5 Zbb.nd);exact (by decide);refine sg (i := 6) ?_ ?_ ?_;exact Zbb.nd;refine Zg ?_ ?_ ?_ ?_;exact T1.f_why_none;exact hr;exact rfl;refine Za ?_ ?_ ?_;exact (vr 3);exact Zc;exact rfl;refine ZC ?_ ?_ ?_ ?_;refine PW.pt ?_;refine ZgD ?_ ?_;refine ZcT ?_;refine Zbl ?_ ?_;refine Zg ?_ ?_ ?_ ?_;exact T1.f_Lplain;exact hr;exact rfl;refine Za ?_ ?_ ?_;exact (vr 6);exact Zc;exact rfl;exact (fun _ => rfl);refine ZgD ?_ ?_;refine ZcT ?_;refine Zbl ?_ ?_;refine Zg ?_ ?_ ?_ ?_;exact T1.f_Lalike;exact hr;exact rfl;refine Za ?_ ?_ ?_;exact (vr 6);refine Za ?_ ?_ ?_;exact (vr 4);exact Zc;exact rfl;exact rfl;exact (fun _ => rfl);refine Zji ?_;refine Zz ?_ ?_ ?_ ?_;exact (vr 3);exact (vr 2);exact (by with_unfolding_all rfl);exact hr.units;refine Zh ?_;exact Zcl;exact Zn;exact Zn;exact Zn;refine Zh ?_;exact Zcl
end
structure TxtF (K : PySem.W.Frag) (mg : Str → Option Value) : Prop where
  f_has_mark : ∃ f fd, Fun K "has_mark" "has_mark" QJ f fd ∧ mg "has_mark" = some (.ref f) ∧ Binds K fd ["card", "word"] []
  f_size_of : ∃ f fd, Fun K "size_of" "size_of" QZ f fd ∧ mg "size_of" = some (.ref f) ∧ Binds K fd ["card", "word"] []
  f_lets : ∃ f fd, Fun K "lets" "lets" Zal f fd ∧ mg "lets" = some (.ref f) ∧ Binds K fd ["wish", "card"] []
  f_lets_size : ∃ f fd, Fun K "lets_size" "lets_size" Qx f fd ∧ mg "lets_size" = some (.ref f) ∧ Binds K fd ["wish", "card"] []
  f_reason : ∃ f fd, Fun K "reason" "reason" Jm f fd ∧ mg "reason" = some (.ref f) ∧ Binds K fd ["wish", "card"] []
  f_joined_reason : ∃ f fd, Fun K "joined_reason" "joined_reason" ZZ f fd ∧ mg "joined_reason" = some (.ref f) ∧ Binds K fd ["word", "reasons"] []
  f_name_of : ∃ f fd, Fun K "name_of" "name_of" Q0 f fd ∧ mg "name_of" = some (.ref f) ∧ Binds K fd ["offer"] []
  f_kind_of : ∃ f fd, Fun K "kind_of" "kind_of" Q3 f fd ∧ mg "kind_of" = some (.ref f) ∧ Binds K fd ["offer"] []
  f_wish_at : ∃ f fd, Fun K "wish_at" "wish_at" QX f fd ∧ mg "wish_at" = some (.ref f) ∧ Binds K fd ["some", "place"] []
  f_card_at : ∃ f fd, Fun K "card_at" "card_at" Q4 f fd ∧ mg "card_at" = some (.ref f) ∧ Binds K fd ["some", "place"] []
  f_least_left : ∃ f fd, Fun K "least_left" "least_left" Ql f fd ∧ mg "least_left" = some (.ref f) ∧ Binds K fd ["some"] []
  f_are_kinds_unlike : ∃ f fd, Fun K "are_kinds_unlike" "are_kinds_unlike" ZJ f fd ∧ mg "are_kinds_unlike" = some (.ref f) ∧ Binds K fd ["some"] []
  f_are_names_alike : ∃ f fd, Fun K "are_names_alike" "are_names_alike" ZQ f fd ∧ mg "are_names_alike" = some (.ref f) ∧ Binds K fd ["some"] []
  f_is_wish_in_way : ∃ f fd, Fun K "is_wish_in_way" "is_wish_in_way" ZW f fd ∧ mg "is_wish_in_way" = some (.ref f) ∧ Binds K fd ["some", "i", "j"] []
  f_is_least_in_way : ∃ f fd, Fun K "is_least_in_way" "is_least_in_way" ZP f fd ∧ mg "is_least_in_way" = some (.ref f) ∧ Binds K fd ["some", "i"] []
  f_in_way : ∃ f fd, Fun K "in_way" "in_way" Jo f fd ∧ mg "in_way" = some (.ref f) ∧ Binds K fd ["some"] []
  f_why_none : ∃ f fd, Fun K "why_none" "why_none" QH f fd ∧ mg "why_none" = some (.ref f) ∧ Binds K fd ["some"] []
  f_Lcell_at : ∃ f fd, Fun K "_law_cell_at" "_law_cell_at" QK f fd ∧ mg "_law_cell_at" = some (.ref f) ∧ Binds K fd ["_law_script", "_law_k"] []
  f_Ltape : ∃ f fd, Fun K "_law_tape" "_law_tape" J1 f fd ∧ mg "_law_tape" = some (.ref f) ∧ Binds K fd ["_law_cell"] []
  f_Ldraw : ∃ f fd, Fun K "_law_draw" "_law_draw" J7 f fd ∧ mg "_law_draw" = some (.ref f) ∧ Binds K fd ["_law_tape_here", "_law_many"] []
  f_Lpick : ∃ f fd, Fun K "_law_pick" "_law_pick" J4 f fd ∧ mg "_law_pick" = some (.ref f) ∧ Binds K fd ["_law_tape_here", "_law_some"] []
  f_Lname : ∃ f fd, Fun K "_law_name" "_law_name" J5 f fd ∧ mg "_law_name" = some (.ref f) ∧ Binds K fd ["_law_k"] []
  f_Lnumber : ∃ f fd, Fun K "_law_number" "_law_number" Q6 f fd ∧ mg "_law_number" = some (.ref f) ∧ Binds K fd ["_law_tape_here"] []
  f_Lcard : ∃ f fd, Fun K "_law_card" "_law_card" J8 f fd ∧ mg "_law_card" = some (.ref f) ∧ Binds K fd ["_law_tape_here", "_law_name_here", "_law_kind"] []
  f_Lwish : ∃ f fd, Fun K "_law_wish" "_law_wish" JZ f fd ∧ mg "_law_wish" = some (.ref f) ∧ Binds K fd ["_law_tape_here", "_law_deep"] []
  f_Loffer : ∃ f fd, Fun K "_law_offer" "_law_offer" Jq f fd ∧ mg "_law_offer" = some (.ref f) ∧ Binds K fd ["_law_tape_here", "_law_side", "_law_name_here", "_law_kind", "_law_till"] []
  f_Llets : ∃ f fd, Fun K "_law_lets" "_law_lets" J6 f fd ∧ mg "_law_lets" = some (.ref f) ∧ Binds K fd ["_law_wish_here", "_law_card_here"] []
  f_Lset : ∃ f fd, Fun K "_law_set" "_law_set" Zan f fd ∧ mg "_law_set" = some (.ref f) ∧ Binds K fd ["_law_tape_here"] []
  f_Lreason : ∃ f fd, Fun K "_law_reason" "_law_reason" Q5 f fd ∧ mg "_law_reason" = some (.ref f) ∧ Binds K fd ["_law_wish_here", "_law_card_here"] []
  f_Lwhy : ∃ f fd, Fun K "_law_why" "_law_why" Zam f fd ∧ mg "_law_why" = some (.ref f) ∧ Binds K fd ["_law_some"] []
  f_Lplain : ∃ f fd, Fun K "_law_plain" "_law_plain" Jp f fd ∧ mg "_law_plain" = some (.ref f) ∧ Binds K fd ["_law_thing"] []
  f_Lalike : ∃ f fd, Fun K "_law_alike" "_law_alike" Jr f fd ∧ mg "_law_alike" = some (.ref f) ∧ Binds K fd ["_law_one", "_law_other"] []
  f_law : ∃ f fd, Fun K "law" "law" Zbk f fd ∧ mg "law" = some (.ref f) ∧ Binds K fd ["_law_script"] []
theorem Zep {P : Program} {w : World} {K : PySem.W.Frag} {mg : Str → Option Value} {base : Heap} {k : Nat} (T0 : Txt0 K mg) (TF : TxtF K mg) (ih : Txt1 P w K mg base k) : FOk P w K mg base fns gv (k + 1) "has_mark" 0 := by
 obtain ⟨f, fd, F, m, b⟩ := TF.f_has_mark;refine ⟨f, fd, _, m, F.kp, b, ?_⟩;refine Z9 (fi := 0) (np := 2) (n := 2) (body := Jv) (cell := false) F Zed ?_ ?_ ?_ ?_;exact rfl;exact rfl;exact rfl;intro _ _ _ _ _ _ hr;refine Zei ?_ ?_ ?_;exact T0;exact ih;exact hr
theorem ZfL {P : Program} {w : World} {K : PySem.W.Frag} {mg : Str → Option Value} {base : Heap} {k : Nat} (T0 : Txt0 K mg) (TF : TxtF K mg) (ih : Txt1 P w K mg base k) : FOk P w K mg base fns gv (k + 1) "size_of" 1 := by
 obtain ⟨f, fd, F, m, b⟩ := TF.f_size_of;refine ⟨f, fd, _, m, F.kp, b, ?_⟩;refine Z9 (fi := 1) (np := 2) (n := 4) (body := JS) (cell := false) F Zci ?_ ?_ ?_ ?_;exact rfl;exact rfl;exact rfl;intro _ _ _ _ _ _ hr;refine Zfw ?_ ?_ ?_;exact T0;exact ih;exact hr
theorem Zkc {P : Program} {w : World} {K : PySem.W.Frag} {mg : Str → Option Value} {base : Heap} {k : Nat} (T0 : Txt0 K mg) (TF : TxtF K mg) (ih : Txt1 P w K mg base k) : FOk P w K mg base fns gv (k + 1) "lets" 2 := by
 obtain ⟨f, fd, F, m, b⟩ := TF.f_lets;refine ⟨f, fd, _, m, F.kp, b, ?_⟩;refine Z9 (fi := 2) (np := 2) (n := 3) (body := X5) (cell := false) F Zgz ?_ ?_ ?_ ?_;exact rfl;exact rfl;exact rfl;intro _ _ _ _ _ _ hr;refine ZjT ?_ ?_ ?_;exact T0;exact ih;exact hr
theorem ZdI {P : Program} {w : World} {K : PySem.W.Frag} {mg : Str → Option Value} {base : Heap} {k : Nat} (T0 : Txt0 K mg) (TF : TxtF K mg) (ih : Txt1 P w K mg base k) : FOk P w K mg base fns gv (k + 1) "lets_size" 3 := by
 obtain ⟨f, fd, F, m, b⟩ := TF.f_lets_size;refine ⟨f, fd, _, m, F.kp, b, ?_⟩;refine Z9 (fi := 3) (np := 2) (n := 3) (body := Jb) (cell := false) F Zba ?_ ?_ ?_ ?_;exact rfl;exact rfl;exact rfl;intro _ _ _ _ _ _ hr;refine ZdB ?_ ?_ ?_;exact T0;exact ih;exact hr
theorem Zg6 {P : Program} {w : World} {K : PySem.W.Frag} {mg : Str → Option Value} {base : Heap} {k : Nat} (T0 : Txt0 K mg) (TF : TxtF K mg) (ih : Txt1 P w K mg base k) : FOk P w K mg base fns gv (k + 1) "reason" 4 := by
 obtain ⟨f, fd, F, m, b⟩ := TF.f_reason;refine ⟨f, fd, _, m, F.kp, b, ?_⟩;refine Z9 (fi := 4) (np := 2) (n := 4) (body := Jf) (cell := false) F ZbF ?_ ?_ ?_ ?_;exact rfl;exact rfl;exact rfl;intro _ _ _ _ _ _ hr;refine ZgI ?_ ?_ ?_;exact T0;exact ih;exact hr
theorem Zbn {P : Program} {w : World} {K : PySem.W.Frag} {mg : Str → Option Value} {base : Heap} {k : Nat} (T0 : Txt0 K mg) (TF : TxtF K mg) (ih : Txt1 P w K mg base k) : FOk P w K mg base fns gv (k + 1) "joined_reason" 5 := by
 obtain ⟨f, fd, F, m, b⟩ := TF.f_joined_reason;refine ⟨f, fd, _, m, F.kp, b, ?_⟩;refine Z9 (fi := 5) (np := 2) (n := 4) (body := Qt) (cell := false) F Ji ?_ ?_ ?_ ?_;exact rfl;exact rfl;exact rfl;intro _ _ _ _ _ _ hr;refine Zbm ?_ ?_ ?_;exact T0;exact ih;exact hr
theorem ZfM {P : Program} {w : World} {K : PySem.W.Frag} {mg : Str → Option Value} {base : Heap} {k : Nat} (T0 : Txt0 K mg) (TF : TxtF K mg) (ih : Txt1 P w K mg base k) : FOk P w K mg base fns gv (k + 1) "name_of" 6 := by
 obtain ⟨f, fd, F, m, b⟩ := TF.f_name_of;refine ⟨f, fd, _, m, F.kp, b, ?_⟩;refine Z9 (fi := 6) (np := 1) (n := 1) (body := Xv) (cell := false) F Zfq ?_ ?_ ?_ ?_;exact rfl;exact rfl;exact rfl;intro _ _ _ _ _ _ hr;refine Zfx ?_ ?_ ?_;exact T0;exact ih;exact hr
theorem ZfN {P : Program} {w : World} {K : PySem.W.Frag} {mg : Str → Option Value} {base : Heap} {k : Nat} (T0 : Txt0 K mg) (TF : TxtF K mg) (ih : Txt1 P w K mg base k) : FOk P w K mg base fns gv (k + 1) "kind_of" 7 := by
 obtain ⟨f, fd, F, m, b⟩ := TF.f_kind_of;refine ⟨f, fd, _, m, F.kp, b, ?_⟩;refine Z9 (fi := 7) (np := 1) (n := 1) (body := Xw) (cell := false) F Zfr ?_ ?_ ?_ ?_;exact rfl;exact rfl;exact rfl;intro _ _ _ _ _ _ hr;refine Zfy ?_ ?_ ?_;exact T0;exact ih;exact hr
theorem ZfK {P : Program} {w : World} {K : PySem.W.Frag} {mg : Str → Option Value} {base : Heap} {k : Nat} (T0 : Txt0 K mg) (TF : TxtF K mg) (ih : Txt1 P w K mg base k) : FOk P w K mg base fns gv (k + 1) "wish_at" 8 := by
 obtain ⟨f, fd, F, m, b⟩ := TF.f_wish_at;refine ⟨f, fd, _, m, F.kp, b, ?_⟩;refine Z9 (fi := 8) (np := 2) (n := 2) (body := Xu) (cell := false) F Zfp ?_ ?_ ?_ ?_;exact rfl;exact rfl;exact rfl;intro _ _ _ _ _ _ hr;refine Zfv ?_ ?_ ?_;exact T0;exact ih;exact hr
theorem ZfO {P : Program} {w : World} {K : PySem.W.Frag} {mg : Str → Option Value} {base : Heap} {k : Nat} (T0 : Txt0 K mg) (TF : TxtF K mg) (ih : Txt1 P w K mg base k) : FOk P w K mg base fns gv (k + 1) "card_at" 9 := by
 obtain ⟨f, fd, F, m, b⟩ := TF.f_card_at;refine ⟨f, fd, _, m, F.kp, b, ?_⟩;refine Z9 (fi := 9) (np := 2) (n := 2) (body := Xx) (cell := false) F Zfs ?_ ?_ ?_ ?_;exact rfl;exact rfl;exact rfl;intro _ _ _ _ _ _ hr;refine Zfz ?_ ?_ ?_;exact T0;exact ih;exact hr
theorem Zc0 {P : Program} {w : World} {K : PySem.W.Frag} {mg : Str → Option Value} {base : Heap} {k : Nat} (T0 : Txt0 K mg) (TF : TxtF K mg) (ih : Txt1 P w K mg base k) : FOk P w K mg base fns gv (k + 1) "least_left" 10 := by
 obtain ⟨f, fd, F, m, b⟩ := TF.f_least_left;refine ⟨f, fd, _, m, F.kp, b, ?_⟩;refine Z9 (fi := 10) (np := 1) (n := 1) (body := Jh) (cell := false) F ZcP ?_ ?_ ?_ ?_;exact rfl;exact rfl;exact rfl;intro _ _ _ _ _ _ hr;refine ZcV ?_ ?_ ?_;exact T0;exact ih;exact hr
theorem Zaa {P : Program} {w : World} {K : PySem.W.Frag} {mg : Str → Option Value} {base : Heap} {k : Nat} (T0 : Txt0 K mg) (TF : TxtF K mg) (ih : Txt1 P w K mg base k) : FOk P w K mg base fns gv (k + 1) "are_kinds_unlike" 11 := by
 obtain ⟨f, fd, F, m, b⟩ := TF.f_are_kinds_unlike;refine ⟨f, fd, _, m, F.kp, b, ?_⟩;refine Z9 (fi := 11) (np := 1) (n := 1) (body := Qm) (cell := false) F X7 ?_ ?_ ?_ ?_;exact rfl;exact rfl;exact rfl;intro _ _ _ _ _ _ hr;refine X8 ?_ ?_ ?_;exact T0;exact ih;exact hr
theorem Zat {P : Program} {w : World} {K : PySem.W.Frag} {mg : Str → Option Value} {base : Heap} {k : Nat} (T0 : Txt0 K mg) (TF : TxtF K mg) (ih : Txt1 P w K mg base k) : FOk P w K mg base fns gv (k + 1) "are_names_alike" 12 := by
 obtain ⟨f, fd, F, m, b⟩ := TF.f_are_names_alike;refine ⟨f, fd, _, m, F.kp, b, ?_⟩;refine Z9 (fi := 12) (np := 1) (n := 1) (body := Qu) (cell := false) F Zak ?_ ?_ ?_ ?_;exact rfl;exact rfl;exact rfl;intro _ _ _ _ _ _ hr;refine Zaq ?_ ?_ ?_;exact T0;exact ih;exact hr
theorem ZaS {P : Program} {w : World} {K : PySem.W.Frag} {mg : Str → Option Value} {base : Heap} {k : Nat} (T0 : Txt0 K mg) (TF : TxtF K mg) (ih : Txt1 P w K mg base k) : FOk P w K mg base fns gv (k + 1) "is_wish_in_way" 13 := by
 obtain ⟨f, fd, F, m, b⟩ := TF.f_is_wish_in_way;refine ⟨f, fd, _, m, F.kp, b, ?_⟩;refine Z9 (fi := 13) (np := 3) (n := 3) (body := QC) (cell := false) F ZaL ?_ ?_ ?_ ?_;exact rfl;exact rfl;exact rfl;intro _ _ _ _ _ _ hr;refine ZaO ?_ ?_ ?_;exact T0;exact ih;exact hr
theorem Zas {P : Program} {w : World} {K : PySem.W.Frag} {mg : Str → Option Value} {base : Heap} {k : Nat} (T0 : Txt0 K mg) (TF : TxtF K mg) (ih : Txt1 P w K mg base k) : FOk P w K mg base fns gv (k + 1) "is_least_in_way" 14 := by
 obtain ⟨f, fd, F, m, b⟩ := TF.f_is_least_in_way;refine ⟨f, fd, _, m, F.kp, b, ?_⟩;refine Z9 (fi := 14) (np := 2) (n := 4) (body := Qg) (cell := false) F JG ?_ ?_ ?_ ?_;exact rfl;exact rfl;exact rfl;intro _ _ _ _ _ _ hr;refine Zap ?_ ?_ ?_;exact T0;exact ih;exact hr
theorem Zg7 {P : Program} {w : World} {K : PySem.W.Frag} {mg : Str → Option Value} {base : Heap} {k : Nat} (T0 : Txt0 K mg) (TF : TxtF K mg) (ih : Txt1 P w K mg base k) : FOk P w K mg base fns gv (k + 1) "in_way" 15 := by
 obtain ⟨f, fd, F, m, b⟩ := TF.f_in_way;refine ⟨f, fd, _, m, F.kp, b, ?_⟩;refine Z9 (fi := 15) (np := 1) (n := 3) (body := XH) (cell := false) F Zaj ?_ ?_ ?_ ?_;exact rfl;exact rfl;exact rfl;intro _ _ _ _ _ _ hr;refine ZgJ ?_ ?_ ?_;exact T0;exact ih;exact hr
theorem Zeo {P : Program} {w : World} {K : PySem.W.Frag} {mg : Str → Option Value} {base : Heap} {k : Nat} (T0 : Txt0 K mg) (TF : TxtF K mg) (ih : Txt1 P w K mg base k) : FOk P w K mg base fns gv (k + 1) "why_none" 16 := by
 obtain ⟨f, fd, F, m, b⟩ := TF.f_why_none;refine ⟨f, fd, _, m, F.kp, b, ?_⟩;refine Z9 (fi := 16) (np := 1) (n := 5) (body := Ju) (cell := false) F X6 ?_ ?_ ?_ ?_;exact rfl;exact rfl;exact rfl;intro _ _ _ _ _ _ hr;refine Zeh ?_ ?_ ?_;exact T0;exact ih;exact hr
theorem Zeq {P : Program} {w : World} {K : PySem.W.Frag} {mg : Str → Option Value} {base : Heap} {k : Nat} (T0 : Txt0 K mg) (TF : TxtF K mg) (ih : Txt1 P w K mg base k) : FOk P w K mg base fns gv (k + 1) "_law_cell_at" 17 := by
 obtain ⟨f, fd, F, m, b⟩ := TF.f_Lcell_at;refine ⟨f, fd, _, m, F.kp, b, ?_⟩;refine Z9 (fi := 17) (np := 2) (n := 2) (body := Jw) (cell := false) F Zee ?_ ?_ ?_ ?_;exact rfl;exact rfl;exact rfl;intro _ _ _ _ _ _ hr;refine Zej ?_ ?_ ?_;exact T0;exact ih;exact hr
theorem ZiC {P : Program} {w : World} {K : PySem.W.Frag} {mg : Str → Option Value} {base : Heap} {k : Nat} (T0 : Txt0 K mg) (TF : TxtF K mg) (ih : Txt1 P w K mg base k) : FOk P w K mg base fns gv (k + 1) "_law_tape" 18 := by
 obtain ⟨f, fd, F, m, b⟩ := TF.f_Ltape;refine ⟨f, fd, _, m, F.kp, b, ?_⟩;refine Z9 (fi := 18) (np := 1) (n := 1) (body := Za3) (cell := true) F Zig ?_ ?_ ?_ ?_;exact rfl;exact rfl;exact rfl;intro _ _ _ _ _ _ hr;refine Zin ?_ ?_ ?_;exact T0;exact ih;exact hr
theorem ZiG {P : Program} {w : World} {K : PySem.W.Frag} {mg : Str → Option Value} {base : Heap} {k : Nat} (T0 : Txt0 K mg) (TF : TxtF K mg) (ih : Txt1 P w K mg base k) : FOk P w K mg base fns gv (k + 1) "_law_draw" 19 := by
 obtain ⟨f, fd, F, m, b⟩ := TF.f_Ldraw;refine ⟨f, fd, _, m, F.kp, b, ?_⟩;refine Z9 (fi := 19) (np := 2) (n := 4) (body := Za6) (cell := false) F Zbs ?_ ?_ ?_ ?_;exact rfl;exact rfl;exact rfl;intro _ _ _ _ _ _ hr;refine Zir ?_ ?_ ?_;exact T0;exact ih;exact hr
theorem ZiD {P : Program} {w : World} {K : PySem.W.Frag} {mg : Str → Option Value} {base : Heap} {k : Nat} (T0 : Txt0 K mg) (TF : TxtF K mg) (ih : Txt1 P w K mg base k) : FOk P w K mg base fns gv (k + 1) "_law_pick" 20 := by
 obtain ⟨f, fd, F, m, b⟩ := TF.f_Lpick;refine ⟨f, fd, _, m, F.kp, b, ?_⟩;refine Z9 (fi := 20) (np := 2) (n := 2) (body := Za4) (cell := false) F Zih ?_ ?_ ?_ ?_;exact rfl;exact rfl;exact rfl;intro _ _ _ _ _ _ hr;refine Zio ?_ ?_ ?_;exact T0;exact ih;exact hr
theorem ZiE {P : Program} {w : World} {K : PySem.W.Frag} {mg : Str → Option Value} {base : Heap} {k : Nat} (T0 : Txt0 K mg) (TF : TxtF K mg) (ih : Txt1 P w K mg base k) : FOk P w K mg base fns gv (k + 1) "_law_name" 21 := by
 obtain ⟨f, fd, F, m, b⟩ := TF.f_Lname;refine ⟨f, fd, _, m, F.kp, b, ?_⟩;refine Z9 (fi := 21) (np := 1) (n := 2) (body := Za5) (cell := false) F ZeS ?_ ?_ ?_ ?_;exact rfl;exact rfl;exact rfl;intro _ _ _ _ _ _ hr;refine Zip ?_ ?_ ?_;exact T0;exact ih;exact hr
theorem ZfQ {P : Program} {w : World} {K : PySem.W.Frag} {mg : Str → Option Value} {base : Heap} {k : Nat} (T0 : Txt0 K mg) (TF : TxtF K mg) (ih : Txt1 P w K mg base k) : FOk P w K mg base fns gv (k + 1) "_law_number" 22 := by
 obtain ⟨f, fd, F, m, b⟩ := TF.f_Lnumber;refine ⟨f, fd, _, m, F.kp, b, ?_⟩;refine Z9 (fi := 22) (np := 1) (n := 1) (body := JT) (cell := false) F Zft ?_ ?_ ?_ ?_;exact rfl;exact rfl;exact rfl;intro _ _ _ _ _ _ hr;refine ZfB ?_ ?_ ?_;exact T0;exact ih;exact hr
theorem ZiH {P : Program} {w : World} {K : PySem.W.Frag} {mg : Str → Option Value} {base : Heap} {k : Nat} (T0 : Txt0 K mg) (TF : TxtF K mg) (ih : Txt1 P w K mg base k) : FOk P w K mg base fns gv (k + 1) "_law_card" 23 := by
 obtain ⟨f, fd, F, m, b⟩ := TF.f_Lcard;refine ⟨f, fd, _, m, F.kp, b, ?_⟩;refine Z9 (fi := 23) (np := 3) (n := 5) (body := Za7) (cell := false) F ZcS ?_ ?_ ?_ ?_;exact rfl;exact rfl;exact rfl;intro _ _ _ _ _ _ hr;refine Zis ?_ ?_ ?_;exact T0;exact ih;exact hr
theorem ZiB {P : Program} {w : World} {K : PySem.W.Frag} {mg : Str → Option Value} {base : Heap} {k : Nat} (T0 : Txt0 K mg) (TF : TxtF K mg) (ih : Txt1 P w K mg base k) : FOk P w K mg base fns gv (k + 1) "_law_wish" 24 := by
 obtain ⟨f, fd, F, m, b⟩ := TF.f_Lwish;refine ⟨f, fd, _, m, F.kp, b, ?_⟩;refine Z9 (fi := 24) (np := 2) (n := 4) (body := Xy) (cell := false) F ZcQ ?_ ?_ ?_ ?_;exact rfl;exact rfl;exact rfl;intro _ _ _ _ _ _ hr;refine Zim ?_ ?_ ?_;exact T0;exact ih;exact hr
theorem Zg9 {P : Program} {w : World} {K : PySem.W.Frag} {mg : Str → Option Value} {base : Heap} {k : Nat} (T0 : Txt0 K mg) (TF : TxtF K mg) (ih : Txt1 P w K mg base k) : FOk P w K mg base fns gv (k + 1) "_law_offer" 25 := by
 obtain ⟨f, fd, F, m, b⟩ := TF.f_Loffer;refine ⟨f, fd, _, m, F.kp, b, ?_⟩;refine Z9 (fi := 25) (np := 5) (n := 9) (body := ZaI) (cell := false) F Xi ?_ ?_ ?_ ?_;exact rfl;exact rfl;exact rfl;intro _ _ _ _ _ _ hr;refine ZgL ?_ ?_ ?_;exact T0;exact ih;exact hr
theorem ZiF {P : Program} {w : World} {K : PySem.W.Frag} {mg : Str → Option Value} {base : Heap} {k : Nat} (T0 : Txt0 K mg) (TF : TxtF K mg) (ih : Txt1 P w K mg base k) : FOk P w K mg base fns gv (k + 1) "_law_lets" 26 := by
 obtain ⟨f, fd, F, m, b⟩ := TF.f_Llets;refine ⟨f, fd, _, m, F.kp, b, ?_⟩;refine Z9 (fi := 26) (np := 2) (n := 4) (body := Jj) (cell := false) F ZcR ?_ ?_ ?_ ?_;exact rfl;exact rfl;exact rfl;intro _ _ _ _ _ _ hr;refine Ziq ?_ ?_ ?_;exact T0;exact ih;exact hr
theorem Zke {P : Program} {w : World} {K : PySem.W.Frag} {mg : Str → Option Value} {base : Heap} {k : Nat} (T0 : Txt0 K mg) (TF : TxtF K mg) (ih : Txt1 P w K mg base k) : FOk P w K mg base fns gv (k + 1) "_law_set" 27 := by
 obtain ⟨f, fd, F, m, b⟩ := TF.f_Lset;refine ⟨f, fd, _, m, F.kp, b, ?_⟩;refine Z9 (fi := 27) (np := 1) (n := 9) (body := ZcJ) (cell := false) F Xh ?_ ?_ ?_ ?_;exact rfl;exact rfl;exact rfl;intro _ _ _ _ _ _ hr;refine ZjW ?_ ?_ ?_;exact T0;exact ih;exact hr
theorem ZfP {P : Program} {w : World} {K : PySem.W.Frag} {mg : Str → Option Value} {base : Heap} {k : Nat} (T0 : Txt0 K mg) (TF : TxtF K mg) (ih : Txt1 P w K mg base k) : FOk P w K mg base fns gv (k + 1) "_law_reason" 28 := by
 obtain ⟨f, fd, F, m, b⟩ := TF.f_Lreason;refine ⟨f, fd, _, m, F.kp, b, ?_⟩;refine Z9 (fi := 28) (np := 2) (n := 4) (body := QR) (cell := false) F ZaN ?_ ?_ ?_ ?_;exact rfl;exact rfl;exact rfl;intro _ _ _ _ _ _ hr;refine ZfA ?_ ?_ ?_;exact T0;exact ih;exact hr
theorem Zkd {P : Program} {w : World} {K : PySem.W.Frag} {mg : Str → Option Value} {base : Heap} {k : Nat} (T0 : Txt0 K mg) (TF : TxtF K mg) (ih : Txt1 P w K mg base k) : FOk P w K mg base fns gv (k + 1) "_law_why" 29 := by
 obtain ⟨f, fd, F, m, b⟩ := TF.f_Lwhy;refine ⟨f, fd, _, m, F.kp, b, ?_⟩;refine Z9 (fi := 29) (np := 1) (n := 6) (body := ZcI) (cell := false) F ZaM ?_ ?_ ?_ ?_;exact rfl;exact rfl;exact rfl;intro _ _ _ _ _ _ hr;refine ZjV ?_ ?_ ?_;exact T0;exact ih;exact hr
theorem Zg8 {P : Program} {w : World} {K : PySem.W.Frag} {mg : Str → Option Value} {base : Heap} {k : Nat} (T0 : Txt0 K mg) (TF : TxtF K mg) (ih : Txt1 P w K mg base k) : FOk P w K mg base fns gv (k + 1) "_law_plain" 30 := by
 obtain ⟨f, fd, F, m, b⟩ := TF.f_Lplain;refine ⟨f, fd, _, m, F.kp, b, ?_⟩;refine Z9 (fi := 30) (np := 1) (n := 1) (body := Xd) (cell := false) F ZgA ?_ ?_ ?_ ?_;exact rfl;exact rfl;exact rfl;intro _ _ _ _ _ _ hr;refine ZgK ?_ ?_ ?_;exact T0;exact ih;exact hr
theorem Zha {P : Program} {w : World} {K : PySem.W.Frag} {mg : Str → Option Value} {base : Heap} {k : Nat} (T0 : Txt0 K mg) (TF : TxtF K mg) (ih : Txt1 P w K mg base k) : FOk P w K mg base fns gv (k + 1) "_law_alike" 31 := by
 obtain ⟨f, fd, F, m, b⟩ := TF.f_Lalike;refine ⟨f, fd, _, m, F.kp, b, ?_⟩;refine Z9 (fi := 31) (np := 2) (n := 2) (body := Xe) (cell := false) F ZgB ?_ ?_ ?_ ?_;exact rfl;exact rfl;exact rfl;intro _ _ _ _ _ _ hr;refine ZgM ?_ ?_ ?_;exact T0;exact ih;exact hr
theorem ok_law {P : Program} {w : World} {K : PySem.W.Frag} {mg : Str → Option Value} {base : Heap} {k : Nat} (T0 : Txt0 K mg) (TF : TxtF K mg) (ih : Txt1 P w K mg base k) : FOk P w K mg base fns gv (k + 1) "law" 32 := by
 obtain ⟨f, fd, F, m, b⟩ := TF.f_law;refine ⟨f, fd, _, m, F.kp, b, ?_⟩;refine Z9 (fi := 32) (np := 1) (n := 7) (body := ZeI) (cell := false) F Zbb ?_ ?_ ?_ ?_;exact rfl;exact rfl;exact rfl;intro _ _ _ _ _ _ hr;refine Zjk ?_ ?_ ?_;exact T0;exact ih;exact hr
theorem ZjE {P : Program} {w : World} {K : PySem.W.Frag} {mg : Str → Option Value} {base : Heap} (T0 : Txt0 K mg) (TF : TxtF K mg) : ∀ k : Nat, Txt1 P w K mg base k
  | 0 => ⟨(let ⟨_, _, F, m, b⟩ := TF.f_has_mark; ⟨_, _, _, m, F.kp, b, ZR⟩), (let ⟨_, _, F, m, b⟩ := TF.f_size_of; ⟨_, _, _, m, F.kp, b, ZR⟩), (let ⟨_, _, F, m, b⟩ := TF.f_lets; ⟨_, _, _, m, F.kp, b, ZR⟩), (let ⟨_, _, F, m, b⟩ := TF.f_lets_size; ⟨_, _, _, m, F.kp, b, ZR⟩), (let ⟨_, _, F, m, b⟩ := TF.f_reason; ⟨_, _, _, m, F.kp, b, ZR⟩), (let ⟨_, _, F, m, b⟩ := TF.f_joined_reason; ⟨_, _, _, m, F.kp, b, ZR⟩), (let ⟨_, _, F, m, b⟩ := TF.f_name_of; ⟨_, _, _, m, F.kp, b, ZR⟩), (let ⟨_, _, F, m, b⟩ := TF.f_kind_of; ⟨_, _, _, m, F.kp, b, ZR⟩), (let ⟨_, _, F, m, b⟩ := TF.f_wish_at; ⟨_, _, _, m, F.kp, b, ZR⟩), (let ⟨_, _, F, m, b⟩ := TF.f_card_at; ⟨_, _, _, m, F.kp, b, ZR⟩), (let ⟨_, _, F, m, b⟩ := TF.f_least_left; ⟨_, _, _, m, F.kp, b, ZR⟩), (let ⟨_, _, F, m, b⟩ := TF.f_are_kinds_unlike; ⟨_, _, _, m, F.kp, b, ZR⟩), (let ⟨_, _, F, m, b⟩ := TF.f_are_names_alike; ⟨_, _, _, m, F.kp, b, ZR⟩), (let ⟨_, _, F, m, b⟩ := TF.f_is_wish_in_way; ⟨_, _, _, m, F.kp, b, ZR⟩), (let ⟨_, _, F, m, b⟩ := TF.f_is_least_in_way; ⟨_, _, _, m, F.kp, b, ZR⟩), (let ⟨_, _, F, m, b⟩ := TF.f_in_way; ⟨_, _, _, m, F.kp, b, ZR⟩), (let ⟨_, _, F, m, b⟩ := TF.f_why_none; ⟨_, _, _, m, F.kp, b, ZR⟩), (let ⟨_, _, F, m, b⟩ := TF.f_Lcell_at; ⟨_, _, _, m, F.kp, b, ZR⟩), (let ⟨_, _, F, m, b⟩ := TF.f_Ltape; ⟨_, _, _, m, F.kp, b, ZR⟩), (let ⟨_, _, F, m, b⟩ := TF.f_Ldraw; ⟨_, _, _, m, F.kp, b, ZR⟩), (let ⟨_, _, F, m, b⟩ := TF.f_Lpick; ⟨_, _, _, m, F.kp, b, ZR⟩), (let ⟨_, _, F, m, b⟩ := TF.f_Lname; ⟨_, _, _, m, F.kp, b, ZR⟩), (let ⟨_, _, F, m, b⟩ := TF.f_Lnumber; ⟨_, _, _, m, F.kp, b, ZR⟩), (let ⟨_, _, F, m, b⟩ := TF.f_Lcard; ⟨_, _, _, m, F.kp, b, ZR⟩), (let ⟨_, _, F, m, b⟩ := TF.f_Lwish; ⟨_, _, _, m, F.kp, b, ZR⟩), (let ⟨_, _, F, m, b⟩ := TF.f_Loffer; ⟨_, _, _, m, F.kp, b, ZR⟩), (let ⟨_, _, F, m, b⟩ := TF.f_Llets; ⟨_, _, _, m, F.kp, b, ZR⟩), (let ⟨_, _, F, m, b⟩ := TF.f_Lset; ⟨_, _, _, m, F.kp, b, ZR⟩), (let ⟨_, _, F, m, b⟩ := TF.f_Lreason; ⟨_, _, _, m, F.kp, b, ZR⟩), (let ⟨_, _, F, m, b⟩ := TF.f_Lwhy; ⟨_, _, _, m, F.kp, b, ZR⟩), (let ⟨_, _, F, m, b⟩ := TF.f_Lplain; ⟨_, _, _, m, F.kp, b, ZR⟩), (let ⟨_, _, F, m, b⟩ := TF.f_Lalike; ⟨_, _, _, m, F.kp, b, ZR⟩), (let ⟨_, _, F, m, b⟩ := TF.f_law; ⟨_, _, _, m, F.kp, b, ZR⟩)⟩
  | k + 1 =>
    have ih := ZjE T0 TF k
    ⟨Zep T0 TF ih, ZfL T0 TF ih, Zkc T0 TF ih, ZdI T0 TF ih, Zg6 T0 TF ih, Zbn T0 TF ih, ZfM T0 TF ih, ZfN T0 TF ih, ZfK T0 TF ih, ZfO T0 TF ih, Zc0 T0 TF ih, Zaa T0 TF ih, Zat T0 TF ih, ZaS T0 TF ih, Zas T0 TF ih, Zg7 T0 TF ih, Zeo T0 TF ih, Zeq T0 TF ih, ZiC T0 TF ih, ZiG T0 TF ih, ZiD T0 TF ih, ZiE T0 TF ih, ZfQ T0 TF ih, ZiH T0 TF ih, ZiB T0 TF ih, Zg9 T0 TF ih, ZiF T0 TF ih, Zke T0 TF ih, ZfP T0 TF ih, Zkd T0 TF ih, Zg8 T0 TF ih, Zha T0 TF ih, ok_law T0 TF ih⟩
end My
end
section
set_option maxHeartbeats 1000000
namespace My
open PySem PySem.Spec PyProof.Rows L2 Mi
theorem us_1 {α : Type} {P : List α → Prop} {us : List α} (hl : us.length = 1) (h : ∀ x0 : α, P [x0]) : P us := by
  rcases us with _ | ⟨x0, us⟩
  · simp at hl
  rcases us with _ | ⟨y, us⟩
  · exact h x0
  · simp at hl
theorem us_2 {α : Type} {P : List α → Prop} {us : List α} (hl : us.length = 2) (h : ∀ x0 x1 : α, P [x0, x1]) : P us := by
  rcases us with _ | ⟨x0, us⟩
  · simp at hl
  rcases us with _ | ⟨x1, us⟩
  · simp at hl
  rcases us with _ | ⟨y, us⟩
  · exact h x0 x1
  · simp at hl
theorem us_3 {α : Type} {P : List α → Prop} {us : List α} (hl : us.length = 3) (h : ∀ x0 x1 x2 : α, P [x0, x1, x2]) : P us := by
  rcases us with _ | ⟨x0, us⟩
  · simp at hl
  rcases us with _ | ⟨x1, us⟩
  · simp at hl
  rcases us with _ | ⟨x2, us⟩
  · simp at hl
  rcases us with _ | ⟨y, us⟩
  · exact h x0 x1 x2
  · simp at hl
theorem us_5 {α : Type} {P : List α → Prop} {us : List α} (hl : us.length = 5) (h : ∀ x0 x1 x2 x3 x4 : α, P [x0, x1, x2, x3, x4]) : P us := by
  rcases us with _ | ⟨x0, us⟩
  · simp at hl
  rcases us with _ | ⟨x1, us⟩
  · simp at hl
  rcases us with _ | ⟨x2, us⟩
  · simp at hl
  rcases us with _ | ⟨x3, us⟩
  · simp at hl
  rcases us with _ | ⟨x4, us⟩
  · simp at hl
  rcases us with _ | ⟨y, us⟩
  · exact h x0 x1 x2 x3 x4
  · simp at hl
theorem all_mk {l : PySem.W.OpenLaw} {w : World} {K : PySem.W.Frag} {h : Heap} {mg : Str → Option Value} {fa f0 f1 f2 f3 f4 f5 f6 f7 f8 f9 f10 f11 f12 f13 f14 f15 f16 f17 f18 f19 f20 f21 f22 f23 f24 f25 f26 f27 f28 f29 f30 f31 f32 : Addr} (X : K.In h) (G : h.Ns mainGlobals mg) (hfa : mg "law" = some (.ref fa))
    {od0 an0 od1 an1 od2 an2 od3 an3 od4 an4 od5 an5 od6 an6 od7 an7 od8 an8 od9 an9 od10 an10 od11 an11 od12 an12 od13 an13 od14 an14 od15 an15 od16 an16 od17 an17 od18 an18 od19 an19 od20 an20 od21 an21 od22 an22 od23 an23 od24 an24 od25 an25 od26 an26 od27 an27 od28 an28 od29 an29 od30 an30 od31 an31 od32 an32 : Option Addr} {sl0 sl1 sl2 sl3 sl4 sl5 sl6 sl7 sl8 sl9 sl10 sl11 sl12 sl13 sl14 sl15 sl16 sl17 sl18 sl19 sl20 sl21 sl22 sl23 sl24 sl25 sl26 sl27 sl28 sl29 sl30 sl31 sl32 : Array (Option Value)} {oc0 kV0 dc0 pm0 cd0 ct0 oc1 kV1 dc1 pm1 cd1 ct1 oc2 kV2 dc2 pm2 cd2 ct2 oc3 kV3 dc3 pm3 cd3 ct3 oc4 kV4 dc4 pm4 cd4 ct4 oc5 kV5 dc5 pm5 cd5 ct5 oc6 kV6 dc6 pm6 cd6 ct6 oc7 kV7 dc7 pm7 cd7 ct7 oc8 kV8 dc8 pm8 cd8 ct8 oc9 kV9 dc9 pm9 cd9 ct9 oc10 kV10 dc10 pm10 cd10 ct10 oc11 kV11 dc11 pm11 cd11 ct11 oc12 kV12 dc12 pm12 cd12 ct12 oc13 kV13 dc13 pm13 cd13 ct13 oc14 kV14 dc14 pm14 cd14 ct14 oc15 kV15 dc15 pm15 cd15 ct15 oc16 kV16 dc16 pm16 cd16 ct16 oc17 kV17 dc17 pm17 cd17 ct17 oc18 kV18 dc18 pm18 cd18 ct18 oc19 kV19 dc19 pm19 cd19 ct19 oc20 kV20 dc20 pm20 cd20 ct20 oc21 kV21 dc21 pm21 cd21 ct21 oc22 kV22 dc22 pm22 cd22 ct22 oc23 kV23 dc23 pm23 cd23 ct23 oc24 kV24 dc24 pm24 cd24 ct24 oc25 kV25 dc25 pm25 cd25 ct25 oc26 kV26 dc26 pm26 cd26 ct26 oc27 kV27 dc27 pm27 cd27 ct27 oc28 kV28 dc28 pm28 cd28 ct28 oc29 kV29 dc29 pm29 cd29 ct29 oc30 kV30 dc30 pm30 cd30 ct30 oc31 kV31 dc31 pm31 cd31 ct31 oc32 kV32 dc32 pm32 cd32 ct32 : Value}
    (a0 : PySem.W.nsIn K mainGlobals "has_mark" = some (some (.ref f0))) (l0 : K.lookup f0 = some ⟨oc0, od0, .func (PySem.W.fnOf "has_mark" "has_mark" (ZG QJ) (Zj QJ) (Zd QJ) .none kV0 dc0 pm0 an0 cd0 ct0), sl0⟩) (c0 : PySem.W.codeIn K cd0 "has_mark" = true) (k0 : PySem.W.keepIn K (.ref f0) = true)
    (a1 : PySem.W.nsIn K mainGlobals "size_of" = some (some (.ref f1))) (l1 : K.lookup f1 = some ⟨oc1, od1, .func (PySem.W.fnOf "size_of" "size_of" (ZG QZ) (Zj QZ) (Zd QZ) .none kV1 dc1 pm1 an1 cd1 ct1), sl1⟩) (c1 : PySem.W.codeIn K cd1 "size_of" = true) (k1 : PySem.W.keepIn K (.ref f1) = true)
    (a2 : PySem.W.nsIn K mainGlobals "lets" = some (some (.ref f2))) (l2 : K.lookup f2 = some ⟨oc2, od2, .func (PySem.W.fnOf "lets" "lets" (ZG Zal) (Zj Zal) (Zd Zal) .none kV2 dc2 pm2 an2 cd2 ct2), sl2⟩) (c2 : PySem.W.codeIn K cd2 "lets" = true) (k2 : PySem.W.keepIn K (.ref f2) = true)
    (a3 : PySem.W.nsIn K mainGlobals "lets_size" = some (some (.ref f3))) (l3 : K.lookup f3 = some ⟨oc3, od3, .func (PySem.W.fnOf "lets_size" "lets_size" (ZG Qx) (Zj Qx) (Zd Qx) .none kV3 dc3 pm3 an3 cd3 ct3), sl3⟩) (c3 : PySem.W.codeIn K cd3 "lets_size" = true) (k3 : PySem.W.keepIn K (.ref f3) = true)
    (a4 : PySem.W.nsIn K mainGlobals "reason" = some (some (.ref f4))) (l4 : K.lookup f4 = some ⟨oc4, od4, .func (PySem.W.fnOf "reason" "reason" (ZG Jm) (Zj Jm) (Zd Jm) .none kV4 dc4 pm4 an4 cd4 ct4), sl4⟩) (c4 : PySem.W.codeIn K cd4 "reason" = true) (k4 : PySem.W.keepIn K (.ref f4) = true)
    (a5 : PySem.W.nsIn K mainGlobals "joined_reason" = some (some (.ref f5))) (l5 : K.lookup f5 = some ⟨oc5, od5, .func (PySem.W.fnOf "joined_reason" "joined_reason" (ZG ZZ) (Zj ZZ) (Zd ZZ) .none kV5 dc5 pm5 an5 cd5 ct5), sl5⟩) (c5 : PySem.W.codeIn K cd5 "joined_reason" = true) (k5 : PySem.W.keepIn K (.ref f5) = true)
    (a6 : PySem.W.nsIn K mainGlobals "name_of" = some (some (.ref f6))) (l6 : K.lookup f6 = some ⟨oc6, od6, .func (PySem.W.fnOf "name_of" "name_of" (ZG Q0) (Zj Q0) (Zd Q0) .none kV6 dc6 pm6 an6 cd6 ct6), sl6⟩) (c6 : PySem.W.codeIn K cd6 "name_of" = true) (k6 : PySem.W.keepIn K (.ref f6) = true)
    (a7 : PySem.W.nsIn K mainGlobals "kind_of" = some (some (.ref f7))) (l7 : K.lookup f7 = some ⟨oc7, od7, .func (PySem.W.fnOf "kind_of" "kind_of" (ZG Q3) (Zj Q3) (Zd Q3) .none kV7 dc7 pm7 an7 cd7 ct7), sl7⟩) (c7 : PySem.W.codeIn K cd7 "kind_of" = true) (k7 : PySem.W.keepIn K (.ref f7) = true)
    (a8 : PySem.W.nsIn K mainGlobals "wish_at" = some (some (.ref f8))) (l8 : K.lookup f8 = some ⟨oc8, od8, .func (PySem.W.fnOf "wish_at" "wish_at" (ZG QX) (Zj QX) (Zd QX) .none kV8 dc8 pm8 an8 cd8 ct8), sl8⟩) (c8 : PySem.W.codeIn K cd8 "wish_at" = true) (k8 : PySem.W.keepIn K (.ref f8) = true)
    (a9 : PySem.W.nsIn K mainGlobals "card_at" = some (some (.ref f9))) (l9 : K.lookup f9 = some ⟨oc9, od9, .func (PySem.W.fnOf "card_at" "card_at" (ZG Q4) (Zj Q4) (Zd Q4) .none kV9 dc9 pm9 an9 cd9 ct9), sl9⟩) (c9 : PySem.W.codeIn K cd9 "card_at" = true) (k9 : PySem.W.keepIn K (.ref f9) = true)
    (a10 : PySem.W.nsIn K mainGlobals "least_left" = some (some (.ref f10))) (l10 : K.lookup f10 = some ⟨oc10, od10, .func (PySem.W.fnOf "least_left" "least_left" (ZG Ql) (Zj Ql) (Zd Ql) .none kV10 dc10 pm10 an10 cd10 ct10), sl10⟩) (c10 : PySem.W.codeIn K cd10 "least_left" = true) (k10 : PySem.W.keepIn K (.ref f10) = true)
    (a11 : PySem.W.nsIn K mainGlobals "are_kinds_unlike" = some (some (.ref f11))) (l11 : K.lookup f11 = some ⟨oc11, od11, .func (PySem.W.fnOf "are_kinds_unlike" "are_kinds_unlike" (ZG ZJ) (Zj ZJ) (Zd ZJ) .none kV11 dc11 pm11 an11 cd11 ct11), sl11⟩) (c11 : PySem.W.codeIn K cd11 "are_kinds_unlike" = true) (k11 : PySem.W.keepIn K (.ref f11) = true)
    (a12 : PySem.W.nsIn K mainGlobals "are_names_alike" = some (some (.ref f12))) (l12 : K.lookup f12 = some ⟨oc12, od12, .func (PySem.W.fnOf "are_names_alike" "are_names_alike" (ZG ZQ) (Zj ZQ) (Zd ZQ) .none kV12 dc12 pm12 an12 cd12 ct12), sl12⟩) (c12 : PySem.W.codeIn K cd12 "are_names_alike" = true) (k12 : PySem.W.keepIn K (.ref f12) = true)
    (a13 : PySem.W.nsIn K mainGlobals "is_wish_in_way" = some (some (.ref f13))) (l13 : K.lookup f13 = some ⟨oc13, od13, .func (PySem.W.fnOf "is_wish_in_way" "is_wish_in_way" (ZG ZW) (Zj ZW) (Zd ZW) .none kV13 dc13 pm13 an13 cd13 ct13), sl13⟩) (c13 : PySem.W.codeIn K cd13 "is_wish_in_way" = true) (k13 : PySem.W.keepIn K (.ref f13) = true)
    (a14 : PySem.W.nsIn K mainGlobals "is_least_in_way" = some (some (.ref f14))) (l14 : K.lookup f14 = some ⟨oc14, od14, .func (PySem.W.fnOf "is_least_in_way" "is_least_in_way" (ZG ZP) (Zj ZP) (Zd ZP) .none kV14 dc14 pm14 an14 cd14 ct14), sl14⟩) (c14 : PySem.W.codeIn K cd14 "is_least_in_way" = true) (k14 : PySem.W.keepIn K (.ref f14) = true)
    (a15 : PySem.W.nsIn K mainGlobals "in_way" = some (some (.ref f15))) (l15 : K.lookup f15 = some ⟨oc15, od15, .func (PySem.W.fnOf "in_way" "in_way" (ZG Jo) (Zj Jo) (Zd Jo) .none kV15 dc15 pm15 an15 cd15 ct15), sl15⟩) (c15 : PySem.W.codeIn K cd15 "in_way" = true) (k15 : PySem.W.keepIn K (.ref f15) = true)
    (a16 : PySem.W.nsIn K mainGlobals "why_none" = some (some (.ref f16))) (l16 : K.lookup f16 = some ⟨oc16, od16, .func (PySem.W.fnOf "why_none" "why_none" (ZG QH) (Zj QH) (Zd QH) .none kV16 dc16 pm16 an16 cd16 ct16), sl16⟩) (c16 : PySem.W.codeIn K cd16 "why_none" = true) (k16 : PySem.W.keepIn K (.ref f16) = true)
    (a17 : PySem.W.nsIn K mainGlobals "_law_cell_at" = some (some (.ref f17))) (l17 : K.lookup f17 = some ⟨oc17, od17, .func (PySem.W.fnOf "_law_cell_at" "_law_cell_at" (ZG QK) (Zj QK) (Zd QK) .none kV17 dc17 pm17 an17 cd17 ct17), sl17⟩) (c17 : PySem.W.codeIn K cd17 "_law_cell_at" = true) (k17 : PySem.W.keepIn K (.ref f17) = true)
    (a18 : PySem.W.nsIn K mainGlobals "_law_tape" = some (some (.ref f18))) (l18 : K.lookup f18 = some ⟨oc18, od18, .func (PySem.W.fnOf "_law_tape" "_law_tape" (ZG J1) (Zj J1) (Zd J1) .none kV18 dc18 pm18 an18 cd18 ct18), sl18⟩) (c18 : PySem.W.codeIn K cd18 "_law_tape" = true) (k18 : PySem.W.keepIn K (.ref f18) = true)
    (a19 : PySem.W.nsIn K mainGlobals "_law_draw" = some (some (.ref f19))) (l19 : K.lookup f19 = some ⟨oc19, od19, .func (PySem.W.fnOf "_law_draw" "_law_draw" (ZG J7) (Zj J7) (Zd J7) .none kV19 dc19 pm19 an19 cd19 ct19), sl19⟩) (c19 : PySem.W.codeIn K cd19 "_law_draw" = true) (k19 : PySem.W.keepIn K (.ref f19) = true)
    (a20 : PySem.W.nsIn K mainGlobals "_law_pick" = some (some (.ref f20))) (l20 : K.lookup f20 = some ⟨oc20, od20, .func (PySem.W.fnOf "_law_pick" "_law_pick" (ZG J4) (Zj J4) (Zd J4) .none kV20 dc20 pm20 an20 cd20 ct20), sl20⟩) (c20 : PySem.W.codeIn K cd20 "_law_pick" = true) (k20 : PySem.W.keepIn K (.ref f20) = true)
    (a21 : PySem.W.nsIn K mainGlobals "_law_name" = some (some (.ref f21))) (l21 : K.lookup f21 = some ⟨oc21, od21, .func (PySem.W.fnOf "_law_name" "_law_name" (ZG J5) (Zj J5) (Zd J5) .none kV21 dc21 pm21 an21 cd21 ct21), sl21⟩) (c21 : PySem.W.codeIn K cd21 "_law_name" = true) (k21 : PySem.W.keepIn K (.ref f21) = true)
    (a22 : PySem.W.nsIn K mainGlobals "_law_number" = some (some (.ref f22))) (l22 : K.lookup f22 = some ⟨oc22, od22, .func (PySem.W.fnOf "_law_number" "_law_number" (ZG Q6) (Zj Q6) (Zd Q6) .none kV22 dc22 pm22 an22 cd22 ct22), sl22⟩) (c22 : PySem.W.codeIn K cd22 "_law_number" = true) (k22 : PySem.W.keepIn K (.ref f22) = true)
    (a23 : PySem.W.nsIn K mainGlobals "_law_card" = some (some (.ref f23))) (l23 : K.lookup f23 = some ⟨oc23, od23, .func (PySem.W.fnOf "_law_card" "_law_card" (ZG J8) (Zj J8) (Zd J8) .none kV23 dc23 pm23 an23 cd23 ct23), sl23⟩) (c23 : PySem.W.codeIn K cd23 "_law_card" = true) (k23 : PySem.W.keepIn K (.ref f23) = true)
    (a24 : PySem.W.nsIn K mainGlobals "_law_wish" = some (some (.ref f24))) (l24 : K.lookup f24 = some ⟨oc24, od24, .func (PySem.W.fnOf "_law_wish" "_law_wish" (ZG JZ) (Zj JZ) (Zd JZ) .none kV24 dc24 pm24 an24 cd24 ct24), sl24⟩) (c24 : PySem.W.codeIn K cd24 "_law_wish" = true) (k24 : PySem.W.keepIn K (.ref f24) = true)
    (a25 : PySem.W.nsIn K mainGlobals "_law_offer" = some (some (.ref f25))) (l25 : K.lookup f25 = some ⟨oc25, od25, .func (PySem.W.fnOf "_law_offer" "_law_offer" (ZG Jq) (Zj Jq) (Zd Jq) .none kV25 dc25 pm25 an25 cd25 ct25), sl25⟩) (c25 : PySem.W.codeIn K cd25 "_law_offer" = true) (k25 : PySem.W.keepIn K (.ref f25) = true)
    (a26 : PySem.W.nsIn K mainGlobals "_law_lets" = some (some (.ref f26))) (l26 : K.lookup f26 = some ⟨oc26, od26, .func (PySem.W.fnOf "_law_lets" "_law_lets" (ZG J6) (Zj J6) (Zd J6) .none kV26 dc26 pm26 an26 cd26 ct26), sl26⟩) (c26 : PySem.W.codeIn K cd26 "_law_lets" = true) (k26 : PySem.W.keepIn K (.ref f26) = true)
    (a27 : PySem.W.nsIn K mainGlobals "_law_set" = some (some (.ref f27))) (l27 : K.lookup f27 = some ⟨oc27, od27, .func (PySem.W.fnOf "_law_set" "_law_set" (ZG Zan) (Zj Zan) (Zd Zan) .none kV27 dc27 pm27 an27 cd27 ct27), sl27⟩) (c27 : PySem.W.codeIn K cd27 "_law_set" = true) (k27 : PySem.W.keepIn K (.ref f27) = true)
    (a28 : PySem.W.nsIn K mainGlobals "_law_reason" = some (some (.ref f28))) (l28 : K.lookup f28 = some ⟨oc28, od28, .func (PySem.W.fnOf "_law_reason" "_law_reason" (ZG Q5) (Zj Q5) (Zd Q5) .none kV28 dc28 pm28 an28 cd28 ct28), sl28⟩) (c28 : PySem.W.codeIn K cd28 "_law_reason" = true) (k28 : PySem.W.keepIn K (.ref f28) = true)
    (a29 : PySem.W.nsIn K mainGlobals "_law_why" = some (some (.ref f29))) (l29 : K.lookup f29 = some ⟨oc29, od29, .func (PySem.W.fnOf "_law_why" "_law_why" (ZG Zam) (Zj Zam) (Zd Zam) .none kV29 dc29 pm29 an29 cd29 ct29), sl29⟩) (c29 : PySem.W.codeIn K cd29 "_law_why" = true) (k29 : PySem.W.keepIn K (.ref f29) = true)
    (a30 : PySem.W.nsIn K mainGlobals "_law_plain" = some (some (.ref f30))) (l30 : K.lookup f30 = some ⟨oc30, od30, .func (PySem.W.fnOf "_law_plain" "_law_plain" (ZG Jp) (Zj Jp) (Zd Jp) .none kV30 dc30 pm30 an30 cd30 ct30), sl30⟩) (c30 : PySem.W.codeIn K cd30 "_law_plain" = true) (k30 : PySem.W.keepIn K (.ref f30) = true)
    (a31 : PySem.W.nsIn K mainGlobals "_law_alike" = some (some (.ref f31))) (l31 : K.lookup f31 = some ⟨oc31, od31, .func (PySem.W.fnOf "_law_alike" "_law_alike" (ZG Jr) (Zj Jr) (Zd Jr) .none kV31 dc31 pm31 an31 cd31 ct31), sl31⟩) (c31 : PySem.W.codeIn K cd31 "_law_alike" = true) (k31 : PySem.W.keepIn K (.ref f31) = true)
    (a32 : PySem.W.nsIn K mainGlobals "law" = some (some (.ref f32))) (l32 : K.lookup f32 = some ⟨oc32, od32, .func (PySem.W.fnOf "law" "law" (ZG Zbk) (Zj Zbk) (Zd Zbk) .none kV32 dc32 pm32 an32 cd32 ct32), sl32⟩) (c32 : PySem.W.codeIn K cd32 "law" = true) (k32 : PySem.W.keepIn K (.ref f32) = true)
    (z0 : PySem.W.nsIn K mainGlobals "all" = some none)
    (z1 : PySem.W.nsIn K mainGlobals "any" = some none)
    (z2 : PySem.W.nsIn K mainGlobals "bool" = some none)
    (z3 : PySem.W.nsIn K mainGlobals "enumerate" = some none)
    (z4 : PySem.W.nsIn K mainGlobals "int" = some none)
    (z5 : PySem.W.nsIn K mainGlobals "isinstance" = some none)
    (z6 : PySem.W.nsIn K mainGlobals "len" = some none)
    (z7 : PySem.W.nsIn K mainGlobals "list" = some none)
    (z8 : PySem.W.nsIn K mainGlobals "min" = some none)
    (z9 : PySem.W.nsIn K mainGlobals "range" = some none)
    (z10 : PySem.W.nsIn K mainGlobals "set" = some none)
    (z11 : PySem.W.nsIn K mainGlobals "str" = some none)
    (z12 : PySem.W.nsIn K mainGlobals "tuple" = some none)
    : ∃ fd : FuncData, (∀ (s : Shared) (v : Value), BindsTo s fd ⟨[v], []⟩ [("_law_script", v)]) ∧ ∀ base : Heap, K.In base → base.Ns mainGlobals mg → FnOk l.prog w K mg base CX0 41 fa fd ["_law_script"] (spF K fns gv 41 32) := by
  have e := hfa.symm.trans (PySem.W.mg_of X G a32)
  cases e
  have F0 := Qc (st := QJ) l0 c0 k0
  have b0 := F0.binds (ps := ["card", "word"]) fun _ _ _ _ _ _ us hl => us_2 (us := us) (P := fun us => bindArgs _ ⟨us, []⟩ = pure (List.zip _ us)) hl fun _ _ => rfl
  have F1 := Qc (st := QZ) l1 c1 k1
  have b1 := F1.binds (ps := ["card", "word"]) fun _ _ _ _ _ _ us hl => us_2 (us := us) (P := fun us => bindArgs _ ⟨us, []⟩ = pure (List.zip _ us)) hl fun _ _ => rfl
  have F2 := Qc (st := Zal) l2 c2 k2
  have b2 := F2.binds (ps := ["wish", "card"]) fun _ _ _ _ _ _ us hl => us_2 (us := us) (P := fun us => bindArgs _ ⟨us, []⟩ = pure (List.zip _ us)) hl fun _ _ => rfl
  have F3 := Qc (st := Qx) l3 c3 k3
  have b3 := F3.binds (ps := ["wish", "card"]) fun _ _ _ _ _ _ us hl => us_2 (us := us) (P := fun us => bindArgs _ ⟨us, []⟩ = pure (List.zip _ us)) hl fun _ _ => rfl
  have F4 := Qc (st := Jm) l4 c4 k4
  have b4 := F4.binds (ps := ["wish", "card"]) fun _ _ _ _ _ _ us hl => us_2 (us := us) (P := fun us => bindArgs _ ⟨us, []⟩ = pure (List.zip _ us)) hl fun _ _ => rfl
  have F5 := Qc (st := ZZ) l5 c5 k5
  have b5 := F5.binds (ps := ["word", "reasons"]) fun _ _ _ _ _ _ us hl => us_2 (us := us) (P := fun us => bindArgs _ ⟨us, []⟩ = pure (List.zip _ us)) hl fun _ _ => rfl
  have F6 := Qc (st := Q0) l6 c6 k6
  have b6 := F6.binds (ps := ["offer"]) fun _ _ _ _ _ _ us hl => us_1 (us := us) (P := fun us => bindArgs _ ⟨us, []⟩ = pure (List.zip _ us)) hl fun _ => rfl
  have F7 := Qc (st := Q3) l7 c7 k7
  have b7 := F7.binds (ps := ["offer"]) fun _ _ _ _ _ _ us hl => us_1 (us := us) (P := fun us => bindArgs _ ⟨us, []⟩ = pure (List.zip _ us)) hl fun _ => rfl
  have F8 := Qc (st := QX) l8 c8 k8
  have b8 := F8.binds (ps := ["some", "place"]) fun _ _ _ _ _ _ us hl => us_2 (us := us) (P := fun us => bindArgs _ ⟨us, []⟩ = pure (List.zip _ us)) hl fun _ _ => rfl
  have F9 := Qc (st := Q4) l9 c9 k9
  have b9 := F9.binds (ps := ["some", "place"]) fun _ _ _ _ _ _ us hl => us_2 (us := us) (P := fun us => bindArgs _ ⟨us, []⟩ = pure (List.zip _ us)) hl fun _ _ => rfl
  have F10 := Qc (st := Ql) l10 c10 k10
  have b10 := F10.binds (ps := ["some"]) fun _ _ _ _ _ _ us hl => us_1 (us := us) (P := fun us => bindArgs _ ⟨us, []⟩ = pure (List.zip _ us)) hl fun _ => rfl
  have F11 := Qc (st := ZJ) l11 c11 k11
  have b11 := F11.binds (ps := ["some"]) fun _ _ _ _ _ _ us hl => us_1 (us := us) (P := fun us => bindArgs _ ⟨us, []⟩ = pure (List.zip _ us)) hl fun _ => rfl
  have F12 := Qc (st := ZQ) l12 c12 k12
  have b12 := F12.binds (ps := ["some"]) fun _ _ _ _ _ _ us hl => us_1 (us := us) (P := fun us => bindArgs _ ⟨us, []⟩ = pure (List.zip _ us)) hl fun _ => rfl
  have F13 := Qc (st := ZW) l13 c13 k13
  have b13 := F13.binds (ps := ["some", "i", "j"]) fun _ _ _ _ _ _ us hl => us_3 (us := us) (P := fun us => bindArgs _ ⟨us, []⟩ = pure (List.zip _ us)) hl fun _ _ _ => rfl
  have F14 := Qc (st := ZP) l14 c14 k14
  have b14 := F14.binds (ps := ["some", "i"]) fun _ _ _ _ _ _ us hl => us_2 (us := us) (P := fun us => bindArgs _ ⟨us, []⟩ = pure (List.zip _ us)) hl fun _ _ => rfl
  have F15 := Qc (st := Jo) l15 c15 k15
  have b15 := F15.binds (ps := ["some"]) fun _ _ _ _ _ _ us hl => us_1 (us := us) (P := fun us => bindArgs _ ⟨us, []⟩ = pure (List.zip _ us)) hl fun _ => rfl
  have F16 := Qc (st := QH) l16 c16 k16
  have b16 := F16.binds (ps := ["some"]) fun _ _ _ _ _ _ us hl => us_1 (us := us) (P := fun us => bindArgs _ ⟨us, []⟩ = pure (List.zip _ us)) hl fun _ => rfl
  have F17 := Qc (st := QK) l17 c17 k17
  have b17 := F17.binds (ps := ["_law_script", "_law_k"]) fun _ _ _ _ _ _ us hl => us_2 (us := us) (P := fun us => bindArgs _ ⟨us, []⟩ = pure (List.zip _ us)) hl fun _ _ => rfl
  have F18 := Qc (st := J1) l18 c18 k18
  have b18 := F18.binds (ps := ["_law_cell"]) fun _ _ _ _ _ _ us hl => us_1 (us := us) (P := fun us => bindArgs _ ⟨us, []⟩ = pure (List.zip _ us)) hl fun _ => rfl
  have F19 := Qc (st := J7) l19 c19 k19
  have b19 := F19.binds (ps := ["_law_tape_here", "_law_many"]) fun _ _ _ _ _ _ us hl => us_2 (us := us) (P := fun us => bindArgs _ ⟨us, []⟩ = pure (List.zip _ us)) hl fun _ _ => rfl
  have F20 := Qc (st := J4) l20 c20 k20
  have b20 := F20.binds (ps := ["_law_tape_here", "_law_some"]) fun _ _ _ _ _ _ us hl => us_2 (us := us) (P := fun us => bindArgs _ ⟨us, []⟩ = pure (List.zip _ us)) hl fun _ _ => rfl
  have F21 := Qc (st := J5) l21 c21 k21
  have b21 := F21.binds (ps := ["_law_k"]) fun _ _ _ _ _ _ us hl => us_1 (us := us) (P := fun us => bindArgs _ ⟨us, []⟩ = pure (List.zip _ us)) hl fun _ => rfl
  have F22 := Qc (st := Q6) l22 c22 k22
  have b22 := F22.binds (ps := ["_law_tape_here"]) fun _ _ _ _ _ _ us hl => us_1 (us := us) (P := fun us => bindArgs _ ⟨us, []⟩ = pure (List.zip _ us)) hl fun _ => rfl
  have F23 := Qc (st := J8) l23 c23 k23
  have b23 := F23.binds (ps := ["_law_tape_here", "_law_name_here", "_law_kind"]) fun _ _ _ _ _ _ us hl => us_3 (us := us) (P := fun us => bindArgs _ ⟨us, []⟩ = pure (List.zip _ us)) hl fun _ _ _ => rfl
  have F24 := Qc (st := JZ) l24 c24 k24
  have b24 := F24.binds (ps := ["_law_tape_here", "_law_deep"]) fun _ _ _ _ _ _ us hl => us_2 (us := us) (P := fun us => bindArgs _ ⟨us, []⟩ = pure (List.zip _ us)) hl fun _ _ => rfl
  have F25 := Qc (st := Jq) l25 c25 k25
  have b25 := F25.binds (ps := ["_law_tape_here", "_law_side", "_law_name_here", "_law_kind", "_law_till"]) fun _ _ _ _ _ _ us hl => us_5 (us := us) (P := fun us => bindArgs _ ⟨us, []⟩ = pure (List.zip _ us)) hl fun _ _ _ _ _ => rfl
  have F26 := Qc (st := J6) l26 c26 k26
  have b26 := F26.binds (ps := ["_law_wish_here", "_law_card_here"]) fun _ _ _ _ _ _ us hl => us_2 (us := us) (P := fun us => bindArgs _ ⟨us, []⟩ = pure (List.zip _ us)) hl fun _ _ => rfl
  have F27 := Qc (st := Zan) l27 c27 k27
  have b27 := F27.binds (ps := ["_law_tape_here"]) fun _ _ _ _ _ _ us hl => us_1 (us := us) (P := fun us => bindArgs _ ⟨us, []⟩ = pure (List.zip _ us)) hl fun _ => rfl
  have F28 := Qc (st := Q5) l28 c28 k28
  have b28 := F28.binds (ps := ["_law_wish_here", "_law_card_here"]) fun _ _ _ _ _ _ us hl => us_2 (us := us) (P := fun us => bindArgs _ ⟨us, []⟩ = pure (List.zip _ us)) hl fun _ _ => rfl
  have F29 := Qc (st := Zam) l29 c29 k29
  have b29 := F29.binds (ps := ["_law_some"]) fun _ _ _ _ _ _ us hl => us_1 (us := us) (P := fun us => bindArgs _ ⟨us, []⟩ = pure (List.zip _ us)) hl fun _ => rfl
  have F30 := Qc (st := Jp) l30 c30 k30
  have b30 := F30.binds (ps := ["_law_thing"]) fun _ _ _ _ _ _ us hl => us_1 (us := us) (P := fun us => bindArgs _ ⟨us, []⟩ = pure (List.zip _ us)) hl fun _ => rfl
  have F31 := Qc (st := Jr) l31 c31 k31
  have b31 := F31.binds (ps := ["_law_one", "_law_other"]) fun _ _ _ _ _ _ us hl => us_2 (us := us) (P := fun us => bindArgs _ ⟨us, []⟩ = pure (List.zip _ us)) hl fun _ _ => rfl
  have F32 := Qc (st := Zbk) l32 c32 k32
  have b32 := F32.binds (ps := ["_law_script"]) fun _ _ _ _ _ _ us hl => us_1 (us := us) (P := fun us => bindArgs _ ⟨us, []⟩ = pure (List.zip _ us)) hl fun _ => rfl
  have T0 : Txt0 K mg := ⟨PySem.W.mg_none_of X G z0, PySem.W.mg_none_of X G z1, PySem.W.mg_none_of X G z2, PySem.W.mg_none_of X G z3, PySem.W.mg_none_of X G z4, PySem.W.mg_none_of X G z5, PySem.W.mg_none_of X G z6, PySem.W.mg_none_of X G z7, PySem.W.mg_none_of X G z8, PySem.W.mg_none_of X G z9, PySem.W.mg_none_of X G z10, PySem.W.mg_none_of X G z11, PySem.W.mg_none_of X G z12⟩
  have TF : TxtF K mg := ⟨⟨_, _, F0, PySem.W.mg_of X G a0, b0⟩, ⟨_, _, F1, PySem.W.mg_of X G a1, b1⟩, ⟨_, _, F2, PySem.W.mg_of X G a2, b2⟩, ⟨_, _, F3, PySem.W.mg_of X G a3, b3⟩, ⟨_, _, F4, PySem.W.mg_of X G a4, b4⟩, ⟨_, _, F5, PySem.W.mg_of X G a5, b5⟩, ⟨_, _, F6, PySem.W.mg_of X G a6, b6⟩, ⟨_, _, F7, PySem.W.mg_of X G a7, b7⟩, ⟨_, _, F8, PySem.W.mg_of X G a8, b8⟩, ⟨_, _, F9, PySem.W.mg_of X G a9, b9⟩, ⟨_, _, F10, PySem.W.mg_of X G a10, b10⟩, ⟨_, _, F11, PySem.W.mg_of X G a11, b11⟩, ⟨_, _, F12, PySem.W.mg_of X G a12, b12⟩, ⟨_, _, F13, PySem.W.mg_of X G a13, b13⟩, ⟨_, _, F14, PySem.W.mg_of X G a14, b14⟩, ⟨_, _, F15, PySem.W.mg_of X G a15, b15⟩, ⟨_, _, F16, PySem.W.mg_of X G a16, b16⟩, ⟨_, _, F17, PySem.W.mg_of X G a17, b17⟩, ⟨_, _, F18, PySem.W.mg_of X G a18, b18⟩, ⟨_, _, F19, PySem.W.mg_of X G a19, b19⟩, ⟨_, _, F20, PySem.W.mg_of X G a20, b20⟩, ⟨_, _, F21, PySem.W.mg_of X G a21, b21⟩, ⟨_, _, F22, PySem.W.mg_of X G a22, b22⟩, ⟨_, _, F23, PySem.W.mg_of X G a23, b23⟩, ⟨_, _, F24, PySem.W.mg_of X G a24, b24⟩, ⟨_, _, F25, PySem.W.mg_of X G a25, b25⟩, ⟨_, _, F26, PySem.W.mg_of X G a26, b26⟩, ⟨_, _, F27, PySem.W.mg_of X G a27, b27⟩, ⟨_, _, F28, PySem.W.mg_of X G a28, b28⟩, ⟨_, _, F29, PySem.W.mg_of X G a29, b29⟩, ⟨_, _, F30, PySem.W.mg_of X G a30, b30⟩, ⟨_, _, F31, PySem.W.mg_of X G a31, b31⟩, ⟨_, _, F32, PySem.W.mg_of X G a32, b32⟩⟩
  refine ⟨PySem.W.fnOf "law" "law" (ZG Zbk) (Zj Zbk) (Zd Zbk) .none kV32 dc32 pm32 an32 cd32 ct32, fun s v => .of_eq rfl, fun base _ _ => ?_⟩
  refine Z9 (fi := 32) (np := 1) (n := 7) (body := ZeI) (cell := false) F32 Zbb ?_ ?_ ?_ ?_
  exact rfl
  exact rfl
  exact rfl
  intro _ _ _ _ _ _ hr
  refine Zjk ?_ ?_ ?_
  exact T0
  exact ZjE T0 TF 40
  exact hr
theorem walk {l : PySem.W.OpenLaw} {q : Program} {loose : List Str} {XP : (Str → Option Value) → Heap → Prop} {YP : World → Heap → Prop} {d : DefRec} {K : Params → PySem.W.Frag} (hn : l.most = some 63) (hdf : d.params.defaults = [])
    (hY : ∀ (w : World) (h : Heap), YP w h → (K w.params).In h)
    (F : ∀ (w : World) (mg : Str → Option Value) (fa : Addr) (h : Heap), (K w.params).In h → h.Ns mainGlobals mg → mg d.name = some (.ref fa) →
      ∃ fd : FuncData, (∀ (s : Shared) (u : Value), BindsTo s fd ⟨[u], []⟩ [("_law_script", u)]) ∧ ∀ base : Heap, (K w.params).In base → base.Ns mainGlobals mg → FnOk l.prog w (K w.params) mg base CX0 41 fa fd ["_law_script"] (spF (K w.params) fns gv 41 32)) :
    PySem.W.WalkO q loose XP YP l.row.toRowW d [] (fun f vs => PySem.call f vs) :=
  L2.walk_of (n := 63) (k := 41) (x := "_law_script") (CX := fun _ => CX0) (sp := fun w => spF (K w.params) fns gv 41 32) hn (by decide) hdf ⟨rfl, by decide, by decide⟩ hY F (fun _ _ a ns hl hO hS => law_sp hO hS (law_true ns hl)) fun _ _ _ _ _ z => z
theorem walkX {l : PySem.W.OpenLaw} {q : Program} {loose : List Str} {XP : (Str → Option Value) → Heap → Prop} {d : DefRec} {K : Params → PySem.W.Frag} {as : List Addr} {n t : Nat} (hn : l.most = some 63) (hdf : d.params.defaults = []) (he : ∀ P, as = (K P).map (·.1))
    (F : ∀ (w : World) (mg : Str → Option Value) (fa : Addr) (h : Heap), (K w.params).In h → h.Ns mainGlobals mg → mg d.name = some (.ref fa) →
      ∃ fd : FuncData, (∀ (s : Shared) (u : Value), BindsTo s fd ⟨[u], []⟩ [("_law_script", u)]) ∧ ∀ base : Heap, (K w.params).In base → base.Ns mainGlobals mg → FnOk l.prog w (K w.params) mg base CX0 41 fa fd ["_law_script"] (spF (K w.params) fns gv 41 32)) :
    PySem.W.WalkX q loose XP (PySem.W.X.obsZ as) (PySem.W.X.valZ K n t) l.row.toRowW d [] (fun f vs => PySem.call f vs) := by
  intro w s₀ s₁ mg mb G y fa o pm cd doc dV kV ho hd hcd hD hmg hg args vals as' L
  exact walk (YP := fun w h => (K w.params).In h) hn hdf (fun _ _ h => h) F w s₀ s₁ mg mb G (PySem.W.InK.keeps w _ _ (PySem.W.X.z_facts he y).2.1 (PySem.W.Laid.keeps L)) fa o pm cd doc dV kV ho hd hcd hD hmg hg args vals as'
end My
open PySem PySem.W PyProof.Rows
set_option maxRecDepth 100000 in
set_option maxHeartbeats 0 in
theorem PySem.Challenge.cw_matepoint_k33_why_none_meet_holds : PySem.Challenge.rw_matepoint_k33_why_none_meet.Holds := by
  w_on; o_law; z_head; (case hw => w_witness2)
  k_fill
  refine My.walkX (l := PySem.Challenge.rw_matepoint_k33_why_none_meet) rfl rfl (fun _ => rfl) ?F
  case F =>
    intro w mg fa h KX G hmg
    refine' My.all_mk KX G hmg ?a0 ?l0 ?c0 ?k0 ?a1 ?l1 ?c1 ?k1 ?a2 ?l2 ?c2 ?k2 ?a3 ?l3 ?c3 ?k3 ?a4 ?l4 ?c4 ?k4 ?a5 ?l5 ?c5 ?k5 ?a6 ?l6 ?c6 ?k6 ?a7 ?l7 ?c7 ?k7 ?a8 ?l8 ?c8 ?k8 ?a9 ?l9 ?c9 ?k9 ?a10 ?l10 ?c10 ?k10 ?a11 ?l11 ?c11 ?k11 ?a12 ?l12 ?c12 ?k12 ?a13 ?l13 ?c13 ?k13 ?a14 ?l14 ?c14 ?k14 ?a15 ?l15 ?c15 ?k15 ?a16 ?l16 ?c16 ?k16 ?a17 ?l17 ?c17 ?k17 ?a18 ?l18 ?c18 ?k18 ?a19 ?l19 ?c19 ?k19 ?a20 ?l20 ?c20 ?k20 ?a21 ?l21 ?c21 ?k21 ?a22 ?l22 ?c22 ?k22 ?a23 ?l23 ?c23 ?k23 ?a24 ?l24 ?c24 ?k24 ?a25 ?l25 ?c25 ?k25 ?a26 ?l26 ?c26 ?k26 ?a27 ?l27 ?c27 ?k27 ?a28 ?l28 ?c28 ?k28 ?a29 ?l29 ?c29 ?k29 ?a30 ?l30 ?c30 ?k30 ?a31 ?l31 ?c31 ?k31 ?a32 ?l32 ?c32 ?k32 ?z0 ?z1 ?z2 ?z3 ?z4 ?z5 ?z6 ?z7 ?z8 ?z9 ?z10 ?z11 ?z12
    all_goals try k_is
end
