import PyProof.Rows.All
import Wide.All
import OpenK.AllK
import Wide.FinOn
import Lean
import PyProof.EqAt
import PyProof.EqKinds
import PyProof.TupleCall
import PySem.Challenge.RW_matepoint_k12_more_brackets
set_option Elab.async false
set_option linter.all false
set_option maxRecDepth 100000
section
set_option Elab.async false
set_option linter.all false
set_option maxRecDepth 100000
namespace L2
open PySem PySem.Spec PyProof.Rows
noncomputable abbrev Key:=Sum Int Str
noncomputable def ZeU:Key→Value→Bool
  | .inl k,v=>Value.isInt k v
  | .inr x,v=>Value.isStrOf x v
noncomputable def keyH (w:World):Key→Int
  | .inl k=>hashInt k
  | .inr x=>hashStr w x
theorem Qf:∀ {k:Key} {v:Value},ZeU k v=true→(∃ i t,k=Sum.inl i∧v=Value.int i t)∨(∃ x t,k=Sum.inr x∧v=Value.str x t)
  | .inl i,v,h=>by
    obtain ⟨t,e⟩:=Value.isInt_shape (k:=i) (v:=v) h
    exact .inl ⟨i,t,rfl,e⟩
  | .inr x,v,h=>by
    obtain ⟨t,e⟩:=Value.isStrOf_shape (x:=x) (v:=v) h
    exact .inr ⟨x,t,rfl,e⟩
theorem Zh8 (i:Int) (t:Tok):ZeU (.inl i) (.int i t)=true:=by simp [ZeU,Value.isInt]
theorem ZbC (x:Str) (t:Tok):ZeU (.inr x) (.str x t)=true:=by simp [ZeU,Value.isStrOf]
theorem key_ll (a b:Int):decide ((Sum.inl a:Key)=Sum.inl b)=(a == b):=by
  by_cases e:a=b
  · subst e; simp
  · have h:¬ (Sum.inl a:Key)=Sum.inl b:=fun q=>e (Sum.inl.inj q)
    rw [decide_eq_false h]
    exact (beq_eq_false_iff_ne.mpr e).symm
theorem key_rr (a b:Str):decide ((Sum.inr a:Key)=Sum.inr b)=decide (a=b):=by
  by_cases e:a=b
  · subst e; simp
  · have h:¬ (Sum.inr a:Key)=Sum.inr b:=fun q=>e (Sum.inr.inj q)
    rw [decide_eq_false h,decide_eq_false e]
theorem key_lr (a:Int) (b:Str):decide ((Sum.inl a:Key)=Sum.inr b)=false:=decide_eq_false (fun q=>nomatch q)
theorem key_rl (a:Str) (b:Int):decide ((Sum.inr a:Key)=Sum.inl b)=false:=decide_eq_false (fun q=>nomatch q)
noncomputable def Z5 (prog:Program) (w:World):PySem.KeyKind prog w Key where
  is:=ZeU
  hash:=keyH w
  inj:=fun v a b ha hb=>by
    rcases Qf ha with ⟨i,t,rfl,rfl⟩ | ⟨x,t,rfl,rfl⟩
    · rcases Qf hb with ⟨j,u,rfl,e⟩ | ⟨y,u,rfl,e⟩
      · injection e with e1 _; rw [e1]
      · exact nomatch e
    · rcases Qf hb with ⟨j,u,rfl,e⟩ | ⟨y,u,rfl,e⟩
      · exact nomatch e
      · injection e with e1 _; rw [e1]
  byValue:=fun k v h=>by
    rcases Qf h with ⟨i,t,rfl,rfl⟩ | ⟨x,t,rfl,rfl⟩ <;> rfl
  pyHash:=fun hv h=>by
    rcases Qf hv with ⟨i,t,rfl,rfl⟩ | ⟨x,t,rfl,rfl⟩
    · exact wpAny_pyHash_int h
    · exact wpAny_pyHash_str h
  eqBool:=fun hu hv h=>by
    rcases Qf hu with ⟨i,t,rfl,rfl⟩ | ⟨x,t,rfl,rfl⟩
    · rcases Qf hv with ⟨j,u,rfl,rfl⟩ | ⟨y,u,rfl,rfl⟩
      · rw [key_ll] at h; exact wpAny_eqBool_int h
      · rw [key_lr] at h; exact SeqAt.EqAt.int_str i t y u _ _ _ _ h
    · rcases Qf hv with ⟨j,u,rfl,rfl⟩ | ⟨y,u,rfl,rfl⟩
      · rw [key_rl] at h; exact SeqAt.EqAt.str_int x t j u _ _ _ _ h
      · rw [key_rr] at h; exact wpAny_eqBool_str h
  «strs»:=fun k x t v h=>by
    rcases Qf h with ⟨i,u,rfl,e⟩ | ⟨y,u,rfl,e⟩
    · exact nomatch e
    · injection e with e1 _
      subst e1
      cases v <;> rfl
theorem ZeN (prog:Program) (w:World) (i:Int) (t:Tok):(Z5 prog w).is (.inl i) (.int i t)=true:=Zh8 i t
theorem ZeM (prog:Program) (w:World) (x:Str) (t:Tok):(Z5 prog w).is (.inr x) (.str x t)=true:=ZbC x t
end L2
namespace L2
open PySem PySem.Spec PyProof.Rows
inductive V where
  | non | bl (b:Bool) | int (i:Int) | str (x:Str) | byt (b:Array UInt8) | flt (b:UInt64) | ref (a:Addr) | ty (n:String)
  deriving DecidableEq
noncomputable def RelV:V→Value→Prop
  | .non,u=>u=Value.none
  | .bl b,u=>u=Value.bool b
  | .int i,u=>∃ t,u=Value.int i t
  | .str x,u=>∃ t,u=Value.str x t
  | .byt b,u=>∃ t,u=Value.bytes b t
  | .flt b,u=>∃ t,u=Value.float b t
  | .ref a,u=>u=Value.ref a
  | .ty n,u=>u=Value.type n
noncomputable abbrev Vals:List V→List Value→Prop:=Paired RelV
theorem Vals.length {xs:List V} {us:List Value} (r:Vals xs us):xs.length=us.length:=Paired.length r
theorem Vals.get:∀ {xs:List V} {us:List Value} {i:Nat} {x:V},Vals xs us→xs[i]? = some x→∃ u,us[i]? = some u∧RelV x u
  | _,_,_,_,.nil,e=>by simp at e
  | _,_,0,_,.cons r _,e=>by simp at e; subst e; exact ⟨_,rfl,r⟩
  | _,_,i + 1,x,.cons _ t,e=>by
    obtain ⟨u,h1,h2⟩:=Vals.get (i:=i) (x:=x) t (by simpa using e)
    exact ⟨u,by simpa using h1,h2⟩
theorem Vals.set {x:V} {u:Value} (r:RelV x u):∀ {xs:List V} {us:List Value} (i:Nat),Vals xs us→Vals (xs.set i x) (us.set i u)
  | _,_,_,.nil=>.nil
  | _,_,0,.cons _ t=>.cons r t
  | _,_,i + 1,.cons q t=>.cons q (Vals.set r i t)
theorem Vals.append:∀ {xs ys:List V} {us ws:List Value},Vals xs us→Vals ys ws→Vals (xs++ys) (us++ws)
  | _,_,_,_,.nil,s=>s
  | _,_,_,_,.cons r t,s=>.cons r (Vals.append t s)
theorem Vals.take:∀ {xs:List V} {us:List Value} (n:Nat),Vals xs us→Vals (xs.take n) (us.take n)
  | _,_,0,_=>.nil
  | _,_,_ + 1,.nil=>.nil
  | _,_,n + 1,.cons r t=>.cons r (Vals.take n t)
theorem Vals.drop:∀ {xs:List V} {us:List Value} (n:Nat),Vals xs us→Vals (xs.drop n) (us.drop n)
  | _,_,0,r=>r
  | _,_,_ + 1,.nil=>.nil
  | _,_,n + 1,.cons _ t=>Vals.drop n t
theorem Vals.none_of:∀ {xs:List V} {us:List Value} {i:Nat},Vals xs us→xs[i]? = none→us[i]? = none:=fun {xs us i} r e=>by
  have h1:=r.length
  have h2:xs.length≤i:=List.getElem?_eq_none_iff.mp e
  exact List.getElem?_eq_none_iff.mpr (by omega)
noncomputable def RelO:Option V→Option Value→Prop
  | some v,some u=>RelV v u
  | none,none=>True
  | _,_=>False
noncomputable def KV {κ:Type}:List (κ×V)→List (κ×Value)→Prop:=Paired fun (p:κ×V) (q:κ×Value)=>p.1=q.1∧RelV p.2 q.2
noncomputable def kV:Key→V
  | .inl i=>.int i
  | .inr x=>.str x
inductive HO where
  | lst (xs:List V)
  | tup (xs:List V)
  | dK (kvs:List (Key×V)) | dT (kvs:List (List Key×V))
  | set (S:Int→Bool) (n:Nat)
  | ins (C dx:Addr) (fs:List (Str×V))
  | own (x:Addr)
  | xd (fs:List (Str×V))
  | met (f x:Addr)
  | rng (lo hi:Int)
  | frz (o:Obj) (u:HO)
  | tbl (ps:Array Value)
  | ext (φ:Heap→Prop)
noncomputable abbrev Hp:=Addr→Option HO
noncomputable def upd (H:Hp) (a:Addr) (o:HO):Hp:=fun b=>if b=a then some o else H b
theorem Jj {H:Hp} {a:Addr} {o:HO}:upd H a o a=some o:=by unfold upd; rw [if_pos rfl]
theorem ZZ {H:Hp} {a b:Addr} {o:HO} (h:b≠a):upd H a o b=H b:=by unfold upd; rw [if_neg h]
theorem Qu {H:Hp} {a b:Addr} {o:HO} (h:H a=some o) (h':H b=none):a≠b:=by
  intro e; subst e; rw [h] at h'; cases h'
noncomputable def TupP (h:Heap) (a:Addr) (items:Array Value):Prop:=∃ o,h.get? a=some o∧o.cls = .type "tuple"∧(∃ n,o.data = .seq items n)∧o.dict=none
theorem TupP.is {h:Heap} {a:Addr} {items:Array Value} (x:TupP h a items):IsTup h a items:=let ⟨o,h1,h2,h3,_⟩:=x; ⟨o,h1,h2,h3⟩
theorem TupP.new (h:Heap) (items:Array Value):TupP (h.push { cls:=.type "tuple",data:=.seq items }) h.objs.size items:=⟨_,Heap.get?_push_size _ rfl,rfl,⟨_,rfl⟩,rfl⟩
section
variable (P:Program) (w:World)
noncomputable def QZ (H:Hp) (h:Heap) (a:Addr):HO→Prop
  | .lst xs=>xs.length≤sizeLine∧∃ (its:List Value) (n:Nat),Vals xs its∧h.get? a=some { cls:=.type "list",data:=.seq its.toArray n }
  | .tup xs=>xs.length≤sizeLine∧∃ its:List Value,Vals xs its∧TupP h a its.toArray
  | .dK kvs=>kvs.length≤sizeLine∧(a == sysModules)=false∧∃ vs,KV kvs vs∧h.DictOf (Z5 P w) a vs
  | .dT kvs=>kvs.length≤sizeLine∧(a == sysModules)=false∧∃ xs:List (List Key×Addr×Value),
      Paired (fun (p:List Key×V) (q:List Key×Addr×Value)=>p.1=q.1∧H q.2.1=some (.tup (p.1.map kV))∧RelV p.2 q.2.2) kvs xs ∧
      ∃ o es ep,h.get? a=some o∧o.ExactDict∧o.data = .dict es ep∧es.toList=xs.map (entryOfKey (tupleKind (Z5 P w)))∧(xs.map (·.1)).Nodup
  | .set S n=>h.SetOf (intKind P w) a S n
  | .ins C dx fs=>H dx=some (.own a)∧fs.length≤1000∧dx≠a∧h.get? a=some (PySem.W.instObj C dx) ∧
      ∃ mA,h.Ns1 dx mA∧(∀ f,RelO (fs.lookup f) (mA f))∧PySem.Within mA (fs.map (·.1))
  | .own _=>∃ o,h.get? a=some o
  | .xd fs=>∃ mA,h.Ns1 a mA∧∀ f,RelO (fs.lookup f) (mA f)
  | .rng lo hi=>∃ t u v,h.get? a=some { cls:=.type "range",data:=.fields #[.int lo t,.int hi u,.int 1 v] }
  | .frz o u=>h.get? a=some o∧QZ H h a u
  | .tbl ps=>h.get? a=some { cls:=.none,data:=.fields ps }
  | .met f x=>h.get? a=some (PySem.W.methodObj (.ref f) (.ref x))
  | .ext φ=>φ h∧(∃ o,h.get? a=some o)∧∀ h1 h2:Heap,φ h1→(∀ o,h1.get? a=some o→h2.get? a=some o)→φ h2
noncomputable def HOk (H:Hp) (h:Heap):Prop:=∀ a o,H a=some o→QZ P w H h a o
end
section
variable {P:Program} {w:World} {H H':Hp} {h h':Heap} {a:Addr} {o:HO}
theorem QZ.lt (x:QZ P w H h a o):a < h.objs.size:=by
  cases o with
  | lst xs=>obtain ⟨_,_,_,_,e⟩:=x; exact Heap.lt_size e
  | tup xs=>obtain ⟨_,_,_,p⟩:=x; exact p.is.lt
  | dK kvs=>obtain ⟨_,_,_,_,o,_,_,e,_⟩:=x; exact Heap.lt_size e
  | dT kvs=>obtain ⟨_,_,_,_,o,_,_,e,_⟩:=x; exact Heap.lt_size e
  | set S n=>obtain ⟨o,_,_,_,e,_⟩:=x; exact Heap.lt_size e
  | ins C dx fs=>obtain ⟨_,_,_,e,_⟩:=x; exact Heap.lt_size e
  | own y=>obtain ⟨_,e⟩:=x; exact Heap.lt_size e
  | xd fs=>obtain ⟨_,⟨_,_,_,e,_⟩,_⟩:=x; exact Heap.lt_size e
  | rng lo hi=>obtain ⟨_,_,_,e⟩:=x; exact Heap.lt_size e
  | frz ob u=>obtain ⟨e,_⟩:=x; exact Heap.lt_size e
  | tbl ps=>exact Heap.lt_size (show h.get? a=some _ from x)
  | met f y=>exact Heap.lt_size (show h.get? a=some _ from x)
  | ext φ=>obtain ⟨_,⟨_,e⟩,_⟩:=x; exact Heap.lt_size e
theorem Paired.mapP {α β:Type} {F G:α→β→Prop}:∀ {l₁:List α} {l₂:List β},Paired F l₁ l₂→(∀ a b,F a b→G a b)→Paired G l₁ l₂
  | _,_,.nil,_=>.nil
  | _,_,.cons r t,f=>.cons (f _ _ r) (Paired.mapP t f)
theorem QZ.stay (x:QZ P w H h a o) (k:∀ b u,(b=a∨H b=some (.own a))→h.get? b=some u→h'.get? b=some u)
    (ho:∀ b,H b=some (.own a)→H' b=some (.own a)) (ht:∀ b xs,H b=some (.tup xs)→H' b=some (.tup xs)):QZ P w H' h' a o:=by
  induction o with
  | lst xs=>obtain ⟨z,its,n,r,e⟩:=x; exact ⟨z,its,n,r,k _ _ (.inl rfl) e⟩
  | tup xs=>obtain ⟨z,its,r,ob,e,c⟩:=x; exact ⟨z,its,r,ob,k _ _ (.inl rfl) e,c⟩
  | dK kvs=>obtain ⟨z,y,vs,r,ob,es,ep,e,c⟩:=x; exact ⟨z,y,vs,r,ob,es,ep,k _ _ (.inl rfl) e,c⟩
  | dT kvs =>
    obtain ⟨z,y,xs,r,ob,es,ep,e,c⟩:=x
    exact ⟨z,y,xs,Paired.mapP r fun p q z=>⟨z.1,ht _ _ z.2.1,z.2.2⟩,ob,es,ep,k _ _ (.inl rfl) e,c⟩
  | set S n=>obtain ⟨ob,es,ep,t,e,c⟩:=x; exact ⟨ob,es,ep,t,k _ _ (.inl rfl) e,c⟩
  | ins C dx fs =>
    obtain ⟨d,z,ne,e,mA,⟨od,es,ep,e2,c⟩,r⟩:=x
    exact ⟨ho _ d,z,ne,k _ _ (.inl rfl) e,mA,⟨od,es,ep,k _ _ (.inr d) e2,c⟩,r⟩
  | own y=>obtain ⟨ob,e⟩:=x; exact ⟨ob,k _ _ (.inl rfl) e⟩
  | xd fs=>obtain ⟨mA,⟨od,es,ep,e,c⟩,r⟩:=x; exact ⟨mA,⟨od,es,ep,k _ _ (.inl rfl) e,c⟩,r⟩
  | rng lo hi=>obtain ⟨t,u,v,e⟩:=x; exact ⟨t,u,v,k _ _ (.inl rfl) e⟩
  | frz ob u ih=>obtain ⟨e,q⟩:=x; exact ⟨k _ _ (.inl rfl) e,ih q⟩
  | tbl ps =>
    have e:h.get? a=some { cls:=.none,data:=.fields ps }:=x
    show h'.get? a=some { cls:=.none,data:=.fields ps }
    exact k a _ (.inl rfl) e
  | met f y =>
    have e:h.get? a=some (PySem.W.methodObj (.ref f) (.ref y)):=x
    show h'.get? a=some (PySem.W.methodObj (.ref f) (.ref y))
    exact k a _ (.inl rfl) e
  | ext φ=>obtain ⟨p,⟨o,e⟩,st⟩:=x; exact ⟨st _ _ p fun o q=>k _ _ (.inl rfl) q,⟨o,k _ _ (.inl rfl) e⟩,st⟩
theorem HOk.lt (x:HOk P w H h) (e:H a=some o):a < h.objs.size:=(x a o e).lt
theorem HOk.fresh (x:HOk P w H h) (e:h.objs.size≤a):H a=none:=by
  cases q:H a with
  | none=>rfl
  | some u=>exact absurd (Nat.lt_of_lt_of_le (x.lt q) e) (Nat.lt_irrefl _)
theorem HOk.kept (x:HOk P w H h) (k:∀ b u,h.get? b=some u→h'.get? b=some u):HOk P w H h':=fun a o e =>
  (x a o e).stay (fun b u _ q=>k b u q) (fun _ q=>q) fun _ _ q=>q
theorem HOk.laid (x:HOk P w H h) (k:∀ b u,h.get? b=some u→h'.get? b=some u) (hp:h.objs.size≤a) (new:QZ P w (upd H a o) h' a o):HOk P w (upd H a o) h':=fun b u e=>by
  have hn:=x.fresh hp
  by_cases hb:b=a
  · subst hb; rw [Jj] at e; cases e; exact new
  · rw [ZZ hb] at e
    exact (x b u e).stay (fun c v _ q=>k c v q) (fun c q=>by rw [ZZ (Qu q hn)]; exact q) fun c xs q=>by rw [ZZ (Qu q hn)]; exact q
end
noncomputable def Rd (H:Hp) (a:Addr) (u:HO):Prop:=H a=some u∨∃ o,H a=some (.frz o u)
theorem Rd.of {H:Hp} {a:Addr} {u:HO} (h:H a=some u):Rd H a u:=.inl h
theorem Rd.ok {P:Program} {w:World} {H:Hp} {h:Heap} {a:Addr} {u:HO} (r:Rd H a u) (x:HOk P w H h):QZ P w H h a u:=by
  rcases r with r | ⟨o,r⟩
  · exact x a u r
  · obtain ⟨_,q⟩:=x a _ r
    exact q
noncomputable def Mut:Option HO→Prop
  | some (.lst _)=>True
  | some (.dK _)=>True
  | some (.dT _)=>True
  | some (.set _ _)=>True
  | some (.ins _ _ _)=>True
  | some (.ext _)=>True
  | _=>False
section
variable {P:Program} {w:World} {H:Hp} {h h':Heap} {x e:Addr} {o':HO}
theorem HOk.write (ok:HOk P w H h) (mu:Mut (H x)) (he:e=x∨H e=some (.own x)) (k:∀ b u,b≠e→h.get? b=some u→h'.get? b=some u) (heo:∃ u,h'.get? e=some u)
    (new:QZ P w (upd H x o') h' x o'):HOk P w (upd H x o') h':=fun b u q=>by
  have nown:∀ c y,H c=some (.own y)→c≠x:=fun c y r z=>by subst z; rw [r] at mu; exact mu
  have ntup:∀ c xs,H c=some (.tup xs)→c≠x:=fun c xs r z=>by subst z; rw [r] at mu; exact mu
  by_cases hb:b=x
  · subst hb; rw [Jj] at q; cases q; exact new
  · rw [ZZ hb] at q
    by_cases hbe:b=e
    · have q':H b=some (.own x):=by
        rcases he with z | z
        · exact absurd (hbe.trans z) hb
        · rw [hbe]; exact z
      rw [q] at q'; cases q'
      obtain ⟨v,hv⟩:=heo
      exact ⟨v,by rw [hbe]; exact hv⟩
    · refine (ok b u q).stay (fun c v hc r=>k c v ?_ r) (fun c r=>by rw [ZZ (nown c b r)]; exact r) fun c xs r=>by rw [ZZ (ntup c xs r)]; exact r
      rcases hc with rfl | hc
      · exact hbe
      · rintro rfl
        rcases he with z | z
        · exact nown c b hc z
        · rw [hc] at z; cases z; exact hb rfl
end
structure Un (fs ex:List Addr) (H H':Hp) (h h':Heap):Prop where
  keep:∀ b o,h.get? b=some o→H b=none→b ∉ fs→b ∉ ex→h'.get? b=some o
  slot:∀ b o,h.get? b=some o→H b=none→b∈fs→b ∉ ex→∃ sl,h'.get? b=some { o with slots:=sl }
  free:∀ b o,h.get? b=some o→H b=none→b ∉ ex→H' b=none
  there:∀ b o,h.get? b=some o→b ∉ ex→∃ o',h'.get? b=some o'
  tups:∀ b xs,H b=some (.tup xs)→H' b=some (.tup xs)
  frzs:∀ b o u,H b=some (.frz o u)→H' b=some (.frz o u)
  tbls:∀ b ps,H b=some (.tbl ps)→∃ more,H' b=some (.tbl (ps++more))
section
variable {fs fs' ex ex':List Addr} {H H1 H2:Hp} {h h1 h2 h':Heap} {a x e:Addr} {o:HO}
theorem Un.any (u:Un fs ex H H1 h h1) {b:Addr} {ob:Obj} (q:h.get? b=some ob) (n:H b=none) (hx:b ∉ ex):∃ sl,h1.get? b=some { ob with slots:=sl }:=by
  by_cases hb:b∈fs
  · exact u.slot b ob q n hb hx
  · exact ⟨ob.slots,u.keep b ob q n hb hx⟩
theorem Un.trans (a:Un fs ex H H1 h h1) (b:Un fs ex H1 H2 h1 h2):Un fs ex H H2 h h2 where
  keep:=fun c ob q n hc hx=>b.keep c ob (a.keep c ob q n hc hx) (a.free c ob q n hx) hc hx
  slot:=fun c ob q n hc hx=>by
    obtain ⟨sl,e1⟩:=a.slot c ob q n hc hx
    obtain ⟨sl',e2⟩:=b.slot c _ e1 (a.free c ob q n hx) hc hx
    exact ⟨sl',e2⟩
  free:=fun c ob q n hx=>by
    obtain ⟨o',e1⟩:=a.there c ob q hx
    exact b.free c o' e1 (a.free c ob q n hx) hx
  there:=fun c ob q hx=>by
    obtain ⟨o',e1⟩:=a.there c ob q hx
    exact b.there c o' e1 hx
  tups:=fun c xs q=>b.tups c xs (a.tups c xs q)
  frzs:=fun c ob xs q=>b.frzs c ob xs (a.frzs c ob xs q)
  tbls:=fun c ps q=>by
    obtain ⟨m1,e1⟩:=a.tbls c ps q
    obtain ⟨m2,e2⟩:=b.tbls c _ e1
    exact ⟨m1++m2,by rw [e2,Array.append_assoc]⟩
theorem Un.kept (k:∀ b u,h.get? b=some u→h'.get? b=some u):Un fs ex H H h h' :=
  ⟨fun b ob q _ _ _=>k b ob q,fun b ob q _ _ _=>⟨ob.slots,k b ob q⟩,fun _ _ _ n _=>n,fun b ob q _=>⟨ob,k b ob q⟩,fun _ _ q=>q,fun _ _ _ q=>q,fun _ ps q=>⟨#[],by rw [q]; simp⟩⟩
theorem Un.refl:Un fs ex H H h h:=Un.kept fun _ _ q=>q
theorem Un.laid (k:∀ b u,h.get? b=some u→h'.get? b=some u) (hp:h.objs.size≤a) (hn:H a=none):Un fs ex H (upd H a o) h h' where
  keep:=fun b u q _ _ _=>k b u q
  slot:=fun b u q _ _ _=>⟨u.slots,k b u q⟩
  free:=fun b u q n _=>by rw [ZZ (Nat.ne_of_lt (Nat.lt_of_lt_of_le (Heap.lt_size q) hp))]; exact n
  there:=fun b u q _=>⟨u,k b u q⟩
  tups:=fun b xs q=>by rw [ZZ (Qu q hn)]; exact q
  frzs:=fun b u xs q=>by rw [ZZ (Qu q hn)]; exact q
  tbls:=fun b ps q=>⟨#[],by rw [ZZ (Qu q hn),q]; simp⟩
theorem Un.write (mu:Mut (H x)) (he:e=x∨H e=some (.own x)) (k:∀ b u,b≠e→h.get? b=some u→h'.get? b=some u) (heo:∃ u,h'.get? e=some u):Un fs ex H (upd H x o) h h':=by
  have hx:∀ b,H b=none→b≠x:=fun b n z=>by subst z; rw [n] at mu; exact mu
  have hb:∀ b,H b=none→b≠e:=fun b n z=>by
    subst z
    rcases he with r | r
    · exact hx b n r
    · rw [n] at r; cases r
  have hm:∀ b u,H b=some u→¬ Mut (some u)→b≠x:=fun b u q nm z=>by subst z; rw [q] at mu; exact nm mu
  refine ⟨fun b u q n _ _=>k b u (hb b n) q,fun b u q n _ _=>⟨u.slots,k b u (hb b n) q⟩,fun b u q n _=>by rw [ZZ (hx b n)]; exact n,fun b u q _=>?_,
    fun b xs q=>by rw [ZZ (hm b _ q fun z=>z)]; exact q,fun b u xs q=>by rw [ZZ (hm b _ q fun z=>z)]; exact q,fun b ps q=>⟨#[],by rw [ZZ (hm b _ q fun z=>z),q]; simp⟩⟩
  by_cases hbe:b=e
  · subst hbe; exact heo
  · exact ⟨u,k b u hbe q⟩
theorem Un.mono (u:Un fs ex H H1 h h1) (hs:∀ b∈fs,b∈fs') (hx:∀ b∈ex,b∈ex'):Un fs' ex' H H1 h h1 :=
  ⟨fun b ob q n hb he=>u.keep b ob q n (fun z=>hb (hs b z)) fun z=>he (hx b z),fun _ _ q n _ he=>u.any q n fun z=>he (hx _ z),fun b ob q n he=>u.free b ob q n fun z=>he (hx b z),fun b ob q he=>u.there b ob q fun z=>he (hx b z),u.tups,u.frzs,u.tbls⟩
end
noncomputable def trk (h:Heap) (H:Hp):List Addr:=(List.range h.objs.size).filter fun a=>(H a).isSome
noncomputable def hidT (h:Heap) (H:Hp):Heap:=PySem.W.hideAll h (trk h H)
theorem Zif (h:Heap) (H:Hp):(hidT h H).objs.size=h.objs.size:=PySem.W.hideAll_size _ _
theorem Zj1 {h:Heap} {H:Hp} {b:Addr} {o:Obj} (e:h.get? b=some o) (n:H b=none):(hidT h H).get? b=some o :=
  PySem.W.hideAll_get _ e fun hm=>by
    have q:(H b).isSome=true:=(List.mem_filter.mp hm).2
    rw [n] at q; simp at q
theorem ZlL {h:Heap} {H:Hp} {b:Addr} {o:Obj} (e:(hidT h H).get? b=some o):h.get? b=some o∧H b=none:=by
  have e':h.get? b=some o:=PySem.W.of_hideAll (trk h H) e
  refine ⟨e',?_⟩
  cases q:H b with
  | none=>rfl
  | some x =>
    have hm:b∈trk h H:=List.mem_filter.mpr ⟨List.mem_range.mpr (Heap.lt_size e'),by simp [q]⟩
    have z:(hidT h H).get? b=none:=PySem.W.hideAll_none (trk h H) hm
    rw [z] at e; cases e
noncomputable def Zmt (g h:Heap) (L:Addr):List (Addr×Obj):=(List.range h.objs.size).filterMap fun a=>if a=L∨(g.get? a).isSome=true then none else (h.get? a).map fun o=>(a,o)
noncomputable def rest (g h:Heap) (L d:Addr):List (Addr×Obj):=(Zmt g h L).filter fun p=>decide (p.1≠d)
end L2
namespace L2
open PySem PySem.Spec PyProof.Rows
structure Mod (K:PySem.W.Frag) (mg:Str→Option Value) (base:Heap):Prop where
  kin:K.In base
  glob:base.Ns mainGlobals mg
  blt:∃ mb,base.Ns builtinsNs mb∧∀ x:Str,x≠"__name__"→mb x=bootBuiltins x
  nolimit:base.NoLimit
structure Cx where
  prog:Program
  w:World
  K:PySem.W.Frag
  mg:Str→Option Value
  base:Heap
  A:Around
  N:List Str
  s₀:Shared
  H₀:Hp
  env:Env
  outer:List Env
  stack:List Env
  ex:List Addr
  fn:Str→Bool
  calm:Bool
  pn:List (Addr×Obj)
  xe:Value→Shared→Prop
noncomputable def frs (l:List Env):List Addr:=l.filterMap (·.frame)
noncomputable abbrev Cx.fs (X:Cx):List Addr:=frs X.outer
noncomputable def Vis (sc:Scope) (x:Str):Prop:=sc.names.lookup x=some .local∨sc.names.lookup x=some .cell∨sc.names.lookup x=some .free
noncomputable def Loc (sc:Scope) (x:Str):Prop:=sc.names.lookup x=some .local∨sc.names.lookup x=some .cell
noncomputable def Look (env:Env) (h:Heap) (m:Str→Option Value) (x:Str) (u:Value):Prop :=
  (env.kindOf x=some .local∧m x=some u)∨((env.kindOf x=some .cell∨env.kindOf x=some .free)∧∃ c,env.cells.lookup x=some c∧h.IsCell c (some u))
structure Cx.Ok (X:Cx):Prop where
  mod:Mod X.K X.mg X.base
  kind:X.env.scope.kind = .function
  glob:X.env.globals=mainGlobals
  blt:X.env.builtins=builtinsNs
  above:X.s₀.heap.objs.size≤X.env.locals
  inj:∀ x y c,X.env.cells.lookup x=some c→X.env.cells.lookup y=some c→x=y
  has:∀ x,(X.env.kindOf x=some .cell∨X.env.kindOf x=some .free)→∃ c,X.env.cells.lookup x=some c
  cab:∀ x c,X.fn x=true→X.env.cells.lookup x=some c→X.s₀.heap.objs.size≤c
  hd:X.calm=true→X.A.handled=none
  frames:X.A.frames=some X.stack
  stk:X.stack=X.outer∨(X.stack=X.env :: X.outer∧X.env.frame=some X.env.locals)
  exf:∀ b∈X.ex,b≠X.env.locals∧∀ x c,X.env.cells.lookup x=some c→c≠b
  bs:∀ b o,X.base.get? b=some o→X.s₀.heap.get? b=some o∧X.H₀ b=none
  bsz:X.base.objs.size≤X.s₀.heap.objs.size
  noex:∀ b o,X.base.get? b=some o→b ∉ X.ex
  exfs:∀ b∈X.ex,b ∉ X.fs
  funs:X.s₀.heap.FunFrames X.base X.outer
  frf:∀ b∈X.fs,X.H₀ b=none
structure Inv (X:Cx) (pins:List (Addr×Obj)) (σ:List (Option V)) (H:Hp) (s:Shared):Prop where
  ok:X.Ok
  os:s.os=X.s₀.os
  bare:AllBare s.gens
  base:Un X.fs X.ex X.H₀ H X.s₀.heap s.heap
  loc:∃ m,s.heap.Ns X.env.locals m∧∀ (i:Nat) (x:Str) (v:V),X.N[i]? = some x→σ[i]? = some (some v)→Vis X.env.scope x→∃ u,RelV v u∧Look X.env s.heap m x u
  cell:∀ x c,X.env.cells.lookup x=some c→∃ v,s.heap.IsCell c v
  free:H X.env.locals=none
  freeC:∀ x c,X.env.cells.lookup x=some c→H c=none
  pin:∀ p∈X.pn++pins,s.heap.get? p.1=some p.2∧H p.1=none∧p.1≠X.env.locals∧p.1 ∉ X.fs∧∀ v,p.2.data≠.cell v
  hok:HOk X.prog X.w H s.heap
  len:σ.length=X.N.length
section
variable {X:Cx} {pins:List (Addr×Obj)} {σ:List (Option V)} {H H':Hp} {s:Shared} {h':Heap}
theorem Cx.Ok.nofr (ok:X.Ok) {b:Addr} {o:Obj} (e:X.base.get? b=some o):b ∉ X.fs:=fun hb=>by
  have:=(ok.funs.mem hb).1
  rw [e] at this; cases this
theorem Inv.bs (I:Inv X pins σ H s):∀ b o,X.base.get? b=some o→s.heap.get? b=some o∧H b=none:=fun b o e =>
  ⟨I.base.keep b o (I.ok.bs b o e).1 (I.ok.bs b o e).2 (I.ok.nofr e) (I.ok.noex b o e),I.base.free b o (I.ok.bs b o e).1 (I.ok.bs b o e).2 (I.ok.noex b o e)⟩
theorem Inv.bk (I:Inv X pins σ H s):∀ b o,X.base.get? b=some o→s.heap.get? b=some o:=fun b o e=>(I.bs b o e).1
theorem Inv.mod (I:Inv X pins σ H s):Mod X.K X.mg X.base:=I.ok.mod
theorem Inv.kIn (I:Inv X pins σ H s):X.K.In s.heap:=I.ok.mod.kin.keeps I.bk
theorem Inv.nolimit (I:Inv X pins σ H s):s.heap.NoLimit:=I.ok.mod.nolimit.keeps I.bk
theorem Inv.lt (I:Inv X pins σ H s):X.env.locals < s.heap.objs.size:=let ⟨_,hn,_⟩:=I.loc; hn.lt
theorem Inv.sz (I:Inv X pins σ H s):X.s₀.heap.objs.size≤s.heap.objs.size:=Nat.le_trans I.ok.above (Nat.le_of_lt I.lt)
theorem Inv.nofs (I:Inv X pins σ H s) {a:Addr} (h:s.heap.objs.size≤a):a ∉ X.fs:=fun hb=>by
  obtain ⟨_,o,ho,_⟩:=I.ok.funs.mem hb
  exact absurd (Nat.lt_of_lt_of_le (Heap.lt_size ho) (Nat.le_trans I.sz h)) (Nat.lt_irrefl _)
theorem Inv.cne (I:Inv X pins σ H s):∀ x c,X.env.cells.lookup x=some c→c≠X.env.locals:=fun x c e z=>by
  obtain ⟨v,o,ho,hd⟩:=I.cell x c e
  obtain ⟨m,⟨o',es,ep,ho',hd',_⟩,_⟩:=I.loc
  rw [z,ho'] at ho; cases ho; rw [hd'] at hd; cases hd
theorem Inv.funs (I:Inv X pins σ H s):s.heap.FunFrames X.base X.outer:=by
  have all:∀ (l:List Env),(∀ b∈frs l,b∈X.fs)→X.s₀.heap.FunFrames X.base l→s.heap.FunFrames X.base l:=by
    intro l
    induction l with
    | nil=>intro _ _; trivial
    | cons env r ih =>
      intro hs hl
      obtain ⟨hk,⟨L,o,hf,hn,ho,hd⟩,hr⟩:=hl
      have hL:L∈X.fs:=hs L (by unfold frs; rw [List.filterMap_cons,hf]; exact List.mem_cons_self)
      obtain ⟨sl,e⟩:=I.base.slot L o ho (I.ok.frf L hL) hL fun z=>I.ok.exfs L z hL
      exact ⟨hk,⟨L,_,hf,hn,e,hd⟩,ih (fun b hb=>hs b (by unfold frs; rw [List.filterMap_cons,hf]; exact List.mem_cons_of_mem _ hb)) hr⟩
  exact all X.outer (fun _ hb=>hb) I.ok.funs
theorem Inv.stack (I:Inv X pins σ H s):s.heap.FunFrames X.base X.stack:=by
  rcases I.ok.stk with e | ⟨e,hf⟩
  · rw [e]; exact I.funs
  · rw [e]
    obtain ⟨m,hn,_⟩:=I.loc
    refine .cons (by rw [I.ok.kind]; decide) hf hn ?_ I.funs
    exact Heap.get?_none_of_le (Nat.le_trans I.ok.bsz I.ok.above)
theorem Inv.stkSub (I:Inv X pins σ H s):∀ b∈frs X.stack,b∈X.env.locals :: X.fs:=fun b hb=>by
  rcases I.ok.stk with e | ⟨e,hf⟩
  · rw [e] at hb; exact List.mem_cons_of_mem _ hb
  · rw [e] at hb
    unfold frs at hb
    rw [List.filterMap_cons,hf] at hb
    exact hb
theorem Inv.stkFree (I:Inv X pins σ H s):∀ b∈frs X.stack,H b=none:=fun b hb=>by
  rcases List.mem_cons.mp (I.stkSub b hb) with e | hb
  · rw [e]; exact I.free
  · obtain ⟨_,o,ho,_⟩:=I.ok.funs.mem hb
    exact I.base.free b o ho (I.ok.frf b hb) fun z=>I.ok.exfs b z hb
theorem Inv.step {g':Array GenState} {t':Nat} {d':Drawn} {ch:List Addr} (I:Inv X pins σ H s)
    (hch:∀ b∈ch,(b∈X.ex∨X.s₀.heap.objs.size≤b)∧b≠X.env.locals∧(∀ x c,X.env.cells.lookup x=some c→c≠b)∧∀ p∈X.pn++pins,p.1≠b)
    (keep:∀ b o,b≠X.env.locals→b ∉ X.fs→b ∉ ch→s.heap.get? b=some o→H b=none→h'.get? b=some o)
    (slot:∀ b o,b≠X.env.locals→b∈X.fs→b ∉ ch→s.heap.get? b=some o→H b=none→∃ sl,h'.get? b=some { o with slots:=sl }) (free:∀ b o,b ∉ ch→s.heap.get? b=some o→H b=none→H' b=none)
    (there:∀ b o,b ∉ ch→s.heap.get? b=some o→∃ o',h'.get? b=some o')
    (tups:∀ b xs,H b=some (.tup xs)→H' b=some (.tup xs)) (frzs:∀ b o u,H b=some (.frz o u)→H' b=some (.frz o u)) (tbls:∀ b ps,H b=some (.tbl ps)→∃ more,H' b=some (.tbl (ps++more)))
    (ns:∀ m,s.heap.Ns X.env.locals m→h'.Ns X.env.locals m) (hok:HOk X.prog X.w H' h') (hg:AllBare g') :
    Inv X pins σ H' { s with heap:=h',gens:=g',drawn:=d',toks:=t' }:=by
  have neL:∀ b o,X.s₀.heap.get? b=some o→b≠X.env.locals:=fun b o e=>Nat.ne_of_lt (Nat.lt_of_lt_of_le (Heap.lt_size e) I.ok.above)
  have neC:∀ b o,X.s₀.heap.get? b=some o→b ∉ X.ex→b ∉ ch:=fun b o e hx hb=>by
    rcases (hch b hb).1 with z | z
    · exact hx z
    · exact absurd (Nat.lt_of_lt_of_le (Heap.lt_size e) z) (Nat.lt_irrefl _)
  have cellK:∀ x c,X.env.cells.lookup x=some c→∀ v,s.heap.IsCell c v→h'.IsCell c v:=fun x c e v ⟨o,ho,hd⟩=>by
    have nch:c ∉ ch:=fun z=>(hch c z).2.2.1 x c e rfl
    by_cases hc:c∈X.fs
    · obtain ⟨sl,q⟩:=slot c o (I.cne x c e) hc nch ho (I.freeC x c e)
      exact ⟨_,q,hd⟩
    · exact ⟨o,keep c o (I.cne x c e) hc nch ho (I.freeC x c e),hd⟩
  refine ⟨I.ok,I.os,hg,⟨fun b o e n hb hx=>?_,fun b o e n hb hx=>?_,fun b o e n hx=>?_,fun b o e hx=>?_,fun b xs e=>tups b xs (I.base.tups b xs e),fun b o xs e=>frzs b o xs (I.base.frzs b o xs e),fun b ps e=>?_⟩,?_,fun x c e=>?_,?_,fun x c e=>?_,fun p hp=>?_,hok,I.len⟩
  · exact keep b o (neL b o e) hb (neC b o e hx) (I.base.keep b o e n hb hx) (I.base.free b o e n hx)
  · obtain ⟨sl,e1⟩:=I.base.slot b o e n hb hx
    obtain ⟨sl',e2⟩:=slot b _ (neL b o e) hb (neC b o e hx) e1 (I.base.free b o e n hx)
    exact ⟨sl',e2⟩
  · obtain ⟨o',e1⟩:=I.base.there b o e hx
    exact free b o' (neC b o e hx) e1 (I.base.free b o e n hx)
  · obtain ⟨o',e1⟩:=I.base.there b o e hx
    exact there b o' (neC b o e hx) e1
  · obtain ⟨m1,e1⟩:=I.base.tbls b ps e
    obtain ⟨m2,e2⟩:=tbls b _ e1
    exact ⟨m1++m2,by rw [e2,Array.append_assoc]⟩
  · obtain ⟨m,hn,hl⟩:=I.loc
    refine ⟨m,ns m hn,fun i x v e1 e2 e3=>?_⟩
    obtain ⟨u,r,l⟩:=hl i x v e1 e2 e3
    refine ⟨u,r,?_⟩
    rcases l with l | ⟨k,c,e,z⟩
    · exact .inl l
    · exact .inr ⟨k,c,e,cellK x c e _ z⟩
  · obtain ⟨v,z⟩:=I.cell x c e
    exact ⟨v,cellK x c e v z⟩
  · obtain ⟨m,⟨o,_,_,ho,_⟩,_⟩:=I.loc
    exact free _ o (fun z=>(hch _ z).2.1 rfl) ho I.free
  · obtain ⟨v,o,ho,hd⟩:=I.cell x c e
    exact free c o (fun z=>(hch c z).2.2.1 x c e rfl) ho (I.freeC x c e)
  · obtain ⟨e,n,ne,nf,d⟩:=I.pin p hp
    have nch:p.1 ∉ ch:=fun z=>(hch p.1 z).2.2.2 p hp rfl
    exact ⟨keep p.1 p.2 ne nf nch e n,free p.1 p.2 nch e n,ne,nf,d⟩
theorem Inv.un {t':Nat} (I:Inv X pins σ H s) (u:Un X.fs [] H H' s.heap h') (hok:HOk X.prog X.w H' h'):Inv X pins σ H' { s with heap:=h',toks:=t' }:=by
  obtain ⟨m,⟨o,es,ep,ho,r⟩,_⟩:=id I.loc
  obtain ⟨sl,hL⟩:=u.any ho I.free (by simp)
  exact I.step (g':=s.gens) (d':=s.drawn) (ch:=[]) (fun _ z=>nomatch z) (fun b o _ hb _ e n=>u.keep b o e n hb (by simp)) (fun b o _ hb _ e n=>u.slot b o e n hb (by simp)) (fun b o _ e n=>u.free b o e n (by simp)) (fun b o _ e=>u.there b o e (by simp)) u.tups u.frzs u.tbls (fun m' hm=>by
    obtain ⟨o',es',ep',ho',r'⟩:=hm
    rw [ho] at ho'; cases ho'
    exact ⟨_,es',ep',hL,r'⟩) hok I.bare
theorem Inv.call {g':Array GenState} {t':Nat} {d':Drawn} {ch:List Addr} (I:Inv X pins σ H s) (u:Un (frs X.stack) ch H H' s.heap h') (hok:HOk X.prog X.w H' h') (hg:AllBare g')
    (hch:∀ b∈ch,(b∈X.ex∨X.s₀.heap.objs.size≤b)∧b≠X.env.locals∧(∀ x c,X.env.cells.lookup x=some c→c≠b)∧∀ p∈X.pn++pins,p.1≠b) :
    Inv X pins σ H' { s with heap:=h',gens:=g',drawn:=d',toks:=t' }:=by
  obtain ⟨m,⟨o,es,ep,ho,r⟩,_⟩:=id I.loc
  obtain ⟨sl,hL⟩:=u.any ho I.free fun z=>(hch _ z).2.1 rfl
  exact I.step (ch:=ch) hch (fun b o hL hb hc e n=>u.keep b o e n (fun z=>(List.mem_cons.mp (I.stkSub b z)).elim hL hb) hc) (fun b o _ _ hc e n=>u.any e n hc) (fun b o hc e n=>u.free b o e n hc) (fun b o hc e=>u.there b o e hc) u.tups u.frzs u.tbls (fun m' hm=>by
    obtain ⟨o',es',ep',ho',r'⟩:=hm
    rw [ho] at ho'; cases ho'
    exact ⟨_,es',ep',hL,r'⟩) hok hg
theorem Inv.turned {t':Nat} {it:Addr} (I:Inv X pins σ H s) (k:∀ b o,b≠it→s.heap.get? b=some o→h'.get? b=some o) (hn:H it=none) (hL:it≠X.env.locals)
    (h1:it∈X.ex∨X.s₀.heap.objs.size≤it) (h2:∀ x c,X.env.cells.lookup x=some c→c≠it) (h3:∀ p∈X.pn++pins,p.1≠it):Inv X pins σ H { s with heap:=h',toks:=t' }:=by
  have nit:∀ b u,H b=some u→b≠it:=fun b u e z=>by rw [z,hn] at e; cases e
  refine I.step (g':=s.gens) (d':=s.drawn) (ch:=[it]) (fun b hb=>?_) (fun b o _ _ hc e _=>k b o (fun z=>hc (by simp [z])) e) (fun b o _ _ hc e _=>⟨o.slots,k b o (fun z=>hc (by simp [z])) e⟩) (fun _ _ _ _ n=>n)
    (fun b o hc e=>⟨o,k b o (fun z=>hc (by simp [z])) e⟩) (fun _ _ e=>e) (fun _ _ _ e=>e) (fun b ps e=>⟨#[],by rw [e]; simp⟩) (fun m hm=>?_) (fun b u e=>?_) I.bare
  · have e:b=it:=by simpa using hb
    subst e
    exact ⟨h1,hL,h2,h3⟩
  · obtain ⟨o,es,ep,ho,r⟩:=hm
    exact ⟨o,es,ep,k _ o (Ne.symm hL) ho,r⟩
  · refine (I.hok b u e).stay (fun c v hc q=>k c v ?_ q) (fun _ q=>q) fun _ _ q=>q
    rcases hc with z | z
    · rw [z]; exact nit b u e
    · exact nit c _ z
theorem Inv.tok (I:Inv X pins σ H s) (t:Nat):Inv X pins σ H { s with toks:=t }:=I.un (h':=s.heap) (t':=t) Un.refl I.hok
theorem Inv.kept {t':Nat} (I:Inv X pins σ H s) (k:∀ b u,s.heap.get? b=some u→h'.get? b=some u):Inv X pins σ H { s with heap:=h',toks:=t' }:=I.un (Un.kept k) (I.hok.kept k)
theorem Inv.laid {a:Addr} {o:HO} {t':Nat} (I:Inv X pins σ H s) (k:∀ b u,s.heap.get? b=some u→h'.get? b=some u) (hp:s.heap.objs.size≤a) (new:QZ X.prog X.w (upd H a o) h' a o) :
    Inv X pins σ (upd H a o) { s with heap:=h',toks:=t' }:=I.un (Un.laid k hp (I.hok.fresh hp)) (I.hok.laid k hp new)
theorem Inv.write {x e:Addr} {o:HO} {t':Nat} (I:Inv X pins σ H s) (mu:Mut (H x)) (he:e=x∨H e=some (.own x)) (k:∀ b u,b≠e→s.heap.get? b=some u→h'.get? b=some u) (heo:∃ u,h'.get? e=some u)
    (new:QZ X.prog X.w (upd H x o) h' x o):Inv X pins σ (upd H x o) { s with heap:=h',toks:=t' }:=I.un (Un.write mu he k heo) (I.hok.write mu he k heo new)
theorem Inv.pins_of {pins':List (Addr×Obj)} (I:Inv X pins σ H s) (h:∀ p∈pins',s.heap.get? p.1=some p.2∧H p.1=none∧p.1≠X.env.locals∧p.1 ∉ X.fs∧∀ v,p.2.data≠.cell v):Inv X pins' σ H s :=
  ⟨I.ok,I.os,I.bare,I.base,I.loc,I.cell,I.free,I.freeC,fun p hp=>(List.mem_append.mp hp).elim (fun z=>I.pin p (List.mem_append_left _ z)) (h p),I.hok,I.len⟩
theorem Zfu {N:List Str} (hN:N.Nodup) {i j:Nat} {x:Str} (a:N[i]? = some x) (b:N[j]? = some x):i=j:=by
  obtain ⟨h1,e1⟩:=List.getElem?_eq_some_iff.mp a
  obtain ⟨h2,e2⟩:=List.getElem?_eq_some_iff.mp b
  exact (List.getElem_inj hN).mp (e1.trans e2.symm)
theorem Zdm {M:Model} {A:Around} {E:Value→Shared→Prop} {i:Nat} {x:Str} {v:V} {u:Value} {Q:Unit→Shared→Prop} (I:Inv X pins σ H s) (hN:X.N.Nodup) (hi:X.N[i]? = some x) (hx:Loc X.env.scope x) (r:RelV v u)
    (h:∀ s',Inv X pins (σ.set i (some v)) H s'→(∃ a,Heap.SameBut a s.heap s'.heap∧(a=X.env.locals∨X.env.cells.lookup x=some a))→Q () s') (hf:X.fn x=true∨X.env.scope.names.lookup x=some .local:=by first | exact .inl rfl | exact .inr rfl | assumption):wpAny M A (storeName X.env x u) Q E s:=by
  obtain ⟨m,hn,hl⟩:=id I.loc
  have hcls:(X.env.scope.kind == .class || (X.env.scope.kind == .module && X.env.locals != X.env.globals))=false:=by rw [I.ok.kind]; rfl
  have hiσ:i < σ.length:=by rw [I.len]; exact (List.getElem?_eq_some_iff.mp hi).1
  have cne:=I.cne
  have tracked:∀ {a:Addr} {h':Heap},(∃ o,s.heap.get? a=some o∧H a=none)→Heap.SameBut a s.heap h'→HOk X.prog X.w H h':=fun {a h'} ha hs b ob e=>by
    obtain ⟨_,_,hfree⟩:=ha
    refine (I.hok b ob e).stay (fun c w' hc q=>(hs.2 c ?_).trans q) (fun _ q=>q) fun _ _ q=>q
    rintro rfl
    rcases hc with rfl | hc
    · rw [hfree] at e; cases e
    · rw [hfree] at hc; cases hc
  rcases hx with hk | hk
  · refine wpAny_storeName_local hk hn (fun h' hn' hs=>?_) hcls
    obtain ⟨oL,_,_,hoL,_⟩:=id hn
    refine h _ ⟨I.ok,I.os,I.bare,⟨fun b o e n hb hx=>?_,fun b o e n hb hx=>?_,I.base.free,fun b o e hx=>?_,I.base.tups,I.base.frzs,I.base.tbls⟩,⟨_,hn',fun j y v' e1 e2 e3=>?_⟩,fun y c e=>?_,I.free,I.freeC,fun p hp=>?_,tracked ⟨oL,hoL,I.free⟩ hs,by simpa using I.len⟩ ⟨_,hs,.inl rfl⟩
    · exact (hs.2 b (Nat.ne_of_lt (Nat.lt_of_lt_of_le (Heap.lt_size e) I.ok.above))).trans (I.base.keep b o e n hb hx)
    · obtain ⟨sl,e1⟩:=I.base.slot b o e n hb hx
      exact ⟨sl,(hs.2 b (Nat.ne_of_lt (Nat.lt_of_lt_of_le (Heap.lt_size e) I.ok.above))).trans e1⟩
    · obtain ⟨o',e1⟩:=I.base.there b o e hx
      exact ⟨o',(hs.2 b (Nat.ne_of_lt (Nat.lt_of_lt_of_le (Heap.lt_size e) I.ok.above))).trans e1⟩
    · by_cases hj:j=i
      · subst hj
        rw [hi] at e1; cases e1
        rw [List.getElem?_set_self hiσ] at e2
        cases e2
        exact ⟨u,r,.inl ⟨hk,by simp⟩⟩
      · rw [List.getElem?_set_ne (Ne.symm hj)] at e2
        obtain ⟨u',r',q⟩:=hl j y v' e1 e2 e3
        refine ⟨u',r',?_⟩
        rcases q with ⟨k,e⟩ | ⟨k,c,e,z⟩
        · refine .inl ⟨k,?_⟩
          have:y≠x:=fun e=>hj (Zfu hN e1 (e ▸ hi))
          simp [this,e]
        · exact .inr ⟨k,c,e,z.sameBut hs (cne y c e)⟩
    · obtain ⟨w',z⟩:=I.cell y c e
      exact ⟨w',z.sameBut hs (cne y c e)⟩
    · obtain ⟨e,n,ne,nf,d⟩:=I.pin p hp
      exact ⟨(hs.2 p.1 ne).trans e,n,ne,nf,d⟩
  · have hfn:X.fn x=true:=by
      rcases hf with z | z
      · exact z
      · rw [z] at hk; cases hk
    obtain ⟨c,hc⟩:=I.ok.has x (.inl hk)
    obtain ⟨w',z⟩:=I.cell x c hc
    refine wpAny_storeName_cell I.ok.kind hk hc z (fun h' hc' hs=>?_)
    obtain ⟨oc,hoc,hocd⟩:=id z
    refine h { s with heap:=h' } ⟨I.ok,I.os,I.bare,⟨fun b o e n hb hx=>?_,fun b o e n hb hx=>?_,I.base.free,fun b o e hx=>?_,I.base.tups,I.base.frzs,I.base.tbls⟩,⟨m,hn.sameBut hs (Ne.symm (cne x c hc)),fun j y v' e1 e2 e3=>?_⟩,fun y c' e=>?_,I.free,I.freeC,fun p hp=>?_,tracked ⟨oc,hoc,I.freeC x c hc⟩ hs,by simpa using I.len⟩ ⟨c,hs,.inr hc⟩
    · exact (hs.2 b (Nat.ne_of_lt (Nat.lt_of_lt_of_le (Heap.lt_size e) (I.ok.cab x c hfn hc)))).trans (I.base.keep b o e n hb hx)
    · obtain ⟨sl,e1⟩:=I.base.slot b o e n hb hx
      exact ⟨sl,(hs.2 b (Nat.ne_of_lt (Nat.lt_of_lt_of_le (Heap.lt_size e) (I.ok.cab x c hfn hc)))).trans e1⟩
    · obtain ⟨o',e1⟩:=I.base.there b o e hx
      exact ⟨o',(hs.2 b (Nat.ne_of_lt (Nat.lt_of_lt_of_le (Heap.lt_size e) (I.ok.cab x c hfn hc)))).trans e1⟩
    · by_cases hj:j=i
      · subst hj
        rw [hi] at e1; cases e1
        rw [List.getElem?_set_self hiσ] at e2
        cases e2
        exact ⟨u,r,.inr ⟨.inl hk,c,hc,hc'⟩⟩
      · rw [List.getElem?_set_ne (Ne.symm hj)] at e2
        obtain ⟨u',r',q⟩:=hl j y v' e1 e2 e3
        refine ⟨u',r',?_⟩
        rcases q with q | ⟨k,c',e,z'⟩
        · exact .inl q
        · refine .inr ⟨k,c',e,z'.sameBut hs ?_⟩
          rintro rfl
          exact hj (Zfu hN e1 (I.ok.inj _ _ _ e hc ▸ hi))
    · by_cases hcc:c' = c
      · subst hcc; exact ⟨_,hc'⟩
      · obtain ⟨w2,z2⟩:=I.cell y c' e
        exact ⟨w2,z2.sameBut hs hcc⟩
    · obtain ⟨e,n,ne,nf,d⟩:=I.pin p hp
      refine ⟨(hs.2 p.1 ?_).trans e,n,ne,nf,d⟩
      intro q
      rw [q,hoc] at e
      have q':oc=p.2:=Option.some.inj e
      exact d w' (by rw [← q']; exact hocd)
theorem Zaa {M:Model} {A:Around} {E:Value→Shared→Prop} {i:Nat} {x:Str} {v:V} {u:Value} {Q:Unit→Shared→Prop} (I:Inv X pins σ H s) (hN:X.N.Nodup) (hi:X.N[i]? = some x) (hx:Loc X.env.scope x) (r:RelV v u)
    (h:∀ s',Inv X pins (σ.set i (some v)) H s'→Q () s') (hf:X.fn x=true∨X.env.scope.names.lookup x=some .local:=by first | exact .inl rfl | exact .inr rfl | assumption):wpAny M A (storeName X.env x u) Q E s :=
  Zdm I hN hi hx r (fun s' I' _=>h s' I') hf
theorem Inv.call' {s':Shared} {ch:List Addr} (I:Inv X pins σ H s) (ho:s'.os=s.os) (u:Un (frs X.stack) ch H H' s.heap s'.heap) (hok:HOk X.prog X.w H' s'.heap) (hg:AllBare s'.gens)
    (hch:∀ b∈ch,(b∈X.ex∨X.s₀.heap.objs.size≤b)∧b≠X.env.locals∧(∀ x c,X.env.cells.lookup x=some c→c≠b)∧∀ p∈X.pn++pins,p.1≠b):Inv X pins σ H' s':=by
  obtain ⟨h',g',d',t',o'⟩:=s'
  have e:o' = s.os:=ho
  subst e
  exact I.call (g':=g') (t':=t') (d':=d') u hok hg hch
end
noncomputable abbrev XK:=Value→Option Addr→Hp→Prop
noncomputable abbrev St:=List (Option V)
noncomputable abbrev VK:=V→Hp→Prop
noncomputable abbrev TE:=St→Hp→VK→Prop
noncomputable abbrev TT:=St→Hp→(Bool→Hp→Prop)→Prop
noncomputable abbrev TA:=St→Hp→(List V→Hp→Prop)→Prop
structure Ends where
  nx:St→Hp→Prop
  rt:VK
  bk:St→Hp→Prop:=fun _ _=>False
  ct:St→Hp→Prop:=fun _ _=>False
noncomputable abbrev TS:=Ends→St→Hp→Prop
noncomputable def EP (X:Cx) (pins:List (Addr×Obj)) (σ:St) (Q:VK) (u:Value) (s':Shared):Prop:=∃ v H',Inv X pins σ H' s'∧RelV v u∧Q v H'
noncomputable def TP (X:Cx) (pins:List (Addr×Obj)) (σ:St) (Q:Bool→Hp→Prop) (b:Bool) (s':Shared):Prop:=∃ H',Inv X pins σ H' s'∧Q b H'
noncomputable def AP (X:Cx) (pins:List (Addr×Obj)) (σ:St) (Q:List V→Hp→Prop) (us:List Value) (s':Shared):Prop:=∃ vs H',Inv X pins σ H' s'∧Vals vs us∧Q vs H'
noncomputable def SP (X:Cx) (pins:List (Addr×Obj)) (D:Ends) (f:Flow) (s':Shared):Prop :=
  match f with
  | .next=>∃ σ' H',Inv X pins σ' H' s'∧D.nx σ' H'
  | .brk=>∃ σ' H',Inv X pins σ' H' s'∧D.bk σ' H'
  | .cont=>∃ σ' H',Inv X pins σ' H' s'∧D.ct σ' H'
  | .ret u=>∃ v σ' H',Inv X pins σ' H' s'∧RelV v u∧D.rt v H'
noncomputable def PE (X:Cx) (e:Expr) (t:TE):Prop :=
  ∀ (pins:List (Addr×Obj)) (s:Shared) (σ:St) (H:Hp) (Q:VK),Inv X pins σ H s→t σ H Q→wpAny (model X.prog X.w) X.A (eval e X.env) (EP X pins σ Q) X.xe s
noncomputable def PT (X:Cx) (e:Expr) (t:TT):Prop :=
  ∀ (pins:List (Addr×Obj)) (s:Shared) (σ:St) (H:Hp) (Q:Bool→Hp→Prop),Inv X pins σ H s→t σ H Q→wpAny (model X.prog X.w) X.A (isTrue e X.env (eval e X.env)) (TP X pins σ Q) X.xe s
noncomputable def PW (X:Cx) (e:Expr) (t:TT):Prop :=
  ∀ (whole:Sem Value) (pins:List (Addr×Obj)) (s:Shared) (σ:St) (H:Hp) (Q:Bool→Hp→Prop),Inv X pins σ H s→t σ H Q→wpAny (model X.prog X.w) X.A (isTrue e X.env whole) (TP X pins σ Q) X.xe s
theorem PW.pt {X:Cx} {e:Expr} {t:TT} (h:PW X e t):PT X e t:=h _
noncomputable def PA (X:Cx) (es:List Expr) (t:TA):Prop :=
  ∀ (pos:Pos) (pins:List (Addr×Obj)) (s:Shared) (σ:St) (H:Hp) (Q:List V→Hp→Prop),Inv X pins σ H s→t σ H Q→wpAny (model X.prog X.w) X.A (spliced (backTo pos (starEach es X.env))) (AP X pins σ Q) X.xe s
noncomputable def PS (X:Cx) (st:Stmt) (t:TS):Prop :=
  ∀ (pins:List (Addr×Obj)) (s:Shared) (σ:St) (H:Hp) (D:Ends),Inv X pins σ H s→t D σ H→wpAny (model X.prog X.w) X.A (exec st X.env) (SP X pins D) X.xe s
noncomputable def PSs (X:Cx) (st:List Stmt) (t:TS):Prop :=
  ∀ (pins:List (Addr×Obj)) (s:Shared) (σ:St) (H:Hp) (D:Ends),Inv X pins σ H s→t D σ H→wpAny (model X.prog X.w) X.A (execs st X.env) (SP X pins D) X.xe s
theorem thn {α:Type} {t:Sem α} {Q Q':α→Shared→Prop} {M:Model} {A:Around} {E:Value→Shared→Prop} {s:Shared} (h:wpAny M A t Q E s) (hQ:∀ a s,Q a s→Q' a s):wpAny M A t Q' E s:=wpAny_mono h hQ fun _ _ x=>x
end L2
namespace L2
open PySem PySem.Spec PyProof.Rows
section
variable {X:Cx}
theorem bin {a b:Expr} {ta tb:TE} (ha:PE X a ta) (hb:PE X b tb) {pins:List (Addr×Obj)} {s:Shared} {σ:St} {H:Hp} {R:V→V→Hp→Prop} (I:Inv X pins σ H s) (h:ta σ H fun x H1=>tb σ H1 fun y H2=>R x y H2)
    {α:Type} {Q:α→Shared→Prop} {f:Value→Value→Sem α}
    (hf:∀ v u s2 x y H2,Inv X pins σ H2 s2→RelV x v→RelV y u→R x y H2→wpAny (model X.prog X.w) X.A (f v u) Q X.xe s2) :
    wpAny (model X.prog X.w) X.A (eval a X.env) (fun v s₁=>wpAny (model X.prog X.w) X.A (eval b X.env) (fun u s₂=>wpAny (model X.prog X.w) X.A (f v u) Q X.xe s₂) X.xe s₁) X.xe s:=by
  refine thn (ha pins s σ H _ I h) fun v s1 ⟨x,H1,I1,r1,q1⟩=>?_
  refine thn (hb pins s1 σ H1 _ I1 q1) fun u s2 ⟨y,H2,I2,r2,q2⟩=>?_
  exact hf v u s2 x y H2 I2 r1 r2 q2
noncomputable def tVar (i:Nat):TE:=fun σ H Q=>∃ v,σ[i]? = some (some v)∧Q v H
noncomputable def tC (v:V):TE:=fun _ H Q=>Q v H
theorem pe_var {i:Nat} {x:Str} {pos:Pos} (hN:X.N[i]? = some x) (hv:Vis X.env.scope x) (hd:(x == ("__debug__" : Str))=false:=by decide) (hcd:(x == ("__classdict__" : Str))=false:=by decide):PE X (.Name x pos) (tVar i):=by
  intro pins s σ H Q I h
  obtain ⟨v,e,h⟩:=h
  obtain ⟨m,hn,hl⟩:=I.loc
  obtain ⟨u,r,l⟩:=hl i x v hN e hv
  have fin:EP X pins σ Q u s:=⟨v,H,I,r,h⟩
  rcases l with ⟨hk,hm⟩ | ⟨hk,c,hc,hcell⟩
  · exact wpAny_Name (wpAny_loadName_local I.ok.kind hk hn hm fin) hd
  · rcases hk with hk | hk
    · exact wpAny_Name (wpAny_loadName_cell I.ok.kind hk hc hcell fin) hd
    · exact wpAny_Name (wpAny_loadName_free I.ok.kind hk hc hcell fin hcd) hd
theorem pe_int {i j pos}:PE X (.Constant (.int i) j pos) (tC (.int i)):=fun _ _ _ H _ I h=>wpAny_Constant_int ⟨.int i,H,I.tok _,⟨_,rfl⟩,h⟩
theorem pe_bl {b j pos}:PE X (.Constant (.bool b) j pos) (tC (.bl b)):=fun _ _ _ H _ I h=>Constant_bool ⟨.bl b,H,I,rfl,h⟩
theorem Zhw {x j pos}:PE X (.Constant (.str x) j pos) (tC (.str x)):=fun _ _ _ H _ I h=>Calls.Constant_str ⟨.str x,H,I.tok _,⟨_,rfl⟩,h⟩
noncomputable def Gl (X:Cx) (x:Str):Prop:=X.env.kindOf x=some .globalImplicit
theorem ZcZ {E:Value→Shared→Prop} {pins:List (Addr×Obj)} {s:Shared} {σ:St} {H:Hp} {x:Str} {u:Value} {pos:Pos} {Q:Value→Shared→Prop} (I:Inv X pins σ H s) (hg:Gl X x) (hm:X.mg x=some u) (h:Q u s)
    (hd:(x == ("__debug__" : Str))=false:=by decide):wpAny (model X.prog X.w) X.A (eval (.Name x pos) X.env) Q E s :=
  Calls.Name_function_global I.ok.kind hg (Calls.loadGlobal_global (by rw [I.ok.glob]; exact I.mod.glob.keeps I.bk) hm h) hd
theorem Zfy {E:Value→Shared→Prop} {pins:List (Addr×Obj)} {s:Shared} {σ:St} {H:Hp} {x:Str} {u:Value} {pos:Pos} {Q:Value→Shared→Prop} (I:Inv X pins σ H s) (hg:Gl X x) (hm:X.mg x=none) (hv:bootBuiltins x=some u) (h:Q u s)
    (hn:x≠"__name__":=by decide) (hd:(x == ("__debug__" : Str))=false:=by decide):wpAny (model X.prog X.w) X.A (eval (.Name x pos) X.env) Q E s:=by
  obtain ⟨mb,h1,h2⟩:=I.mod.blt
  exact Calls.Name_function_global I.ok.kind hg (Calls.loadGlobal_builtin (by rw [I.ok.glob]; exact I.mod.glob.keeps I.bk) hm (by rw [I.ok.blt]; exact h1.keeps I.bk) ((h2 x hn).trans hv) h) hd
theorem Zlr {x:Str} {v:V} {u:Value} {pos:Pos} (hg:Gl X x) (hm:X.mg x=some u) (r:RelV v u) (hd:(x == ("__debug__" : Str))=false:=by decide):PE X (.Name x pos) (tC v) :=
  fun _ _ _ H _ I h=>ZcZ I hg hm ⟨v,H,I,r,h⟩ hd
theorem ZlA {x:Str} {v:V} {u:Value} {pos:Pos} (hg:Gl X x) (hm:X.mg x=none) (hv:bootBuiltins x=some u) (r:RelV v u) (hn:x≠"__name__":=by decide) (hd:(x == ("__debug__" : Str))=false:=by decide):PE X (.Name x pos) (tC v) :=
  fun _ _ _ H _ I h=>Zfy I hg hm hv ⟨v,H,I,r,h⟩ hn hd
variable {a b:Expr} {ta tb:TE} {pos:Pos}
noncomputable def PC (X:Cx) (op:CmpOp) (a b:Expr) (t:TE):Prop :=
  ∀ (pins:List (Addr×Obj)) (s:Shared) (σ:St) (H:Hp) (Q:VK),Inv X pins σ H s→t σ H Q →
    wpAny (model X.prog X.w) X.A (eval a X.env) (fun v s₁=>wpAny (model X.prog X.w) X.A (eval b X.env) (fun u s₂=>wpAny (model X.prog X.w) X.A (compareOp op v u) (EP X pins σ Q) X.xe s₂) X.xe s₁) X.xe s
theorem ZjS (b:Expr) {op:CmpOp} (h:op≠.In) (h2:op≠.NotIn):behindInMarks op b=false:=by
  have e1:(op == CmpOp.In)=false:=by cases op <;> first | rfl | exact absurd rfl h
  have e2:(op == CmpOp.NotIn)=false:=by cases op <;> first | rfl | exact absurd rfl h2
  cases b <;> simp [behindInMarks,e1,e2]
noncomputable def tB (t:TE):TT:=fun σ H Q=>t σ H fun x H1=>∃ c,x = .bl c∧Q c H1
theorem pt_cmp {op:CmpOp} {t:TE} (h:PC X op a b t) (h1:behindInMarks op b=false:=by first | exact ZjS _ (by decide) (by decide) | rfl):PT X (.Compare a [op] [b] pos) (tB t):=by
  intro pins s σ H Q I hw
  refine wpAny_isTrue_Compare1 (thn (h pins s σ H _ I hw) fun v s1 h1=>thn h1 fun u s2 h2=>thn h2 fun c s3 ⟨x,H1,I1,r1,q1⟩=>?_) h1
  obtain ⟨d,rfl,q⟩:=q1
  cases r1
  exact wpAny_truthy_bool ⟨H1,I1,q⟩
variable {tA tB':TT} {rest:List Expr}
noncomputable def tAnd (t u:TT):TT:=fun σ H Q=>t σ H fun c H1=>if c=true then u σ H1 Q else Q false H1
noncomputable def tOr (t u:TT):TT:=fun σ H Q=>t σ H fun c H1=>if c=true then Q true H1 else u σ H1 Q
noncomputable def tNot (t:TT):TT:=fun σ H Q=>t σ H fun c H1=>Q (!c) H1
theorem Zk3 (ha:PT X a tA):PW X (.BoolOp .And [a] pos) tA:=by
  intro wh pins s σ H Q I h
  refine isTrue_and (thn (ha pins s σ H Q I h) fun c s1 e=>?_)
  cases c with
  | true=>exact isTrue_and_nil e
  | false=>exact e
theorem pw_or1 (ha:PT X a tA):PW X (.BoolOp .Or [a] pos) tA:=by
  intro wh pins s σ H Q I h
  refine isTrue_or (thn (ha pins s σ H Q I h) fun c s1 e=>?_)
  cases c with
  | false=>exact isTrue_or_nil e
  | true=>exact e
theorem pw_and (ha:PT X a tA) (hb:PW X (.BoolOp .And (b :: rest) pos) tB'):PW X (.BoolOp .And (a :: b :: rest) pos) (tAnd tA tB'):=by
  intro wh pins s σ H Q I h
  refine isTrue_and (thn (ha pins s σ H _ I h) fun c s1 ⟨H1,I1,q1⟩=>?_)
  cases c with
  | true=>exact hb wh pins s1 σ H1 Q I1 q1
  | false=>exact ⟨H1,I1,q1⟩
theorem pw_or (ha:PT X a tA) (hb:PW X (.BoolOp .Or (b :: rest) pos) tB'):PW X (.BoolOp .Or (a :: b :: rest) pos) (tOr tA tB'):=by
  intro wh pins s σ H Q I h
  refine isTrue_or (thn (ha pins s σ H _ I h) fun c s1 ⟨H1,I1,q1⟩=>?_)
  cases c with
  | true=>exact ⟨H1,I1,q1⟩
  | false=>exact hb wh pins s1 σ H1 Q I1 q1
theorem pt_not (ha:PT X a tA):PT X (.UnaryOp .Not a pos) (tNot tA):=by
  intro pins s σ H Q I h
  exact isTrue_not (ha pins s σ H (fun c H1=>Q (!c) H1) I h)
noncomputable def tAndV (ta tb:TE):TE:=fun σ H Q=>ta σ H fun x H1=>∃ c,x = .bl c∧if c=true then tb σ H1 Q else Q (.bl false) H1
noncomputable def tOrV (ta tb:TE):TE:=fun σ H Q=>ta σ H fun x H1=>∃ c,x = .bl c∧if c=true then Q (.bl true) H1 else tb σ H1 Q
noncomputable def tNotV (ta:TE):TE:=fun σ H Q=>ta σ H fun x H1=>∃ c,x = .bl c∧Q (.bl (!c)) H1
theorem pe_one {op} {t:TE} (h:PE X a t):PE X (.BoolOp op [a] pos) t:=fun pins s σ H Q I hw=>BoolOp_one (h pins s σ H Q I hw)
theorem pe_and (ha:PE X a ta) (hb:PE X (.BoolOp .And (b :: rest) pos) tb):PE X (.BoolOp .And (a :: b :: rest) pos) (tAndV ta tb):=by
  intro pins s σ H Q I h
  refine BoolOp_and (thn (ha pins s σ H _ I h) fun v s1 ⟨x,H1,I1,r1,q1⟩=>?_)
  obtain ⟨c,rfl,q1⟩:=q1
  cases r1
  refine wpAny_truthy_bool ?_
  cases c with
  | true=>exact hb pins s1 σ H1 Q I1 q1
  | false=>exact ⟨.bl false,H1,I1,rfl,q1⟩
theorem pe_or (ha:PE X a ta) (hb:PE X (.BoolOp .Or (b :: rest) pos) tb):PE X (.BoolOp .Or (a :: b :: rest) pos) (tOrV ta tb):=by
  intro pins s σ H Q I h
  refine BoolOp_or (thn (ha pins s σ H _ I h) fun v s1 ⟨x,H1,I1,r1,q1⟩=>?_)
  obtain ⟨c,rfl,q1⟩:=q1
  cases r1
  refine wpAny_truthy_bool ?_
  cases c with
  | false=>exact hb pins s1 σ H1 Q I1 q1
  | true=>exact ⟨.bl true,H1,I1,rfl,q1⟩
theorem pe_not (ha:PE X a ta):PE X (.UnaryOp .Not a pos) (tNotV ta):=by
  intro pins s σ H Q I h
  refine UnaryOp_ (thn (ha pins s σ H _ I h) fun v s1 ⟨x,H1,I1,r1,q1⟩=>?_)
  obtain ⟨c,rfl,q1⟩:=q1
  cases r1
  exact not_of (wpAny_truthy_bool ⟨.bl (!c),H1,I1,rfl,q1⟩)
end
end L2
namespace L2
open PySem PySem.Spec PyProof.Rows
noncomputable def SqL (K:PySem.W.Frag) (H:Hp) (a:Addr) (xs:List V):Prop :=
  Rd H a (.lst xs) ∨
    ∃ (o:Obj) (its:Array Value) (n:Nat),K.lookup a=some o∧o.cls = .type "list"∧o.dict=none∧o.data = .seq its n∧its.size≤sizeLine∧Vals xs its.toList
noncomputable def SqT (K:PySem.W.Frag) (H:Hp) (a:Addr) (xs:List V):Prop :=
  Rd H a (.tup xs) ∨
    ∃ (o:Obj) (its:Array Value) (n:Nat),K.lookup a=some o∧o.cls = .type "tuple"∧o.data = .seq its n∧its.size≤sizeLine∧Vals xs its.toList∧o.dict=none
noncomputable def absV:Value→Option V
  | .none=>some .non
  | .bool b=>some (.bl b)
  | .int i _=>some (.int i)
  | .str x _=>some (.str x)
  | .bytes b _=>some (.byt b)
  | .float b _=>some (.flt b)
  | .ref a=>some (.ref a)
  | .type n=>some (.ty n)
  | _=>none
theorem RelV.abs {x:V} {u:Value} (r:RelV x u):absV u=some x:=by
  cases x with
  | non=>cases r; rfl
  | bl _=>cases r; rfl
  | int _=>obtain ⟨t,rfl⟩:=r; rfl
  | str _=>obtain ⟨t,rfl⟩:=r; rfl
  | byt _=>obtain ⟨t,rfl⟩:=r; rfl
  | flt _=>obtain ⟨t,rfl⟩:=r; rfl
  | ref _=>cases r; rfl
  | ty _=>cases r; rfl
theorem RelV.inj {x y:V} {u:Value} (r:RelV x u) (q:RelV y u):x=y:=Option.some.inj (r.abs.symm.trans q.abs)
theorem Vals.inj:∀ {xs ys:List V} {us:List Value},Vals xs us→Vals ys us→xs=ys
  | _,_,_,.nil,.nil=>rfl
  | _,_,_,.cons r t,.cons r' t'=>by rw [r.inj r',Vals.inj t t']
section
variable {X:Cx} {pins:List (Addr×Obj)} {σ:St} {H:Hp} {s:Shared} {a:Addr} {xs ys:List V}
theorem SqL.of {K:PySem.W.Frag} (h:H a=some (.lst xs)):SqL K H a xs:=.inl (.inl h)
theorem SqT.of {K:PySem.W.Frag} (h:H a=some (.tup xs)):SqT K H a xs:=.inl (.inl h)
theorem Inv.list (I:Inv X pins σ H s) (h:SqL X.K H a xs):∃ its:List Value,Vals xs its∧PlainL s.heap a its.toArray∧xs.length≤sizeLine:=by
  rcases h with h | ⟨o,its,n,hk,hc,hd,hs,hz,r⟩
  · obtain ⟨z,its,n,r,e⟩:=h.ok I.hok
    exact ⟨its,r,⟨_,n,e,rfl,rfl,rfl⟩,z⟩
  · refine ⟨its.toList,r,⟨o,n,I.kIn a o hk,hc,hd,by simpa using hs⟩,?_⟩
    have e:=r.length
    simp only [Array.length_toList] at e
    omega
theorem Inv.tuple (I:Inv X pins σ H s) (h:SqT X.K H a xs):∃ its:List Value,Vals xs its∧IsTup s.heap a its.toArray∧xs.length≤sizeLine:=by
  rcases h with h | ⟨o,its,n,hk,hc,hs,hz,r,hdn⟩
  · obtain ⟨z,its,r,p⟩:=h.ok I.hok
    exact ⟨its,r,p.is,z⟩
  · refine ⟨its.toList,r,⟨o,I.kIn a o hk,hc,n,by simpa using hs⟩,?_⟩
    have e:=r.length
    simp only [Array.length_toList] at e
    omega
theorem Inv.list_inj (I:Inv X pins σ H s) (h:SqL X.K H a xs) (h':SqL X.K H a ys):xs=ys:=by
  obtain ⟨its,r,⟨o,n,e,_,_,d⟩,_⟩:=I.list h
  obtain ⟨its',r',⟨o',n',e',_,_,d'⟩,_⟩:=I.list h'
  rw [e] at e'; cases e'
  rw [d] at d'
  injection d' with d1 _
  have:its=its':=by simpa using congrArg Array.toList d1
  subst this
  exact r.inj r'
theorem Inv.tuple_inj (I:Inv X pins σ H s) (h:SqT X.K H a xs) (h':SqT X.K H a ys):xs=ys:=by
  obtain ⟨its,r,⟨o,e,_,n,d⟩,_⟩:=I.tuple h
  obtain ⟨its',r',⟨o',e',_,n',d'⟩,_⟩:=I.tuple h'
  rw [e] at e'; cases e'
  rw [d] at d'
  injection d' with d1 _
  have:its=its':=by simpa using congrArg Array.toList d1
  subst this
  exact r.inj r'
end
noncomputable abbrev Cx.wish (X:Cx) (E:Value→Shared→Prop):Cx:={ X with xe:=E }
noncomputable abbrev Cx.nox (X:Cx):Cx:=X.wish fun _ _=>False
theorem Cx.Ok.wish {X:Cx} (ok:X.Ok) (E:Value→Shared→Prop):(X.wish E).Ok :=
  ⟨ok.mod,ok.kind,ok.glob,ok.blt,ok.above,ok.inj,ok.has,ok.cab,ok.hd,ok.frames,ok.stk,ok.exf,ok.bs,ok.bsz,ok.noex,ok.exfs,ok.funs,ok.frf⟩
theorem Cx.Ok.unwish {X:Cx} {E:Value→Shared→Prop} (ok:(X.wish E).Ok):X.Ok :=
  ⟨ok.mod,ok.kind,ok.glob,ok.blt,ok.above,ok.inj,ok.has,ok.cab,ok.hd,ok.frames,ok.stk,ok.exf,ok.bs,ok.bsz,ok.noex,ok.exfs,ok.funs,ok.frf⟩
section
variable {X:Cx} {pins:List (Addr×Obj)} {σ:St} {H:Hp} {s:Shared} {E:Value→Shared→Prop}
theorem Inv.wish (I:Inv X pins σ H s) (E:Value→Shared→Prop):Inv (X.wish E) pins σ H s:=⟨I.ok.wish E,I.os,I.bare,I.base,I.loc,I.cell,I.free,I.freeC,I.pin,I.hok,I.len⟩
theorem Inv.unwish (I:Inv (X.wish E) pins σ H s):Inv X pins σ H s:=⟨I.ok.unwish,I.os,I.bare,I.base,I.loc,I.cell,I.free,I.freeC,I.pin,I.hok,I.len⟩
theorem SP.unwish {D:Ends} {f:Flow} {s':Shared} (h:SP (X.wish E) pins D f s'):SP X pins D f s':=by
  cases f with
  | next=>obtain ⟨σ',H',I,q⟩:=h; exact ⟨σ',H',I.unwish,q⟩
  | brk=>obtain ⟨σ',H',I,q⟩:=h; exact ⟨σ',H',I.unwish,q⟩
  | cont=>obtain ⟨σ',H',I,q⟩:=h; exact ⟨σ',H',I.unwish,q⟩
  | ret u=>obtain ⟨v,σ',H',I,r,q⟩:=h; exact ⟨v,σ',H',I.unwish,r,q⟩
theorem PE.nox {e:Expr} {t:TE} (h:PE X.nox e t):PE X e t:=fun pins s σ H Q I hw =>
  wpAny_mono (h pins s σ H Q (I.wish _) hw) (fun _ _ ⟨v,H',I',r,q⟩=>⟨v,H',I'.unwish,r,q⟩) fun _ _ z=>False.elim z
theorem PT.nox {e:Expr} {t:TT} (h:PT X.nox e t):PT X e t:=fun pins s σ H Q I hw =>
  wpAny_mono (h pins s σ H Q (I.wish _) hw) (fun _ _ ⟨H',I',q⟩=>⟨H',I'.unwish,q⟩) fun _ _ z=>False.elim z
theorem PSs.nox {st:List Stmt} {t:TS} (h:PSs X.nox st t):PSs X st t:=fun pins s σ H D I hw =>
  wpAny_mono (h pins s σ H D (I.wish _) hw) (fun _ _ q=>q.unwish) fun _ _ z=>False.elim z
end
section
variable {X:Cx} {st:Stmt} {rest:List Stmt} {t u:TS} {e:Expr} {te:TE} {pos:Pos}
noncomputable def tNext:TS:=fun D σ H=>D.nx σ H
noncomputable def tSeq (t u:TS):TS:=fun D σ H=>t { D with nx:=u D } σ H
theorem Zk9:PSs X [] tNext:=fun _ _ σ H _ I h=>wpAny_execs_nil ⟨σ,H,I,h⟩
theorem Q8 (h1:PS X st t) (h2:PSs X rest u):PSs X (st :: rest) (tSeq t u):=by
  intro pins s σ H D I h
  refine wpAny_execs_cons (thn (h1 pins s σ H { D with nx:=u D } I h) fun f s1 q=>?_)
  cases f with
  | next =>
    obtain ⟨σ',H',I',q⟩:=q
    exact h2 pins s1 σ' H' D I' q
  | ret v=>exact q
  | brk=>exact q
  | cont=>exact q
theorem Inv.quiet {pins:List (Addr×Obj)} {σ:St} {H:Hp} {s:Shared} (I:Inv X pins σ H s):interactive X.env=false:=by simp [interactive,I.ok.kind]
noncomputable def tDrop (te:TE):TS:=fun D σ H=>te σ H fun _ H1=>D.nx σ H1
theorem Zlb (he:PE X e te) (hs:swapsWith e none pos.line X.env=pure false:=by rfl):PS X (.Expr e pos) (tDrop te):=by
  intro pins s σ H D I h
  exact wpAny_Expr_any (thn (he pins s σ H _ I h) fun v s1 ⟨x,H1,I1,r1,q1⟩=>⟨σ,H1,I1,q1⟩) I.quiet hs
noncomputable def tRet (te:TE):TS:=fun D σ H=>te σ H D.rt
theorem ps_ret (he:PE X e te):PS X (.Return (some e) pos) (tRet te):=by
  intro pins s σ H D I h
  exact wpAny_Return_some (thn (he pins s σ H _ I h) fun v s1 ⟨x,H1,I1,r1,q1⟩=>⟨x,σ,H1,I1,r1,q1⟩)
noncomputable def tIfS (c:TT) (t u:TS):TS:=fun D σ H=>c σ H fun b H1=>if b=true then t D σ H1 else u D σ H1
theorem ps_if {c:Expr} {a b:List Stmt} {tc:TT} (hc:PT X c tc) (ha:PSs X a t) (hb:PSs X b u):PS X (.If c a b pos) (tIfS tc t u):=by
  intro pins s σ H D I h
  refine wpAny_If (thn (hc pins s σ H _ I h) fun d s1 ⟨H1,I1,q1⟩=>?_)
  cases d with
  | true=>exact ha pins s1 σ H1 D I1 q1
  | false=>exact hb pins s1 σ H1 D I1 q1
noncomputable def tNever:TS:=fun _ _ _=>False
theorem Zhp {sts:List Stmt}:PSs X sts tNever:=fun _ _ _ _ _ _ h=>h.elim
end
noncomputable abbrev TG:=V→St→Hp→(St→Hp→Prop)→Prop
noncomputable abbrev TGs:=List V→St→Hp→(St→Hp→Prop)→Prop
noncomputable def PG (X:Cx) (target:Expr) (t:TG):Prop :=
  ∀ (pins:List (Addr×Obj)) (s:Shared) (σ:St) (H:Hp) (v:V) (u:Value) (Q:St→Hp→Prop),Inv X pins σ H s→RelV v u→t v σ H Q →
    wpAny (model X.prog X.w) X.A (assign target X.env u) (fun _ s'=>∃ σ' H',Inv X pins σ' H' s'∧Q σ' H') X.xe s
noncomputable def PGs (X:Cx) (ts:List Expr) (t:TGs):Prop :=
  ∀ (pins:List (Addr×Obj)) (s:Shared) (σ:St) (H:Hp) (vs:List V) (us:List Value) (Q:St→Hp→Prop),Inv X pins σ H s→Vals vs us→t vs σ H Q →
    wpAny (model X.prog X.w) X.A (assignInOrder ((assignEach ts X.env).map (·.2)) us) (fun _ s'=>∃ σ' H',Inv X pins σ' H' s'∧Q σ' H') X.xe s
noncomputable abbrev TSet:=V→V→V→Hp→(Hp→Prop)→Prop
noncomputable def PSet (X:Cx) (t:TSet):Prop :=
  ∀ (pins:List (Addr×Obj)) (s:Shared) (σ:St) (H:Hp) (o i v:V) (ov iv u:Value) (Q:Hp→Prop),Inv X pins σ H s→RelV o ov→RelV i iv→RelV v u→t o i v H Q →
    wpAny (model X.prog X.w) X.A (setItem ov iv u) (fun _ s'=>∃ H',Inv X pins σ H' s'∧Q H') X.xe s
noncomputable abbrev TIp:=V→V→Hp→VK→Prop
noncomputable def PIp (X:Cx) (op:Operator) (t:TIp):Prop :=
  ∀ (pins:List (Addr×Obj)) (s:Shared) (σ:St) (H:Hp) (x y:V) (v u:Value) (Q:VK),Inv X pins σ H s→RelV x v→RelV y u→t x y H Q →
    wpAny (model X.prog X.w) X.A (inplaceOp op v u) (EP X pins σ Q) X.xe s
section
variable {X:Cx} {pos:Pos}
noncomputable def Zl7 (i:Nat):TG:=fun v σ H Q=>Q (σ.set i (some v)) H
theorem ZeD {i:Nat} {x:Str} (hN:X.N.Nodup) (hi:X.N[i]? = some x) (hx:Loc X.env.scope x) (hf:X.fn x=true∨X.env.scope.names.lookup x=some .local:=by first | exact .inl rfl | exact .inr rfl | assumption):PG X (.Name x pos) (Zl7 i):=by
  intro pins s σ H v u Q I r h
  exact wpAny_assign_Name (Zaa I hN hi hx r (fun s' I'=>⟨_,H,I',h⟩) hf)
noncomputable def gNil:TGs:=fun vs σ H Q=>vs=[]∧Q σ H
noncomputable def gCons (t:TG) (u:TGs):TGs:=fun vs σ H Q=>∃ v r,vs=v :: r∧t v σ H fun σ' H'=>u r σ' H' Q
theorem Zlf:PGs X [] gNil:=by
  intro pins s σ H vs us Q I r h
  obtain ⟨e,h⟩:=h
  subst e
  cases r
  exact assignInOrder_nil ⟨σ,H,I,h⟩
theorem Zfq {e:Expr} {es:List Expr} {t:TG} {u:TGs} (h1:PG X e t) (h2:PGs X es u)
    (hs:(assignEach (e :: es) X.env).map (·.2)=assign e X.env :: (assignEach es X.env).map (·.2):=by rfl):PGs X (e :: es) (gCons t u):=by
  intro pins s σ H vs us Q I r h
  obtain ⟨v,vr,e1,h⟩:=h
  subst e1
  cases r with
  | cons r rr =>
    rw [hs]
    refine assignInOrder_cons (thn (h1 pins s σ H _ _ _ I r h) fun _ s1 ⟨σ1,H1,I1,q1⟩=>?_)
    exact h2 pins s1 σ1 H1 _ _ Q I1 rr q1
noncomputable def gTup (K:PySem.W.Frag) (n:Nat) (t:TGs):TG:=fun v σ H Q=>∃ a xs,v = .ref a∧SqT K H a xs∧xs.length=n∧t xs σ H Q
theorem pg_tup {es:List Expr} {k:Nat} {t:TGs} {n:Nat} (hc:X.calm=true) (h:PGs X es t)
    (hn:(assignEach es X.env).length=n:=by rfl) (hst:(assignEach es X.env).findIdx? (·.1)=none:=by rfl):PG X (.Tuple es k pos) (gTup X.K n t):=by
  intro pins s σ H v u Q I r hw
  obtain ⟨a,xs,e1,hq,hl,hw⟩:=hw
  subst e1
  cases r
  obtain ⟨its,rv,ht,hz⟩:=I.tuple hq
  refine assign_Tuple_tuple (I.ok.hd hc) ht (by simp [hn,← hl,rv.length]) hst fun h' hx=>?_
  have I1:Inv X pins σ H { s with heap:=h' }:=I.kept (t':=s.toks) fun b o e=>hx b o (Nat.ne_of_lt (Heap.lt_size e)) e
  exact h pins _ σ H xs _ Q I1 (by simpa using rv) hw
noncomputable def gSub (to ti:TE) (t:TSet):TG:=fun v σ H Q=>to σ H fun o H1=>ti σ H1 fun i H2=>t o i v H2 fun H3=>Q σ H3
theorem pg_sub {o i:Expr} {to ti:TE} {t:TSet} (ho:PE X o to) (hi:PE X i ti) (hs:PSet X t)
    (ha:∀ v,assign (.Subscript o i pos) X.env v=(do
      let ov ← holding [v] (eval o X.env)
      let iv ← holding [v,ov] (eval i X.env)
      standAt pos
      holding [v,ov,iv] (setItem ov iv v)
      release [v,ov,iv] []):=by intro _; rfl):PG X (.Subscript o i pos) (gSub to ti t):=by
  intro pins s σ H v u Q I r h
  rw [ha]
  refine wpAny_bind (wpAny_holding (thn (ho pins s σ H _ I h) fun ov s1 ⟨x,H1,I1,r1,q1⟩=>?_))
  refine wpAny_bind (wpAny_holding (thn (hi pins s1 σ H1 _ I1 q1) fun iv s2 ⟨y,H2,I2,r2,q2⟩=>?_))
  refine wpAny_bind (wpAny_standAt (wpAny_bind (wpAny_holding (thn (hs pins s2 σ H2 x y v ov iv u _ I2 r1 r2 r q2) fun _ s3 ⟨H3,I3,q3⟩=>?_))))
  exact wpAny_release ⟨σ,H3,I3,q3⟩
noncomputable def tAsg (te:TE) (g:TG):TS:=fun D σ H=>te σ H fun x H1=>g x σ H1 D.nx
theorem Zks {tg e:Expr} {te:TE} {g:TG} (he:PE X e te) (hg:PG X tg g) (hs:swapsWithSole [tg] e pos.line X.env=pure false:=by rfl) (hw:swappedStores [tg] e X.env=pure none:=by rfl)
    (h1:(assignEach [tg] X.env).map (·.2)=[assign tg X.env]:=by rfl):PS X (.Assign [tg] e pos) (tAsg te g):=by
  intro pins s σ H D I h
  refine wpAny_Assign_stores (thn (he pins s σ H _ I h) fun v s1 ⟨x,H1,I1,r1,q1⟩=>?_) hs hw
  rw [h1]
  exact thn (hg pins s1 σ H1 x v _ I1 r1 q1) fun _ s2 q=>q
theorem ps_set {i:Nat} {x:Str} {e:Expr} {te:TE} {pos':Pos} (hN:X.N.Nodup) (hi:X.N[i]? = some x) (hx:Loc X.env.scope x) (he:PE X e te) (hs:swapsWith e (some (.Name x pos')) pos.line X.env=pure false:=by rfl) (hf:X.fn x=true∨X.env.scope.names.lookup x=some .local:=by first | exact .inl rfl | exact .inr rfl | assumption) :
    PS X (.Assign [.Name x pos'] e pos) (tAsg te (Zl7 i)):=by
  intro pins s σ H D I h
  refine wpAny_Assign_Name (thn (he pins s σ H _ I h) fun v s1 ⟨y,H1,I1,r1,q1⟩=>?_) hs
  exact Zaa I1 hN hi hx r1 (fun s2 I2=>⟨_,H1,I2,q1⟩) hf
noncomputable def tAug (i:Nat) (te:TE) (ti:TIp):TS:=fun D σ H=>∃ x,σ[i]? = some (some x)∧te σ H fun y H1=>ti x y H1 fun z H2=>D.nx (σ.set i (some z)) H2
theorem ps_aug {i:Nat} {x:Str} {e:Expr} {te:TE} {op:Operator} {ti:TIp} {pos':Pos} (hN:X.N.Nodup) (hi:X.N[i]? = some x) (hx:Loc X.env.scope x) (he:PE X e te) (ho:PIp X op ti) (hf:X.fn x=true∨X.env.scope.names.lookup x=some .local:=by first | exact .inl rfl | exact .inr rfl | assumption) :
    PS X (.AugAssign (.Name x pos') op e pos) (tAug i te ti):=by
  intro pins s σ H D I h
  obtain ⟨v,e1,h⟩:=h
  obtain ⟨m,hn,hl⟩:=I.loc
  have vis:Vis X.env.scope x:=by rcases hx with k | k; exact .inl k; exact .inr (.inl k)
  obtain ⟨u,r,l⟩:=hl i x v hi e1 vis
  refine wpAny_AugAssign_Name ?_
  have go:wpAny (model X.prog X.w) X.A (eval e X.env) (fun w s₂=>wpAny (model X.prog X.w) X.A (inplaceOp op u w) (fun r s₃=>wpAny (model X.prog X.w) X.A (storeName X.env x r) (fun _=>SP X pins D .next) X.xe s₃) X.xe s₂) X.xe s:=by
    refine thn (he pins s σ H _ I h) fun w s1 ⟨y,H1,I1,r1,q1⟩=>?_
    refine thn (ho pins s1 σ H1 v y u w _ I1 r r1 q1) fun z s2 ⟨zv,H2,I2,r2,q2⟩=>?_
    exact Zaa I2 hN hi hx r2 (fun s3 I3=>⟨_,H2,I3,q2⟩) hf
  rcases l with ⟨hk,hm⟩ | ⟨hk,c,hc,hcell⟩
  · exact wpAny_loadName_local I.ok.kind hk hn hm go
  · rcases hk with hk | hk
    · exact wpAny_loadName_cell I.ok.kind hk hc hcell go
    · rcases hx with k | k
      · have:X.env.scope.names.lookup x=some .free:=hk
        rw [k] at this; cases this
      · have:X.env.scope.names.lookup x=some .free:=hk
        rw [k] at this; cases this
noncomputable def ipI (f:Int→Int→Int):TIp:=fun x y H Q=>∃ i j,x = .int i∧y = .int j∧Q (.int (f i j)) H
theorem ip_add:PIp X .Add (ipI fun i j=>i + j):=by
  intro pins s σ H x y v u Q I r1 r2 h
  obtain ⟨i,j,e1,e2,q⟩:=h
  subst e1; subst e2
  obtain ⟨t,rfl⟩:=r1
  obtain ⟨t',rfl⟩:=r2
  exact iadd_int ⟨.int _,H,I.tok _,⟨_,rfl⟩,q⟩
theorem ip_sub:PIp X .Sub (ipI fun i j=>i - j):=by
  intro pins s σ H x y v u Q I r1 r2 h
  obtain ⟨i,j,e1,e2,q⟩:=h
  subst e1; subst e2
  obtain ⟨t,rfl⟩:=r1
  obtain ⟨t',rfl⟩:=r2
  exact isub_int ⟨.int _,H,I.tok _,⟨_,rfl⟩,q⟩
end
section
variable {X:Cx} {pos:Pos}
noncomputable def tWhile (c:TT) (tb:TS):TS:=fun D σ H=>∃ W:Nat→St→Hp→Prop,(∃ m,W m σ H)∧∀ m σ H,W m σ H →
  c σ H fun b H1=>if b=true then ∃ N:St→Hp→Prop,(∀ σ' H',N σ' H'→∃ m',m' < m∧W m' σ' H')∧tb { D with nx:=N,ct:=N,bk:=D.nx } σ H1 else D.nx σ H1
theorem Zjk {c:Expr} {body:List Stmt} {tc:TT} {tb:TS} (hp:PassesOwn (model X.prog X.w) X.A X.env X.xe) (hc:PT X c tc) (hb:PSs X body tb):PS X (.While c body [] pos) (tWhile tc tb):=by
  intro pins s σ H D I h
  obtain ⟨W,⟨m0,w0⟩,turn⟩:=h
  refine wpAny_While (codeAny_whileLoop (fun n s'=>∃ σ' H',Inv X pins σ' H' s'∧W n σ' H') ?_ m0 ⟨σ,H,I,w0⟩)
  rintro n s1 ⟨σ1,H1,I1,w1⟩
  refine wpAny_passesOwn hp (thn (hc pins s1 σ1 H1 _ I1 (turn n σ1 H1 w1)) fun b s2 ⟨H2,I2,q2⟩=>?_)
  cases b with
  | true =>
    obtain ⟨N,hN,q2⟩:=q2
    rw [if_pos rfl]
    refine wpAny_passesOwn hp (thn (hb pins s2 σ1 H2 _ I2 q2) fun f s3 q3=>?_)
    cases f with
    | next =>
      obtain ⟨σ3,H3,I3,n3⟩:=q3
      obtain ⟨m',hm,w3⟩:=hN σ3 H3 n3
      exact ⟨m',hm,σ3,H3,I3,w3⟩
    | cont =>
      obtain ⟨σ3,H3,I3,n3⟩:=q3
      obtain ⟨m',hm,w3⟩:=hN σ3 H3 n3
      exact ⟨m',hm,σ3,H3,I3,w3⟩
    | brk=>exact q3
    | ret v=>exact q3
  | false =>
    rw [if_neg Bool.false_ne_true]
    exact wpAny_execs_nil ⟨σ1,H2,I2,q2⟩
end
structure It where
  go:Nat→Hp→Prop
  yld:Nat→Hp→V→Hp→Prop
  stop:Nat→Hp→Prop
noncomputable def FpOk (X:Cx) (pins:List (Addr×Obj)) (H:Hp) (b:Addr):Prop :=
  H b=none∧b≠X.env.locals∧b ∉ X.fs∧(b∈X.ex∨X.s₀.heap.objs.size≤b)∧(∀ x c,X.env.cells.lookup x=some c→c≠b)∧∀ p∈X.pn++pins,p.1≠b
theorem Inv.fpOk {X:Cx} {pins:List (Addr×Obj)} {σ:St} {H H':Hp} {s:Shared} {b:Addr} (I:Inv X pins σ H s) (hb:s.heap.objs.size≤b) (hn:H' b=none):FpOk X pins H' b:=by
  refine ⟨hn,Nat.ne_of_gt (Nat.lt_of_lt_of_le I.lt hb),I.nofs hb,.inr (Nat.le_trans I.sz hb),fun x c e z=>?_,fun p hp z=>?_⟩
  · obtain ⟨v,q⟩:=I.cell x c e
    exact absurd (Nat.lt_of_lt_of_le q.lt (by rw [z]; exact hb)) (Nat.lt_irrefl _)
  · exact absurd (Nat.lt_of_lt_of_le (Heap.lt_size (I.pin p hp).1) (by rw [z]; exact hb)) (Nat.lt_irrefl _)
structure Turn (P:Program) (w:World) (K:PySem.W.Frag) (tg:Expr) (J:It) (fp:List Addr) (it:Addr) (tn:Nat→Heap→Prop):Prop where
  mem:it∈fp
  obj:∀ i h,tn i h→∀ b∈fp,∃ o,h.get? b=some o∧∀ v,o.data≠.cell v
  keep:∀ i h h',tn i h→(∀ b∈fp,∀ o,h.get? b=some o→h'.get? b=some o)→tn i h'
  item:∀ (X:Cx),X.prog=P→X.w=w→X.K=K→X.calm=true→∀ (i:Nat) (pins:List (Addr×Obj)) (s:Shared) (σ:St) (H:Hp) (E:Value→Shared→Prop),Inv X pins σ H s→(∀ b∈fp,FpOk X pins H b)→tn i s.heap→J.go i H →
    wpAny (model P w) X.A (pyNext (.ref it)) (fun r s1=>∃ u,r=some u ∧
      wpAny (model P w) X.A (letOwnedTupleGo tg (.ref it) u) (fun _ s2=>∃ x H',Inv X pins σ H' s2∧RelV x u∧J.yld i H x H'∧tn (i + 1) s2.heap∧∀ b∈fp,H' b=none) E s1) E s
  done:∀ (X:Cx),X.prog=P→X.w=w→X.K=K→X.calm=true→∀ (i:Nat) (pins:List (Addr×Obj)) (s:Shared) (σ:St) (H:Hp) (E:Value→Shared→Prop),Inv X pins σ H s→(∀ b∈fp,FpOk X pins H b)→tn i s.heap→J.stop i H →
    wpAny (model P w) X.A (pyNext (.ref it)) (fun r s1=>r=none∧Inv X pins σ H s1) E s
  self:∀ (A:Around) (i:Nat) (s:Shared) (Q:Value→Shared→Prop) (E:Value→Shared→Prop),tn i s.heap→Q (.ref it) s→wpAny (model P w) A (pyIter (.ref it)) Q E s
noncomputable abbrev TI:=St→Hp→(It→Hp→Prop)→Prop
noncomputable def PIE (X:Cx) (pins:List (Addr×Obj)) (σ:St) (tg:Expr) (R:It→Hp→Prop) (itv:Value) (s2:Shared):Prop :=
  ∃ (it:Addr) (fp:List Addr) (tn:Nat→Heap→Prop) (J:It) (H':Hp),itv = .ref it∧Inv X pins σ H' s2∧Turn X.prog X.w X.K tg J fp it tn∧tn 0 s2.heap∧(∀ b∈fp,FpOk X pins H' b)∧R J H'
noncomputable def PI (X:Cx) (tg iter:Expr) (wi:TI):Prop :=
  ∀ (pins:List (Addr×Obj)) (s:Shared) (σ:St) (H:Hp) (R:It→Hp→Prop),Inv X pins σ H s→wi σ H R →
    wpAny (model X.prog X.w) X.A (eval iter X.env) (fun v s1=>wpAny (model X.prog X.w) X.A (pyIter v) (PIE X pins σ tg R) X.xe s1) X.xe s
theorem Zj2 {M:Model} {A:Around} {E:Value→Shared→Prop} {s:Shared} {tg:Expr} {it:Addr} {u:Value} {o:Obj} {n:String} {vs:Array Value} {Q:Unit→Shared→Prop} (ho:s.heap.get? it=some o) (hc:o.cls = .type n) (hd:o.data = .fields vs)
    (hn:["enumerate","zip","dict_itemiterator","dict_reverseitemiterator","odict_iterator","itertools.zip_longest","itertools.pairwise"].contains n=false) (hQ:Q () s):wpAny M A (letOwnedTupleGo tg (.ref it) u) Q E s:=by
  unfold letOwnedTupleGo
  cases tg <;> first
    | exact wpAny_pure hQ
    | (cases u <;> first
        | exact wpAny_pure hQ
        | (refine wpAny_bind (wpAny_load ho ?_)
           rw [hc,hd]
           show wpAny M A (if (["enumerate","zip","dict_itemiterator","dict_reverseitemiterator","odict_iterator","itertools.zip_longest","itertools.pairwise"].contains n && vs[0]? == some (rawInt _))=true then _ else _) Q E s
           rw [if_neg (by intro h; rw [hn,Bool.false_and] at h; cases h)]
           exact wpAny_pure hQ))
noncomputable def Itl (K:PySem.W.Frag) (a:Addr):It :=
  ⟨fun i H=>∃ xs x,SqL K H a xs∧xs[i]? = some x,fun i H x H'=>H' = H∧∀ xs,SqL K H a xs→xs[i]? = some x,fun i H=>∃ xs,SqL K H a xs∧xs.length≤i⟩
noncomputable def Itt (K:PySem.W.Frag) (a:Addr):It :=
  ⟨fun i H=>∃ xs x,SqT K H a xs∧xs[i]? = some x,fun i H x H'=>H' = H∧∀ xs,SqT K H a xs→xs[i]? = some x,fun i H=>∃ xs,SqT K H a xs∧xs.length≤i⟩
noncomputable def Itr (lo:Int) (n:Nat):It:=⟨fun i _=>i < n,fun i H x H'=>H' = H∧x = .int (lo + i),fun i _=>n≤i⟩
theorem Zg9 {P:Program} {w:World} {K:PySem.W.Frag} {tg:Expr} (a it:Addr):Turn P w K tg (Itl K a) [it] it (fun i h=>h.IsListIter it a i) where
  mem:=by simp
  obj:=fun i h st b hb=>by
    have e:b=it:=by simpa using hb
    subst e
    obtain ⟨o,e,c,d⟩:=st
    exact ⟨o,e,fun v z=>by rw [d] at z; cases z⟩
  keep:=fun i h h' st k=>st.at fun o e=>k it (by simp) o e
  item:=by
    intro X hP hw hK hc i pins s σ H E I hf st hg
    subst hP hw hK
    obtain ⟨xs,x,hq,hx⟩:=hg
    obtain ⟨its,rv,p,hz⟩:=I.list hq
    obtain ⟨u,hu,ru⟩:=rv.get hx
    obtain ⟨f0,f1,f2,f3,f4,f5⟩:=hf it (by simp)
    refine wpAny_pyNext_list_item st p.isList (x:=u) (by simpa using hu) fun h' st' sb=>?_
    have I1:Inv X pins σ H { s with heap:=h' }:=I.turned (t':=s.toks) (fun b o hb e=>(sb.2 b hb).trans e) f0 f1 f3 f4 f5
    obtain ⟨o,e,c,d⟩:=id st'
    exact ⟨u,rfl,Zj2 (s:={ s with heap:=h' }) e c d (by decide) ⟨x,H,I1,ru,⟨rfl,fun ys hy=>by rw [I.list_inj hy hq]; exact hx⟩,st',fun b hb=>(hf b hb).1⟩⟩
  done:=by
    intro X hP hw hK hc i pins s σ H E I hf st hg
    subst hP hw hK
    obtain ⟨xs,hq,hx⟩:=hg
    obtain ⟨its,rv,p,hz⟩:=I.list hq
    obtain ⟨f0,f1,f2,f3,f4,f5⟩:=hf it (by simp)
    have hl:=rv.length
    exact wpAny_pyNext_list_end (I.ok.hd hc) st p.isList (by simp; omega) fun h' eb=>⟨rfl,I.turned (t':=s.toks) (fun b o hb e=>eb b o hb e) f0 f1 f3 f4 f5⟩
  self:=fun _ _ _ _ _ st h=>wpAny_pyIter_listiter st h
theorem ZfV {P:Program} {w:World} {K:PySem.W.Frag} {tg:Expr} (a it:Addr):Turn P w K tg (Itt K a) [it] it (fun i h=>h.IsTupleIter it a i) where
  mem:=by simp
  obj:=fun i h st b hb=>by
    have e:b=it:=by simpa using hb
    subst e
    obtain ⟨o,e,c,d⟩:=st
    exact ⟨o,e,fun v z=>by rw [d] at z; cases z⟩
  keep:=fun i h h' st k=>st.at fun o e=>k it (by simp) o e
  item:=by
    intro X hP hw hK hc i pins s σ H E I hf st hg
    subst hP hw hK
    obtain ⟨xs,x,hq,hx⟩:=hg
    obtain ⟨its,rv,p,hz⟩:=I.tuple hq
    obtain ⟨u,hu,ru⟩:=rv.get hx
    obtain ⟨f0,f1,f2,f3,f4,f5⟩:=hf it (by simp)
    refine wpAny_pyNext_tuple_item st (show s.heap.IsTuple a its.toArray from p) (x:=u) (by simpa using hu) fun h' st' sb=>?_
    have I1:Inv X pins σ H { s with heap:=h' }:=I.turned (t':=s.toks) (fun b o hb e=>(sb.2 b hb).trans e) f0 f1 f3 f4 f5
    obtain ⟨o,e,c,d⟩:=id st'
    exact ⟨u,rfl,Zj2 (s:={ s with heap:=h' }) e c d (by decide) ⟨x,H,I1,ru,⟨rfl,fun ys hy=>by rw [I.tuple_inj hy hq]; exact hx⟩,st',fun b hb=>(hf b hb).1⟩⟩
  done:=by
    intro X hP hw hK hc i pins s σ H E I hf st hg
    subst hP hw hK
    obtain ⟨xs,hq,hx⟩:=hg
    obtain ⟨its,rv,p,hz⟩:=I.tuple hq
    obtain ⟨f0,f1,f2,f3,f4,f5⟩:=hf it (by simp)
    have hl:=rv.length
    exact wpAny_pyNext_tuple_end (I.ok.hd hc) st (show s.heap.IsTuple a its.toArray from p) (by simp; omega) fun h' eb=>⟨rfl,I.turned (t':=s.toks) (fun b o hb e=>eb b o hb e) f0 f1 f3 f4 f5⟩
  self:=fun _ _ _ _ _ st h=>wpAny_pyIter_tupleiter st h
theorem ZfW {P:Program} {w:World} {K:PySem.W.Frag} {tg:Expr} (it:Addr) (lo:Int) (n:Nat):Turn P w K tg (Itr lo n) [it] it (fun i h=>IsRangeIter h it (lo + (i:Nat) * 1) ((n:Int) - (i:Nat)) 1) where
  mem:=by simp
  obj:=fun i h st b hb=>by
    have e:b=it:=by simpa using hb
    subst e
    exact ⟨_,st,fun v z=>by
      have z':Data.fields _=Data.cell v:=z
      cases z'⟩
  keep:=fun i h h' st k=>k it (by simp) _ st
  item:=by
    intro X hP hw hK hc i pins s σ H E I hf st hg
    subst hP hw hK
    obtain ⟨f0,f1,f2,f3,f4,f5⟩:=hf it (by simp)
    have W:=Walks.range (prog:=X.prog) (w:=X.w) (I.ok.hd hc) it lo 1 n
    refine W.item i s _ _ hg st fun v h' tk hv st' kk=>?_
    obtain ⟨t,rfl⟩:=hv
    have I1:Inv X pins σ H { s with heap:=h',toks:=tk }:=I.turned (fun b o hb e=>kk b o (by simpa using hb) e) f0 f1 f3 f4 f5
    refine ⟨_,rfl,Zj2 (s:={ s with heap:=h',toks:=tk }) (n:="range_iterator") st' rfl rfl (by decide) ⟨.int (lo + i),H,I1,⟨t,?_⟩,⟨rfl,rfl⟩,st',fun b hb=>(hf b hb).1⟩⟩
    rw [Int.mul_one]
  done:=by
    intro X hP hw hK hc i pins s σ H E I hf st hg
    subst hP hw hK
    obtain ⟨f0,f1,f2,f3,f4,f5⟩:=hf it (by simp)
    exact wpAny_pyNext_range_end (I.ok.hd hc) st (by have:n≤i:=hg; omega) fun h' eb=>⟨rfl,I.turned (t':=s.toks) (fun b o hb e=>eb b o hb e) f0 f1 f3 f4 f5⟩
  self:=fun _ _ _ _ _ st h=>wpAny_pyIter_rangeiter st h
end L2
namespace L2
open PySem PySem.Spec PyProof.Rows
section
variable {X:Cx} {tg:Expr}
theorem Zi8 {pins:List (Addr×Obj)} {σ:St} {H:Hp} {s:Shared} {R:It→Hp→Prop} {E:Value→Shared→Prop} {lo hi:Int} {t u v:Tok} {tk:Nat} (I:Inv X pins σ H s) (h1:-(2 ^ 62)≤lo) (h2:lo < 2 ^ 62) (h3:-(2 ^ 62)≤hi) (h4:hi < 2 ^ 62)
    (q:R (Itr lo (hi - lo).toNat) H):wpAny (model X.prog X.w) X.A (pyIter (.ref s.heap.objs.size)) (PIE X pins σ tg R) E { s with heap:=s.heap.push { cls:=.type "range",data:=.fields #[.int lo t,.int hi u,.int 1 v] },toks:=tk }:=by
  refine wpAny_pyIter_range (IsRange.new ..) (small_one h1 h2 h3 h4) ?_
  have I1:Inv X pins σ H { s with heap:=s.heap.push { cls:=.type "range",data:=.fields #[.int lo t,.int hi u,.int 1 v] },toks:=tk }:=I.kept fun b o e=>Heap.get?_push_of_some _ e
  refine ⟨(s.heap.push { cls:=.type "range",data:=.fields #[.int lo t,.int hi u,.int 1 v] }).objs.size,[(s.heap.push { cls:=.type "range",data:=.fields #[.int lo t,.int hi u,.int 1 v] }).objs.size],_,_,H,rfl,
    I1.kept (t':=tk) fun b o e=>Heap.get?_push_of_some _ e,ZfW _ lo (hi - lo).toNat,?_,fun b hb=>?_,q⟩
  · have e1:lo + ((0:Nat):Int) * 1=lo:=by simp
    have e2:(((hi - lo).toNat:Nat):Int) - ((0:Nat):Int)=Builtin.Range.rangeSize lo hi 1:=by rw [rangeSize_one]; split <;> omega
    show IsRangeIter _ _ (lo + ((0:Nat):Int) * 1) ((((hi - lo).toNat:Nat):Int) - ((0:Nat):Int)) 1
    rw [e1,e2]
    exact Heap.get?_push_size _ rfl
  · have e:b=(s.heap.push { cls:=.type "range",data:=.fields #[.int lo t,.int hi u,.int 1 v] }).objs.size:=by simpa using hb
    subst e
    exact I1.fpOk (Nat.le_refl _) (I1.hok.fresh (Nat.le_refl _))
noncomputable def iRng1 (ta:TA):TI:=fun σ H R=>ta σ H fun vs H1=>∃ j:Int,vs=[.int j]∧-(2 ^ 62)≤j∧j < 2 ^ 62∧R (Itr 0 j.toNat) H1
theorem Zhv {a:Expr} {ta:TA} {p pos:Pos} (hg:Gl X "range") (hm:X.mg "range" = none) (ha:PA X [a] ta) (hs:starEach [a] X.env=[(false,eval a X.env)]:=by rfl):PI X tg (.Call (.Name "range" p) [a] [] pos) (iRng1 ta):=by
  intro pins s σ H R I h
  refine Call_ (Zfy I hg hm boot_range (PyProof.Rows.callWith_type1 (thn (ha pos pins s σ H _ I h) fun us s1 ⟨vs,H1,I1,r1,q1⟩=>?_) hs rfl))
  obtain ⟨j,e,q1,q2,q⟩:=q1
  subst e
  cases r1 with
  | cons r rr =>
    cases rr
    obtain ⟨t,rfl⟩:=r
    exact call_range_1 (Zi8 I1 (by omega) (by omega) q1 q2 (by simpa using q))
noncomputable def tFor (wi:TI) (g:TG) (tb:TS):TS:=fun D σ H=>wi σ H fun J H1=>∃ W:Nat→Nat→St→Hp→Prop,(∃ m,W 0 m σ H1)∧∀ i m σ H,W i m σ H →
  (J.stop i H∧D.nx σ H)∨(J.go i H∧∃ N:St→Hp→Prop,(∀ σ' H',N σ' H'→∃ m',m' < m∧W (i + 1) m' σ' H')∧∀ x H',J.yld i H x H'→g x σ H' fun σ2 H2=>tb { D with nx:=N,ct:=N,bk:=D.nx } σ2 H2)
noncomputable def XC (fp:List Addr) (h:Heap):List (Addr×Obj):=fp.filterMap fun b=>(h.get? b).map fun o=>(b,o)
theorem Qj {fp:List Addr} {h:Heap} {b:Addr} {o:Obj} (hb:b∈fp) (e:h.get? b=some o):(b,o)∈XC fp h:=List.mem_filterMap.mpr ⟨b,hb,by rw [e]; rfl⟩
theorem ZdP {fp:List Addr} {h:Heap} {p:Addr×Obj} (hp:p∈XC fp h):p.1∈fp∧h.get? p.1=some p.2:=by
  obtain ⟨b,hb,e⟩:=List.mem_filterMap.mp hp
  cases q:h.get? b with
  | none=>rw [q] at e; cases e
  | some o =>
    rw [q] at e
    have e':(b,o)=p:=Option.some.inj e
    subst e'
    exact ⟨hb,q⟩
theorem Inv.pinned {pins:List (Addr×Obj)} {σ:St} {H:Hp} {s:Shared} {fp:List Addr} (I:Inv X pins σ H s) (hf:∀ b∈fp,FpOk X pins H b) (ho:∀ b∈fp,∃ o,s.heap.get? b=some o∧∀ v,o.data≠.cell v):Inv X (pins++XC fp s.heap) σ H s :=
  I.pins_of fun p hp=>(List.mem_append.mp hp).elim (fun z=>I.pin p (List.mem_append_right _ z)) fun z=>by
    obtain ⟨hb,e⟩:=ZdP z
    obtain ⟨f0,f1,f2,_⟩:=hf p.1 hb
    obtain ⟨o,e',d⟩:=ho p.1 hb
    rw [e] at e'; cases e'
    exact ⟨e,f0,f1,f2,d⟩
theorem Inv.unpinned {pins pl:List (Addr×Obj)} {σ:St} {H:Hp} {s:Shared} (I:Inv X (pins++pl) σ H s):Inv X pins σ H s:=I.pins_of fun p hp=>I.pin p (List.mem_append_right _ (List.mem_append_left _ hp))
theorem ps_for {iter:Expr} {body:List Stmt} {wi:TI} {g:TG} {tb:TS} {pos:Pos} (hp:PassesOwn (model X.prog X.w) X.A X.env X.xe) (hc:X.calm=true) (hi:PI X tg iter wi) (hg:PG X tg g) (hb:PSs X body tb)
    (hs:∀ x,foldedSetIterable iter X.env x=pure x:=by intro _; rfl):PS X (.For tg iter body [] pos) (tFor wi g tb):=by
  intro pins s σ H D I h
  refine wpAny_For (thn (hi pins s σ H _ I h) fun v s1 h1=>thn h1 fun itv s2 h2=>?_) hs
  obtain ⟨it,fp,tn,J,H2,e,I2,T,st2,f2,W,⟨m0,w0⟩,turn⟩:=h2
  subst e
  -- what stays true of the iterator's objects through the loop
  have stat:∀ {H':Hp},(∀ b∈fp,H' b=none)→∀ b∈fp,FpOk X pins H' b:=fun hn b hb=>⟨hn b hb,(f2 b hb).2⟩
  refine codeAny_forLoop_any (fun n s'=>∃ i σ' H',Inv X pins σ' H' s'∧tn i s'.heap∧(∀ b∈fp,H' b=none)∧W i n σ' H') ?_ m0 ⟨0,σ,H2,I2,st2,fun b hb=>(f2 b hb).1,w0⟩
  rintro n s3 ⟨i,σ3,H3,I3,st3,fr3,w3⟩
  rcases turn i n σ3 H3 w3 with ⟨stop,qn⟩ | ⟨go,N,hN,step⟩
  · refine wpAny_passesOwn hp (thn (T.done X rfl rfl rfl hc i pins s3 σ3 H3 X.xe I3 (stat fr3) st3 stop) fun r s4 ⟨hr,I4⟩=>?_)
    subst hr
    exact wpAny_execs_nil ⟨σ3,H3,I4,qn⟩
  · refine wpAny_passesOwn hp (thn (T.item X rfl rfl rfl hc i pins s3 σ3 H3 X.xe I3 (stat fr3) st3 go) fun r s4 ⟨u,hr,h4⟩=>?_)
    subst hr
    refine wpAny_passesOwn hp (thn h4 fun _ s5 ⟨x,H5,I5,r5,y5,st5,fr5⟩=>?_)
    have I5':=I5.pinned (stat fr5) (T.obj _ _ st5)
    refine wpAny_passesOwn hp (thn (hg _ s5 σ3 H5 x u _ I5' r5 (step x H5 y5)) fun _ s6 ⟨σ6,H6,I6,q6⟩=>?_)
    refine wpAny_passesOwn hp (thn (hb _ s6 σ6 H6 _ I6 q6) fun f s7 q7=>?_)
    have again:∀ {σ7:St} {H7:Hp},Inv X (pins++XC fp s5.heap) σ7 H7 s7→N σ7 H7→∃ m,m < n∧∃ i σ' H',Inv X pins σ' H' s7∧tn i s7.heap∧(∀ b∈fp,H' b=none)∧W i m σ' H':=fun {σ7 H7} I7 n7=>by
      obtain ⟨m',hm,w7⟩:=hN σ7 H7 n7
      refine ⟨m',hm,i + 1,σ7,H7,I7.unpinned,T.keep _ _ _ st5 fun b hb o e=>(I7.pin (b,o) (List.mem_append_right _ (List.mem_append_right _ (Qj hb e)))).1,fun b hb=>?_,w7⟩
      obtain ⟨o,e,d⟩:=T.obj _ _ st5 b hb
      exact (I7.pin (b,o) (List.mem_append_right _ (List.mem_append_right _ (Qj hb e)))).2.1
    cases f with
    | next=>obtain ⟨σ7,H7,I7,n7⟩:=q7; exact again I7 n7
    | cont=>obtain ⟨σ7,H7,I7,n7⟩:=q7; exact again I7 n7
    | brk=>obtain ⟨σ7,H7,I7,q7⟩:=q7; exact ⟨σ7,H7,I7.unpinned,q7⟩
    | ret v=>obtain ⟨x7,σ7,H7,I7,r7,q7⟩:=q7; exact ⟨x7,σ7,H7,I7.unpinned,r7,q7⟩
end
end L2
namespace L2
open PySem PySem.Spec PyProof.Rows
noncomputable abbrev R2:=V→V→Hp→VK→Prop
noncomputable def OpR (X:Cx) (f:Value→Value→Sem Value) (r:R2):Prop :=
  ∀ (pins:List (Addr×Obj)) (s:Shared) (σ:St) (H:Hp) (x y:V) (v u:Value) (Q:VK),Inv X pins σ H s→RelV x v→RelV y u→r x y H Q →
    wpAny (model X.prog X.w) X.A (f v u) (EP X pins σ Q) X.xe s
noncomputable def Js (X:Cx) (f:Value) (r:List V→Hp→VK→Prop):Prop :=
  ∀ (pins:List (Addr×Obj)) (s:Shared) (σ:St) (H:Hp) (xs:List V) (us:List Value) (Q:VK),Inv X pins σ H s→Vals xs us→r xs H Q →
    wpAny (model X.prog X.w) X.A (call f us) (EP X pins σ Q) X.xe s
noncomputable def TruR (X:Cx) (r:V→Hp→(Bool→Hp→Prop)→Prop):Prop :=
  ∀ (pins:List (Addr×Obj)) (s:Shared) (σ:St) (H:Hp) (x:V) (v:Value) (Q:Bool→Hp→Prop),Inv X pins σ H s→RelV x v→r x H Q →
    wpAny (model X.prog X.w) X.A (truthy v) (TP X pins σ Q) X.xe s
noncomputable def tOp (r:R2) (ta tb:TE):TE:=fun σ H Q=>ta σ H fun x H1=>tb σ H1 fun y H2=>r x y H2 Q
noncomputable def rI (C:Int→Int→Prop) (g:Int→Int→V):R2:=fun x y H Q=>∃ i j,x = .int i∧y = .int j∧C i j∧Q (g i j) H
noncomputable def rI0 (g:Int→Int→V):R2:=fun x y H Q=>∃ i j,x = .int i∧y = .int j∧Q (g i j) H
section
variable {X:Cx} {a b c:Expr} {ta tb tc:TE} {pos:Pos}
theorem binT (ha:PE X a ta) (hb:PE X b tb) {pins:List (Addr×Obj)} {s:Shared} {σ:St} {H:Hp} {R:V→V→Hp→Prop} (I:Inv X pins σ H s)
    (h:ta σ H fun x H1=>tb σ H1 fun y H2=>R x y H2) {Q:Value→Shared→Prop} {f:Value→Value→Sem Value}
    (hf:∀ v u s2 x y H2,Inv X pins σ H2 s2→RelV x v→RelV y u→R x y H2→wpAny (model X.prog X.w) X.A (f v u) Q X.xe s2) :
    wpAny (model X.prog X.w) X.A (eval a X.env) (fun v s₁=>wpAny (model X.prog X.w) X.A (eval b X.env) (fun u s₂=>wpAny (model X.prog X.w) X.A (f v u) Q X.xe s₂) X.xe s₁) X.xe s:=by
  refine thn (ha pins s σ H _ I h) fun v s1 ⟨x,H1,I1,r1,q1⟩=>?_
  refine thn (hb pins s1 σ H1 _ I1 q1) fun u s2 ⟨y,H2,I2,r2,q2⟩=>?_
  exact hf v u s2 x y H2 I2 r1 r2 q2
theorem pe_op {op:Operator} {r:R2} (ho:OpR X (binaryOp op) r) (ha:PE X a ta) (hb:PE X b tb):PE X (.BinOp a op b pos) (tOp r ta tb):=by
  intro pins s σ H Q I h
  exact wpAny_BinOp (binT ha hb I h fun v u s2 x y H2 I2 rx ry q=>ho pins s2 σ H2 x y v u Q I2 rx ry q)
theorem opI {f:Value→Value→Sem Value} {C:Int→Int→Prop} {g:Int→Int→Int}
    (rule:∀ (i j:Int) (t u:Tok) (s:Shared) (Q:Value→Shared→Prop) (E:Value→Shared→Prop),C i j→Q (.int (g i j) s.toks) { s with toks:=s.toks + 1 }→wpAny (model X.prog X.w) X.A (f (.int i t) (.int j u)) Q E s) :
    OpR X f (rI C fun i j=>.int (g i j)):=by
  intro pins s σ H x y v u Q I rx ry h
  obtain ⟨i,j,rfl,rfl,hc,q⟩:=h
  obtain ⟨t,rfl⟩:=rx
  obtain ⟨t',rfl⟩:=ry
  exact rule i j t t' s _ _ hc ⟨.int (g i j),H,I.tok _,⟨_,rfl⟩,q⟩
theorem opI0 {f:Value→Value→Sem Value} {g:Int→Int→Int}
    (rule:∀ (i j:Int) (t u:Tok) (s:Shared) (Q:Value→Shared→Prop) (E:Value→Shared→Prop),Q (.int (g i j) s.toks) { s with toks:=s.toks + 1 }→wpAny (model X.prog X.w) X.A (f (.int i t) (.int j u)) Q E s) :
    OpR X f (rI0 fun i j=>.int (g i j)):=by
  intro pins s σ H x y v u Q I rx ry h
  obtain ⟨i,j,rfl,rfl,q⟩:=h
  obtain ⟨t,rfl⟩:=rx
  obtain ⟨t',rfl⟩:=ry
  exact rule i j t t' s _ _ ⟨.int (g i j),H,I.tok _,⟨_,rfl⟩,q⟩
theorem opB0 {f:Value→Value→Sem Value} {g:Int→Int→Bool}
    (rule:∀ (i j:Int) (t u:Tok) (s:Shared) (Q:Value→Shared→Prop) (E:Value→Shared→Prop),Q (.bool (g i j)) s→wpAny (model X.prog X.w) X.A (f (.int i t) (.int j u)) Q E s) :
    OpR X f (rI0 fun i j=>.bl (g i j)):=by
  intro pins s σ H x y v u Q I rx ry h
  obtain ⟨i,j,rfl,rfl,q⟩:=h
  obtain ⟨t,rfl⟩:=rx
  obtain ⟨t',rfl⟩:=ry
  exact rule i j t t' s _ _ ⟨.bl (g i j),H,I,rfl,q⟩
noncomputable def CDiv (i j:Int):Prop:=0 < j∧j < 1073741824
noncomputable def CPow (i j:Int):Prop:=0≤j∧j≤1000000∧i.natAbs < 2 ^ 64
noncomputable def CMul (i j:Int):Prop:=(-(2 ^ 64) < i∧i < 2 ^ 64)∨(-(2 ^ 64) < j∧j < 2 ^ 64)
theorem CMul.ok {i j:Int} (h:CMul i j):IntMulOk i j:=by
  rcases h with ⟨h1,h2⟩ | ⟨h1,h2⟩
  · exact .of_left (intBits_le_64 h1 h2)
  · exact .of_right (intBits_le_64 h1 h2)
theorem op_add:OpR X (binaryOp .Add) (rI0 fun i j=>.int (i + j)):=opI0 fun _ _ _ _ _ _ _ q=>add_int q
theorem op_sub:OpR X (binaryOp .Sub) (rI0 fun i j=>.int (i - j)):=opI0 fun _ _ _ _ _ _ _ q=>sub_int q
theorem ZlJ:OpR X (binaryOp .FloorDiv) (rI CDiv fun i j=>.int (i / j)):=opI fun i j _ _ _ _ _ hc q=>by
  have h1:(0:Int) < j:=hc.1
  have h2:j < 1073741824:=hc.2
  exact floordiv_int (by omega) (by rw [Int.fdiv_eq_ediv_of_nonneg i (by omega)]; exact q) (.inl (PyProof.noPylong_small (by omega)))
theorem op_mod:OpR X (binaryOp .Mod) (rI (fun _ j=>0 < j) fun i j=>.int (i % j)):=opI fun i j _ _ _ _ _ hc q=>by
  have h1:(0:Int) < j:=hc
  exact mod_int' (by omega) (by rw [Int.fmod_eq_emod_of_nonneg i (by omega)]; exact q)
theorem op_pow:OpR X (binaryOp .Pow) (rI CPow fun i j=>.int (i ^ j.toNat)):=opI fun _ _ _ _ _ _ _ hc q=>pow_int_small hc.1 hc.2.1 hc.2.2 q
end
noncomputable def scal:V→V→Bool
  | .non,.non=>true | .non,.int _=>true | .int _,.non=>true | .non,.bl _=>true | .bl _,.non=>true | .non,.str _=>true | .str _,.non=>true
  | .int _,.int _=>true | .bl _,.bl _=>true | .str _,.str _=>true | .byt _,.byt _=>true
  | .int _,.str _=>true | .str _,.int _=>true | .bl _,.str _=>true | .str _,.bl _=>true
  | _,_=>false
noncomputable def rEq:R2:=fun x y H Q=>scal x y=true∧Q (.bl (decide (x=y))) H
noncomputable def rNe:R2:=fun x y H Q=>scal x y=true∧Q (.bl (!decide (x=y))) H
theorem Ze3 {i j:Int}:decide (V.int i=V.int j)=(i == j):=by
  rw [Bool.eq_iff_iff]
  simp
theorem Zis {i j:Bool}:decide (V.bl i=V.bl j)=(i == j):=by
  rw [Bool.eq_iff_iff]
  simp
theorem Ziq {i j:Str}:decide (V.str i=V.str j)=(i == j):=by
  rw [Bool.eq_iff_iff]
  simp
theorem Zir {i j:Array UInt8}:decide (V.byt i=V.byt j)=(i.toList == j.toList):=by
  rw [Bool.eq_iff_iff]
  cases i
  cases j
  simp
section
variable {X:Cx} {a b c:Expr} {ta tb tc:TE} {pos:Pos}
theorem ZF {pins:List (Addr×Obj)} {σ:St} {H:Hp} {s:Shared} {Q:VK} {k k':Bool} (I:Inv X pins σ H s) (q:Q (.bl k) H) (e:k=k'):EP X pins σ Q (.bool k') s:=by
  subst e
  exact ⟨.bl k,H,I,rfl,q⟩
theorem op_eq:OpR X (compareOp .Eq) rEq:=by
  intro pins s σ H x y v u Q I rx ry h
  obtain ⟨hs,q⟩:=h
  cases x with
  | non =>
    cases rx
    cases y with
    | non=>cases ry; exact PySem.EqNone.eq_none_none (ZF I q (by simp))
    | bl j=>cases ry; exact PySem.EqNone.eq_none_bool (ZF I q (by simp))
    | int j=>obtain ⟨t',rfl⟩:=ry; exact PySem.EqNone.eq_none_int (ZF I q (by simp))
    | str j=>obtain ⟨t',rfl⟩:=ry; exact PySem.EqNone.eq_none_str (ZF I q (by simp))
    | _=>exact absurd (show false=true from hs) Bool.false_ne_true
  | bl i =>
    cases rx
    cases y with
    | non=>cases ry; exact PySem.EqNone.eq_bool_none (ZF I q (by simp))
    | bl j=>cases ry; exact eq_bool (ZF I q Zis)
    | str j=>obtain ⟨t',rfl⟩:=ry; exact PySem.EqMixed.eq_bool_str (ZF I q (by simp))
    | _=>exact absurd (show false=true from hs) Bool.false_ne_true
  | int i =>
    obtain ⟨t,rfl⟩:=rx
    cases y with
    | non=>cases ry; exact PySem.EqNone.eq_int_none (ZF I q (by simp))
    | int j=>obtain ⟨t',rfl⟩:=ry; exact eq_int (ZF I q Ze3)
    | str j=>obtain ⟨t',rfl⟩:=ry; exact PySem.EqMixed.eq_int_str (ZF I q (by simp))
    | _=>exact absurd (show false=true from hs) Bool.false_ne_true
  | str i =>
    obtain ⟨t,rfl⟩:=rx
    cases y with
    | non=>cases ry; exact PySem.EqNone.eq_str_none (ZF I q (by simp))
    | bl j=>cases ry; exact PySem.EqMixed.eq_str_bool (ZF I q (by simp))
    | int j=>obtain ⟨t',rfl⟩:=ry; exact PySem.EqMixed.eq_str_int (ZF I q (by simp))
    | str j=>obtain ⟨t',rfl⟩:=ry; exact eq_str (ZF I q Ziq)
    | _=>exact absurd (show false=true from hs) Bool.false_ne_true
  | byt i =>
    obtain ⟨t,rfl⟩:=rx
    cases y with
    | byt j=>obtain ⟨t',rfl⟩:=ry; exact PySem.W.eq_bytes (ZF I q Zir)
    | _=>exact absurd (show false=true from hs) Bool.false_ne_true
  | _=>cases y <;> exact absurd (show false=true from hs) Bool.false_ne_true
theorem op_ne:OpR X (compareOp .NotEq) rNe:=by
  intro pins s σ H x y v u Q I rx ry h
  obtain ⟨hs,q⟩:=h
  cases x with
  | non =>
    cases rx
    cases y with
    | non=>cases ry; exact PySem.EqNone.ne_none_none (ZF I q (by simp))
    | bl j=>cases ry; exact PySem.EqNone.ne_none_bool (ZF I q (by simp))
    | int j=>obtain ⟨t',rfl⟩:=ry; exact PySem.EqNone.ne_none_int (ZF I q (by simp))
    | str j=>obtain ⟨t',rfl⟩:=ry; exact PySem.EqNone.ne_none_str (ZF I q (by simp))
    | _=>exact absurd (show false=true from hs) Bool.false_ne_true
  | bl i =>
    cases rx
    cases y with
    | non=>cases ry; exact PySem.EqNone.ne_bool_none (ZF I q (by simp))
    | bl j=>cases ry; exact ne_bool (ZF I q (congrArg not Zis))
    | str j=>obtain ⟨t',rfl⟩:=ry; exact PySem.EqMixed.ne_bool_str (ZF I q (by simp))
    | _=>exact absurd (show false=true from hs) Bool.false_ne_true
  | int i =>
    obtain ⟨t,rfl⟩:=rx
    cases y with
    | non=>cases ry; exact PySem.EqNone.ne_int_none (ZF I q (by simp))
    | int j=>obtain ⟨t',rfl⟩:=ry; exact ne_int (ZF I q (congrArg not Ze3))
    | str j=>obtain ⟨t',rfl⟩:=ry; exact PySem.EqMixed.ne_int_str (ZF I q (by simp))
    | _=>exact absurd (show false=true from hs) Bool.false_ne_true
  | str i =>
    obtain ⟨t,rfl⟩:=rx
    cases y with
    | non=>cases ry; exact PySem.EqNone.ne_str_none (ZF I q (by simp))
    | bl j=>cases ry; exact PySem.EqMixed.ne_str_bool (ZF I q (by simp))
    | int j=>obtain ⟨t',rfl⟩:=ry; exact PySem.EqMixed.ne_str_int (ZF I q (by simp))
    | str j=>obtain ⟨t',rfl⟩:=ry; exact ne_str (ZF I q (congrArg not Ziq))
    | _=>exact absurd (show false=true from hs) Bool.false_ne_true
  | byt i =>
    obtain ⟨t,rfl⟩:=rx
    cases y with
    | byt j=>obtain ⟨t',rfl⟩:=ry; exact PySem.W.ne_bytes (ZF I q (congrArg not Zir))
    | _=>exact absurd (show false=true from hs) Bool.false_ne_true
  | _=>cases y <;> exact absurd (show false=true from hs) Bool.false_ne_true
theorem op_lt:OpR X (compareOp .Lt) (rI0 fun i j=>.bl (decide (i < j))):=opB0 fun _ _ _ _ _ _ _ q=>lt_int q
theorem op_le:OpR X (compareOp .LtE) (rI0 fun i j=>.bl (decide (i≤j))):=opB0 fun _ _ _ _ _ _ _ q=>le_int q
theorem op_gt:OpR X (compareOp .Gt) (rI0 fun i j=>.bl (decide (j < i))):=opB0 fun _ _ _ _ _ _ _ q=>gt_int q
theorem op_ge:OpR X (compareOp .GtE) (rI0 fun i j=>.bl (decide (j≤i))):=opB0 fun _ _ _ _ _ _ _ q=>ge_int q
theorem ZhC:OpR X (compareOp .Lt) (fun x y H Q=>∃ i j,x = .str i∧y = .str j∧Q (.bl (decide (i.cps.toList < j.cps.toList))) H):=by
  intro pins s σ H x y v u Q I rx ry h
  obtain ⟨i,j,rfl,rfl,q⟩:=h
  obtain ⟨t,rfl⟩:=rx
  obtain ⟨t',rfl⟩:=ry
  exact lt_str (ZF I q rfl)
theorem ZhD:OpR X (compareOp .In) (fun x y H Q=>∃ i j,x = .str i∧y = .str j∧Q (.bl (!(Builtin.Str.occurrences j i 0 j.length 1).isEmpty)) H):=by
  intro pins s σ H x y v u Q I rx ry h
  obtain ⟨i,j,rfl,rfl,q⟩:=h
  obtain ⟨t,rfl⟩:=rx
  obtain ⟨t',rfl⟩:=ry
  exact in_str (ZF I q rfl)
theorem op_isN:OpR X (compareOp .Is) (fun x y H Q=>y = .non∧Q (.bl (decide (x = .non))) H):=by
  intro pins s σ H x y v u Q I rx ry h
  obtain ⟨rfl,q⟩:=h
  cases ry
  refine is_none_gen (ZF I q ?_)
  cases x <;> first
    | (cases rx; rfl)
    | (obtain ⟨t,rfl⟩:=rx; rfl)
theorem ZlG:OpR X (compareOp .IsNot) (fun x y H Q=>y = .non∧Q (.bl (!decide (x = .non))) H):=by
  intro pins s σ H x y v u Q I rx ry h
  obtain ⟨rfl,q⟩:=h
  cases ry
  refine isnot_none_gen (ZF I q ?_)
  cases x <;> first
    | (cases rx; rfl)
    | (obtain ⟨t,rfl⟩:=rx; rfl)
theorem ZdE:OpR X (compareOp .NotIn) (fun x y H Q=>∃ i j,x = .str i∧y = .str j∧Q (.bl (!(!(Builtin.Str.occurrences j i 0 j.length 1).isEmpty))) H):=by
  intro pins s σ H x y v u Q I rx ry h
  obtain ⟨i,j,rfl,rfl,q⟩:=h
  obtain ⟨t,rfl⟩:=rx
  obtain ⟨t',rfl⟩:=ry
  exact notIn_str (ZF I q rfl)
theorem OpR.or {f:Value→Value→Sem Value} {r r':R2} (h:OpR X f r) (h':OpR X f r'):OpR X f (fun x y H Q=>r x y H Q∨r' x y H Q):=by
  intro pins s σ H x y v u Q I rx ry q
  rcases q with q | q
  · exact h pins s σ H x y v u Q I rx ry q
  · exact h' pins s σ H x y v u Q I rx ry q
theorem Zlw {op:CmpOp} {r:R2} (ho:OpR X (compareOp op) r) (ha:PE X a ta) (hb:PE X b tb) (hm:behindInMarks op b=false):PE X (.Compare a [op] [b] pos) (tOp r ta tb):=by
  intro pins s σ H Q I h
  exact wpAny_Compare1 (binT ha hb I h fun v u s2 x y H2 I2 rx ry q=>ho pins s2 σ H2 x y v u Q I2 rx ry q) hm
noncomputable def ZkW (t:TE):TT:=fun σ H Q=>t σ H fun x H'=>∃ k,x = .bl k∧Q k H'
theorem Zk7 {op:CmpOp} {r:R2} (ho:OpR X (compareOp op) r) (ha:PE X a ta) (hb:PE X b tb) (hm:behindInMarks op b=false):PT X (.Compare a [op] [b] pos) (ZkW (tOp r ta tb)):=by
  intro pins s σ H Q I h
  refine wpAny_isTrue_Compare1 (thn (ha pins s σ H _ I h) fun v s1 ⟨x,H1,I1,r1,q1⟩=>thn (hb pins s1 σ H1 _ I1 q1) fun u s2 ⟨y,H2,I2,r2,q2⟩ =>
    thn (ho pins s2 σ H2 x y v u _ I2 r1 r2 q2) fun c s3 ⟨z,H3,I3,r3,k,e,q3⟩=>?_) hm
  subst e
  cases r3
  exact wpAny_truthy_bool ⟨H3,I3,q3⟩
noncomputable def Zhb (r r':R2) (ta tb tc:TE):TE:=fun σ H Q=>ta σ H fun x H1=>tb σ H1 fun y H2=>r x y H2 fun z H3=>∃ k,z = .bl k ∧
  (if k=true then tc σ H3 fun w' H4=>r' y w' H4 Q else Q (.bl false) H3)
theorem ZjF {op op':CmpOp} {r r':R2} (ho:OpR X (compareOp op) r) (ho':OpR X (compareOp op') r') (ha:PE X a ta) (hb:PE X b tb) (hc:PE X c tc)
    (hm:lastMarks [op,op'] [b,c]=false:=by with_unfolding_all rfl):PE X (.Compare a [op,op'] [b,c] pos) (Zhb r r' ta tb tc):=by
  intro pins s σ H Q I h
  refine Compare_chain (thn (ha pins s σ H _ I h) fun v s1 ⟨x,H1,I1,r1,q1⟩=>chain_link (thn (hb pins s1 σ H1 _ I1 q1) fun u s2 ⟨y,H2,I2,r2,q2⟩ =>
    thn (ho pins s2 σ H2 x y v u _ I2 r1 r2 q2) fun d s3 ⟨z,H3,I3,r3,k,e,q3⟩=>?_)) hm
  subst e
  cases r3
  refine wpAny_truthy_bool ?_
  cases k with
  | false=>exact ite_ff ⟨.bl false,H3,I3,rfl,q3⟩
  | true=>exact ite_tt (chain_last (thn (hc pins s3 σ H3 _ I3 q3) fun w' s4 ⟨z',H4,I4,r4,q4⟩=>ho' pins s4 σ H4 y z' u w' Q I4 r2 r4 q4))
theorem Zjb {op op':CmpOp} {r r':R2} (ho:OpR X (compareOp op) r) (ho':OpR X (compareOp op') r') (ha:PE X a ta) (hb:PE X b tb) (hc:PE X c tc)
    (hm:lastMarks [op,op'] [b,c]=false:=by with_unfolding_all rfl):PT X (.Compare a [op,op'] [b,c] pos) (ZkW (Zhb r r' ta tb tc)):=by
  intro pins s σ H Q I h
  refine isTrue_chain (thn (ha pins s σ H _ I h) fun v s1 ⟨x,H1,I1,r1,q1⟩=>test_link (thn (hb pins s1 σ H1 _ I1 q1) fun u s2 ⟨y,H2,I2,r2,q2⟩ =>
    thn (ho pins s2 σ H2 x y v u _ I2 r1 r2 q2) fun d s3 ⟨z,H3,I3,r3,k,e,q3⟩=>?_)) hm
  subst e
  cases r3
  refine wpAny_truthy_bool ?_
  cases k with
  | false =>
    obtain ⟨k',e',q'⟩:=q3
    cases e'
    exact ite_ff ⟨H3,I3,q'⟩
  | true =>
    refine ite_tt (test_last (thn (hc pins s3 σ H3 _ I3 q3) fun w' s4 ⟨z',H4,I4,r4,q4⟩=>thn (ho' pins s4 σ H4 y z' u w' _ I4 r2 r4 q4) fun d' s5 ⟨z2,H5,I5,r5,k2,e2,q5⟩=>?_))
    subst e2
    cases r5
    exact wpAny_truthy_bool ⟨H5,I5,q5⟩
noncomputable def TruV (K:PySem.W.Frag) (x:V) (H:Hp) (k:Bool):Prop :=
  match x with
  | .non=>k=false
  | .bl b=>k=b
  | .int i=>k=(i != 0)
  | .str y=>y.length≤sizeLine∧k=((y.length:Int) != 0)
  | .byt y=>y.size≤sizeLine∧k=((y.size:Int) != 0)
  | .ref p=>(∃ xs,SqL K H p xs∧k = !xs.isEmpty)∨(∃ xs,SqT K H p xs∧k = !xs.isEmpty)∨∃ kvs,H p=some (.dK kvs)∧k = !kvs.isEmpty
  | _=>False
theorem ZgB {κ:Type} {kvs:List (κ×V)} {vs:List (κ×Value)} (r:KV kvs vs):(!vs.isEmpty) = !kvs.isEmpty:=by
  cases r <;> rfl
theorem Zcx {xs:List V} {its:List Value} (r:Vals xs its):(!its.toArray.isEmpty) = !xs.isEmpty:=by
  cases r <;> simp
theorem Zcq:(sizeLine:Nat) < 2 ^ 63:=by rw [sizeLine_eq]; decide
theorem tru_ok:TruR X (fun x H Q=>∃ k,TruV X.K x H k∧Q k H):=by
  intro pins s σ H x v Q I rx h
  obtain ⟨k,e,q⟩:=h
  have hl:=Zcq
  have hs:sizeLine=16777216:=sizeLine_eq
  cases x with
  | non =>
    cases rx
    have e':k=false:=e
    subst e'
    exact truthy_none ⟨H,I,q⟩
  | bl b =>
    cases rx
    have e':k=b:=e
    subst e'
    exact wpAny_truthy_bool ⟨H,I,q⟩
  | int i =>
    obtain ⟨t,rfl⟩:=rx
    have e':k=(i != 0):=e
    subst e'
    exact PySem.P.truthy_int ⟨H,I,q⟩
  | str y =>
    obtain ⟨t,rfl⟩:=rx
    obtain ⟨hy,e'⟩:y.length≤sizeLine∧k=((y.length:Int) != 0):=e
    subst e'
    exact PySem.P.truthy_str (by omega) ⟨H,I.tok _,q⟩
  | byt y =>
    obtain ⟨t,rfl⟩:=rx
    obtain ⟨hy,e'⟩:y.size≤sizeLine∧k=((y.size:Int) != 0):=e
    subst e'
    exact PySem.W.truthy_bytes (by omega) ⟨H,I.tok _,q⟩
  | ref p =>
    cases rx
    have e':(∃ xs,SqL X.K H p xs∧k = !xs.isEmpty)∨(∃ xs,SqT X.K H p xs∧k = !xs.isEmpty)∨∃ kvs,H p=some (.dK kvs)∧k = !kvs.isEmpty:=e
    rcases e' with ⟨xs,hx,e'⟩ | ⟨xs,hx,e'⟩ | ⟨kvs,hx,e'⟩
    · subst e'
      obtain ⟨its,r,pl,hz⟩:=I.list hx
      have hlen:=r.length
      exact wpAny_truthy_list pl.isList (by simp only [List.size_toArray]; omega) ⟨H,I.tok _,by rw [Zcx r]; exact q⟩
    · subst e'
      obtain ⟨its,r,pl,hz⟩:=I.tuple hx
      have hlen:=r.length
      exact truthy_tuple pl (by simp only [List.size_toArray]; omega) ⟨H,I.tok _,by rw [Zcx r]; exact q⟩
    · subst e'
      obtain ⟨hz,hS,vs,r,m⟩:kvs.length≤sizeLine∧(p == sysModules)=false∧∃ vs,KV kvs vs∧s.heap.DictOf (Z5 X.prog X.w) p vs:=I.hok p _ hx
      have hlen:kvs.length=vs.length:=Paired.length r
      exact wpAny_truthy_dict hS m (by omega) ⟨H,I.tok _,by rw [ZgB r]; exact q⟩
  | _=>exact (show False from e).elim
theorem Zja (ha:PE X a ta) (he:∀ whole,isTrue a X.env whole=(do let v ← whole; standAt a.pos; holding [v] (truthy v))) :
    PT X a (fun σ H Q=>ta σ H fun x H'=>∃ k,TruV X.K x H' k∧Q k H'):=by
  intro pins s σ H Q I h
  exact isTrue_plain (thn (ha pins s σ H _ I h) fun v s1 ⟨x,H1,I1,r1,q1⟩=>tru_ok pins s1 σ H1 x v Q I1 r1 q1) (he _)
theorem Zgi:OpR X (binaryOp .Add) (fun x y H Q=>∃ i j,x = .str i∧y = .str j∧i.length + j.length≤sizeLine∧Q (.str (i++j)) H):=by
  intro pins s σ H x y v u Q I rx ry h
  obtain ⟨i,j,rfl,rfl,hz,q⟩:=h
  obtain ⟨t,rfl⟩:=rx
  obtain ⟨t',rfl⟩:=ry
  exact add_str (fun t' tk=>⟨.str (i++j),H,I.tok _,⟨_,rfl⟩,q⟩) hz
theorem vals1 {x:V} {us:List Value} (r:Vals [x] us):∃ u,us=[u]∧RelV x u:=by
  cases r with
  | cons r1 r2=>cases r2; exact ⟨_,rfl,r1⟩
theorem vals2 {x y:V} {us:List Value} (r:Vals [x,y] us):∃ u w',us=[u,w']∧RelV x u∧RelV y w':=by
  cases r with
  | cons r1 r2 =>
    cases r2 with
    | cons r3 r4=>cases r4; exact ⟨_,_,rfl,r1,r3⟩
theorem ZiC (hc:X.calm=true):Js X (.builtin "min") (fun xs H Q=>∃ i j,xs=[.int i,.int j]∧Q (.int (if j < i then j else i)) H):=by
  intro pins s σ H xs us Q I r h
  obtain ⟨i,j,rfl,q⟩:=h
  obtain ⟨u,w',rfl,⟨t,rfl⟩,⟨t',rfl⟩⟩:=vals2 r
  refine min_two_ints (I.ok.hd hc) fun h' tk k=>⟨_,H,I.kept k,?_,q⟩
  by_cases hj:j < i
  · rw [if_pos hj,if_pos hj]; exact ⟨_,rfl⟩
  · rw [if_neg hj,if_neg hj]; exact ⟨_,rfl⟩
theorem Zee:Js X (.type "int") (fun xs H Q=>(∃ i,xs=[.int i]∧Q (.int i) H)∨∃ k,xs=[.bl k]∧Q (.int (if k then 1 else 0)) H):=by
  intro pins s σ H xs us Q I r h
  rcases h with ⟨i,rfl,q⟩ | ⟨k,rfl,q⟩
  · obtain ⟨u,rfl,t,rfl⟩:=vals1 r
    exact call_int_int ⟨.int i,H,I,⟨_,rfl⟩,q⟩
  · obtain ⟨u,rfl,r1⟩:=vals1 r
    cases r1
    exact call_int_bool ⟨.int (if k then 1 else 0),H,I.tok _,⟨_,rfl⟩,q⟩
theorem Zed:Js X (.type "str") (fun xs H Q=>∃ i,xs=[.int i]∧i.natAbs.log2 < 1920∧Q (.str (toString i)) H):=by
  intro pins s σ H xs us Q I r h
  obtain ⟨i,rfl,hz,q⟩:=h
  obtain ⟨u,rfl,t,rfl⟩:=vals1 r
  exact PySem.P.str_of_int hz ⟨.str _,H,I.tok _,⟨_,rfl⟩,q⟩
noncomputable def LenV (K:PySem.W.Frag) (x:V) (H:Hp) (n:Nat):Prop :=
  match x with
  | .str y=>y.length≤sizeLine∧n=y.length
  | .byt y=>y.size≤sizeLine∧n=y.size
  | .ref p=>(∃ xs,SqL K H p xs∧n=xs.length)∨∃ xs,SqT K H p xs∧n=xs.length
  | _=>False
theorem Zbe:Js X (.builtin "len") (fun xs H Q=>∃ x n,xs=[x]∧LenV X.K x H n∧Q (.int n) H):=by
  intro pins s σ H xs us Q I r h
  obtain ⟨x,n,rfl,e,q⟩:=h
  obtain ⟨u,rfl,rx⟩:=vals1 r
  have hl:=Zcq
  have hs:sizeLine=16777216:=sizeLine_eq
  cases x with
  | str y =>
    obtain ⟨t,rfl⟩:=rx
    obtain ⟨hy,e'⟩:y.length≤sizeLine∧n=y.length:=e
    subst e'
    exact len_str (by omega) ⟨.int _,H,I.tok _,⟨_,rfl⟩,q⟩
  | byt y =>
    obtain ⟨t,rfl⟩:=rx
    obtain ⟨hy,e'⟩:y.size≤sizeLine∧n=y.size:=e
    subst e'
    exact PySem.W.len_bytes (by omega) ⟨.int _,H,I.tok _,⟨_,rfl⟩,q⟩
  | ref p =>
    cases rx
    have e':(∃ xs,SqL X.K H p xs∧n=xs.length)∨∃ xs,SqT X.K H p xs∧n=xs.length:=e
    rcases e' with ⟨xs,hx,e'⟩ | ⟨xs,hx,e'⟩
    · subst e'
      obtain ⟨its,r',pl,hz⟩:=I.list hx
      have hlen:=r'.length
      exact Calls.call_len_list pl.isList (by simp only [List.size_toArray]; omega) ⟨.int xs.length,H,I.tok _,⟨_,by simp only [List.size_toArray]; rw [hlen]⟩,q⟩
    · subst e'
      obtain ⟨its,r',pl,hz⟩:=I.tuple hx
      have hlen:=r'.length
      exact len_tuple pl (by simp only [List.size_toArray]; omega) ⟨.int xs.length,H,I.tok _,⟨_,by simp only [List.size_toArray]; rw [hlen]⟩,q⟩
  | _=>exact (show False from e).elim
end
end L2
namespace L2
open PySem PySem.Spec PyProof.Rows
structure ObjM (h:Heap) (x dx C:Addr) (mA:Str→Option Value):Prop where
  obj:h.get? x=some (PySem.W.instObj C dx)
  ns:h.Ns1 dx mA
  ne:dx≠x
theorem ZhZ {h:Heap} {dx:Addr} {mA:Str→Option Value} (n:h.Ns1 dx mA):∃ od,h.get? dx=some od∧∀ name,PySem.W.lookIn name od=some (mA name):=by
  obtain ⟨o,es,ep,ho,hd,hk,_,hm⟩:=n
  refine ⟨o,ho,fun name=>?_⟩
  have e:=hm name
  unfold nsFind findBy at e
  rw [← Array.find?_toList] at e
  unfold PySem.W.lookIn
  rw [hd]
  dsimp only
  split
  · rename_i y q
    rw [q] at e
    exact congrArg some e
  · rename_i q
    rw [q] at e
    have a:es.toList.any (·.refKey)=false:=by
      rw [List.any_eq_false]
      intro y hy
      obtain ⟨z,t,hkey⟩:=hk y (Array.mem_toList_iff.mp hy)
      simp [DictEntry.refKey,hkey]
    have a':¬ es.toList.any (·.refKey)=true:=by rw [a]; exact Bool.false_ne_true
    rw [if_neg a']
    exact congrArg some e
theorem ObjM.look {h:Heap} {x dx C:Addr} {mA:Str→Option Value} (I:ObjM h x dx C mA):∃ od,PySem.W.InstAt h x (PySem.W.instObj C dx) C (some od)∧∀ name,PySem.W.lookIn name od=some (mA name) :=
  let ⟨od,ho,hl⟩:=ZhZ I.ns
  ⟨od,⟨I.obj,rfl,rfl,ho⟩,hl⟩
section
variable {prog:Program} {w:World} {A:Around} {E:Value→Shared→Prop} {s:Shared} {K:PySem.W.Frag} {x dx C f:Addr} {mA:Str→Option Value} {name:Str} {v:Value}
end
theorem RelO.some_of {v:V} {o:Option Value} (r:RelO (some v) o):∃ u,o=some u∧RelV v u:=by
  cases o with
  | none=>exact (show False from r).elim
  | some u=>exact ⟨u,rfl,r⟩
theorem RelO.none_of {o:Option Value} (r:RelO none o):o=none:=by
  cases o with
  | none=>rfl
  | some u=>exact (show False from r).elim
section
variable {P:Program} {w:World} {H H':Hp} {h h':Heap} {a C dx:Addr} {fs fs':List (Str×V)}
theorem Zl3 (hok:HOk P w H h) (e:H a=some (.ins C dx fs)):∃ mA,ObjM h a dx C mA∧(∀ f,RelO (fs.lookup f) (mA f))∧PySem.Within mA (fs.map (·.1))∧fs.length≤1000∧H dx=some (.own a):=by
  obtain ⟨d,z,ne,ob,mA,n,r,q⟩:=(show QZ P w H h a (.ins C dx fs) from hok a _ e)
  exact ⟨mA,⟨ob,n,ne⟩,r,q,z,d⟩
end
structure Cls (K:PySem.W.Frag) (C:Addr):Prop where
  pg:PySem.W.plainGet K C Str.empty=true
  hd:PySem.W.hasDictIn K C=true
  po:PySem.W.plainOver K C=true
  sa:PySem.W.findIn K (.ref C) "__setattr__" = some (some (.builtin "object.__setattr__"))
theorem Cls.get {K:PySem.W.Frag} {C:Addr} (c:Cls K C) (f:Str):PySem.W.plainGet K C f=true:=c.pg
structure Con (K:PySem.W.Frag) (C:Addr) (f:Str) (v:V) (u:Value):Prop where
  at_:PySem.W.findIn K (.ref C) f=some (some u)
  rel:RelV v u
  get:PySem.W.specialIn K u "__get__" = some none
  cp:PySem.W.copiedNames.contains f=false
structure Meth (K:PySem.W.Frag) (C:Addr) (m:Str) (f:Addr):Prop where
  at_:PySem.W.findIn K (.ref C) m=some (some (.ref f))
  fn:PySem.W.isFn K (.ref f)=true
  kp:PySem.W.keepIn K (.ref f)=true
section
variable {X:Cx} {pins:List (Addr×Obj)} {σ:St} {H:Hp} {s:Shared} {a C dx:Addr} {fs:List (Str×V)} {f:Str} {v:V} {A:Around} {E:Value→Shared→Prop}
end
section
variable {X:Cx} {o e value:Expr} {f:Str} {pos pos' tpos:Pos} {ta tv:TE}
end
section
variable {X:Cx} {pins:List (Addr×Obj)} {σ:St} {H:Hp} {s:Shared} {A:Around} {E:Value→Shared→Prop} {Q:Value→Shared→Prop} {c:Value} {b:Bool}
inductive TyOf (K:PySem.W.Frag) (H:Hp):V→Value→Prop where
  | non:TyOf K H .non (.type "NoneType")
  | bl (x:Bool):TyOf K H (.bl x) (.type "bool")
  | int (i:Int):TyOf K H (.int i) (.type "int")
  | str (x:Str):TyOf K H (.str x) (.type "str")
  | flt (x:UInt64):TyOf K H (.flt x) (.type "float")
  | lst {a:Addr} {xs:List V} (e:H a=some (.lst xs)):TyOf K H (.ref a) (.type "list")
  | frz {a:Addr} {o:Obj} {xs:List V} (e:H a=some (.frz o (.lst xs))):TyOf K H (.ref a) (.type "list")
  | tup {a:Addr} {xs:List V} (e:H a=some (.tup xs)):TyOf K H (.ref a) (.type "tuple")
  | dK {a:Addr} {kvs:List (Key×V)} (e:H a=some (.dK kvs)):TyOf K H (.ref a) (.type "dict")
  | dT {a:Addr} {kvs:List (List Key×V)} (e:H a=some (.dT kvs)):TyOf K H (.ref a) (.type "dict")
  | ins {a C dx:Addr} {fs:List (Str×V)} (e:H a=some (.ins C dx fs)) (cl:Cls K C) (ha:PySem.W.findIn K (.ref C) "__class__" = some (some (.builtin "object.__class__")))
      (hn:PySem.W.specialIn K (.builtin "object.__class__") "__get__" = some (some (.builtin "getset_descriptor.__get__"))) (htk:PySem.W.takesIn K (.builtin "object.__class__")=some true)
      (hm:PySem.W.mroIn K C (.type "object")=some true):TyOf K H (.ref a) (.ref C)
theorem Xm {x:V} {u t:Value} (I:Inv X pins σ H s) (rx:RelV x u) (ty:TyOf X.K H x t) (e:PySem.W.kitOne X.K t c=some b) (h:∀ tk,Q (.bool b) { s with toks:=tk }) :
    wpAny (model X.prog X.w) A (call (.builtin "isinstance") [u,c]) Q E s:=by
  cases ty with
  | non=>cases (show u=Value.none from rx); exact PySem.W.kia_one PySem.W.kitx_none I.kIn True.intro e (fun z=>nomatch z) h
  | bl y=>cases (show u=Value.bool y from rx); exact PySem.W.kia_one PySem.W.kitx_bool I.kIn True.intro e (fun z=>nomatch z) h
  | int i=>obtain ⟨t,q⟩:=(show ∃ t,u=Value.int i t from rx); cases q; exact PySem.W.kia_one PySem.W.kitx_int I.kIn True.intro e (fun z=>nomatch z) h
  | str y=>obtain ⟨t,q⟩:=(show ∃ t,u=Value.str y t from rx); cases q; exact PySem.W.kia_one PySem.W.kitx_str I.kIn True.intro e (fun z=>nomatch z) h
  | flt y=>obtain ⟨t,q⟩:=(show ∃ t,u=Value.float y t from rx); cases q; exact PySem.W.kia_one PySem.W.kitx_float I.kIn True.intro e (fun z=>nomatch z) h
  | @lst a xs ea =>
    cases (show u=Value.ref a from rx)
    obtain ⟨_,_,n,_,h1⟩:=(show QZ X.prog X.w H s.heap a (.lst xs) from I.hok a _ ea)
    exact PySem.W.kia_one PySem.W.kitx_list I.kIn ⟨_,h1,rfl⟩ e (fun z=>nomatch z) h
  | @frz a ob xs ea =>
    cases (show u=Value.ref a from rx)
    obtain ⟨_,_,_,n,_,h1⟩:=(show QZ X.prog X.w H s.heap a (.frz ob (.lst xs)) from I.hok a _ ea)
    exact PySem.W.kia_one PySem.W.kitx_list I.kIn ⟨_,h1,rfl⟩ e (fun z=>nomatch z) h
  | @tup a xs ea =>
    cases (show u=Value.ref a from rx)
    obtain ⟨_,_,_,p⟩:=(show QZ X.prog X.w H s.heap a (.tup xs) from I.hok a _ ea)
    obtain ⟨o,h1,h2,_⟩:=p
    exact PySem.W.kia_one PySem.W.kitx_tuple I.kIn ⟨o,h1,h2⟩ e (fun z=>nomatch z) h
  | @dK a kvs ea =>
    cases (show u=Value.ref a from rx)
    obtain ⟨_,_,vs,_,p⟩:=(show QZ X.prog X.w H s.heap a (.dK kvs) from I.hok a _ ea)
    obtain ⟨o,es,ep,h1,h2,_⟩:=p
    exact PySem.W.kia_one PySem.W.kitx_dict I.kIn ⟨o,h1,h2.1⟩ e (fun z=>nomatch z) h
  | @dT a kvs ea =>
    cases (show u=Value.ref a from rx)
    obtain ⟨_,_,xs,_,o,es,ep,h1,h2,_⟩:=(show QZ X.prog X.w H s.heap a (.dT kvs) from I.hok a _ ea)
    exact PySem.W.kia_one PySem.W.kitx_dict I.kIn ⟨o,h1,h2.1⟩ e (fun z=>nomatch z) h
  | @ins a C dx fs ea cl ha hn htk hm =>
    cases (show u=Value.ref a from rx)
    obtain ⟨mA,O,_⟩:=Zl3 I.hok ea
    obtain ⟨od,J,_⟩:=O.look
    exact PySem.W.kia_one (PySem.W.kitx_own (cl.get _) cl.hd ha hn htk hm) I.kIn J e (fun z=>nomatch z) h
end
end L2
namespace L2
open PySem PySem.Spec PyProof.Rows
structure Room (k:Nat) (A:Around):Prop where
  hd:A.handled=none
  dp:A.depth + 3 * k + 5 < recursionLimit
  un:A.units + 16 * k + 200 < cLine
theorem Room.mono {j k:Nat} {A:Around} (r:Room k A) (h:j≤k):Room j A:=⟨r.hd,by have:=r.dp; omega,by have:=r.un; omega⟩
theorem Room.deeper {k:Nat} {A:Around} (r:Room (k + 1) A) (env:Env):Room k (A.deeper env) :=
  ⟨r.hd,by have:=r.dp; show A.depth + 1 + 3 * k + 5 < _; omega,by have:=r.un; show A.units + 3 + 16 * k + 200 < _; omega⟩
theorem Room.in1 {k:Nat} {A:Around} (r:Room (k + 1) A):Room k A.in1 :=
  ⟨r.hd,by have:=r.dp; show A.depth + 3 * k + 5 < _; omega,by have:=r.un; show A.units + 1 + 16 * k + 200 < _; omega⟩
theorem Room.depth {k:Nat} {A:Around} (r:Room k A):A.depth < recursionLimit:=by have:=r.dp; omega
theorem Room.units {k:Nat} {A:Around} (r:Room k A):A.units + 64 < cLine:=by have:=r.un; omega
noncomputable def tNil:TA:=fun _ H Q=>Q [] H
noncomputable def tCons (ta:TE) (tr:TA):TA:=fun σ H Q=>ta σ H fun x H1=>tr σ H1 fun xs H2=>Q (x :: xs) H2
section
variable {X:Cx} {e:Expr} {es:List Expr} {te:TE} {t:TA} {pos:Pos}
theorem Zku:PA X [] tNil:=fun _ _ _ _ H Q I h=>Calls.spliced_nil ⟨[],H,I,.nil,h⟩
theorem ZeF (ha:PE X e te) (hr:PA X es t) (hs:starEach (e :: es) X.env=(false,eval e X.env) :: starEach es X.env:=by rfl):PA X (e :: es) (tCons te t):=by
  intro pos pins s σ H Q I h
  rw [hs]
  show wpAny _ _ (spliced ((false,eval e X.env) :: backTo pos (starEach es X.env))) _ _ s
  refine Calls.spliced_cons (thn (ha pins s σ H _ I h) fun u s1 ⟨x,H1,I1,r1,q1⟩=>?_)
  exact thn (hr pos pins s1 σ H1 _ I1 q1) fun us s2 ⟨xs,H2,I2,r2,q2⟩=>⟨x :: xs,H2,I2,.cons r1 r2,q2⟩
noncomputable def tTup (t:TA):TE:=fun σ H Q=>t σ H fun xs H1=>xs.length≤sizeLine∧∀ p,H1 p=none→Q (.ref p) (upd H1 p (.tup xs))
noncomputable def tLst (t:TA):TE:=fun σ H Q=>t σ H fun xs H1=>xs.length≤sizeLine∧∀ p,H1 p=none→Q (.ref p) (upd H1 p (.lst xs))
theorem pe_tup {x1} (h:PA X es t):PE X (.Tuple es x1 pos) (tTup t):=by
  intro pins s σ H Q I hq
  refine wpAny_Tuple_spliced (thn (h pos pins s σ H _ I hq) fun us s1 ⟨xs,H1,I1,r,z,q⟩=>⟨by rw [← r.length]; exact z,?_⟩)
  have hf:H1 s1.heap.objs.size=none:=I1.hok.fresh (Nat.le_refl _)
  refine ⟨.ref s1.heap.objs.size,upd H1 s1.heap.objs.size (.tup xs),I1.laid (t':=s1.toks) (fun b u e=>Heap.get?_push_of_some _ e) (Nat.le_refl _) ?_,rfl,q _ hf⟩
  exact ⟨z,us,r,⟨_,Heap.get?_push_size _ rfl,rfl,⟨_,rfl⟩,rfl⟩⟩
theorem pe_lst (h:PA X es t):PE X (.List es pos) (tLst t):=by
  intro pins s σ H Q I hq
  refine wpAny_List_spliced (thn (h pos pins s σ H _ I hq) fun us s1 ⟨xs,H1,I1,r,z,q⟩=>⟨by rw [← r.length]; exact z,?_⟩)
  have hf:H1 s1.heap.objs.size=none:=I1.hok.fresh (Nat.le_refl _)
  refine ⟨.ref s1.heap.objs.size,upd H1 s1.heap.objs.size (.lst xs),I1.laid (t':=s1.toks) (fun b u e=>Heap.get?_push_of_some _ e) (Nat.le_refl _) ?_,rfl,q _ hf⟩
  exact ⟨z,us,0,r,Heap.get?_push_size _ rfl⟩
end
noncomputable abbrev Sp:=List V→Hp→VK→XK→Prop
noncomputable abbrev CXT:=List Env→Hp→Shared→XK→Value→Shared→Prop
structure Env0 (P:Program) (w:World) (K:PySem.W.Frag) (mg:Str→Option Value) (base:Heap) (A:Around) (outer:List Env) (s:Shared) (H:Hp):Prop where
  frames:A.frames=some outer
  mod:Mod K mg base
  bs:∀ b o,base.get? b=some o→s.heap.get? b=some o∧H b=none
  bsz:base.objs.size≤s.heap.objs.size
  funs:s.heap.FunFrames base outer
  frf:∀ b∈frs outer,H b=none
  hok:HOk P w H s.heap
  bare:AllBare s.gens
noncomputable def CE (outer:List Env) (P:Program) (w:World) (H:Hp) (s:Shared) (Q:VK) (u:Value) (s':Shared):Prop :=
  ∃ v H',s'.os=s.os∧AllBare s'.gens∧Un (frs outer) [] H H' s.heap s'.heap∧HOk P w H' s'.heap∧RelV v u∧Q v H'
noncomputable def CR (CX:CXT) (outer:List Env) (P:Program) (w:World) (H:Hp) (s:Shared) (Q:VK) (E:XK) (r:Result) (s':Shared):Prop :=
  match r with
  | .ok (.ret u)=>CE outer P w H s Q u s'
  | .ok _=>False
  | .error e=>CX outer H s E e s'
structure FnOk (P:Program) (w:World) (K:PySem.W.Frag) (mg:Str→Option Value) (base:Heap) (CX:CXT) (k:Nat) (f:Addr) (fd:FuncData) (ps:List Str) (sp:Sp):Prop where
  len:∀ vs H Q E,sp vs H Q E→vs.length=ps.length
  run:∀ (A:Around) (outer:List Env) (s:Shared) (H:Hp) (args:Args) (us:List Value) (vs:List V) (Q:VK) (E:XK),Room k A→Env0 P w K mg base A outer s H→BindsTo s fd args (ps.zip us)→Vals vs us→sp vs H Q E →
    codeAny (model P w) A (.call (.ref f) args) (CR CX outer P w H s Q E) s
theorem FnOk.mono {P:Program} {w:World} {K:PySem.W.Frag} {mg:Str→Option Value} {base:Heap} {CX:CXT} {j k:Nat} {f:Addr} {fd:FuncData} {ps:List Str} {sp:Sp} (F:FnOk P w K mg base CX j f fd ps sp) (h:j≤k) :
    FnOk P w K mg base CX k f fd ps sp:=⟨F.len,fun A outer s H args us vs Q E hr=>F.run A outer s H args us vs Q E (hr.mono h)⟩
theorem FnOk.imp {P:Program} {w:World} {K:PySem.W.Frag} {mg:Str→Option Value} {base:Heap} {CX:CXT} {k:Nat} {f:Addr} {fd:FuncData} {ps:List Str} {sp sp':Sp} (F:FnOk P w K mg base CX k f fd ps sp)
    (h:∀ vs H Q E,sp' vs H Q E→sp vs H Q E):FnOk P w K mg base CX k f fd ps sp' :=
  ⟨fun vs H Q E q=>F.len vs H Q E (h _ _ _ _ q),fun A outer s H args us vs Q E hr he hb hv hs=>F.run A outer s H args us vs Q E hr he hb hv (h _ _ _ _ hs)⟩
theorem Env0.in1 {P:Program} {w:World} {K:PySem.W.Frag} {mg:Str→Option Value} {base:Heap} {A:Around} {outer:List Env} {s:Shared} {H:Hp} (e:Env0 P w K mg base A outer s H) :
    Env0 P w K mg base A.in1 outer s H:=⟨e.frames,e.mod,e.bs,e.bsz,e.funs,e.frf,e.hok,e.bare⟩
section
variable {X:Cx} {pins:List (Addr×Obj)} {σ:St} {H:Hp} {s s':Shared}
theorem Inv.env0 (I:Inv X pins σ H s):Env0 X.prog X.w X.K X.mg X.base X.A X.stack s H :=
  ⟨I.ok.frames,I.ok.mod,I.bs,Nat.le_trans I.ok.bsz I.sz,I.stack,I.stkFree,I.hok,I.bare⟩
theorem Inv.after {Q:VK} {u:Value} (I:Inv X pins σ H s) (h:CE X.stack X.prog X.w H s Q u s'):EP X pins σ Q u s':=by
  obtain ⟨v,H',os,bare,un,hok,r,q⟩:=h
  obtain ⟨hh,g,d,t,os'⟩:=s'
  obtain rfl:os' = s.os:=os
  exact ⟨v,H',I.call (h':=hh) (g':=g) (d':=d) (t':=t) (ch:=[]) un hok bare (fun b z=>absurd z (by simp)),r,q⟩
end
noncomputable def tCall (sp:Sp) (dvs:List V) (E:XK) (t:TA):TE:=fun σ H Q=>t σ H fun vs H1=>sp (vs++dvs) H1 Q E
noncomputable def Binds (K:PySem.W.Frag) (fd:FuncData) (ps:List Str) (ds:List Value):Prop :=
  ∀ (s:Shared) (us:List Value),K.In s.heap→(us++ds).length=ps.length→BindsTo s fd ⟨us,[]⟩ (ps.zip (us++ds))
theorem Binds.all {K:PySem.W.Frag} {fd:FuncData} {ps:List Str} (h:∀ us:List Value,us.length=ps.length→bindArgs fd ⟨us,[]⟩=pure (ps.zip us)):Binds K fd ps []:=fun s us _ hl=>by
  rw [List.append_nil] at hl ⊢
  exact .of_eq (h us hl)
noncomputable def ZiP (CX:CXT) (X:Cx) (E:XK):Prop:=∀ (pins:List (Addr×Obj)) (σ:St) (H:Hp) (s:Shared) (e:Value) (s':Shared),Inv X pins σ H s→CX X.stack H s E e s'→X.xe e s'
section
variable {X:Cx} {CX:CXT} {k:Nat} {f C:Addr} {fd:FuncData} {ps:List Str} {sp:Sp} {dvs:List V} {ds:List Value} {E:XK} {x m:Str} {p pos apos:Pos} {e o:Expr} {es:List Expr} {ta:TE} {t:TA}
theorem run_fn {pins:List (Addr×Obj)} {σ:St} {H:Hp} {s:Shared} {Q:VK} {us:List Value} {vs:List V} (F:FnOk X.prog X.w X.K X.mg X.base CX k f fd ps sp) (hr:Room k X.A) (hb:Binds X.K fd ps ds) (hd:Vals dvs ds) (hx:ZiP CX X E)
    (I:Inv X pins σ H s) (r:Vals vs us) (h:sp (vs++dvs) H Q E):wpAny (model X.prog X.w) X.A (call (.ref f) us) (EP X pins σ Q) X.xe s:=by
  have r2:Vals (vs++dvs) (us++ds):=r.append hd
  have hl:(us++ds).length=ps.length:=by rw [← r2.length]; exact F.len _ _ _ _ h
  refine wpAny_call (codeAny_mono (F.run X.A X.stack s H ⟨us,[]⟩ (us++ds) (vs++dvs) Q E hr I.env0 (hb s us I.kIn hl) r2 h) fun r s' hq=>?_)
  cases r with
  | error e=>exact hx pins σ H s e s' I hq
  | ok fl =>
    cases fl with
    | ret u=>exact I.after hq
    | next=>exact False.elim hq
    | brk=>exact False.elim hq
    | cont=>exact False.elim hq
theorem Zly (F:FnOk X.prog X.w X.K X.mg X.base CX k f fd ps sp) (hr:Room k X.A) (hg:Gl X x) (hm:X.mg x=some (.ref f)) (hk:PySem.W.keepIn X.K (.ref f)=true) (hb:Binds X.K fd ps ds) (hd:Vals dvs ds) (hx:ZiP CX X E)
    (ha:PA X (e :: es) t) (hdb:(x == ("__debug__" : Str))=false:=by decide) (he:starEach (e :: es) X.env=(false,eval e X.env) :: starEach es X.env:=by rfl) (hpl:(backTo pos (starEach es X.env)).any (·.1)=false:=by rfl) :
    PE X (.Call (.Name x p) (e :: es) [] pos) (tCall sp dvs E t):=by
  intro pins s σ H Q I h
  refine wpAny_Call_Name_kw (ZcZ I hg hm ?_ hdb)
  refine PySem.W.callWith_K (h₀:=X.base) I.ok.mod.kin hk (thn (ha pos pins s σ H _ I h) fun us s1 ⟨vs,H1,I1,r,q⟩=>⟨I1.kIn,?_⟩) he hpl
  exact run_fn F hr hb hd hx I1 r q
structure Mk (K:PySem.W.Frag) (C f:Addr):Prop where
  makes:PySem.W.makesIn K C=true
  init:PySem.W.findIn K (.ref C) "__init__" = some (some (.ref f))
  fn:PySem.W.isFn K (.ref f)=true
  kp:PySem.W.keepIn K (.ref C)=true
end
section
variable {X:Cx} {CX:CXT} {k:Nat} {f C:Addr} {fd:FuncData} {ps ks:List Str} {sp:Sp} {E:XK} {x m:Str} {p pos apos kpos:Pos} {e o:Expr} {es:List Expr} {kws:List Keyword} {te ta:TE} {t tk:TA} {nm:Option Str}
structure KBinds (K:PySem.W.Frag) (fd:FuncData) (ps ks:List Str) (g:List Value→List Value→List Value) (gV:List V→List V→List V):Prop where
  to:∀ (s:Shared) (us ws:List Value),K.In s.heap→(g us ws).length=ps.length→BindsTo s fd ⟨us,ks.zip ws⟩ (ps.zip (g us ws))
  rel:∀ {vs:List V} {us:List Value} {zs:List V} {ws:List Value},Vals vs us→Vals zs ws→Vals (gV vs zs) (g us ws)
variable {g:List Value→List Value→List Value} {gV:List V→List V→List V}
end
structure FnScope (N P:List Str) (sc:Scope):Prop where
  kind:sc.kind = .function
  co:sc.isCoroutine=false
  gen:sc.isGenerator=false
  nd:N.Nodup
  pre:N.take P.length=P
  par:∀ x∈P,sc.names.lookup x=some .local∨sc.names.lookup x=some .cell
  nofree:∀ y∈sc.names,y.2≠.free
theorem Zej {kindOf:Str→Option NameKind} {x:Str}:∀ {binds:List (Str×Value)} {m:Str→Option Value},(∀ v,(x,v) ∉ binds)→bindL kindOf binds m x=m x
  | [],_,_=>rfl
  | (n,v) :: r,m,h=>by
    unfold bindL
    rw [Zej fun w hw=>h w (List.mem_cons_of_mem _ hw)]
    split
    · have:x≠n:=by rintro rfl; exact h v List.mem_cons_self
      simp [this]
    · rfl
theorem Zel {kindOf:Str→Option NameKind} {x:Str}:∀ {binds:List (Str×Value)} {m:Str→Option Value},(∀ v,(x,v) ∉ binds)→bindC kindOf binds m x=m x
  | [],_,_=>rfl
  | (n,v) :: r,m,h=>by
    unfold bindC
    rw [Zel fun w hw=>h w (List.mem_cons_of_mem _ hw)]
    split
    · rfl
    · have:x≠n:=by rintro rfl; exact h v List.mem_cons_self
      simp [this]
theorem Zek {kindOf:Str→Option NameKind} {x:Str} {v:Value}:∀ {P:List Str} {vs:List Value} {i:Nat} {m:Str→Option Value},P.Nodup→P[i]? = some x→vs[i]? = some v→kindOf x=some .local →
    bindL kindOf (P.zip vs) m x=some v
  | [],_,_,_,_,h,_,_=>by simp at h
  | _ :: _,[],_,_,_,_,h,_=>by simp at h
  | p :: P,w :: vs,0,m,nd,h1,h2,hk=>by
    simp at h1 h2; subst h1; subst h2
    show bindL kindOf ((p,w) :: P.zip vs) m p=_
    unfold bindL
    rw [Zej fun v hv=>(List.nodup_cons.mp nd).1 (List.of_mem_zip hv).1,if_pos hk]
    simp
  | p :: P,w :: vs,i + 1,m,nd,h1,h2,hk=>by
    show bindL kindOf ((p,w) :: P.zip vs) m x=_
    unfold bindL
    exact Zek (i:=i) (List.nodup_cons.mp nd).2 (by simpa using h1) (by simpa using h2) hk
theorem Zem {kindOf:Str→Option NameKind} {x:Str} {v:Value}:∀ {P:List Str} {vs:List Value} {i:Nat} {m:Str→Option Value},P.Nodup→P[i]? = some x→vs[i]? = some v→kindOf x≠some .local →
    bindC kindOf (P.zip vs) m x=some v
  | [],_,_,_,_,h,_,_=>by simp at h
  | _ :: _,[],_,_,_,_,h,_=>by simp at h
  | p :: P,w :: vs,0,m,nd,h1,h2,hk=>by
    simp at h1 h2; subst h1; subst h2
    show bindC kindOf ((p,w) :: P.zip vs) m p=_
    unfold bindC
    rw [Zel fun v hv=>(List.nodup_cons.mp nd).1 (List.of_mem_zip hv).1,if_neg hk]
    simp
  | p :: P,w :: vs,i + 1,m,nd,h1,h2,hk=>by
    show bindC kindOf ((p,w) :: P.zip vs) m x=_
    unfold bindC
    exact Zem (i:=i) (List.nodup_cons.mp nd).2 (by simpa using h1) (by simpa using h2) hk
noncomputable def start (N:List Str) (vs:List V):St:=vs.map some++List.replicate (N.length - vs.length) none
noncomputable def cxOf (CX:CXT) (P:Program) (w:World) (K:PySem.W.Frag) (mg:Str→Option Value) (base:Heap) (N:List Str) (qual:Str) (scope:Scope) (f:Addr) (cd:Value) (A:Around) (outer:List Env) (s:Shared) (H:Hp) (E:XK):Cx where
  prog:=P
  w:=w
  K:=K
  mg:=mg
  base:=base
  A:=A.deeper (envOfC qual scope s.heap.objs.size f cd)
  N:=N
  s₀:=s
  H₀:=H
  env:=envOfC qual scope s.heap.objs.size f cd
  outer:=outer
  stack:=envOfC qual scope s.heap.objs.size f cd :: outer
  ex:=[]
  calm:=true
  fn:=fun _=>true
  pn:=[]
  xe:=fun e s'=>wpAny (model P w) (A.deeper (envOfC qual scope s.heap.objs.size f cd)) (leaving (envOfC qual scope s.heap.objs.size f cd) e) (fun _ s''=>CX outer H s E e s'') (fun e' s''=>CX outer H s E e' s'') s'
theorem ZfP {sc:Scope} {n:Nat} {x:Str} (h:sc.names.lookup x=some .cell):∃ c,(cellsFrom n sc.names []).lookup x=some c:=by
  have q:=PySem.W.cellsFrom_some sc.names n [] (.inl h)
  exact Option.isSome_iff_exists.mp q
theorem Zie {CX:CXT} {P:Program} {w:World} {K:PySem.W.Frag} {mg:Str→Option Value} {base:Heap} {N ps:List Str} {qual:Str} {scope:Scope} {f:Addr} {cd:Value} {A:Around} {outer:List Env} {s s1:Shared} {H:Hp} {E:XK} {us:List Value} {vs:List V}
    (S:FnScope N ps scope) (hd:A.handled=none) (e0:Env0 P w K mg base A outer s H) (hl:vs.length=ps.length) (r:Vals vs us)
    (x:InCallC s s.heap.objs.size (bindL (envOfC qual scope s.heap.objs.size f cd).kindOf (ps.zip us) fun _=>none) (cellsFrom (s.heap.objs.size + 1) scope.names []) (bindC (envOfC qual scope s.heap.objs.size f cd).kindOf (ps.zip us) fun _=>none) s1) :
    Inv (cxOf CX P w K mg base N qual scope f cd A outer s H E) [] (start N vs) H s1:=by
  have hpl:ps.length≤N.length:=by have:=congrArg List.length S.pre; rw [List.length_take] at this; omega
  obtain ⟨h1,tk,rfl,hk⟩:=x.done
  have noA:∀ b:Addr,b ∉ (cxOf CX P w K mg base N qual scope f cd A outer s H E).ex:=fun b z=>absurd (show b∈([]:List Addr) from z) (by simp)
  refine ⟨⟨e0.mod,S.kind,rfl,rfl,Nat.le_refl _,fun y z c h1 h2=>?_,fun y hy=>?_,fun y c _ h=>?_,fun _=>hd,Around.frames_deeper e0.frames,.inr ⟨rfl,rfl⟩,fun b z=>absurd z (noA b),e0.bs,e0.bsz,fun b _ _=>noA b,fun b z=>absurd z (noA b),e0.funs,e0.frf⟩,
    rfl,e0.bare,Un.kept hk,⟨_,x.toInCall.ns,fun i y v h1 h2 h3=>?_⟩,fun y c h=>⟨_,x.cell y c h⟩,e0.hok.fresh (Nat.le_refl _),fun y c h=>?_,fun p hp=>absurd (show p∈([]:List (Addr×Obj)) from hp) (by simp),e0.hok.kept hk,?_⟩
  · exact name_of_addr x.apart (PySem.mem_of_lookup h1) (PySem.mem_of_lookup h2)
  · have hy:scope.names.lookup y=some .cell∨scope.names.lookup y=some .free:=hy
    rcases hy with hy | hy
    · exact ZfP hy
    · exact absurd rfl (S.nofree _ (PySem.mem_of_lookup hy))
  · exact Nat.le_of_lt (x.above y c (PySem.mem_of_lookup h))
  · have hi:i < vs.length:=by
      unfold start at h2
      by_cases hi:i < vs.length
      · exact hi
      · rw [List.getElem?_append_right (by simpa using hi)] at h2
        rw [List.getElem?_replicate] at h2
        split at h2 <;> cases h2
    have ha:vs[i]? = some v:=by
      unfold start at h2
      rw [List.getElem?_append_left (by simpa using hi),List.getElem?_map] at h2
      cases e:vs[i]? with
      | none=>rw [e] at h2; cases h2
      | some a=>rw [e] at h2; cases h2; rfl
    obtain ⟨u,hu,rv⟩:=r.get ha
    have hp:ps[i]? = some y:=by
      rw [← S.pre,List.getElem?_take_of_lt (by omega)]; exact h1
    have ndP:ps.Nodup:=by rw [← S.pre]; exact S.nd.sublist (List.take_sublist _ _)
    refine ⟨u,rv,?_⟩
    rcases S.par y (List.mem_of_getElem? hp) with k | k
    · exact .inl ⟨k,Zek ndP hp hu k⟩
    · obtain ⟨c,e⟩:=ZfP (n:=s.heap.objs.size + 1) k
      refine .inr ⟨.inl k,c,e,?_⟩
      have q:=x.cell y c e
      rw [Zem ndP hp hu (by show scope.names.lookup y≠_; rw [k]; decide)] at q
      exact q
  · exact e0.hok.fresh (Nat.le_of_lt (x.above y c (PySem.mem_of_lookup h)))
  · unfold start
    show _=N.length
    rw [List.length_append,List.length_map,List.length_replicate]
    omega
theorem fn_of {CX:CXT} {P:Program} {w:World} {K:PySem.W.Frag} {mg:Str→Option Value} {base:Heap} {k:Nat} {f:Addr} {name qual:Str} {params:Arguments} {body:List Stmt} {scope:Scope} {dV kV doc pm cdv ct oc:Value} {an od:Option Addr}
    {osl:Array (Option Value)} {N ps:List Str} {sp:Sp} (lk:K.lookup f=some ⟨oc,od,.func (PySem.W.fnOf name qual params body scope dV kV doc pm an cdv ct),osl⟩) (hcd:PySem.W.codeIn K cdv qual=true) (S:FnScope N ps scope)
    (len:∀ vs H Q E,sp vs H Q E→vs.length=ps.length)
    (hbody:∀ (A:Around) (outer:List Env) (s:Shared) (H:Hp) (vs:List V) (Q:VK) (E:XK),Room k (A.deeper (envOfC qual scope s.heap.objs.size f cdv))→sp vs H Q E →
      ∃ t,PSs (cxOf CX P w K mg base N qual scope f cdv A outer s H E) body t∧t { nx:=fun _ H'=>Q .non H',rt:=Q } (start N vs) H) :
    FnOk P w K mg base CX (k + 1) f (PySem.W.fnOf name qual params body scope dV kV doc pm an cdv ct) ps sp:=by
  refine ⟨len,fun A outer s H args us vs Q E hr e0 hb r hsp=>?_⟩
  have hl:=len _ _ _ _ hsp
  have KX:K.In s.heap:=e0.mod.kin.keeps fun b o e=>(e0.bs b o e).1
  have lim:s.heap.NoLimit:=e0.mod.nolimit.keeps fun b o e=>(e0.bs b o e).1
  have hkind:∀ y∈ps.zip us,scope.names.lookup y.1=some .local∨(scope.names.lookup y.1=some .cell∧((cellsFrom (s.heap.objs.size + 1) scope.names []).lookup y.1).isSome=true):=fun ⟨n,v⟩ hy=>by
    rcases S.par n (List.of_mem_zip hy).1 with q | q
    · exact .inl q
    · exact .inr ⟨q,PySem.W.cellsFrom_some _ _ _ (.inl q)⟩
  refine codeAny_call_function hr.depth (KX _ _ lk) rfl S.co S.gen rfl (PySem.W.codeRec_of KX hcd) (hb _ _ _ _ ?_)
  refine wpAny_newFunctionEnv_cells S.kind hkind fun env he s1 x=>?_
  subst he
  refine ⟨lim.keeps x.toInCall.keep,codeAny_func ?_⟩
  obtain ⟨t,ht,hq⟩:=hbody A outer s H vs Q E (hr.deeper _) hsp
  have I:Inv (cxOf CX P w K mg base N qual scope f cdv A outer s H E) [] (start N vs) H s1:=Zie S hr.hd e0 hl r x
  refine wpAny_mono (ht [] s1 (start N vs) H _ I hq) (fun fl s' hs=>?_) fun e s' hs=>hs
  have fin:∀ {σ':St} {H':Hp} {v:V} {u:Value},Inv (cxOf CX P w K mg base N qual scope f cdv A outer s H E) [] σ' H' s'→RelV v u→Q v H'→CE outer P w H s Q u s' :=
    fun {σ' H' v u} J rv q=>⟨v,H',J.os,J.bare,J.base,J.hok,rv,q⟩
  cases fl with
  | ret u =>
    obtain ⟨v,σ',H',J,rv,q⟩:=hs
    exact fin J rv q
  | next =>
    obtain ⟨σ',H',J,q⟩:=hs
    exact fin (v:=V.non) (u:=Value.none) J rfl q
  | brk =>
    obtain ⟨_,_,_,q⟩:=hs
    exact False.elim q
  | cont =>
    obtain ⟨_,_,_,q⟩:=hs
    exact False.elim q
end L2
namespace L2
open PySem PySem.Spec PyProof.Rows
section
variable {X:Cx} {x:Str} {p pos:Pos} {e:Expr} {es:List Expr} {t:TA} {id T:String} {r:List V→Hp→VK→Prop}
noncomputable def tCB (r:List V→Hp→VK→Prop) (t:TA):TE:=fun σ H Q=>t σ H fun vs H1=>r vs H1 Q
theorem Zfr (hc:Js X (.builtin id) r) (hg:Gl X x) (hm:X.mg x=none) (hv:bootBuiltins x=some (.builtin id)) (ha:PA X (e :: es) t) (hn:x≠"__name__":=by decide) (hdb:(x == ("__debug__" : Str))=false:=by decide)
    (he:starEach (e :: es) X.env=(false,eval e X.env) :: starEach es X.env:=by rfl) (hpl:(backTo pos (starEach es X.env)).any (·.1)=false:=by rfl):PE X (.Call (.Name x p) (e :: es) [] pos) (tCB r t):=by
  intro pins s σ H Q I h
  refine wpAny_Call_Name_kw (Zfy I hg hm hv ?_ hn hdb)
  exact PyProof.Rows.callWith_builtin1 (thn (ha pos pins s σ H _ I h) fun us s1 ⟨vs,H1,I1,r1,q1⟩=>hc pins s1 σ H1 vs us Q I1 r1 q1) he hpl
theorem ZhB (hc:Js X (.type T) r) (hg:Gl X x) (hm:X.mg x=none) (hv:bootBuiltins x=some (.type T)) (ha:PA X (e :: es) t) (hn:x≠"__name__":=by decide) (hdb:(x == ("__debug__" : Str))=false:=by decide)
    (he:starEach (e :: es) X.env=(false,eval e X.env) :: starEach es X.env:=by rfl) (hpl:(backTo pos (starEach es X.env)).any (·.1)=false:=by rfl):PE X (.Call (.Name x p) (e :: es) [] pos) (tCB r t):=by
  intro pins s σ H Q I h
  refine wpAny_Call_Name_kw (Zfy I hg hm hv ?_ hn hdb)
  exact PyProof.Rows.callWith_type1 (thn (ha pos pins s σ H _ I h) fun us s1 ⟨vs,H1,I1,r1,q1⟩=>hc pins s1 σ H1 vs us Q I1 r1 q1) he hpl
end
end L2
namespace HT
open PySem PyProof.Rows
section
open PySem.SeqAt
open PySem.AutoSeq1 (wpAny_loadPart')
open PySem.MeetsSeq PySem.MeetsSeq2 PySem.MeetsSeq3
end
section
variable {prog:Program} {w:World} {A:Around} {E:Value→Shared→Prop} {s:Shared}
theorem cat_tup {t b:Addr} {vs ws:List Value} {Q:Value→Shared→Prop} (ht:IsTup s.heap t vs.toArray) (hb:IsTup s.heap b ws.toArray) (hv:vs≠[])
    (h1:ws=[]→Q (.ref t) s) (h2:ws≠[]→Q (.ref s.heap.objs.size) { s with heap:=s.heap.push { cls:=.type "tuple",data:=.seq (vs++ws).toArray } })
    (hsz:vs.length + ws.length≤sizeLine):wpAny (model prog w) A (binaryOp .Add (.ref t) (.ref b)) Q E s:=by
  obtain ⟨⟨cls,dd,data,sl⟩,ho,hc,n,hd⟩:=id ht
  obtain ⟨⟨cls2,dd2,data2,sl2⟩,ho2,hc2,n2,hd2⟩:=id hb
  simp only at hc hd hc2 hd2
  subst hc hd hc2 hd2
  have e:vs.toArray++ws.toArray=(vs++ws).toArray:=by simp
  by_cases hw:ws=[]
  · exact concat_meets ⟨_,ho,rfl⟩ ⟨_,ho2,rfl⟩ noFill_tuple_add seq_tuple_add PySem.F.slot_tuple_add PySem.F.entry_tuple_add (PySem.F.args_tuple_add_2 _ _)
      (tuple_addW1 t b vs.toArray ws.toArray n n2 dd dd2 sl sl2 (by simpa using hv) (by simp [hw])) ⟨ho,ho2,h1 hw⟩
  · refine concat_meets ⟨_,ho,rfl⟩ ⟨_,ho2,rfl⟩ noFill_tuple_add seq_tuple_add PySem.F.slot_tuple_add PySem.F.entry_tuple_add (PySem.F.args_tuple_add_2 _ _)
      (tuple_addW2 t b vs.toArray ws.toArray n n2 dd dd2 sl sl2 (by simpa using hv) (by simpa using hw) (by rw [List.size_toArray,List.size_toArray]; exact hsz)) ⟨ho,ho2,?_⟩
    rw [e]
    exact h2 hw
noncomputable def sIx (n d:Nat):Option Int→Nat
  | none=>d
  | some v=>if v < 0 then (v + (n:Int)).toNat else min v.toNat n
theorem sIx_le (n d:Nat) (hd:d≤n) (o:Option Int):sIx n d o≤n:=by
  cases o with
  | none=>exact hd
  | some v =>
    show (if v < 0 then (v + (n:Int)).toNat else min v.toNat n)≤n
    by_cases hv:v < 0
    · rw [if_pos hv]; omega
    · rw [if_neg hv]; exact Nat.min_le_right _ _
theorem Ziv (v:Int) (n d:Nat):(if v < 0 then max (v + (n:Int)) 0 else min v (n:Int))=((sIx n d (some v):Nat):Int):=by
  show (if v < 0 then max (v + (n:Int)) 0 else min v (n:Int))=(((if v < 0 then (v + (n:Int)).toNat else min v.toNat n):Nat):Int)
  by_cases hv:v < 0
  · simp only [if_pos hv]; omega
  · simp only [if_neg hv]; omega
theorem ZgY (lo hi:Option Int) (n:Nat):Builtin.Slice.sliceAdjust lo hi 1 (n:Int)=(((sIx n 0 lo:Nat):Int),((sIx n n hi:Nat):Int)):=by
  have h1:¬ ((1:Int) < 0):=by omega
  unfold Builtin.Slice.sliceAdjust
  simp only [h1,if_false]
  refine Prod.ext ?_ ?_
  · cases lo with
    | none=>rfl
    | some v=>exact Ziv v n 0
  · cases hi with
    | none=>rfl
    | some v=>exact Ziv v n n
theorem Zf9 (i j:Nat):Builtin.Slice.slicePlaces (i:Int) (j:Int) 1=j - i:=by
  unfold Builtin.Slice.slicePlaces
  have h1:(1:Int) > 0:=by omega
  simp only [h1,if_true,Int.ediv_one]
  split <;> omega
theorem Zcg {v:Value} {o:Option Int} {Q:Option Int→Shared→Prop} (p:IsPart v o) (h:Q o s):wpAny (model prog w) A (Builtin.Slice.slicePartIndex v) Q E s:=by
  cases p with
  | none=>exact slicePart_none h
  | int i t=>exact slicePart_int h
theorem sliceApplied_gen {sl:Addr} {vl vu:Value} {lo hi:Option Int} {n:Nat} {Q:Int×Int×Nat→Shared→Prop} (hs:s.heap.IsSliceOf sl vl vu .none) (pl:IsPart vl lo) (pu:IsPart vu hi)
    (h:Q (((sIx n 0 lo:Nat):Int),1,sIx n n hi - sIx n 0 lo) s):wpAny (model prog w) A (Builtin.Slice.sliceApplied (.ref sl) (pure (n:Int))) Q E s:=by
  obtain ⟨os,hos,hcs,hds⟩:=id hs
  unfold Builtin.Slice.sliceApplied Builtin.Slice.sliceFields
  refine wpAny_bind (wpAny_bind (wpAny_field hos hds (x:=vl) rfl (wpAny_bind (wpAny_field hos hds (x:=vu) rfl (wpAny_bind (wpAny_field hos hds (x:=.none) rfl (wpAny_pure ?_)))))))
  refine wpAny_bind (slicePart_none ?_)
  show wpAny _ _ (if ((1:Int) == 0)=true then _ else _) _ _ s
  rw [if_neg (by decide)]
  refine wpAny_bind (Zcg pl (wpAny_bind (Zcg pu (wpAny_bind (wpAny_pure ?_)))))
  show wpAny _ _ (match Builtin.Slice.sliceAdjust lo hi 1 (n:Int) with | (lo,hi)=>pure (lo,(1:Int),Builtin.Slice.slicePlaces lo hi 1)) _ _ s
  rw [ZgY lo hi n]
  show wpAny _ _ (pure (((sIx n 0 lo:Nat):Int),(1:Int),Builtin.Slice.slicePlaces ((sIx n 0 lo:Nat):Int) ((sIx n n hi:Nat):Int) 1)) _ _ s
  rw [Zf9]
  exact wpAny_pure h
theorem Zjw (xs:Array Value) (i k:Nat):((List.range k).filterMap fun (m:Nat)=>xs[((i:Int) + (m:Int) * 1).toNat]?).toArray=((xs.toList.drop i).take k).toArray:=by
  have e:(fun (m:Nat)=>xs[((i:Int) + (m:Int) * 1).toNat]?)=fun m=>xs[i + m]?:=by
    funext m
    have:((i:Int) + (m:Int) * 1).toNat=i + m:=by omega
    rw [this]
  rw [e]
  have:=pick_run xs i k
  rw [List.filterMap_map] at this
  have e2:((fun x=>xs[x]?) ∘ fun x=>i + x)=fun m=>xs[i + m]?:=rfl
  rw [e2] at this
  rw [this]
theorem getItem_tuple_cut {t sl:Addr} {items:Array Value} {vl vu:Value} {lo hi:Option Int} {Q:Value→Shared→Prop} (ht:IsTup s.heap t items) (hs:s.heap.IsSliceOf sl vl vu .none) (pl:IsPart vl lo) (pu:IsPart vu hi)
    (hw:¬ (sIx items.size 0 lo=0∧sIx items.size items.size hi=items.size))
    (h:Q (.ref s.heap.objs.size) { s with heap:=s.heap.push { cls:=.type "tuple",data:=.seq ((items.toList.drop (sIx items.size 0 lo)).take (sIx items.size items.size hi - sIx items.size 0 lo)).toArray } })
    (hsz:items.size≤sizeLine):wpAny (model prog w) A (getItem (.ref t) (.ref sl)) Q E s:=by
  have htake:sizeOk (.seq ((items.toList.drop (sIx items.size 0 lo)).take (sIx items.size items.size hi - sIx items.size 0 lo)).toArray):=by
    show ((items.toList.drop (sIx items.size 0 lo)).take (sIx items.size items.size hi - sIx items.size 0 lo)).toArray.size≤sizeLine
    rw [List.size_toArray,List.length_take,List.length_drop,Array.length_toList]
    omega
  have hj:sIx items.size items.size hi≤items.size:=sIx_le _ _ (Nat.le_refl _) hi
  obtain ⟨os,hos,hcs,hds⟩:=id hs
  have hTs:s.TypeIs (.ref sl) "slice":=⟨os,hos,hcs⟩
  unfold getItem
  try with_reducible refine wpAny_holding ?_
  first | refine wpAny_bind (wpAny_pure ?_) | skip
  refine wpAny_bind (wpAny_sequenceKey ht.typeIs (by decide) ?_)
  refine wpAny_bind (wpAny_callSpecial?_slot (name:=Str.ofString "__getitem__") ht.typeIs PyProof.Rows.slot_tuple_getitem
    (wpAny_call_entry PyProof.Rows.slot_tuple_getitem ht.typeIs entry_tuple_getitem ?_ (args_tuple_getitem _ _)))
  show wpAny _ _ (Builtin.Tuple.tupleItemsOf (.ref t) >>= _) _ _ s
  refine wpAny_bind (tupleItemsOf_ ht ?_)
  refine wpAny_bind (wpAny_typeOf hTs ?_)
  rw [if_pos (by decide)]
  refine wpAny_bind (sliceApplied_gen hs pl pu ?_)
  have hno:¬ ((((sIx items.size 0 lo:Nat):Int) == 0 && (1:Int) == 1 && (sIx items.size items.size hi - sIx items.size 0 lo) == items.size)=true):=by
    intro q
    rw [Bool.and_eq_true,Bool.and_eq_true] at q
    have q1:((sIx items.size 0 lo:Nat):Int)=0:=eq_of_beq q.1.1
    have q2:sIx items.size items.size hi - sIx items.size 0 lo=items.size:=eq_of_beq q.2
    exact hw ⟨by omega,by omega⟩
  show wpAny _ _ (if (((sIx items.size 0 lo:Nat):Int) == 0 && (1:Int) == 1 && (sIx items.size items.size hi - sIx items.size 0 lo) == items.size)=true then _ else _) _ _ s
  rw [if_neg hno,Zjw]
  first
    | exact wpAny_bind (m:=Builtin.Tuple.tupleExact _) (wpAny_newObj_type (wpAny_pure ⟨_,rfl,wpAny_pure h⟩) htake)
    | exact wpAny_bind (m:=Builtin.Tuple.tupleExact _) (wpAny_newObj_type (wpAny_bind (wpAny_pure (wpAny_pure ⟨_,rfl,wpAny_pure h⟩))) htake)
    | exact wpAny_bind (wpAny_bind (m:=Builtin.Tuple.tupleExact _) (wpAny_newObj_type (wpAny_pure (wpAny_pure ⟨_,rfl,wpAny_pure h⟩)) htake))
    | exact wpAny_bind (wpAny_bind (m:=Builtin.Tuple.tupleExact _) (wpAny_newObj_type (wpAny_pure ⟨_,rfl,wpAny_pure h⟩) htake))
end
end HT
namespace L2
open PySem PySem.Spec PyProof.Rows
noncomputable abbrev TO:=St→Hp→(Option Int→Hp→Prop)→Prop
noncomputable def PO (X:Cx) (e:Option Expr) (t:TO):Prop :=
  ∀ (pins:List (Addr×Obj)) (s:Shared) (σ:St) (H:Hp) (Q:Option Int→Hp→Prop),Inv X pins σ H s→t σ H Q →
    wpAny (model X.prog X.w) X.A (evalPart e X.env) (fun u s'=>∃ o H',Inv X pins σ H' s'∧IsPart u o∧Q o H') X.xe s
noncomputable def ZkX:TO:=fun _ H Q=>Q none H
noncomputable def tPart (t:TE):TO:=fun σ H Q=>t σ H fun x H1=>∃ i,x = .int i∧Q (some i) H1
theorem intsAre_of {ns:List Int}:∀ {us:List Value},Vals (ns.map V.int) us→IntsAre us ns:=by
  induction ns with
  | nil=>intro us r; rw [List.map_nil] at r; cases r; exact .nil
  | cons n ns ih =>
    intro us r
    rw [List.map_cons] at r
    cases r with
    | cons r1 r2 =>
      obtain ⟨t,e⟩:=r1
      subst e
      exact .cons n t (ih r2)
section
variable {X:Cx} {e:Expr} {te:TE} {lo hi:Option Expr} {tl th:TO} {pos p2:Pos}
theorem Zle:PO X none ZkX:=by
  intro pins s σ H Q I h
  rw [evalPart_none]
  exact wpAny_pure ⟨none,H,I,.none,h⟩
theorem Zld (h:PE X e te):PO X (some e) (tPart te):=by
  intro pins s σ H Q I hw
  rw [evalPart_some]
  refine thn (h pins s σ H _ I hw) fun u s1 ⟨x,H1,I1,r1,q1⟩=>?_
  obtain ⟨i,rfl,q⟩:=q1
  obtain ⟨t,rfl⟩:=r1
  exact ⟨some i,H1,I1,.int i t,q⟩
noncomputable def SlR (X:Cx) (r:V→Option Int→Option Int→Hp→VK→Prop):Prop :=
  ∀ (pins:List (Addr×Obj)) (s:Shared) (σ:St) (H:Hp) (x:V) (v vl vu:Value) (lo hi:Option Int) (sl:Addr) (Q:VK),Inv X pins σ H s→RelV x v→s.heap.IsSliceOf sl vl vu .none→IsPart vl lo→IsPart vu hi→r x lo hi H Q →
    ∃ T id,typeLookup (.type T) "__getitem__" = pure (some (.builtin id))∧s.TypeIs v T∧wpAny (model X.prog X.w) X.A (getItem v (.ref sl)) (EP X pins σ Q) X.xe s
theorem SlR.or {r r':V→Option Int→Option Int→Hp→VK→Prop} (h:SlR X r) (h':SlR X r'):SlR X (fun x lo hi H Q=>r x lo hi H Q∨r' x lo hi H Q):=by
  intro pins s σ H x v vl vu lo hi sl Q I rx hs pl pu q
  rcases q with q | q
  · exact h pins s σ H x v vl vu lo hi sl Q I rx hs pl pu q
  · exact h' pins s σ H x v vl vu lo hi sl Q I rx hs pl pu q
noncomputable def tSl (r:V→Option Int→Option Int→Hp→VK→Prop) (te:TE) (tl th:TO):TE:=fun σ H Q=>te σ H fun x H1=>tl σ H1 fun l H2=>th σ H2 fun u H3=>r x l u H3 Q
theorem Zjz {r:V→Option Int→Option Int→Hp→VK→Prop} (hr:SlR X r) (he:PE X e te) (hl:PO X lo tl) (hu:PO X hi th):PE X (.Subscript e (.Slice lo hi none p2) pos) (tSl r te tl th):=by
  intro pins s σ H Q I h
  refine Subscript_ (thn (he pins s σ H _ I h) fun v s1 ⟨x,H1,I1,r1,q1⟩=>?_)
  refine wpAny_Slice (thn (hl pins s1 σ H1 _ I1 q1) fun vl s2 ⟨l,H2,I2,pl,q2⟩=>thn (hu pins s2 σ H2 _ I2 q2) fun vu s3 ⟨u,H3,I3,pu,q3⟩=>?_)
  rw [evalPart_none]
  refine wpAny_pure ?_
  have I4:Inv X pins σ H3 { s3 with heap:=s3.heap.push { cls:=.type "slice",data:=.fields #[vl,vu,.none] } }:=I3.kept (t':=s3.toks) fun b ob q=>Heap.get?_push_of_some _ q
  obtain ⟨T,id,hT,ht,hg⟩:=hr pins { s3 with heap:=s3.heap.push { cls:=.type "slice",data:=.fields #[vl,vu,.none] } } σ H3 x v vl vu l u s3.heap.objs.size Q I4 r1 (Heap.IsSliceOf.new ..) pl pu q3
  show wpAny (model X.prog X.w) X.A (subscriptTail e (.Slice lo hi none p2) v (.ref s3.heap.objs.size)) (EP X pins σ Q) X.xe { s3 with heap:=s3.heap.push { cls:=.type "slice",data:=.fields #[vl,vu,.none] } }
  exact tail_any (ops:=[.ref s3.heap.objs.size,v]) ht hT hg (by with_unfolding_all rfl)
noncomputable def cutV (xs:List V) (lo hi:Option Int):List V:=(xs.drop (HT.sIx xs.length 0 lo)).take (HT.sIx xs.length xs.length hi - HT.sIx xs.length 0 lo)
theorem ZbT (xs:List V) (lo hi:Option Int):(cutV xs lo hi).length≤xs.length:=by
  unfold cutV
  rw [List.length_take,List.length_drop]
  omega
noncomputable def rSlT (K:PySem.W.Frag):V→Option Int→Option Int→Hp→VK→Prop:=fun x lo hi H Q=>∃ a xs,x = .ref a∧SqT K H a xs ∧
  ¬ (HT.sIx xs.length 0 lo=0∧HT.sIx xs.length xs.length hi=xs.length)∧∀ p,H p=none→Q (.ref p) (upd H p (.tup (cutV xs lo hi)))
theorem sl_tup:SlR X (rSlT X.K):=by
  intro pins s σ H x v vl vu lo hi sl Q I rx hs pl pu h
  obtain ⟨a,xs,rfl,hx,hw,q⟩:=h
  cases rx
  obtain ⟨its,r,ht,hz⟩:=I.tuple hx
  have hlen:its.toArray.size=xs.length:=by rw [List.size_toArray]; exact r.length.symm
  refine ⟨"tuple",_,PyProof.Rows.slot_tuple_getitem.lookup,ht.typeIs,?_⟩
  refine HT.getItem_tuple_cut ht hs pl pu (by rw [hlen]; exact hw) ?_ (by rw [hlen]; exact hz)
  rw [hlen]
  refine ⟨.ref s.heap.objs.size,_,I.laid (t':=s.toks) (o:=.tup (cutV xs lo hi)) (fun b ob q=>Heap.get?_push_of_some _ q) (Nat.le_refl _) ?_,rfl,q _ (I.hok.fresh (Nat.le_refl _))⟩
  exact ⟨Nat.le_trans (ZbT xs lo hi) hz,_,(r.drop (HT.sIx xs.length 0 lo)).take (HT.sIx xs.length xs.length hi - HT.sIx xs.length 0 lo),TupP.new _ _⟩
noncomputable def rCatT (K:PySem.W.Frag):R2:=fun x y H Q=>∃ a b xs ys,x = .ref a∧y = .ref b∧SqT K H a xs∧SqT K H b ys∧xs≠[]∧xs.length + ys.length≤sizeLine ∧
  (ys=[]→Q (.ref a) H)∧(ys≠[]→∀ p,H p=none→Q (.ref p) (upd H p (.tup (xs++ys))))
theorem Vals.nil_iff {xs:List V} {us:List Value} (r:Vals xs us):us=[]↔xs=[]:=by
  cases r with
  | nil=>simp
  | cons _ _=>simp
theorem ZlK:OpR X (binaryOp .Add) (rCatT X.K):=by
  intro pins s σ H x y v u Q I rx ry h
  obtain ⟨a,b,xs,ys,rfl,rfl,ha,hb,hx,hz,q1,q2⟩:=h
  cases rx
  cases ry
  obtain ⟨its,r1,p1,_⟩:=I.tuple ha
  obtain ⟨its2,r2,p2,_⟩:=I.tuple hb
  refine HT.cat_tup p1 p2 (fun z=>hx (r1.nil_iff.mp z)) (fun z=>⟨.ref a,H,I,rfl,q1 (r2.nil_iff.mp z)⟩) (fun z=>?_) (by rw [← r1.length,← r2.length]; exact hz)
  refine ⟨.ref s.heap.objs.size,_,I.laid (t':=s.toks) (o:=.tup (xs++ys)) (fun b ob q=>Heap.get?_push_of_some _ q) (Nat.le_refl _) ?_,rfl,q2 (fun w=>z (r2.nil_iff.mpr w)) _ (I.hok.fresh (Nat.le_refl _))⟩
  exact ⟨by rw [List.length_append]; exact hz,_,r1.append r2,TupP.new _ _⟩
end
end L2
namespace L2
open PySem PySem.Spec PyProof.Rows
noncomputable def ixN (n:Nat) (i:Int):Option Nat:=if 0≤i then (if i < n then some i.toNat else none) else if -(n:Int)≤i then some (i + n).toNat else none
noncomputable def atI {α:Type} (xs:List α) (i:Int):Option α:=(ixN xs.length i).bind fun j=>xs[j]?
theorem Zid {n:Nat} {i:Int} {j:Nat} (h:ixN n i=some j):seqIndex? i n=some j∧j < n∧-(n:Int)≤i∧i < n:=by
  unfold ixN at h
  by_cases h0:0≤i
  · rw [if_pos h0] at h
    by_cases h1:i < n
    · rw [if_pos h1] at h
      have e:i.toNat=j:=Option.some.inj h
      exact ⟨by rw [seqIndex_of h0 h1,e],by omega,by omega,h1⟩
    · rw [if_neg h1] at h; cases h
  · rw [if_neg h0] at h
    by_cases h1:-(n:Int)≤i
    · rw [if_pos h1] at h
      have e:(i + n).toNat=j:=Option.some.inj h
      exact ⟨by rw [seqIndex_neg (by omega) h1,e],by omega,h1,by omega⟩
    · rw [if_neg h1] at h; cases h
theorem Zfb {α:Type} {xs:List α} {i:Int} {v:α} (h:atI xs i=some v):∃ j,seqIndex? i xs.length=some j∧xs[j]? = some v∧j < xs.length∧-(xs.length:Int)≤i∧i < xs.length:=by
  unfold atI at h
  cases e:ixN xs.length i with
  | none=>rw [e] at h; cases h
  | some j =>
    rw [e] at h
    obtain ⟨h1,h2,h3,h4⟩:=Zid e
    exact ⟨j,h1,h,h2,h3,h4⟩
noncomputable def ZiO (b:Expr):Prop:=∀ o i,subscripted b false o i=operate [o,i] (getItem o i)
noncomputable def IxR (X:Cx) (r:R2):Prop :=
  ∀ (value slice:Expr) (pins:List (Addr×Obj)) (s:Shared) (σ:St) (H:Hp) (x y:V) (v u:Value) (Q:VK),Inv X pins σ H s→RelV x v→RelV y u→r x y H Q →
    subscripted slice false v u=operate [v,u] (getItem v u)→wpAny (model X.prog X.w) X.A (subscriptTail value slice v u) (EP X pins σ Q) X.xe s
noncomputable def MtR (X:Cx) (id:String) (r:V→List V→Hp→VK→Prop):Prop :=
  ∀ (pins:List (Addr×Obj)) (s:Shared) (σ:St) (H:Hp) (x:V) (xs:List V) (v:Value) (us:List Value) (Q:VK),Inv X pins σ H s→RelV x v→Vals xs us→r x xs H Q →
    wpAny (model X.prog X.w) X.A (call (.builtin id) (v :: us)) (EP X pins σ Q) X.xe s
section
variable {X:Cx} {a b:Expr} {ta tb:TE} {pos:Pos}
theorem IxR.or {r r':R2} (h:IxR X r) (h':IxR X r'):IxR X (fun x y H Q=>r x y H Q∨r' x y H Q):=by
  intro value slice pins s σ H x y v u Q I rx ry q hs
  rcases q with q | q
  · exact h value slice pins s σ H x y v u Q I rx ry q hs
  · exact h' value slice pins s σ H x y v u Q I rx ry q hs
theorem MtR.or {id:String} {r r':V→List V→Hp→VK→Prop} (h:MtR X id r) (h':MtR X id r'):MtR X id (fun x xs H Q=>r x xs H Q∨r' x xs H Q):=by
  intro pins s σ H x xs v us Q I rx rs q
  rcases q with q | q
  · exact h pins s σ H x xs v us Q I rx rs q
  · exact h' pins s σ H x xs v us Q I rx rs q
theorem pe_ix {r:R2} (hr:IxR X r) (ha:PE X a ta) (hb:PE X b tb) (hs:ZiO b):PE X (.Subscript a b pos) (tOp r ta tb):=by
  intro pins s σ H Q I h
  exact Subscript_ (binT ha hb I h fun v u s2 x y H2 I2 rx ry q=>hr a b pins s2 σ H2 x y v u Q I2 rx ry q (hs _ _))
noncomputable def rIxL (K:PySem.W.Frag):R2:=fun x y H Q=>∃ p xs i v,x = .ref p∧y = .int i∧SqL K H p xs∧atI xs i=some v∧Q v H
noncomputable def rIxT (K:PySem.W.Frag):R2:=fun x y H Q=>∃ p xs i v,x = .ref p∧y = .int i∧SqT K H p xs∧atI xs i=some v∧Q v H
noncomputable def rIxS:R2:=fun x y H Q=>∃ z i c,x = .str z∧y = .int i∧z.length≤sizeLine∧atI z.cps.toList i=some c∧Q (.str ⟨#[c]⟩) H
theorem Zic:IxR X (rIxL X.K):=by
  intro value slice pins s σ H x y v u Q I rx ry h hs
  obtain ⟨p,xs,i,z,rfl,rfl,hq,he,q⟩:=h
  cases rx
  obtain ⟨t,rfl⟩:=ry
  obtain ⟨its,r,pl,hz⟩:=I.list hq
  obtain ⟨j,h1,h2,h3,h4,h5⟩:=Zfb he
  obtain ⟨w,ew,rw'⟩:=r.get h2
  have hl:=r.length
  have hn:=Zcq
  have fin:EP X pins σ Q w s:=⟨z,H,I,rw',q⟩
  by_cases h0:0≤i
  · have hj:i.toNat=j:=by
      rw [seqIndex_of h0 h5] at h1
      exact Option.some.inj h1
    exact item_listR pl.isList h0 (by omega) (by rw [hj]; simpa using ew) fin hs
  · have hj:(i + (its.toArray.size:Int)).toNat=j:=by
      rw [seqIndex_neg (by omega) h4] at h1
      rw [List.size_toArray,← hl]
      exact Option.some.inj h1
    exact subscriptTail_builtinR (x:=w) pl.isList.typeIs slot_list_getitem.lookup
      (wpAny_getItem_list_neg (Q:=fun r s'=>r=w∧EP X pins σ Q r s') pl.isList (by omega) (by rw [List.size_toArray] <;> omega) (by omega) (by rw [hj]; simpa using ew) ⟨rfl,fin⟩) hs
theorem ix_tup:IxR X (rIxT X.K):=by
  intro value slice pins s σ H x y v u Q I rx ry h hs
  obtain ⟨p,xs,i,z,rfl,rfl,hq,he,q⟩:=h
  cases rx
  obtain ⟨t,rfl⟩:=ry
  obtain ⟨its,r,pl,hz⟩:=I.tuple hq
  obtain ⟨j,h1,h2,h3,h4,h5⟩:=Zfb he
  obtain ⟨w,ew,rw'⟩:=r.get h2
  have hl:=r.length
  have hn:=Zcq
  have fin:EP X pins σ Q w s:=⟨z,H,I,rw',q⟩
  exact subscriptTail_builtinR (x:=w) pl.typeIs slot_tuple_getitem.lookup
    (getItem_tuple (j:=j) (Q:=fun r s'=>r=w∧EP X pins σ Q r s') pl (by omega) (by omega) (by rw [List.size_toArray,← hl]; exact h1) (by simpa using ew) ⟨rfl,fin⟩) hs
theorem ix_str:IxR X rIxS:=by
  intro value slice pins s σ H x y v u Q I rx ry h hs
  obtain ⟨z,i,c,rfl,rfl,hz,he,q⟩:=h
  obtain ⟨t,rfl⟩:=rx
  obtain ⟨t',rfl⟩:=ry
  obtain ⟨j,h1,h2,h3,h4,h5⟩:=Zfb he
  have hl:z.cps.toList.length=z.length:=by simp [Str.length]
  rw [hl] at h1 h4 h5
  have hn:=Zcq
  exact tail_any (typeIs_str s z t) slot_str_getitem.lookup (getItem_str (c:=c) (by
    have e1:decide (i < -(2 ^ 63:Int))=false:=decide_eq_false (by omega)
    have e2:decide (i ≥ 2 ^ 63)=false:=decide_eq_false (by omega)
    rw [e1,e2,Bool.or_false]) (by rw [h1]; simpa using h2) ⟨.str ⟨#[c]⟩,H,I.tok _,⟨_,rfl⟩,q⟩) hs
theorem Zgr (its:List Value) (n j:Nat) (u:Value):Obj.mapSeq (·.setIfInBounds j u) { cls:=.type "list",data:=.seq its.toArray n } = { cls:=.type "list",data:=.seq (its.set j u).toArray n }:=by
  simp [Obj.mapSeq]
theorem Inv.lst {pins:List (Addr×Obj)} {σ:St} {H:Hp} {s:Shared} {p:Addr} {xs:List V} (I:Inv X pins σ H s) (h:H p=some (.lst xs)) :
    ∃ (its:List Value) (n:Nat),Vals xs its∧s.heap.get? p=some { cls:=.type "list",data:=.seq its.toArray n }∧xs.length≤sizeLine:=by
  obtain ⟨z,its,n,r,e⟩:=I.hok p _ h
  exact ⟨its,n,r,e,z⟩
theorem Inv.lstUpd {pins:List (Addr×Obj)} {σ:St} {H:Hp} {s:Shared} {p:Addr} {xs ys:List V} {its its':List Value} {n n':Nat} {f:Obj→Obj} (I:Inv X pins σ H s) (h:H p=some (.lst xs))
    (ho:s.heap.get? p=some { cls:=.type "list",data:=.seq its.toArray n }) (hf:f { cls:=.type "list",data:=.seq its.toArray n } = { cls:=.type "list",data:=.seq its'.toArray n' }) (r:Vals ys its') (hz:ys.length≤sizeLine) (t:Nat) :
    Inv X pins σ (upd H p (.lst ys)) { s with heap:=s.heap.update p f,toks:=t }:=by
  have e:(s.heap.update p f).get? p=some { cls:=.type "list",data:=.seq its'.toArray n' }:=by
    rw [Heap.get?_update_self f ho (by rw [hf] <;> rfl),hf]
  refine I.write (x:=p) (e:=p) (by rw [h]; trivial) (.inl rfl) (fun b u hb q=>(Heap.get?_update_other _ _ (Ne.symm hb)).trans q) ⟨_,e⟩ ?_
  exact ⟨hz,its',n',r,e⟩
noncomputable def rSetL:V→V→V→Hp→(Hp→Prop)→Prop:=fun o i v H Q=>∃ p xs k j,o = .ref p∧i = .int k∧H p=some (.lst xs)∧ixN xs.length k=some j∧Q (upd H p (.lst (xs.set j v)))
theorem set_list:PSet X rSetL:=by
  intro pins s σ H o i v ov iv u Q I ro ri rv h
  obtain ⟨p,xs,k,j,rfl,rfl,hp,hj,q⟩:=h
  cases ro
  obtain ⟨t,rfl⟩:=ri
  obtain ⟨its,n,r,ho,hz⟩:=I.lst hp
  obtain ⟨h1,h2,h3,h4⟩:=Zid hj
  have hl:=r.length
  have hn:=Zcq
  have I':Inv X pins σ (upd H p (.lst (xs.set j v))) { s with heap:=s.heap.update p (Obj.mapSeq (·.setIfInBounds j u)) } :=
    I.lstUpd hp ho (Zgr its n j u) (r.set rv j) (by rw [List.length_set]; exact hz) s.toks
  by_cases h0:0≤k
  · have hk:k.toNat=j:=by
      rw [seqIndex_of h0 h4] at h1
      exact Option.some.inj h1
    exact PySem.W.ki_setAt ho h0 (by omega) (by rw [List.size_toArray,← hl]; exact h4) (by rw [hk]; exact ⟨_,I',q⟩)
  · have hk:(k + (its.toArray.size:Int)).toNat=j:=by
      rw [seqIndex_neg (by omega) h3] at h1
      rw [List.size_toArray,← hl]
      exact Option.some.inj h1
    exact PySem.W.ki_setBack ho (by omega) (by rw [List.size_toArray,← hl]; exact h3) (by omega) (by rw [hk]; exact ⟨_,I',q⟩)
theorem Zdo (lo hi:Option Int) (n:Nat):(sliceBounds lo hi none n).1=((HT.sIx n 0 lo:Nat):Int)∧(sliceBounds lo hi none n).2.1=((HT.sIx n n hi:Nat):Int)∧(sliceBounds lo hi none n).2.2=1:=by
  refine ⟨?_,?_,rfl⟩
  · cases lo with
    | none=>simp [sliceBounds,HT.sIx]
    | some i =>
      simp only [sliceBounds,HT.sIx,Option.getD_none,show (1:Int) > 0 by decide,if_true]
      by_cases h:i < 0
      · simp only [h,if_true] <;> omega
      · simp only [h,if_false] <;> omega
  · cases hi with
    | none=>simp [sliceBounds,HT.sIx]
    | some i =>
      simp only [sliceBounds,HT.sIx,Option.getD_none,show (1:Int) > 0 by decide,if_true]
      by_cases h:i < 0
      · simp only [h,if_true] <;> omega
      · simp only [h,if_false] <;> omega
theorem ZcM (its:List Value) (lo hi:Option Int):slicePick its.toArray lo hi none=((its.drop (HT.sIx its.length 0 lo)).take (HT.sIx its.length its.length hi - HT.sIx its.length 0 lo)).toArray:=by
  obtain ⟨h1,h2,h3⟩:=Zdo lo hi its.toArray.size
  unfold slicePick
  rw [h1,h2,h3]
  simp only [sliceRange_one,pick_run,List.size_toArray] <;> rfl
noncomputable def rSlL (K:PySem.W.Frag):V→Option Int→Option Int→Hp→VK→Prop:=fun x lo hi H Q=>∃ a xs,x = .ref a∧SqL K H a xs∧∀ p,H p=none→Q (.ref p) (upd H p (.lst (cutV xs lo hi)))
theorem Zhj:SlR X (rSlL X.K):=by
  intro pins s σ H x v vl vu lo hi sl Q I rx hs pl pu h
  obtain ⟨a,xs,rfl,hx,q⟩:=h
  cases rx
  obtain ⟨its,r,ht,hz⟩:=I.list hx
  have hlen:=r.length
  refine ⟨"list",_,slot_list_getitem.lookup,ht.isList.typeIs,?_⟩
  refine wpAny_getItem_list_slice ht.isList hs pl pu .none (by simp) ?_ (by rw [List.size_toArray] <;> omega)
  rw [ZcM,← hlen]
  refine ⟨.ref s.heap.objs.size,_,I.laid (t':=s.toks) (o:=.lst (cutV xs lo hi)) (fun b ob q=>Heap.get?_push_of_some _ q) (Nat.le_refl _) ?_,rfl,q _ (I.hok.fresh (Nat.le_refl _))⟩
  exact ⟨Nat.le_trans (ZbT xs lo hi) hz,_,0,(r.drop (HT.sIx xs.length 0 lo)).take (HT.sIx xs.length xs.length hi - HT.sIx xs.length 0 lo),Heap.get?_push_size _ rfl⟩
noncomputable def Za6:V→Bool
  | .non=>true
  | .bl _=>true
  | .int _=>true
  | .str _=>true
  | _=>false
noncomputable def eqV:V→V→Bool
  | .non,.non=>true
  | .bl a,.bl b=>a == b
  | .bl a,.int b=>(if a then 1 else 0) == b
  | .int a,.bl b=>a == (if b then 1 else 0)
  | .int a,.int b=>a == b
  | .str a,.str b=>a == b
  | _,_=>false
theorem eqAt_V {A:Around} {s:Shared} {y x:V} {u v:Value} (ry:RelV y u) (rx:RelV x v) (fy:Za6 y=true) (fx:Za6 x=true):SeqAt.EqAt A s u v (eqV y x):=by
  cases y with
  | non =>
    cases ry
    cases x with
    | non=>cases rx; exact SeqAt.EqAt.same _
    | bl b=>cases rx; exact SeqAt.EqAt.none_bool b
    | int b=>obtain ⟨t,rfl⟩:=rx; exact SeqAt.EqAt.none_int b t
    | str b=>obtain ⟨t,rfl⟩:=rx; exact SeqAt.EqAt.none_str b t
    | _=>exact absurd (show false=true from fx) Bool.false_ne_true
  | bl a =>
    cases ry
    cases x with
    | non=>cases rx; exact SeqAt.EqAt.bool_none a
    | bl b=>cases rx; exact SeqAt.EqAt.bool_bool a b
    | int b=>obtain ⟨t,rfl⟩:=rx; exact SeqAt.EqAt.bool_int a b t
    | str b=>obtain ⟨t,rfl⟩:=rx; exact SeqAt.EqAt.bool_str a b t
    | _=>exact absurd (show false=true from fx) Bool.false_ne_true
  | int a =>
    obtain ⟨t',rfl⟩:=ry
    cases x with
    | non=>cases rx; exact SeqAt.EqAt.int_none a t'
    | bl b=>cases rx; exact SeqAt.EqAt.int_bool a t' b
    | int b=>obtain ⟨t,rfl⟩:=rx; exact SeqAt.EqAt.int_int a t' b t
    | str b=>obtain ⟨t,rfl⟩:=rx; exact SeqAt.EqAt.int_str a t' b t
    | _=>exact absurd (show false=true from fx) Bool.false_ne_true
  | str a =>
    obtain ⟨t',rfl⟩:=ry
    cases x with
    | non=>cases rx; exact SeqAt.EqAt.str_none a t'
    | bl b=>cases rx; exact SeqAt.EqAt.str_bool a t' b
    | int b=>obtain ⟨t,rfl⟩:=rx; exact SeqAt.EqAt.str_int a t' b t
    | str b=>obtain ⟨t,rfl⟩:=rx; exact SeqAt.EqAt.str_str a t' b t
    | _=>exact absurd (show false=true from fx) Bool.false_ne_true
  | _=>exact absurd (show false=true from fy) Bool.false_ne_true
noncomputable def eqU (x:V) (u:Value):Bool:=match u with
  | .none=>eqV .non x
  | .bool b=>eqV (.bl b) x
  | .int i _=>eqV (.int i) x
  | .str z _=>eqV (.str z) x
  | _=>false
theorem ZkJ {x y:V} {u:Value} (r:RelV y u) (f:Za6 y=true):eqU x u=eqV y x:=by
  cases y with
  | non=>cases r; rfl
  | bl b=>cases r; rfl
  | int i=>obtain ⟨t,rfl⟩:=r; rfl
  | str z=>obtain ⟨t,rfl⟩:=r; rfl
  | _=>exact absurd (show false=true from f) Bool.false_ne_true
theorem Zb2 {x:V}:∀ {xs:List V} {us:List Value},Vals xs us→xs.all Za6=true→us.any (eqU x)=xs.any fun y=>eqV y x
  | _,_,.nil,_=>rfl
  | y :: xs,u :: us,.cons r t,f=>by
    rw [List.all_cons,Bool.and_eq_true] at f
    rw [List.any_cons,List.any_cons,ZkJ r f.1,Zb2 t f.2]
theorem Zaf {A:Around} {s:Shared} {x:V} {v:Value} (rx:RelV x v) (fx:Za6 x=true):∀ {xs:List V} {us:List Value},Vals xs us→xs.all Za6=true→∀ u∈us,SeqAt.EqAt A s u v (eqU x u)
  | _,_,.nil,_=>fun u hu=>by cases hu
  | y :: xs,u :: us,.cons r t,f=>fun u' hu=>by
    rw [List.all_cons,Bool.and_eq_true] at f
    rcases List.mem_cons.mp hu with rfl | hu
    · rw [ZkJ r f.1]; exact eqAt_V r rx f.1 fx
    · exact Zaf rx fx t f.2 u' hu
noncomputable def inV (x:V) (xs:List V):Bool:=xs.any fun y=>eqV y x
noncomputable def rIn (K:PySem.W.Frag) (neg:Bool):R2:=fun x y H Q=>∃ p xs,y = .ref p∧(SqL K H p xs∨SqT K H p xs)∧Za6 x=true∧xs.all Za6=true∧Q (.bl (if neg then !inV x xs else inV x xs)) H
theorem ZdF:OpR X (compareOp .In) (rIn X.K false):=by
  intro pins s σ H x y v u Q I rx ry h
  obtain ⟨p,xs,rfl,hq,fx,fs,q⟩:=h
  cases ry
  rcases hq with hq | hq
  · obtain ⟨its,r,pl,hz⟩:=I.list hq
    refine SeqAt.in_listAt (eqU x) pl.isList (fun w hw=>Zaf rx fx r fs w (by simpa using hw)) ⟨.bl _,H,I,rfl,?_⟩
    rw [show its.toArray.any (eqU x)=its.any (eqU x) by simp,Zb2 r fs]
    exact q
  · obtain ⟨its,r,pl,hz⟩:=I.tuple hq
    refine SeqAt.in_tupleAt (eqU x) pl (fun w hw=>Zaf rx fx r fs w (by simpa using hw)) ⟨.bl _,H,I,rfl,?_⟩
    rw [show its.toArray.any (eqU x)=its.any (eqU x) by simp,Zb2 r fs]
    exact q
theorem ZaU:OpR X (compareOp .NotIn) (rIn X.K true):=by
  intro pins s σ H x y v u Q I rx ry h
  obtain ⟨p,xs,rfl,hq,fx,fs,q⟩:=h
  cases ry
  rcases hq with hq | hq
  · obtain ⟨its,r,pl,hz⟩:=I.list hq
    refine SeqAt.notIn_listAt (eqU x) pl.isList (fun w hw=>Zaf rx fx r fs w (by simpa using hw)) ⟨.bl _,H,I,rfl,?_⟩
    rw [show its.toArray.any (eqU x)=its.any (eqU x) by simp,Zb2 r fs]
    exact q
  · obtain ⟨its,r,pl,hz⟩:=I.tuple hq
    refine SeqAt.notIn_tupleAt (eqU x) pl (fun w hw=>Zaf rx fx r fs w (by simpa using hw)) ⟨.bl _,H,I,rfl,?_⟩
    rw [show its.toArray.any (eqU x)=its.any (eqU x) by simp,Zb2 r fs]
    exact q
theorem Js.or {f:Value} {r r':List V→Hp→VK→Prop} (h:Js X f r) (h':Js X f r'):Js X f (fun xs H Q=>r xs H Q∨r' xs H Q):=by
  intro pins s σ H xs us Q I rs q
  rcases q with q | q
  · exact h pins s σ H xs us Q I rs q
  · exact h' pins s σ H xs us Q I rs q
theorem Zaq:Js X (.type "tuple") (fun xs H Q=>∃ p ys,xs=[.ref p]∧((SqL X.K H p ys∧∀ l,H l=none→Q (.ref l) (upd H l (.tup ys)))∨(SqT X.K H p ys∧Q (.ref p) H))):=by
  intro pins s σ H xs us Q I r h
  obtain ⟨p,ys,rfl,h⟩:=h
  obtain ⟨u,rfl,rx⟩:=vals1 r
  cases rx
  rcases h with ⟨hq,q⟩ | ⟨hq,q⟩
  · obtain ⟨its,r',pl,hz⟩:=I.list hq
    have hlen:=r'.length
    refine call_tuple_list pl.isList (fun h' kp=>?_) (by simp only [List.size_toArray] <;> omega)
    have I1:Inv X pins σ H { s with heap:=h' }:=I.kept (t':=s.toks) kp
    have I2:Inv X pins σ (upd H h'.objs.size (.tup ys)) { s with heap:=h'.push { cls:=.type "tuple",data:=.seq its.toArray } } :=
      I1.laid (t':=s.toks) (fun b o e=>Heap.get?_push_of_some _ e) (Nat.le_refl _) (show QZ X.prog X.w _ _ _ (.tup ys) from ⟨hz,its,r',TupP.new _ _⟩)
    exact ⟨.ref h'.objs.size,_,I2,rfl,q _ (I1.hok.fresh (Nat.le_refl _))⟩
  · obtain ⟨its,r',pl,hz⟩:=I.tuple hq
    exact call_tuple_same pl ⟨.ref p,H,I,rfl,q⟩
noncomputable def tyV (K:PySem.W.Frag) (T:String) (x:V) (H:Hp):Prop:=match x with
  | .str _=>T = "str"
  | .int _=>T = "int"
  | .ref p=>(T = "list"∧∃ xs,SqL K H p xs)∨(T = "tuple"∧∃ o,K.lookup p=some o∧o.cls = .type "tuple"∧o.dict=none) ∨
      (T = "dict"∧((∃ kvs,H p=some (.dK kvs))∨∃ kvs,H p=some (.dT kvs)))∨(T = "set"∧∃ S n,H p=some (.set S n))
  | _=>False
theorem tyV_is {pins:List (Addr×Obj)} {σ:St} {H:Hp} {s:Shared} {T:String} {x:V} {v:Value} (I:Inv X pins σ H s) (r:RelV x v) (ty:tyV X.K T x H) :
    s.TypeIs v T∧∀ a,v = .ref a→∃ ob,s.heap.get? a=some ob∧ob.dict=none:=by
  cases x with
  | str z =>
    obtain ⟨t,rfl⟩:=r
    cases (show T = "str" from ty)
    exact ⟨typeIs_str s z t,fun _ e=>nomatch e⟩
  | int i =>
    obtain ⟨t,rfl⟩:=r
    cases (show T = "int" from ty)
    exact ⟨typeIs_int s i t,fun _ e=>nomatch e⟩
  | ref p =>
    cases r
    rcases ty with ⟨rfl,xs,hq⟩ | ⟨rfl,o,hk,hc,hd⟩ | ⟨rfl,hk⟩ | ⟨rfl,S,n,hk⟩
    · obtain ⟨its,_,pl,_⟩:=I.list hq
      refine ⟨pl.isList.typeIs,fun a e=>?_⟩
      cases e
      obtain ⟨o,n,e,c,hd,_⟩:=pl
      exact ⟨o,e,hd⟩
    · refine ⟨⟨o,I.kIn p o hk,hc⟩,fun a e=>?_⟩
      cases e
      exact ⟨o,I.kIn _ o hk,hd⟩
    · have z:∃ o,s.heap.get? p=some o∧o.ExactDict:=by
        rcases hk with ⟨kvs,hk⟩ | ⟨kvs,hk⟩
        · obtain ⟨_,_,_,_,o,_,_,e,ex,_⟩:=I.hok p _ hk
          exact ⟨o,e,ex⟩
        · obtain ⟨_,_,_,_,o,_,_,e,ex,_⟩:=I.hok p _ hk
          exact ⟨o,e,ex⟩
      obtain ⟨o,e,ex⟩:=z
      refine ⟨⟨o,e,ex.1⟩,fun a e2=>?_⟩
      cases e2
      exact ⟨o,e,ex.2.1⟩
    · obtain ⟨o,_,_,_,e,ex,_⟩:=I.hok p _ hk
      refine ⟨⟨o,e,ex.1⟩,fun a e2=>?_⟩
      cases e2
      exact ⟨o,e,ex.2.1⟩
  | _=>exact False.elim ty
noncomputable def tBM (K:PySem.W.Frag) (T:String) (r:V→List V→Hp→VK→Prop) (to:TE) (t:TA):TE:=fun σ H Q=>to σ H fun x H1=>tyV K T x H1∧t σ H1 fun xs H2=>r x xs H2 Q
variable {o e:Expr} {es:List Expr} {to:TE} {t:TA} {name:Str} {apos cpos:Pos} {T id:String} {r:V→List V→Hp→VK→Prop}
theorem Zlz (pa:PlainAttrs T) (slot:Slot T name id) (hty:typeOf (.builtin id)=pure (.type "method_descriptor")) (hm:MtR X id r) (ho:PE X o to) (ha:PA X (e :: es) t)
    (hbase:attributeBase o name X.env (eval o X.env)=eval o X.env:=by rfl)
    (hfew:((backTo cpos (starEach (e :: es) X.env)).all (fun x=>!x.1) && (backToKw cpos (keywordEach [] X.env)).all (fun x=>x.1.isSome)
      && decide ((e :: es).length + ([]:List Keyword).length + (if ([]:List Keyword).isEmpty then 0 else 1) < 30))=true:=by rfl)
    (hline:(apos.endLine == cpos.line)=true:=by rfl) (hs:starEach (e :: es) X.env=(false,eval e X.env) :: starEach es X.env:=by rfl) (hplain:(backTo cpos (starEach es X.env)).any (·.1)=false:=by rfl) :
    PE X (.Call (.Attribute o name apos) (e :: es) [] cpos) (tBM X.K T r to t):=by
  intro pins s σ H Q I h
  refine wpAny_Call_method_late hbase hfew hline rfl (thn (ho pins s σ H _ I h) fun v s1 ⟨x,H1,I1,r1,ty,q1⟩=>?_)
  obtain ⟨h1,h2⟩:=tyV_is I1 r1 ty
  refine ⟨T,id,pa,slot,hty,h1,h2,?_⟩
  have hA:=ha cpos pins s1 σ H1 _ I1 q1
  rw [hs] at hA ⊢
  refine Calls.callWith_builtin (by show (false || (backTo cpos (starEach es X.env)).any (·.1))=false; rw [hplain] <;> rfl) (Calls.evalArgs_plain ?_)
  exact thn hA fun us s2 ⟨vs,H2,I2,r2,q2⟩=>hm pins s2 σ H2 x vs v us Q I2 r1 r2 q2
end
end L2
namespace L2
open PySem PySem.Spec PyProof.Rows
noncomputable def MtM (X:Cx) (id:String) (r:V→List V→Hp→VK→Prop):Prop :=
  ∀ (pins:List (Addr×Obj)) (s:Shared) (σ:St) (H:Hp) (x:V) (xs:List V) (v:Value) (us:List Value) (Q:VK),Inv X pins σ H s→RelV x v→Vals xs us→r x xs H Q →
    wpAny (model X.prog X.w) X.A (call (.builtin id) (v :: us)) (EP X pins σ Q) X.xe s
theorem Vals.one:∀ {x:V} {us:List Value},Vals [x] us→∃ u,us=[u]∧RelV x u
  | _,_,.cons r .nil=>⟨_,rfl,r⟩
theorem Vals.two:∀ {x y:V} {us:List Value},Vals [x,y] us→∃ u v,us=[u,v]∧RelV x u∧RelV y v
  | _,_,_,.cons r (.cons q .nil)=>⟨_,_,rfl,r,q⟩
theorem Vals.zero:∀ {us:List Value},Vals [] us→us=[]
  | _,.nil=>rfl
theorem Vals.dropLast {xs:List V} {us:List Value} (h:Vals xs us):Vals xs.dropLast us.dropLast:=by
  induction h with
  | nil=>exact .nil
  | cons r t ih =>
    cases t with
    | nil=>exact .nil
    | cons q t'=>exact .cons r ih
theorem Vals.eraseIdx:∀ {xs:List V} {us:List Value} (i:Nat),Vals xs us→Vals (xs.eraseIdx i) (us.eraseIdx i)
  | _,_,_,.nil=>.nil
  | _,_,0,.cons _ t=>t
  | _,_,i + 1,.cons r t=>.cons r (Vals.eraseIdx i t)
theorem Vals.reverse {xs:List V} {us:List Value} (h:Vals xs us):Vals xs.reverse us.reverse:=by
  induction h with
  | nil=>exact .nil
  | cons r t ih=>rw [List.reverse_cons,List.reverse_cons]; exact Vals.append ih (.cons r .nil)
theorem Vals.rep {xs:List V} {us:List Value} (h:Vals xs us):∀ k:Nat,Vals (List.replicate k xs).flatten (List.replicate k us).flatten
  | 0=>.nil
  | k + 1=>by
    rw [List.replicate_succ,List.replicate_succ,List.flatten_cons,List.flatten_cons]
    exact Vals.append h (Vals.rep h k)
theorem foldl_rep (its:List Value):∀ (k:Nat) (acc:List Value),
    List.foldl (fun x1 x2=>x1++x2) acc.toArray (List.replicate k its.toArray)=(acc++(List.replicate k its).flatten).toArray
  | 0,acc=>by simp
  | k + 1,acc=>by
    have e:acc.toArray++its.toArray=(acc++its).toArray:=by simp
    have e2:(acc++its)++(List.replicate k its).flatten=acc++(List.replicate (k + 1) its).flatten:=by
      rw [List.replicate_succ,List.flatten_cons,List.append_assoc]
    rw [← e2,← foldl_rep its k (acc++its),← e,List.replicate_succ,List.foldl_cons]
section
variable {X:Cx} {pins:List (Addr×Obj)} {σ:St} {H:Hp} {s:Shared} {l b:Addr} {xs ys zs:List V}
theorem Inv.lset {its its':List Value} {n:Nat} {f:Array Value→Array Value} {t':Nat} (I:Inv X pins σ H s) (hH:H l=some (.lst xs))
    (e:s.heap.get? l=some { cls:=.type "list",data:=.seq its.toArray n }) (hf:f its.toArray=its'.toArray) (hv:Vals ys its') (hz:ys.length≤sizeLine) :
    Inv X pins σ (upd H l (.lst ys)) { s with heap:=s.heap.update l (Obj.mapSeq f),toks:=t' }:=by
  have q:=PySem.IsL.update e f
  rw [hf] at q
  refine I.write (x:=l) (e:=l) (by rw [hH]; exact trivial) (.inl rfl) (fun b' u hb hu=>(Heap.get?_update_other s.heap (Obj.mapSeq f) (Ne.symm hb)).trans hu) ⟨_,q⟩ ?_
  exact ⟨hz,its',_,hv,q⟩
theorem Inv.lnew {its:List Value} {t':Nat} (I:Inv X pins σ H s) (hv:Vals ys its) (hz:ys.length≤sizeLine) :
    Inv X pins σ (upd H s.heap.objs.size (.lst ys)) { s with heap:=s.heap.push { cls:=.type "list",data:=.seq its.toArray },toks:=t' } :=
  I.laid (fun _ _ q=>Heap.get?_push_of_some _ q) (Nat.le_refl _) ⟨hz,its,0,hv,Heap.get?_push_size _ rfl⟩
theorem Inv.fresh (I:Inv X pins σ H s):H s.heap.objs.size=none:=I.hok.fresh (Nat.le_refl _)
theorem Inv.lstM (I:Inv X pins σ H s) (hH:H l=some (.lst xs)):xs.length≤sizeLine∧∃ (its:List Value) (n:Nat),Vals xs its∧xs.length=its.length∧s.heap.get? l=some { cls:=.type "list",data:=.seq its.toArray n }:=by
  obtain ⟨z,its,n,r,e⟩:=I.hok l _ hH
  exact ⟨z,its,n,r,r.length,e⟩
theorem ZjR {n:Nat} (h:n≤sizeLine):Builtin.List.listTooLong n=false:=by
  unfold Builtin.List.listTooLong
  exact decide_eq_false (by omega)
end
section
variable {X:Cx}
noncomputable def Zk1:V→List V→Hp→VK→Prop:=fun x vs H Q=>∃ l xs y,x = .ref l∧vs=[y]∧H l=some (.lst xs)∧xs.length < sizeLine∧Q .non (upd H l (.lst (xs++[y])))
theorem ZhW:MtM X "list.append" Zk1:=by
  intro pins s σ H x vs v us Q I rx rv h
  obtain ⟨l,xs,y,rfl,rfl,hH,hz,q⟩:=h
  cases rx
  obtain ⟨u,rfl,ru⟩:=rv.one
  obtain ⟨z,its,n,r,hl,e⟩:=I.lstM hH
  refine call_meets F.slot_list_append ⟨_,e,rfl⟩ F.entry_list_append (F.args_list_append_2 _ _) (PySem.list_append l its.toArray n u (by rw [List.size_toArray]; omega)) ⟨e,?_⟩
  refine ⟨.non,_,I.lset (its':=its++[u]) hH e (by simp) (r.append (.cons ru .nil)) ?_,rfl,q⟩
  rw [List.length_append,List.length_singleton]
  omega
noncomputable def rCat:R2:=fun x y H Q=>∃ l b xs zs,x = .ref l∧y = .ref b∧H l=some (.lst xs)∧H b=some (.lst zs)∧xs.length + zs.length≤sizeLine∧∀ p,H p=none→Q (.ref p) (upd H p (.lst (xs++zs)))
theorem op_cat:OpR X (binaryOp .Add) rCat:=by
  intro pins s σ H x y v u Q I rx ry h
  obtain ⟨l,b,xs,zs,rfl,rfl,hH,hB,hz,q⟩:=h
  cases rx
  cases ry
  obtain ⟨z,its,n,r,hl,e⟩:=I.lstM hH
  obtain ⟨z2,its2,n2,r2,hl2,e2⟩:=I.lstM hB
  refine PySem.P.add_list e e2 ?_ (by rw [List.size_toArray,List.size_toArray]; omega)
  have ea:its.toArray++its2.toArray=(its++its2).toArray:=by simp
  rw [ea]
  exact ⟨.ref _,_,I.lnew (t':=s.toks) (r.append r2) (by rw [List.length_append]; omega),rfl,q _ I.fresh⟩
noncomputable def rRep:R2:=fun x y H Q=>∃ l k xs,x = .ref l∧y = .int k∧H l=some (.lst xs)∧-(2 ^ 63)≤k∧k < 2 ^ 63∧xs.length * k.toNat≤sizeLine ∧
  ∀ p,H p=none→Q (.ref p) (upd H p (.lst (List.replicate k.toNat xs).flatten))
theorem len_rep {α:Type} (xs:List α) (k:Nat):(List.replicate k xs).flatten.length=k * xs.length:=by
  induction k with
  | zero=>simp
  | succ k ih=>rw [List.replicate_succ,List.flatten_cons,List.length_append,ih,Nat.succ_mul,Nat.add_comm]
theorem op_rep:OpR X (binaryOp .Mult) rRep:=by
  intro pins s σ H x y v u Q I rx ry h
  obtain ⟨l,k,xs,rfl,rfl,hH,h1,h2,hz,q⟩:=h
  cases rx
  obtain ⟨t,rfl⟩:=ry
  obtain ⟨z,its,n,r,hl,e⟩:=I.lstM hH
  have hlen:its.toArray.size * k.toNat≤sizeLine:=by rw [List.size_toArray,← hl]; exact hz
  have hcap:¬ its.toArray.size * k.toNat > (2 ^ 63 - 1) / 8:=by
    have:(sizeLine:Nat)≤(2 ^ 63 - 1) / 8:=by decide
    omega
  have hfit:¬ (!Builtin.List.listFitsIndex k)=true:=by
    rw [fitsIndex_both h1 h2]
    exact Bool.false_ne_true
  have hlong:¬ Builtin.List.listTooLong (its.toArray.size * k.toNat)=true:=by
    rw [ZjR hlen]
    exact Bool.false_ne_true
  have hnew:List.foldl (fun x1 x2=>x1++x2) #[] (List.replicate (if its.toArray.isEmpty=true then 0 else k.toNat) its.toArray)=(List.replicate k.toNat its).flatten.toArray:=by
    have f0:∀ m:Nat,List.foldl (fun x1 x2=>x1++x2) #[] (List.replicate m its.toArray)=(List.replicate m its).flatten.toArray:=fun m=>by
      have:=foldl_rep its m []
      rw [List.nil_append] at this
      exact this
    rw [f0]
    cases its with
    | nil=>simp
    | cons a r'=>rw [if_neg (by simp)]
  refine wpAny_binaryOp_repeat_ref (T:="list") (U:="int") (by decide) ⟨_,e,rfl⟩ (fun s'=>typeIs_int s' k t) noFill_list_mul F.fills_int_mul F.slot_int_rmul repeat_list F.slot_int_index.lookup
    (call_meets F.slot_int_rmul (typeIs_int s k t) F.entry_int_rmul (F.args_int_rmul_2 _ _) (int___rmul___int_list k t l its.toArray n)
      ⟨e,rfl,⟨_,e,rfl⟩,call_meets F.slot_list_mul ⟨_,e,rfl⟩ F.entry_list_mul (F.args_list_mul_2 _ _) (AutoListH.list___mul___list_int_3 l its.toArray n k t hfit hcap hlong) ⟨e,?_⟩⟩)
  rw [hnew]
  exact ⟨.ref _,_,I.lnew (t':=s.toks) (r.rep k.toNat) (by rw [len_rep,Nat.mul_comm]; exact hz),rfl,q _ I.fresh⟩
end
section
variable {prog:Program} {w:World} {A:Around} {E:Value→Shared→Prop} {s:Shared}
set_option maxRecDepth 100000 in
end
section
variable {X:Cx}
end
end L2
namespace Att
open PySem PySem.W PySem.Calls PyProof.Rows
theorem ZbI {P:Params} {h:Heap}:∀ (ns:List Int) (vs:List Value),WellAll P h vs (ns.map WData.int)→IntsAre vs ns:=by
  intro ns
  induction ns with
  | nil =>
    intro vs w
    rw [List.map_nil] at w
    cases w
    exact .nil
  | cons n ns ih =>
    intro vs w
    rw [List.map_cons] at w
    cases w with
    | cons a b =>
      cases a
      exact .cons _ _ (ih _ b)
theorem Zhl {l:OpenLaw} {n:Nat} (hn:l.most=some n) {P:Params} {h:Heap} {args:List WData} {vals:List Value}
    (hpre:l.row.toRowW.claim.pre args=true) (hwl:WellAll P h vals args) :
    ∃ a vs ns,vals=[Value.ref a]∧args=[WData.list (ns.map WData.int)]∧h.get? a=some { cls:=.type "list",data:=.seq vs.toArray }∧IntsAre vs ns∧ns.length≤n:=by
  have hsh:WShape.hasAll [] args [.list .int]=true:=(pre_splitW hpre).1
  have hc:l.pre.holds [] { args:=args }=true:=(pre_splitW hpre).2
  obtain ⟨d,r,rfl,h1,h2⟩:=hasAllW_cons hsh
  obtain rfl:=hasAllW_nil h2
  obtain ⟨xs,rfl,h3⟩:=hasW_list h1
  obtain ⟨ns,rfl⟩:=items_int h3
  have hlen:ns.length≤n:=by
    unfold OpenLaw.pre at hc
    have h4:(WTm.not (.lt (.lit (.int (n:Int))) (.len (.arg 0)))).holds [] { args:=[.list (ns.map .int)] }=true:=by
      have h4:=(holds_andW hc).1
      rw [hn] at h4
      exact h4
    have h5:=condW_of h4 (w_not (w_lt w_lit (w_len_list (w_arg rfl))))
    rw [List.length_map] at h5
    refine Nat.le_of_not_lt fun q=>?_
    have q':(n:Int) < ((ns.length:Nat):Int):=by omega
    first
      | (rw [decide_eq_true q'] at h5; exact absurd h5 (by decide))
      | (simp at h5; omega)
  cases hwl with
  | cons w1 w2 =>
    cases w2
    cases w1 with
    | list ho hall=>exact ⟨_,_,ns,rfl,rfl,ho,ZbI ns _ hall,hlen⟩
theorem Zhu (l:OpenLaw) (args:List WData):l.row.toRowW.claim.post args (.bool true) args=true :=
  postW_of (r:=l.row.toRowW) (X:=(true == true))
    (show WShape.has [] (.bool true) .bool=true by first | rfl | decide | simp [WShape.has,WShape.arms,WShape.armsAll])
    (show (WTm.eq .res (.lit (.bool true))).value [] { args:=args,res:=some (.bool true),after:=args }=some (.bool (true == true)) from w_eq_bool (w_res rfl) w_lit) rfl
theorem attach_call {l:OpenLaw} {n:Nat} {q:Program} {loose:List Str} {XP:(Str→Option Value)→Heap→Prop} {YP:World→Heap→Prop} {d:DefRec}
    (hn:l.most=some n) (hdf:d.params.defaults=[])
    (call:∀ (w:World) (s₀ s₁:Shared) (mg mb:Str→Option Value) (fa:Addr) (o:Obj) (pm cd doc:Value) (a:Addr) (vs:List Value) (ns:List Int),
      Ground q loose [] XP w s₀ mg mb s₁.heap→YP w s₁.heap →
      s₁.heap.get? fa=some o→o.data = .func (docDef d.name d.params d.body d.scope pm cd doc)→s₁.heap.CodeRec cd d.name→mg d.name=some (.ref fa) →
      s₁.heap.get? a=some { cls:=.type "list",data:=.seq vs.toArray }→IntsAre vs ns→ns.length≤n→s₁.gens = #[] →
      codeAny (model l.prog w) callerA (.call (.ref fa) ⟨[.ref a],[]⟩) (fun r s'=>r = .ok (.ret (.bool true))∧OldK s₁.heap s'.heap∧s'.os=s₁.os∧AllBare s'.gens) s₁) :
    WalkO q loose XP YP l.row.toRowW d [] (fun f vs=>PySem.call f vs):=by
  intro w s₀ s₁ mg mb G Y fa o pm cd doc dV kV ho hd hcd hD hmg hg args vals as hpre hlay hrd hwl hlo
  obtain rfl:dV = .none:=Dflts.none hD hdf
  obtain rfl:kV = .none:=Dflts.noKw hD
  obtain ⟨a,vs,ns,rfl,rfl,hobj,hints,hlen⟩:=Zhl hn hpre hwl
  refine enter_call (codeAny_mono (call w s₀ s₁ mg mb fa o pm cd doc a vs ns G Y ho (fd_plain hd) hcd hmg hobj hints hlen hg) fun r s' hq=>?_)
  obtain ⟨rfl,h2,h3,h4⟩:=hq
  exact ⟨.inl ⟨.bool true,.bool true,[],rfl,fun _=>rfl,.bool true,Zhu l _,fun _=>⟨List.Pairwise.nil,fun _ hm=>(nomatch hm)⟩⟩,h2,h3,h4⟩
section
variable {prog:Program} {w:World} {A:Around} {E:Value→Shared→Prop} {s:Shared} {K:Frag}
end
end Att
namespace L2
open PySem PySem.Spec PyProof.Rows
theorem Zdj:∀ {vs:List Value} {ns:List Int},IntsAre vs ns→Vals (ns.map V.int) vs
  | _,_,.nil=>.nil
  | _,_,.cons n t h=>.cons ⟨t,rfl⟩ (Zdj h)
noncomputable def Only (H:Hp):Prop:=∀ b,H b=none∨∃ o xs,H b=some (.frz o (.lst xs))
theorem law_call {P:Program} {w:World} {K:PySem.W.Frag} {mg mb:Str→Option Value} {CX:CXT} {k:Nat} {fa a:Addr} {fd:FuncData} {x:Str} {sp:Sp} {s₁:Shared} {vs:List Value} {ns:List Int}
    (KX:K.In s₁.heap) (hns:s₁.heap.Ns mainGlobals mg) (hb:s₁.heap.Ns builtinsNs mb) (hbb:∀ x:Str,x≠"__name__"→mb x=bootBuiltins x) (hlim:s₁.heap.NoLimit) (hg:s₁.gens = #[])
    (ha:s₁.heap.get? a=some { cls:=.type "list",data:=.seq vs.toArray }) (hi:IntsAre vs ns) (hl:ns.length≤sizeLine) (hr:Room k callerA)
    (F:∀ base:Heap,K.In base→base.Ns mainGlobals mg→FnOk P w K mg base CX k fa fd [x] sp) (hbind:∀ (s:Shared) (u:Value),BindsTo s fd ⟨[u],[]⟩ [(x,u)])
    (hsp:∀ H:Hp,Only H→SqL K H a (ns.map V.int)→sp [.ref a] H (fun v _=>v = .bl true) fun _ _ _=>False)
    (hCX:∀ H e s',CX [] H s₁ (fun _ _ _=>False) e s'→False) :
    codeAny (model P w) callerA (.call (.ref fa) ⟨[.ref a],[]⟩) (fun r s'=>r = .ok (.ret (.bool true))∧OldK s₁.heap s'.heap∧s'.os=s₁.os∧AllBare s'.gens) s₁:=by
  have rv:=Zdj hi
  have lenV:=hi.length
  -- from an abstract heap in which nothing but the script may be tracked
  have core:∀ H:Hp,Only H→SqL K H a (ns.map V.int)→HOk P w H s₁.heap→(∀ b,H b≠none→b=a)→(H a≠none→K.lookup a=none) →
      codeAny (model P w) callerA (.call (.ref fa) ⟨[.ref a],[]⟩) (fun r s'=>r = .ok (.ret (.bool true))∧OldK s₁.heap s'.heap∧s'.os=s₁.os∧AllBare s'.gens) s₁:=by
    intro H hO hS hok hA hK
    have base_of:∀ {b:Addr} {o:Obj},s₁.heap.get? b=some o→H b=none→(hidT s₁.heap H).get? b=some o:=fun e n=>Zj1 e n
    have noA:∀ {b:Addr} {o:Obj} {es:Array DictEntry} {ep:Nat},s₁.heap.get? b=some o→o.data = .dict es ep→H b=none:=fun {b o es ep} e d=>by
      cases q:H b with
      | none=>rfl
      | some u =>
        have e':b=a:=hA b (by rw [q]; simp)
        subst e'
        rw [ha] at e; cases e
        have d':Data.seq vs.toArray _=Data.dict es ep:=d
        cases d'
    have nsK:∀ {b:Addr} {m:Str→Option Value},s₁.heap.Ns b m→(hidT s₁.heap H).Ns b m:=fun {b m} ⟨o,es,ep,e,d,r⟩=>⟨o,es,ep,base_of e (noA e d),d,r⟩
    have hKb:K.In (hidT s₁.heap H):=fun b o e=>base_of (KX b o e) (by
      cases q:H b with
      | none=>rfl
      | some u =>
        have e':b=a:=hA b (by rw [q]; simp)
        subst e'
        rw [hK (by rw [q]; simp)] at e; cases e)
    have hM:Mod K mg (hidT s₁.heap H):=⟨hKb,nsK hns,⟨mb,nsK hb,hbb⟩,let ⟨mc,h1,h2⟩:=hlim; ⟨mc,nsK h1,h2⟩⟩
    have e0:Env0 P w K mg (hidT s₁.heap H) callerA [] s₁ H:=⟨rfl,hM,fun b o e=>ZlL e,Nat.le_of_eq (Zif _ _),trivial,fun b hb=>absurd (show b∈([]:List Addr) from hb) (by simp),hok,.of_eq hg⟩
    refine codeAny_mono ((F _ hKb (nsK hns)).run callerA [] s₁ H ⟨[.ref a],[]⟩ [.ref a] [.ref a] _ _ hr e0 (hbind s₁ (.ref a)) (.cons rfl .nil) (hsp H hO hS)) fun r s' h=>?_
    cases r with
    | error e=>exact (hCX H e s' h).elim
    | ok fl =>
      cases fl with
      | next=>exact False.elim h
      | brk=>exact False.elim h
      | cont=>exact False.elim h
      | ret u =>
        obtain ⟨v,H',os,bare,un,hok',r',q⟩:=h
        have q':v = .bl true:=q
        subst q'
        obtain rfl:u=Value.bool true:=r'
        refine ⟨rfl,OldK.of_keep fun b o e=>?_,os,bare⟩
        cases q:H b with
        | none=>exact un.keep b o e q (by intro z; exact absurd (show b∈([]:List Addr) from z) (by simp)) (by simp)
        | some u =>
          rcases hO b with z | ⟨ob,xs,z⟩
          · rw [q] at z; cases z
          · have z2:=un.frzs b ob _ z
            obtain ⟨e1,_⟩:=hok b _ z
            obtain ⟨e2,_⟩:=hok' b _ z2
            rw [e] at e1; cases e1
            exact e2
  cases hk:K.lookup a with
  | some o =>
    -- the script is one of the module's own objects
    have e:=KX a o hk
    rw [ha] at e
    cases e
    refine core (fun _=>none) (fun _=>.inl rfl) (.inr ⟨_,vs.toArray,_,hk,rfl,rfl,rfl,by rw [List.size_toArray,lenV]; exact hl,by simpa using rv⟩) (fun b u z=>by have z':(none:Option HO)=some u:=z; cases z') (fun b z=>absurd rfl z) fun z=>absurd rfl z
  | none =>
    refine core (fun b=>if b=a then some (.frz { cls:=.type "list",data:=.seq vs.toArray } (.lst (ns.map V.int))) else none) (fun b=>?_) (.inl (.inr ⟨{ cls:=.type "list",data:=.seq vs.toArray },if_pos rfl⟩)) (fun b u z=>?_) (fun b z=>?_) fun _=>hk
    · by_cases hb:b=a
      · exact .inr ⟨_,_,if_pos hb⟩
      · exact .inl (if_neg hb)
    · by_cases hb:b=a
      · have z':=(if_pos hb).symm.trans z
        cases z'
        subst hb
        exact ⟨ha,by rw [List.length_map]; exact hl,vs,_,rv,ha⟩
      · have z':=(if_neg hb).symm.trans z
        cases z'
    · by_cases hb:b=a
      · exact hb
      · exact absurd (if_neg hb) z
end L2
namespace L2
open PySem PySem.Spec PyProof.Rows
theorem walk_of {l:PySem.W.OpenLaw} {n k:Nat} {q:Program} {loose:List Str} {XP:(Str→Option Value)→Heap→Prop} {YP:World→Heap→Prop} {d:DefRec} {K:Params→PySem.W.Frag} {CX:World→CXT} {sp:World→Sp} {x:Str}
    (hn:l.most=some n) (hn2:n≤sizeLine) (hdf:d.params.defaults=[]) (hr:Room k callerA)
    (hY:∀ (w:World) (h:Heap),YP w h→(K w.params).In h)
    (F:∀ (w:World) (mg:Str→Option Value) (fa:Addr) (h:Heap),(K w.params).In h→h.Ns mainGlobals mg→mg d.name=some (.ref fa) →
      ∃ fd:FuncData,(∀ (s:Shared) (u:Value),BindsTo s fd ⟨[u],[]⟩ [(x,u)]) ∧
        ∀ base:Heap,(K w.params).In base→base.Ns mainGlobals mg→FnOk l.prog w (K w.params) mg base (CX w) k fa fd [x] (sp w))
    (hsp:∀ (w:World) (H:Hp) (a:Addr) (ns:List Int),ns.length≤n→Only H→SqL (K w.params) H a (ns.map V.int)→sp w [.ref a] H (fun v _=>v = .bl true) fun _ _ _=>False)
    (hCX:∀ (w:World) (H:Hp) (s:Shared) (e:Value) (s':Shared),CX w [] H s (fun _ _ _=>False) e s'→False) :
    PySem.W.WalkO q loose XP YP l.row.toRowW d [] (fun f vs=>PySem.call f vs):=by
  refine Att.attach_call hn hdf fun w s₀ s₁ mg mb fa o pm cd doc a vs ns G Y ho hd hcd hmg hobj hints hlen hg=>?_
  have KX:=hY w _ Y
  obtain ⟨fd,hb,hF⟩:=F w mg fa _ KX G.T.g hmg
  exact law_call KX G.T.g G.T.b G.T.builtins G.T.nolimit hg hobj hints (Nat.le_trans hlen hn2) hr hF hb (fun H hO hS=>hsp w H a ns hlen hO hS) fun H e s'=>hCX w H s₁ e s'
end L2
namespace L2
open PySem PySem.Spec PyProof.Rows
noncomputable def Zo (s:Stmt):Arguments:=match s with
  | .FunctionDef _ a _ _ _ _ _ _ _ _=>a
  | _=>{ posonlyargs:=[],args:=[],vararg:=none,kwonlyargs:=[],kw_defaults:=[],kwarg:=none,defaults:=[] }
noncomputable def Zf (s:Stmt):List Stmt:=match s with
  | .FunctionDef _ _ b _ _ _ _ _ _ _=>b
  | _=>[]
noncomputable def Za (s:Stmt):Scope:=match s with
  | .FunctionDef _ _ _ _ _ _ sc _ _ _=>sc
  | _=>{ kind:=.function,names:=[],isGenerator:=false,isCoroutine:=false }
noncomputable abbrev CX0:CXT:=fun _ _ _ _ _ _=>False
noncomputable abbrev E0:XK:=fun _ _ _=>False
theorem pass0 {X:Cx}:ZiP CX0 X E0:=fun _ _ _ _ _ _ _ h=>h.elim
structure Fun (K:PySem.W.Frag) (x qual:Str) (st:Stmt) (f:Addr) (fd:FuncData):Prop where
  ex:∃ (oc:Value) (od:Option Addr) (kV doc pm:Value) (an:Option Addr) (cdv ct:Value) (osl:Array (Option Value)),
    fd=PySem.W.fnOf x qual (Zo st) (Zf st) (Za st) .none kV doc pm an cdv ct∧K.lookup f=some ⟨oc,od,.func fd,osl⟩∧PySem.W.codeIn K cdv qual=true
  kp:PySem.W.keepIn K (.ref f)=true
section
variable {P:Program} {w:World} {K:PySem.W.Frag} {mg:Str→Option Value} {base:Heap}
theorem Fun.ok {x qual:Str} {st:Stmt} {f:Addr} {fd:FuncData} {N ps:List Str} {k:Nat} {sp:Sp} (F:Fun K x qual st f fd) (S:FnScope N ps (Za st)) (len:∀ vs H Q E,sp vs H Q E→vs.length=ps.length)
    (hbody:∀ (cdv:Value) (A:Around) (outer:List Env) (s:Shared) (H:Hp) (vs:List V) (Q:VK) (E:XK),Room k (A.deeper (envOfC qual (Za st) s.heap.objs.size f cdv))→sp vs H Q E →
      ∃ t,PSs (cxOf CX0 P w K mg base N qual (Za st) f cdv A outer s H E).nox (Zf st) t∧t { nx:=fun _ H'=>Q .non H',rt:=Q } (start N vs) H):FnOk P w K mg base CX0 (k + 1) f fd ps sp:=by
  obtain ⟨oc,od,kV,doc,pm,an,cdv,ct,osl,rfl,lk,hcd⟩:=F.ex
  refine fn_of lk hcd S len fun A outer s H vs Q E hr hsp=>?_
  obtain ⟨t,h,q⟩:=hbody cdv A outer s H vs Q E hr hsp
  exact ⟨t,h.nox,q⟩
theorem Fun.binds {x qual:Str} {st:Stmt} {f:Addr} {fd:FuncData} {ps:List Str} (F:Fun K x qual st f fd)
    (h:∀ (kV doc pm:Value) (an:Option Addr) (cdv ct:Value) (us:List Value),us.length=ps.length→bindArgs (PySem.W.fnOf x qual (Zo st) (Zf st) (Za st) .none kV doc pm an cdv ct) ⟨us,[]⟩=pure (ps.zip us)):Binds K fd ps []:=by
  obtain ⟨oc,od,kV,doc,pm,an,cdv,ct,osl,rfl,lk,hcd⟩:=F.ex
  exact .all (h kV doc pm an cdv ct)
theorem ZL {x qual:Str} {st:Stmt} {f:Addr} {oc:Value} {od an:Option Addr} {osl:Array (Option Value)} {kV doc pm cdv ct:Value} (l:K.lookup f=some ⟨oc,od,.func (PySem.W.fnOf x qual (Zo st) (Zf st) (Za st) .none kV doc pm an cdv ct),osl⟩)
    (c:PySem.W.codeIn K cdv qual=true) (k:PySem.W.keepIn K (.ref f)=true):Fun K x qual st f (PySem.W.fnOf x qual (Zo st) (Zf st) (Za st) .none kV doc pm an cdv ct):=⟨⟨oc,od,kV,doc,pm,an,cdv,ct,osl,rfl,l,c⟩,k⟩
end
section
variable {X:Cx}
end
theorem iteF {A B:Prop} (h:B):if false=true then A else B:=by
  rw [if_neg Bool.false_ne_true]
  exact h
theorem iteT {A B:Prop} (h:A):if true=true then A else B:=by
  rw [if_pos rfl]
  exact h
noncomputable def Same (H H':Hp):Prop:=∀ b o,H b=some o→H' b=some o
theorem Same.refl (H:Hp):Same H H:=fun _ _ h=>h
theorem Same.trans {H H1 H2:Hp} (a:Same H H1) (b:Same H1 H2):Same H H2:=fun c o h=>b c o (a c o h)
theorem Same.free {H H':Hp} (e:Same H H') {l:Addr} (h:H' l=Option.none):H l=Option.none:=by
  cases q:H l with
  | none=>rfl
  | some o =>
    rw [e l o q] at h
    cases h
theorem Same.seq {K:PySem.W.Frag} {H H':Hp} {a:Addr} {xs:List V} (e:Same H H') (h:SqL K H a xs):SqL K H' a xs:=by
  rcases h with (h | ⟨o,h⟩) | h
  · exact .inl (.inl (e _ _ h))
  · exact .inl (.inr ⟨o,e _ _ h⟩)
  · exact .inr h
end L2
end
section
namespace L2
open PySem PySem.Spec PyProof.Rows
section
variable {κ:Type} [DecidableEq κ]
noncomputable def valV (kvs:List (κ×V)) (k:κ):Option V:=(kvs.find? fun kv=>decide (kv.1=k)).map (·.2)
noncomputable def putK (kvs:List (κ×V)) (k:κ) (v:V):List (κ×V) :=
  if (kvs.any fun kv=>decide (kv.1=k))=true then kvs.map (fun kv=>if kv.1=k then (kv.1,v) else kv) else kvs++[(k,v)]
noncomputable def dropK (kvs:List (κ×V)) (k:κ):List (κ×V):=kvs.filter fun kv=>decide (kv.1≠k)
theorem ZcJ {p:κ×V} {r:List (κ×V)} {k:κ} (e:p.1=k):valV (p :: r) k=some p.2:=by simp [valV,List.find?_cons,e]
theorem ZcK {p:κ×V} {r:List (κ×V)} {k:κ} (e:¬ p.1=k):valV (p :: r) k=valV r k:=by simp [valV,List.find?_cons,e]
theorem Zfd (k:κ):∀ kvs:List (κ×V),(kvs.any fun kv=>decide (kv.1=k))=(valV kvs k).isSome
  | []=>rfl
  | p :: r=>by
    rw [List.any_cons]
    by_cases e:p.1=k
    · simp only [ZcJ e,decide_eq_true e,Bool.true_or,Option.isSome_some]
    · rw [ZcK e,decide_eq_false e,Bool.false_or]; exact Zfd k r
theorem ZeP (kvs:List (κ×V)) (k:κ) (v:V):(putK kvs k v).length≤kvs.length + 1:=by
  unfold putK
  split
  · rw [List.length_map]; omega
  · rw [List.length_append,List.length_cons,List.length_nil]; omega
theorem RelO.isSome_eq {o:Option V} {u:Option Value} (r:RelO o u):o.isSome=u.isSome:=by
  cases o with
  | none=>cases u with
    | none=>rfl
    | some _=>exact (show False from r).elim
  | some _=>cases u with
    | none=>exact (show False from r).elim
    | some _=>rfl
theorem RelO.getD {o:Option V} {u:Option Value} {d:V} {d':Value} (r:RelO o u) (rd:RelV d d'):RelV (o.getD d) (u.getD d'):=by
  cases o with
  | none=>cases u with
    | none=>exact rd
    | some _=>exact (show False from r).elim
  | some _=>cases u with
    | none=>exact (show False from r).elim
    | some _=>exact r
theorem KV.val {kvs:List (κ×V)} {vs:List (κ×Value)} (r:KV kvs vs) (k:κ):RelO (valV kvs k) (valueAt vs k):=by
  unfold KV at r
  induction r with
  | nil=>exact True.intro
  | @cons p q ps qs h t ih =>
    obtain ⟨h1,h2⟩:=h
    by_cases e:p.1=k
    · have e':q.1=k:=h1.symm.trans e
      have b:valueAt (q :: qs) k=some q.2:=by simp [valueAt,List.find?_cons,e']
      rw [ZcJ e,b]; exact h2
    · have e':¬ q.1=k:=fun z=>e (h1.trans z)
      have b:valueAt (q :: qs) k=valueAt qs k:=by simp [valueAt,List.find?_cons,e']
      rw [ZcK e,b]; exact ih
theorem KV.any {kvs:List (κ×V)} {vs:List (κ×Value)} (r:KV kvs vs) (k:κ):(kvs.any fun kv=>decide (kv.1=k))=vs.any fun kv=>decide (kv.1=k):=by
  unfold KV at r
  induction r with
  | nil=>rfl
  | cons h t ih=>rw [List.any_cons,List.any_cons,ih,h.1]
theorem KV.repl {kvs:List (κ×V)} {vs:List (κ×Value)} (r:KV kvs vs) (k:κ) {y:V} {u:Value} (ry:RelV y u) :
    KV (kvs.map fun kv=>if kv.1=k then (kv.1,y) else kv) (vs.map fun kv=>if kv.1=k then (kv.1,u) else kv):=by
  unfold KV at r ⊢
  induction r with
  | nil=>exact .nil
  | @cons p q ps qs h t ih =>
    rw [List.map_cons,List.map_cons]
    refine .cons ?_ ih
    obtain ⟨h1,h2⟩:=h
    by_cases e:p.1=k
    · rw [if_pos e,if_pos (h1.symm.trans e)]; exact ⟨h1,ry⟩
    · rw [if_neg e,if_neg (fun z=>e (h1.trans z))]; exact ⟨h1,h2⟩
theorem KV.put {kvs:List (κ×V)} {vs:List (κ×Value)} (r:KV kvs vs) (k:κ) {y:V} {u:Value} (ry:RelV y u):KV (putK kvs k y) (stored vs k u):=by
  unfold putK stored
  rw [r.any k]
  by_cases e:(vs.any fun kv=>decide (kv.1=k))=true
  · rw [if_pos e,if_pos e]; exact r.repl k ry
  · rw [if_neg e,if_neg e]; exact Paired.snoc r ⟨rfl,ry⟩
theorem KV.drop {kvs:List (κ×V)} {vs:List (κ×Value)} (r:KV kvs vs) (k:κ):KV (dropK kvs k) (without vs k):=by
  unfold KV at r ⊢
  unfold dropK without
  induction r with
  | nil=>exact .nil
  | @cons p q ps qs h t ih =>
    obtain ⟨h1,h2⟩:=h
    rw [List.filter_cons,List.filter_cons]
    by_cases e:p.1=k
    · have a:¬ decide (p.1≠k)=true:=by simp [e]
      have b:¬ decide (q.1≠k)=true:=by simp [h1.symm.trans e]
      rw [if_neg a,if_neg b]; exact ih
    · have e':¬ q.1=k:=fun z=>e (h1.trans z)
      have a:decide (p.1≠k)=true:=by simp [e]
      have b:decide (q.1≠k)=true:=by simp [e']
      rw [if_pos a,if_pos b]; exact .cons ⟨h1,h2⟩ ih
theorem KV.keys {kvs:List (κ×V)} {vs:List (κ×Value)} (r:KV kvs vs):kvs.map (·.1)=vs.map (·.1):=by
  unfold KV at r
  induction r with
  | nil=>rfl
  | cons h t ih=>rw [List.map_cons,List.map_cons,ih,h.1]
theorem KV.length {kvs:List (κ×V)} {vs:List (κ×Value)} (r:KV kvs vs):kvs.length=vs.length:=Paired.length r
end
theorem Zgy {P:Program} {w:World} {k:Key} {u:Value} (r:RelV (kV k) u):(Z5 P w).is k u=true:=by
  cases k with
  | inl i=>obtain ⟨t,e⟩:=(show ∃ t,u=Value.int i t from r); subst e; exact ZeN P w i t
  | inr x=>obtain ⟨t,e⟩:=(show ∃ t,u=Value.str x t from r); subst e; exact ZeM P w x t
theorem ZdW {P:Program} {w:World}:∀ {ks:List Key} {us:List Value},Vals (ks.map kV) us→ItemsAre (Z5 P w) ks us
  | [],_,r=>by rw [List.map_nil] at r; cases r; exact .nil
  | k :: ks,_,r=>by
    rw [List.map_cons] at r
    cases r with
    | cons h t=>exact .cons (Zgy h) (ZdW t)
noncomputable abbrev KT (H:Hp):List (List Key×V)→List (List Key×Addr×Value)→Prop:=Paired fun p q=>p.1=q.1∧H q.2.1=some (.tup (p.1.map kV))∧RelV p.2 q.2.2
theorem KT.val {H:Hp} {kvs:List (List Key×V)} {xs:List (List Key×Addr×Value)} (r:KT H kvs xs) (k:List Key):RelO (valV kvs k) ((atKey xs k).map (·.2)):=by
  induction r with
  | nil=>exact True.intro
  | @cons p q ps qs h t ih =>
    obtain ⟨h1,_,h2⟩:=h
    by_cases e:p.1=k
    · have e':q.1=k:=h1.symm.trans e
      have b:atKey (q :: qs) k=some q.2:=by simp [atKey,List.find?_cons,e']
      rw [ZcJ e,b]; exact h2
    · have e':¬ q.1=k:=fun z=>e (h1.trans z)
      have b:atKey (q :: qs) k=atKey qs k:=by simp [atKey,List.find?_cons,e']
      rw [ZcK e,b]; exact ih
theorem KT.repl {H:Hp} {kvs:List (List Key×V)} {xs:List (List Key×Addr×Value)} (r:KT H kvs xs) (k:List Key) {y:V} {u:Value} (ry:RelV y u) :
    KT H (kvs.map fun kv=>if kv.1=k then (kv.1,y) else kv) (xs.map (putAt k u)):=by
  induction r with
  | nil=>exact .nil
  | @cons p q ps qs h t ih =>
    rw [List.map_cons,List.map_cons]
    refine .cons ?_ ih
    obtain ⟨h1,h2,h3⟩:=h
    unfold putAt
    by_cases e:p.1=k
    · rw [if_pos e,if_pos (h1.symm.trans e)]; exact ⟨h1,h2,ry⟩
    · rw [if_neg e,if_neg (fun z=>e (h1.trans z))]; exact ⟨h1,h2,h3⟩
theorem KT.put {H:Hp} {kvs:List (List Key×V)} {xs:List (List Key×Addr×Value)} (r:KT H kvs xs) (k:List Key) {b:Addr} {y:V} {u:Value} (hb:H b=some (.tup (k.map kV))) (ry:RelV y u) :
    KT H (putK kvs k y) (storedH xs k b u):=by
  have e:(kvs.any fun kv=>decide (kv.1=k))=(atKey xs k).isSome:=by
    rw [Zfd,(r.val k).isSome_eq,Option.isSome_map]
  unfold putK storedH
  rw [e]
  by_cases q:(atKey xs k).isSome=true
  · rw [if_pos q,if_pos q]; exact r.repl k ry
  · rw [if_neg q,if_neg q]; exact Paired.snoc r ⟨rfl,hb,ry⟩
theorem KT.keeps {H H':Hp} {kvs:List (List Key×V)} {xs:List (List Key×Addr×Value)} (r:KT H kvs xs) (ht:∀ b ys,H b=some (.tup ys)→H' b=some (.tup ys)):KT H' kvs xs :=
  Paired.mapP r fun _ _ z=>⟨z.1,ht _ _ z.2.1,z.2.2⟩
section
variable {P:Program} {w:World} {H:Hp} {h:Heap} {a:Addr}
theorem rd_of {u:HO} (ok:HOk P w H h) (e:Rd H a u):QZ P w H h a u:=e.ok ok
theorem dk_rd {kvs:List (Key×V)} (ok:HOk P w H h) (e:Rd H a (.dK kvs)):kvs.length≤sizeLine∧(a == sysModules)=false∧∃ vs,KV kvs vs∧h.DictOf (Z5 P w) a vs :=
  show QZ P w H h a (.dK kvs) from rd_of ok e
theorem Zkz {ks:List Key} (ok:HOk P w H h) (e:H a=some (.tup (ks.map kV))):(tupleKind (Z5 P w)).is h ks a:=by
  obtain ⟨_,its,r,o,h1,h2,⟨n,h3⟩,_⟩:=(show QZ P w H h a (.tup (ks.map kV)) from ok a _ e)
  exact ⟨o,its.toArray,n,h1,h2,h3,by simpa using ZdW r⟩
theorem dt_rd {kvs:List (List Key×V)} (ok:HOk P w H h) (e:Rd H a (.dT kvs)):kvs.length≤sizeLine∧(a == sysModules)=false ∧
    ∃ xs,KT H kvs xs∧h.DictOfH (tupleKind (Z5 P w)) a xs:=by
  obtain ⟨z,y,xs,r,o,es,ep,h1,h2,h3,h4,h5⟩:=(show QZ P w H h a (.dT kvs) from rd_of ok e)
  refine ⟨z,y,xs,r,o,es,ep,h1,h2,h3,h4,fun x hx=>?_,h5⟩
  have all:∀ {l:List (List Key×V)} {m:List (List Key×Addr×Value)},KT H l m→∀ x∈m,(tupleKind (Z5 P w)).is h x.1 x.2.1:=by
    intro l m q
    induction q with
    | nil=>intro x hx; exact nomatch hx
    | @cons p q ps qs hq t ih =>
      intro x hx
      rcases List.mem_cons.mp hx with e | hx
      · subst e
        exact Zkz ok (by rw [← hq.1]; exact hq.2.1)
      · exact ih x hx
  exact all r x hx
end
noncomputable def DGet (H:Hp) (a:Addr) (y:V) (r:Option V):Prop :=
  (∃ kvs k,Rd H a (.dK kvs)∧y=kV k∧r=valV kvs k)∨∃ kvs k b,Rd H a (.dT kvs)∧y = .ref b∧H b=some (.tup (k.map kV))∧r=valV kvs k
noncomputable def DPut (H:Hp) (a:Addr) (y v:V) (H':Hp):Prop :=
  (∃ kvs k,H a=some (.dK kvs)∧y=kV k∧kvs.length < sizeLine∧H' = upd H a (.dK (putK kvs k v))) ∨
  ∃ kvs k b,H a=some (.dT kvs)∧y = .ref b∧H b=some (.tup (k.map kV))∧kvs.length < sizeLine∧H' = upd H a (.dT (putK kvs k v))
theorem DGet.k {H:Hp} {a:Addr} {kvs:List (Key×V)} {k:Key} (e:H a=some (.dK kvs)):DGet H a (kV k) (valV kvs k):=.inl ⟨kvs,k,.inl e,rfl,rfl⟩
theorem DGet.t {H:Hp} {a b:Addr} {kvs:List (List Key×V)} {k:List Key} (e:H a=some (.dT kvs)) (eb:H b=some (.tup (k.map kV))):DGet H a (.ref b) (valV kvs k):=.inr ⟨kvs,k,b,.inl e,rfl,eb,rfl⟩
theorem DPut.k {H:Hp} {a:Addr} {kvs:List (Key×V)} {k:Key} {v:V} (e:H a=some (.dK kvs)) (hl:kvs.length < sizeLine):DPut H a (kV k) v (upd H a (.dK (putK kvs k v))):=.inl ⟨kvs,k,e,rfl,hl,rfl⟩
theorem DPut.t {H:Hp} {a b:Addr} {kvs:List (List Key×V)} {k:List Key} {v:V} (e:H a=some (.dT kvs)) (eb:H b=some (.tup (k.map kV))) (hl:kvs.length < sizeLine) :
    DPut H a (.ref b) v (upd H a (.dT (putK kvs k v))):=.inr ⟨kvs,k,b,e,rfl,eb,hl,rfl⟩
section
variable {X:Cx} {pins:List (Addr×Obj)} {σ:St} {H:Hp} {s:Shared} {a:Addr} {y v:V} {u r:Value} {o:Option V} {A:Around} {E:Value→Shared→Prop}
theorem Inv.big (I:Inv X pins σ H s):sysModules < s.heap.objs.size:=by
  have h:mainGlobals < s.heap.objs.size:=(I.mod.glob.keeps I.bk).lt
  exact Nat.lt_trans (by decide) h
theorem Zit {Q:Value→Shared→Prop} (hu:A.units + 1 < cLine) (I:Inv X pins σ H s) (g:DGet H a y (some v)) (ry:RelV y u) (h:∀ w' s',Inv X pins σ H s'→RelV v w'→Q w' s') :
    wpAny (model X.prog X.w) A (getItem (.ref a) u) Q E s:=by
  rcases g with ⟨kvs,k,e,ey,l⟩ | ⟨kvs,k,b,e,ey,eb,l⟩
  · subst ey
    obtain ⟨z,hd,vs,rel,dd⟩:=dk_rd I.hok e
    obtain ⟨w',hw,rw'⟩:=RelO.some_of (v:=v) (o:=valueAt vs k) (by rw [l]; exact rel.val k)
    exact wpAny_getItem_of (Zgy ry) dd.mapOf hw (h w' _ (I.tok _) rw')
  · subst ey
    cases (show u=Value.ref b from ry)
    obtain ⟨z,hd,xs,rel,dd⟩:=dt_rd I.hok e
    obtain ⟨w',hw,rw'⟩:=RelO.some_of (v:=v) (o:=(atKey xs k).map (·.2)) (by rw [l]; exact rel.val k)
    obtain ⟨p,hp,hp2⟩:=Option.map_eq_some_iff.mp hw
    refine wpAny_getItem_heap (tupleKind_room_in1 hu) (Zkz I.hok eb) dd hp ?_
    rw [hp2]
    exact h w' _ (I.tok _) rw'
theorem Zmi {h':Heap} {t':Nat} {ob:HO} (I:Inv X pins σ H s) (mu:Mut (H a)) (hs:Heap.SameBut a s.heap h') (he:∃ q,h'.get? a=some q) (new:QZ X.prog X.w (upd H a ob) h' a ob) :
    Inv X pins σ (upd H a ob) { s with heap:=h',toks:=t' } :=
  I.write (x:=a) (e:=a) mu (.inl rfl) (fun b q hb z=>(hs.2 b hb).trans z) he new
theorem dk_new {P:Program} {w:World} {H':Hp} {h':Heap} {kvs:List (Key×V)} {vs:List (Key×Value)} (z:kvs.length≤sizeLine) (hd:(a == sysModules)=false) (rel:KV kvs vs) (dd:h'.DictOf (Z5 P w) a vs) :
    QZ P w H' h' a (.dK kvs):=⟨z,hd,vs,rel,dd⟩
end
section
variable {X:Cx} {pins:List (Addr×Obj)} {σ:St} {H:Hp} {s:Shared} {a:Addr} {kvs:List (Key×V)} {k:Key} {u:Value} {A:Around} {E:Value→Shared→Prop}
end
noncomputable def NoSl (i:Expr):Prop:=∀ ov iv,subscripted i false ov iv=operate [ov,iv] (getItem ov iv)
theorem Zhc {prog:Program} {w:World} {A:Around} {E:Value→Shared→Prop} {s:Shared} {env:Env} {value slice:Expr} {pos:Pos} {T id:String} {Q:Value→Shared→Prop}
    (hl:typeLookup (.type T) "__getitem__" = pure (some (.builtin id))) (hs:NoSl slice)
    (h:wpAny (model prog w) A (eval value env) (fun o s₁=>wpAny (model prog w) A (eval slice env) (fun i s₂=>s₂.TypeIs o T∧wpAny (model prog w) A (getItem o i) Q E s₂) E s₁) E s) :
    wpAny (model prog w) A (eval (.Subscript value slice pos) env) Q E s:=by
  refine Subscript_ (wpAny_mono h (fun o s₁ h₁=>wpAny_mono h₁ (fun i s₂ h₂=>?_) fun _ _ x=>x) fun _ _ x=>x)
  obtain ⟨hT,h₂⟩:=h₂
  unfold subscriptTail
  refine wpAny_bind ?_
  rw [getitemInPython_of_ne hT.not_modules]
  refine wpAny_bind (wpAny_specialOf hT hl ?_)
  have fin:wpAny (model prog w) A (subscripted slice false o i) (fun r s₃=>wpAny (model prog w) A (letTemporaryGo value o r >>= fun _=>pure r) Q E s₃) E s₂:=by
    rw [hs o i]
    exact wpAny_operating (wpAny_mono h₂ (fun r s₃ h₃=>wpAny_bind (wpAny_letTemporaryGo (wpAny_pure h₃))) fun _ _ x=>x)
  first
    | exact wpAny_pure (wpAny_bind fin)
    | exact wpAny_bind (wpAny_pure (wpAny_bind fin))
    | exact wpAny_bind fin
theorem Ze2 {X:Cx} {pins:List (Addr×Obj)} {σ:St} {H:Hp} {s:Shared} {a:Addr} {y:V} {o:Option V} (I:Inv X pins σ H s) (g:DGet H a y o):s.TypeIs (.ref a) "dict":=by
  rcases g with ⟨kvs,k,e,_,_⟩ | ⟨kvs,k,b,e,_,_,_⟩
  · obtain ⟨_,_,vs,_,dd⟩:=dk_rd I.hok e
    exact dd.typeIs
  · obtain ⟨_,_,xs,_,dd⟩:=dt_rd I.hok e
    exact dd.typeIs
noncomputable def tDGet (td ty:TE):TE:=fun σ H Q=>td σ H fun x H1=>ty σ H1 fun y H2=>∃ a v,x = .ref a∧DGet H2 a y (some v)∧Q v H2
section
variable {X:Cx} {o i e value:Expr} {pos pos' tpos:Pos} {td ty tv:TE}
theorem Zlu (hu:X.A.units + 1 < cLine) (ho:PE X o td) (hi:PE X i ty) (hs:NoSl i):PE X (.Subscript o i pos) (tDGet td ty):=by
  intro pins s σ H Q I h
  refine Zhc PySem.F.slot_dict_getitem.lookup hs (thn (ho pins s σ H _ I h) fun u s1 ⟨x,H1,I1,rx,q1⟩=>thn (hi pins s1 σ H1 _ I1 q1) fun iv s2 ⟨y,H2,I2,ry,a,v,ex,g,q2⟩=>?_)
  subst ex
  obtain rfl:u=Value.ref a:=rx
  exact ⟨Ze2 I2 g,Zit hu I2 g ry fun w' s3 I3 rw'=>⟨v,H2,I3,rw',q2⟩⟩
end
theorem Zj5 {P:Program} {w:World} {H:Hp} (h:Heap) (hb:sysModules < h.objs.size):QZ P w H (h.push { cls:=.type "dict",data:=.dict #[] }) h.objs.size (.dK []) :=
  ⟨Nat.zero_le _,beq_eq_false_iff_ne.mpr (Ne.symm (Nat.ne_of_lt hb)),[],.nil,Heap.DictOf.new h⟩
section
variable {X:Cx} {pos:Pos}
end
noncomputable def Zfg:List (TE×TE)→St→Hp→(List (V×V)→Hp→Prop)→Prop
  | [],_,H,Q=>Q [] H
  | (tk,tv) :: r,σ,H,Q=>tk σ H fun x H1=>tv σ H1 fun y H2=>Zfg r σ H2 fun ps H3=>Q ((x,y) :: ps) H3
noncomputable abbrev VV:List (V×V)→List (Value×Value)→Prop:=Paired fun p q=>RelV p.1 q.1∧RelV p.2 q.2
noncomputable def PPs (X:Cx) (pos:Pos) (keys:List (Option Expr)) (values:List Expr) (trs:List (TE×TE)):Prop :=
  ∀ (pins:List (Addr×Obj)) (s:Shared) (σ:St) (H:Hp) (Q:List (V×V)→Hp→Prop),Inv X pins σ H s→Zfg trs σ H Q →
    wpAny (model X.prog X.w) X.A (evalPairs (pairTrees keys values X.env pos)) (fun vs s'=>∃ ps H',Inv X pins σ H' s'∧VV ps vs∧Q ps H') X.xe s
theorem Zlc {X:Cx} {pos:Pos}:PPs X pos [] [] []:=fun pins s σ H Q I h=>pairTrees_nil_walk ⟨[],H,I,.nil,h⟩
theorem Zjs {X:Cx} {pos:Pos} {k v:Expr} {ks:List (Option Expr)} {vs:List Expr} {tk tv:TE} {trs:List (TE×TE)} (hk:PE X k tk) (hv:PE X v tv) (hr:PPs X pos ks vs trs) :
    PPs X pos (some k :: ks) (v :: vs) ((tk,tv) :: trs):=fun pins s σ H Q I h =>
  pairTrees_cons_walk (thn (hk pins s σ H _ I h) fun u s1 ⟨x,H1,I1,rx,q1⟩=>thn (hv pins s1 σ H1 _ I1 q1) fun w2 s2 ⟨y,H2,I2,ry,q2⟩ =>
    thn (hr pins s2 σ H2 _ I2 q2) fun ws s3 ⟨ps,H3,I3,rel,q3⟩=>⟨(x,y) :: ps,H3,I3,.cons ⟨rx,ry⟩ rel,q3⟩)
noncomputable def ZaV (kvs more:List (Key×V)):List (Key×V):=more.foldl (fun acc kv=>putK acc kv.1 kv.2) kvs
theorem KV.merge:∀ {more:List (Key×V)} {rs:List (Key×Value)} {kvs:List (Key×V)} {vs:List (Key×Value)},KV more rs→KV kvs vs→KV (ZaV kvs more) (merged vs rs):=by
  intro more rs kvs vs r
  unfold KV at r
  induction r generalizing kvs vs with
  | nil=>intro q; exact q
  | @cons p q ps qs h t ih =>
    intro r0
    have e:KV (putK kvs p.1 p.2) (stored vs q.1 q.2):=by
      have:=r0.put p.1 h.2
      rw [← h.1]; exact this
    exact ih e
theorem Zag:∀ (more kvs:List (Key×V)),(ZaV kvs more).length≤kvs.length + more.length
  | [],kvs=>by show kvs.length≤kvs.length + 0; omega
  | p :: r,kvs=>by
    have h1:=Zag r (putK kvs p.1 p.2)
    have h2:=ZeP kvs p.1 p.2
    show (ZaV (putK kvs p.1 p.2) r).length≤_
    rw [List.length_cons]; omega
theorem ZcE {P:Program} {w:World}:∀ {kvs:List (Key×V)} {ws:List (Value×Value)},VV (kvs.map fun kv=>(kV kv.1,kv.2)) ws→∃ rs,Carries (Z5 P w) ws rs∧KV kvs rs
  | [],_,r=>by rw [List.map_nil] at r; cases r; exact ⟨[],True.intro,.nil⟩
  | p :: kvs,_,r=>by
    rw [List.map_cons] at r
    cases r with
    | @cons a b as bs h t =>
      obtain ⟨rs,c,q⟩:=ZcE (P:=P) (w:=w) t
      obtain ⟨b1,b2⟩:=b
      exact ⟨(p.1,b2) :: rs,⟨Zgy h.1,rfl,c⟩,.cons ⟨rfl,h.2⟩ q⟩
end L2
end
section
namespace Mi
open PySem PySem.Spec PyProof.Rows L2
theorem ZcV (t:SetTable) (n:Nat):(t.orStandIn n).led=t.led:=by unfold SetTable.orStandIn; split <;> rfl
theorem Zbv (t:SetTable) (n:Nat) (h:t.plain=false):(t.orStandIn n).plain=false:=by unfold SetTable.orStandIn; split <;> first | exact h | rfl
theorem Zgu (t:SetTable) (es:Array (Int×Value)) (h:Int) (x:Value):(layNew t es h x).2.1.led=t.led:=by
  unfold layNew
  split
  · exact ZcV _ _
  · rfl
theorem ZdT (t:SetTable) (es:Array (Int×Value)) (h:Int) (x:Value) (hp:t.plain=false):(layNew t es h x).2.1.plain=false:=by
  unfold layNew
  split
  · exact Zbv _ _ hp
  · rfl
theorem Zck {t t':SetTable} {hs:Array Int} {n:Nat} {o:Array Nat} (h:t.relaid hs n=some (t',o)):t'.led=t.led∧t'.plain=t.plain:=by
  unfold SetTable.relaid SetTable.laid at h
  simp only [Option.bind_eq_bind] at h
  obtain ⟨w,_,h2⟩:=Option.bind_eq_some_iff.mp h
  cases h2
  exact ⟨rfl,rfl⟩
theorem Zdv (t:SetTable) (es:Array (Int×Value)) (n:Nat):(relayAll t es n).2.1.led=t.led:=by
  unfold relayAll
  split
  · rename_i t' o h
    dsimp only
    split
    · exact (Zck h).1
    · rfl
  · rfl
theorem Zb4 (t:SetTable) (es:Array (Int×Value)) (n:Nat) (hp:t.plain=false):(relayAll t es n).2.1.plain=false:=by
  unfold relayAll
  split
  · rename_i t' o h
    dsimp only
    split
    · exact (Zck h).2.trans hp
    · rfl
  · rfl
structure SetE (prog:Program) (w:World) (led:Bool) (o:Obj) (D:List Str) (es:Array (Int×Value)) (ep:Nat) (t:SetTable):Prop where
  ex:o.ExactSet
  data:o.data = .set es ep t
  el:ElemsOf (PySem.strKind prog w) es.toList
  txs:(es.toList.map fun e=>strOf e.2).Perm D
  nd:D.Nodup
  room:es.size < scanBound
  fits:t.fits es.size=true
  led:t.led=led
  plain:es.size≠0→t.plain=false
noncomputable def SetS (prog:Program) (w:World) (led:Bool) (h:Heap) (a:Addr) (D:List Str):Prop:=∃ o es ep t,h.get? a=some o∧SetE prog w led o D es ep t
theorem ZbH {x:Str} {v:Value} (h:Value.isStrOf x v=true):strOf v=x:=by
  obtain ⟨t,rfl⟩:=Value.isStrOf_shape h
  rfl
section
variable {prog:Program} {w:World} {A:Around} {E:Value→Shared→Prop} {s:Shared} {led:Bool}
theorem Zi3 {v:Value} (h:∃ k,(PySem.strKind prog w).is k v=true):Value.isStrOf (strOf v) v=true:=by
  obtain ⟨k,hk⟩:=h
  have hk:Value.isStrOf k v=true:=hk
  rw [ZbH hk]
  exact hk
theorem Zfv {es:List (Int×Value)} (he:ElemsOf (PySem.strKind prog w) es) (k:Str):(∃ e∈es,(PySem.strKind prog w).is k e.2=true)↔k∈es.map fun e=>strOf e.2:=by
  constructor
  · rintro ⟨e,he,hk⟩
    exact List.mem_map.mpr ⟨e,he,ZbH hk⟩
  · intro h
    obtain ⟨e,hm,rfl⟩:=List.mem_map.mp h
    obtain ⟨⟨k,hk,_⟩,_⟩:=he e hm
    exact ⟨e,hm,Zi3 ⟨k,hk⟩⟩
theorem add_str {a:Addr} {D:List Str} {x:Str} {tk:Tok} {Q:Bool→Shared→Prop} (hS:SetS prog w led s.heap a D) (hroom:D.length + 1 < scanBound)
    (h:∀ h' b,Heap.SameBut a s.heap h'→SetS prog w led h' a (if x∈D then D else D++[x])→Q b { s with heap:=h' }) :
    wpAny (model prog w) A (setAddHashed a (.str x tk) (hashStr w x)) Q E s:=by
  obtain ⟨o,es,ep,t,ho,hE⟩:=hS
  have hex:=hE.ex
  have hd:=hE.data
  have hel:=hE.el
  have hf:=hE.fits
  have hkey:(PySem.strKind prog w).is x (.str x tk)=true:=by show Value.isStrOf x (.str x tk)=true; simp [Value.isStrOf]
  have hsc:(Value.str x tk).scannable=true:=rfl
  have hlen:es.size=D.length:=by rw [← hE.txs.length_eq,List.length_map,Array.length_toList]
  show wpAny (model prog w) A (setAddHashed a (.str x tk) ((PySem.strKind prog w).hash x)) Q E s
  unfold setAddHashed setAddHashedIn
  refine wpAny_holding (wpAny_bind (wpAny_setState_of ho hd hf ?_))
  dsimp only
  rw [byScan_of hsc hE.room hel]
  simp only [↓reduceIte]
  unfold setAddByScan
  refine wpAny_bind ?_
  refine wpAny_bind (wpAny_rule ?_)
  refine wpAny_bind (wpAny_setScan_of hkey ho hd hf hel ?_)
  cases hr:List.findIdx? (fun e=>(PySem.strKind prog w).is x e.2) es.toList with
  | some j =>
    dsimp only
    obtain ⟨hj,hpj,_⟩:=List.findIdx?_eq_some_iff_getElem.mp hr
    have hm:x∈D:=hE.txs.mem_iff.mp ((Zfv hel x).mp ⟨_,List.getElem_mem hj,hpj⟩)
    refine wpAny_pure (wpAny_pure ?_)
    have:=h s.heap false (Heap.SameBut.refl a s.heap) (by rw [if_pos hm]; exact ⟨o,es,ep,t,ho,hE⟩)
    exact this
  | none =>
    dsimp only
    have hm:x ∉ D:=fun hx=>by
      obtain ⟨e,he,hp⟩:=(Zfv hel x).mpr (hE.txs.mem_iff.mpr hx)
      have:=List.findIdx?_eq_none_iff.mp hr e he
      rw [hp] at this
      exact Bool.noConfusion this
    have hgw:∀ (b:Bool) (s₁:Shared) (Q':Unit→Shared→Prop),Q' () s₁→wpAny (model prog w) A (match b with | true=>rule "set.scan.the-table-gave-way" | false=>pure ()) Q' E s₁ :=
      fun b s₁ Q' hq=>by cases b <;> first | exact wpAny_pure hq | exact wpAny_rule hq
    have hperm:=layNew_perm t es ((PySem.strKind prog w).hash x) (.str x tk)
    have hfits:=layNew_fits t es ((PySem.strKind prog w).hash x) (.str x tk)
    have hled:=Zgu t es ((PySem.strKind prog w).hash x) (.str x tk)
    have hplain:=ZdT t es ((PySem.strKind prog w).hash x) (.str x tk)
    generalize hL:layNew t es ((PySem.strKind prog w).hash x) (.str x tk)=L at hperm hfits hled hplain ⊢
    obtain ⟨es1,t1,wasDummy,gave⟩:=L
    dsimp only at hperm hfits hled hplain ⊢
    rw [Array.toList_push] at hperm
    have hel1:ElemsOf (PySem.strKind prog w) es1.toList:=(hel.push hkey hsc).perm hperm
    have hsz1:es1.size=es.size + 1:=by rw [← Array.length_toList,hperm.length_eq,List.length_append,Array.length_toList]; rfl
    have hb1:es1.size < scanBound:=by omega
    have hst1:(es1.toList.map fun e=>strOf e.2).Perm (D++[x]):=by
      refine (hperm.map _).trans ?_
      rw [List.map_append]
      exact hE.txs.append_right _
    have hnd:(D++[x]).Nodup:=by
      rw [List.nodup_append]
      refine ⟨hE.nd,by simp,fun y hy z hz=>?_⟩
      rw [List.mem_singleton.mp hz]
      exact fun e=>hm (e ▸ hy)
    -- the end,at a table that is plain no more
    have fin:∀ t2:SetTable,t2.led=led→t2.plain=false→t2.fits es1.size=true→wpAny (model prog w) A (do
        storeSet a es1 t2
        if (!wasDummy && t2.tooFull)=true then do
            (match (relayAll t2 es1 (SetTable.grown es1.size)).2.2 with | true=>rule "set.scan.the-table-gave-way" | false=>pure ())
            storeSet a (relayAll t2 es1 (SetTable.grown es1.size)).1 (relayAll t2 es1 (SetTable.grown es1.size)).2.1
            pure (some true)
          else pure (some true)) (fun r s'=>match r with
            | some b=>Q b s'
            | none=>False) E s:=fun t2 hl2 hp2 hf2=>by
      have hg1:(s.heap.update a (Obj.putSet es1 t2)).get? a=some { o with data:=.set es1 (ep + 1) t2 }:=by
        have:=Heap.get?_update_self (Obj.putSet es1 t2) ho (by rw [putSet_of es1 t2 hd]; rfl)
        rw [putSet_of es1 t2 hd] at this
        exact this
      have hsb1:=Heap.SameBut.update s.heap a (Obj.putSet es1 t2)
      refine wpAny_bind (wpAny_storeSet_of ho hd ?_ (fits_of_scanBound hb1))
      split
      · have hp:=relayAll_perm t2 es1 (SetTable.grown es1.size)
        have hfr:=relayAll_fits t2 es1 (SetTable.grown es1.size)
        have hrl:=Zdv t2 es1 (SetTable.grown es1.size)
        have hrp:=Zb4 t2 es1 (SetTable.grown es1.size) hp2
        generalize relayAll t2 es1 (SetTable.grown es1.size)=Rl at hp hfr hrl hrp ⊢
        obtain ⟨es2,t3,gave2⟩:=Rl
        dsimp only at hp hfr hrl hrp ⊢
        have hsz:es2.size=es1.size:=by rw [← Array.length_toList,hp.length_eq,Array.length_toList]
        refine wpAny_bind (hgw _ _ _ ?_)
        refine wpAny_bind (wpAny_storeSet_of hg1 rfl ?_ (fits_of_scanBound (by omega)))
        have hg2:((s.heap.update a (Obj.putSet es1 t2)).update a (Obj.putSet es2 t3)).get? a=some { o with data:=.set es2 (ep + 1 + 1) t3 } :=
          Heap.get?_update_self (Obj.putSet es2 t3) hg1 rfl
        refine wpAny_pure (h _ true (hsb1.trans (Heap.SameBut.update _ a _)) ?_)
        rw [if_neg hm]
        exact ⟨_,es2,_,t3,hg2,⟨hex,rfl,hel1.perm hp,(hp.map _).trans hst1,hnd,by omega,hfr,hrl.trans hl2,fun _=>hrp⟩⟩
      · refine wpAny_pure (h _ true hsb1 ?_)
        rw [if_neg hm]
        exact ⟨_,es1,_,t2,hg1,⟨hex,rfl,hel1,hst1,hnd,hb1,hf2,hl2,fun _=>hp2⟩⟩
    refine wpAny_bind (hgw _ _ _ ?_)
    have done:∀ {r:Option Bool} {s':Shared},(match r with
        | some b=>Q b s'
        | none=>False)→wpAny (model prog w) A (match r with
          | some added=>pure added
          | none=>setAddHashedIn a (.str x tk) ((PySem.strKind prog w).hash x) 99999) Q E s':=fun {r s'} hr=>by
      cases r with
      | none=>exact hr.elim
      | some b=>exact wpAny_pure hr
    split
    · refine wpAny_bind ?_
      rw [hashByValue_scannable 8 hsc]
      refine wpAny_pure ?_
      exact wpAny_mono (fin { t1 with plain:=false } (hled.trans hE.led) rfl (SetTable.fits_plain_off hfits)) (fun r s' hr=>done hr) fun _ _ e=>e
    · rename_i hpl
      refine wpAny_bind (wpAny_pure ?_)
      simp only [↓reduceIte]
      exact wpAny_mono (fin t1 (hled.trans hE.led) (by simpa using hpl) hfits) (fun r s' hr=>done hr) fun _ _ e=>e
noncomputable def dd (val:Nat→Str):Nat→List Str
  | 0=>[]
  | i + 1=>if val i∈dd val i then dd val i else dd val i++[val i]
theorem SetS.at' {h h':Heap} {a:Addr} {D:List Str} (hS:SetS prog w led h a D) (k:∀ o,h.get? a=some o→h'.get? a=some o):SetS prog w led h' a D:=by
  obtain ⟨o,es,ep,t,ho,hE⟩:=hS
  exact ⟨o,es,ep,t,k o ho,hE⟩
set_option maxHeartbeats 3200000 in
end
end Mi
end
section
namespace PySem.F
end PySem.F
namespace Mi
open PySem PySem.Spec PyProof.Rows L2
section
variable {M:Model} {A:Around} {E:Value→Shared→Prop} {s:Shared}
end
section
variable {prog:Program} {w:World} {A:Around} {E:Value→Shared→Prop} {s:Shared}
noncomputable def Zep (h:Heap) (it a:Addr) (first:Value) (i n ep:Nat):Prop:=∃ o,h.get? it=some o∧o.cls = .type "set_iterator"∧o.data = .fields #[first,.int i 0,.ref a,.int n 0,.int ep 0]
theorem Zep.typeIs {it a:Addr} {first:Value} {i n ep:Nat} (h:Zep s.heap it a first i n ep):s.TypeIs (.ref it) "set_iterator":=let ⟨o,ho,hc,_⟩:=h; ⟨o,ho,hc⟩
end
end Mi
end
section
namespace PySem.F
end PySem.F
namespace Mi
open PySem PySem.Spec PyProof.Rows L2
section
variable {prog:Program} {w:World} {A:Around} {E:Value→Shared→Prop} {s:Shared}
theorem Zep.at' {h h':Heap} {it a:Addr} {f0:Value} {i n ep:Nat} (x:Zep h it a f0 i n ep) (k:∀ o,h.get? it=some o→h'.get? it=some o):Zep h' it a f0 i n ep:=let ⟨o,ho,r⟩:=x; ⟨o,k o ho,r⟩
inductive SetIt (w:World) (h:Heap) (it a tp:Addr) (vs:List Value) (i:Nat):Prop where
  | drawn {o:Obj} {es:Array (Int×Value)} {ep:Nat} {t:SetTable} {pl:Array Value}:Zep h it a (.ref tp) i es.size ep→h.get? a=some o→o.data = .set es ep t→t.fits es.size=true→h.IsTuple tp pl →
      (∀ (k:Nat) v,vs[k]? = some v→∃ (pp:Nat) (e:Int×Value),pl[k]? = some (.int pp 0)∧es[pp]? = some e∧e.2=v)→pl.size=vs.length→SetIt w h it a tp vs i
  | text {o:Obj} {es:Array (Int×Value)} {ep:Nat} {t:SetTable}:w.params.followText "set-order" = true→Zep h it a (.int (0:Nat) 0) i es.size ep→h.get? a=some o→o.data = .set es ep t→t.fits es.size=true →
      vs=(pickOrder (w.params.setOrder a ep) es).toList.map (·.2)→SetIt w h it a tp vs i
  | few {o:Obj} {es:Array (Int×Value)} {ep:Nat} {t:SetTable} {sl:Nat}:w.params.followText "set-order" = false→t.led=true→Zep h it a (.int sl 0) i es.size ep→h.get? a=some o→o.data = .set es ep t→t.fits es.size=true→es.size≤1 →
      vs=es.toList.map (·.2)→(i=0∧sl=0∨i=1∧es.size=1∧∃ j,t.place = #[j]∧sl=j + 1)→SetIt w h it a tp vs i
theorem SetIt.at' {h h':Heap} {it a tp:Addr} {vs:List Value} {i:Nat} (x:SetIt w h it a tp vs i) (k:∀ b∈[it,a,tp],∀ o,h.get? b=some o→h'.get? b=some o):SetIt w h' it a tp vs i:=by
  cases x with
  | drawn h1 h2 h3 h4 h5 h6 h7=>exact .drawn (h1.at' (k it (by simp))) (k a (by simp) _ h2) h3 h4 (let ⟨o,ho,r⟩:=h5; ⟨o,k tp (by simp) o ho,r⟩) h6 h7
  | text h0 h1 h2 h3 h4 h5=>exact .text h0 (h1.at' (k it (by simp))) (k a (by simp) _ h2) h3 h4 h5
  | few h0 hl h1 h2 h3 h4 h5 h6 h7=>exact .few h0 hl (h1.at' (k it (by simp))) (k a (by simp) _ h2) h3 h4 h5 h6 h7
end
end Mi
end
section
namespace Mi
open PySem
inductive T where
  | non | bl (b:Bool) | int (i:Int) | str (cs:List Nat)
  | tup (ts:List T) | lst (ts:List T)
  | dct (ks:List L2.Key) (ts:List T)
  | scr (ns:List Int)
  deriving Inhabited
inductive W where
  | t (x:T) | c (i:Nat) | f (a:Nat)
  deriving Inhabited
noncomputable abbrev Mem:=List (Option (Bool×List T))
structure Exc where
  cls:Nat
  flds:List T
inductive Res (a:Type) where
  | ok (x:a) (m:Mem) | exc (x:Exc) (m:Mem) | stuck
noncomputable def Res.bind {a b:Type} (r:Res a) (f:a→Mem→Res b):Res b:=match r with
  | .ok x m=>f x m
  | .exc x m=>.exc x m
  | .stuck=>.stuck
noncomputable abbrev Env:=List (Option W)
inductive B where
  | len | int | str | tuple | list | all | any | sum | min2 | max2 | sortset | sorted | dict | range1 | range2 | enum | zip2
  | bool | dget | din | dnot | zip4 | lenset | minl | isbis | maxl
  deriving DecidableEq
inductive Mt where
  | join | upper | append | pop | popat | insert | clear | count | get | index | split | partition | extend | reverse
  deriving DecidableEq
inductive Ty where
  | int | bool | str | tuple | list | dict
  deriving DecidableEq
inductive Tg where
  | nm (i:Nat) | tp (is:List Nat)
  deriving DecidableEq
mutual
inductive E where
  | var (i:Nat) | gl (k:Nat) | con (x:T)
  | bin (op:Operator) (a b:E) | neg (a:E) | not (a:E)
  | and (a b:E) | or (a b:E) | one (a:E)
  | cmp (op:CmpOp) (a b:E) | chn (op op':CmpOp) (a b c:E)
  | ite (c a b:E)
  | tup (es:Es) | lst (es:Es) | cel (es:Es) | celL (a:E) | celA (a b:E) | dsp (ks vs:Es)
  | ix (a b:E) | slc (a lo hi:E) | rev (a:E) | hole
  | call (f:Nat) (es:Es) | blt (b:B) (es:Es) | mth (b:Mt) (o:E) (es:Es)
  | isi (a:E) (ty:Ty)
  | comp (own:Nat) (keep:List Nat) (it:E) (tg:Tg) (cs:Es) (inner:E)
  | more (it:E) (tg:Tg) (cs:Es) (inner:E)
  | emit (a:E)
  | tr (a:E)
  | fnv (j:Nat) | callV (i:Nat) (tab:List (Nat×Nat)) (es:Es)
  | fst (es:Es) | gdg (k:Nat) (e:E) | gdn (k:Nat) (neg:Bool) (e:E) | dsn (ks:List (List Nat)) (vs:Es)
inductive Es where
  | nil | cons (e:E) (es:Es)
end
noncomputable def Ze:E→Bool
  | .hole=>true
  | _=>false
inductive S where
  | done
  | asg (i:Nat) (e:E) (k:S)
  | asgT (is:List Nat) (e:E) (k:S)
  | asgC (i:Nat) (e:E) (k:S)
  | set (o i v:E) (k:S)
  | aug (i:Nat) (op:Operator) (e:E) (k:S)
  | ife (c:E) (a b k:S)
  | forr (tg:Tg) (it:E) (body k:S)
  | whil (c:E) (body k:S)
  | ret (e:E) (k:S) | retN (k:S)
  | expr (e:E) (k:S) | pass (k:S) | brk (k:S) | cont (k:S)
  | rse (c:Nat) (es:Es) (k:S) | stk
noncomputable def lim:Nat:=1000000
noncomputable def nlt:List Nat→List Nat→Bool
  | [],[]=>false
  | [],_ :: _=>true
  | _ :: _,[]=>false
  | a :: x,b :: y=>if a < b then true else if b < a then false else nlt x y
noncomputable def b2i (b:Bool):Int:=if b then 1 else 0
mutual
noncomputable def eqT:T→T→Bool
  | .non,.non=>true
  | .bl a,.bl b=>a == b
  | .bl a,.int b=>b2i a == b
  | .int a,.bl b=>a == b2i b
  | .int a,.int b=>a == b
  | .str a,.str b=>a == b
  | .tup a,.tup b=>eqTs a b
  | .lst a,.lst b=>eqTs a b
  | _,_=>false
noncomputable def eqTs:List T→List T→Bool
  | [],[]=>true
  | a :: x,b :: y=>eqT a b && eqTs x y
  | _,_=>false
end
mutual
noncomputable def Zj:Nat→T→Bool
  | _,.non=>true
  | _,.bl _=>true
  | _,.int _=>true
  | _,.str cs=>PyData.strOk ⟨cs.toArray⟩
  | n + 1,.tup ts=>Qi n ts
  | n + 1,.lst ts=>Qi n ts
  | _,_=>false
noncomputable def Qi:Nat→List T→Bool
  | _,[]=>true
  | n,t :: ts=>Zj n t && Qi n ts
end
noncomputable def flat:T→Bool
  | .non | .bl _ | .int _ | .str _=>true
  | _=>false
mutual
noncomputable def eqok:Nat→T→Bool
  | _,.non=>true
  | _,.bl _=>true
  | _,.int _=>true
  | _,.str _=>true
  | n + 1,.tup ts=>Zme n ts
  | n + 1,.lst ts=>Zme n ts
  | _,_=>false
noncomputable def Zme:Nat→List T→Bool
  | _,[]=>true
  | n,t :: ts=>eqok n t && Zme n ts
end
noncomputable def Zcd:T→Bool
  | .non=>false
  | .bl b=>b
  | .int i=>i != 0
  | .str cs=>!cs.isEmpty
  | .tup ts=>!ts.isEmpty
  | .lst ts=>!ts.isEmpty
  | .dct ks _=>!ks.isEmpty
  | .scr ns=>!ns.isEmpty
noncomputable def ixOf (n:Nat) (i:Int):Option Nat:=if 0≤i then (if i < n then some i.toNat else none) else if -(n:Int)≤i then some (i + n).toNat else none
noncomputable def atT {a:Type} (xs:List a) (i:Int):Option a:=(ixOf xs.length i).bind fun j=>xs[j]?
noncomputable def ZgK (n d:Nat):Option Int→Nat
  | none=>d
  | some i=>if i < 0 then (i + n).toNat else min i.toNat n
noncomputable def cut {a:Type} (xs:List a) (lo hi:Option Int):List a :=
  (xs.drop (ZgK xs.length 0 lo)).take (ZgK xs.length xs.length hi - ZgK xs.length 0 lo)
noncomputable def repT {a:Type} (xs:List a) (k:Nat):List a:=(List.replicate k xs).flatten
noncomputable def bigN:Nat:=(2 ^ 250) ^ 8
noncomputable def small (i:Int):Bool:=decide (i.natAbs < 2 ^ 64)
noncomputable def Xl (i j:Int):Bool:=small i || small j || (decide (i.natAbs < bigN) && decide (j.natAbs < bigN))
noncomputable def addT:T→T→Option T
  | .int i,.int j=>some (.int (i + j))
  | .str a,.str b=>if a.length + b.length≤lim then some (.str (a++b)) else none
  | .tup a,.tup b=>if a.length + b.length≤lim then some (.tup (a++b)) else none
  | .lst a,.lst b=>if a.length + b.length≤lim then some (.lst (a++b)) else none
  | _,_=>none
noncomputable def mulT (x y:T):Option T:=match y with
  | .int k=>match x with
    | .int i=>if Xl i k then some (.int (i * k)) else none
    | .tup a=>if (-(lim:Int)≤k∧k≤lim)∧a.length * k.toNat≤lim then some (.tup (repT a k.toNat)) else none
    | .lst a=>if (-(lim:Int)≤k∧k≤lim)∧a.length * k.toNat≤lim then some (.lst (repT a k.toNat)) else none
    | .str a=>if (0≤k∧k≤64)∧a.length≤1000 then some (.str (repT a k.toNat)) else none
    | _=>none
  | _=>none
noncomputable def intT (f:Int→Int→Option T) (x y:T):Option T:=match x with
  | .int i=>match y with
    | .int j=>f i j
    | _=>none
  | _=>none
noncomputable def binT (op:Operator) (x y:T):Option T :=
  match op with
  | .Add=>addT x y
  | .Sub=>intT (fun i j=>some (.int (i - j))) x y
  | .Mult=>mulT x y
  | .FloorDiv=>intT (fun i j=>if 0 < j∧j < 1073741824 then some (.int (i / j)) else none) x y
  | .Mod=>intT (fun i j=>if 0 < j then some (.int (i % j)) else none) x y
  | .Pow=>intT (fun i j=>if 0≤j∧j≤1000∧i.natAbs < 2 ^ 64 then some (.int (i ^ j.toNat)) else none) x y
  | _=>none
noncomputable def augT (op:Operator) (x y:T):Option T :=
  match op,x,y with
  | .Add,.int i,.int j=>some (.int (i + j))
  | .Sub,.int i,.int j=>some (.int (i - j))
  | _,_,_=>none
noncomputable def Zeu (x y:T):Bool:=match x,y with
  | .bl _,.int _=>false
  | .int _,.bl _=>false
  | x,y=>flat x && flat y
noncomputable def hasT (x:T) (y:T):Option Bool :=
  match y with
  | .tup ts=>if flat x && ts.all flat then some (ts.any fun t=>eqT t x) else none
  | .lst ts=>if flat x && ts.all flat then some (ts.any fun t=>eqT t x) else if Zj 59 x && Qi 59 ts then some (ts.any fun t=>eqT t x) else none
  | _=>none
noncomputable def Za5 (f:Int→Int→Bool) (x y:T):Option Bool:=match x with
  | .int i=>match y with
    | .int j=>some (f i j)
    | _=>none
  | _=>none
noncomputable def ltT (x y:T):Option Bool:=match x with
  | .int i=>match y with
    | .int j=>some (decide (i < j))
    | _=>none
  | .str a=>match y with
    | .str b=>some (nlt a b)
    | _=>none
  | _=>none
noncomputable def inT (x y:T):Option Bool:=match x with
  | .str [a]=>match y with
    | .str b=>some (decide (a∈b))
    | y=>hasT (.str [a]) y
  | x=>hasT x y
noncomputable def sameT (x y:T):Option Bool:=match y with
  | .non=>some (match x with | .non=>true | _=>false)
  | .bl b=>some (match x with | .bl a=>a == b | _=>false)
  | _=>none
noncomputable def cmpT (op:CmpOp) (x y:T):Option Bool :=
  match op with
  | .Lt=>ltT x y
  | .LtE=>Za5 (fun i j=>decide (i≤j)) x y
  | .Gt=>Za5 (fun i j=>decide (j < i)) x y
  | .GtE=>Za5 (fun i j=>decide (j≤i)) x y
  | .Eq=>if Zeu x y || (Zj 60 x && Zj 60 y) then some (eqT x y) else none
  | .NotEq=>if Zeu x y || (Zj 60 x && Zj 60 y) then some (!eqT x y) else none
  | .In=>inT x y
  | .NotIn=>(inT x y).map (!·)
  | .Is=>sameT x y
  | .IsNot=>(sameT x y).map (!·)
noncomputable def isT (x:T) (ty:Ty):Bool :=
  match x,ty with
  | .int _,.int=>true
  | .bl _,.int=>true
  | .bl _,.bool=>true
  | .str _,.str=>true
  | .tup _,.tuple=>true
  | .lst _,.list=>true
  | .scr _,.list=>true
  | .dct _ _,.dict=>true
  | _,_=>false
noncomputable def ixT (x i:T):Option T :=
  match x,i with
  | .tup ts,.int k=>atT ts k
  | .lst ts,.int k=>atT ts k
  | .scr ns,.int k=>(atT ns k).map .int
  | .str cs,.int k=>if cs.length≤lim then (atT cs k).map fun c=>.str [c] else none
  | _,_=>none
noncomputable def slT (x:T) (lo hi:Option Int):Option T :=
  match x with
  | .tup ts=>some (.tup (cut ts lo hi))
  | .lst ts=>some (.lst (cut ts lo hi))
  | .scr ns=>some (.lst ((cut ns lo hi).map .int))
  | .str cs=>if cs.length≤lim then some (.str (cut cs lo hi)) else none
  | _=>none
noncomputable def insT (x:List Nat):List (List Nat)→List (List Nat)
  | []=>[x]
  | y :: r=>if nlt x y then x :: y :: r else if nlt y x then y :: insT x r else y :: r
noncomputable def Zhh (xs:List (List Nat)):List (List Nat):=xs.foldr insT []
noncomputable def insN (x:List Nat):List (List Nat)→List (List Nat)
  | []=>[x]
  | y :: r=>if nlt y x then y :: insN x r else x :: y :: r
noncomputable def sortN (xs:List (List Nat)):List (List Nat):=xs.foldr insN []
noncomputable def strs? : List T→Option (List (List Nat))
  | []=>some []
  | .str c :: r=>(strs? r).map (c :: ·)
  | _=>none
noncomputable def ints? : List T→Option (List Int)
  | []=>some []
  | .int c :: r=>(ints? r).map (c :: ·)
  | _=>none
noncomputable def bools? : List T→Option (List Bool)
  | []=>some []
  | .bl c :: r=>(bools? r).map (c :: ·)
  | _=>none
noncomputable def Zc (sep:List Nat):List (List Nat)→List Nat
  | []=>[]
  | [x]=>x
  | x :: r=>x++sep++Zc sep r
noncomputable def upN (c:Nat):Nat:=if 97≤c∧c≤122 then c - 32 else c
noncomputable def asciiN (c:Nat):Bool:=decide (c < 128)
noncomputable def decI (i:Int):List Nat:=(Str.ofString (toString i)).cps.toList
noncomputable def rangeT (lo:Int) (n:Nat):List T:=(List.range n).map fun k:Nat=>.int (lo + (k:Int))
noncomputable def Jh (c:Nat):List Nat→List (List Nat)
  | []=>[[]]
  | a :: r=>if a=c then [] :: Jh c r else match Jh c r with
    | x :: xs=>(a :: x) :: xs
    | []=>[[a]]
noncomputable def fmtT:T→Option (List Nat)
  | .str cs=>some cs
  | .int i=>if i.natAbs < 2 ^ 250 then some (decI i) else none
  | _=>none
noncomputable def ZfB:T→Option (List T)
  | .tup ts=>some ts
  | .lst ts=>some ts
  | .scr ns=>some (ns.map .int)
  | .str cs=>if cs.length≤lim then some (cs.map fun c=>.str [c]) else none
  | _=>none
noncomputable def view (w:W) (m:Mem):Option T:=match w with
  | .t x=>some x
  | .f _=>none
  | .c i=>match m[i]? with
    | some (some (_,ts))=>some (.lst ts)
    | _=>none
noncomputable def pur (o:Option T) (m:Mem):Res W:=match o with
  | some t=>.ok (.t t) m
  | none=>.stuck
noncomputable def frz (w:W) (m:Mem):Res T:=match w with
  | .t x=>.ok x m
  | .f _=>.stuck
  | .c i=>match m[i]? with
    | some (some (false,ts))=>.ok (.lst ts) (m.set i none)
    | _=>.stuck
noncomputable def frzs:List W→Mem→Res (List T)
  | [],m=>.ok [] m
  | w :: ws,m=>(frz w m).bind fun t m=>(frzs ws m).bind fun ts m=>.ok (t :: ts) m
noncomputable def views:List W→Mem→Option (List T)
  | [],_=>some []
  | w :: ws,m=>(view w m).bind fun t=>(views ws m).map (t :: ·)
noncomputable def Z7 (w:W) (m:Mem):Res (List T):=match w with
  | .f _=>.stuck
  | .t x=>match ZfB x with
    | some ts=>.ok ts m
    | none=>.stuck
  | .c i=>match m[i]? with
    | some (some (_,ts))=>.ok ts (m.set i (some (true,ts)))
    | _=>.stuck
noncomputable def giveBack (w:W) (m0 m:Mem):Mem:=match w with
  | .t _=>m
  | .f _=>m
  | .c i=>match m0[i]? with
    | some c=>m.set i c
    | none=>m
noncomputable def Xd (tg:Tg) (t:T) (env:Env):Option Env:=match tg with
  | .nm i=>some (env.set i (some (.t t)))
  | .tp is=>match t with
    | .tup ts=>if ts.length=is.length then some ((is.zip ts).foldl (fun env p=>env.set p.1 (some (.t p.2))) env) else none
    | _=>none
noncomputable def one1 (f:T→Option T):List T→Option T
  | [x]=>f x
  | _=>none
noncomputable def two2 (f:Int→Int→Option T):List T→Option T
  | [.int i,.int j]=>f i j
  | _=>none
noncomputable def bLen:T→Option T
  | .str cs=>if cs.length≤lim then some (.int cs.length) else none
  | .tup ts=>some (.int ts.length)
  | .lst ts=>some (.int ts.length)
  | .scr ns=>some (.int ns.length)
  | _=>none
noncomputable def figV (cs:List Nat):Int:=((cs.foldl (fun n c=>n * 10 + (c - 48)) 0:Nat):Int)
noncomputable def bInt:T→Option T
  | .int i=>some (.int i)
  | .bl b=>some (.int (b2i b))
  | .str cs=>if cs≠[]∧cs.length≤600∧cs.all (fun c=>decide (48≤c) && decide (c≤57))=true then some (.int (figV cs)) else none
  | _=>none
noncomputable def bStr:T→Option T
  | .int i=>if i.natAbs < 2 ^ 250 then some (.str (decI i)) else none
  | _=>none
noncomputable def bTup:T→Option T
  | .tup ts=>some (.tup ts)
  | .lst ts=>some (.tup ts)
  | .str cs=>if cs.length≤lim then some (.tup (cs.map fun c=>.str [c])) else none
  | _=>none
noncomputable def bLst:T→Option T
  | .tup ts=>some (.lst ts)
  | .lst ts=>some (.lst ts)
  | _=>none
noncomputable def ZeK (f:List T→Option T):T→Option T
  | .lst ts=>f ts
  | _=>none
noncomputable def bRng:T→Option T
  | .int i=>if i < 2 ^ 62∧-(2 ^ 62)≤i then some (.lst (rangeT 0 i.toNat)) else none
  | _=>none
noncomputable def zipL (xs ys:List T):List T:=List.zipWith (fun x y=>.tup [x,y]) xs ys
noncomputable def zipT:List T→Option T
  | [.tup xs,.tup ys]=>if xs.length=ys.length∧xs.length≤lim then some (.lst (zipL xs ys)) else none
  | _=>none
noncomputable def Zg2 (a b c d:List T):List T:=(a.zip (b.zip (c.zip d))).map fun p=>.tup [p.1,p.2.1,p.2.2.1,p.2.2.2]
noncomputable def zip4T:List T→Option T
  | [.lst a,.lst b,.lst c,.lst d]=>if (a.length=b.length∧a.length=c.length∧a.length=d.length)∧a.length≤lim then some (.lst (Zg2 a b c d)) else none
  | _=>none
noncomputable def ZgJ (xs:List T):List T:=List.zipWith (fun (k:Nat) x=>T.tup [.int (k:Int),x]) (List.range xs.length) xs
noncomputable def lensT (ts:List T):Option T:=(strs? ts).bind fun xs=>if xs.length < 64 then some (.int ((Zhh xs).length:Int)) else none
noncomputable def minI (n:Int) (ns:List Int):Int:=ns.foldl (fun a b=>if b < a then b else a) n
noncomputable def minlT (ts:List T):Option T:=(ints? ts).bind fun ns=>match ns with
  | []=>none
  | n :: r=>if r.length < 64 then some (.int (minI n r)) else none
noncomputable def maxI (n:Int) (ns:List Int):Int:=ns.foldl (fun a b=>if a < b then b else a) n
noncomputable def ZhX (ts:List T):Option T:=(ints? ts).bind fun ns=>match ns with
  | []=>none
  | n :: r=>if r.length < 64 then some (.int (maxI n r)) else none
noncomputable def bIsb:T→Option T
  | .bl _=>some (.bl true)
  | .int _=>some (.bl true)
  | .str _=>some (.bl true)
  | _=>none
noncomputable def keyT:T→Option L2.Key
  | .int i=>some (.inl i)
  | .str cs=>some (.inr ⟨cs.toArray⟩)
  | _=>none
noncomputable def pairs? : List T→Option (List (List Nat×T))
  | []=>some []
  | .tup [.str k,v] :: ts=>(pairs? ts).map ((k,v) :: ·)
  | _=>none
noncomputable def dctT (ps:List (List Nat×T)):T:=.dct (ps.map fun p=>.inr ⟨p.1.toArray⟩) (ps.map (·.2))
noncomputable def bDict:T→Option T
  | .tup ts=>(pairs? ts).bind fun ps=>if ts.length≤lim∧(ps.map (·.1)).Nodup then some (dctT ps) else none
  | _=>none
noncomputable def Qn (ks:List L2.Key) (ts:List T) (k:L2.Key):Option T:=((ks.zip ts).find? fun p=>decide (p.1=k)).map (·.2)
noncomputable def dGetT:List T→Option T
  | [.dct ks vs,x]=>(keyT x).bind (Qn ks vs)
  | _=>none
noncomputable def dInT (neg:Bool):List T→Option T
  | [x,.dct ks vs]=>(keyT x).map fun k=>.bl (if neg then !(Qn ks vs k).isSome else (Qn ks vs k).isSome)
  | _=>none
noncomputable def gDct (o:Option T) (f:List L2.Key→List T→Option T):Option T:=match o with
  | some (.dct ks vs)=>f ks vs
  | _=>none
noncomputable def ZlM (f:List T→Option T):T→Option T
  | .lst ts=>f ts
  | .tup ts=>f ts
  | _=>none
noncomputable def bltT (b:B) (ts:List T):Option T :=
  match b with
  | .len=>one1 bLen ts
  | .int=>one1 bInt ts
  | .str=>one1 bStr ts
  | .tuple=>one1 bTup ts
  | .list=>one1 bLst ts
  | .all=>one1 (ZlM fun ts=>(bools? ts).map fun bs=>.bl (bs.all id)) ts
  | .any=>one1 (ZlM fun ts=>(bools? ts).map fun bs=>.bl (bs.any id)) ts
  | .sum=>one1 (ZeK fun ts=>(ints? ts).map fun ns=>.int ns.sum) ts
  | .sortset=>one1 (ZeK fun ts=>(strs? ts).bind fun xs=>if xs.length < 64 then some (.lst ((Zhh xs).map .str)) else none) ts
  | .sorted=>one1 (ZeK fun ts=>(strs? ts).bind fun xs=>if xs.length < 64 then some (.lst ((sortN xs).map .str)) else none) ts
  | .min2=>two2 (fun i j=>some (.int (if j < i then j else i))) ts
  | .max2=>two2 (fun i j=>some (.int (if j > i then j else i))) ts
  | .range1=>one1 bRng ts
  | .zip2=>zipT ts
  | .dict=>one1 bDict ts
  | .zip4=>zip4T ts
  | .enum=>one1 (ZeK fun ts=>if ts.length≤lim then some (.lst (ZgJ ts)) else none) ts
  | .lenset=>one1 (ZlM lensT) ts
  | .minl=>one1 (ZeK minlT) ts
  | .maxl=>one1 (ZeK ZhX) ts
  | .isbis=>one1 bIsb ts
  | .dget=>dGetT ts
  | .din=>dInT false ts
  | .dnot=>dInT true ts
  | .range2=>two2 (fun i j=>if (i < 2 ^ 62∧-(2 ^ 62)≤i)∧j < 2 ^ 62∧-(2 ^ 62)≤j then some (.lst (rangeT i (j - i).toNat)) else none) ts
  | _=>none
noncomputable def ofBl (f:Bool→Option T):T→Option T
  | .bl b=>f b
  | _=>none
noncomputable def idxT (xs:List T) (b:Bool):Option T:=(bools? xs).bind fun bs=>if bs.length≤lim then (bs.findIdx? (· == b)).map fun k=>.int (k:Int) else none
noncomputable def cntT (xs:List T) (b:Bool):Option T:=(bools? xs).bind fun bs=>if bs.length≤lim then some (.int ((bs.countP (· == b):Nat):Int)) else none
noncomputable def mthT (b:Mt) (o:T) (ts:List T):Option T :=
  match b with
  | .join=>match o with
    | .str sep=>one1 (ZeK fun xs=>(strs? xs).bind fun ys=>if (ys.map List.length).sum + ys.length * sep.length≤lim then some (.str (Zc sep ys)) else none) ts
    | _=>none
  | .index=>match o with
    | .lst xs=>one1 (ofBl (idxT xs)) ts
    | _=>none
  | .count=>match o with
    | .lst xs=>one1 (ofBl (cntT xs)) ts
    | _=>none
  | .get=>match o with
    | .dct ks vs=>one1 (fun x=>(keyT x).map fun k=>(Qn ks vs k).getD .non) ts
    | _=>none
  | .split=>match o with
    | .str cs=>match ts with
      | [.str [c]]=>if cs.length≤900000 then some (.lst ((Jh c cs).map .str)) else none
      | _=>none
    | _=>none
  | .upper=>match o with
    | .str cs=>match ts with
      | []=>if cs.all asciiN && decide (cs.length≤lim) then some (.str (cs.map upN)) else none
      | _=>none
    | _=>none
  | _=>none
noncomputable def mutM (b:Mt) (xs:List T) (ts:List T):Option (T×List T) :=
  match b,ts with
  | .append,[t]=>if xs.length < lim then some (.non,xs++[t]) else none
  | .popat,[.int i]=>match ixOf xs.length i with
    | some k=>(xs[k]?).map fun t=>(t,xs.eraseIdx k)
    | none=>none
  | .pop,[]=>match xs.getLast? with
    | some t=>some (t,xs.dropLast)
    | none=>none
  | _,_=>none
noncomputable def doM (b:Mt) (o:W) (ws:List W) (m:Mem):Res W:=match b with
  | .append | .pop | .popat | .insert | .clear | .extend | .reverse=>match o with
    | .c i=>(frzs ws m).bind fun ts m=>match m[i]? with
      | some (some (false,xs))=>match mutM b xs ts with
        | some (t,ys)=>.ok (.t t) (m.set i (some (false,ys)))
        | none=>.stuck
      | _=>.stuck
    | .t _=>.stuck
    | .f _=>.stuck
  | _=>pur ((view o m).bind fun x=>(views ws m).bind fun ts=>mthT b x ts) m
noncomputable def addC (x y:W) (m:Mem):Res W:=match (view x m).bind fun x=>(view y m).bind fun y=>addT x y with
  | some (.lst ts)=>.ok (.c m.length) (m++[some (false,ts)])
  | _=>.stuck
noncomputable def setM (o i v:W) (m:Mem):Res Unit:=match o,i with
  | .c c,.t (.int k)=>(frz v m).bind fun t m=>match m[c]? with
    | some (some (false,xs))=>match ixOf xs.length k with
      | some j=>.ok () (m.set c (some (false,xs.set j t)))
      | none=>.stuck
    | _=>.stuck
  | _,_=>.stuck
noncomputable def intP (w:W) (m:Mem):Res (Option Int):=match w with
  | .t (.int i)=>.ok (some i) m
  | _=>.stuck
noncomputable def dspT (ks vs:List W) (m:Mem):Res W:=match ks,vs with
  | [],[]=>.ok (.t (.dct [] [])) m
  | [.t k],[.t v]=>match keyT k with
    | some kk=>.ok (.t (.dct [kk] [v])) m
    | none=>.stuck
  | _,_=>.stuck
noncomputable def tyM (b:Mt) (w:W) (m:Mem):Bool:=match b with
  | .join | .upper | .split | .partition=>match view w m with
    | some (.str _)=>true
    | _=>false
  | .append | .pop | .popat | .insert | .clear | .extend | .reverse=>match w with
    | .c i=>match m[i]? with
      | some (some _)=>true
      | _=>false
    | _=>false
  | .count | .index=>match view w m with
    | some (.lst _)=>true
    | _=>false
  | .get=>match view w m with
    | some (.dct _ _)=>true
    | _=>false
noncomputable def JH (f:Env→Mem→Res (List T)) (tg:Tg):List T→Env→Mem→Res (List T)
  | [],_,m=>.ok [] m
  | t :: ts,env,m=>match Xd tg t env with
    | none=>.stuck
    | some env'=>(f env' m).bind fun xs m=>(JH f tg ts env m).bind fun ys m=>.ok (xs++ys) m
noncomputable def Res.only {a:Type} (r:Res a):Res a:=match r with
  | .exc _ _=>.stuck
  | r=>r
inductive Flow where
  | next (env:Env) | ret (w:W) | brk (env:Env) | cont (env:Env)
noncomputable def QT (f:Env→Mem→Res Flow) (tg:Tg):List T→Env→Mem→Res Flow
  | [],env,m=>.ok (.next env) m
  | t :: ts,env,m=>match Xd tg t env with
    | none=>.stuck
    | some env=>(f env m).bind fun fl m=>match fl with
      | .next env=>QT f tg ts env m
      | .cont env=>QT f tg ts env m
      | .brk env=>.ok (.next env) m
      | .ret w=>.ok (.ret w) m
noncomputable def Jg (c:Env→Mem→Res Bool) (f:Env→Mem→Res Flow):Nat→Env→Mem→Res Flow
  | 0,_,_=>.stuck
  | n + 1,env,m=>(c env m).bind fun b m=>if b then (f env m).bind fun fl m=>match fl with
      | .next env=>Jg c f n env m
      | .cont env=>Jg c f n env m
      | .brk env=>.ok (.next env) m
      | .ret w=>.ok (.ret w) m
    else .ok (.next env) m
noncomputable def turns:Nat:=1000000
noncomputable def fitT:T→Bool
  | .str cs=>decide (cs.length≤lim)
  | _=>true
noncomputable def Qm (w:W) (m:Mem):Res Bool:=match view w m with
  | some t=>if fitT t then .ok (Zcd t) m else .stuck
  | none=>.stuck
noncomputable def Zb0 (w:W) (m:Mem):Res Bool:=match w with
  | .t (.bl b)=>.ok b m
  | _=>.stuck
noncomputable def Zdd (w:W) (m:Mem):Res (List T):=match w with
  | .t (.lst ts)=>.ok ts m
  | _=>.stuck
noncomputable def fmtW (acc:List Nat) (w:W) (m:Mem):Res (List Nat):=match (view w m).bind fmtT with
  | some a=>if acc.length + a.length≤lim then .ok (acc++a) m else .stuck
  | none=>.stuck
noncomputable def treeW (w:W) (m:Mem):Res W:=match w with
  | .t x=>.ok (.t x) m
  | .c _=>.stuck
  | .f _=>.stuck
noncomputable def Zh0 (gv:List T) (a:Nat):List (Nat×Nat)→Option Nat
  | []=>none
  | (j,k) :: r=>match gv[j]? with
    | some (.int b)=>if b=(a:Int) then some k else Zh0 gv a r
    | _=>Zh0 gv a r
section
variable (call:Nat→List W→Mem→Res W) (gv:List T)
mutual
noncomputable def ev:E→Env→Mem→Res W
  | .var i,env,m=>match env[i]? with
    | some (some w)=>.ok w m
    | _=>.stuck
  | .gl k,_,m=>pur gv[k]? m
  | .con t,_,m=>.ok (.t t) m
  | .bin op a b,env,m=>(ev a env m).bind fun x m=>(ev b env m).bind fun y m=>pur ((view x m).bind fun x=>(view y m).bind fun y=>binT op x y) m
  | .neg a,env,m=>(ev a env m).bind fun x m=>pur ((view x m).bind fun x=>match x with
    | .int i=>some (.int (-i))
    | _=>none) m
  | .not a,env,m=>(ev a env m).bind fun x m=>(Zb0 x m).bind fun k m=>.ok (.t (.bl (!k))) m
  | .and a b,env,m=>(ev a env m).bind fun x m=>(Zb0 x m).bind fun k m=>if k then ev b env m else .ok (.t (.bl false)) m
  | .or a b,env,m=>(ev a env m).bind fun x m=>(Zb0 x m).bind fun k m=>if k then .ok (.t (.bl true)) m else ev b env m
  | .one a,env,m=>ev a env m
  | .cmp op a b,env,m=>(ev a env m).bind fun x m=>(ev b env m).bind fun y m=>pur (((view x m).bind fun x=>(view y m).bind fun y=>cmpT op x y).map .bl) m
  | .chn op op' a b c,env,m=>(ev a env m).bind fun x m=>(ev b env m).bind fun y m =>
      match (view x m).bind fun x=>(view y m).bind fun y=>cmpT op x y with
      | some true=>(ev c env m).bind fun z m=>pur (((view y m).bind fun y=>(view z m).bind fun z=>cmpT op' y z).map .bl) m
      | some false=>.ok (.t (.bl false)) m
      | none=>.stuck
  | .ite c a b,env,m=>(ev c env m).bind fun x m=>(Qm x m).bind fun k m=>if k then ev a env m else ev b env m
  | .tup es,env,m=>(evs es env m).bind fun ws m=>(frzs ws m).bind fun ts m=>if ts.length≤lim then .ok (.t (.tup ts)) m else .stuck
  | .lst es,env,m=>(evs es env m).bind fun ws m=>(frzs ws m).bind fun ts m=>if ts.length≤lim then .ok (.t (.lst ts)) m else .stuck
  | .cel es,env,m=>(evs es env m).bind fun ws m=>(frzs ws m).bind fun ts m=>if ts.length≤lim then .ok (.c m.length) (m++[some (false,ts)]) else .stuck
  | .celL a,env,m=>(ev a env m).bind fun x m=>match view x m with
    | some (.lst ts)=>.ok (.c m.length) (m++[some (false,ts)])
    | some (.tup ts)=>.ok (.c m.length) (m++[some (false,ts)])
    | _=>.stuck
  | .celA a b,env,m=>(ev a env m).bind fun x m=>(ev b env m).bind fun y m=>addC x y m
  | .dsp ks vs,env,m=>(evs ks env m).bind fun kw m=>(evs vs env m).bind fun vw m=>dspT kw vw m
  | .ix a b,env,m=>(ev a env m).bind fun x m=>(ev b env m).bind fun y m=>pur ((view x m).bind fun x=>(view y m).bind fun y=>ixT x y) m
  | .slc a lo hi,env,m=>(ev a env m).bind fun x m=>(if Ze lo then Res.ok none m else (ev lo env m).bind intP).bind fun l m =>
      (if Ze hi then Res.ok none m else (ev hi env m).bind intP).bind fun h m=>pur ((view x m).bind fun x=>slT x l h) m
  | .hole,_,m=>.ok (.t .non) m
  | .rev a,env,m=>(ev a env m).bind fun x m=>pur ((view x m).bind fun x=>match x with
    | .tup ts=>some (.tup ts.reverse)
    | .lst ts=>some (.lst ts.reverse)
    | _=>none) m
  | .call f es,env,m=>(evs es env m).bind fun ws m=>call f ws m
  | .blt b es,env,m=>(evs es env m).bind fun ws m=>pur ((views ws m).bind fun ts=>bltT b ts) m
  | .mth b o es,env,m=>(ev o env m).bind fun x m=>if tyM b x m then (evs es env m).bind fun ws m=>doM b x ws m else .stuck
  | .isi a ty,env,m=>(ev a env m).bind fun x m=>pur ((view x m).map fun x=>.bl (isT x ty)) m
  | .comp own keep it tg cs inner,env,m=>(ev it env m).only.bind fun x m0=>(Z7 x m0).bind fun ts m =>
      (JH (fun env m=>(tests cs env m).bind fun k m=>if k then (ev inner env m).bind Zdd else .ok [] m) tg ts (List.replicate own none++keep.map fun i=>(env[i]?).join) m).only.bind fun out m =>
        if out.length≤lim then .ok (.t (.lst out)) (giveBack x m0 m) else .stuck
  | .more it tg cs inner,env,m=>(ev it env m).bind fun x m0=>(Z7 x m0).bind fun ts m =>
      (JH (fun env m=>(tests cs env m).bind fun k m=>if k then (ev inner env m).bind Zdd else .ok [] m) tg ts env m).bind fun out m=>.ok (.t (.lst out)) (giveBack x m0 m)
  | .emit a,env,m=>(ev a env m).bind fun x m=>(frz x m).bind fun t m=>.ok (.t (.lst [t])) m
  | .tr a,env,m=>(ev a env m).bind treeW
  | .fnv j,_,m=>match gv[j]? with
    | some (.int a)=>.ok (.f a.toNat) m
    | _=>.stuck
  | .callV i tab es,env,m=>match env[i]? with
    | some (some (.f a))=>match Zh0 gv a tab with
      | some k=>(evs es env m).bind fun ws m=>call k ws m
      | none=>.stuck
    | _=>.stuck
  | .fst es,env,m=>(evf es [] env m).bind fun cs m=>.ok (.t (.str cs)) m
  | .gdg k e,env,m=>(ev e env m).bind fun x m=>pur ((view x m).bind fun x=>gDct gv[k]? fun ks vs=>(keyT x).bind (Qn ks vs)) m
  | .gdn k neg e,env,m=>(ev e env m).bind fun x m=>pur ((view x m).bind fun x=>gDct gv[k]? fun ks vs=>(keyT x).map fun k=>.bl (if neg then !(Qn ks vs k).isSome else (Qn ks vs k).isSome)) m
  | .dsn ks vs,env,m=>(evs vs env m).bind fun ws m=>(frzs ws m).bind fun ts m=>if ks.length=ts.length∧ks.length≤1000∧ks.Nodup then .ok (.t (.dct (ks.map fun k=>.inr ⟨k.toArray⟩) ts)) m else .stuck
noncomputable def evs:Es→Env→Mem→Res (List W)
  | .nil,_,m=>.ok [] m
  | .cons e es,env,m=>(ev e env m).bind fun w m=>(evs es env m).bind fun ws m=>.ok (w :: ws) m
noncomputable def evf:Es→List Nat→Env→Mem→Res (List Nat)
  | .nil,acc,_,m=>.ok acc m
  | .cons e es,acc,env,m=>(ev e env m).bind fun w m=>(fmtW acc w m).bind fun acc m=>evf es acc env m
noncomputable def tests:Es→Env→Mem→Res Bool
  | .nil,_,m=>.ok true m
  | .cons e es,env,m=>(ev e env m).bind fun x m=>(Qm x m).bind fun k m=>if k then tests es env m else .ok false m
end
noncomputable def ex:S→Env→Mem→Res Flow
  | .done,env,m=>.ok (.next env) m
  | .asg i e k,env,m=>(ev call gv e env m).bind fun w m=>ex k (env.set i (some w)) m
  | .asgT is e k,env,m=>(ev call gv e env m).bind fun w m=>match w with
    | .t t=>match Xd (.tp is) t env with
      | some env=>ex k env m
      | none=>.stuck
    | .c _=>.stuck
    | .f _=>.stuck
  | .asgC i e k,env,m=>(ev call gv e env m).bind fun w m=>match w with
    | .t (.lst ts)=>ex k (env.set i (some (.c m.length))) (m++[some (false,ts)])
    | _=>.stuck
  | .set o i v k,env,m=>(ev call gv v env m).bind fun z m=>(ev call gv o env m).bind fun x m=>(ev call gv i env m).bind fun y m =>
      (setM x y z m).bind fun _ m=>ex k env m
  | .aug i op e k,env,m=>match env[i]? with
    | some (some x)=>(ev call gv e env m).bind fun y m=>(pur ((view x m).bind fun x=>(view y m).bind fun y=>augT op x y) m).bind fun z m=>ex k (env.set i (some z)) m
    | _=>.stuck
  | .ife c a b k,env,m=>(ev call gv c env m).bind fun x m=>(Qm x m).bind fun t m =>
      (if t then ex a env m else ex b env m).bind fun fl m=>match fl with
        | .next env=>ex k env m
        | fl=>.ok fl m
  | .forr tg it body k,env,m=>(ev call gv it env m).bind fun x m0=>(Z7 x m0).bind fun ts m =>
      (QT (fun env m=>ex body env m) tg ts env m).bind fun fl m=>match fl with
        | .next env=>ex k env (giveBack x m0 m)
        | .ret w=>.ok (.ret w) (giveBack x m0 m)
        | _=>.stuck
  | .whil c body k,env,m=>(Jg (fun env m=>(ev call gv c env m).bind Qm) (fun env m=>ex body env m) turns env m).bind fun fl m=>match fl with
        | .next env=>ex k env m
        | fl=>.ok fl m
  | .ret e _,env,m=>(ev call gv e env m).bind fun w m=>.ok (.ret w) m
  | .retN _,_,m=>.ok (.ret (.t .non)) m
  | .expr e k,env,m=>(ev call gv e env m).bind fun _ m=>ex k env m
  | .pass k,env,m=>ex k env m
  | .brk _,env,m=>.ok (.brk env) m
  | .cont _,env,m=>.ok (.cont env) m
  | .stk,_,_=>.stuck
  | .rse c es _,env,m=>(evs call gv es env m).bind fun ws m=>(frzs ws m).bind fun ts m=>.exc ⟨c,ts⟩ m
end
structure Fn where
  ps:Nat
  n:Nat
  body:S
  cell:Bool:=false
noncomputable def fin (n:Nat) (cell:Bool) (fl:Flow) (m:Mem):Res W:=match fl with
  | .ret (.t t)=>.ok (.t t) (m.take n)
  | .ret (.c i)=>if i < n then .ok (.c i) (m.take n) else match m[i]? with
    | some (some (false,ts))=>if cell then .ok (.c n) (m.take n++[some (false,ts)]) else .ok (.t (.lst ts)) (m.take n)
    | _=>.stuck
  | .next _=>.ok (.t .non) (m.take n)
  | _=>.stuck
noncomputable def ZR (fns:List Fn) (gv:List T):Nat→Nat→List W→Mem→Res W
  | 0,_,_,_=>.stuck
  | n + 1,f,ws,m=>match fns[f]? with
    | none=>.stuck
    | some d=>if ws.length=d.ps then (ex (ZR fns gv n) gv d.body (ws.map some++List.replicate (d.n - d.ps) none) m).bind fun fl m'=>fin m.length d.cell fl m' else .stuck
end Mi
end
section
namespace Mi
open PySem L2
section
variable (K:PySem.W.Frag)
noncomputable def Zt (cm:List Addr) (m:Mem) (a:Addr):Prop:=∀ (i:Nat) p,m[i]? = some (some p)→cm[i]?≠some a
noncomputable def Zeo (H:Hp) (a:Addr) (ns:List Int):Prop:=(∃ o,H a=some (.frz o (.lst (ns.map V.int)))) ∨
    ∃ (o:Obj) (its:Array Value) (n:Nat),K.lookup a=some o∧o.cls = .type "list"∧o.dict=none∧o.data = .seq its n∧its.size≤sizeLine∧Vals (ns.map V.int) its.toList
inductive RT (cm:List Addr) (m:Mem) (H:Hp):T→V→Prop where
  | non:RT cm m H .non .non
  | bl (b:Bool):RT cm m H (.bl b) (.bl b)
  | int (i:Int):RT cm m H (.int i) (.int i)
  | str (cs:List Nat):RT cm m H (.str cs) (.str ⟨cs.toArray⟩)
  | tup {a:Addr} {ts:List T} {vs:List V}:SqT K H a vs→ts.length=vs.length→(∀ (i:Nat) t v,ts[i]? = some t→vs[i]? = some v→RT cm m H t v)→RT cm m H (.tup ts) (.ref a)
  | lst {a:Addr} {ts:List T} {vs:List V}:H a=some (.lst vs)→Zt cm m a→ts.length=vs.length→(∀ (i:Nat) t v,ts[i]? = some t→vs[i]? = some v→RT cm m H t v)→RT cm m H (.lst ts) (.ref a)
  | dct {a:Addr} {ks:List Key} {ts:List T} {vs:List V}:H a=some (.dK (ks.zip vs))→Zt cm m a→ks.length=vs.length→ts.length=vs.length →
      (∀ (i:Nat) t v,ts[i]? = some t→vs[i]? = some v→RT cm m H t v)→RT cm m H (.dct ks ts) (.ref a)
  | scr {a:Addr} (ns:List Int):Zeo K H a ns→RT cm m H (.scr ns) (.ref a)
noncomputable abbrev RTs (cm:List Addr) (m:Mem) (H:Hp) (ts:List T) (vs:List V):Prop:=Paired (RT K cm m H) ts vs
noncomputable def RW (cm:List Addr) (m:Mem) (H:Hp):W→V→Prop
  | .t x,v=>RT K cm m H x v
  | .c i,v=>∃ a,cm[i]? = some a∧v = .ref a
  | .f a,v=>v = .ref a
noncomputable abbrev RWs (cm:List Addr) (m:Mem) (H:Hp) (ws:List W) (vs:List V):Prop:=Paired (RW K cm m H) ws vs
structure MemR (cm:List Addr) (m:Mem) (H:Hp):Prop where
  len:cm.length=m.length
  inj:∀ (i j:Nat) a p q,m[i]? = some (some p)→m[j]? = some (some q)→cm[i]? = some a→cm[j]? = some a→i=j
  at':∀ (i:Nat) p,m[i]? = some (some p)→∃ a vs,cm[i]? = some a∧H a=some (.lst vs)∧K.lookup a=none∧RTs K cm m H p.2 vs
noncomputable def EnvR (cm:List Addr) (m:Mem) (H:Hp) (env:Env) (σ:L2.St):Prop:=∀ (i:Nat) w,env[i]? = some (some w)→∃ v,σ[i]? = some (some v)∧RW K cm m H w v
structure Ext (cm:List Addr) (m:Mem) (H:Hp) (cm':List Addr) (m':Mem) (H':Hp):Prop where
  pre:∀ (i:Nat) a,cm[i]? = some a→cm'[i]? = some a
  len:m.length≤m'.length
  lent:∀ (i:Nat) ts,m[i]? = some (some (true,ts))→m'[i]? = some (some (true,ts))
  keep:∀ a o,H a=some o→Zt cm m a→H' a=some o∧Zt cm' m' a
end
section
variable {K:PySem.W.Frag} {cm cm' cm'':List Addr} {m m' m'':Mem} {H H' H'':Hp}
theorem Zae {α β:Type} {F:α→β→Prop}:∀ {xs:List α} {ys:List β},xs.length=ys.length→(∀ (i:Nat) x y,xs[i]? = some x→ys[i]? = some y→F x y)→Paired F xs ys
  | [],[],_,_=>.nil
  | x :: xs,y :: ys,hl,h=>.cons (h 0 x y rfl rfl) (Zae (by simpa using hl) fun i a b ha hb=>h (i + 1) a b (by simpa using ha) (by simpa using hb))
  | [],_ :: _,hl,_=>by simp at hl
  | _ :: _,[],hl,_=>by simp at hl
theorem Jp {α β:Type} {F:α→β→Prop}:∀ {xs:List α} {ys:List β},Paired F xs ys→∀ (i:Nat) x y,xs[i]? = some x→ys[i]? = some y→F x y
  | _,_,.nil,i,x,y,h,_=>by simp at h
  | _,_,.cons r t,0,x,y,h1,h2=>by simp at h1 h2; subst h1; subst h2; exact r
  | _,_,.cons r t,i + 1,x,y,h1,h2=>Jp t i x y (by simpa using h1) (by simpa using h2)
theorem ZS {α β:Type} {F:α→β→Prop} {xs:List α} {ys:List β} (h:Paired F xs ys) {i:Nat} {x:α} (hx:xs[i]? = some x):∃ y,ys[i]? = some y∧F x y:=by
  have hl:=h.length
  have hi:=(List.getElem?_eq_some_iff.mp hx).1
  have hy:ys[i]? = some (ys[i]'(by omega)):=List.getElem?_eq_getElem (by omega)
  exact ⟨_,hy,Jp h i _ _ hx hy⟩
theorem Qt {α β:Type} {F:α→β→Prop}:∀ {xs xs':List α} {ys ys':List β},Paired F xs ys→Paired F xs' ys'→Paired F (xs++xs') (ys++ys')
  | _,_,_,_,.nil,h=>h
  | _,_,_,_,.cons r t,h=>.cons r (Qt t h)
theorem Zbt {α β:Type} {F:α→β→Prop}:∀ {xs:List α} {ys:List β} (n:Nat),Paired F xs ys→Paired F (xs.take n) (ys.take n)
  | _,_,0,_=>.nil
  | _,_,_ + 1,.nil=>.nil
  | _,_,n + 1,.cons r t=>.cons r (Zbt n t)
theorem Zbu {α β:Type} {F:α→β→Prop}:∀ {xs:List α} {ys:List β} (n:Nat),Paired F xs ys→Paired F (xs.drop n) (ys.drop n)
  | _,_,0,r=>r
  | _,_,_ + 1,.nil=>.nil
  | _,_,n + 1,.cons _ t=>Zbu n t
theorem Zcl {α β:Type} {F:α→β→Prop} {x:α} {y:β} (r:F x y):∀ {xs:List α} {ys:List β} (i:Nat),Paired F xs ys→Paired F (xs.set i x) (ys.set i y)
  | _,_,_,.nil=>.nil
  | _,_,0,.cons _ t=>.cons r t
  | _,_,i + 1,.cons q t=>.cons q (Zcl r i t)
theorem Zn {α β:Type} {F G:α→β→Prop} (f:∀ a b,F a b→G a b) {xs:List α} {ys:List β} (h:Paired F xs ys):Paired G xs ys:=L2.Paired.mapP h f
theorem RT.mtup {a:Addr} {ts:List T} {vs:List V} (h:SqT K H a vs) (r:RTs K cm m H ts vs):RT K cm m H (.tup ts) (.ref a):=.tup h r.length fun i t v h1 h2=>Jp r i t v h1 h2
theorem RT.mlst {a:Addr} {ts:List T} {vs:List V} (h:H a=some (.lst vs)) (n:Zt cm m a) (r:RTs K cm m H ts vs):RT K cm m H (.lst ts) (.ref a):=.lst h n r.length fun i t v h1 h2=>Jp r i t v h1 h2
theorem RT.itup {ts:List T} {v:V} (h:RT K cm m H (.tup ts) v):∃ a vs,v = .ref a∧SqT K H a vs∧RTs K cm m H ts vs:=by
  cases h with
  | tup h1 h2 h3=>exact ⟨_,_,rfl,h1,Zae h2 h3⟩
theorem RT.ilst {ts:List T} {v:V} (h:RT K cm m H (.lst ts) v):∃ a vs,v = .ref a∧H a=some (.lst vs)∧Zt cm m a∧RTs K cm m H ts vs:=by
  cases h with
  | lst h1 h2 h3 h4=>exact ⟨_,_,rfl,h1,h2,Zae h3 h4⟩
theorem MemR.notK (M:MemR K cm m H) {a:Addr} {o:Obj} (h:K.lookup a=some o):Zt cm m a:=fun i ts e z=>by
  obtain ⟨b,vs,h1,_,h3,_⟩:=M.at' i ts e
  rw [h1] at z; cases z
  rw [h3] at h; cases h
theorem Ext.rd (x:Ext cm m H cm' m' H') {a:Addr} {u:HO} (h:Rd H a u) (n:Zt cm m a):Rd H' a u∧Zt cm' m' a:=by
  rcases h with h | ⟨o,h⟩
  · exact ⟨.inl (x.keep a _ h n).1,(x.keep a _ h n).2⟩
  · exact ⟨.inr ⟨o,(x.keep a _ h n).1⟩,(x.keep a _ h n).2⟩
theorem XX (M:MemR K cm m H) {a:Addr} {o:HO} (h:H a=some o) (hn:∀ vs,o≠.lst vs):Zt cm m a:=fun i ts e z=>by
  obtain ⟨b,vs,h1,h2,_,_⟩:=M.at' i ts e
  rw [h1] at z; cases z
  rw [h2] at h; cases h
  exact hn _ rfl
theorem Ext.sqT (x:Ext cm m H cm' m' H') (M:MemR K cm m H) {a:Addr} {vs:List V} (h:SqT K H a vs):SqT K H' a vs:=by
  rcases h with (h | ⟨o,h⟩) | h
  · exact .inl (.inl (x.keep a _ h (XX M h (fun _ z=>by cases z))).1)
  · exact .inl (.inr ⟨o,(x.keep a _ h (XX M h (fun _ z=>by cases z))).1⟩)
  · exact .inr h
theorem Ext.scr (x:Ext cm m H cm' m' H') (M:MemR K cm m H) {a:Addr} {ns:List Int} (h:Zeo K H a ns):Zeo K H' a ns:=by
  rcases h with ⟨o,h⟩ | h
  · exact .inl ⟨o,(x.keep a _ h (XX M h (fun _ z=>by cases z))).1⟩
  · exact .inr h
theorem Zeo.sq {a:Addr} {ns:List Int} (h:Zeo K H a ns):SqL K H a (ns.map V.int):=by
  rcases h with ⟨o,h⟩ | h
  · exact .inl (.inr ⟨o,h⟩)
  · exact .inr h
theorem RT.ext (x:Ext cm m H cm' m' H') (M:MemR K cm m H) (M':MemR K cm' m' H') {t:T} {v:V} (h:RT K cm m H t v):RT K cm' m' H' t v:=by
  induction h with
  | non=>exact .non
  | bl b=>exact .bl b
  | int i=>exact .int i
  | str cs=>exact .str cs
  | tup h1 h2 _ ih=>exact .tup (x.sqT M h1) h2 ih
  | lst h1 h2 h3 _ ih=>exact .lst (x.keep _ _ h1 h2).1 (x.keep _ _ h1 h2).2 h3 ih
  | scr ns h=>exact .scr ns (x.scr M h)
  | dct h1 h2 h3 h4 _ ih=>exact .dct (x.keep _ _ h1 h2).1 (x.keep _ _ h1 h2).2 h3 h4 ih
theorem RTs.ext (x:Ext cm m H cm' m' H') (M:MemR K cm m H) (M':MemR K cm' m' H') {ts:List T} {vs:List V} (h:RTs K cm m H ts vs):RTs K cm' m' H' ts vs:=Zn (fun _ _ z=>z.ext x M M') h
theorem RW.ext (x:Ext cm m H cm' m' H') (M:MemR K cm m H) (M':MemR K cm' m' H') {w:W} {v:V} (h:RW K cm m H w v):RW K cm' m' H' w v:=by
  cases w with
  | t t=>exact RT.ext x M M' h
  | c i=>obtain ⟨a,h1,h2⟩:=h; exact ⟨a,x.pre i a h1,h2⟩
  | f a=>exact h
theorem RWs.ext (x:Ext cm m H cm' m' H') (M:MemR K cm m H) (M':MemR K cm' m' H') {ws:List W} {vs:List V} (h:RWs K cm m H ws vs):RWs K cm' m' H' ws vs:=Zn (fun _ _ z=>RW.ext x M M' z) h
theorem EnvR.ext (x:Ext cm m H cm' m' H') (M:MemR K cm m H) (M':MemR K cm' m' H') {env:Env} {σ:L2.St} (h:EnvR K cm m H env σ):EnvR K cm' m' H' env σ:=fun i w e=>by
  obtain ⟨v,h1,h2⟩:=h i w e
  exact ⟨v,h1,h2.ext x M M'⟩
theorem Ext.refl:Ext cm m H cm m H:=⟨fun _ _ h=>h,Nat.le_refl _,fun _ _ h=>h,fun _ _ h n=>⟨h,n⟩⟩
theorem Ext.trans (x:Ext cm m H cm' m' H') (y:Ext cm' m' H' cm'' m'' H''):Ext cm m H cm'' m'' H'' :=
  ⟨fun i a h=>y.pre i a (x.pre i a h),Nat.le_trans x.len y.len,fun i ts h=>y.lent i ts (x.lent i ts h),fun a o h n=>y.keep a o (x.keep a o h n).1 (x.keep a o h n).2⟩
noncomputable abbrev XR:=Exc→List Addr→Mem→Hp→Prop
variable (K) in
noncomputable def OkR {α:Type} (r:Res α) (xr:XR) (cm:List Addr) (m:Mem) (H:Hp) (k:α→List Addr→Mem→Hp→Prop):Prop:=match r with
  | .ok a m'=>∀ cm' H',Ext cm m H cm' m' H'→MemR K cm' m' H'→k a cm' m' H'
  | .exc x m'=>∀ cm' H',Ext cm m H cm' m' H'→MemR K cm' m' H'→xr x cm' m' H'
  | .stuck=>False
variable {xr:XR}
theorem OkR.shift {α:Type} {r:Res α} {k:α→List Addr→Mem→Hp→Prop} (h:OkR K r xr cm m H k) (x:Ext cm m H cm' m' H'):OkR K r xr cm' m' H' k:=by
  cases r with
  | ok a m2=>exact fun c h' e M=>h c h' (x.trans e) M
  | exc a m2=>exact fun c h' e M=>h c h' (x.trans e) M
  | stuck=>exact h
theorem OkR.bind {α β:Type} {r:Res α} {f:α→Mem→Res β} {k:β→List Addr→Mem→Hp→Prop} (h:OkR K (r.bind f) xr cm m H k) :
    OkR K r xr cm m H fun a cm' m' H'=>OkR K (f a m') xr cm' m' H' k:=by
  cases r with
  | ok a m2=>exact fun c h' e M=>OkR.shift (show OkR K (f a m2) xr cm m H k from h) e
  | exc a m2=>exact h
  | stuck=>exact h
theorem OkR.bind0 {α β:Type} {r:Res α} {f:α→Mem→Res β} {k:β→List Addr→Mem→Hp→Prop} (h:OkR K (r.bind f) xr cm m H k) :
    OkR K r xr cm m H fun a _ m' _=>OkR K (f a m') xr cm m H k:=by
  cases r with
  | ok a m2=>exact fun c h' e M=>h
  | exc a m2=>exact h
  | stuck=>exact h
theorem OkR.mono {α:Type} {r:Res α} {k k':α→List Addr→Mem→Hp→Prop} (h:OkR K r xr cm m H k) (f:∀ a cm' m' H',Ext cm m H cm' m' H'→MemR K cm' m' H'→k a cm' m' H'→k' a cm' m' H'):OkR K r xr cm m H k':=by
  cases r with
  | ok a m2=>exact fun c h' e M=>f a c m2 h' e M (h c h' e M)
  | exc a m2=>exact h
  | stuck=>exact h
theorem OkR.now {α:Type} {a:α} {k:α→List Addr→Mem→Hp→Prop} (h:OkR K (.ok a m) xr cm m H k) (M:MemR K cm m H):k a cm m H:=h cm H .refl M
theorem OkR.to {α:Type} {a:α} {m':Mem} {k:α→List Addr→Mem→Hp→Prop} (h:OkR K (.ok a m') xr cm m H k) (x:Ext cm m H cm' m' H') (M:MemR K cm' m' H'):k a cm' m' H':=h cm' H' x M
end
section
variable (K:PySem.W.Frag) (call:Nat→List W→Mem→Res W) (gv:List T) (xr:XR)
noncomputable def tE (e:E):TE:=fun σ H Q=>∃ env cm m,EnvR K cm m H env σ∧MemR K cm m H∧OkR K (ev call gv e env m) xr cm m H fun w cm' m' H'=>∀ v,RW K cm' m' H' w v→Q v H'
noncomputable def tA (es:Es):TA:=fun σ H Q=>∃ env cm m,EnvR K cm m H env σ∧MemR K cm m H∧OkR K (evs call gv es env m) xr cm m H fun ws cm' m' H'=>∀ vs,RWs K cm' m' H' ws vs→Q vs H'
noncomputable def tT (e:E):TT:=fun σ H Q=>∃ env cm m,EnvR K cm m H env σ∧MemR K cm m H∧OkR K ((ev call gv e env m).bind Qm) xr cm m H fun k _ _ H'=>Q k H'
noncomputable def r2 (f:W→W→Mem→Res W):R2:=fun x y H Q=>∃ cm m a b,MemR K cm m H∧RW K cm m H a x∧RW K cm m H b y∧OkR K (f a b m) xr cm m H fun w cm' m' H'=>∀ v,RW K cm' m' H' w v→Q v H'
noncomputable def r1 (f:W→Mem→Res W):V→Hp→VK→Prop:=fun x H Q=>∃ cm m a,MemR K cm m H∧RW K cm m H a x∧OkR K (f a m) xr cm m H fun w cm' m' H'=>∀ v,RW K cm' m' H' w v→Q v H'
noncomputable def rN (f:List W→Mem→Res W):List V→Hp→VK→Prop:=fun xs H Q=>∃ cm m ws,MemR K cm m H∧RWs K cm m H ws xs∧OkR K (f ws m) xr cm m H fun w cm' m' H'=>∀ v,RW K cm' m' H' w v→Q v H'
end
section
variable {K:PySem.W.Frag} {call:Nat→List W→Mem→Res W} {gv:List T} {xr:XR} {X:Cx}
theorem PE.mono {e:Expr} {t t':TE} (h:PE X e t) (f:∀ σ H Q,t' σ H Q→t σ H Q):PE X e t':=fun pins s σ H Q I q=>h pins s σ H Q I (f σ H Q q)
theorem PT.mono {e:Expr} {t t':TT} (h:PT X e t) (f:∀ σ H Q,t' σ H Q→t σ H Q):PT X e t':=fun pins s σ H Q I q=>h pins s σ H Q I (f σ H Q q)
theorem PA.mono {e:List Expr} {t t':TA} (h:PA X e t) (f:∀ σ H Q,t' σ H Q→t σ H Q):PA X e t':=fun pos pins s σ H Q I q=>h pos pins s σ H Q I (f σ H Q q)
theorem Zi2 {a b e:E} {f:W→W→Mem→Res W} (h:∀ env m,ev call gv e env m=(ev call gv a env m).bind fun x m=>(ev call gv b env m).bind fun y m=>f x y m) (σ:L2.St) (H:Hp) (Q:VK) (q:tE K call gv xr e σ H Q) :
    tOp (r2 K xr f) (tE K call gv xr a) (tE K call gv xr b) σ H Q:=by
  obtain ⟨env,cm,m,hE,hM,ho⟩:=q
  rw [h] at ho
  refine ⟨env,cm,m,hE,hM,ho.bind.mono fun w cm1 m1 H1 x1 M1 o1 v rv=>?_⟩
  refine ⟨env,cm1,m1,hE.ext x1 hM M1,M1,o1.bind.mono fun w2 cm2 m2 H2 x2 M2 o2 v2 rv2=>?_⟩
  exact ⟨cm2,m2,w,w2,M2,rv.ext x2 M1 M2,rv2,o2⟩
end
end Mi
end
section
namespace Mi
open PySem PySem.Spec PyProof.Rows L2
section
variable {K:PySem.W.Frag} {cm:List Addr} {m:Mem} {H:Hp} {xr:XR} {X:Cx}
theorem Zg {w:W} {v:V} {t:T} (h:RW K cm m H w v) (e:view w m=some t) (n:∀ ts,t≠.lst ts):RT K cm m H t v:=by
  cases w with
  | t x=>cases e; exact h
  | f a=>cases e
  | c i =>
    unfold view at e
    dsimp only at e
    split at e
    · cases e; exact absurd rfl (n _)
    · cases e
theorem ZM {w:W} {v:V} {ts:List T} (M:MemR K cm m H) (h:RW K cm m H w v) (e:view w m=some (.lst ts)):∃ a vs,v = .ref a∧H a=some (.lst vs)∧RTs K cm m H ts vs:=by
  cases w with
  | t x =>
    cases e
    obtain ⟨a,vs,h1,h2,_,h3⟩:=RT.ilst h
    exact ⟨a,vs,h1,h2,h3⟩
  | f a=>cases e
  | c i =>
    unfold view at e
    dsimp only at e
    split at e
    · rename_i fl us hu
      cases e
      obtain ⟨a,h1,h2⟩:=h
      obtain ⟨b,vs,h3,h4,_,h5⟩:=M.at' i _ hu
      rw [h1] at h3; cases h3
      exact ⟨a,vs,h2,h4,h5⟩
    · cases e
theorem RT.vint {i:Int} {v:V} (h:RT K cm m H (.int i) v):v = .int i:=by cases h; rfl
theorem RT.vbl {b:Bool} {v:V} (h:RT K cm m H (.bl b) v):v = .bl b:=by cases h; rfl
theorem RT.vnon {v:V} (h:RT K cm m H .non v):v = .non:=by cases h; rfl
theorem RT.vstr {cs:List Nat} {v:V} (h:RT K cm m H (.str cs) v):v = .str ⟨cs.toArray⟩:=by cases h; rfl
theorem RT.vscr {ns:List Int} {v:V} (h:RT K cm m H (.scr ns) v):∃ a,v = .ref a∧Zeo K H a ns:=by
  cases h with
  | scr _ h=>exact ⟨_,rfl,h⟩
theorem Zby (M:MemR K cm m H) {p:Addr} (hp:H p=none):Zt cm m p:=fun i ts e z=>by
  obtain ⟨a,vs,h1,h2,_⟩:=M.at' i ts e
  rw [h1] at z; cases z
  rw [hp] at h2; cases h2
theorem Ext.new {p:Addr} {o:HO} (hp:H p=none):Ext cm m H cm m (upd H p o) :=
  ⟨fun _ _ h=>h,Nat.le_refl _,fun _ _ h=>h,fun a u h n=>⟨by rw [ZZ (Qu h hp)]; exact h,n⟩⟩
theorem RT.same {H':Hp} {cm':List Addr} {m':Mem} (h1:∀ a o,H a=some o→H' a=some o) (h2:∀ a,Zt cm m a→H a≠none→Zt cm' m' a) {t:T} {v:V} (h:RT K cm m H t v):RT K cm' m' H' t v:=by
  induction h with
  | non=>exact .non
  | bl b=>exact .bl b
  | int i=>exact .int i
  | str cs=>exact .str cs
  | tup q1 q2 _ ih =>
    refine .tup ?_ q2 ih
    rcases q1 with (q | ⟨o,q⟩) | q
    · exact .inl (.inl (h1 _ _ q))
    · exact .inl (.inr ⟨o,h1 _ _ q⟩)
    · exact .inr q
  | lst q1 q2 q3 _ ih=>exact .lst (h1 _ _ q1) (h2 _ q2 (by rw [q1]; simp)) q3 ih
  | dct q1 q2 q3 q4 _ ih=>exact .dct (h1 _ _ q1) (h2 _ q2 (by rw [q1]; simp)) q3 q4 ih
  | scr ns q =>
    refine .scr ns ?_
    rcases q with ⟨o,q⟩ | q
    · exact .inl ⟨o,h1 _ _ q⟩
    · exact .inr q
theorem JF {p:Addr} {o:HO} (hp:H p=none):∀ a u,H a=some u→upd H p o a=some u:=fun a u h=>by rw [ZZ (Qu h hp)]; exact h
theorem MemR.new (M:MemR K cm m H) {p:Addr} {o:HO} (hp:H p=none):MemR K cm m (upd H p o) :=
  ⟨M.len,M.inj,fun i ts e=>by
    obtain ⟨a,vs,h1,h2,h3,h4⟩:=M.at' i ts e
    exact ⟨a,vs,h1,JF hp _ _ h2,h3,Zn (fun _ _ z=>z.same (JF hp) fun _ n _=>n) h4⟩⟩
theorem RTs.new {ts:List T} {vs:List V} (r:RTs K cm m H ts vs) {p:Addr} {o:HO} (hp:H p=none):RTs K cm m (upd H p o) ts vs:=Zn (fun _ _ z=>z.same (JF hp) fun _ n _=>n) r
theorem RT.newTup {ts:List T} {vs:List V} (r:RTs K cm m H ts vs) {p:Addr} (hp:H p=none):RT K cm m (upd H p (.tup vs)) (.tup ts) (.ref p):=.mtup (.of Jj) (RTs.new r hp)
theorem RT.newLst (M:MemR K cm m H) {ts:List T} {vs:List V} (r:RTs K cm m H ts vs) {p:Addr} (hp:H p=none):RT K cm m (upd H p (.lst vs)) (.lst ts) (.ref p):=.mlst Jj (Zby M hp) (RTs.new r hp)
theorem Zbz {p:Addr} {c:Bool×List T} (hl:cm.length=m.length) {a:Addr} (n:Zt cm m a) (ne:a≠p):Zt (cm++[p]) (m++[some c]) a:=fun i us e z=>by
  by_cases hi:i < m.length
  · rw [List.getElem?_append_left hi] at e
    rw [List.getElem?_append_left (by omega)] at z
    exact n i us e z
  · by_cases hj:i=m.length
    · subst hj
      rw [← hl,List.getElem?_append_right (Nat.le_refl _)] at z
      simp at z
      exact ne z.symm
    · rw [List.getElem?_eq_none (by simp; omega)] at e
      cases e
theorem Zkh (M:MemR K cm m H) {ts:List T} {vs:List V} (r:RTs K cm m H ts vs) {p:Addr} (hp:H p=none) (hk:K.lookup p=none) :
    Ext cm m H (cm++[p]) (m++[some (false,ts)]) (upd H p (.lst vs))∧MemR K (cm++[p]) (m++[some (false,ts)]) (upd H p (.lst vs))∧RW K (cm++[p]) (m++[some (false,ts)]) (upd H p (.lst vs)) (.c m.length) (.ref p):=by
  have sm:∀ {t:T} {v:V},RT K cm m H t v→RT K (cm++[p]) (m++[some (false,ts)]) (upd H p (.lst vs)) t v:=fun h =>
    h.same (JF hp) fun a n hn=>Zbz M.len n fun z=>by subst z; exact hn hp
  have cs:∀ {i:Nat} {c:Bool×List T},(m++[some (false,ts)])[i]? = some (some c)→(m[i]? = some (some c)∧i < m.length)∨(i=m.length∧c=(false,ts)):=fun {i c} e=>by
    by_cases hi:i < m.length
    · rw [List.getElem?_append_left hi] at e
      exact .inl ⟨e,hi⟩
    · by_cases hj:i=m.length
      · subst hj
        simp at e
        exact .inr ⟨rfl,e.symm⟩
      · rw [List.getElem?_eq_none (by simp; omega)] at e
        cases e
  have cl:∀ {i:Nat},i < m.length→(cm++[p])[i]? = cm[i]?:=fun {i} h=>List.getElem?_append_left (by rw [M.len]; exact h)
  have cp:(cm++[p])[m.length]? = some p:=by rw [← M.len]; simp
  have np:∀ {i:Nat} {c:Bool×List T} {a:Addr},m[i]? = some (some c)→cm[i]? = some a→a≠p:=fun {i c a} e1 e2 z=>by
    subst z
    obtain ⟨b,ws,q1,q2,_⟩:=M.at' i c e1
    rw [e2] at q1; cases q1
    rw [hp] at q2; cases q2
  refine ⟨⟨fun i a h=>?_,by simp,fun i us h=>?_,fun a o h n=>⟨JF hp _ _ h,Zbz M.len n (Qu h hp)⟩⟩,⟨by simp [M.len],fun i j a us us' e1 e2 f1 f2=>?_,fun i us e=>?_⟩,⟨p,cp,rfl⟩⟩
  · rw [List.getElem?_append_left (List.getElem?_eq_some_iff.mp h).1]; exact h
  · rw [List.getElem?_append_left (List.getElem?_eq_some_iff.mp h).1]; exact h
  · rcases cs e1 with ⟨g1,l1⟩ | ⟨k1,_⟩
    · rw [cl l1] at f1
      rcases cs e2 with ⟨g2,l2⟩ | ⟨k2,_⟩
      · rw [cl l2] at f2
        exact M.inj i j a _ _ g1 g2 f1 f2
      · rw [k2,cp] at f2; cases f2
        exact absurd rfl (np g1 f1)
    · rw [k1,cp] at f1; cases f1
      rcases cs e2 with ⟨g2,l2⟩ | ⟨k2,_⟩
      · rw [cl l2] at f2
        exact absurd rfl (np g2 f2)
      · rw [k1,k2]
  · rcases cs e with ⟨g,l⟩ | ⟨k,z⟩
    · obtain ⟨a,ws,q1,q2,q3,q4⟩:=M.at' i us g
      exact ⟨a,ws,by rw [cl l]; exact q1,JF hp _ _ q2,q3,Zn (fun _ _ z=>sm z) q4⟩
    · rw [k,z]
      exact ⟨p,vs,cp,Jj,hk,Zn (fun _ _ z=>sm z) r⟩
theorem Xv {i:Nat} {c c':Bool×List T} (e:m[i]? = some (some c)) {j:Nat} {d:Bool×List T} (q:(m.set i (some c'))[j]? = some (some d)):∃ d',m[j]? = some (some d'):=by
  by_cases hj:j=i
  · subst hj; exact ⟨c,e⟩
  · rw [List.getElem?_set_ne (Ne.symm hj)] at q; exact ⟨d,q⟩
theorem ZcD (M:MemR K cm m H) {i:Nat} {ts ts':List T} {a:Addr} {vs':List V} (e:m[i]? = some (some (false,ts))) (hc:cm[i]? = some a) (r:RTs K cm m H ts' vs') :
    Ext cm m H cm (m.set i (some (false,ts'))) (upd H a (.lst vs'))∧MemR K cm (m.set i (some (false,ts'))) (upd H a (.lst vs')):=by
  have hi:i < m.length:=(List.getElem?_eq_some_iff.mp e).1
  have nl:∀ {b:Addr},Zt cm m b→Zt cm (m.set i (some (false,ts'))) b:=fun {b} n j us q=>by
    obtain ⟨us',q'⟩:=Xv e q
    exact n j us' q'
  have ne:∀ {b:Addr},Zt cm m b→b≠a:=fun {b} n z=>by subst z; exact n i _ e hc
  have x:Ext cm m H cm (m.set i (some (false,ts'))) (upd H a (.lst vs')):=⟨fun _ _ h=>h,by simp,fun j us h=>by
    by_cases hj:j=i
    · subst hj; rw [e] at h; cases h
    · rw [List.getElem?_set_ne (Ne.symm hj)]; exact h,fun b o h n=>⟨by rw [ZZ (ne n)]; exact h,nl n⟩⟩
  have sm:∀ {t:T} {v:V},RT K cm m H t v→RT K cm (m.set i (some (false,ts'))) (upd H a (.lst vs')) t v:=fun {t v} h=>by
    induction h with
    | non=>exact .non
    | bl b=>exact .bl b
    | int i=>exact .int i
    | str cs=>exact .str cs
    | tup q1 q2 _ ih=>exact .tup (x.sqT M q1) q2 ih
    | lst q1 q2 q3 _ ih=>exact .lst (x.keep _ _ q1 q2).1 (x.keep _ _ q1 q2).2 q3 ih
    | dct q1 q2 q3 q4 _ ih=>exact .dct (x.keep _ _ q1 q2).1 (x.keep _ _ q1 q2).2 q3 q4 ih
    | scr ns q=>exact .scr ns (x.scr M q)
  refine ⟨x,⟨by simp [M.len],fun j k b us us' e1 e2 f1 f2=>?_,fun j us q=>?_⟩⟩
  · obtain ⟨_,e1⟩:=Xv e e1
    obtain ⟨_,e2⟩:=Xv e e2
    exact M.inj j k b _ _ e1 e2 f1 f2
  · by_cases hj:j=i
    · subst hj
      rw [List.getElem?_set_self hi] at q
      cases q
      obtain ⟨b,ws,q1,_,q3,_⟩:=M.at' j _ e
      rw [hc] at q1; cases q1
      exact ⟨a,vs',hc,Jj,q3,Zn (fun _ _ z=>sm z) r⟩
    · rw [List.getElem?_set_ne (Ne.symm hj)] at q
      obtain ⟨b,ws,q1,q2,q3,q4⟩:=M.at' j us q
      have hb:b≠a:=fun z=>by
        subst z
        exact hj (M.inj j i b _ _ q e q1 hc)
      exact ⟨b,ws,q1,by rw [ZZ hb]; exact q2,q3,Zn (fun _ _ z=>sm z) q4⟩
theorem Ziy (M:MemR K cm m H) {i:Nat} {ts:List T} (e:m[i]? = some (some (false,ts))) :
    ∃ a vs,cm[i]? = some a∧H a=some (.lst vs)∧K.lookup a=none∧Ext cm m H cm (m.set i none) H∧MemR K cm (m.set i none) H∧RTs K cm (m.set i none) H ts vs∧RT K cm (m.set i none) H (.lst ts) (.ref a):=by
  obtain ⟨a,vs,q1,q2,q3,q4⟩:=M.at' i _ e
  have hi:i < m.length:=(List.getElem?_eq_some_iff.mp e).1
  have lv:∀ {j:Nat} {us:Bool×List T},(m.set i none)[j]? = some (some us)→m[j]? = some (some us)∧j≠i:=fun {j us} q=>by
    by_cases hj:j=i
    · subst hj; rw [List.getElem?_set_self hi] at q; cases q
    · rw [List.getElem?_set_ne (Ne.symm hj)] at q; exact ⟨q,hj⟩
  have nl:∀ {b:Addr},Zt cm m b→Zt cm (m.set i none) b:=fun {b} n j us q=>n j us (lv q).1
  have sm:∀ {t:T} {v:V},RT K cm m H t v→RT K cm (m.set i none) H t v:=fun h=>h.same (fun _ _ z=>z) fun _ n _=>nl n
  have na:Zt cm (m.set i none) a:=fun j us q z=>(lv q).2 (M.inj j i a _ _ (lv q).1 e z q1)
  have rs:RTs K cm (m.set i none) H ts vs:=Zn (fun _ _ z=>sm z) q4
  refine ⟨a,vs,q1,q2,q3,⟨fun _ _ h=>h,by simp,fun j us h=>?_,fun b o h n=>⟨h,nl n⟩⟩,⟨by simp [M.len],fun j k b us us' e1 e2=>M.inj j k b _ _ (lv e1).1 (lv e2).1,fun j us q=>?_⟩,rs,.mlst q2 na rs⟩
  · by_cases hj:j=i
    · subst hj; rw [e] at h; cases h
    · rw [List.getElem?_set_ne (Ne.symm hj)]; exact h
  · obtain ⟨b,ws,p1,p2,p3,p4⟩:=M.at' j us (lv q).1
    exact ⟨b,ws,p1,p2,p3,Zn (fun _ _ z=>sm z) p4⟩
theorem ZbW (M:MemR K cm m H) {i:Nat} {b b':Bool} {ts:List T} (e:m[i]? = some (some (b,ts))) :
    (∀ a,Zt cm m a↔Zt cm (m.set i (some (b',ts))) a)∧MemR K cm (m.set i (some (b',ts))) H∧(∀ t v,RT K cm m H t v→RT K cm (m.set i (some (b',ts))) H t v):=by
  have hi:i < m.length:=(List.getElem?_eq_some_iff.mp e).1
  have nl:∀ a,Zt cm m a↔Zt cm (m.set i (some (b',ts))) a:=fun a=>by
    constructor
    · intro n j us q
      obtain ⟨d,q'⟩:=Xv e q
      exact n j d q'
    · intro n j us q
      by_cases hj:j=i
      · subst hj
        exact n j _ (List.getElem?_set_self hi)
      · exact n j us (by rw [List.getElem?_set_ne (Ne.symm hj)]; exact q)
  have sm:∀ t v,RT K cm m H t v→RT K cm (m.set i (some (b',ts))) H t v:=fun t v h=>h.same (fun _ _ z=>z) fun a n _=>(nl a).mp n
  refine ⟨nl,⟨by simp [M.len],fun j k a us us' e1 e2 f1 f2=>?_,fun j us q=>?_⟩,sm⟩
  · obtain ⟨_,e1⟩:=Xv e e1
    obtain ⟨_,e2⟩:=Xv e e2
    exact M.inj j k a _ _ e1 e2 f1 f2
  · by_cases hj:j=i
    · subst hj
      rw [List.getElem?_set_self hi] at q
      cases q
      obtain ⟨a,vs,q1,q2,q3,q4⟩:=M.at' j _ e
      exact ⟨a,vs,q1,q2,q3,Zn (fun _ _ z=>sm _ _ z) q4⟩
    · rw [List.getElem?_set_ne (Ne.symm hj)] at q
      obtain ⟨a,vs,q1,q2,q3,q4⟩:=M.at' j us q
      exact ⟨a,vs,q1,q2,q3,Zn (fun _ _ z=>sm _ _ z) q4⟩
theorem Zix (M:MemR K cm m H) {i:Nat} {b:Bool} {ts:List T} (e:m[i]? = some (some (b,ts))):Ext cm m H cm (m.set i (some (true,ts))) H∧MemR K cm (m.set i (some (true,ts))) H:=by
  have hi:i < m.length:=(List.getElem?_eq_some_iff.mp e).1
  obtain ⟨nl,M',_⟩:=ZbW (b':=true) M e
  refine ⟨⟨fun _ _ h=>h,by simp,fun j us h=>?_,fun a o h n=>⟨h,(nl a).mp n⟩⟩,M'⟩
  by_cases hj:j=i
  · subst hj
    rw [e] at h; cases h
    exact List.getElem?_set_self hi
  · rw [List.getElem?_set_ne (Ne.symm hj)]; exact h
theorem Zak {cm':List Addr} {m1 m':Mem} {H':Hp} {w:W} {ts:List T} (M:MemR K cm m H) (e:Z7 w m = .ok ts m1) (x:Ext cm m1 H cm' m' H') (M':MemR K cm' m' H') :
    Ext cm m H cm' (giveBack w m m') H'∧MemR K cm' (giveBack w m m') H'∧∀ t v,RT K cm' m' H' t v→RT K cm' (giveBack w m m') H' t v:=by
  cases w with
  | t t =>
    unfold Z7 at e
    dsimp only at e
    split at e <;> cases e
    exact ⟨x,M',fun _ _ h=>h⟩
  | f a=>cases e
  | c i =>
    unfold Z7 at e
    dsimp only at e
    split at e
    · rename_i b us h
      cases e
      have hi:i < m.length:=(List.getElem?_eq_some_iff.mp h).1
      have h':m'[i]? = some (some (true,ts)):=x.lent i ts (List.getElem?_set_self hi)
      have hi':i < m'.length:=(List.getElem?_eq_some_iff.mp h').1
      obtain ⟨nl,M2,sm⟩:=ZbW (b':=b) M' h'
      have eg:giveBack (.c i) m m' = m'.set i (some (b,ts)):=by unfold giveBack; dsimp only; rw [h]
      rw [eg]
      obtain ⟨nl0,M1,_⟩:=ZbW (b':=true) M h
      refine ⟨⟨fun j a q=>x.pre j a q,by rw [List.length_set]; have:=x.len; rw [List.length_set] at this; exact this,fun j vs q=>?_,fun a o q n=>?_⟩,M2,sm⟩
      · by_cases hj:j=i
        · subst hj
          rw [h] at q; cases q
          exact List.getElem?_set_self hi'
        · rw [List.getElem?_set_ne (Ne.symm hj)]
          exact x.lent j vs (by rw [List.getElem?_set_ne (Ne.symm hj)]; exact q)
      · obtain ⟨q1,q2⟩:=x.keep a o q ((nl0 a).mp n)
        exact ⟨q1,(nl a).mp q2⟩
    · cases e
end
end Mi
end
section
namespace Mi
open PySem PySem.Spec PyProof.Rows L2
section
variable {K:PySem.W.Frag} {cm:List Addr} {m:Mem} {H:Hp} {xr:XR} {X:Cx}
theorem ZG:lim≤sizeLine:=by rw [sizeLine_eq]; decide
theorem Q0 {o:Option T} {k:W→List Addr→Mem→Hp→Prop} (h:OkR K (pur o m) xr cm m H k):∃ t,o=some t∧OkR K (.ok (.t t) m) xr cm m H k:=by
  cases o with
  | none=>exact h.elim
  | some t=>exact ⟨t,rfl,h⟩
theorem Zcb {α:Type} {o p:Option T} {f:T→T→Option α} {z:α} (h:(o.bind fun x=>p.bind fun y=>f x y)=some z):∃ x y,o=some x∧p=some y∧f x y=some z:=by
  cases o with
  | none=>cases h
  | some x =>
    cases p with
    | none=>cases h
    | some y=>exact ⟨x,y,rfl,rfl,h⟩
theorem Zhd (a b:List Nat):(⟨a.toArray⟩:Str)++⟨b.toArray⟩=⟨(a++b).toArray⟩:=by
  show (⟨a.toArray++b.toArray⟩:Str)=_
  simp
theorem Xh (a:List Nat):(⟨a.toArray⟩:Str).length=a.length:=by simp [Str.length]
theorem ans {t:T} {Q:VK} (ho:OkR K (.ok (.t t) m) xr cm m H fun w cm' m' H'=>∀ v,RW K cm' m' H' w v→Q v H') (M:MemR K cm m H) {v:V} (r:RT K cm m H t v):Q v H:=ho.now M v r
theorem ZcH {ts:List T} {Q:VK} (ho:OkR K (.ok (.t (.tup ts)) m) xr cm m H fun w cm' m' H'=>∀ v,RW K cm' m' H' w v→Q v H') (M:MemR K cm m H) {vs:List V} (r:RTs K cm m H ts vs) {p:Addr} (hp:H p=none) :
    Q (.ref p) (upd H p (.tup vs)):=ho.to (.new hp) (M.new hp) _ (RT.newTup r hp)
theorem ZcI {ts:List T} {Q:VK} (ho:OkR K (.ok (.t (.lst ts)) m) xr cm m H fun w cm' m' H'=>∀ v,RW K cm' m' H' w v→Q v H') (M:MemR K cm m H) {vs:List V} (r:RTs K cm m H ts vs) {p:Addr} (hp:H p=none) :
    Q (.ref p) (upd H p (.lst vs)):=ho.to (.new hp) (M.new hp) _ (RT.newLst M r hp)
theorem ZlQ {i j:Int} (h1:i.natAbs < bigN) (h2:j.natAbs < bigN):IntMulOk i j:=by
  have b:∀ {k:Int},k.natAbs < bigN→Builtin.Int.intBits k≤2000:=fun {k} h=>intBits_le (by
    have e:bigN=2 ^ (250 * 8):=by unfold bigN; rw [← Nat.pow_mul]
    rw [e] at h
    exact h)
  exact mulOk_of_bits (b h1) (b h2) (by decide)
theorem Zdn {i:Int} (h:small i=true):-(2 ^ 64) < i∧i < 2 ^ 64:=by
  have h':i.natAbs < 2 ^ 64:=of_decide_eq_true h
  omega
theorem ZjV {i j:Int} (h:Xl i j=true):IntMulOk i j:=by
  unfold Xl at h
  simp only [Bool.or_eq_true,Bool.and_eq_true,decide_eq_true_eq] at h
  rcases h with (h | h) | ⟨h1,h2⟩
  · exact CMul.ok (.inl (Zdn h))
  · exact CMul.ok (.inr (Zdn h))
  · exact ZlQ h1 h2
theorem ZlI:OpR X (binaryOp .Mult) (rI (fun i j=>Xl i j=true) fun i j=>.int (i * j)):=opI fun _ _ _ _ _ _ _ hc q=>mul_int q (ZjV hc)
theorem Zmn {prog:Program} {w:World} {A:Around} {E:Value→Shared→Prop} {s:Shared} {t b:Addr} {ws:List Value} {Q:Value→Shared→Prop} (ht:IsTup s.heap t ([]:List Value).toArray) (hb:IsTup s.heap b ws.toArray)
    (h:Q (.ref b) s):wpAny (model prog w) A (binaryOp .Add (.ref t) (.ref b)) Q E s:=by
  obtain ⟨⟨cls,dd,data,sl⟩,ho,hc,n,hd⟩:=id ht
  obtain ⟨⟨cls2,dd2,data2,sl2⟩,ho2,hc2,n2,hd2⟩:=id hb
  simp only at hc hd hc2 hd2
  subst hc hd hc2 hd2
  exact concat_meets ⟨_,ho,rfl⟩ ⟨_,ho2,rfl⟩ noFill_tuple_add seq_tuple_add PySem.F.slot_tuple_add PySem.F.entry_tuple_add (PySem.F.args_tuple_add_2 _ _)
      (tuple_addW0 t b ([]:List Value).toArray ws.toArray n n2 dd dd2 sl sl2 (by simp)) ⟨ho,ho2,h⟩
theorem ZlH:OpR X (binaryOp .Add) (fun x y H Q=>∃ a b ys,x = .ref a∧y = .ref b∧SqT X.K H a []∧SqT X.K H b ys∧Q (.ref b) H):=by
  intro pins s σ H x y v u Q I rx ry h
  obtain ⟨a,b,ys,rfl,rfl,ha,hb,q⟩:=h
  cases rx
  cases ry
  obtain ⟨its,r1,p1,_⟩:=I.tuple ha
  obtain ⟨its2,r2,p2,_⟩:=I.tuple hb
  cases r1
  exact Zmn p1 p2 ⟨.ref b,H,I,rfl,q⟩
theorem Zah {f:Int→Int→Option T} {x y t:T} (e:intT f x y=some t):∃ i j,x = .int i∧y = .int j∧f i j=some t:=by
  cases x with
  | int i=>cases y with
    | int j=>exact ⟨i,j,rfl,rfl,e⟩
    | _=>cases e
  | _=>cases e
theorem ZaG {f:Int→Int→Bool} {x y:T} {c:Bool} (e:Za5 f x y=some c):∃ i j,x = .int i∧y = .int j∧f i j=c:=by
  cases x with
  | int i=>cases y with
    | int j=>exact ⟨i,j,rfl,rfl,Option.some.inj e⟩
    | _=>cases e
  | _=>cases e
noncomputable def fBin (op:Operator) (x y:W) (m:Mem):Res W:=pur ((view x m).bind fun x=>(view y m).bind fun y=>binT op x y) m
theorem Zgh:OpR X (binaryOp .Add) (r2 X.K xr (fBin .Add)):=by
  rintro pins s σ H x y v u Q I rx ry ⟨cm,m,a,b,M,ra,rb,ho⟩
  obtain ⟨t,e,ho⟩:=Q0 ho
  obtain ⟨ta,tb,ea,eb,e⟩:=Zcb e
  change addT ta tb=some t at e
  unfold addT at e
  have hz:=ZG
  split at e
  · cases e
    cases (Zg ra ea (fun _ z=>by cases z)).vint
    cases (Zg rb eb (fun _ z=>by cases z)).vint
    exact op_add pins s σ H _ _ v u Q I rx ry ⟨_,_,rfl,rfl,ans ho M (.int _)⟩
  · split at e <;> cases e
    cases (Zg ra ea (fun _ z=>by cases z)).vstr
    cases (Zg rb eb (fun _ z=>by cases z)).vstr
    exact Zgi pins s σ H _ _ v u Q I rx ry ⟨_,_,rfl,rfl,by rw [Xh,Xh]; omega,by rw [Zhd]; exact ans ho M (.str _)⟩
  · split at e <;> cases e
    obtain ⟨p,vs,rfl,h1,r1⟩:=(Zg ra ea (fun _ z=>by cases z)).itup
    obtain ⟨q,us,rfl,h2,r2⟩:=(Zg rb eb (fun _ z=>by cases z)).itup
    have l1:=r1.length
    have l2:=r2.length
    cases vs with
    | nil =>
      cases r1
      exact ZlH pins s σ H _ _ v u Q I rx ry ⟨p,q,us,rfl,rfl,h1,h2,ans ho M (.mtup h2 r2)⟩
    | cons v1 vs =>
      refine ZlK pins s σ H _ _ v u Q I rx ry ⟨p,q,_,us,rfl,rfl,h1,h2,by simp,by omega,fun z=>?_,fun z l hl=>ZcH ho M (Qt r1 r2) hl⟩
      subst z
      cases r2
      rw [List.append_nil] at ho
      exact ans ho M (.mtup h1 r1)
  · split at e <;> cases e
    obtain ⟨p,vs,rfl,h1,r1⟩:=ZM M ra ea
    obtain ⟨q,us,rfl,h2,r2⟩:=ZM M rb eb
    have l1:=r1.length
    have l2:=r2.length
    exact op_cat pins s σ H _ _ v u Q I rx ry ⟨p,q,vs,us,rfl,rfl,h1,h2,by omega,fun l hl=>ZcI ho M (Qt r1 r2) hl⟩
  all_goals cases e
theorem Zgd:OpR X (binaryOp .Sub) (r2 X.K xr (fBin .Sub)):=by
  rintro pins s σ H x y v u Q I rx ry ⟨cm,m,a,b,M,ra,rb,ho⟩
  obtain ⟨t,e,ho⟩:=Q0 ho
  obtain ⟨ta,tb,ea,eb,e⟩:=Zcb e
  obtain ⟨i,j,rfl,rfl,e2⟩:=Zah e
  cases (Zg ra ea (fun _ z=>by cases z)).vint
  cases (Zg rb eb (fun _ z=>by cases z)).vint
  cases e2
  exact op_sub pins s σ H _ _ v u Q I rx ry ⟨_,_,rfl,rfl,ans ho M (.int _)⟩
theorem ZeG:OpR X (binaryOp .FloorDiv) (r2 X.K xr (fBin .FloorDiv)):=by
  rintro pins s σ H x y v u Q I rx ry ⟨cm,m,a,b,M,ra,rb,ho⟩
  obtain ⟨t,e,ho⟩:=Q0 ho
  obtain ⟨ta,tb,ea,eb,e⟩:=Zcb e
  obtain ⟨i,j,rfl,rfl,e2⟩:=Zah e
  cases (Zg ra ea (fun _ z=>by cases z)).vint
  cases (Zg rb eb (fun _ z=>by cases z)).vint
  split at e2 <;> cases e2
  exact ZlJ pins s σ H _ _ v u Q I rx ry ⟨_,_,rfl,rfl,‹_∧_›,ans ho M (.int _)⟩
theorem Zgg:OpR X (binaryOp .Mod) (r2 X.K xr (fBin .Mod)):=by
  rintro pins s σ H x y v u Q I rx ry ⟨cm,m,a,b,M,ra,rb,ho⟩
  obtain ⟨t,e,ho⟩:=Q0 ho
  obtain ⟨ta,tb,ea,eb,e⟩:=Zcb e
  obtain ⟨i,j,rfl,rfl,e2⟩:=Zah e
  cases (Zg ra ea (fun _ z=>by cases z)).vint
  cases (Zg rb eb (fun _ z=>by cases z)).vint
  split at e2 <;> cases e2
  exact op_mod pins s σ H _ _ v u Q I rx ry ⟨_,_,rfl,rfl,‹_›,ans ho M (.int _)⟩
theorem Zge:OpR X (binaryOp .Pow) (r2 X.K xr (fBin .Pow)):=by
  rintro pins s σ H x y v u Q I rx ry ⟨cm,m,a,b,M,ra,rb,ho⟩
  obtain ⟨t,e,ho⟩:=Q0 ho
  obtain ⟨ta,tb,ea,eb,e⟩:=Zcb e
  obtain ⟨i,j,rfl,rfl,e2⟩:=Zah e
  cases (Zg ra ea (fun _ z=>by cases z)).vint
  cases (Zg rb eb (fun _ z=>by cases z)).vint
  have hc:0≤j∧j≤1000∧i.natAbs < 2 ^ 64:=by
    by_cases hc:0≤j∧j≤1000∧i.natAbs < 2 ^ 64
    · exact hc
    · rw [if_neg hc] at e2; cases e2
  rw [if_pos hc] at e2
  cases e2
  exact op_pow pins s σ H _ _ v u Q I rx ry ⟨_,_,rfl,rfl,⟨hc.1,by omega,hc.2.2⟩,ans ho M (.int _)⟩
theorem ZaC {α β:Type} {F:α→β→Prop} {xs:List α} {ys:List β} (h:Paired F xs ys):∀ k:Nat,Paired F (repT xs k) (List.replicate k ys).flatten
  | 0=>.nil
  | k + 1=>by
    unfold repT
    rw [List.replicate_succ,List.replicate_succ,List.flatten_cons,List.flatten_cons]
    exact Qt h (ZaC h k)
end
end Mi
end
section
namespace Mi
open PySem PySem.Spec PyProof.Rows L2
section
variable {K:PySem.W.Frag} {cm:List Addr} {m:Mem} {H:Hp} {xr:XR} {X:Cx}
noncomputable def fCmp (op:CmpOp) (x y:W) (m:Mem):Res W:=pur (((view x m).bind fun x=>(view y m).bind fun y=>cmpT op x y).map .bl) m
theorem XJ {op:CmpOp} {a b:W} {k:W→List Addr→Mem→Hp→Prop} (h:OkR K (fCmp op a b m) xr cm m H k):∃ ta tb c,view a m=some ta∧view b m=some tb∧cmpT op ta tb=some c∧OkR K (.ok (.t (.bl c)) m) xr cm m H k:=by
  obtain ⟨t,e,ho⟩:=Q0 h
  cases q:((view a m).bind fun x=>(view b m).bind fun y=>cmpT op x y) with
  | none=>rw [q] at e; cases e
  | some c =>
    rw [q] at e; cases e
    obtain ⟨ta,tb,ea,eb,e⟩:=Zcb q
    exact ⟨ta,tb,c,ea,eb,e,ho⟩
noncomputable def flV:T→V
  | .bl b=>.bl b
  | .int i=>.int i
  | .str cs=>.str ⟨cs.toArray⟩
  | _=>.non
theorem RT.fl {t:T} {v:V} (h:RT K cm m H t v) (f:flat t=true):v=flV t:=by
  cases h <;> first | rfl | cases f
theorem JL {w:W} {v:V} {t:T} (h:RW K cm m H w v) (e:view w m=some t) (f:flat t=true):v=flV t :=
  (Zg h e (fun ts z=>by subst z; cases f)).fl f
theorem Zet {a b:List Nat}:(⟨a.toArray⟩:Str)=⟨b.toArray⟩↔a=b:=by
  constructor
  · intro h
    injection h with h
    simpa using h
  · intro h; rw [h]
theorem Zj8 {a b:List Nat}:decide (V.str ⟨a.toArray⟩=V.str ⟨b.toArray⟩)=(a == b):=by
  by_cases h:a=b
  · subst h; simp
  · rw [beq_eq_false_iff_ne.mpr h]
    exact decide_eq_false fun z=>h (Zet.mp (V.str.inj z))
theorem Zhm {x y:T} (h:Zeu x y=true):flat x=true∧flat y=true∧scal (flV x) (flV y)=true∧decide (flV x=flV y)=eqT x y:=by
  cases x <;> cases y <;> first
    | (cases h; done)
    | (refine ⟨rfl,rfl,rfl,?_⟩; unfold eqT; first | exact Ze3 | exact Zis | exact Zj8 | exact decide_eq_true rfl | exact decide_eq_false (fun z=>nomatch z))
theorem Zml (x y:T):cmpT .Eq x y=if Zeu x y || (Zj 60 x && Zj 60 y) then some (eqT x y) else none:=by cases x <;> cases y <;> rfl
theorem Zmk (x y:T):cmpT .NotEq x y=if Zeu x y || (Zj 60 x && Zj 60 y) then some (!eqT x y) else none:=by cases x <;> cases y <;> rfl
mutual
noncomputable def pyT:T→PyData
  | .bl b=>.bool b
  | .int i=>.int i
  | .str cs=>.str ⟨cs.toArray⟩
  | .tup ts=>.tuple (pyTs ts)
  | .lst ts=>.list (pyTs ts)
  | _=>.none
noncomputable def pyTs:List T→List PyData
  | []=>[]
  | t :: ts=>pyT t :: pyTs ts
end
mutual
theorem Zbq:∀ (n:Nat) (t:T),Zj n t=true→PyData.canLay0 (pyT t)=true∧PyData.depth (pyT t)≤n
  | n,.non,h=>⟨by simp [pyT,PyData.canLay0],by simp [pyT,PyData.depth]⟩
  | n,.bl b,h=>⟨by rw [pyT]; simp [PyData.canLay0],by rw [pyT]; simp [PyData.depth]⟩
  | n,.int i,h=>⟨by rw [pyT]; simp [PyData.canLay0],by rw [pyT]; simp [PyData.depth]⟩
  | n,.str cs,h=>⟨by rw [pyT,PyData.canLay0]; rw [Zj] at h; exact h,by rw [pyT]; simp [PyData.depth]⟩
  | 0,.tup ts,h=>by simp [Zj] at h
  | 0,.lst ts,h=>by simp [Zj] at h
  | n + 1,.tup ts,h=>by
    rw [Zj] at h
    have:=Zex n ts h
    exact ⟨by rw [pyT,PyData.canLay0]; exact this.1,by rw [pyT]; simp only [PyData.depth]; omega⟩
  | n + 1,.lst ts,h=>by
    rw [Zj] at h
    have:=Zex n ts h
    exact ⟨by rw [pyT,PyData.canLay0]; exact this.1,by rw [pyT]; simp only [PyData.depth]; omega⟩
  | n,.dct _ _,h=>by cases n <;> simp [Zj] at h
  | n,.scr _,h=>by cases n <;> simp [Zj] at h
theorem Zex:∀ (n:Nat) (ts:List T),Qi n ts=true→PyData.canLayAll0 (pyTs ts)=true∧PyData.depthAll (pyTs ts)≤n
  | n,[],h=>⟨by rw [pyTs]; simp [PyData.canLayAll0],by rw [pyTs]; simp [PyData.depthAll]⟩
  | n,t :: ts,h=>by
    rw [Qi,Bool.and_eq_true] at h
    have h1:=Zbq n t h.1
    have h2:=Zex n ts h.2
    refine ⟨by rw [pyTs,PyData.canLayAll0,h1.1,h2.1]; rfl,?_⟩
    rw [pyTs,PyData.depthAll]
    omega
end
theorem str_beq {a b:List Nat}:((⟨a.toArray⟩:Str) == ⟨b.toArray⟩)=(a == b):=by
  by_cases h:a=b
  · subst h; simp
  · rw [beq_eq_false_iff_ne.mpr h,beq_eq_false_iff_ne.mpr fun z=>h (Zet.mp z)]
mutual
theorem Zfo:∀ (n k:Nat) (x y:T),Zj n x=true→Zj k y=true→PyData.eqv (pyT x) (pyT y)=eqT x y
  | n,k,.tup xs,.tup ys,h1,h2=>by
    cases n with
    | zero=>simp [Zj] at h1
    | succ n=>cases k with
      | zero=>simp [Zj] at h2
      | succ k =>
        rw [Zj] at h1 h2
        rw [pyT,pyT,PyData.eqv,eqT]
        exact Zey n k xs ys h1 h2
  | n,k,.lst xs,.lst ys,h1,h2=>by
    cases n with
    | zero=>simp [Zj] at h1
    | succ n=>cases k with
      | zero=>simp [Zj] at h2
      | succ k =>
        rw [Zj] at h1 h2
        rw [pyT,pyT,PyData.eqv,eqT]
        exact Zey n k xs ys h1 h2
  | n,k,.str xs,.str ys,_,_=>by rw [pyT,pyT,PyData.eqv,eqT]; exact str_beq
  | n,k,.non,y,_,h2=>by cases y <;> first | (simp [pyT,PyData.eqv,eqT]; done) | (cases k <;> simp [Zj] at h2)
  | n,k,.bl b,y,_,h2=>by cases y <;> first | (simp [pyT,PyData.eqv,eqT,b2i]; done) | (cases k <;> simp [Zj] at h2)
  | n,k,.int b,y,_,h2=>by cases y <;> first | (simp [pyT,PyData.eqv,eqT,b2i]; done) | (cases k <;> simp [Zj] at h2)
  | n,k,.str xs,.non,_,_=>by simp [pyT,PyData.eqv,eqT]
  | n,k,.str xs,.bl _,_,_=>by simp [pyT,PyData.eqv,eqT]
  | n,k,.str xs,.int _,_,_=>by simp [pyT,PyData.eqv,eqT]
  | n,k,.str xs,.tup _,_,_=>by simp [pyT,PyData.eqv,eqT]
  | n,k,.str xs,.lst _,_,_=>by simp [pyT,PyData.eqv,eqT]
  | n,k,.tup xs,.non,_,_=>by simp [pyT,PyData.eqv,eqT]
  | n,k,.tup xs,.bl _,_,_=>by simp [pyT,PyData.eqv,eqT]
  | n,k,.tup xs,.int _,_,_=>by simp [pyT,PyData.eqv,eqT]
  | n,k,.tup xs,.str _,_,_=>by simp [pyT,PyData.eqv,eqT]
  | n,k,.tup xs,.lst _,_,_=>by simp [pyT,PyData.eqv,eqT]
  | n,k,.lst xs,.non,_,_=>by simp [pyT,PyData.eqv,eqT]
  | n,k,.lst xs,.bl _,_,_=>by simp [pyT,PyData.eqv,eqT]
  | n,k,.lst xs,.int _,_,_=>by simp [pyT,PyData.eqv,eqT]
  | n,k,.lst xs,.str _,_,_=>by simp [pyT,PyData.eqv,eqT]
  | n,k,.lst xs,.tup _,_,_=>by simp [pyT,PyData.eqv,eqT]
  | n,k,x,.dct _ _,_,h2=>by cases k <;> simp [Zj] at h2
  | n,k,x,.scr _,_,h2=>by cases k <;> simp [Zj] at h2
  | n,k,.dct _ _,y,h1,_=>by cases n <;> simp [Zj] at h1
  | n,k,.scr _,y,h1,_=>by cases n <;> simp [Zj] at h1
theorem Zey:∀ (n k:Nat) (xs ys:List T),Qi n xs=true→Qi k ys=true→PyData.eqvAll (pyTs xs) (pyTs ys)=eqTs xs ys
  | n,k,[],[],_,_=>by rw [pyTs,PyData.eqvAll,eqTs]
  | n,k,[],_ :: _,_,_=>by rw [pyTs,pyTs,PyData.eqvAll,eqTs] <;> simp
  | n,k,_ :: _,[],_,_=>by rw [pyTs,pyTs,PyData.eqvAll,eqTs] <;> simp
  | n,k,x :: xs,y :: ys,h1,h2=>by
    rw [Qi,Bool.and_eq_true] at h1 h2
    rw [pyTs,pyTs,PyData.eqvAll,eqTs,Zfo n k x y h1.1 h2.1,Zey n k xs ys h1.2 h2.2]
end
theorem Zad {pins:List (Addr×Obj)} {σ:L2.St} {s:Shared} (I:Inv X pins σ H s):∀ {ts:List T} {vs:List V} {us:List Value},ts.length=vs.length→(∀ (i:Nat) t v u,ts[i]? = some t→vs[i]? = some v→RelV v u→∃ as,Reads s.heap u (pyT t) as)→Vals vs us→∃ as,ReadsAll s.heap us (pyTs ts) as
  | [],[],_,_,_,.nil=>⟨_,by rw [pyTs]; exact .nil⟩
  | t :: ts,v :: vs,_,hl,h,.cons r rs=>by
    obtain ⟨as,h1⟩:=h 0 t v _ rfl rfl r
    obtain ⟨bs,h2⟩:=Zad I (ts:=ts) (vs:=vs) (by simpa using hl) (fun i t v u a b c=>h (i + 1) t v u (by simpa using a) (by simpa using b) c) rs
    exact ⟨_,by rw [pyTs]; exact .cons h1 h2⟩
  | [],_ :: _,_,hl,_,_=>by simp at hl
  | _ :: _,[],_,hl,_,_=>by simp at hl
theorem RT.reads {pins:List (Addr×Obj)} {σ:L2.St} {s:Shared} {K:PySem.W.Frag} (hK:X.K=K) (I:Inv X pins σ H s) {t:T} {v:V} (h:RT K cm m H t v):∀ {n:Nat} {u:Value},Zj n t=true→RelV v u→∃ as,Reads s.heap u (pyT t) as:=by
  subst hK
  induction h with
  | non=>intro n u _ r; cases r; exact ⟨[],by simp only [pyT]; exact .none⟩
  | bl b=>intro n u _ r; cases r; exact ⟨_,by rw [pyT]; exact .bool b⟩
  | int i=>intro n u _ r; obtain ⟨t,rfl⟩:=r; exact ⟨_,by rw [pyT]; exact .int i t⟩
  | str cs=>intro n u _ r; obtain ⟨t,rfl⟩:=r; exact ⟨_,by rw [pyT]; exact .str _ t⟩
  | @tup a ts vs h1 h2 h3 ih =>
    intro n u hd r
    cases n with
    | zero=>simp [Zj] at hd
    | succ n =>
      rw [Zj] at hd
      cases r
      obtain ⟨its,rv,⟨o,ho,hc,k,hdt⟩,hz⟩:=I.tuple h1
      have hall:∀ (i:Nat) t,ts[i]? = some t→Zj n t=true:=fun i t e=>by
        have:∀ {l:List T},Qi n l=true→∀ x∈l,Zj n x=true:=fun {l}=>by
          induction l with
          | nil=>intro _ x hx; cases hx
          | cons y l ih=>intro h x hx; rw [Qi,Bool.and_eq_true] at h; rcases List.mem_cons.mp hx with rfl | hx; exact h.1; exact ih h.2 x hx
        exact this hd t (List.mem_of_getElem? e)
      obtain ⟨as,hr⟩:=Zad I h2 (fun i t v u e1 e2 r=>ih i t v e1 e2 (hall i t e1) r) rv
      exact ⟨_,by rw [pyT]; exact .tuple ho hc hdt (by simpa using hr)⟩
  | @lst a ts vs h1 h2 h3 h4 ih =>
    intro n u hd r
    cases n with
    | zero=>simp [Zj] at hd
    | succ n =>
      rw [Zj] at hd
      cases r
      obtain ⟨its,k,rv,ho,hz⟩:=I.lst h1
      have hall:∀ (i:Nat) t,ts[i]? = some t→Zj n t=true:=fun i t e=>by
        have:∀ {l:List T},Qi n l=true→∀ x∈l,Zj n x=true:=fun {l}=>by
          induction l with
          | nil=>intro _ x hx; cases hx
          | cons y l ih=>intro h x hx; rw [Qi,Bool.and_eq_true] at h; rcases List.mem_cons.mp hx with rfl | hx; exact h.1; exact ih h.2 x hx
        exact this hd t (List.mem_of_getElem? e)
      obtain ⟨as,hr⟩:=Zad I h3 (fun i t v u e1 e2 r=>ih i t v e1 e2 (hall i t e1) r) rv
      exact ⟨_,by rw [pyT]; exact .list ho rfl rfl (by simpa using hr)⟩
  | dct _ _ _ _ _ _=>intro n u hd _; cases n <;> simp [Zj] at hd
  | scr _ _=>intro n u hd _; cases n <;> simp [Zj] at hd
theorem JD {pins:List (Addr×Obj)} {σ:L2.St} {s:Shared} (I:Inv X pins σ H s) (M:MemR X.K cm m H) {w:W} {t:T} {v:V} {u:Value} (r:RW X.K cm m H w v) (e:view w m=some t) (rv:RelV v u) {n:Nat} (hd:Zj n t=true):∃ as,Reads s.heap u (pyT t) as:=by
  cases t with
  | lst ts =>
    cases n with
    | zero=>simp [Zj] at hd
    | succ n =>
      rw [Zj] at hd
      obtain ⟨a,vs,rfl,h1,rr⟩:=ZM M r e
      cases rv
      obtain ⟨its,k,rv,ho,hz⟩:=I.lst h1
      obtain ⟨as,hr⟩:=Zad I rr.length (fun i t v u e1 e2 r=>RT.reads rfl I (Jp rr i t v e1 e2) (n:=n) (by
        have:∀ {l:List T},Qi n l=true→∀ x∈l,Zj n x=true:=fun {l}=>by
          induction l with
          | nil=>intro _ x hx; cases hx
          | cons y l ih=>intro h x hx; rw [Qi,Bool.and_eq_true] at h; rcases List.mem_cons.mp hx with rfl | hx; exact h.1; exact ih h.2 x hx
        exact this hd t (List.mem_of_getElem? e1)) r) rv
      exact ⟨_,by rw [pyT]; exact .list ho rfl rfl (by simpa using hr)⟩
  | _=>exact RT.reads rfl I (Zg r e (fun _ z=>by cases z)) hd rv
theorem ZhL (hu:X.A.units + 64 < cLine):OpR X (compareOp .Eq) (r2 X.K xr (fCmp .Eq)):=by
  rintro pins s σ H x y v u Q I rx ry ⟨cm,m,a,b,M,ra,rb,ho⟩
  obtain ⟨ta,tb,c,ea,eb,e,ho⟩:=XJ ho
  rw [Zml] at e
  split at e <;> cases e
  rename_i hs
  rw [Bool.or_eq_true] at hs
  rcases hs with hs | hs
  · obtain ⟨f1,f2,f3,f4⟩:=Zhm hs
    cases JL ra ea f1
    cases JL rb eb f2
    exact op_eq pins s σ H _ _ v u Q I rx ry ⟨f3,by rw [f4]; exact ans ho M (.bl _)⟩
  · rw [Bool.and_eq_true] at hs
    obtain ⟨as,ha⟩:=JD I M ra ea rx hs.1
    obtain ⟨bs,hb⟩:=JD I M rb eb ry hs.2
    have d1:=Zbq 60 ta hs.1
    have d2:=Zbq 60 tb hs.2
    refine SeqAt.compareEq_reads ha hb d1.1 d2.1 (by omega) ⟨.bl (eqT ta tb),H,I,?_,ans ho M (.bl _)⟩
    rw [Zfo 60 60 ta tb hs.1 hs.2]
    rfl
theorem ZhE (hu:X.A.units + 64 < cLine):OpR X (compareOp .NotEq) (r2 X.K xr (fCmp .NotEq)):=by
  rintro pins s σ H x y v u Q I rx ry ⟨cm,m,a,b,M,ra,rb,ho⟩
  obtain ⟨ta,tb,c,ea,eb,e,ho⟩:=XJ ho
  rw [Zmk] at e
  split at e <;> cases e
  rename_i hs
  rw [Bool.or_eq_true] at hs
  rcases hs with hs | hs
  · obtain ⟨f1,f2,f3,f4⟩:=Zhm hs
    cases JL ra ea f1
    cases JL rb eb f2
    exact op_ne pins s σ H _ _ v u Q I rx ry ⟨f3,by rw [f4]; exact ans ho M (.bl _)⟩
  · rw [Bool.and_eq_true] at hs
    obtain ⟨as,ha⟩:=JD I M ra ea rx hs.1
    obtain ⟨bs,hb⟩:=JD I M rb eb ry hs.2
    have d1:=Zbq 60 ta hs.1
    have d2:=Zbq 60 tb hs.2
    refine SeqAt.compareNe_reads ha hb d1.1 d2.1 (by omega) ⟨.bl (!eqT ta tb),H,I,?_,ans ho M (.bl _)⟩
    rw [Zfo 60 60 ta tb hs.1 hs.2]
    rfl
theorem Zkw:∀ a b:List Nat,nlt a b=decide (a < b)
  | [],[]=>by simp [nlt]
  | [],_ :: _=>by simp [nlt]
  | _ :: _,[]=>by simp [nlt]
  | a :: x,b :: y=>by
    unfold nlt
    rw [Zkw x y]
    by_cases h:a < b
    · rw [if_pos h]
      exact (decide_eq_true (List.cons_lt_cons_iff.mpr (.inl h))).symm
    · rw [if_neg h]
      by_cases h2:b < a
      · rw [if_pos h2]
        refine (decide_eq_false fun z=>?_).symm
        rcases List.cons_lt_cons_iff.mp z with z | ⟨z,_⟩ <;> omega
      · rw [if_neg h2]
        have e:a=b:=by omega
        subst e
        simp
theorem ZhF:OpR X (compareOp .Lt) (r2 X.K xr (fCmp .Lt)):=by
  rintro pins s σ H x y v u Q I rx ry ⟨cm,m,a,b,M,ra,rb,ho⟩
  obtain ⟨ta,tb,c,ea,eb,e,ho⟩:=XJ ho
  change ltT ta tb=some c at e
  cases ta with
  | int i=>cases tb with
    | int j =>
      cases e
      cases (Zg ra ea (fun _ z=>by cases z)).vint
      cases (Zg rb eb (fun _ z=>by cases z)).vint
      exact op_lt pins s σ H _ _ v u Q I rx ry ⟨_,_,rfl,rfl,ans ho M (.bl _)⟩
    | _=>cases e
  | str i=>cases tb with
    | str j =>
      cases e
      cases (Zg ra ea (fun _ z=>by cases z)).vstr
      cases (Zg rb eb (fun _ z=>by cases z)).vstr
      refine ZhC pins s σ H _ _ v u Q I rx ry ⟨_,_,rfl,rfl,?_⟩
      have:=ans ho M (.bl _)
      rw [Zkw] at this
      exact this
    | _=>cases e
  | _=>cases e
theorem ZhG:OpR X (compareOp .LtE) (r2 X.K xr (fCmp .LtE)):=by
  rintro pins s σ H x y v u Q I rx ry ⟨cm,m,a,b,M,ra,rb,ho⟩
  obtain ⟨ta,tb,c,ea,eb,e,ho⟩:=XJ ho
  obtain ⟨i,j,rfl,rfl,rfl⟩:=ZaG e
  cases (Zg ra ea (fun _ z=>by cases z)).vint
  cases (Zg rb eb (fun _ z=>by cases z)).vint
  exact op_le pins s σ H _ _ v u Q I rx ry ⟨_,_,rfl,rfl,ans ho M (.bl _)⟩
theorem ZhJ:OpR X (compareOp .Gt) (r2 X.K xr (fCmp .Gt)):=by
  rintro pins s σ H x y v u Q I rx ry ⟨cm,m,a,b,M,ra,rb,ho⟩
  obtain ⟨ta,tb,c,ea,eb,e,ho⟩:=XJ ho
  obtain ⟨i,j,rfl,rfl,rfl⟩:=ZaG e
  cases (Zg ra ea (fun _ z=>by cases z)).vint
  cases (Zg rb eb (fun _ z=>by cases z)).vint
  exact op_gt pins s σ H _ _ v u Q I rx ry ⟨_,_,rfl,rfl,ans ho M (.bl _)⟩
theorem ZhK:OpR X (compareOp .GtE) (r2 X.K xr (fCmp .GtE)):=by
  rintro pins s σ H x y v u Q I rx ry ⟨cm,m,a,b,M,ra,rb,ho⟩
  obtain ⟨ta,tb,c,ea,eb,e,ho⟩:=XJ ho
  obtain ⟨i,j,rfl,rfl,rfl⟩:=ZaG e
  cases (Zg ra ea (fun _ z=>by cases z)).vint
  cases (Zg rb eb (fun _ z=>by cases z)).vint
  exact op_ge pins s σ H _ _ v u Q I rx ry ⟨_,_,rfl,rfl,ans ho M (.bl _)⟩
theorem Zj4 {a b:List Nat}:eqV (.str ⟨a.toArray⟩) (.str ⟨b.toArray⟩)=(a == b):=by
  show ((⟨a.toArray⟩:Str) == ⟨b.toArray⟩)=(a == b)
  by_cases h:a=b
  · subst h; simp
  · rw [beq_eq_false_iff_ne.mpr h,beq_eq_false_iff_ne.mpr fun z=>h (Zet.mp z)]
theorem fl_eqV {x y:T} (f:flat x=true) (g:flat y=true):eqV (flV y) (flV x)=eqT y x:=by
  cases x <;> cases y <;> first
    | (cases f; done)
    | (cases g; done)
    | (unfold eqT; exact Zj4)
    | (unfold eqT; rfl)
theorem RTs.fl {ts:List T} {vs:List V} (h:RTs K cm m H ts vs) (f:ts.all flat=true):vs=ts.map flV∧vs.all Za6=true:=by
  induction h with
  | nil=>exact ⟨rfl,rfl⟩
  | @cons t v _ _ r _ ih =>
    rw [List.all_cons,Bool.and_eq_true] at f
    obtain ⟨h1,h2⟩:=ih f.2
    have h3:=r.fl f.1
    subst h3
    refine ⟨by rw [List.map_cons,h1],?_⟩
    rw [List.all_cons,h2,Bool.and_true]
    cases t <;> first | rfl | (cases f.1)
theorem ZiM {x:T} (f:flat x=true):∀ {ts:List T},ts.all flat=true→inV (flV x) (ts.map flV)=ts.any fun t=>eqT t x
  | [],_=>rfl
  | t :: ts,g=>by
    rw [List.all_cons,Bool.and_eq_true] at g
    have ih:=ZiM f g.2
    unfold inV at ih ⊢
    rw [List.map_cons,List.any_cons,List.any_cons,ih,fl_eqV f g.1]
theorem Zbc {x:T} (f:flat x=true):Za6 (flV x)=true:=by cases x <;> first | rfl | cases f
end
end Mi
end
section
namespace Mi
open PySem PySem.Spec PyProof.Rows L2
section
variable {K:PySem.W.Frag} {cm:List Addr} {m:Mem} {H:Hp} {xr:XR} {X:Cx}
theorem ZkE (b:List Nat) (a:Nat):(!(Builtin.Str.occurrences ⟨b.toArray⟩ ⟨#[a]⟩ 0 (⟨b.toArray⟩:Str).length 1).isEmpty)=decide (a∈b):=by
  have:=PySem.StrLaws.found_one (⟨b.toArray⟩:Str) a
  simpa using this
theorem Zap {x y:T} {c:Bool} (e:cmpT .In x y=some c):(∃ a b,x = .str [a]∧y = .str b∧c=decide (a∈b))∨(flat x=true∧∃ ts,(y = .tup ts∨y = .lst ts)∧ts.all flat=true∧c=ts.any fun t=>eqT t x)∨∃ ts,y = .lst ts∧Zj 59 x=true∧Qi 59 ts=true∧c=ts.any fun t=>eqT t x:=by
  have hh:∀ {x y:T} {c:Bool},hasT x y=some c→(flat x=true∧∃ ts,(y = .tup ts∨y = .lst ts)∧ts.all flat=true∧c=ts.any fun t=>eqT t x)∨∃ ts,y = .lst ts∧Zj 59 x=true∧Qi 59 ts=true∧c=ts.any fun t=>eqT t x:=by
    intro x y c e
    unfold hasT at e
    split at e
    · split at e <;> cases e
      rename_i h
      rw [Bool.and_eq_true] at h
      exact .inl ⟨h.1,_,.inl rfl,h.2,rfl⟩
    · split at e
      · cases e
        rename_i h
        rw [Bool.and_eq_true] at h
        exact .inl ⟨h.1,_,.inr rfl,h.2,rfl⟩
      · split at e <;> cases e
        rename_i h
        rw [Bool.and_eq_true] at h
        exact .inr ⟨_,rfl,h.1,h.2,rfl⟩
    · cases e
  cases x with
  | str cs =>
    cases cs with
    | nil=>cases y <;> exact .inr (hh e)
    | cons a r =>
      cases r with
      | nil =>
        cases y with
        | str b=>cases e; exact .inl ⟨a,b,rfl,rfl,rfl⟩
        | _=>exact .inr (hh e)
      | cons _ _=>cases y <;> exact .inr (hh e)
  | _=>cases y <;> exact .inr (hh e)
theorem Zj7 {ts:List T} {n:Nat} (h:Qi n ts=true):∀ x∈ts,Zj n x=true:=by
  induction ts with
  | nil=>intro x hx; cases hx
  | cons y l ih =>
    intro x hx
    rw [Qi,Bool.and_eq_true] at h
    rcases List.mem_cons.mp hx with rfl | hx
    · exact h.1
    · exact ih h.2 x hx
theorem ZiV {vs:List V} {us:List Value} (r:Vals vs us):∀ (i:Nat) (u:Value),us[i]? = some u→∃ v,vs[i]? = some v∧RelV v u:=by
  induction r with
  | nil=>intro i u h; simp at h
  | cons r rs ih =>
    intro i u h
    cases i with
    | zero=>simp at h; subst h; exact ⟨_,rfl,r⟩
    | succ i=>exact ih i u (by simpa using h)
theorem Zip {pins:List (Addr×Obj)} {σ:L2.St} {s:Shared} {H:Hp} {w:W} {tx:T} {xv:V} {v:Value} {p:Addr} {ts:List T} {vs:List V} (hu:X.A.units + 64 < cLine) (I:Inv X pins σ H s) (M:MemR X.K cm m H) (ra:RW X.K cm m H w xv) (ea:view w m=some tx) (rx:RelV xv v) (dx:Zj 59 tx=true) (h1:H p=some (.lst vs)) (r:RTs X.K cm m H ts vs) (dt:Qi 59 ts=true) :
    ∃ (its:Array Value) (e:Value→Bool),s.heap.IsList p its∧(∀ y,y∈its→SeqAt.EqAt X.A.in1 s y v (e y))∧its.any e=ts.any fun t=>eqT t tx:=by
  classical
  obtain ⟨as,hx⟩:=JD I M ra ea rx dx
  obtain ⟨its,k,rv,ho,hz⟩:=I.lst h1
  have hlen:ts.length=its.length:=r.length.trans rv.length
  have at_:∀ (i:Nat) (t:T) (y:Value),ts[i]? = some t→its[i]? = some y→SeqAt.EqAt X.A.in1 s y v (eqT t tx):=by
    intro i t y e1 e2
    obtain ⟨u,e3,e4⟩:=ZiV rv i y e2
    have d:=Zj7 dt t (List.mem_of_getElem? e1)
    obtain ⟨bs,hb⟩:=RT.reads rfl I (Jp r i t u e1 e3) (n:=59) d e4
    have l1:=Zbq 59 t d
    have l2:=Zbq 59 tx dx
    have:=SeqAt.eqAt_reads (pyT t) (pyT tx) X.A.in1 s y v bs as hb hx l1.1 l2.1 (by
      have:X.A.in1.units≤X.A.units + 1:=by simp [Around.in1]
      omega)
    rw [Zfo 59 59 t tx d dx] at this
    exact this
  refine ⟨its.toArray,fun y=>decide (∃ (i:Nat) (t:T),ts[i]? = some t∧its[i]? = some y∧eqT t tx=true),⟨_,ho,rfl,k,rfl⟩,fun y hy=>?_,?_⟩
  · by_cases q:∃ (i:Nat) (t:T),ts[i]? = some t∧its[i]? = some y∧eqT t tx=true
    · dsimp only; rw [decide_eq_true q]
      obtain ⟨i,t,e1,e2,e3⟩:=q
      have:=at_ i t y e1 e2
      rw [e3] at this
      exact this
    · dsimp only; rw [decide_eq_false q]
      obtain ⟨i,hi,e2⟩:=List.getElem_of_mem (show y∈its by simpa using hy)
      have hi':i < ts.length:=by omega
      have e1:ts[i]? = some ts[i]:=List.getElem?_eq_getElem hi'
      have e2:its[i]? = some y:=by rw [← e2]; exact List.getElem?_eq_getElem hi
      have:=at_ i ts[i] y e1 e2
      cases q2:eqT ts[i] tx with
      | false=>rw [q2] at this; exact this
      | true=>exact absurd ⟨i,ts[i],e1,e2,q2⟩ q
  · rw [Bool.eq_iff_iff,List.any_toArray,List.any_eq_true,List.any_eq_true]
    constructor
    · rintro ⟨y,hy,q⟩
      obtain ⟨i,t,e1,_,e3⟩:=of_decide_eq_true q
      exact ⟨t,List.mem_of_getElem? e1,e3⟩
    · rintro ⟨t,ht,e3⟩
      obtain ⟨i,hi,e1⟩:=List.getElem_of_mem ht
      have hi':i < its.length:=by omega
      exact ⟨its[i],List.getElem_mem hi',decide_eq_true ⟨i,t,by rw [← e1]; exact List.getElem?_eq_getElem hi,List.getElem?_eq_getElem hi',e3⟩⟩
theorem ZgN (x y:T):cmpT .NotIn x y=(cmpT .In x y).map (!·):=by
  cases x with
  | str cs =>
    cases cs with
    | nil=>cases y <;> rfl
    | cons a r=>cases r <;> cases y <;> rfl
  | _=>cases y <;> rfl
theorem ZhI (hu:X.A.units + 64 < cLine):OpR X (compareOp .In) (r2 X.K xr (fCmp .In)):=by
  rintro pins s σ H x y v u Q I rx ry ⟨cm,m,a,b,M,ra,rb,ho⟩
  obtain ⟨ta,tb,c,ea,eb,e,ho⟩:=XJ ho
  rcases Zap e with ⟨p,q,rfl,rfl,rfl⟩ | ⟨f,ts,hy,g,rfl⟩ | ⟨ts,rfl,dx,dt,rfl⟩
  · cases (Zg ra ea (fun _ z=>by cases z)).vstr
    cases (Zg rb eb (fun _ z=>by cases z)).vstr
    exact ZhD pins s σ H _ _ v u Q I rx ry ⟨_,_,rfl,rfl,by rw [ZkE]; exact ans ho M (.bl _)⟩
  · cases JL ra ea f
    have fin:∀ {vs:List V},RTs X.K cm m H ts vs→vs=ts.map flV∧vs.all Za6=true∧Q (.bl (inV (flV ta) vs)) H:=fun r=>by
      obtain ⟨h1,h2⟩:=RTs.fl r g
      exact ⟨h1,h2,by rw [h1,ZiM f g]; exact ans ho M (.bl _)⟩
    rcases hy with rfl | rfl
    · obtain ⟨p,vs,rfl,h1,r⟩:=(Zg rb eb (fun _ z=>by cases z)).itup
      obtain ⟨_,f2,f3⟩:=fin r
      exact ZdF pins s σ H _ _ v u Q I rx ry ⟨p,vs,rfl,.inr h1,Zbc f,f2,f3⟩
    · obtain ⟨p,vs,rfl,h1,r⟩:=ZM M rb eb
      obtain ⟨_,f2,f3⟩:=fin r
      exact ZdF pins s σ H _ _ v u Q I rx ry ⟨p,vs,rfl,.inl (.of h1),Zbc f,f2,f3⟩
  · obtain ⟨p,vs,rfl,h1,r⟩:=ZM M rb eb
    cases ry
    obtain ⟨its,e,hl,he,ha⟩:=Zip hu I M ra ea rx dx h1 r dt
    refine SeqAt.in_listAt e hl he ?_
    rw [ha]
    exact ⟨.bl _,H,I,rfl,ans ho M (.bl _)⟩
theorem ZdG (hu:X.A.units + 64 < cLine):OpR X (compareOp .NotIn) (r2 X.K xr (fCmp .NotIn)):=by
  rintro pins s σ H x y v u Q I rx ry ⟨cm,m,a,b,M,ra,rb,ho⟩
  obtain ⟨ta,tb,c',ea,eb,e,ho⟩:=XJ ho
  rw [ZgN] at e
  cases e2:cmpT .In ta tb with
  | none=>rw [e2] at e; cases e
  | some c =>
  rw [e2] at e; cases e
  rcases Zap e2 with ⟨p,q,rfl,rfl,rfl⟩ | ⟨f,ts,hy,g,rfl⟩ | ⟨ts,rfl,dx,dt,rfl⟩
  · cases (Zg ra ea (fun _ z=>by cases z)).vstr
    cases (Zg rb eb (fun _ z=>by cases z)).vstr
    exact ZdE pins s σ H _ _ v u Q I rx ry ⟨_,_,rfl,rfl,by rw [ZkE]; exact ans ho M (.bl _)⟩
  · cases JL ra ea f
    have fin:∀ {vs:List V},RTs X.K cm m H ts vs→vs=ts.map flV∧vs.all Za6=true∧Q (.bl (!inV (flV ta) vs)) H:=fun r=>by
      obtain ⟨h1,h2⟩:=RTs.fl r g
      exact ⟨h1,h2,by rw [h1,ZiM f g]; exact ans ho M (.bl _)⟩
    rcases hy with rfl | rfl
    · obtain ⟨p,vs,rfl,h1,r⟩:=(Zg rb eb (fun _ z=>by cases z)).itup
      obtain ⟨_,f2,f3⟩:=fin r
      exact ZaU pins s σ H _ _ v u Q I rx ry ⟨p,vs,rfl,.inr h1,Zbc f,f2,f3⟩
    · obtain ⟨p,vs,rfl,h1,r⟩:=ZM M rb eb
      obtain ⟨_,f2,f3⟩:=fin r
      exact ZaU pins s σ H _ _ v u Q I rx ry ⟨p,vs,rfl,.inl (.of h1),Zbc f,f2,f3⟩
  · obtain ⟨p,vs,rfl,h1,r⟩:=ZM M rb eb
    cases ry
    obtain ⟨its,e,hl,he,ha⟩:=Zip hu I M ra ea rx dx h1 r dt
    refine SeqAt.notIn_listAt e hl he ?_
    rw [ha]
    exact ⟨.bl _,H,I,rfl,ans ho M (.bl _)⟩
noncomputable def hdV:V→Option (Option Bool)
  | .non=>some none
  | .bl b=>some (some b)
  | _=>none
noncomputable def hdT:T→Option (Option Bool)
  | .non=>some none
  | .bl b=>some (some b)
  | _=>none
theorem RW.hd {w:W} {v:V} {t:T} (M:MemR K cm m H) (h:RW K cm m H w v) (e:view w m=some t):hdV v=hdT t:=by
  cases t with
  | lst ts=>obtain ⟨a,vs,rfl,_⟩:=ZM M h e; rfl
  | _=>cases Zg h e (fun _ z=>by cases z) <;> rfl
theorem is_bl {prog:Program} {w:World} {A:Around} {E:Value→Shared→Prop} {s:Shared} {x:V} {v:Value} {b:Bool} {Q:Value→Shared→Prop} (rx:RelV x v) (h:Q (.bool (hdV x == some (some b))) s) :
    wpAny (model prog w) A (compareOp .Is v (.bool b)) Q E s:=by
  cases x with
  | bl c =>
    cases rx
    refine wpAny_is_plain rfl ?_
    have e:((Value.bool c) == (Value.bool b))=(hdV (.bl c) == some (some b)):=by cases c <;> cases b <;> rfl
    rw [e]; exact h
  | non=>cases rx; exact wpAny_is_other rfl (fun z=>nomatch z) h
  | int i=>obtain ⟨t,rfl⟩:=rx; exact wpAny_is_other rfl (fun z=>nomatch z) h
  | str i=>obtain ⟨t,rfl⟩:=rx; exact wpAny_is_other rfl (fun z=>nomatch z) h
  | byt i=>obtain ⟨t,rfl⟩:=rx; exact wpAny_is_other rfl (fun z=>nomatch z) h
  | flt i=>obtain ⟨t,rfl⟩:=rx; exact wpAny_is_other rfl (fun z=>nomatch z) h
  | ref a=>cases rx; exact wpAny_is_other rfl (fun z=>nomatch z) h
  | ty n=>cases rx; exact wpAny_is_other rfl (fun z=>nomatch z) h
theorem Zj0 {prog:Program} {w:World} {A:Around} {E:Value→Shared→Prop} {s:Shared} {x:V} {v:Value} {b:Bool} {Q:Value→Shared→Prop} (rx:RelV x v) (h:Q (.bool (!(hdV x == some (some b)))) s) :
    wpAny (model prog w) A (compareOp .IsNot v (.bool b)) Q E s:=by
  cases x with
  | bl c =>
    cases rx
    refine wpAny_isNot_plain rfl ?_
    have e:((Value.bool c) == (Value.bool b))=(hdV (.bl c) == some (some b)):=by cases c <;> cases b <;> rfl
    rw [e]; exact h
  | non=>cases rx; exact wpAny_isNot_other rfl (fun z=>nomatch z) h
  | int i=>obtain ⟨t,rfl⟩:=rx; exact wpAny_isNot_other rfl (fun z=>nomatch z) h
  | str i=>obtain ⟨t,rfl⟩:=rx; exact wpAny_isNot_other rfl (fun z=>nomatch z) h
  | byt i=>obtain ⟨t,rfl⟩:=rx; exact wpAny_isNot_other rfl (fun z=>nomatch z) h
  | flt i=>obtain ⟨t,rfl⟩:=rx; exact wpAny_isNot_other rfl (fun z=>nomatch z) h
  | ref a=>cases rx; exact wpAny_isNot_other rfl (fun z=>nomatch z) h
  | ty n=>cases rx; exact wpAny_isNot_other rfl (fun z=>nomatch z) h
theorem Ziu {x y:T} {c:Bool} (e:cmpT .Is x y=some c):(y = .non∧c=(hdT x == some none))∨∃ b,y = .bl b∧c=(hdT x == some (some b)):=by
  cases y with
  | non=>cases x <;> (cases e; exact .inl ⟨rfl,rfl⟩)
  | bl b =>
    refine .inr ⟨b,rfl,?_⟩
    cases x with
    | bl a=>cases e; cases a <;> cases b <;> rfl
    | _=>cases e; rfl
  | _=>cases x <;> cases e
theorem ZgO (x y:T):cmpT .IsNot x y=(cmpT .Is x y).map (!·):=by
  cases y with
  | non=>cases x <;> rfl
  | bl b=>cases x <;> first | rfl | (rename_i a; cases a <;> cases b <;> rfl)
  | _=>cases x <;> rfl
theorem ZkC {x:V}:decide (x = .non)=(hdV x == some none):=by cases x <;> first | rfl | exact decide_eq_true rfl | exact decide_eq_false (fun z=>nomatch z)
theorem ZhH:OpR X (compareOp .Is) (r2 X.K xr (fCmp .Is)):=by
  rintro pins s σ H x y v u Q I rx ry ⟨cm,m,a,b,M,ra,rb,ho⟩
  obtain ⟨ta,tb,c,ea,eb,e,ho⟩:=XJ ho
  have hx:=RW.hd M ra ea
  rcases Ziu e with ⟨rfl,rfl⟩ | ⟨k,rfl,rfl⟩
  · cases (Zg rb eb (fun _ z=>by cases z)).vnon
    refine op_isN pins s σ H _ _ v u Q I rx ry ⟨rfl,?_⟩
    rw [ZkC,hx]
    exact ans ho M (.bl _)
  · cases (Zg rb eb (fun _ z=>by cases z)).vbl
    cases ry
    refine is_bl rx ⟨.bl _,H,I,rfl,?_⟩
    rw [hx]
    exact ans ho M (.bl _)
theorem ZdH:OpR X (compareOp .IsNot) (r2 X.K xr (fCmp .IsNot)):=by
  rintro pins s σ H x y v u Q I rx ry ⟨cm,m,a,b,M,ra,rb,ho⟩
  obtain ⟨ta,tb,c',ea,eb,e,ho⟩:=XJ ho
  have hx:=RW.hd M ra ea
  rw [ZgO] at e
  cases e2:cmpT .Is ta tb with
  | none=>rw [e2] at e; cases e
  | some c =>
  rw [e2] at e; cases e
  rcases Ziu e2 with ⟨rfl,rfl⟩ | ⟨k,rfl,rfl⟩
  · cases (Zg rb eb (fun _ z=>by cases z)).vnon
    refine ZlG pins s σ H _ _ v u Q I rx ry ⟨rfl,?_⟩
    rw [ZkC,hx]
    exact ans ho M (.bl _)
  · cases (Zg rb eb (fun _ z=>by cases z)).vbl
    cases ry
    refine Zj0 rx ⟨.bl _,H,I,rfl,?_⟩
    rw [hx]
    exact ans ho M (.bl _)
theorem Zcm (hu:X.A.units + 64 < cLine):∀ op:CmpOp,OpR X (compareOp op) (r2 X.K xr (fCmp op))
  | .Eq=>ZhL hu
  | .NotEq=>ZhE hu
  | .Lt=>ZhF
  | .LtE=>ZhG
  | .Gt=>ZhJ
  | .GtE=>ZhK
  | .Is=>ZhH
  | .IsNot=>ZdH
  | .In=>ZhI hu
  | .NotIn=>ZdG hu
noncomputable def fIx (x y:W) (m:Mem):Res W:=pur ((view x m).bind fun x=>(view y m).bind fun y=>ixT x y) m
theorem Zl1 (n:Nat) (i:Int):ixOf n i=ixN n i:=rfl
theorem ZaQ {α β:Type} {F:α→β→Prop} {xs:List α} {ys:List β} (h:Paired F xs ys) {i:Int} {x:α} (e:atT xs i=some x):∃ y,atI ys i=some y∧F x y:=by
  unfold atT at e
  unfold atI
  rw [← h.length]
  cases q:ixOf xs.length i with
  | none=>rw [q] at e; cases e
  | some j =>
    rw [q] at e
    rw [Zl1] at q
    obtain ⟨y,e1,e2⟩:=ZS h e
    exact ⟨y,by rw [q]; exact e1,e2⟩
theorem Zaw (ns:List Int):RTs K cm m H (ns.map .int) (ns.map V.int):=by
  induction ns with
  | nil=>exact .nil
  | cons n ns ih=>exact .cons (.int n) ih
theorem Zms {α β:Type} (f:α→β) (xs:List α) (i:Int):atT (xs.map f) i=(atT xs i).map f:=by
  unfold atT
  rw [List.length_map]
  cases ixOf xs.length i with
  | none=>rfl
  | some j=>simp
theorem ix_ix:IxR X (r2 X.K xr fIx):=by
  rintro value slice pins s σ H x y v u Q I rx ry ⟨cm,m,a,b,M,ra,rb,ho⟩ hs
  obtain ⟨t,e,ho⟩:=Q0 ho
  obtain ⟨ta,tb,ea,eb,e⟩:=Zcb e
  unfold ixT at e
  have hz:=ZG
  split at e
  · cases (Zg rb eb (fun _ z=>by cases z)).vint
    obtain ⟨p,vs,rfl,h1,r⟩:=(Zg ra ea (fun _ z=>by cases z)).itup
    obtain ⟨z,e1,e2⟩:=ZaQ r e
    exact ix_tup value slice pins s σ H _ _ v u Q I rx ry ⟨p,vs,_,z,rfl,rfl,h1,e1,ans ho M e2⟩ hs
  · cases (Zg rb eb (fun _ z=>by cases z)).vint
    obtain ⟨p,vs,rfl,h1,r⟩:=ZM M ra ea
    obtain ⟨z,e1,e2⟩:=ZaQ r e
    exact Zic value slice pins s σ H _ _ v u Q I rx ry ⟨p,vs,_,z,rfl,rfl,.of h1,e1,ans ho M e2⟩ hs
  · cases (Zg rb eb (fun _ z=>by cases z)).vint
    obtain ⟨p,rfl,h1⟩:=(Zg ra ea (fun _ z=>by cases z)).vscr
    rw [← Zms] at e
    obtain ⟨z,e1,e2⟩:=ZaQ (Zaw (K:=X.K) (cm:=cm) (m:=m) (H:=H) _) e
    exact Zic value slice pins s σ H _ _ v u Q I rx ry ⟨p,_,_,z,rfl,rfl,h1.sq,e1,ans ho M e2⟩ hs
  · split at e
    · rename_i cs k hl
      cases (Zg rb eb (fun _ z=>by cases z)).vint
      cases (Zg ra ea (fun _ z=>by cases z)).vstr
      cases q:atT cs k with
      | none=>rw [q] at e; cases e
      | some c =>
        rw [q] at e; cases e
        exact ix_str value slice pins s σ H _ _ v u Q I rx ry ⟨_,k,c,rfl,rfl,by rw [Xh]; omega,q,ans ho M (.str [c])⟩ hs
    · cases e
  · cases e
end
end Mi
end
section
namespace Mi
open PySem PySem.Spec PyProof.Rows L2
section
variable {P:Program} {w:World} {A:Around} {E:Value→Shared→Prop} {s:Shared}
structure Side (z TI TO i j a b:Addr) (k:Nat) (h:Heap):Prop where
  zip:IsZip h z TI TO .none
  its:IsPair h TI (.ref i) (.ref j)
  out:∃ p q,IsPair h TO p q
  one:h.IsTupleIter i a k
  two:h.IsTupleIter j b k
end
noncomputable def Itz (K:PySem.W.Frag) (a b:Addr):It :=
  ⟨fun i H=>∃ xs ys x y,SqT K H a xs∧SqT K H b ys∧xs[i]? = some x∧ys[i]? = some y,
   fun i H v H'=>∃ x y c,(∀ xs,SqT K H a xs→xs[i]? = some x)∧(∀ ys,SqT K H b ys→ys[i]? = some y)∧H c=none∧v = .ref c∧H' = upd H c (.tup [x,y]),
   fun i H=>∃ xs,SqT K H a xs∧xs.length≤i⟩
end Mi
end
section
namespace Mi
open PySem PySem.Spec PyProof.Rows L2
theorem apn (n:Nat) {a b:Nat} (h:a≠b):n + a≠n + b:=by omega
theorem apl {n l:Nat} (a:Nat) (h:l < n):l≠n + a:=by omega
noncomputable def It4 (n:Nat) (l:Nat→Nat) (xs:Nat→Array Value) (p:Nat→Nat) (h:Heap):Prop:=∀ j:Nat,j < 4→h.IsListIter (n + j) (l j) (p j)∧h.IsList (l j) (xs j)∧l j < n
theorem It4.but {n:Nat} {l:Nat→Nat} {xs:Nat→Array Value} {p:Nat→Nat} {h g:Heap} {c:Nat} (J:It4 n l xs p h) (sb:Heap.SameBut (n + c) h g) (hc:4≤c):It4 n l xs p g:=by
  intro j hj
  obtain ⟨a,b,c'⟩:=J j hj
  have hne:j≠c:=by omega
  exact ⟨a.extBut sb.extBut (apn n hne),b.extBut sb.extBut (apl _ c'),c'⟩
theorem It4.push {n:Nat} {l:Nat→Nat} {xs:Nat→Array Value} {p:Nat→Nat} {h:Heap} (J:It4 n l xs p h) (o:Obj):It4 n l xs p (h.push o):=fun j hj =>
  let ⟨a,b,c'⟩:=J j hj
  ⟨a.at fun o' e=>Heap.get?_push_of_some _ e,b.push _,c'⟩
noncomputable abbrev IsZ (h:Heap) (n:Nat) (f0:Value) (f1:Bool):Prop :=
  h.get? (n + 6)=some { cls:=.type "zip",dict:=none,data:=.fields #[f0,.bool f1,.bool false,.ref (n + 4),.ref (n + 5)],slots:=#[] }
noncomputable abbrev IsQ (h:Heap) (t:Nat) (a b c d:Value):Prop:=h.get? t=some { cls:=.type "tuple",data:=.seq #[a,b,c,d] }
section
variable {P:Program} {w:World} {A:Around} {E:Value→Shared→Prop} {s:Shared} {n:Nat} {l:Nat→Nat} {xs:Nat→Array Value} {p:Nat→Nat}
noncomputable def Free (h:Heap) (n:Nat):Prop:=∃ f1,IsZ h n .none f1∨∃ a:Nat,IsZ h n (rawInt a) f1
structure Sd (n:Nat) (l:Nat→Nat) (k:Nat) (h:Heap):Prop where
  zip:Free h n
  its:IsQ h (n + 4) (.ref (n + 0)) (.ref (n + 1)) (.ref (n + 2)) (.ref (n + 3))
  out:∃ a b c d,IsQ h (n + 5) a b c d
  pos:∀ j:Nat,j < 4→h.IsListIter (n + j) (l j) k∧l j < n
noncomputable def Kp (n:Nat) (h g:Heap):Prop:=g.objs.size=h.objs.size∧∀ c o,(c < n∨n + 7≤c)→h.get? c=some o→g.get? c=some o
theorem Kp.refl (n:Nat) (h:Heap):Kp n h h:=⟨rfl,fun _ _ _ e=>e⟩
theorem Kp.step {n j:Nat} {h g g':Heap} (k:Kp n h g) (sb:Heap.SameBut (n + j) g g') (hj:j < 7):Kp n h g':=by
  refine ⟨sb.1.trans k.1,fun c o hc e=>sb.extBut _ _ ?_ (k.2 c o hc e)⟩
  intro h
  subst h
  omega
end
noncomputable abbrev fp4 (n:Nat):List Addr:=[n + 6,n + 4,n + 5,n + 0,n + 1,n + 2,n + 3]
theorem Sd.at' {n:Nat} {l:Nat→Nat} {k:Nat} {h:Heap} (S:Sd n l k h):∀ c∈fp4 n,∃ o,h.get? c=some o∧∀ v,o.data≠.cell v:=by
  obtain ⟨hz,hI,⟨a,b,c',d,hO⟩,hp⟩:=S
  have hit:∀ j:Nat,j < 4→∃ o,h.get? (n + j)=some o∧∀ v,o.data≠.cell v:=fun j hj=>by
    obtain ⟨⟨o,e,_,dd⟩,_⟩:=hp j hj
    exact ⟨o,e,fun v y=>by rw [dd] at y; cases y⟩
  intro c hc
  simp only [fp4,List.mem_cons,List.not_mem_nil,or_false] at hc
  rcases hc with rfl | rfl | rfl | rfl | rfl | rfl | rfl
  · obtain ⟨f1,hz | ⟨a,hz⟩⟩:=hz
    · exact ⟨_,hz,fun v y=>by cases (show Data.fields _=Data.cell v from y)⟩
    · exact ⟨_,hz,fun v y=>by cases (show Data.fields _=Data.cell v from y)⟩
  · exact ⟨_,hI,fun v y=>by cases (show Data.seq _ _=Data.cell v from y)⟩
  · exact ⟨_,hO,fun v y=>by cases (show Data.seq _ _=Data.cell v from y)⟩
  · exact hit 0 (by decide)
  · exact hit 1 (by decide)
  · exact hit 2 (by decide)
  · exact hit 3 (by decide)
theorem Sd.keep {n:Nat} {l:Nat→Nat} {k:Nat} {h h':Heap} (S:Sd n l k h) (f:∀ b∈fp4 n,∀ o,h.get? b=some o→h'.get? b=some o):Sd n l k h':=by
  obtain ⟨hz,hI,⟨a,b,c',d,hO⟩,hp⟩:=S
  refine ⟨?_,f _ (by simp [fp4]) _ hI,⟨a,b,c',d,f _ (by simp [fp4]) _ hO⟩,fun j hj=>⟨(hp j hj).1.at fun o e=>f _ ?_ o e,(hp j hj).2⟩⟩
  · obtain ⟨f1,hz | ⟨a,hz⟩⟩:=hz
    · exact ⟨f1,.inl (f _ (by simp [fp4]) _ hz)⟩
    · exact ⟨f1,.inr ⟨a,f _ (by simp [fp4]) _ hz⟩⟩
  · match j,hj with
    | 0,_=>simp [fp4]
    | 1,_=>simp [fp4]
    | 2,_=>simp [fp4]
    | 3,_=>simp [fp4]
noncomputable def Itz4 (K:PySem.W.Frag) (l:Nat→Nat):It :=
  ⟨fun i H=>∃ (xs:Nat→List V) (x:Nat→V),∀ j:Nat,j < 4→SqL K H (l j) (xs j)∧(xs j)[i]? = some (x j),
   fun i H v H'=>∃ (x:Nat→V) (c:Addr),(∀ j:Nat,j < 4→∀ ys,SqL K H (l j) ys→ys[i]? = some (x j))∧H c=none∧v = .ref c∧H' = upd H c (.tup [x 0,x 1,x 2,x 3]),
   fun i H=>∃ xs,SqL K H (l 0) xs∧xs.length≤i⟩
noncomputable def pick4 {α:Type} (a b c d:α):Nat→α
  | 0=>a
  | 1=>b
  | 2=>c
  | _=>d
theorem all4 {Q:Nat→Prop} (h0:Q 0) (h1:Q 1) (h2:Q 2) (h3:Q 3):∀ j:Nat,j < 4→Q j
  | 0,_=>h0
  | 1,_=>h1
  | 2,_=>h2
  | 3,_=>h3
end Mi
end
section
namespace Mi
open PySem PySem.Spec PyProof.Rows L2
noncomputable def Ite (K:PySem.W.Frag) (l:Addr):It :=
  ⟨fun i H=>∃ xs x,SqL K H l xs∧xs[i]? = some x,
   fun i H v H'=>∃ x c,(∀ xs,SqL K H l xs→xs[i]? = some x)∧H c=none∧v = .ref c∧H' = upd H c (.tup [.int (i:Int),x]),
   fun i H=>∃ xs,SqL K H l xs∧xs.length≤i⟩
end Mi
end
section
namespace Mi
open PySem PySem.Spec PyProof.Rows L2
noncomputable def Its (cs:List Nat):It:=⟨fun i _=>i < cs.length,fun i H x H'=>H' = H∧∃ c,cs[i]? = some c∧x = .str ⟨#[c]⟩,fun i _=>cs.length≤i⟩
theorem Zff {P:Program} {w:World} {K:PySem.W.Frag} {tg:Expr} {cs:List Nat} {it:Addr} {cl:String} {t:Tok}
    (hcl:["enumerate","zip","dict_itemiterator","dict_reverseitemiterator","odict_iterator","itertools.zip_longest","itertools.pairwise"].contains cl=false)
    (hself:∀ (A:Around) (i:Nat) (s:Shared) (Q:Value→Shared→Prop) (E:Value→Shared→Prop),s.heap.IsStrIter it cl ⟨cs.toArray⟩ t i→Q (.ref it) s→wpAny (model P w) A (pyIter (.ref it)) Q E s)
    (W:∀ A':Around,A'.handled=none→Walks P w A' it [it] [it] cs.length (SignAt ⟨cs.toArray⟩) (fun i h=>h.IsStrIter it cl ⟨cs.toArray⟩ t i)):Turn P w K tg (Its cs) [it] it (fun i h=>h.IsStrIter it cl ⟨cs.toArray⟩ t i∧i≤cs.length) where
  mem:=by simp
  obj:=fun i h st b hb=>by
    have e:b=it:=by simpa using hb
    subst e
    obtain ⟨⟨o,e,c,d⟩,_⟩:=st
    exact ⟨o,e,fun v z=>by rw [d] at z; cases z⟩
  keep:=fun i h h' st k=>⟨let ⟨⟨o,ho,r⟩,_⟩:=st; ⟨o,k it (by simp) o ho,r⟩,st.2⟩
  item:=by
    intro X hP hw hK hc i pins s σ H E I hf st hg
    subst hP hw hK
    obtain ⟨f0,f1,f2,f3,f4,f5⟩:=hf it (by simp)
    have hg':i < cs.length:=hg
    refine (W X.A (I.ok.hd hc)).item i s _ _ hg' st.1 fun v h' tk hv st' kk=>?_
    obtain ⟨c,u,hc',rfl⟩:=hv
    have I1:Inv X pins σ H { s with heap:=h',toks:=tk }:=I.turned (fun b o hb e=>kk b o (by simpa using hb) e) f0 f1 f3 f4 f5
    obtain ⟨o,e,cc,d⟩:=id st'
    refine ⟨_,rfl,Zj2 (s:={ s with heap:=h',toks:=tk }) e cc d hcl ⟨.str ⟨#[c]⟩,H,I1,⟨u,rfl⟩,⟨rfl,c,by simpa using hc',rfl⟩,⟨st',by omega⟩,fun b hb=>(hf b hb).1⟩⟩
  done:=by
    intro X hP hw hK hc i pins s σ H E I hf st hg
    subst hP hw hK
    obtain ⟨f0,f1,f2,f3,f4,f5⟩:=hf it (by simp)
    have hg':cs.length≤i:=hg
    have e:i=cs.length:=by have:=st.2; omega
    subst e
    exact (W X.A (I.ok.hd hc)).done s _ _ st.1 fun h' tk kk=>⟨rfl,I.turned (fun b o hb e=>kk b o (by simpa using hb) e) f0 f1 f3 f4 f5⟩
  self:=fun A i s Q E st h=>hself A i s Q E st.1 h
section
variable {K:PySem.W.Frag} {cm cm':List Addr} {m m':Mem} {H H':Hp} {xr:XR} {X:Cx}
variable (K) in
inductive Src (cm:List Addr) (m:Mem) (H:Hp):It→List T→Prop where
  | tup {a:Addr} {vs:List V} {ts:List T}:SqT K H a vs→RTs K cm m H ts vs→Src cm m H (Itt K a) ts
  | lst {a:Addr} {vs:List V} {ts:List T}:H a=some (.lst vs)→Zt cm m a→RTs K cm m H ts vs→Src cm m H (Itl K a) ts
  | cel {a:Addr} {i:Nat} {ts:List T}:m[i]? = some (some (true,ts))→cm[i]? = some a→Src cm m H (Itl K a) ts
  | scr {a:Addr} (ns:List Int):Zeo K H a ns→Src cm m H (Itl K a) (ns.map .int)
  | str (cs:List Nat):Src cm m H (Its cs) (cs.map fun c=>.str [c])
  | rng (lo:Int) (n:Nat):Src cm m H (Itr lo n) (rangeT lo n)
  | zip {a b:Addr} {xs ys:List V} {ts us:List T}:SqT K H a xs→SqT K H b ys→RTs K cm m H ts xs→RTs K cm m H us ys→ts.length=us.length→Src cm m H (Itz K a b) (zipL ts us)
  | zip4 {l:Nat→Nat} {vs:Nat→List V} {ts:Nat→List T}:(∀ j:Nat,j < 4→H (l j)=some (.lst (vs j))∧Zt cm m (l j)∧RTs K cm m H (ts j) (vs j))→(∀ j:Nat,j < 4→(ts 0).length=(ts j).length)→Src cm m H (Itz4 K l) (Zg2 (ts 0) (ts 1) (ts 2) (ts 3))
  | enm {a:Addr} {vs:List V} {ts:List T}:H a=some (.lst vs)→Zt cm m a→RTs K cm m H ts vs→Src cm m H (Ite K a) (ZgJ ts)
theorem Src.ext (x:Ext cm m H cm' m' H') (M:MemR K cm m H) (M':MemR K cm' m' H') {J:It} {ts:List T} (h:Src K cm m H J ts):Src K cm' m' H' J ts:=by
  cases h with
  | tup h1 h2=>exact .tup (x.sqT M h1) (RTs.ext x M M' h2)
  | lst h1 h2 h3=>exact .lst (x.keep _ _ h1 h2).1 (x.keep _ _ h1 h2).2 (RTs.ext x M M' h3)
  | cel h1 h2=>exact .cel (x.lent _ _ h1) (x.pre _ _ h2)
  | scr ns h=>exact .scr ns (x.scr M h)
  | str cs=>exact .str cs
  | rng lo n=>exact .rng lo n
  | zip h1 h2 h3 h4 h5=>exact .zip (x.sqT M h1) (x.sqT M h2) (RTs.ext x M M' h3) (RTs.ext x M M' h4) h5
  | zip4 h1 h2=>exact .zip4 (fun j hj=>let ⟨a,b,c⟩:=h1 j hj; ⟨(x.keep _ _ a b).1,(x.keep _ _ a b).2,RTs.ext x M M' c⟩) h2
  | enm h1 h2 h3=>exact .enm (x.keep _ _ h1 h2).1 (x.keep _ _ h1 h2).2 (RTs.ext x M M' h3)
theorem stay (M:MemR K cm m H) (z:H' = H) {t:T} {x:V} (r:RT K cm m H t x):Ext cm m H cm m H'∧MemR K cm m H'∧RT K cm m H' t x:=by
  subst z
  exact ⟨.refl,M,r⟩
theorem ZiR {xs ys:List T} {i:Nat} {t:T} (e:(zipL xs ys)[i]? = some t):∃ x y,xs[i]? = some x∧ys[i]? = some y∧t = .tup [x,y]:=by
  unfold zipL at e
  rw [List.getElem?_zipWith] at e
  split at e
  · rename_i x y h1 h2
    cases e
    exact ⟨x,y,h1,h2,rfl⟩
  · cases e
theorem Zg1 {a b c d:List T} {i:Nat} {t:T} (e:(Zg2 a b c d)[i]? = some t):∃ x y z w,a[i]? = some x∧b[i]? = some y∧c[i]? = some z∧d[i]? = some w∧t = .tup [x,y,z,w]:=by
  unfold Zg2 at e
  rw [List.getElem?_map] at e
  obtain ⟨p,h1,h2⟩:=Option.map_eq_some_iff.mp e
  obtain ⟨q1,q2⟩:=List.getElem?_zip_eq_some.mp h1
  obtain ⟨q3,q4⟩:=List.getElem?_zip_eq_some.mp q2
  obtain ⟨q5,q6⟩:=List.getElem?_zip_eq_some.mp q4
  exact ⟨_,_,_,_,q1,q3,q5,q6,h2.symm⟩
theorem Zio {xs:List T} {i:Nat} {t:T} (e:(ZgJ xs)[i]? = some t):∃ x,xs[i]? = some x∧t = .tup [.int (i:Int),x]:=by
  unfold ZgJ at e
  rw [List.getElem?_zipWith] at e
  split at e
  · rename_i k y h1 h2
    cases e
    have hi:=(List.getElem?_eq_some_iff.mp h1).1
    rw [List.length_range] at hi
    rw [List.getElem?_range hi] at h1
    cases h1
    exact ⟨y,h2,rfl⟩
  · cases e
theorem Zd4 (xs:List T):(ZgJ xs).length=xs.length:=by
  unfold ZgJ
  rw [List.length_zipWith,List.length_range,Nat.min_self]
theorem Src.go (M:MemR K cm m H) {J:It} {ts:List T} (h:Src K cm m H J ts) {i:Nat} {t:T} (e:ts[i]? = some t):J.go i H∧∀ x H',J.yld i H x H'→Ext cm m H cm m H'∧MemR K cm m H'∧RT K cm m H' t x:=by
  cases h with
  | tup h1 h2 =>
    obtain ⟨v,e1,e2⟩:=ZS h2 e
    refine ⟨⟨_,v,h1,e1⟩,fun x H' ⟨z,q⟩=>stay M z ?_⟩
    have:=q _ h1
    rw [e1] at this; cases this
    exact e2
  | lst h1 h2 h3 =>
    obtain ⟨v,e1,e2⟩:=ZS h3 e
    refine ⟨⟨_,v,.of h1,e1⟩,fun x H' ⟨z,q⟩=>stay M z ?_⟩
    have:=q _ (.of h1)
    rw [e1] at this; cases this
    exact e2
  | cel h1 h2 =>
    obtain ⟨b,vs,q1,q2,q3,q4⟩:=M.at' _ _ h1
    rw [h2] at q1; cases q1
    obtain ⟨v,e1,e2⟩:=ZS q4 e
    refine ⟨⟨_,v,.of q2,e1⟩,fun x H' ⟨z,q⟩=>stay M z ?_⟩
    have:=q _ (.of q2)
    rw [e1] at this; cases this
    exact e2
  | scr ns h =>
    obtain ⟨v,e1,e2⟩:=ZS (Zaw (K:=K) (cm:=cm) (m:=m) (H:=H) ns) e
    refine ⟨⟨_,v,h.sq,e1⟩,fun x H' ⟨z,q⟩=>stay M z ?_⟩
    have:=q _ h.sq
    rw [e1] at this; cases this
    exact e2
  | str cs =>
    rw [List.getElem?_map] at e
    cases q:cs[i]? with
    | none=>rw [q] at e; cases e
    | some c =>
      rw [q] at e; cases e
      refine ⟨(List.getElem?_eq_some_iff.mp q).1,fun x H' ⟨z,c',q',e'⟩=>stay M z ?_⟩
      rw [q] at q'; cases q'
      subst e'
      exact .str [c]
  | rng lo n =>
    unfold rangeT at e
    rw [List.getElem?_map] at e
    cases q:(List.range n)[i]? with
    | none=>rw [q] at e; cases e
    | some k =>
      rw [q] at e; cases e
      have hi:=(List.getElem?_eq_some_iff.mp q).1
      rw [List.length_range] at hi
      rw [List.getElem?_range hi] at q
      cases q
      exact ⟨hi,fun x H' ⟨z,e'⟩=>stay M z (by subst e'; exact .int _)⟩
  | zip h1 h2 h3 h4 h5 =>
    obtain ⟨x,y,hx,hy,rfl⟩:=ZiR e
    obtain ⟨u,e1,r1⟩:=ZS h3 hx
    obtain ⟨v,e2,r2⟩:=ZS h4 hy
    refine ⟨⟨_,_,u,v,h1,h2,e1,e2⟩,?_⟩
    rintro x' H' ⟨u',v',c,q1,q2,hc,rfl,rfl⟩
    have z1:=q1 _ h1
    rw [e1] at z1; cases z1
    have z2:=q2 _ h2
    rw [e2] at z2; cases z2
    exact ⟨.new hc,M.new hc,RT.newTup (.cons r1 (.cons r2 .nil)) hc⟩
  | @zip4 l vs ts h1 h2 =>
    obtain ⟨x0,x1,x2,x3,e0,e1,e2,e3,rfl⟩:=Zg1 e
    obtain ⟨q0,_,p0⟩:=h1 0 (by decide)
    obtain ⟨q1,_,p1⟩:=h1 1 (by decide)
    obtain ⟨q2,_,p2⟩:=h1 2 (by decide)
    obtain ⟨q3,_,p3⟩:=h1 3 (by decide)
    obtain ⟨u0,f0,r0⟩:=ZS p0 e0
    obtain ⟨u1,f1,r1⟩:=ZS p1 e1
    obtain ⟨u2,f2,r2⟩:=ZS p2 e2
    obtain ⟨u3,f3,r3⟩:=ZS p3 e3
    refine ⟨⟨vs,pick4 u0 u1 u2 u3,all4 ⟨.of q0,f0⟩ ⟨.of q1,f1⟩ ⟨.of q2,f2⟩ ⟨.of q3,f3⟩⟩,?_⟩
    rintro x' H' ⟨x,c,q,hc,rfl,rfl⟩
    have z0:=q 0 (by decide) _ (.of q0)
    rw [f0] at z0
    have z1:=q 1 (by decide) _ (.of q1)
    rw [f1] at z1
    have z2:=q 2 (by decide) _ (.of q2)
    rw [f2] at z2
    have z3:=q 3 (by decide) _ (.of q3)
    rw [f3] at z3
    rw [← Option.some.inj z0,← Option.some.inj z1,← Option.some.inj z2,← Option.some.inj z3]
    exact ⟨.new hc,M.new hc,RT.newTup (.cons r0 (.cons r1 (.cons r2 (.cons r3 .nil)))) hc⟩
  | enm h1 h2 h3 =>
    obtain ⟨x,hx,rfl⟩:=Zio e
    obtain ⟨u,e1,r1⟩:=ZS h3 hx
    refine ⟨⟨_,u,.of h1,e1⟩,?_⟩
    rintro x' H' ⟨u',c,q1,hc,rfl,rfl⟩
    have z1:=q1 _ (.of h1)
    rw [e1] at z1; cases z1
    exact ⟨.new hc,M.new hc,RT.newTup (.cons (.int _) (.cons r1 .nil)) hc⟩
theorem Src.stop (M:MemR K cm m H) {J:It} {ts:List T} (h:Src K cm m H J ts) {i:Nat} (e:ts[i]? = none):J.stop i H:=by
  have l:=List.getElem?_eq_none_iff.mp e
  cases h with
  | tup h1 h2=>exact ⟨_,h1,by rw [← h2.length]; exact l⟩
  | lst h1 h2 h3=>exact ⟨_,.of h1,by rw [← h3.length]; exact l⟩
  | cel h1 h2 =>
    obtain ⟨b,vs,q1,q2,q3,q4⟩:=M.at' _ _ h1
    rw [h2] at q1; cases q1
    exact ⟨_,.of q2,by rw [← q4.length]; exact l⟩
  | scr ns h=>exact ⟨_,h.sq,by rw [List.length_map] at l ⊢; exact l⟩
  | str cs=>rw [List.length_map] at l; exact l
  | rng lo n =>
    unfold rangeT at l
    rw [List.length_map,List.length_range] at l
    exact l
  | zip h1 h2 h3 h4 h5 =>
    refine ⟨_,h1,?_⟩
    unfold zipL at l
    rw [List.length_zipWith] at l
    rw [← h3.length]
    omega
  | @zip4 l vs ts h1 h2 =>
    obtain ⟨q0,_,p0⟩:=h1 0 (by decide)
    refine ⟨_,.of q0,?_⟩
    have l1:=h2 1 (by decide)
    have l2:=h2 2 (by decide)
    have l3:=h2 3 (by decide)
    unfold Zg2 at l
    rw [List.length_map,List.length_zip,List.length_zip,List.length_zip] at l
    rw [← p0.length]
    omega
  | enm h1 h2 h3 =>
    refine ⟨_,.of h1,?_⟩
    rw [Zd4] at l
    rw [← h3.length]
    exact l
variable (K) in
noncomputable def tI (call:Nat→List W→Mem→Res W) (gv:List T) (xr:XR) (it:E):TI:=fun σ H R=>∃ env cm m,EnvR K cm m H env σ∧MemR K cm m H ∧
  OkR K (ev call gv it env m) xr cm m H fun x cm1 m1 H1=>∃ ts m2,Z7 x m1 = .ok ts m2∧∀ J,Src K cm1 m2 H1 J ts→R J H1
theorem PI.mono {tg iter:Expr} {t t':TI} (h:PI X tg iter t) (f:∀ σ H R,t' σ H R→t σ H R):PI X tg iter t':=fun pins s σ H R I q=>h pins s σ H R I (f σ H R q)
theorem pi_of {tg iter:Expr} {call:Nat→List W→Mem→Res W} {gv:List T} {it:E} (h:PE X iter (tE X.K call gv xr it)):PI X tg iter (tI X.K call gv xr it):=by
  rintro pins s σ H R I ⟨env,cm,m,hE,hM,ho⟩
  refine thn (h pins s σ H (fun v H1=>∃ cm1 m1 w,MemR X.K cm1 m1 H1∧RW X.K cm1 m1 H1 w v∧∃ ts m2,Z7 w m1 = .ok ts m2∧∀ J,Src X.K cm1 m2 H1 J ts→R J H1) I
    ⟨env,cm,m,hE,hM,ho.mono fun w cm1 m1 H1 x1 M1 o1 v rv=>⟨cm1,m1,w,M1,rv,o1⟩⟩) fun v s1 ⟨x,H1,I1,r1,cm1,m1,w,M1,rw1,ts0,m2,eb,o1⟩=>?_
  -- an iterator over a list that stands at a
  have onList:∀ (a:Addr) (vs:List V),x = .ref a→SqL X.K H1 a vs→R (Itl X.K a) H1→wpAny (model X.prog X.w) X.A (pyIter v) (PIE X pins σ tg R) X.xe s1:=fun a vs e hq q=>by
    subst e
    cases r1
    obtain ⟨its,rv,p,hz⟩:=I1.list hq
    refine wpAny_pyIter_list p.isList ?_
    refine ⟨s1.heap.objs.size,[s1.heap.objs.size],_,_,H1,rfl,I1.kept (t':=s1.toks) fun b o e=>Heap.get?_push_of_some _ e,Zg9 a _,⟨_,Heap.get?_push_size _ rfl,rfl,rfl⟩,fun b hb=>?_,q⟩
    have e:b=s1.heap.objs.size:=by simpa using hb
    subst e
    exact I1.fpOk (Nat.le_refl _) (I1.hok.fresh (Nat.le_refl _))
  cases w with
  | f a=>cases eb
  | c i =>
    unfold Z7 at eb
    dsimp only at eb
    split at eb
    · rename_i fl ts e
      cases eb
      obtain ⟨a,vs,q1,q2,_⟩:=M1.at' i _ e
      obtain ⟨b,h1,h2⟩:=rw1
      rw [q1] at h1; cases h1
      exact onList a vs h2 (.of q2) (o1 _ (.cel (List.getElem?_set_self (List.getElem?_eq_some_iff.mp e).1) q1))
    · cases eb
  | t t =>
    unfold Z7 at eb
    dsimp only at eb
    cases t with
    | tup ts =>
      cases eb
      obtain ⟨a,vs,e,h1,h2⟩:=RT.itup rw1
      subst e
      cases r1
      obtain ⟨its,rv,p,hz⟩:=I1.tuple h1
      refine wpAny_pyIter_tuple (show s1.heap.IsTuple a its.toArray from p) ?_
      refine ⟨s1.heap.objs.size,[s1.heap.objs.size],_,_,H1,rfl,I1.kept (t':=s1.toks) fun b o e=>Heap.get?_push_of_some _ e,ZfV a _,⟨_,Heap.get?_push_size _ rfl,rfl,rfl⟩,fun b hb=>?_,o1 _ (.tup h1 h2)⟩
      have e:b=s1.heap.objs.size:=by simpa using hb
      subst e
      exact I1.fpOk (Nat.le_refl _) (I1.hok.fresh (Nat.le_refl _))
    | lst ts =>
      cases eb
      obtain ⟨a,vs,e,h1,h2,h3⟩:=RT.ilst rw1
      exact onList a vs e (.of h1) (o1 _ (.lst h1 h2 h3))
    | scr ns =>
      cases eb
      obtain ⟨a,e,h1⟩:=RT.vscr rw1
      exact onList a _ e h1.sq (o1 _ (.scr ns h1))
    | str cs =>
      unfold ZfB at eb
      dsimp only at eb
      split at eb
      · rename_i ts e
        split at e <;> cases e
        cases eb
        cases RT.vstr rw1
        obtain ⟨t,rfl⟩:=r1
        have q:=o1 _ (.str cs)
        have I2:∀ o:Obj,Inv X pins σ H1 { s1 with heap:=s1.heap.push o }:=fun o=>I1.kept (t':=s1.toks) fun b o e=>Heap.get?_push_of_some _ e
        have fpk:∀ b∈[s1.heap.objs.size],FpOk X pins H1 b:=fun b hb=>by
          have e:b=s1.heap.objs.size:=by simpa using hb
          subst e
          exact I1.fpOk (Nat.le_refl _) (I1.hok.fresh (Nat.le_refl _))
        cases ha:(⟨cs.toArray⟩:Str).cps.all (· < 128)
        · refine wpAny_pyIter_wide ha ?_
          exact ⟨s1.heap.objs.size,[s1.heap.objs.size],_,_,H1,rfl,I2 _,Zff (cl:="str_iterator") (t:=t) (by decide) (fun A i s Q E st h=>wpAny_pyIter_striter_wide st h) (fun A' hA=>by simpa using Walks.strWide hA _ ⟨cs.toArray⟩ t),⟨⟨_,Heap.get?_push_size _ rfl,rfl,rfl⟩,Nat.zero_le _⟩,fpk,q⟩
        · refine wpAny_pyIter_ascii ha ?_
          exact ⟨s1.heap.objs.size,[s1.heap.objs.size],_,_,H1,rfl,I2 _,Zff (cl:="str_ascii_iterator") (t:=t) (by decide) (fun A i s Q E st h=>wpAny_pyIter_striter_ascii st h) (fun A' hA=>by simpa using Walks.strAscii hA _ ⟨cs.toArray⟩ t),⟨⟨_,Heap.get?_push_size _ rfl,rfl,rfl⟩,Nat.zero_le _⟩,fpk,q⟩
      · cases eb
    | _=>cases eb
end
end Mi
end
section
namespace Mi
open PySem PySem.Spec PyProof.Rows L2
theorem Zc7 {elt:Expr} {gens:List Comprehension} {scope:Scope} {pos:Pos} {d:Nat} {target iter:Expr} {ifs:List Expr} {it acc:Value} {env:PySem.Env} (hg:gens[d]? = some ⟨target,iter,ifs,0⟩) (hn:gens[d + 1]? = none) :
    compTurn (.ListComp elt gens scope pos) d it acc env=(do
      standAt iter.pos
      match ← pyNext it with
      | none=>pure (.done .next)
      | some v =>
        letOwnedTupleGo target it v
        assign target env v
        let mut ok:=true
        for c in ifs do
          if ok then ok ← isTrue c env (eval c env)
        if ok then
          (do let _ ← call (.builtin "list.append") [acc,← eval elt env])
        again (.compLoop (.ListComp elt gens scope pos) d it acc env)):=by
  unfold compTurn
  simp only [hg,hn]
  rfl
theorem Zc6 {elt:Expr} {gens:List Comprehension} {scope:Scope} {pos:Pos} {d:Nat} {target iter:Expr} {ifs:List Expr} {it acc:Value} {env:PySem.Env} {target' iter':Expr} {ifs':List Expr} (hg:gens[d]? = some ⟨target,iter,ifs,0⟩) (hn:gens[d + 1]? = some ⟨target',iter',ifs',0⟩) :
    compTurn (.ListComp elt gens scope pos) d it acc env=(do
      standAt iter.pos
      match ← pyNext it with
      | none=>pure (.done .next)
      | some v =>
        letOwnedTupleGo target it v
        assign target env v
        let mut ok:=true
        for c in ifs do
          if ok then ok ← isTrue c env (eval c env)
        if ok then
          let x ← eval iter' env
          standAt iter'.pos
          let x ← foldedSetIterable iter' env x
          let _ ← runOwn (.compStart (.ListComp elt gens scope pos) (d + 1) (← holding [x] (pyIter x)) acc env) env
        again (.compLoop (.ListComp elt gens scope pos) d it acc env)):=by
  unfold compTurn
  simp only [hg,hn]
  rfl
section
variable {K:PySem.W.Frag} {cm cm':List Addr} {m m':Mem} {H H':Hp} {xr:XR} {Y:Cx}
noncomputable def AccAt (h:Heap) (D:Addr) (vs:List V):Prop:=vs.length≤sizeLine∧∃ (its:List Value) (n:Nat),Vals vs its∧h.get? D=some { cls:=.type "list",data:=.seq its.toArray n }
structure DOk (Y:Cx) (pins:List (Addr×Obj)) (H:Hp) (D:Addr):Prop where
  free:H D=none
  loc:D≠Y.env.locals
  nofs:D ∉ Y.fs
  own:D∈Y.ex∨Y.s₀.heap.objs.size≤D
  cell:∀ x c,Y.env.cells.lookup x=some c→c≠D
  pin:∀ p∈Y.pn++pins,p.1≠D
theorem pe_run {e:Expr} {call:Nat→List W→Mem→Res W} {gv:List T} {a:E} (h:PE Y e (tE Y.K call gv xr a)) {pins:List (Addr×Obj)} {s:Shared} {σ:L2.St} {env:Env} {w:W} (I:Inv Y pins σ H s) (hE:EnvR Y.K cm m H env σ) (M:MemR Y.K cm m H)
    (ok:ev call gv a env m = .ok w m'):wpAny (model Y.prog Y.w) Y.A (eval e Y.env) (EP Y pins σ fun v H'=>∃ cm',Ext cm m H cm' m' H'∧MemR Y.K cm' m' H'∧RW Y.K cm' m' H' w v) Y.xe s:=by
  refine h pins s σ H _ I ⟨env,cm,m,hE,M,?_⟩
  rw [ok]
  exact fun cm' H' x M' v r=>⟨cm',x,M',r⟩
theorem pt_run {e:Expr} {call:Nat→List W→Mem→Res W} {gv:List T} {a:E} (h:PT Y e (tT Y.K call gv xr a)) {pins:List (Addr×Obj)} {s:Shared} {σ:L2.St} {env:Env} {k:Bool} (I:Inv Y pins σ H s) (hE:EnvR Y.K cm m H env σ) (M:MemR Y.K cm m H)
    (ok:(ev call gv a env m).bind Qm = .ok k m'):wpAny (model Y.prog Y.w) Y.A (isTrue e Y.env (eval e Y.env)) (TP Y pins σ fun b H'=>b=k∧∃ cm',Ext cm m H cm' m' H'∧MemR Y.K cm' m' H') Y.xe s:=by
  refine h pins s σ H _ I ⟨env,cm,m,hE,M,?_⟩
  rw [ok]
  exact fun cm' H' x M'=>⟨rfl,cm',x,M'⟩
noncomputable def PTs (Y:Cx) (call:Nat→List W→Mem→Res W) (gv:List T) (xr:XR):Es→List Expr→Prop
  | .nil,[]=>True
  | .cons a es,e :: r=>PT Y e (tT Y.K call gv xr a)∧PTs Y call gv xr es r
  | _,_=>False
theorem Zbk {env:PySem.Env} {M:Model} {A:Around} {E:Value→Shared→Prop} {s:Shared} {Q:Bool→Shared→Prop} (h:Q false s):∀ ifs:List Expr,
    wpAny M A (forIn ifs false fun c r=>if r=true then do let ok ← isTrue c env (eval c env); pure (ForInStep.yield ok) else pure (ForInStep.yield r)) Q E s
  | []=>wpAny_pure h
  | _ :: r=>by
    simp only [List.forIn_cons,Bool.false_eq_true,if_false]
    exact wpAny_bind (wpAny_pure (Zbk h r))
theorem Zdl {call:Nat→List W→Mem→Res W} {gv:List T} {pins:List (Addr×Obj)} {σ:L2.St} {env:Env}:∀ {cs:Es} {ifs:List Expr} {cm:List Addr} {m m':Mem} {H:Hp} {s:Shared} {k:Bool},PTs Y call gv xr cs ifs→Inv Y pins σ H s→EnvR Y.K cm m H env σ→MemR Y.K cm m H →
    tests call gv cs env m = .ok k m' →
    wpAny (model Y.prog Y.w) Y.A (forIn ifs true fun c r=>if r=true then do let ok ← isTrue c Y.env (eval c Y.env); pure (ForInStep.yield ok) else pure (ForInStep.yield r))
      (fun b s'=>b=k∧∃ H' cm',Inv Y pins σ H' s'∧Ext cm m H cm' m' H'∧MemR Y.K cm' m' H') Y.xe s
  | .nil,[],cm,m,m',H,s,k,_,I,hE,M,ok=>by
    unfold tests at ok
    cases ok
    exact wpAny_pure ⟨rfl,H,cm,I,.refl,M⟩
  | .cons a es,e :: r,cm,m,m',H,s,k,hp,I,hE,M,ok=>by
    unfold tests at ok
    obtain ⟨h1,h2⟩:=hp
    simp only [List.forIn_cons,if_true]
    cases e1:ev call gv a env m with
    | ok w m1 =>
      rw [e1] at ok
      change (Qm w m1).bind _=_ at ok
      cases e2:Qm w m1 with
      | ok b m2 =>
        rw [e2] at ok
        change (if b=true then _ else _)=_ at ok
        refine wpAny_bind (wpAny_bind (thn (pt_run h1 I hE M (m':=m2) (k:=b) (by rw [e1]; exact e2)) fun c s1 ⟨H1,I1,hb,cm1,x1,M1⟩=>wpAny_pure ?_))
        subst hb
        cases c with
        | true =>
          rw [if_pos rfl] at ok
          exact thn (Zdl h2 I1 (hE.ext x1 M M1) M1 ok) fun b' s2 ⟨hb',H2,cm2,I2,x2,M2⟩=>⟨hb',H2,cm2,I2,x1.trans x2,M2⟩
        | false =>
          rw [if_neg Bool.false_ne_true] at ok
          cases ok
          exact Zbk (Q:=fun b s'=>b=false∧∃ H' cm',Inv Y pins σ H' s'∧Ext cm m H cm' m' H'∧MemR Y.K cm' m' H') ⟨rfl,H1,cm1,I1,x1,M1⟩ r
      | exc _ _=>rw [e2] at ok; cases ok
      | stuck=>rw [e2] at ok; cases ok
    | exc _ _=>rw [e1] at ok; cases ok
    | stuck=>rw [e1] at ok; cases ok
  | .nil,_ :: _,_,_,_,_,_,_,hp,_,_,_,_=>hp.elim
  | .cons _ _,[],_,_,_,_,_,_,hp,_,_,_,_=>hp.elim
noncomputable def tgS:Tg→List Nat
  | .nm i=>[i]
  | .tp is=>is
noncomputable def Agree (S:List Nat) (σ σ':L2.St):Prop:=∀ i,i ∉ S→σ'[i]? = σ[i]?
noncomputable def setAll:List Nat→List V→L2.St→L2.St
  | i :: is,v :: vs,σ=>setAll is vs (σ.set i (some v))
  | _,_,σ=>σ
variable (K) in
noncomputable def gT:Tg→TG
  | .nm i=>Zl7 i
  | .tp is=>fun v σ H Q=>∃ a xs,v = .ref a∧SqT K H a xs∧xs.length=is.length∧Q (setAll is xs σ) H
theorem ZaR:∀ (is:List Nat) (vs:List V) (σ:L2.St),Agree is σ (setAll is vs σ)
  | [],_,_=>fun _ _=>by unfold setAll; rfl
  | _ :: _,[],_=>fun _ _=>by unfold setAll; rfl
  | i :: is,v :: vs,σ=>fun j hj=>by
    unfold setAll
    rw [List.mem_cons] at hj
    rw [ZaR is vs _ j fun z=>hj (.inr z),List.getElem?_set_ne fun z=>hj (.inl z.symm)]
theorem EnvR.set {env:Env} {σ:L2.St} (h:EnvR K cm m H env σ) {w:W} {v:V} (r:RW K cm m H w v) (i:Nat) (hi:i < σ.length):EnvR K cm m H (env.set i (some w)) (σ.set i (some v)):=fun j u e=>by
  by_cases hj:j=i
  · subst hj
    have hl:j < env.length:=by
      have:=(List.getElem?_eq_some_iff.mp e).1
      rwa [List.length_set] at this
    rw [List.getElem?_set_self hl] at e
    cases e
    exact ⟨v,List.getElem?_set_self hi,r⟩
  · rw [List.getElem?_set_ne (Ne.symm hj)] at e
    obtain ⟨v',h1,h2⟩:=h j u e
    exact ⟨v',by rw [List.getElem?_set_ne (Ne.symm hj)]; exact h1,h2⟩
theorem EnvR.setAll:∀ {is:List Nat} {ts:List T} {vs:List V} {env:Env} {σ:L2.St},EnvR K cm m H env σ→RTs K cm m H ts vs→(∀ i∈is,i < σ.length) →
    EnvR K cm m H ((is.zip ts).foldl (fun env p=>env.set p.1 (some (.t p.2))) env) (Mi.setAll is vs σ)
  | [],_,_,_,_,h,_,_=>by unfold Mi.setAll; exact h
  | _ :: _,[],_,_,_,h,.nil,_=>by unfold Mi.setAll; exact h
  | i :: is,t :: ts,v :: vs,env,σ,h,.cons r rs,hi=>by
    unfold Mi.setAll
    rw [List.zip_cons_cons,List.foldl_cons]
    refine EnvR.setAll (h.set (w:=.t t) r i (hi i List.mem_cons_self)) rs fun j hj=>?_
    rw [List.length_set]
    exact hi j (List.mem_cons_of_mem _ hj)
theorem Zl6 {tg:Tg} {t:T} {v:V} {env env':Env} {σ:L2.St} (hE:EnvR K cm m H env σ) (hi:∀ i∈tgS tg,i < σ.length) (r:RT K cm m H t v) (e:Xd tg t env=some env') {Q:L2.St→Hp→Prop}
    (q:∀ σ',EnvR K cm m H env' σ'→Agree (tgS tg) σ σ'→Q σ' H):gT K tg v σ H Q:=by
  cases tg with
  | nm i =>
    cases e
    refine q _ (hE.set (w:=.t t) r i (hi i (by simp [tgS]))) fun j hj=>?_
    rw [List.getElem?_set_ne]
    intro z
    exact hj (by simp [tgS,z])
  | tp is =>
    unfold Xd at e
    dsimp only at e
    split at e
    · split at e <;> cases e
      rename_i ts hl
      obtain ⟨a,vs,rfl,h1,h2⟩:=RT.itup r
      exact ⟨a,vs,rfl,h1,by rw [← h2.length]; exact hl,q _ (EnvR.setAll hE h2 hi) (ZaR is vs σ)⟩
    · cases e
end
end Mi
end
section
namespace Mi
open PySem PySem.Spec PyProof.Rows L2
noncomputable def innS:E→List Nat
  | .more _ tg _ inner=>tgS tg++innS inner
  | _=>[]
section
variable {xr:XR} {Y:Cx} {call:Nat→List W→Mem→Res W} {gv:List T}
variable (Y call gv xr) in
noncomputable def Ins (elt:Expr) (gens:List Comprehension):Nat→E→Prop
  | d,.emit a=>gens[d + 1]? = none∧PE Y elt (tE Y.K call gv xr a)
  | d,.more it tg cs inner=>(∃ target iter ifs,gens[d + 1]? = some ⟨target,iter,ifs,0⟩∧PI Y target iter (tI Y.K call gv xr it)∧(∀ x,foldedSetIterable iter Y.env x=pure x)∧PG Y target (gT Y.K tg)∧PTs Y call gv xr cs ifs) ∧
      (∀ i∈tgS tg,i ∉ innS inner)∧(∀ i∈tgS tg++innS inner,i < Y.N.length)∧Ins elt gens (d + 1) inner
  | _,_=>False
theorem Zgp {α:Type} {M:Model} {A:Around} {t:Sem α} {Q:α→Shared→Prop} {E:Value→Shared→Prop} {s:Shared} (hxe:∀ e s,¬ Y.xe e s) (h:wpAny M A t Q Y.xe s):wpAny M A t Q E s:=wpAny_mono h (fun _ _ q=>q) fun _ _ z=>(hxe _ _ z).elim
noncomputable abbrev turnF (call:Nat→List W→Mem→Res W) (gv:List T) (cs:Es) (inner:E):Env→Mem→Res (List T):=fun env m=>(tests call gv cs env m).bind fun k m=>if k then (ev call gv inner env m).bind Zdd else .ok [] m
noncomputable def Zmu (Y:Cx) (Acc:Heap→List V→Prop) (D:Addr) (S:List Nat) (pins:List (Addr×Obj)) (σ:L2.St) (cm:List Addr) (m:Mem) (H:Hp) (vs:List V) (out:List T) (m':Mem) (s':Shared):Prop :=
  ∃ σ' H' cm' vs',Inv Y pins σ' H' s'∧Ext cm m H cm' m' H'∧MemR Y.K cm' m' H'∧RTs Y.K cm' m' H' out vs'∧Acc s'.heap (vs++vs')∧Agree S σ σ'∧H' D=none
noncomputable abbrev CEnd (Y:Cx) (D:Addr):=Zmu Y (fun h vs=>AccAt h D vs) D
theorem AccAt.keep {h h':Heap} {D:Addr} {vs:List V} (a:AccAt h D vs) (k:∀ o,h.get? D=some o→h'.get? D=some o):AccAt h' D vs:=by
  obtain ⟨z,its,n,r,e⟩:=a
  exact ⟨z,its,n,r,k _ e⟩
theorem EnvR.agree {K:PySem.W.Frag} {cm:List Addr} {m:Mem} {H:Hp} {env:Env} {σ σ':L2.St} {S:List Nat} (h:EnvR K cm m H env σ) (a:Agree S σ σ') (n:∀ i∈S,∀ w,env[i]?≠some (some w)):EnvR K cm m H env σ':=fun i w e=>by
  obtain ⟨v,h1,h2⟩:=h i w e
  refine ⟨v,?_,h2⟩
  rw [a i fun z=>n i z w e]
  exact h1
theorem Agree.trans {S:List Nat} {a b c:L2.St} (h:Agree S a b) (g:Agree S b c):Agree S a c:=fun i hi=>(g i hi).trans (h i hi)
theorem Agree.mono {S S':List Nat} {a b:L2.St} (h:Agree S a b) (g:∀ i∈S,i∈S'):Agree S' a b:=fun i hi=>h i fun z=>hi (g i z)
theorem Agree.refl {S:List Nat} {a:L2.St}:Agree S a a:=fun _ _=>rfl
theorem Zfa {tg:Tg} {t:T} {env env':Env} (e:Xd tg t env=some env') {i:Nat} (hi:i ∉ tgS tg):env'[i]? = env[i]?:=by
  cases tg with
  | nm j =>
    cases e
    rw [List.getElem?_set_ne]
    intro z; exact hi (by simp [tgS,z])
  | tp is =>
    unfold Xd at e
    dsimp only at e
    split at e
    · split at e <;> cases e
      rename_i ts hl
      have:∀ (is:List Nat) (ts:List T) (env:Env),i ∉ is→((is.zip ts).foldl (fun env p=>env.set p.1 (some (.t p.2))) env)[i]? = env[i]?:=by
        intro is
        induction is with
        | nil=>intro ts env _; rfl
        | cons j is ih =>
          intro ts env h
          cases ts with
          | nil=>rfl
          | cons t ts =>
            rw [List.mem_cons] at h
            rw [List.zip_cons_cons,List.foldl_cons,ih ts _ fun z=>h (.inr z),List.getElem?_set_ne fun z=>h (.inl z.symm)]
      exact this is ts env hi
    · cases e
theorem Zw {α β:Type} {r:Res α} {f:α→Mem→Res β} {y:β} {m':Mem} (h:r.bind f = .ok y m'):∃ x m,r = .ok x m∧f x m = .ok y m':=by
  cases r with
  | ok x m=>exact ⟨x,m,rfl,h⟩
  | exc _ _=>cases h
  | stuck=>cases h
theorem Zen {w:W} {m m':Mem} {ts:List T} (h:Zdd w m = .ok ts m'):w = .t (.lst ts)∧m' = m:=by
  unfold Zdd at h
  split at h <;> cases h
  exact ⟨rfl,rfl⟩
theorem Zih {K:PySem.W.Frag} {cm:List Addr} {m m':Mem} {H:Hp} {w:W} {v:V} {t:T} (M:MemR K cm m H) (r:RW K cm m H w v) (e:frz w m = .ok t m'):Ext cm m H cm m' H∧MemR K cm m' H∧RT K cm m' H t v:=by
  cases w with
  | t x=>cases e; exact ⟨.refl,M,r⟩
  | f a=>cases e
  | c i =>
    unfold frz at e
    dsimp only at e
    split at e
    · rename_i ts h
      cases e
      obtain ⟨a,vs,q1,q2,q3,q4,q5,q6,q7⟩:=Ziy M h
      obtain ⟨b,h1,h2⟩:=r
      rw [q1] at h1; cases h1
      subst h2
      exact ⟨q4,q5,q7⟩
    · cases e
theorem Zii {pins:List (Addr×Obj)} {H:Hp} {b:Addr} {fp:List Addr} {h:Heap} (f:FpOk Y pins H b) (n:b ∉ fp):FpOk Y (pins++XC fp h) H b :=
  ⟨f.1,f.2.1,f.2.2.1,f.2.2.2.1,f.2.2.2.2.1,fun p hp z=>by
    rw [← List.append_assoc] at hp
    rcases List.mem_append.mp hp with hp | hp
    · exact f.2.2.2.2.2 p hp z
    · exact n (by rw [← z]; exact (ZdP hp).1)⟩
structure AccK (D:Addr) (Acc:Heap→List V→Prop):Prop where
  obj:∀ {h vs},Acc h vs→∃ o,h.get? D=some o∧∀ v,o.data≠.cell v
  keep:∀ {h h' vs},Acc h vs→(∀ o,h.get? D=some o→h'.get? D=some o)→Acc h' vs
theorem Zbg (D:Addr):AccK D (fun h vs=>AccAt h D vs):=⟨fun ⟨_,_,_,_,e⟩=>⟨_,e,fun v z=>by cases z⟩,fun a k=>a.keep k⟩
theorem ZfS {pins:List (Addr×Obj)} {s:Shared} {σ:L2.St} {H:Hp} {D:Addr} {Acc:Heap→List V→Prop} (hA:AccK D Acc) {vs:List V} (I:Inv Y pins σ H s) (f:FpOk Y pins H D) (a:Acc s.heap vs):Inv Y (pins++XC [D] s.heap) σ H s:=by
  refine I.pinned (fun b hb=>?_) fun b hb=>?_
  · have e:b=D:=by simpa using hb
    rw [e]; exact f
  · have e:b=D:=by simpa using hb
    obtain ⟨o,q,n⟩:=hA.obj a
    rw [e]
    exact ⟨_,q,n⟩
theorem Zde {pins:List (Addr×Obj)} {h:Heap} {s:Shared} {σ:L2.St} {H:Hp} {D:Addr} {Acc:Heap→List V→Prop} (hA:AccK D Acc) {vs:List V} (a:Acc h vs) (I:Inv Y pins σ H s) (hp:∀ o,h.get? D=some o→(D,o)∈pins):Acc s.heap vs∧H D=none:=by
  obtain ⟨o,q,_⟩:=hA.obj a
  obtain ⟨h1,h2,_⟩:=I.pin _ (List.mem_append_right _ (hp _ q))
  refine ⟨hA.keep a fun o' e=>?_,h2⟩
  rw [q] at e; cases e
  exact h1
theorem ZiN {pins:List (Addr×Obj)} {s:Shared} {σ:L2.St} {H:Hp} {D:Addr} {vs:List V} (I:Inv Y pins σ H s) (f:FpOk Y pins H D) (a:AccAt s.heap D vs):Inv Y (pins++XC [D] s.heap) σ H s:=ZfS (Zbg D) I f a
theorem ZkP {pins:List (Addr×Obj)} {h:Heap} {s:Shared} {σ:L2.St} {H:Hp} {D:Addr} {vs:List V} (a:AccAt h D vs) (I:Inv Y pins σ H s) (hp:∀ o,h.get? D=some o→(D,o)∈pins):AccAt s.heap D vs∧H D=none:=Zde (Zbg D) a I hp
noncomputable abbrev ZiY (target iter:Expr) (ifs:List Expr) (env:PySem.Env) (it:Value) (c:Code) (br:Sem PySem.Fin):Sem PySem.Fin :=
  standAt iter.pos >>= fun _=>pyNext it >>= fun r=>match r with
    | none=>pure (.done .next)
    | some v=>letOwnedTupleGo target it v >>= fun _=>assign target env v >>= fun _ =>
      (forIn ifs true fun c r=>if r=true then do let ok ← isTrue c env (eval c env); pure (ForInStep.yield ok) else pure (ForInStep.yield r)) >>= fun ok=>if ok=true then br else again c
theorem Zfw (hc:Y.calm=true) (hxe:∀ e s,¬ Y.xe e s) {ce:Expr} {D:Addr} {Acc:Heap→List V→Prop} (hA:AccK D Acc) {L:Nat} {Pt:T→Prop} {inner:E} {d:Nat} {target iter:Expr} {ifs:List Expr} {tg:Tg} {cs:Es} {it:Addr} {br:Sem PySem.Fin}
    (hu:Y.A.under (.compLoop ce d (.ref it) (.ref D) Y.env)=Y.A) (hd:(model Y.prog Y.w).den (.compLoop ce d (.ref it) (.ref D) Y.env)=(compTurn ce d (.ref it) (.ref D) Y.env).onRaise (fun x=>do noteFrame x Y.env; theTreesLotGoes x))
    (code:compTurn ce d (.ref it) (.ref D) Y.env=ZiY target iter ifs Y.env (.ref it) (.compLoop ce d (.ref it) (.ref D) Y.env) br)
    (hg:PG Y target (gT Y.K tg)) (ht:PTs Y call gv xr cs ifs) (hdis:∀ i∈tgS tg,i ∉ innS inner) (hlt:∀ i∈tgS tg++innS inner,i < Y.N.length)
    (hbr:∀ {pins:List (Addr×Obj)} {s:Shared} {σ:L2.St} {H:Hp} {cm:List Addr} {m m':Mem} {env:Env} {out:List T} {vs:List V},Inv Y pins σ H s→FpOk Y pins H D→Acc s.heap vs→EnvR Y.K cm m H env σ→(∀ i∈innS inner,∀ w,env[i]?≠some (some w))→MemR Y.K cm m H →
      (ev call gv inner env m).bind Zdd = .ok out m'→vs.length + out.length≤L→(∀ t∈out,Pt t) →
      wpAny (model Y.prog Y.w) Y.A br (fun fin s'=>fin = .again (.compLoop ce d (.ref it) (.ref D) Y.env)∧Zmu Y Acc D (innS inner) pins σ cm m H vs out m' s') Y.xe s)
    {pins:List (Addr×Obj)} {s:Shared} {σ:L2.St} {H:Hp} {cm:List Addr} {m m':Mem} {env:Env} {ts out:List T} {J:It} {fp:List Addr} {tn:Nat→Heap→Prop} {vs:List V} (I:Inv Y pins σ H s) (hD:FpOk Y pins H D) (ha:Acc s.heap vs)
    (hT:Turn Y.prog Y.w Y.K target J fp it tn) (h0:tn 0 s.heap) (hf:∀ b∈fp,FpOk Y pins H b) (hDf:D ∉ fp) (hE:EnvR Y.K cm m H env σ) (hn:∀ i∈tgS tg++innS inner,∀ w,env[i]?≠some (some w)) (M:MemR Y.K cm m H) (hs:Src Y.K cm m H J ts)
    (ok:JH (turnF call gv cs inner) tg ts env m = .ok out m') (hl:vs.length + out.length≤L) (hpt:∀ t∈out,Pt t) :
    codeAny (model Y.prog Y.w) Y.A (.compLoop ce d (.ref it) (.ref D) Y.env) (fun r s'=>r = .ok .next∧Zmu Y Acc D (tgS tg++innS inner) pins σ cm m H vs out m' s') s:=by
  have statD:∀ {H1:Hp},H1 D=none→FpOk Y pins H1 D:=fun h=>⟨h,hD.2⟩
  have stat:∀ {H1:Hp},(∀ b∈fp,H1 b=none)→∀ b∈fp,FpOk Y pins H1 b:=fun h b hb=>⟨h b hb,(hf b hb).2⟩
  refine codeAny_loop rfl (fun n s1=>∃ i σ1 H1 cm1 m1 vs1 done rest,Inv Y pins σ1 H1 s1∧tn i s1.heap∧(∀ b∈fp,H1 b=none)∧H1 D=none∧Ext cm m H cm1 m1 H1∧MemR Y.K cm1 m1 H1∧Agree (tgS tg++innS inner) σ σ1 ∧
      Acc s1.heap (vs++vs1)∧RTs Y.K cm1 m1 H1 done vs1∧JH (turnF call gv cs inner) tg (ts.drop i) env m1 = .ok rest m'∧out=done++rest∧n=ts.length + 1 - i∧i≤ts.length) ?_ (ts.length + 1)
    ⟨0,σ,H,cm,m,[],[],out,I,h0,fun b hb=>(hf b hb).1,hD.1,.refl,M,.refl,by rw [List.append_nil]; exact ha,.nil,by rw [List.drop_zero]; exact ok,rfl,rfl,Nat.zero_le _⟩
  rintro n s1 ⟨i,σ1,H1,cm1,m1,vs1,done,rest,I1,st1,fr1,d1,x1,M1,ag1,a1,r1,ok1,eo,rfl,hi⟩
  rw [hu,hd]
  refine wpAny_noted ?_
  rw [code]
  refine wpAny_bind (wpAny_standAt (wpAny_bind ?_))
  have hE1:EnvR Y.K cm1 m1 H1 env σ1:=(hE.ext x1 M M1).agree ag1 hn
  have s1':=hs.ext x1 M M1
  have I1D:=ZfS hA I1 (statD d1) a1
  have fpD:∀ {H1:Hp},(∀ b∈fp,H1 b=none)→∀ b∈fp,FpOk Y (pins++XC [D] s1.heap) H1 b:=fun h b hb=>Zii (stat h b hb) fun z=>hDf (by
    have e:b=D:=by simpa using z
    rw [← e]; exact hb)
  have inD:∀ o,s1.heap.get? D=some o→(D,o)∈pins++XC [D] s1.heap:=fun o e=>List.mem_append_right _ (Qj (by simp) e)
  cases et:ts[i]? with
  | none =>
    refine Zgp hxe (thn (hT.done Y rfl rfl rfl hc i _ s1 σ1 H1 Y.xe I1D (fpD fr1) st1 (Src.stop M1 s1' et)) fun r s2 ⟨hr,I2⟩=>?_)
    subst hr
    have hd:ts.drop i=[]:=List.drop_eq_nil_of_le (List.getElem?_eq_none_iff.mp et)
    rw [hd] at ok1
    unfold JH at ok1
    cases ok1
    rw [List.append_nil] at eo
    subst eo
    exact wpAny_pure ⟨rfl,σ1,H1,cm1,vs1,I2.unpinned,x1,M1,r1,(Zde hA a1 I2 inD).1,ag1,(Zde hA a1 I2 inD).2⟩
  | some t =>
    obtain ⟨go,yl⟩:=Src.go M1 s1' et
    have hit:i < ts.length:=(List.getElem?_eq_some_iff.mp et).1
    have hd:ts.drop i=t :: ts.drop (i + 1):=by
      rw [List.drop_eq_getElem_cons hit]
      congr 1
      exact Option.some.inj ((List.getElem?_eq_getElem hit).symm.trans et)
    rw [hd] at ok1
    unfold JH at ok1
    split at ok1
    · cases ok1
    · rename_i env' eb
      obtain ⟨xs,m2,ok2,ok3⟩:=Zw ok1
      obtain ⟨ys,m3,ok4,ok5⟩:=Zw ok3
      cases ok5
      obtain ⟨k,m4,okt,okb⟩:=Zw ok2
      refine Zgp hxe (thn (hT.item Y rfl rfl rfl hc i _ s1 σ1 H1 Y.xe I1D (fpD fr1) st1 go) fun r s2 ⟨u,hr,h2⟩=>?_)
      subst hr
      refine wpAny_bind (Zgp hxe (thn h2 fun _ s3 ⟨x,H3,I3,rx,y3,st3,fr3⟩=>?_))
      obtain ⟨xy,My,rt⟩:=yl x H3 y3
      have hE1:=hE1.ext xy M1 My
      have x1:=x1.trans xy
      have r1:=RTs.ext xy M1 My r1
      have M1:=My
      -- pinned: the list that is filled,and the iterator
      have I3':=I3.pinned (fpD fr3) (hT.obj _ _ st3)
      refine wpAny_bind (Zgp hxe (thn (hg _ s3 σ1 H3 x u (fun σ' H'=>H' = H3∧EnvR Y.K cm1 m1 H3 env' σ'∧Agree (tgS tg) σ1 σ') I3' rx (Zl6 hE1 (fun j hj=>by rw [I3.len]; exact hlt j (List.mem_append_left _ hj)) rt eb fun σ' h1 h2=>⟨rfl,h1,h2⟩)) fun _ s4 ⟨σ4,H4,I4,e4,hE4,ag4⟩=>?_))
      subst e4
      refine wpAny_bind (Zgp hxe (thn (Zdl ht I4 hE4 M1 okt) fun b s5 ⟨hb,H5,cm5,I5,x5,M5⟩=>?_))
      subst hb
      have a5:=Zde hA a1 I5 fun o e=>List.mem_append_left _ (inD o e)
      have st5:tn (i + 1) s5.heap:=hT.keep _ _ _ st3 fun b hb o e=>(I5.pin (b,o) (List.mem_append_right _ (List.mem_append_right _ (Qj hb e)))).1
      have f5:∀ b∈fp,H5 b=none:=fun b hb=>by
        obtain ⟨o,e,dd⟩:=hT.obj _ _ st3 b hb
        exact (I5.pin (b,o) (List.mem_append_right _ (List.mem_append_right _ (Qj hb e)))).2.1
      have ag45:Agree (tgS tg++innS inner) σ σ4:=ag1.trans (ag4.mono fun i hi=>List.mem_append_left _ hi)
      cases b with
      | false =>
        rw [if_neg Bool.false_ne_true] at okb ⊢
        cases okb
        rw [List.nil_append] at eo
        exact wpAny_pure ⟨rfl,_,by omega,i + 1,σ4,H5,cm5,m2,vs1,done,ys,I5.unpinned.unpinned,st5,f5,a5.2,x1.trans x5,M5,ag45,a5.1,RTs.ext x5 M1 M5 r1,ok4,eo,rfl,hit⟩
      | true =>
        rw [if_pos rfl] at okb ⊢
        have I6:Inv Y (pins++XC fp s5.heap) σ4 H5 s5:=I5.unpinned.unpinned.pinned (stat f5) (hT.obj _ _ st5)
        have hv:=r1.length
        have hz:(vs++vs1).length + xs.length≤L:=by
          rw [List.length_append,← hv]
          rw [eo,List.length_append,List.length_append] at hl
          omega
        have hn6:∀ j∈innS inner,∀ w,env'[j]?≠some (some w):=fun j hj w=>by
          rw [Zfa eb fun z=>hdis j z hj]
          exact hn j (List.mem_append_right _ hj) w
        refine Zgp hxe (thn (hbr I6 (Zii (statD a5.2) hDf) a5.1 (hE4.ext x5 M1 M5) hn6 M5 okb hz fun t ht'=>hpt t (by rw [eo]; exact List.mem_append_right _ (List.mem_append_left _ ht'))) fun fin s7 ⟨hfin,σ7,H7,cm7,vs7,I7,x7,M7,r7,a7,ag7,d7⟩=>?_)
        subst hfin
        have keep7:∀ b∈fp,∀ o,s5.heap.get? b=some o→s7.heap.get? b=some o:=fun b hb o e=>(I7.pin (b,o) (List.mem_append_right _ (List.mem_append_right _ (Qj hb e)))).1
        refine ⟨rfl,_,by omega,i + 1,σ7,H7,cm7,m2,vs1++vs7,done++xs,ys,I7.unpinned,hT.keep _ _ _ st5 keep7,fun b hb=>?_,?_,(x1.trans x5).trans x7,M7,ag45.trans (ag7.mono fun i hi=>List.mem_append_right _ hi),by rw [← List.append_assoc]; exact a7,
          Qt (RTs.ext x7 M5 M7 (RTs.ext x5 M1 M5 r1)) r7,ok4,by rw [eo,List.append_assoc],rfl,hit⟩
        · obtain ⟨o,e,dd⟩:=hT.obj _ _ st5 b hb
          exact (I7.pin (b,o) (List.mem_append_right _ (List.mem_append_right _ (Qj hb e)))).2.1
        · exact d7
end
end Mi
end
section
namespace Mi
open PySem PySem.Spec PyProof.Rows L2
section
variable {xr:XR} {Y:Cx} {call:Nat→List W→Mem→Res W} {gv:List T}
theorem Zao {prog:Program} {w:World} {A:Around} {R:Result→Shared→Prop} {s:Shared} {elt:Expr} {gens:List Comprehension} {scope:Scope} {pos:Pos} {d:Nat} {target iter:Expr} {ifs:List Expr} {it acc:Value} {env:PySem.Env} (hg:gens[d]? = some ⟨target,iter,ifs,0⟩)
    (h0:codeAny (model prog w) A (.compLoop (.ListComp elt gens scope pos) d it acc env) R s)
    (h:wpAny (model prog w) A (pyIter it) (fun it' s'=>codeAny (model prog w) A (.compLoop (.ListComp elt gens scope pos) d it' acc env) R s') (notedBy (model prog w) A env fun x s'=>R (.error x) s') s) :
    codeAny (model prog w) A (.compStart (.ListComp elt gens scope pos) d it acc env) R s:=by
  refine codeAny_of_tree ?_
  show wpAny _ _ ((compStart (.ListComp elt gens scope pos) d it acc env).onRaise (fun x=>do noteFrame x env; standAt theWindowsPlace)) _ _ s
  refine wpAny_notedAt ?_
  unfold compStart
  have e:(clausesOf (.ListComp elt gens scope pos))[d]? = some ⟨target,iter,ifs,0⟩:=hg
  rw [e]
  show wpAny _ _ (ask >>= _) _ _ s
  refine wpAny_bind (wpAny_askSetting (wpAny_ite ?_))
  split
  · first
      | exact wpAny_bind (wpAny_pure (wpAny_pure (And.intro rfl h0)))
      | exact wpAny_pure (And.intro rfl h0)
  · first
      | exact wpAny_bind (wpAny_rule (wpAny_bind (wpAny_standAt (wpAny_bind (wpAny_mono h (fun it' s' h'=>wpAny_pure (And.intro rfl h')) fun _ _ x=>x)))))
      | (refine wpAny_bind (wpAny_rule ?_); show wpAny _ _ (standAt iter.pos >>= _) _ _ s; exact wpAny_bind (wpAny_standAt (wpAny_bind (wpAny_mono h (fun it' s' h'=>wpAny_pure (And.intro rfl h')) fun _ _ x=>x))))
theorem ZgZ {pins:List (Addr×Obj)} {s:Shared} {σ:L2.St} {H:Hp} {D:Addr} {vs:List V} {v:V} {u:Value} {E:Value→Shared→Prop} {Q:Value→Shared→Prop} (I:Inv Y pins σ H s) (f:FpOk Y pins H D) (a:AccAt s.heap D vs) (r:RelV v u) (hz:vs.length < sizeLine)
    (q:∀ s',Inv Y pins σ H s'→AccAt s'.heap D (vs++[v])→Q .none s'):wpAny (model Y.prog Y.w) Y.A (PySem.call (.builtin "list.append") [.ref D,u]) Q E s:=by
  obtain ⟨z,its,n,rv,e⟩:=a
  have hl:=rv.length
  refine call_meets F.slot_list_append ⟨_,e,rfl⟩ F.entry_list_append (F.args_list_append_2 _ _) (PySem.list_append D its.toArray n u (by rw [List.size_toArray]; omega)) ⟨e,?_⟩
  have e2:=PySem.IsL.update e (·.push u)
  have hf:its.toArray.push u=(its++[u]).toArray:=by simp
  rw [hf] at e2
  obtain ⟨f0,f1,f2,f3,f4,f5⟩:=f
  refine q _ (I.turned (t':=s.toks) (it:=D) (fun b o hb eb=>(Heap.get?_update_other s.heap (Obj.mapSeq (·.push u)) (Ne.symm hb)).trans eb) f0 f1 f3 f4 f5) ⟨?_,its++[u],_,rv.append (.cons r .nil),e2⟩
  rw [List.length_append,List.length_singleton]
  omega
theorem ZbZ {K:PySem.W.Frag} {cm:List Addr} {m m1:Mem} {H:Hp} {w:W} {ts:List T} (M:MemR K cm m H) (e:Z7 w m = .ok ts m1):Ext cm m H cm m1 H∧MemR K cm m1 H:=by
  cases w with
  | t t =>
    unfold Z7 at e
    dsimp only at e
    split at e <;> cases e
    exact ⟨.refl,M⟩
  | f a=>cases e
  | c i =>
    unfold Z7 at e
    dsimp only at e
    split at e
    · cases e
      exact Zix M (by assumption)
    · cases e
theorem ZhY (hc:Y.calm=true) (hxe:∀ e s,¬ Y.xe e s) {elt:Expr} {gens:List Comprehension} {scope:Scope} {pos:Pos} {D:Addr}:∀ (inner:E) (d:Nat) (target iter:Expr) (ifs:List Expr) (tg:Tg) (cs:Es),gens[d]? = some ⟨target,iter,ifs,0⟩ →
    PG Y target (gT Y.K tg)→PTs Y call gv xr cs ifs→Ins xr Y call gv elt gens d inner→(∀ i∈tgS tg,i ∉ innS inner)→(∀ i∈tgS tg++innS inner,i < Y.N.length) →
    ∀ {pins:List (Addr×Obj)} {s:Shared} {σ:L2.St} {H:Hp} {cm:List Addr} {m m':Mem} {env:Env} {ts out:List T} {J:It} {it:Addr} {fp:List Addr} {tn:Nat→Heap→Prop} {vs:List V},Inv Y pins σ H s→FpOk Y pins H D→AccAt s.heap D vs →
      Turn Y.prog Y.w Y.K target J fp it tn→tn 0 s.heap→(∀ b∈fp,FpOk Y pins H b)→D ∉ fp→EnvR Y.K cm m H env σ→(∀ i∈tgS tg++innS inner,∀ w,env[i]?≠some (some w))→MemR Y.K cm m H→Src Y.K cm m H J ts →
      JH (turnF call gv cs inner) tg ts env m = .ok out m'→vs.length + out.length≤lim →
      codeAny (model Y.prog Y.w) Y.A (.compLoop (.ListComp elt gens scope pos) d (.ref it) (.ref D) Y.env) (fun r s'=>r = .ok .next∧CEnd Y D (tgS tg++innS inner) pins σ cm m H vs out m' s') s
  | .emit a=>@fun d target iter ifs tg cs hg pg pt hin hdis hlt pins s σ H cm m m' env ts out J it fp tn vs I hD ha hT h0 hf hDf hE hn M hs ok hl=>by
    obtain ⟨hnx,pe⟩:=hin
    refine Zfw hc hxe (Zbg D) (br:=do (do let _ ← PySem.call (.builtin "list.append") [.ref D,← eval elt Y.env]); again (.compLoop (.ListComp elt gens scope pos) d (.ref it) (.ref D) Y.env)) rfl rfl (Zc7 hg hnx) pg pt hdis hlt ?_ I hD ha hT h0 hf hDf hE hn M hs ok hl (Pt:=fun _=>True) (fun _ _=>trivial)
    intro pins s σ H cm m m' env out vs I hD ha hE hn M ok hl _
    obtain ⟨w,m1,ok1,ok2⟩:=Zw ok
    obtain ⟨rfl,rfl⟩:=Zen ok2
    unfold ev at ok1
    obtain ⟨w1,m2,ok3,ok4⟩:=Zw ok1
    obtain ⟨t,m3,ok5,ok6⟩:=Zw ok4
    cases ok6
    have hz:=ZG
    refine wpAny_bind (wpAny_bind (thn (pe_run pe (ZiN I hD ha) hE M ok3) fun u s1 ⟨v,H1,I1,rv,cm1,x1,M1,r1⟩=>?_))
    obtain ⟨a1,d1⟩:=ZkP ha I1 fun o e=>List.mem_append_right _ (Qj (by simp) e)
    obtain ⟨x2,M2,r2⟩:=Zih M1 r1 ok5
    have I1':Inv Y pins σ H1 s1:=I1.unpinned
    refine wpAny_bind (ZgZ I1' ⟨d1,hD.2⟩ a1 rv (by simp at hl; omega) fun s2 I2 a2=>wpAny_pure (wpAny_pure ⟨rfl,σ,H1,cm1,[v],I2,x1.trans x2,M2,.cons r2 .nil,a2,.refl,d1⟩))
  | .more it' tg' cs' inner'=>@fun d target iter ifs tg cs hg pg pt hin hdis hlt pins s σ H cm m m' env ts out J it fp tn vs I hD ha hT h0 hf hDf hE hn M hs ok hl=>by
    obtain ⟨⟨target',iter',ifs',hnx,pi,hfs,pg',pt'⟩,hdis',hlt',hin'⟩:=hin
    have rec_:=@ZhY hc hxe elt gens scope pos D inner' (d + 1) target' iter' ifs' tg' cs' hnx pg' pt' hin' hdis' hlt'
    refine Zfw hc hxe (Zbg D) rfl rfl (Zc6 hg hnx) pg pt hdis hlt ?_ I hD ha hT h0 hf hDf hE hn M hs ok hl (Pt:=fun _=>True) (fun _ _=>trivial)
    intro pins s σ H cm m m' env out vs I hD ha hE hn M ok hl _
    obtain ⟨w,m1,ok1,ok2⟩:=Zw ok
    obtain ⟨rfl,rfl⟩:=Zen ok2
    unfold ev at ok1
    obtain ⟨w1,m2,ok3,ok4⟩:=Zw ok1
    obtain ⟨ts',m3,ok5,ok6⟩:=Zw ok4
    obtain ⟨out',m4,ok7,ok8⟩:=Zw ok6
    cases ok8
    have hz:=ZG
    refine wpAny_bind (thn (pi _ s σ H (fun J H1=>∃ cm1,Ext cm m H cm1 m2 H1∧MemR Y.K cm1 m2 H1∧Src Y.K cm1 m3 H1 J ts') (ZiN I hD ha) ⟨env,cm,m,hE,M,by
      rw [ok3]
      exact fun cm1 H1 x M1=>⟨ts',m3,ok5,fun J hs=>⟨cm1,x,M1,hs⟩⟩⟩) fun xv s1 h1=>?_)
    refine wpAny_bind (wpAny_standAt (wpAny_bind (wpAny_of_eq (hfs xv) (wpAny_bind (wpAny_holding (thn h1 fun itv s2 h2=>?_))))))
    obtain ⟨it2,fp2,tn2,J2,H2,rfl,I2,T2,st2,f2,cm2,x2,M2,hs2⟩:=h2
    obtain ⟨a2,d2⟩:=ZkP ha I2 fun o e=>List.mem_append_right _ (Qj (by simp) e)
    have hDf2:D ∉ fp2:=fun z=>by
      obtain ⟨_,its,n,_,e⟩:=id ha
      exact (f2 D z).2.2.2.2.2 (D,_) (List.mem_append_right _ (List.mem_append_right _ (Qj (by simp) e))) rfl
    have f2':∀ b∈fp2,FpOk Y pins H2 b:=fun b hb=>⟨(f2 b hb).1,(f2 b hb).2.1,(f2 b hb).2.2.1,(f2 b hb).2.2.2.1,(f2 b hb).2.2.2.2.1,fun p hp=>(f2 b hb).2.2.2.2.2 p (by rw [← List.append_assoc]; exact List.mem_append_left _ hp)⟩
    have hb3:Ext cm2 m2 H2 cm2 m3 H2∧MemR Y.K cm2 m3 H2:=ZbZ M2 ok5
    have E2:EnvR Y.K cm2 m3 H2 env σ:=(hE.ext x2 M M2).ext hb3.1 M2 hb3.2
    have go:=rec_ I2.unpinned ⟨d2,hD.2⟩ a2 T2 st2 f2' hDf2 E2 hn hb3.2 hs2 ok7 hl
    have self:codeAny (model Y.prog Y.w) Y.A (.compStart (.ListComp elt gens scope pos) (d + 1) (.ref it2) (.ref D) Y.env) _ s2:=Zao hnx go (T2.self Y.A 0 s2 _ _ st2 go)
    refine wpAny_bind (wpAny_runOwn (codeAny_mono self fun r s3 ⟨hr,σ3,H3,cm3,vs3,I3,x3,M3,r3,a3,ag3,d3⟩=>?_))
    subst hr
    obtain ⟨x4,M4,sm⟩:=Zak M2 ok5 x3 M3
    exact wpAny_pure ⟨rfl,σ3,H3,cm3,vs3,I3,x2.trans x4,M4,Zn (fun _ _ z=>sm _ _ z) r3,a3,ag3,d3⟩
  | .var _=>@fun d target iter ifs tg cs hg pg pt hin=>hin.elim
  | .gl _=>@fun d target iter ifs tg cs hg pg pt hin=>hin.elim
  | .con _=>@fun d target iter ifs tg cs hg pg pt hin=>hin.elim
  | .bin _ _ _=>@fun d target iter ifs tg cs hg pg pt hin=>hin.elim
  | .neg _=>@fun d target iter ifs tg cs hg pg pt hin=>hin.elim
  | .not _=>@fun d target iter ifs tg cs hg pg pt hin=>hin.elim
  | .and _ _=>@fun d target iter ifs tg cs hg pg pt hin=>hin.elim
  | .or _ _=>@fun d target iter ifs tg cs hg pg pt hin=>hin.elim
  | .one _=>@fun d target iter ifs tg cs hg pg pt hin=>hin.elim
  | .cmp _ _ _=>@fun d target iter ifs tg cs hg pg pt hin=>hin.elim
  | .chn _ _ _ _ _=>@fun d target iter ifs tg cs hg pg pt hin=>hin.elim
  | .ite _ _ _=>@fun d target iter ifs tg cs hg pg pt hin=>hin.elim
  | .tup _=>@fun d target iter ifs tg cs hg pg pt hin=>hin.elim
  | .lst _=>@fun d target iter ifs tg cs hg pg pt hin=>hin.elim
  | .cel _=>@fun d target iter ifs tg cs hg pg pt hin=>hin.elim
  | .celL _=>@fun d target iter ifs tg cs hg pg pt hin=>hin.elim
  | .celA _ _=>@fun d target iter ifs tg cs hg pg pt hin=>hin.elim
  | .dsp _ _=>@fun d target iter ifs tg cs hg pg pt hin=>hin.elim
  | .ix _ _=>@fun d target iter ifs tg cs hg pg pt hin=>hin.elim
  | .slc _ _ _=>@fun d target iter ifs tg cs hg pg pt hin=>hin.elim
  | .rev _=>@fun d target iter ifs tg cs hg pg pt hin=>hin.elim
  | .hole=>@fun d target iter ifs tg cs hg pg pt hin=>hin.elim
  | .call _ _=>@fun d target iter ifs tg cs hg pg pt hin=>hin.elim
  | .blt _ _=>@fun d target iter ifs tg cs hg pg pt hin=>hin.elim
  | .mth _ _ _=>@fun d target iter ifs tg cs hg pg pt hin=>hin.elim
  | .isi _ _=>@fun d target iter ifs tg cs hg pg pt hin=>hin.elim
  | .comp _ _ _ _ _ _=>@fun d target iter ifs tg cs hg pg pt hin=>hin.elim
  | .tr _=>@fun d target iter ifs tg cs hg pg pt hin=>hin.elim
  | .fnv _=>@fun d target iter ifs tg cs hg pg pt hin=>hin.elim
  | .callV _ _ _=>@fun d target iter ifs tg cs hg pg pt hin=>hin.elim
  | .fst _=>@fun d target iter ifs tg cs hg pg pt hin=>hin.elim
  | .gdg _ _=>@fun d target iter ifs tg cs hg pg pt hin=>hin.elim
  | .gdn _ _ _=>@fun d target iter ifs tg cs hg pg pt hin=>hin.elim
  | .dsn _ _=>@fun d target iter ifs tg cs hg pg pt hin=>hin.elim
end
end Mi
end
section
namespace Mi
open PySem PySem.Spec PyProof.Rows L2
theorem ZgP {scope:Scope} {env:PySem.Env} (h:∀ x,(x,NameKind.free)∈scope.names→∃ c,env.cells.lookup x=some c) :
    ∃ cl,closureFor scope env=pure cl∧(∀ x c,cl.lookup x=some c→env.cells.lookup x=some c)∧∀ x,(x,NameKind.free)∈scope.names→∃ c,cl.lookup x=some c:=by
  have go:∀ (ns:List (Str×NameKind)) (acc:List (Str×Addr)),(∀ x,(x,NameKind.free)∈ns→∃ c,env.cells.lookup x=some c)→(∀ x c,acc.lookup x=some c→env.cells.lookup x=some c) →
      ∃ cl,(forIn ns acc fun (x:Str×NameKind) cs=>(match x with | (name,kind)=>if (kind == NameKind.free)=true then do let a ← cellOf env name; pure (ForInStep.yield ((name,a) :: cs)) else pure (ForInStep.yield cs):Sem (ForInStep (List (Str×Addr)))))=pure cl ∧
        (∀ x c,cl.lookup x=some c→env.cells.lookup x=some c)∧(∀ x,(x,NameKind.free)∈ns→∃ c,cl.lookup x=some c)∧∀ x c,acc.lookup x=some c→∃ c,cl.lookup x=some c:=by
    intro ns
    induction ns with
    | nil=>intro acc _ h2; exact ⟨acc,rfl,h2,fun x hx=>absurd hx (by simp),fun x c e=>⟨c,e⟩⟩
    | cons p ns ih =>
      intro acc h1 h2
      obtain ⟨n,k⟩:=p
      have h1':∀ x,(x,NameKind.free)∈ns→∃ c,env.cells.lookup x=some c:=fun x hx=>h1 x (List.mem_cons_of_mem _ hx)
      by_cases hk:k = .free
      · subst hk
        obtain ⟨c,hc⟩:=h1 n List.mem_cons_self
        have h2':∀ x d,((n,c) :: acc).lookup x=some d→env.cells.lookup x=some d:=fun x d e=>by
          rw [List.lookup_cons] at e
          cases hx:x == n with
          | true=>rw [hx] at e; cases e; rw [eq_of_beq hx]; exact hc
          | false=>rw [hx] at e; exact h2 x d e
        obtain ⟨cl,e1,e2,e3,e4⟩:=ih ((n,c) :: acc) h1' h2'
        refine ⟨cl,?_,e2,fun x hx=>?_,fun x d e=>?_⟩
        · rw [List.forIn_cons]
          simp only [beq_self_eq_true,if_true,cellOf,hc,pure_bind]
          exact e1
        · rcases List.mem_cons.mp hx with z | z
          · cases z
            exact e4 n c (by rw [List.lookup_cons,beq_self_eq_true])
          · exact e3 x z
        · by_cases hx:x=n
          · subst hx; exact e4 x c (by rw [List.lookup_cons,beq_self_eq_true])
          · exact e4 x d (by rw [List.lookup_cons,beq_eq_false_iff_ne.mpr hx]; exact e)
      · obtain ⟨cl,e1,e2,e3,e4⟩:=ih acc h1' h2
        have hb:(k == NameKind.free)=false:=beq_eq_false_iff_ne.mpr hk
        refine ⟨cl,?_,e2,fun x hx=>?_,e4⟩
        · rw [List.forIn_cons]
          simp only [hb,Bool.false_eq_true,if_false,pure_bind]
          exact e1
        · rcases List.mem_cons.mp hx with z | z
          · cases z; exact absurd rfl hk
          · exact e3 x z
  obtain ⟨cl,e1,e2,e3,_⟩:=go scope.names [] h (fun x c e=>by simp at e)
  refine ⟨cl,?_,e2,e3⟩
  unfold closureFor
  have:(forIn scope.names ([]:List (Str×Addr)) fun (x:Str×NameKind) cs=>(match x with | (name,kind)=>if (kind == NameKind.free)=true then do let a ← cellOf env name; pure (ForInStep.yield ((name,a) :: cs)) else pure (ForInStep.yield cs):Sem (ForInStep (List (Str×Addr))))) >>= (fun cs=>pure cs)=(pure cl:Sem (List (Str×Addr))):=by rw [e1]; rfl
  exact this
end Mi
end
section
namespace Mi
open PySem PySem.Spec PyProof.Rows L2
section
variable {xr:XR} {X:Cx} {call:Nat→List W→Mem→Res W} {gv:List T}
noncomputable abbrev XH (X:Cx) (N':List Str) (scope:Scope) (cl:List (Str×Addr)) (C:Addr) (s2:Shared) (H2:Hp) (fp:List Addr):Cx :=
  { X with N:=N',s₀:=s2,H₀:=H2,env:=compEnvC scope cl C X.env,outer:=X.stack,stack:=X.stack,ex:=fp,fn:=fun _=>false,pn:=[],xe:=fun _ _=>False }
structure CompSc (X:Cx) (N':List Str) (scope:Scope):Prop where
  kind:scope.kind = .function
  cell:∀ y∈scope.names,y.2≠NameKind.cell
  look:∀ p∈scope.names,scope.names.lookup p.1=some p.2
  free:∀ x,(x,NameKind.free)∈scope.names→X.env.kindOf x=some .cell∨X.env.kindOf x=some .free
theorem ZaT {scope:Scope} {env:PySem.Env} (look:∀ p∈scope.names,scope.names.lookup p.1=some p.2) {x:Str} {k:NameKind} (h:(relabel scope env).names.lookup x=some k) :
    ∃ k',scope.names.lookup x=some k'∧(k=k'∨(k' = .free∧k = .cell)):=by
  have go:∀ (ns:List (Str×NameKind)),(ns.map fun (n,k)=>if (k == NameKind.free && env.scope.kind == .function && env.kindOf n == some .cell) then (n,NameKind.cell) else (n,k)).lookup x=some k→∃ k',ns.lookup x=some k'∧(k=k'∨(k' = .free∧k = .cell)):=by
    intro ns
    induction ns with
    | nil=>intro h; simp at h
    | cons p r ih =>
      obtain ⟨n,q⟩:=p
      intro h
      rw [List.map_cons] at h
      by_cases hc:(q == NameKind.free && env.scope.kind == .function && env.kindOf n == some .cell)=true
      · simp only [hc,if_true] at h
        rw [List.lookup_cons] at h ⊢
        cases hx:x == n with
        | true =>
          rw [hx] at h; cases h
          rw [Bool.and_eq_true,Bool.and_eq_true] at hc
          exact ⟨q,rfl,.inr ⟨eq_of_beq hc.1.1,rfl⟩⟩
        | false=>rw [hx] at h; exact ih h
      · simp only [hc,Bool.false_eq_true,if_false] at h
        rw [List.lookup_cons] at h ⊢
        cases hx:x == n with
        | true=>rw [hx] at h; cases h; exact ⟨_,rfl,.inl rfl⟩
        | false=>rw [hx] at h; exact ih h
  exact go scope.names h
theorem X3 {ns:List (Str×NameKind)} {x:Str} {k:NameKind} (h:ns.lookup x=some k):(x,k)∈ns:=PySem.mem_of_lookup h
theorem ZgM {pins:List (Addr×Obj)} {s:Shared} {σ σ':L2.St} {H:Hp} {fp:List Addr} {N':List Str} {scope:Scope} {cl:List (Str×Addr)} {C:Addr} {h1:Heap} {t:Nat} (I:Inv X pins σ H s) (S:CompSc X N' scope) (hf:∀ b∈fp,FpOk X pins H b) (hlt:∀ b∈fp,b < s.heap.objs.size)
    (hC:s.heap.objs.size≤C) (hns:∃ m,h1.Ns C m) (hk:∀ b o,s.heap.get? b=some o→h1.get? b=some o)
    (hcl1:∀ x c,cl.lookup x=some c→X.env.cells.lookup x=some c) (hcl2:∀ x,(x,NameKind.free)∈scope.names→∃ c,cl.lookup x=some c) (hl:σ'.length=N'.length)
    (hσ:∀ (i:Nat) (x:Str) (v:V),N'[i]? = some x→σ'[i]? = some (some v)→∃ j:Nat,X.N[j]? = some x∧σ[j]? = some (some v)∧(x,NameKind.free)∈scope.names) :
    Inv (XH X N' scope cl C s H fp) [] σ' H { s with heap:=h1,toks:=t }:=by
  have hfree:∀ x k,(relabel scope X.env).names.lookup x=some k→(k = .cell∨k = .free)→(x,NameKind.free)∈scope.names:=fun x k h hk'=>by
    obtain ⟨k',h1,h2⟩:=ZaT S.look h
    rcases h2 with rfl | ⟨rfl,_⟩
    · rcases hk' with rfl | rfl
      · exact absurd rfl (S.cell _ (X3 h1))
      · exact X3 h1
    · exact X3 h1
  obtain ⟨mm,hns⟩:=hns
  refine ⟨⟨I.ok.mod,S.kind,I.ok.glob,I.ok.blt,hC,fun x y c e1 e2=>I.ok.inj x y c (hcl1 x c e1) (hcl1 y c e2),fun x hx=>?_,fun x c h=>?_,I.ok.hd,I.ok.frames,.inl rfl,fun b hb=>⟨Nat.ne_of_lt (Nat.lt_of_lt_of_le (hlt b hb) hC),fun x c e=>(hf b hb).2.2.2.2.1 x c (hcl1 x c e)⟩,I.bs,Nat.le_trans I.ok.bsz I.sz,fun b o e hb=>?_,fun b hb z=>?_,I.stack,I.stkFree⟩,
    rfl,I.bare,Un.kept hk,⟨mm,hns,fun i x v e1 e2 e3=>?_⟩,fun x c e=>?_,I.hok.fresh hC,fun x c e=>I.freeC x c (hcl1 x c e),fun p hp=>absurd (show p∈([]:List (Addr×Obj)) from hp) (by simp),I.hok.kept hk,hl⟩
  · rcases hx with hx | hx
    · exact hcl2 x (hfree x _ hx (.inl rfl))
    · exact hcl2 x (hfree x _ hx (.inr rfl))
  · exact absurd (show false=true from h) Bool.false_ne_true
  · rcases (hf b hb).2.2.2.1 with z | z
    · exact I.ok.noex b o e z
    · exact absurd (Nat.lt_of_lt_of_le (Heap.lt_size e) (Nat.le_trans I.ok.bsz z)) (Nat.lt_irrefl _)
  · rcases List.mem_cons.mp (I.stkSub b z) with q | q
    · exact (hf b hb).2.1 q
    · exact (hf b hb).2.2.1 q
  · obtain ⟨j,h1',h2',h3'⟩:=hσ i x v e1 e2
    obtain ⟨m0,hn0,hl0⟩:=I.loc
    have kx:=S.free x h3'
    obtain ⟨u,ru,lu⟩:=hl0 j x v h1' h2' (kx.elim (fun z=>.inr (.inl z)) fun z=>.inr (.inr z))
    refine ⟨u,ru,.inr ?_⟩
    obtain ⟨c,ec,ic⟩:∃ c,X.env.cells.lookup x=some c∧s.heap.IsCell c (some u):=by
      rcases lu with ⟨q,_⟩ | ⟨_,c,q1,q2⟩
      · rcases kx with z | z
        · rw [z] at q; cases q
        · rw [z] at q; cases q
      · exact ⟨c,q1,q2⟩
    obtain ⟨c',ec'⟩:=hcl2 x h3'
    have:c' = c:=by
      have:=hcl1 x c' ec'
      rw [ec] at this; exact (Option.some.inj this).symm
    subst this
    obtain ⟨o,ho,hd⟩:=ic
    refine ⟨?_,c',ec',o,hk _ _ ho,hd⟩
    rcases e3 with e3 | e3 | e3
    · obtain ⟨k',q1,q2⟩:=ZaT S.look e3
      rw [S.look _ h3'] at q1; cases q1
      rcases q2 with q2 | ⟨_,q2⟩ <;> cases q2
    · exact .inl e3
    · exact .inr e3
  · obtain ⟨v,o,ho,hd⟩:=I.cell x c (hcl1 x c e)
    exact ⟨v,o,hk _ _ ho,hd⟩
theorem ZgL {pins:List (Addr×Obj)} {s s':Shared} {σ σ':L2.St} {H H':Hp} {fp:List Addr} {N':List Str} {scope:Scope} {cl:List (Str×Addr)} {C:Addr} (I:Inv X pins σ H s) (hf:∀ b∈fp,FpOk X pins H b) (J:Inv (XH X N' scope cl C s H fp) [] σ' H' s') :
    Inv X pins σ H' s' :=
  I.call' J.os J.base J.hok J.bare fun b hb=>⟨(hf b hb).2.2.2.1,(hf b hb).2.1,(hf b hb).2.2.2.2.1,(hf b hb).2.2.2.2.2⟩
theorem Inv.adopt {pins:List (Addr×Obj)} {s:Shared} {σ:L2.St} {H:Hp} {D:Addr} {vs:List V} (I:Inv X pins σ H s) (f:FpOk X pins H D) (a:AccAt s.heap D vs):Inv X pins σ (upd H D (.lst vs)) s:=by
  obtain ⟨f0,f1,f2,f3,f4,f5⟩:=f
  have hne:∀ b u,H b=some u→b≠D:=fun b u e z=>by subst z; rw [f0] at e; cases e
  refine I.call' (ch:=[D]) rfl ⟨fun b o e _ _ _=>e,fun b o e _ _ _=>⟨o.slots,e⟩,fun b o e n hx=>by rw [ZZ (by simpa using hx)]; exact n,fun b o e _=>⟨o,e⟩,fun b xs e=>by rw [ZZ (hne b _ e)]; exact e,fun b o u e=>by rw [ZZ (hne b _ e)]; exact e,
    fun b ps e=>⟨#[],by rw [ZZ (hne b _ e),e]; simp⟩⟩ (fun b u e=>?_) I.bare fun b hb=>?_
  · by_cases hb:b=D
    · subst hb
      rw [Jj] at e; cases e
      exact a
    · rw [ZZ hb] at e
      exact (I.hok b u e).stay (fun _ _ _ q=>q) (fun c q=>by rw [ZZ (hne c _ q)]; exact q) fun c xs q=>by rw [ZZ (hne c _ q)]; exact q
  · have e:b=D:=by simpa using hb
    subst e
    exact ⟨f3,f1,f4,f5⟩
end
end Mi
end
section
namespace Mi
open PySem PySem.Spec PyProof.Rows L2
section
variable {xr:XR} {X:Cx} {call:Nat→List W→Mem→Res W} {gv:List T}
noncomputable def ZiQ (X:Cx) (xr:XR) (call:Nat→List W→Mem→Res W) (gv:List T) (N':List Str) (scope:Scope) (elt target:Expr) (ifs:List Expr) (gens:List Comprehension) (tg:Tg) (cs:Es) (inner:E):Prop :=
  ∀ (cl:List (Str×Addr)) (C:Addr) (s2:Shared) (H2:Hp) (fp:List Addr),PG (XH X N' scope cl C s2 H2 fp) target (gT X.K tg)∧PTs (XH X N' scope cl C s2 H2 fp) call gv xr cs ifs∧Ins xr (XH X N' scope cl C s2 H2 fp) call gv elt gens 0 inner
noncomputable def envC (own:Nat) (keep:List Nat) (env:Env):Env:=List.replicate own none++keep.map fun i=>(env[i]?).join
noncomputable def stC (own:Nat) (keep:List Nat) (σ:L2.St):L2.St:=List.replicate own none++keep.map fun i=>(σ[i]?).join
theorem envC_R {K:PySem.W.Frag} {cm:List Addr} {m:Mem} {H:Hp} {env:Env} {σ:L2.St} {own:Nat} {keep:List Nat} (h:EnvR K cm m H env σ):EnvR K cm m H (envC own keep env) (stC own keep σ):=fun i w e=>by
  unfold envC at e
  unfold stC
  by_cases hi:i < own
  · rw [List.getElem?_append_left (by simpa using hi),List.getElem?_replicate] at e
    split at e <;> cases e
  · rw [List.getElem?_append_right (by simpa using hi),List.length_replicate,List.getElem?_map] at e
    rw [List.getElem?_append_right (by simpa using hi),List.length_replicate,List.getElem?_map]
    cases q:keep[i - own]? with
    | none=>rw [q] at e; cases e
    | some j =>
      rw [q] at e
      have e':(env[j]?).join=some w:=Option.some.inj e
      cases r:env[j]? with
      | none=>rw [r] at e'; cases e'
      | some o =>
        rw [r] at e'
        have e2:o=some w:=e'
        subst e2
        obtain ⟨v,h1,h2⟩:=h j w r
        exact ⟨v,by simp [h1],h2⟩
theorem Zfs {α:Type} {r:Res α} {x:α} {m:Mem} (h:r.only = .ok x m):r = .ok x m:=by
  cases r with
  | ok _ _=>exact h
  | exc _ _=>cases h
  | stuck=>cases h
theorem Zcn {α β:Type} {r:Res α} {f:α→Mem→Res β} (hf:∀ x m e m',f x m≠.exc e m') (e:Exc) (m':Mem):r.only.bind f≠.exc e m':=by
  cases r with
  | ok x m=>exact hf x m e m'
  | exc _ _=>intro h; cases h
  | stuck=>intro h; cases h
theorem ZcA {own:Nat} {keep:List Nat} {it:E} {tg:Tg} {cs:Es} {inner:E} {env:Env} {m:Mem} (e:Exc) (m':Mem):ev call gv (.comp own keep it tg cs inner) env m≠.exc e m':=by
  unfold ev
  refine Zcn (fun x m0 e m'=>?_) e m'
  cases h:Z7 x m0 with
  | ok ts m1 =>
    refine Zcn (fun out m2 e m'=>?_) e m'
    split <;> (intro h; cases h)
  | exc _ _ =>
    unfold Z7 at h
    split at h <;> first
      | (cases h; done)
      | (split at h <;> cases h)
  | stuck=>intro h; cases h
theorem Zd5 {own:Nat} {keep:List Nat} {it:E} {tg:Tg} {cs:Es} {inner:E} {env:Env} {m m':Mem} {w:W} (h:ev call gv (.comp own keep it tg cs inner) env m = .ok w m'):∃ out,w = .t (.lst out):=by
  unfold ev at h
  obtain ⟨_,_,_,h⟩:=Zw h
  obtain ⟨_,_,_,h⟩:=Zw h
  obtain ⟨out,_,_,h⟩:=Zw h
  split at h <;> cases h
  exact ⟨_,rfl⟩
theorem Zd6 {elt target iter:Expr} {ifs:List Expr} {gs:List Comprehension} {scope:Scope} {pos pos':Pos} {N':List Str} {own:Nat} {keep:List Nat} {it:E} {tg:Tg} {cs:Es} {inner:E} {use:Option (Value→Sem Unit)}
    (hc:X.calm=true) (S:CompSc X N' scope) (hown:N'.length=own + keep.length) (hkeep:∀ (i:Nat) x,N'[own + i]? = some x→∃ j,keep[i]? = some j∧X.N[j]? = some x∧(x,NameKind.free)∈scope.names)
    (hlocal:∀ x∈scope.names,x.2=NameKind.local→scope.names.lookup x.1=some .local)
    (pi:PI X target iter (tI X.K call gv xr it)) (hfs:∀ x,foldedSetIterable iter X.env x=pure x) (hY:ZiQ X xr call gv N' scope elt target ifs (⟨target,iter,ifs,0⟩ :: gs) tg cs inner)
    (hdis:∀ i∈tgS tg,i ∉ innS inner) (hsl:∀ i∈tgS tg++innS inner,i < own)
    {pins:List (Addr×Obj)} {s:Shared} {σ:L2.St} {H:Hp} {cm:List Addr} {m m':Mem} {env:Env} {out:List T} {Q:Value→Shared→Prop} (I:Inv X pins σ H s) (hE:EnvR X.K cm m H env σ) (M:MemR X.K cm m H)
    (ok:ev call gv (.comp own keep it tg cs inner) env m = .ok (.t (.lst out)) m')
    (fin:∀ (D C:Addr) (s3:Shared) (H3:Hp) (cm3:List Addr) (vs:List V),Inv X pins σ (upd H3 D (.lst vs)) s3→H3 D=none→X.K.lookup D=none→Ext cm m H cm3 m' H3→MemR X.K cm3 m' H3→RTs X.K cm3 m' H3 out vs→(∃ mm,s3.heap.Ns C mm)→FpOk X pins (upd H3 D (.lst vs)) C →
      compPost (model X.prog X.w) X.A X.xe use Q (.ref D) C (.ok .next) s3) :
    wpAny (model X.prog X.w) X.A (comprehension (.ListComp elt (⟨target,iter,ifs,0⟩ :: gs) scope pos) scope X.env pos' (newList []) false (eval iter X.env) use) Q X.xe s:=by
  obtain ⟨cl,hclos,hcl1,hcl2⟩:=ZgP (scope:=scope) (env:=X.env) fun x hx=>I.ok.has x (S.free x hx)
  unfold ev at ok
  obtain ⟨w1,m1,ok0,ok2⟩:=Zw ok
  have ok1:=Zfs ok0
  obtain ⟨ts,m2,ok3,ok4⟩:=Zw ok2
  obtain ⟨out',m3,ok5,ok6⟩:=Zw ok4
  split at ok6 <;> cases ok6
  rename_i hlen
  have ok5':JH (turnF call gv cs inner) tg ts (envC own keep env) m2 = .ok out m3:=Zfs ok5
  have hz:=ZG
  refine wpAny_comprehension_free rfl hfs hclos S.kind hlocal (thn (pi pins s σ H (fun J H1=>∃ cm1,Ext cm m H cm1 m1 H1∧MemR X.K cm1 m1 H1∧Src X.K cm1 m2 H1 J ts) I ⟨env,cm,m,hE,M,by
      rw [ok1]
      exact fun cm1 H1 x M1=>⟨ts,m2,ok3,fun J hs=>⟨cm1,x,M1,hs⟩⟩⟩) fun xv s1 h1=>thn h1 fun itv s2 h2=>?_)
  obtain ⟨it2,fp,tn,J,H2,rfl,I2,T2,st2,f2,cm2,x2,M2,hs2⟩:=h2
  refine wpAny_newObj_type (wpAny_newFunctionEnv S.cell (by intro y hy; simp at hy) (fun h₁ hns₁ hsb₁=>?_) S.kind)
  dsimp only at hns₁ hsb₁ ⊢
  generalize hH2:s2.heap.push { cls:=.type "list",dict:=none,data:=.seq ([]:List Value).toArray }=P2 at hns₁ hsb₁ ⊢
  have hCs:P2.objs.size=s2.heap.objs.size + 1:=by rw [← hH2,Heap.size_push]
  have hDC:s2.heap.objs.size≠P2.objs.size:=by omega
  have below:∀ b,b < s2.heap.objs.size→b≠P2.objs.size:=fun b hb=>by omega
  have old:∀ b o,s2.heap.get? b=some o→h₁.get? b=some o:=fun b o e=>hsb₁.extBut b o (below b (Heap.lt_size e)) (Heap.get?_push_of_some _ (hH2 ▸ Heap.get?_push_of_some _ e))
  have hacc:h₁.get? s2.heap.objs.size=some { cls:=.type "list",data:=.seq ([]:List Value).toArray }:=hsb₁.extBut _ _ hDC (Heap.get?_push_of_some _ (hH2 ▸ Heap.get?_push_size _ rfl))
  have flt:∀ b∈fp,b < s2.heap.objs.size:=fun b hb=>by
    obtain ⟨o,e,_⟩:=T2.obj _ _ st2 b hb
    exact Heap.lt_size e
  have hb3:=ZbZ M2 ok3
  have E2:EnvR X.K cm2 m2 H2 env σ:=(hE.ext x2 M M2).ext hb3.1 M2 hb3.2
  have hσl:(stC own keep σ).length=N'.length:=by unfold stC; simp [hown]
  have J0:Inv (XH X N' scope cl P2.objs.size s2 H2 fp) [] (stC own keep σ) H2 { s2 with heap:=h₁,toks:=s2.toks + ([]:List (Str×Value)).length } :=
    ZgM I2 S f2 flt (by omega) ⟨_,hns₁⟩ old hcl1 hcl2 hσl fun i x v e1 e2=>by
      unfold stC at e2
      by_cases hi:i < own
      · rw [List.getElem?_append_left (by simpa using hi),List.getElem?_replicate] at e2
        split at e2 <;> cases e2
      · rw [List.getElem?_append_right (by simpa using hi),List.length_replicate,List.getElem?_map] at e2
        have ei:N'[own + (i - own)]? = some x:=by rw [show own + (i - own)=i by omega]; exact e1
        obtain ⟨j,q1,q2,q3⟩:=hkeep (i - own) x ei
        rw [q1] at e2
        have e3:(σ[j]?).join=some v:=Option.some.inj e2
        refine ⟨j,q2,?_,q3⟩
        cases r:σ[j]? with
        | none=>rw [r] at e3; cases e3
        | some o=>rw [r] at e3; exact congrArg some e3
  obtain ⟨pg,pt,hin⟩:=hY cl P2.objs.size s2 H2 fp
  have fD:FpOk (XH X N' scope cl P2.objs.size s2 H2 fp) [] H2 s2.heap.objs.size:=by
    refine ⟨I2.hok.fresh (Nat.le_refl _),hDC,fun z=>?_,.inr (Nat.le_refl _),fun x c e z=>?_,fun p hp=>absurd (show p∈([]:List (Addr×Obj)) from hp) (by simp)⟩
    · have:=I2.stkSub _ z
      rcases List.mem_cons.mp this with q | q
      · exact absurd I2.lt (by rw [← q]; exact Nat.lt_irrefl _)
      · exact I2.nofs (Nat.le_refl _) q
    · obtain ⟨v,q⟩:=I2.cell x c (hcl1 x c e)
      exact absurd q.lt (by rw [z]; exact Nat.lt_irrefl _)
  have fF:∀ b∈fp,FpOk (XH X N' scope cl P2.objs.size s2 H2 fp) [] H2 b:=fun b hb=>by
    refine ⟨(f2 b hb).1,below b (flt b hb),fun z=>?_,.inl hb,fun x c e=>(f2 b hb).2.2.2.2.1 x c (hcl1 x c e),fun p hp=>absurd (show p∈([]:List (Addr×Obj)) from hp) (by simp)⟩
    rcases List.mem_cons.mp (I2.stkSub b z) with q | q
    · exact (f2 b hb).2.1 q
    · exact (f2 b hb).2.2.1 q
  have st2':tn 0 h₁:=T2.keep _ _ _ st2 fun b _ o e=>old b o e
  have hDf:s2.heap.objs.size ∉ fp:=fun z=>absurd (flt _ z) (Nat.lt_irrefl _)
  have hnone:∀ i∈tgS tg++innS inner,∀ w,(envC own keep env)[i]?≠some (some w):=fun i hi w e=>by
    unfold envC at e
    rw [List.getElem?_append_left (by simpa using hsl i hi),List.getElem?_replicate] at e
    split at e <;> cases e
  have go:=ZhY (Y:=XH X N' scope cl P2.objs.size s2 H2 fp) (xr:=xr) (call:=call) (gv:=gv) hc (fun _ _ z=>z) (elt:=elt) (scope:=scope) (pos:=pos) (D:=s2.heap.objs.size) inner 0 target iter ifs tg cs rfl pg pt hin hdis (fun i hi=>by
    show i < N'.length
    rw [hown]
    have:=hsl i hi
    omega) J0 fD (vs:=[]) ⟨Nat.zero_le _,[],0,.nil,hacc⟩ T2 st2' fF hDf (envC_R E2) hnone hb3.2 hs2 ok5' (by rw [List.length_nil,Nat.zero_add]; exact hlen)
  have fine:∀ r s3,(r = .ok .next∧CEnd (XH X N' scope cl P2.objs.size s2 H2 fp) s2.heap.objs.size (tgS tg++innS inner) [] (stC own keep σ) cm2 m2 H2 [] out m3 s3)→compPost (model X.prog X.w) X.A X.xe use Q (.ref s2.heap.objs.size) P2.objs.size r s3:=fun r s3 ⟨hr,σ3,H3,cm3,vs3,J3,x3,M3,r3,a3,ag3,d3⟩=>by
    subst hr
    rw [List.nil_append] at a3
    obtain ⟨x4,M4,sm⟩:=Zak M2 ok3 x3 M3
    have I3:Inv X pins σ H3 s3:=ZgL I2 f2 J3
    have fX:∀ b,s2.heap.objs.size≤b→∀ H',H' b=none→FpOk X pins H' b:=fun b hb H' hn=>I2.fpOk hb hn
    obtain ⟨mm,hmm,_⟩:=J3.loc
    have neC:P2.objs.size≠s2.heap.objs.size:=Ne.symm hDC
    refine fin s2.heap.objs.size P2.objs.size s3 H3 cm3 vs3 (Inv.adopt I3 (fX _ (Nat.le_refl _) _ d3) a3) d3 ?_ (x2.trans x4) M4 (Zn (fun _ _ z=>sm _ _ z) r3) ⟨mm,hmm⟩ (fX _ (by omega) _ ?_)
    · cases q:X.K.lookup s2.heap.objs.size with
      | none=>rfl
      | some o=>exact absurd (Heap.lt_size (I2.kIn _ _ q)) (Nat.lt_irrefl _)
    · rw [ZZ neC]; exact J3.free
  exact codeAny_mono (Zao (gens:=⟨target,iter,ifs,0⟩ :: gs) rfl go (T2.self X.A 0 { s2 with heap:=h₁,toks:=s2.toks + ([]:List (Str×Value)).length } _ _ st2' go)) fine
structure CompK (X:Cx) (xr:XR) (call:Nat→List W→Mem→Res W) (gv:List T) (N':List Str) (scope:Scope) (own:Nat) (keep:List Nat) (elt target iter:Expr) (ifs:List Expr) (gs:List Comprehension) (it:E) (tg:Tg) (cs:Es) (inner:E):Prop where
  sc:CompSc X N' scope
  hown:N'.length=own + keep.length
  hkeep:∀ (i:Nat) x,N'[own + i]? = some x→∃ j,keep[i]? = some j∧X.N[j]? = some x∧(x,NameKind.free)∈scope.names
  pi:PI X target iter (tI X.K call gv xr it)
  fs:∀ x,foldedSetIterable iter X.env x=pure x
  ins:ZiQ X xr call gv N' scope elt target ifs (⟨target,iter,ifs,0⟩ :: gs) tg cs inner
  dis:∀ i∈tgS tg,i ∉ innS inner
  slt:∀ i∈tgS tg++innS inner,i < own
variable {elt target iter:Expr} {ifs:List Expr} {gs:List Comprehension} {scope:Scope} {pos:Pos} {N':List Str} {own:Nat} {keep:List Nat} {it:E} {tg:Tg} {cs:Es} {inner:E}
theorem ZaB (hc:X.calm=true) (k:CompK X xr call gv N' scope own keep elt target iter ifs gs it tg cs inner) :
    PE X (.ListComp elt (⟨target,iter,ifs,0⟩ :: gs) scope pos) (tE X.K call gv xr (.comp own keep it tg cs inner)):=by
  rintro pins s σ H Q I ⟨env,cm,m,hE,M,ho⟩
  cases h:ev call gv (.comp own keep it tg cs inner) env m with
  | stuck=>rw [h] at ho; exact ho.elim
  | exc e m'=>exact absurd h (ZcA e m')
  | ok w m' =>
    obtain ⟨out,rfl⟩:=Zd5 h
    rw [h] at ho
    rw [eval_ListComp]
    refine Zd6 (use:=none) hc k.sc k.hown k.hkeep (fun x hx e=>by rw [k.sc.look x hx,e]) k.pi k.fs k.ins k.dis k.slt I hE M h ?_
    rintro D C s3 H3 cm3 vs I3 hD _ x3 M3 r3 ⟨mm,hm⟩ fC
    refine ⟨mm,hm,fun h' hs'=>?_⟩
    have I4:Inv X pins σ (upd H3 D (.lst vs)) { s3 with heap:=h' }:=I3.turned (t':=s3.toks) (it:=C) (fun b o hb e=>(hs'.2 b hb).trans e) fC.1 fC.2.1 fC.2.2.2.1 fC.2.2.2.2.1 fC.2.2.2.2.2
    exact ⟨.ref D,_,I4,rfl,OkR.to ho (x3.trans (.new hD)) (M3.new hD) _ (RT.newLst M3 r3 hD)⟩
theorem Zka {i:Nat} {x:Str} {px spos:Pos} (hc:X.calm=true) (k:CompK X xr call gv N' scope own keep elt target iter ifs gs it tg cs inner) (hN:X.N.Nodup) (hi:X.N[i]? = some x) (hx:X.env.scope.names.lookup x=some .local)
    (hsw:swapsWith (.ListComp elt (⟨target,iter,ifs,0⟩ :: gs) scope pos) (some (.Name x px)) spos.line X.env=pure true)
    {pins:List (Addr×Obj)} {s:Shared} {σ:L2.St} {H:Hp} {cm:List Addr} {m m':Mem} {env:Env} {out:List T} {D:Ends} (I:Inv X pins σ H s) (hE:EnvR X.K cm m H env σ) (M:MemR X.K cm m H)
    (ok:ev call gv (.comp own keep it tg cs inner) env m = .ok (.t (.lst out)) m')
    (q:∀ (p:Addr) (H3:Hp) (cm3:List Addr) (vs:List V),H3 p=none→X.K.lookup p=none→Ext cm m H cm3 m' H3→MemR X.K cm3 m' H3→RTs X.K cm3 m' H3 out vs→D.nx (σ.set i (some (.ref p))) (upd H3 p (.lst vs))) :
    wpAny (model X.prog X.w) X.A (exec (.Assign [.Name x px] (.ListComp elt (⟨target,iter,ifs,0⟩ :: gs) scope pos) spos) X.env) (SP X pins D) X.xe s:=by
  rw [exec_Assign_Name_used _ _ _ _ hsw]
  refine wpAny_bind (wpAny_standAt (wpAny_bind ?_))
  show wpAny _ _ (do let _ ← comprehension (.ListComp elt (⟨target,iter,ifs,0⟩ :: gs) scope pos) scope X.env _ (newList []) false (eval iter X.env) (some (assign (.Name x px) X.env))) _ _ s
  refine wpAny_bind (thn (Zd6 (use:=some (assign (.Name x px) X.env)) (Q:=fun _ s'=>SP X pins D .next s') hc k.sc k.hown k.hkeep (fun x hx e=>by rw [k.sc.look x hx,e]) k.pi k.fs k.ins k.dis k.slt I hE M ok ?_) fun _ s' h=>wpAny_pure (wpAny_pure h))
  rintro p C s3 H3 cm3 vs I3 hD hK x3 M3 r3 ⟨mm,hm⟩ fC
  show wpAny _ _ (assign (.Name x px) X.env (.ref p)) _ _ s3
  refine wpAny_assign_Name (Zdm I3 hN hi (.inl hx) (v:=.ref p) rfl (fun s4 I4 ⟨a,hs4,ha⟩=>?_) (.inr hx))
  have hac:C≠a:=by
    rcases ha with rfl | ha
    · exact fC.2.1
    · exact fun z=>fC.2.2.2.2.1 x a ha z.symm
  refine ⟨mm,hm.sameBut hs4 hac,fun h' hs'=>?_⟩
  have I5:Inv X pins (σ.set i (some (.ref p))) (upd H3 p (.lst vs)) { s4 with heap:=h' }:=I4.turned (t':=s4.toks) (it:=C) (fun b o hb e=>(hs'.2 b hb).trans e) fC.1 fC.2.1 fC.2.2.2.1 fC.2.2.2.2.1 fC.2.2.2.2.2
  exact ⟨_,_,I5,q p H3 cm3 vs hD hK x3 M3 r3⟩
end
end Mi
end
section
namespace Mi
open PySem PySem.Spec PyProof.Rows L2
section
variable {K:PySem.W.Frag} {cm:List Addr} {m:Mem} {H:Hp} {xr:XR} {X:Cx} {call:Nat→List W→Mem→Res W} {gv:List T}
theorem RTs.nil_iff {ts:List T} {vs:List V} (h:RTs K cm m H ts vs):(!ts.isEmpty) = !vs.isEmpty:=by cases h <;> rfl
theorem tru_of {w:W} {v:V} {t:T} (M:MemR K cm m H) (r:RW K cm m H w v) (e:view w m=some t) (f:fitT t=true):TruV K v H (Zcd t):=by
  have hz:=ZG
  cases t with
  | lst ts =>
    obtain ⟨a,vs,rfl,h1,h2⟩:=ZM M r e
    exact .inl ⟨vs,.of h1,h2.nil_iff⟩
  | non=>cases (Zg r e (fun _ z=>by cases z)).vnon; exact rfl
  | bl b=>cases (Zg r e (fun _ z=>by cases z)).vbl; exact rfl
  | int i=>cases (Zg r e (fun _ z=>by cases z)).vint; exact rfl
  | str cs =>
    cases (Zg r e (fun _ z=>by cases z)).vstr
    have hl:cs.length≤lim:=of_decide_eq_true f
    refine ⟨by rw [Xh]; omega,?_⟩
    rw [Xh]
    cases cs with
    | nil=>rfl
    | cons c cs =>
      show true=_
      symm
      simp
      omega
  | tup ts =>
    obtain ⟨a,vs,rfl,h1,h2⟩:=(Zg r e (fun _ z=>by cases z)).itup
    exact .inr (.inl ⟨vs,h1,h2.nil_iff⟩)
  | dct ks ts =>
    have h:=Zg r e (fun _ z=>by cases z)
    cases h with
    | @dct a ks ts vs h1 h2 h3 h4 h5 =>
      refine .inr (.inr ⟨_,h1,?_⟩)
      cases ks with
      | nil=>rfl
      | cons k ks =>
        cases vs with
        | nil=>simp at h3
        | cons v vs=>rfl
  | scr ns =>
    obtain ⟨a,rfl,h1⟩:=(Zg r e (fun _ z=>by cases z)).vscr
    exact .inl ⟨_,h1.sq,by cases ns <;> rfl⟩
theorem Zha {w:W} {k:Bool→List Addr→Mem→Hp→Prop} (h:OkR K (Qm w m) xr cm m H k):∃ t,view w m=some t∧fitT t=true∧OkR K (.ok (Zcd t) m) xr cm m H k:=by
  unfold Qm at h
  split at h
  · split at h
    · exact ⟨_,‹_›,‹_›,h⟩
    · exact h.elim
  · exact h.elim
theorem Zdc {w:W} {k:Bool→List Addr→Mem→Hp→Prop} (h:OkR K (Zb0 w m) xr cm m H k):∃ b,w = .t (.bl b)∧OkR K (.ok b m) xr cm m H k:=by
  unfold Zb0 at h
  split at h
  · exact ⟨_,rfl,h⟩
  · exact h.elim
theorem pt_of {e:Expr} {a:E} (h:PE X e (tE X.K call gv xr a)) (he:∀ whole,isTrue e X.env whole=(do let v ← whole; standAt e.pos; holding [v] (truthy v))):PT X e (tT X.K call gv xr a):=by
  refine PT.mono (Zja h he) fun σ H Q ⟨env,cm,m,hE,M,ho⟩=>⟨env,cm,m,hE,M,ho.bind.mono fun w cm1 m1 H1 x1 M1 o1 v rv=>?_⟩
  obtain ⟨t,e1,f1,o2⟩:=Zha o1
  exact ⟨Zcd t,tru_of M1 rv e1 f1,OkR.now o2 M1⟩
theorem ZlC {a b:Expr} {rest:List Expr} {pos:Pos} {ea eb:E} (ha:PE X a (tE X.K call gv xr ea)) (hb:PE X (.BoolOp .And (b :: rest) pos) (tE X.K call gv xr eb)):PE X (.BoolOp .And (a :: b :: rest) pos) (tE X.K call gv xr (.and ea eb)):=by
  refine PE.mono (pe_and ha hb) ?_
  rintro σ H Q ⟨env,cm,m,hE,M,ho⟩
  unfold ev at ho
  refine ⟨env,cm,m,hE,M,ho.bind.mono fun w cm1 m1 H1 x1 M1 o1 v rv=>?_⟩
  obtain ⟨c,rfl,o2⟩:=Zdc o1.bind
  cases RT.vbl rv
  have o3:=OkR.now o2 M1
  refine ⟨c,rfl,?_⟩
  cases c with
  | true=>exact iteT ⟨env,cm1,m1,hE.ext x1 M M1,M1,o3⟩
  | false=>exact iteF (OkR.now o3 M1 _ (.bl false))
theorem Zkt {a b:Expr} {rest:List Expr} {pos:Pos} {ea eb:E} (ha:PE X a (tE X.K call gv xr ea)) (hb:PE X (.BoolOp .Or (b :: rest) pos) (tE X.K call gv xr eb)):PE X (.BoolOp .Or (a :: b :: rest) pos) (tE X.K call gv xr (.or ea eb)):=by
  refine PE.mono (pe_or ha hb) ?_
  rintro σ H Q ⟨env,cm,m,hE,M,ho⟩
  unfold ev at ho
  refine ⟨env,cm,m,hE,M,ho.bind.mono fun w cm1 m1 H1 x1 M1 o1 v rv=>?_⟩
  obtain ⟨c,rfl,o2⟩:=Zdc o1.bind
  cases RT.vbl rv
  have o3:=OkR.now o2 M1
  refine ⟨c,rfl,?_⟩
  cases c with
  | true=>exact iteT (OkR.now o3 M1 _ (.bl true))
  | false=>exact iteF ⟨env,cm1,m1,hE.ext x1 M M1,M1,o3⟩
theorem Zll {a:Expr} {pos:Pos} {ea:E} (ha:PE X a (tE X.K call gv xr ea)):PE X (.UnaryOp .Not a pos) (tE X.K call gv xr (.not ea)):=by
  refine PE.mono (pe_not ha) ?_
  rintro σ H Q ⟨env,cm,m,hE,M,ho⟩
  unfold ev at ho
  refine ⟨env,cm,m,hE,M,ho.bind.mono fun w cm1 m1 H1 x1 M1 o1 v rv=>?_⟩
  obtain ⟨c,rfl,o2⟩:=Zdc o1.bind
  cases RT.vbl rv
  exact ⟨c,rfl,OkR.now (OkR.now o2 M1) M1 _ (.bl _)⟩
theorem Zer {a:E} {σ:L2.St} {H:Hp} {env:Env} {cm:List Addr} {m:Mem} {f:Bool→Mem→Res W} {Q:Bool→Hp→Prop} (hE:EnvR K cm m H env σ) (M:MemR K cm m H)
    (ho:OkR K (((ev call gv a env m).bind fun x m=>(Zb0 x m).bind f).bind Qm) xr cm m H fun k _ _ H'=>Q k H') :
    tT K call gv xr a σ H fun c H1=>∃ cm1 m1,Ext cm m H cm1 m1 H1∧MemR K cm1 m1 H1∧OkR K ((f c m1).bind Qm) xr cm1 m1 H1 fun k _ _ H'=>Q k H':=by
  refine ⟨env,cm,m,hE,M,?_⟩
  cases h:ev call gv a env m with
  | stuck=>rw [h] at ho; exact ho.elim
  | exc e m'=>rw [h] at ho; exact ho
  | ok w m1 =>
    rw [h] at ho
    have ho':OkR K (((Zb0 w m1).bind f).bind Qm) xr cm m H fun k _ _ H'=>Q k H':=ho
    cases w with
    | f a=>exact ho'.elim
    | c i=>exact ho'.elim
    | t x =>
      cases x with
      | bl b=>exact fun cm1 H1 x1 M1=>⟨cm1,m1,x1,M1,OkR.shift ho' x1⟩
      | _=>exact ho'.elim
theorem Zk2 {a b:Expr} {rest:List Expr} {pos:Pos} {ea eb:E} (ha:PT X a (tT X.K call gv xr ea)) (hb:PW X (.BoolOp .And (b :: rest) pos) (tT X.K call gv xr eb)):PW X (.BoolOp .And (a :: b :: rest) pos) (tT X.K call gv xr (.and ea eb)):=by
  rintro whole pins s σ H Q I ⟨env,cm,m,hE,M,ho⟩
  unfold ev at ho
  obtain ⟨env',cm',m',hE',M',ho'⟩:=Zer hE M ho
  refine pw_and ha hb whole pins s σ H Q I ⟨env',cm',m',hE',M',ho'.mono fun c cm1 m1 H1 _ _ ⟨cm2,m2,x2,M2,o2⟩=>?_⟩
  cases c with
  | true=>exact iteT ⟨env,cm2,m2,hE.ext x2 M M2,M2,o2⟩
  | false=>exact iteF (OkR.now (show OkR X.K (.ok false m2) xr cm2 m2 H1 _ from o2) M2)
theorem pw_orW {a b:Expr} {rest:List Expr} {pos:Pos} {ea eb:E} (ha:PT X a (tT X.K call gv xr ea)) (hb:PW X (.BoolOp .Or (b :: rest) pos) (tT X.K call gv xr eb)):PW X (.BoolOp .Or (a :: b :: rest) pos) (tT X.K call gv xr (.or ea eb)):=by
  rintro whole pins s σ H Q I ⟨env,cm,m,hE,M,ho⟩
  unfold ev at ho
  obtain ⟨env',cm',m',hE',M',ho'⟩:=Zer hE M ho
  refine pw_or ha hb whole pins s σ H Q I ⟨env',cm',m',hE',M',ho'.mono fun c cm1 m1 H1 _ _ ⟨cm2,m2,x2,M2,o2⟩=>?_⟩
  cases c with
  | true=>exact iteT (OkR.now (show OkR X.K (.ok true m2) xr cm2 m2 H1 _ from o2) M2)
  | false=>exact iteF ⟨env,cm2,m2,hE.ext x2 M M2,M2,o2⟩
theorem Zk4 {a:Expr} {pos:Pos} {ea:E} (ha:PT X a (tT X.K call gv xr ea)):PT X (.UnaryOp .Not a pos) (tT X.K call gv xr (.not ea)):=by
  refine PT.mono (pt_not ha) ?_
  rintro σ H Q ⟨env,cm,m,hE,M,ho⟩
  unfold ev at ho
  obtain ⟨env',cm',m',hE',M',ho'⟩:=Zer hE M ho
  exact ⟨env',cm',m',hE',M',ho'.mono fun c cm1 m1 H1 _ _ ⟨cm2,m2,x2,M2,o2⟩=>OkR.now (show OkR X.K (.ok (!c) m2) xr cm2 m2 H1 _ from o2) M2⟩
end
end Mi
end
section
namespace Mi
open PySem PySem.Spec PyProof.Rows L2
open Builtin
theorem Za4:fillsNumberSlot (.type "tuple") "mul" = pure false :=
  PySem.fillsNumberSlot_seq (id:="tuple.__mul__") (r:=some (.builtin "tuple.__rmul__")) F.slot_tuple_mul.lookup (by decide +kernel) F.slot_tuple_rmul.lookup (by decide +kernel)
theorem Zdu:seqRepeat? (.type "tuple")=pure (some (.builtin "tuple.__mul__")):=by
  unfold seqRepeat?
  rw [PySem.seqSlot_of (T:="tuple") (name:="__mul__") (id:="tuple.__mul__") F.slot_tuple_mul.lookup (by decide +kernel),PySem.seqSlot_of (T:="tuple") (name:="__rmul__") (id:="tuple.__rmul__") F.slot_tuple_rmul.lookup (by decide +kernel)]
  rfl
theorem Zf1 (a:Int) (t:Tok) (l:Addr) (items:Array Value) (n:Nat) (dd:Option Addr) (sl:Array (Option Value)) :
    Meets (Builtin.«int.__rmul__» ⟨[.int a t,.ref l],[]⟩) (fun _ R s=>s.heap.get? l=some { cls:=.type "tuple",dict:=dd,data:=.seq items n,slots:=sl }∧R (.ok (.ret Value.notImplemented)) s) :=
  .of_wp fun prog w A R s h=>by obtain ⟨hp,g,d,tk,os⟩:=s; obtain ⟨hl,h⟩:=h; wp_walk; exact ⟨_,rfl,h⟩
theorem tmul0 (l:Addr) (items:Array Value) (n:Nat) (dd:Option Addr) (sl:Array (Option Value)) (k:Int) (u:Tok) (h1:(decide (k < -(2 ^ 63)) || decide (k ≥ 2 ^ 63))=false) (hc:(items.isEmpty || k == 1)=true) :
    Meets (Builtin.«tuple.__mul__» ⟨[.ref l,.int k u],[]⟩) (fun _ R s=>s.heap.get? l=some { cls:=.type "tuple",dict:=dd,data:=.seq items n,slots:=sl }∧R (.ok (.ret (Value.ref l))) s) :=
  .of_wp fun prog w A R s h=>by obtain ⟨hp,g,d,tk,os⟩:=s; obtain ⟨hl,h⟩:=h; have f1:=AutoSeq1.idx_int; have f2:=AutoSeq1.sub_tuple_tuple; wp_walk; refine wpAny_ite_false (decide_eq_false (Bool.eq_false_iff.mp h1)) ?_; wp_walk using wpAny_loadPart' hl; exact ⟨_,rfl,h⟩
theorem tmul1 (l:Addr) (items:Array Value) (n:Nat) (dd:Option Addr) (sl:Array (Option Value)) (k:Int) (u:Tok) (h1:(decide (k < -(2 ^ 63)) || decide (k ≥ 2 ^ 63))=false) (hc:¬ (items.isEmpty || k == 1)=true) (hc1:(decide (k≤0) || items.isEmpty)=true) :
    Meets (Builtin.«tuple.__mul__» ⟨[.ref l,.int k u],[]⟩) (fun _ R s=>s.heap.get? l=some { cls:=.type "tuple",dict:=dd,data:=.seq items n,slots:=sl }∧R (.ok (.ret (Value.ref s.heap.objs.size))) { s with heap:=s.heap.push { cls:=Value.type "tuple",data:=Data.seq #[] },toks:=s.toks }) :=
  .of_wp fun prog w A R s h=>by obtain ⟨hp,g,d,tk,os⟩:=s; obtain ⟨hl,h⟩:=h; have f1:=AutoSeq1.idx_int; have f2:=AutoSeq1.sub_tuple_tuple; wp_walk; refine wpAny_ite_false (decide_eq_false (Bool.eq_false_iff.mp h1)) ?_; wp_walk using wpAny_loadPart' hl; exact ⟨_,rfl,h⟩
theorem tmul2 (l:Addr) (items:Array Value) (n:Nat) (dd:Option Addr) (sl:Array (Option Value)) (k:Int) (u:Tok) (h1:(decide (k < -(2 ^ 63)) || decide (k ≥ 2 ^ 63))=false) (hc:¬ (items.isEmpty || k == 1)=true) (hc1:¬ (decide (k≤0) || items.isEmpty)=true)
    (hc2:¬ (items.size:Int) * k > (2 ^ 63 - 1) / 8) (hc3:¬ Tuple.tupleTooMany ((items.size:Int) * k)=true) (hz:(List.foldl (fun x1 x2=>x1++x2) #[] (List.replicate k.toNat items)).size≤sizeLine) :
    Meets (Builtin.«tuple.__mul__» ⟨[.ref l,.int k u],[]⟩) (fun _ R s=>s.heap.get? l=some { cls:=.type "tuple",dict:=dd,data:=.seq items n,slots:=sl }∧R (.ok (.ret (Value.ref s.heap.objs.size))) { s with heap:=s.heap.push { cls:=Value.type "tuple",data:=Data.seq (List.foldl (fun x1 x2=>x1++x2) #[] (List.replicate k.toNat items)) },toks:=s.toks }) :=
  .of_wp fun prog w A R s h=>by obtain ⟨hp,g,d,tk,os⟩:=s; obtain ⟨hl,h⟩:=h; have f1:=AutoSeq1.idx_int; have f2:=AutoSeq1.sub_tuple_tuple; wp_walk; refine wpAny_ite_false (decide_eq_false (Bool.eq_false_iff.mp h1)) ?_; wp_walk using wpAny_loadPart' hl; refine wpAny_ite_false (decide_eq_false hc2) ?_; wp_walk using wpAny_loadPart' hl; exact ⟨_,rfl,h⟩
section
variable {X:Cx}
theorem ZfX {n:Nat} (h:n≤sizeLine):¬ Tuple.tupleTooMany (n:Int)=true:=by
  unfold Tuple.tupleTooMany
  intro hc
  have:=of_decide_eq_true hc
  have e:=sizeLine_eq
  omega
theorem ZlF:OpR X (binaryOp .Mult) (fun x y H Q=>∃ l k xs,x = .ref l∧y = .int k∧SqT X.K H l xs∧(-(2 ^ 63)≤k∧k < 2 ^ 63)∧xs.length * k.toNat≤sizeLine∧((xs=[]∨k=1)→Q (.ref l) H) ∧
    (¬ (xs=[]∨k=1)→∀ p,H p=none→Q (.ref p) (upd H p (.tup (List.replicate k.toNat xs).flatten)))):=by
  intro pins s σ H x y v u Q I rx ry h
  obtain ⟨l,k,xs,rfl,rfl,hH,⟨h1,h2⟩,hz,q1,q2⟩:=h
  cases rx
  obtain ⟨t,rfl⟩:=ry
  obtain ⟨its,r,⟨⟨cls,dd,data,sl⟩,ho,hc,n,hd⟩,hz2⟩:=I.tuple hH
  simp only at hc hd
  subst hc hd
  have hl:=r.length
  have g1:(decide (k < -(2 ^ 63)) || decide (k ≥ 2 ^ 63))=false:=by
    rw [decide_eq_false (by omega),decide_eq_false (by omega)]; rfl
  have road:∀ {Q':Value→Shared→Prop},wpAny (model X.prog X.w) X.A (call (.builtin "tuple.__mul__") [.ref l,.int k t]) Q' X.xe s→wpAny (model X.prog X.w) X.A (binaryOp .Mult (.ref l) (.int k t)) Q' X.xe s:=fun hq =>
    wpAny_binaryOp_repeat_ref (T:="tuple") (U:="int") (by decide) ⟨_,ho,rfl⟩ (fun s'=>typeIs_int s' k t) Za4 F.fills_int_mul F.slot_int_rmul Zdu F.slot_int_index.lookup
      (call_meets F.slot_int_rmul (typeIs_int s k t) F.entry_int_rmul (F.args_int_rmul_2 _ _) (Zf1 k t l its.toArray n dd sl) ⟨ho,rfl,⟨_,ho,rfl⟩,hq⟩)
  refine road ?_
  by_cases hc:xs=[]∨k=1
  · have g2:(its.toArray.isEmpty || k == 1)=true:=by
      rcases hc with rfl | rfl
      · cases r; rfl
      · simp
    exact call_meets F.slot_tuple_mul ⟨_,ho,rfl⟩ F.entry_tuple_mul (F.args_tuple_mul_2 _ _) (tmul0 l its.toArray n dd sl k t g1 g2) ⟨ho,.ref l,H,I,rfl,q1 hc⟩
  · have hne:its≠[]:=fun e=>hc (.inl (r.nil_iff.mp e))
    have g2:¬ (its.toArray.isEmpty || k == 1)=true:=by
      intro hh
      rw [Bool.or_eq_true] at hh
      rcases hh with hh | hh
      · exact hne (by simpa using hh)
      · exact hc (.inr (eq_of_beq hh))
    have fin:∀ arr:Array Value,arr=(List.replicate k.toNat its).flatten.toArray→EP X pins σ Q (.ref s.heap.objs.size) { s with heap:=s.heap.push { cls:=.type "tuple",data:=.seq arr } }:=fun arr e=>by
      subst e
      refine ⟨.ref s.heap.objs.size,_,I.laid (t':=s.toks) (o:=.tup (List.replicate k.toNat xs).flatten) (fun b ob q=>Heap.get?_push_of_some _ q) (Nat.le_refl _) ?_,rfl,q2 hc _ (I.hok.fresh (Nat.le_refl _))⟩
      exact ⟨by rw [len_rep,Nat.mul_comm]; exact hz,_,r.rep k.toNat,TupP.new _ _⟩
    by_cases h0:k≤0
    · have g3:(decide (k≤0) || its.toArray.isEmpty)=true:=by rw [decide_eq_true h0]; rfl
      refine call_meets F.slot_tuple_mul ⟨_,ho,rfl⟩ F.entry_tuple_mul (F.args_tuple_mul_2 _ _) (tmul1 l its.toArray n dd sl k t g1 g2 g3) ⟨ho,fin #[] ?_⟩
      have:k.toNat=0:=by omega
      rw [this]; rfl
    · have g3:¬ (decide (k≤0) || its.toArray.isEmpty)=true:=by
        intro hh
        rw [Bool.or_eq_true] at hh
        rcases hh with hh | hh
        · exact h0 (of_decide_eq_true hh)
        · exact hne (by simpa using hh)
      have hk:(k.toNat:Int)=k:=by omega
      have hs:(its.toArray.size:Int) * k=((xs.length * k.toNat:Nat):Int):=by
        rw [List.size_toArray,← hl,Int.natCast_mul,hk]
      have hsl:(sizeLine:Nat)=16777216:=sizeLine_eq
      have hf:List.foldl (fun x1 x2=>x1++x2) #[] (List.replicate k.toNat its.toArray)=(List.replicate k.toNat its).flatten.toArray:=by
        have:=foldl_rep its k.toNat []
        rw [List.nil_append] at this
        exact this
      refine call_meets F.slot_tuple_mul ⟨_,ho,rfl⟩ F.entry_tuple_mul (F.args_tuple_mul_2 _ _) (tmul2 l its.toArray n dd sl k t g1 g2 g3 (by rw [hs]; omega) (by rw [hs]; exact ZfX hz) ?_) ⟨ho,fin _ hf⟩
      rw [hf,List.size_toArray,len_rep,← hl,Nat.mul_comm]
      exact hz
end
end Mi
end
section
namespace Mi
open PySem PySem.Spec PyProof.Rows L2
section
variable {K:PySem.W.Frag} {cm:List Addr} {m:Mem} {H:Hp} {xr:XR} {X:Cx} {call:Nat→List W→Mem→Res W} {gv:List T}
theorem Zlh {i:Nat} {x:Str} {pos:Pos} (hN:X.N[i]? = some x) (hv:Vis X.env.scope x) (hd:(x == ("__debug__" : Str))=false) (hcd:(x == ("__classdict__" : Str))=false):PE X (.Name x pos) (tE X.K call gv xr (.var i)):=by
  refine PE.mono (pe_var hN hv hd hcd) ?_
  rintro σ H Q ⟨env,cm,m,hE,M,ho⟩
  unfold ev at ho
  split at ho
  · rename_i w e
    obtain ⟨v,h1,h2⟩:=hE i w e
    exact ⟨v,h1,OkR.now ho M v h2⟩
  · exact ho.elim
noncomputable def Ji (K:PySem.W.Frag) (mg:Str→Option Value) (x:Str) (t:T):Prop:=∃ u v,mg x=some u∧RelV v u∧∀ cm m H,RT K cm m H t v
theorem Xa {k:Nat} {x:Str} {t:T} {pos:Pos} (hg:Gl X x) (hk:gv[k]? = some t) (ok:Ji X.K X.mg x t) (hd:(x == ("__debug__" : Str))=false):PE X (.Name x pos) (tE X.K call gv xr (.gl k)):=by
  obtain ⟨u,v,h1,h2,h3⟩:=ok
  refine PE.mono (Zlr hg h1 h2 hd) ?_
  rintro σ H Q ⟨env,cm,m,hE,M,ho⟩
  unfold ev at ho
  rw [hk] at ho
  exact OkR.now (a:=W.t t) ho M v (h3 cm m H)
theorem Zlq {i:Int} {j pos}:PE X (.Constant (.int i) j pos) (tE X.K call gv xr (.con (.int i))):=PE.mono pe_int fun σ H Q ⟨env,cm,m,hE,M,ho⟩=>by
  unfold ev at ho
  exact OkR.now ho M _ (.int i)
theorem pe_blW {b:Bool} {j pos}:PE X (.Constant (.bool b) j pos) (tE X.K call gv xr (.con (.bl b))):=PE.mono pe_bl fun σ H Q ⟨env,cm,m,hE,M,ho⟩=>by
  unfold ev at ho
  exact OkR.now ho M _ (.bl b)
theorem Zbl {x:Str} {cs:List Nat} (h:x.cps.toList=cs):x=⟨cs.toArray⟩:=by
  subst h
  cases x
  simp
theorem Zlj {x:Str} {cs:List Nat} {j pos} (h:x.cps.toList=cs):PE X (.Constant (.str x) j pos) (tE X.K call gv xr (.con (.str cs))):=PE.mono Zhw fun σ H Q ⟨env,cm,m,hE,M,ho⟩=>by
  unfold ev at ho
  have:=OkR.now ho M _ (.str cs)
  rw [Zbl h]
  exact this
theorem ZfI (cs:List Nat):∀ (n:Nat) (acc:Array Nat),(List.replicate n cs.toArray).foldl (·++·) acc=acc++(List.replicate n cs).flatten.toArray
  | 0,acc=>by simp
  | n + 1,acc=>by
    rw [List.replicate_succ,List.foldl_cons,ZfI cs n,List.replicate_succ,List.flatten_cons]
    apply Array.toList_inj.mp
    simp
theorem ZjU {cs:List Nat} {k:Int} (h:0≤k):Txt.mul ⟨cs.toArray⟩ k=⟨(repT cs k.toNat).toArray⟩:=by
  unfold Txt.mul repT
  by_cases h1:k < 1
  · have:k=0:=by omega
    subst this
    rw [if_pos h1]
    rfl
  · rw [if_neg h1]
    by_cases h2:(k == 1 || (⟨cs.toArray⟩:Str).length == 0)=true
    · rw [if_pos h2]
      rcases Bool.or_eq_true _ _ ▸ h2 with h3 | h3
      · have:k=1:=eq_of_beq h3
        subst this
        simp
      · have hl:cs.toArray.size=0:=eq_of_beq h3
        have:cs=[]:=by simpa using hl
        subst this
        simp
    · rw [if_neg h2,ZfI]
      simp
theorem mul_fits {cs:List Nat} {k:Int} (h:0≤k∧k≤64) (hl:cs.length≤1000):MulOk ⟨cs.toArray⟩ k:=by
  have e:(⟨cs.toArray⟩:Str).length=cs.length:=by show cs.toArray.size=_; simp
  have hk:k.toNat≤64:=by omega
  have hm:cs.length * k.toNat≤1000 * 64:=Nat.mul_le_mul hl hk
  refine ⟨?_,fun h1 _=>?_,fun h1 _=>?_⟩
  · have a:¬ k < -(2 ^ 63:Int):=by omega
    have b:¬ k ≥ (2 ^ 63:Int):=by omega
    simp only [a,b,decide_false,Bool.or_self]
  · rw [e]
    have:(1000:Int)≤(2 ^ 63 - 1) / k:=(Int.le_ediv_iff_mul_le (by omega)).mpr (by omega)
    omega
  · rw [e]
    unfold Builtin.Str.tooLong
    have:=ZG
    unfold lim at this
    exact decide_eq_false (by omega)
theorem Zgf:OpR X (binaryOp .Mult) (r2 X.K xr (fBin .Mult)):=by
  rintro pins s σ H x y v u Q I rx ry ⟨cm,m,a,b,M,ra,rb,ho⟩
  obtain ⟨t,e,ho⟩:=Q0 ho
  obtain ⟨ta,tb,ea,eb,e⟩:=Zcb e
  change mulT ta tb=some t at e
  unfold mulT at e
  split at e
  rotate_left
  · cases e
  rename_i k
  split at e
  · split at e <;> cases e
    cases (Zg ra ea (fun _ z=>by cases z)).vint
    cases (Zg rb eb (fun _ z=>by cases z)).vint
    exact ZlI pins s σ H _ _ v u Q I rx ry ⟨_,_,rfl,rfl,‹_›,ans ho M (.int _)⟩
  · split at e <;> cases e
    rename_i ts hc
    obtain ⟨p,vs,rfl,h1,r1⟩:=(Zg ra ea (fun _ z=>by cases z)).itup
    cases (Zg rb eb (fun _ z=>by cases z)).vint
    have l1:=r1.length
    have hz:=ZG
    have hl:(lim:Int) < 2 ^ 63:=by unfold lim; decide
    refine ZlF pins s σ H _ _ v u Q I rx ry ⟨p,_,vs,rfl,rfl,h1,by omega,by rw [← l1]; omega,fun hq=>?_,fun _ l hl=>ZcH ho M (ZaC r1 _) hl⟩
    have e:repT ts k.toNat=ts:=by
      rcases hq with rfl | rfl
      · cases r1; simp [repT]
      · simp [repT]
    rw [e] at ho
    exact ans ho M (.mtup h1 r1)
  · split at e <;> cases e
    rename_i hc
    obtain ⟨p,vs,rfl,h1,r1⟩:=ZM M ra ea
    cases (Zg rb eb (fun _ z=>by cases z)).vint
    have l1:=r1.length
    have hz:=ZG
    have hl:(lim:Int) < 2 ^ 63:=by unfold lim; decide
    exact op_rep pins s σ H _ _ v u Q I rx ry ⟨p,_,vs,rfl,rfl,h1,by omega,by omega,by rw [← l1]; omega,fun l hl=>ZcI ho M (ZaC r1 _) hl⟩
  · split at e <;> cases e
    rename_i cs hc
    cases (Zg ra ea (fun _ z=>by cases z)).vstr
    cases (Zg rb eb (fun _ z=>by cases z)).vint
    obtain ⟨tx,rfl⟩:=rx
    obtain ⟨ty,rfl⟩:=ry
    refine SB.mul (mul_fits hc.1 hc.2) fun t' k'=>⟨.str ⟨(repT cs k.toNat).toArray⟩,H,I.tok _,⟨t',?_⟩,ans ho M (.str _)⟩
    rw [ZjU hc.1.1]
  all_goals cases e
theorem op_no {op:Operator} (h:∀ x y,binT op x y=none):OpR X (binaryOp op) (r2 X.K xr (fBin op)):=by
  rintro pins s σ H x y v u Q I rx ry ⟨cm,m,a,b,M,ra,rb,ho⟩
  obtain ⟨t,e,ho⟩:=Q0 ho
  obtain ⟨ta,tb,ea,eb,e⟩:=Zcb e
  rw [h] at e
  cases e
theorem op_bin (op:Operator):OpR X (binaryOp op) (r2 X.K xr (fBin op)):=by
  cases op <;> first | exact Zgh | exact Zgd | exact Zgf | exact ZeG | exact Zgg | exact Zge | exact op_no fun x y=>by cases x <;> cases y <;> rfl
variable {a b c:Expr} {ea eb ec:E} {pos:Pos}
theorem ZlB {op:Operator} (ha:PE X a (tE X.K call gv xr ea)) (hb:PE X b (tE X.K call gv xr eb)):PE X (.BinOp a op b pos) (tE X.K call gv xr (.bin op ea eb)) :=
  PE.mono (pe_op (op_bin op) ha hb) (Zi2 fun env m=>by rw [ev]; rfl)
theorem Zlv {op:CmpOp} (ha:PE X a (tE X.K call gv xr ea)) (hb:PE X b (tE X.K call gv xr eb)) (hm:behindInMarks op b=false) (hu:X.A.units + 64 < cLine):PE X (.Compare a [op] [b] pos) (tE X.K call gv xr (.cmp op ea eb)) :=
  PE.mono (Zlw (Zcm hu op) ha hb hm) (Zi2 fun env m=>by rw [ev]; rfl)
theorem Zim {op:CmpOp} {x y w:W} {m m':Mem} (h:fCmp op x y m = .ok w m'):∃ k,w = .t (.bl k)∧m' = m:=by
  unfold fCmp at h
  cases q:((view x m).bind fun x=>(view y m).bind fun y=>cmpT op x y) with
  | none=>rw [q] at h; cases h
  | some k=>rw [q] at h; cases h; exact ⟨k,rfl,rfl⟩
theorem Zez {f:Env→Mem→Res W} {e:Expr} {te:TE} {a:E} (h:PT X e (ZkW te)) (hk:∀ env m w m',ev call gv a env m = .ok w m'→∃ k,w = .t (.bl k)) (he:∀ σ H Q,tE X.K call gv xr a σ H Q→te σ H Q):PT X e (tT X.K call gv xr a):=by
  refine PT.mono h fun σ H Q ⟨env,cm,m,hE,M,ho⟩=>he σ H _ ⟨env,cm,m,hE,M,?_⟩
  cases q:ev call gv a env m with
  | stuck=>rw [q] at ho; exact ho.elim
  | exc e m'=>rw [q] at ho; exact ho
  | ok w m' =>
    obtain ⟨k,rfl⟩:=hk env m w m' q
    rw [q] at ho
    intro cm1 H1 x1 M1 v rv
    cases RT.vbl rv
    exact ⟨k,rfl,(show OkR X.K (.ok k m') xr cm m H _ from ho) cm1 H1 x1 M1⟩
theorem Zk6 {op:CmpOp} (ha:PE X a (tE X.K call gv xr ea)) (hb:PE X b (tE X.K call gv xr eb)) (hm:behindInMarks op b=false) (hu:X.A.units + 64 < cLine):PT X (.Compare a [op] [b] pos) (tT X.K call gv xr (.cmp op ea eb)):=by
  refine Zez (f:=fun _ _=>.stuck) (Zk7 (Zcm hu op) ha hb hm) (fun env m w m' h=>?_) (Zi2 fun env m=>by rw [ev]; rfl)
  rw [ev] at h
  obtain ⟨x,m1,_,h⟩:=Zw h
  obtain ⟨y,m2,_,h⟩:=Zw h
  obtain ⟨k,hk,_⟩:=Zim h
  exact ⟨k,hk⟩
theorem ZkL {op op':CmpOp} (σ:L2.St) (H:Hp) (Q:VK) (q:tE X.K call gv xr (.chn op op' ea eb ec) σ H Q) :
    Zhb (r2 X.K xr (fCmp op)) (r2 X.K xr (fCmp op')) (tE X.K call gv xr ea) (tE X.K call gv xr eb) (tE X.K call gv xr ec) σ H Q:=by
  obtain ⟨env,cm,m,hE,hM,ho⟩:=q
  rw [ev] at ho
  refine ⟨env,cm,m,hE,hM,ho.bind.mono fun w cm1 m1 H1 x1 M1 o1 v rv=>?_⟩
  refine ⟨env,cm1,m1,hE.ext x1 hM M1,M1,o1.bind.mono fun w2 cm2 m2 H2 x2 M2 o2 v2 rv2=>?_⟩
  refine ⟨cm2,m2,w,w2,M2,rv.ext x2 M1 M2,rv2,?_⟩
  split at o2
  · rename_i e
    have e1:fCmp op w w2 m2 = .ok (.t (.bl true)) m2:=by unfold fCmp; rw [e]; rfl
    rw [e1]
    intro cm3 H3 x3 M3 v3 rv3
    cases RT.vbl rv3
    refine ⟨true,rfl,iteT ?_⟩
    refine ⟨env,cm3,m2,(hE.ext (x1.trans (x2.trans x3)) hM M3),M3,(OkR.shift o2 x3).bind.mono fun w4 cm4 m4 H4 x4 M4 o4 v4 rv4=>?_⟩
    exact ⟨cm4,m4,w2,w4,M4,(rv2.ext x3 M2 M3).ext x4 M3 M4,rv4,o4⟩
  · rename_i e
    have e1:fCmp op w w2 m2 = .ok (.t (.bl false)) m2:=by unfold fCmp; rw [e]; rfl
    rw [e1]
    intro cm3 H3 x3 M3 v3 rv3
    cases RT.vbl rv3
    exact ⟨false,rfl,iteF (OkR.to o2 x3 M3 _ (.bl false))⟩
  · exact o2.elim
theorem Zlx {op op':CmpOp} (ha:PE X a (tE X.K call gv xr ea)) (hb:PE X b (tE X.K call gv xr eb)) (hc:PE X c (tE X.K call gv xr ec)) (hm:lastMarks [op,op'] [b,c]=false) (hu:X.A.units + 64 < cLine) :
    PE X (.Compare a [op,op'] [b,c] pos) (tE X.K call gv xr (.chn op op' ea eb ec)):=PE.mono (ZjF (Zcm hu op) (Zcm hu op') ha hb hc hm) ZkL
theorem Zk8 {op op':CmpOp} (ha:PE X a (tE X.K call gv xr ea)) (hb:PE X b (tE X.K call gv xr eb)) (hc:PE X c (tE X.K call gv xr ec)) (hm:lastMarks [op,op'] [b,c]=false) (hu:X.A.units + 64 < cLine) :
    PT X (.Compare a [op,op'] [b,c] pos) (tT X.K call gv xr (.chn op op' ea eb ec)):=by
  refine Zez (f:=fun _ _=>.stuck) (Zjb (Zcm hu op) (Zcm hu op') ha hb hc hm) (fun env m w m' h=>?_) ZkL
  rw [ev] at h
  obtain ⟨x,m1,_,h⟩:=Zw h
  obtain ⟨y,m2,_,h⟩:=Zw h
  split at h
  · obtain ⟨z,m3,_,h⟩:=Zw h
    obtain ⟨k,hk,_⟩:=Zim (op:=op') (x:=y) (y:=z) h
    exact ⟨k,hk⟩
  · cases h; exact ⟨_,rfl⟩
  · cases h
theorem pe_ixW (ha:PE X a (tE X.K call gv xr ea)) (hb:PE X b (tE X.K call gv xr eb)) (hs:ZiO b):PE X (.Subscript a b pos) (tE X.K call gv xr (.ix ea eb)) :=
  PE.mono (pe_ix ix_ix ha hb hs) (Zi2 fun env m=>by rw [ev]; rfl)
end
end Mi
end
section
namespace Mi
open PySem PySem.Spec PyProof.Rows L2
section
variable {K:PySem.W.Frag} {cm:List Addr} {m:Mem} {H:Hp} {xr:XR} {X:Cx} {call:Nat→List W→Mem→Res W} {gv:List T}
variable {a b c e:Expr} {es:List Expr} {ea eb ec:E} {eas:Es} {pos p:Pos}
noncomputable def notStar:Expr→Bool
  | .Starred _ _=>false
  | _=>true
theorem J9 {env:PySem.Env} (h:notStar e=true):starEach (e :: es) env=(false,eval e env) :: starEach es env:=by
  cases e <;> first | rfl | cases h
theorem Zhf {env:PySem.Env}:∀ {es:List Expr},es.all notStar=true→(backTo pos (starEach es env)).all (fun x=>!x.1)=true
  | [],_=>rfl
  | e :: es,h=>by
    rw [List.all_cons,Bool.and_eq_true] at h
    rw [J9 h.1]
    show (!false && (backTo pos (starEach es env)).all (fun x=>!x.1))=true
    rw [Zhf h.2]
    rfl
theorem Zbn {env:PySem.Env} {es:List Expr} (h:es.all notStar=true):(backTo pos (starEach es env)).any (·.1)=false:=by
  have h1:=Zhf (pos:=pos) (env:=env) h
  rw [List.any_eq_false]
  intro x hx
  have:=List.all_eq_true.mp h1 x hx
  simpa using this
theorem ZlE:PA X [] (tA X.K call gv xr .nil):=PA.mono Zku fun σ H Q ⟨env,cm,m,hE,M,ho⟩=>by
  rw [evs] at ho
  exact OkR.now ho M [] .nil
theorem ZjJ (ha:PE X e (tE X.K call gv xr ea)) (hr:PA X es (tA X.K call gv xr eas)) (hs:notStar e=true):PA X (e :: es) (tA X.K call gv xr (.cons ea eas)):=by
  refine PA.mono (ZeF ha hr (J9 hs)) ?_
  rintro σ H Q ⟨env,cm,m,hE,M,ho⟩
  rw [evs] at ho
  refine ⟨env,cm,m,hE,M,ho.bind.mono fun w cm1 m1 H1 x1 M1 o1 v rv=>?_⟩
  exact ⟨env,cm1,m1,hE.ext x1 M M1,M1,o1.bind.mono fun ws cm2 m2 H2 x2 M2 o2 vs rvs=>OkR.now o2 M2 (v :: vs) (.cons (rv.ext x2 M1 M2) rvs)⟩
theorem Zd3 {w:W} {m m':Mem} {x:Exc}:frz w m≠.exc x m':=by
  intro h
  unfold frz at h
  split at h
  · cases h
  · cases h
  · split at h <;> cases h
theorem ZaJ:∀ {ws:List W} {m m':Mem} {x:Exc},frzs ws m≠.exc x m'
  | [],_,_,_=>fun h=>by cases h
  | w :: ws,m,m',x=>fun h=>by
    rw [frzs] at h
    cases q:frz w m with
    | stuck=>rw [q] at h; cases h
    | exc y m1=>exact Zd3 q
    | ok t m1 =>
      rw [q] at h
      have h':((frzs ws m1).bind fun ts m=>Res.ok (t :: ts) m) = .exc x m':=h
      cases q2:frzs ws m1 with
      | stuck=>rw [q2] at h'; cases h'
      | exc y m2=>exact ZaJ q2
      | ok ts m2=>rw [q2] at h'; cases h'
theorem ZaI:∀ {ws:List W} {vs:List V} {ts:List T} {m m':Mem},MemR K cm m H→RWs K cm m H ws vs→frzs ws m = .ok ts m'→Ext cm m H cm m' H∧MemR K cm m' H∧RTs K cm m' H ts vs
  | [],_,_,_,_,M,.nil,e=>by cases e; exact ⟨.refl,M,.nil⟩
  | w :: ws,v :: vs,ts,m,m',M,.cons r rs,e=>by
    rw [frzs] at e
    obtain ⟨t,m1,e1,e⟩:=Zw e
    obtain ⟨us,m2,e2,e⟩:=Zw e
    cases e
    obtain ⟨x1,M1,r1⟩:=Zih M r e1
    obtain ⟨x2,M2,r2⟩:=ZaI M1 (RWs.ext x1 M M1 rs) e2
    exact ⟨x1.trans x2,M2,.cons (RT.ext x2 M1 M2 r1) r2⟩
theorem Zbb {α:Type} {ws:List W} {f:List T→Mem→Res α} {k:α→List Addr→Mem→Hp→Prop} (h:OkR K ((frzs ws m).bind f) xr cm m H k):∃ ts m',frzs ws m = .ok ts m'∧OkR K (f ts m') xr cm m H k:=by
  cases q:frzs ws m with
  | stuck=>rw [q] at h; exact h.elim
  | exc x m'=>exact absurd q ZaJ
  | ok ts m'=>rw [q] at h; exact ⟨ts,m',rfl,h⟩
theorem ZbJ {α:Type} {c:Prop} [Decidable c] {r:Res α} {k:α→List Addr→Mem→Hp→Prop} (h:OkR K (if c then r else .stuck) xr cm m H k):c∧OkR K r xr cm m H k:=by
  by_cases hc:c
  · rw [if_pos hc] at h; exact ⟨hc,h⟩
  · rw [if_neg hc] at h; exact h.elim
theorem Zli {x1} (h:PA X es (tA X.K call gv xr eas)):PE X (.Tuple es x1 pos) (tE X.K call gv xr (.tup eas)):=by
  refine PE.mono (pe_tup h) ?_
  rintro σ H Q ⟨env,cm,m,hE,M,ho⟩
  rw [ev] at ho
  refine ⟨env,cm,m,hE,M,ho.bind.mono fun ws cm1 m1 H1 x1 M1 o1 vs rvs=>?_⟩
  obtain ⟨ts,m2,e2,o2⟩:=Zbb o1
  obtain ⟨hl,o3⟩:=ZbJ o2
  obtain ⟨x2,M2,r2⟩:=ZaI M1 rvs e2
  have l2:=r2.length
  have hz:=ZG
  exact ⟨by omega,fun p hp=>ZcH (OkR.shift o3 x2) M2 r2 hp⟩
theorem Zlm (h:PA X es (tA X.K call gv xr eas)):PE X (.List es pos) (tE X.K call gv xr (.lst eas)):=by
  refine PE.mono (pe_lst h) ?_
  rintro σ H Q ⟨env,cm,m,hE,M,ho⟩
  rw [ev] at ho
  refine ⟨env,cm,m,hE,M,ho.bind.mono fun ws cm1 m1 H1 x1 M1 o1 vs rvs=>?_⟩
  obtain ⟨ts,m2,e2,o2⟩:=Zbb o1
  obtain ⟨hl,o3⟩:=ZbJ o2
  obtain ⟨x2,M2,r2⟩:=ZaI M1 rvs e2
  have l2:=r2.length
  have hz:=ZG
  exact ⟨by omega,fun p hp=>ZcI (OkR.shift o3 x2) M2 r2 hp⟩
noncomputable def tLstN (K:PySem.W.Frag) (t:TA):TE:=fun σ H Q=>t σ H fun xs H1=>xs.length≤sizeLine∧∀ p,H1 p=none→K.lookup p=none→Q (.ref p) (upd H1 p (.lst xs))
theorem Inv.notK {pins:List (Addr×Obj)} {σ:L2.St} {H:Hp} {s:Shared} (I:Inv X pins σ H s):X.K.lookup s.heap.objs.size=none:=by
  cases q:X.K.lookup s.heap.objs.size with
  | none=>rfl
  | some o=>exact absurd (Heap.lt_size (I.kIn _ _ q)) (Nat.lt_irrefl _)
theorem Zln {t:TA} (h:PA X es t):PE X (.List es pos) (tLstN X.K t):=by
  intro pins s σ H Q I hq
  refine wpAny_List_spliced (thn (h pos pins s σ H _ I hq) fun us s1 ⟨xs,H1,I1,r,z,q⟩=>⟨by rw [← r.length]; exact z,?_⟩)
  have hf:H1 s1.heap.objs.size=none:=I1.hok.fresh (Nat.le_refl _)
  refine ⟨.ref s1.heap.objs.size,upd H1 s1.heap.objs.size (.lst xs),I1.laid (t':=s1.toks) (fun b u e=>Heap.get?_push_of_some _ e) (Nat.le_refl _) ?_,rfl,q _ hf (Mi.Inv.notK I1)⟩
  exact ⟨z,us,0,r,Heap.get?_push_size _ rfl⟩
theorem ZhA (h:PA X es (tA X.K call gv xr eas)):PE X (.List es pos) (tE X.K call gv xr (.cel eas)):=by
  refine PE.mono (Zln h) ?_
  rintro σ H Q ⟨env,cm,m,hE,M,ho⟩
  rw [ev] at ho
  refine ⟨env,cm,m,hE,M,ho.bind.mono fun ws cm1 m1 H1 x1 M1 o1 vs rvs=>?_⟩
  obtain ⟨ts,m2,e2,o2⟩:=Zbb o1
  obtain ⟨hl,o3⟩:=ZbJ o2
  obtain ⟨x2,M2,r2⟩:=ZaI M1 rvs e2
  have l2:=r2.length
  have hz:=ZG
  refine ⟨by omega,fun p hp hk=>?_⟩
  obtain ⟨x3,M3,r3⟩:=Zkh M2 r2 hp hk
  exact OkR.to o3 (x2.trans x3) M3 _ r3
theorem ZaZ {α:Type} (xs:List α) (lo hi:Option Int):cut xs lo hi=(xs.drop (HT.sIx xs.length 0 lo)).take (HT.sIx xs.length xs.length hi - HT.sIx xs.length 0 lo):=by
  have e:∀ n d o,ZgK n d o=HT.sIx n d o:=fun n d o=>by cases o <;> rfl
  unfold cut
  rw [e,e]
theorem ZaD {α β:Type} {F:α→β→Prop} {xs:List α} {ys:List β} (h:Paired F xs ys) (lo hi:Option Int):Paired F (cut xs lo hi) (cut ys lo hi):=by
  rw [ZaZ,ZaZ,← h.length]
  exact Zbt _ (Zbu _ h)
theorem Ze4 (xs:List V) (lo hi:Option Int):cutV xs lo hi=cut xs lo hi:=(ZaZ xs lo hi).symm
theorem Zi9 (x y:Nat):sliceRange (x:Int) (y:Int) 1=(List.range (y - x)).map fun k=>x + k:=by
  unfold sliceRange
  simp only [show ((1:Int) > 0)=True from by simp,if_true]
  by_cases h:(x:Int) < y
  · have e3:(((y:Int) - x + 1 - 1) / 1).toNat=y - x:=by first | omega | (simp; done) | (simp; omega)
    rw [if_pos h,e3]
    refine List.map_congr_left fun k _=>?_
    omega
  · have e3:y - x=0:=by omega
    rw [if_neg h,e3]
    rfl
theorem Zbd (n d:Nat) (v:Int):max 0 (min (if v < 0 then v + n else v) (n:Int))=((HT.sIx n d (some v):Nat):Int):=by
  show max 0 (min (if v < 0 then v + n else v) (n:Int))=(((if v < 0 then (v + (n:Int)).toNat else min v.toNat n):Nat):Int)
  split <;> omega
theorem ZgC (lo hi:Option Int) (n:Nat):(Builtin.Str.strSliceIndices lo hi 1 n)=(List.range (HT.sIx n n hi - HT.sIx n 0 lo)).map fun k=>HT.sIx n 0 lo + k:=by
  rw [← Zi9]
  unfold Builtin.Str.strSliceIndices
  cases lo with
  | none =>
    cases hi with
    | none=>rfl
    | some j =>
      rw [← Zbd]
      rfl
  | some i =>
    cases hi with
    | none =>
      rw [← Zbd]
      rfl
    | some j =>
      rw [← Zbd,← Zbd]
      rfl
noncomputable def fSl (w:W) (lo hi:Option Int) (m:Mem):Res W:=pur ((view w m).bind fun x=>slT x lo hi) m
noncomputable def rSl (K:PySem.W.Frag) (xr:XR):V→Option Int→Option Int→Hp→VK→Prop:=fun x lo hi H Q=>∃ cm m w,MemR K cm m H∧RW K cm m H w x∧OkR K (fSl w lo hi m) xr cm m H fun w cm' m' H'=>∀ v,RW K cm' m' H' w v→Q v H'
theorem Zhi {prog:Program} {w:World} {A:Around} {E:Value→Shared→Prop} {s:Shared} {cs:List Nat} {t:Tok} {sl:Addr} {vl vu:Value} {lo hi:Option Int} {Q:Value→Shared→Prop} (hs:s.heap.IsSliceOf sl vl vu .none) (pl:IsPart vl lo) (pu:IsPart vu hi) (hz:cs.length≤lim)
    (h:∀ t' k,Q (.str ⟨(cut cs lo hi).toArray⟩ t') { s with toks:=k }):wpAny (model prog w) A (getItem (.str ⟨cs.toArray⟩ t) (.ref sl)) Q E s:=by
  have hl:=ZG
  obtain ⟨l,e1,e2⟩:∃ l:Option (Int×Tok),vl=partValue l∧l.map (·.1)=lo:=by
    cases pl with
    | none=>exact ⟨none,rfl,rfl⟩
    | int i t=>exact ⟨some (i,t),rfl,rfl⟩
  obtain ⟨u,f1,f2⟩:∃ l:Option (Int×Tok),vu=partValue l∧l.map (·.1)=hi:=by
    cases pu with
    | none=>exact ⟨none,rfl,rfl⟩
    | int i t=>exact ⟨some (i,t),rfl,rfl⟩
  subst e1 f1
  refine wpAny_getItem_str_slice (l:=l) (u:=u) (st:=none) hs (by rfl) ?_
  have pk:slicePicked ⟨cs.toArray⟩ l u none=(List.range (HT.sIx cs.length cs.length hi - HT.sIx cs.length 0 lo)).map fun k=>HT.sIx cs.length 0 lo + k:=by
    unfold slicePicked
    rw [e2,f2,Xh]
    exact ZgC lo hi cs.length
  have hn:HT.sIx cs.length cs.length hi≤cs.length:=HT.sIx_le _ _ (Nat.le_refl _) hi
  have fm:((slicePicked ⟨cs.toArray⟩ l u none).filterMap ((⟨cs.toArray⟩:Str).cps[·]?))=cut cs lo hi:=by
    rw [pk,ZaZ]
    by_cases hle:HT.sIx cs.length 0 lo≤HT.sIx cs.length cs.length hi
    · have:=StrLaws.picks cs (HT.sIx cs.length cs.length hi - HT.sIx cs.length 0 lo) (HT.sIx cs.length 0 lo) (by omega)
      rw [← this]
      simp
    · have:HT.sIx cs.length cs.length hi - HT.sIx cs.length 0 lo=0:=by omega
      rw [this]
      simp
  unfold sliceMade
  split
  · rename_i hw
    rw [Bool.and_eq_true] at hw
    have q:(slicePicked ⟨cs.toArray⟩ l u none).length=cs.length:=by rw [eq_of_beq hw.2,Xh]
    rw [pk,List.length_map,List.length_range] at q
    have e:cut cs lo hi=cs:=by
      rw [ZaZ]
      have:HT.sIx cs.length 0 lo=0∨cs.length=0:=by omega
      rcases this with h0 | h0
      · rw [h0] at q ⊢
        rw [List.drop_zero,q]
        exact List.take_length
      · rw [List.length_eq_zero_iff] at h0
        subst h0
        simp
    have:=h t s.toks
    rw [e] at this
    exact this
  · rw [fm]
    have hc:(cut cs lo hi).length≤cs.length:=by
      rw [ZaZ,List.length_take,List.length_drop]; omega
    exact ⟨by show (cut cs lo hi).toArray.size≤_; rw [List.size_toArray]; omega,h _ _⟩
theorem Zg4 {prog:Program} {w:World} {A:Around} {E:Value→Shared→Prop} {s:Shared} {t sl:Addr} {items:Array Value} {vl vu:Value} {lo hi:Option Int} {Q:Value→Shared→Prop} (ht:IsTup s.heap t items) (hs:s.heap.IsSliceOf sl vl vu .none) (pl:IsPart vl lo) (pu:IsPart vu hi)
    (hw:HT.sIx items.size 0 lo=0∧HT.sIx items.size items.size hi=items.size) (h:Q (.ref t) s):wpAny (model prog w) A (getItem (.ref t) (.ref sl)) Q E s:=by
  obtain ⟨os,hos,hcs,hds⟩:=id hs
  have hTs:s.TypeIs (.ref sl) "slice":=⟨os,hos,hcs⟩
  unfold getItem
  try with_reducible refine wpAny_holding ?_
  first | refine wpAny_bind (wpAny_pure ?_) | skip
  refine wpAny_bind (wpAny_sequenceKey ht.typeIs (by decide) ?_)
  refine wpAny_bind (wpAny_callSpecial?_slot (name:=Str.ofString "__getitem__") ht.typeIs PyProof.Rows.slot_tuple_getitem
    (wpAny_call_entry PyProof.Rows.slot_tuple_getitem ht.typeIs entry_tuple_getitem ?_ (args_tuple_getitem _ _)))
  show wpAny _ _ (Builtin.Tuple.tupleItemsOf (.ref t) >>= _) _ _ s
  refine wpAny_bind (tupleItemsOf_ ht ?_)
  refine wpAny_bind (wpAny_typeOf hTs ?_)
  rw [if_pos (by decide)]
  refine wpAny_bind (HT.sliceApplied_gen hs pl pu ?_)
  show wpAny _ _ (if (((HT.sIx items.size 0 lo:Nat):Int) == 0 && (1:Int) == 1 && (HT.sIx items.size items.size hi - HT.sIx items.size 0 lo) == items.size)=true then _ else _) _ _ s
  rw [if_pos (by rw [hw.1,hw.2]; simp)]
  refine wpAny_bind ?_
  unfold Builtin.Tuple.tupleIsExact
  refine wpAny_bind (wpAny_typeOf ht.typeIs (wpAny_pure ?_))
  rw [if_pos (by decide)]
  exact wpAny_bind (wpAny_rule (wpAny_pure ⟨_,rfl,wpAny_pure h⟩))
theorem Zi5 {pins:List (Addr×Obj)} {s:Shared} {σ:L2.St} {H:Hp} {x:V} {v vl vu:Value} {lo hi:Option Int} {sl:Addr} {Q:VK} {a:Addr} {xs:List V} (I:Inv X pins σ H s) (rx:RelV x v) (hs:s.heap.IsSliceOf sl vl vu .none) (pl:IsPart vl lo) (pu:IsPart vu hi) (e:x = .ref a) (hx:SqT X.K H a xs)
    (hw:HT.sIx xs.length 0 lo=0∧HT.sIx xs.length xs.length hi=xs.length) (q:Q (.ref a) H):∃ T id,typeLookup (.type T) "__getitem__" = pure (some (.builtin id))∧s.TypeIs v T∧wpAny (model X.prog X.w) X.A (getItem v (.ref sl)) (EP X pins σ Q) X.xe s:=by
  subst e
  cases rx
  obtain ⟨its,r,ht,hz⟩:=I.tuple hx
  have hlen:its.toArray.size=xs.length:=by rw [List.size_toArray]; exact r.length.symm
  exact ⟨"tuple",_,PyProof.Rows.slot_tuple_getitem.lookup,ht.typeIs,Zg4 ht hs pl pu (by rw [hlen]; exact hw) ⟨.ref a,H,I,rfl,q⟩⟩
theorem sl_any:SlR X (rSl X.K xr):=by
  rintro pins s σ H x v vl vu lo hi sl Q I rx hs pl pu ⟨cm,m,w,M,rw',ho⟩
  obtain ⟨t,e,ho⟩:=Q0 ho
  cases q:view w m with
  | none=>rw [q] at e; cases e
  | some tw =>
    rw [q] at e
    have e:slT tw lo hi=some t:=e
    cases tw with
    | tup ts =>
      cases e
      obtain ⟨a,vs,rfl,h1,r1⟩:=(Zg rw' q (fun _ z=>by cases z)).itup
      have l1:=r1.length
      have e:∀ n d o,ZgK n d o=HT.sIx n d o:=fun n d o=>by cases o <;> rfl
      by_cases hc:HT.sIx vs.length 0 lo=0∧HT.sIx vs.length vs.length hi=vs.length
      · refine Zi5 I rx hs pl pu rfl h1 hc ?_
        have ec:cut ts lo hi=ts:=by
          unfold cut
          rw [e,e,l1,hc.1,hc.2,List.drop_zero,Nat.sub_zero,← l1,List.take_length]
        rw [ec] at ho
        exact ans ho M (.mtup h1 r1)
      · refine sl_tup pins s σ H _ v vl vu lo hi sl Q I rx hs pl pu ⟨a,vs,rfl,h1,hc,fun p hp=>?_⟩
        rw [Ze4]; exact ZcH ho M (ZaD r1 lo hi) hp
    | lst ts =>
      cases e
      obtain ⟨a,vs,rfl,h1,r1⟩:=ZM M rw' q
      exact Zhj pins s σ H _ v vl vu lo hi sl Q I rx hs pl pu ⟨a,vs,rfl,.of h1,fun p hp=>by rw [Ze4]; exact ZcI ho M (ZaD r1 lo hi) hp⟩
    | scr ns =>
      cases e
      obtain ⟨a,rfl,h1⟩:=(Zg rw' q (fun _ z=>by cases z)).vscr
      refine Zhj pins s σ H _ v vl vu lo hi sl Q I rx hs pl pu ⟨a,_,rfl,h1.sq,fun p hp=>?_⟩
      rw [Ze4]
      refine ZcI ho M ?_ hp
      have:=ZaD (Zaw (K:=X.K) (cm:=cm) (m:=m) (H:=H) ns) lo hi
      have e:cut (ns.map T.int) lo hi=(cut ns lo hi).map T.int:=by
        rw [ZaZ,ZaZ,List.length_map,List.map_take,List.map_drop]
      rw [e] at this
      exact this
    | str cs =>
      unfold slT at e
      dsimp only at e
      split at e <;> cases e
      rename_i hc
      cases (Zg rw' q (fun _ z=>by cases z)).vstr
      obtain ⟨t,rfl⟩:=rx
      exact ⟨"str",_,slot_str_getitem.lookup,typeIs_str s _ t,Zhi hs pl pu hc fun t' k=>⟨.str ⟨(cut cs lo hi).toArray⟩,H,I.tok _,⟨t',rfl⟩,ans ho M (.str _)⟩⟩
    | _=>cases e
noncomputable def evP (call:Nat→List W→Mem→Res W) (gv:List T) (lo:E) (env:Env) (m:Mem):Res (Option Int):=if Ze lo then Res.ok none m else (ev call gv lo env m).bind intP
noncomputable def tP (K:PySem.W.Frag) (call:Nat→List W→Mem→Res W) (gv:List T) (xr:XR) (lo:E):TO:=fun σ H Q=>∃ env cm m,EnvR K cm m H env σ∧MemR K cm m H∧OkR K (evP call gv lo env m) xr cm m H fun o cm' m' H'=>Q o H'
theorem Zju:PO X none (tP X.K call gv xr .hole):=fun pins s σ H Q I ⟨env,cm,m,hE,M,ho⟩=>Zle pins s σ H Q I (OkR.now ho M)
theorem Zjt {lo:Expr} (h:PE X lo (tE X.K call gv xr ea)) (hn:evP call gv ea=fun env m=>(ev call gv ea env m).bind intP):PO X (some lo) (tP X.K call gv xr ea):=fun pins s σ H Q I ⟨env,cm,m,hE,M,ho⟩=>by
  rw [hn] at ho
  refine Zld h pins s σ H Q I ⟨env,cm,m,hE,M,(OkR.bind ho).mono fun w cm1 m1 H1 x1 M1 o1 v rv=>?_⟩
  unfold intP at o1
  split at o1
  · cases RT.vint rv
    exact ⟨_,rfl,OkR.now o1 M1⟩
  · exact o1.elim
theorem Zlk {lo hi:Option Expr} {p2:Pos} (he:PE X e (tE X.K call gv xr ea)) (hl:PO X lo (tP X.K call gv xr eb)) (hu:PO X hi (tP X.K call gv xr ec)):PE X (.Subscript e (.Slice lo hi none p2) pos) (tE X.K call gv xr (.slc ea eb ec)):=by
  refine PE.mono (Zjz (sl_any (xr:=xr)) he hl hu) ?_
  rintro σ H Q ⟨env,cm,m,hE,M,ho⟩
  have e:ev call gv (.slc ea eb ec) env m=(ev call gv ea env m).bind fun x m=>(evP call gv eb env m).bind fun l m=>(evP call gv ec env m).bind fun h m=>fSl x l h m:=by
    rw [ev]
    rfl
  rw [e] at ho
  refine ⟨env,cm,m,hE,M,ho.bind.mono fun w cm1 m1 H1 x1 M1 o1 v rv=>?_⟩
  refine ⟨env,cm1,m1,hE.ext x1 M M1,M1,o1.bind.mono fun l cm2 m2 H2 x2 M2 o2=>?_⟩
  refine ⟨env,cm2,m2,(hE.ext x1 M M1).ext x2 M1 M2,M2,o2.bind.mono fun h cm3 m3 H3 x3 M3 o3=>?_⟩
  exact ⟨cm3,m3,w,M3,(rv.ext x2 M1 M2).ext x3 M2 M3,o3⟩
noncomputable def fBlt (b:B) (ws:List W) (m:Mem):Res W:=pur ((views ws m).bind fun ts=>bltT b ts) m
theorem Zkm {b:B} (σ:L2.St) (H:Hp) (Q:VK) (q:tE X.K call gv xr (.blt b eas) σ H Q):tCB (rN X.K xr (fBlt b)) (tA X.K call gv xr eas) σ H Q:=by
  obtain ⟨env,cm,m,hE,M,ho⟩:=q
  rw [ev] at ho
  exact ⟨env,cm,m,hE,M,ho.bind.mono fun ws cm1 m1 H1 x1 M1 o1 vs rvs=>⟨cm1,m1,ws,M1,rvs,o1⟩⟩
theorem Zbs {b:B} {id:String} {x:Str} (hc:Js X (.builtin id) (rN X.K xr (fBlt b))) (hv:bootBuiltins x=some (.builtin id)) (hg:Gl X x) (hm:X.mg x=none) (ha:PA X (e :: es) (tA X.K call gv xr eas)) (hn:x≠"__name__") (hdb:(x == ("__debug__" : Str))=false)
    (he:notStar e=true) (hpl:es.all notStar=true):PE X (.Call (.Name x p) (e :: es) [] pos) (tE X.K call gv xr (.blt b eas)) :=
  PE.mono (Zfr hc hg hm hv ha hn hdb (J9 he) (Zbn hpl)) Zkm
theorem ZeE {b:B} {id:String} {x:Str} (hc:Js X (.type id) (rN X.K xr (fBlt b))) (hv:bootBuiltins x=some (.type id)) (hg:Gl X x) (hm:X.mg x=none) (ha:PA X (e :: es) (tA X.K call gv xr eas)) (hn:x≠"__name__") (hdb:(x == ("__debug__" : Str))=false)
    (he:notStar e=true) (hpl:es.all notStar=true):PE X (.Call (.Name x p) (e :: es) [] pos) (tE X.K call gv xr (.blt b eas)) :=
  PE.mono (ZhB hc hg hm hv ha hn hdb (J9 he) (Zbn hpl)) Zkm
theorem blt1 {b:B} {ws:List W} {vs:List V} {k:W→List Addr→Mem→Hp→Prop} (r:RWs K cm m H ws vs) (h1:∀ ts t,bltT b ts=some t→ts.length=1) (h:OkR K (fBlt b ws m) xr cm m H k) :
    ∃ w v t r,ws=[w]∧vs=[v]∧RW K cm m H w v∧view w m=some t∧bltT b [t]=some r∧OkR K (.ok (.t r) m) xr cm m H k:=by
  obtain ⟨t,e,ho⟩:=Q0 h
  cases q:views ws m with
  | none=>rw [q] at e; cases e
  | some ts =>
    rw [q] at e
    have e:bltT b ts=some t:=e
    have hl:=h1 ts t e
    have hvl:∀ (ws:List W) (ts:List T),views ws m=some ts→ts.length=ws.length:=fun ws=>by
      induction ws with
      | nil=>intro ts h; cases h; rfl
      | cons w ws ih =>
        intro ts h
        unfold views at h
        cases q1:view w m with
        | none=>rw [q1] at h; cases h
        | some t1 =>
          rw [q1] at h
          cases q2:views ws m with
          | none=>rw [q2] at h; cases h
          | some us=>rw [q2] at h; cases h; simp [ih us q2]
    have hw:=hvl ws ts q
    match ws,vs,r with
    | [],_,_=>rw [hl] at hw; simp at hw
    | w :: w' :: ws,_,_=>rw [hl] at hw; simp at hw
    | [w],_,.cons rv .nil =>
      unfold views at q
      cases q1:view w m with
      | none=>rw [q1] at q; cases q
      | some t1 =>
        rw [q1] at q
        cases q
        exact ⟨w,_,t1,t,rfl,rfl,rv,q1,e,ho⟩
theorem ZhN {f:T→Option T}:∀ {ts:List T} {t:T},one1 f ts=some t→∃ x,ts=[x]∧f x=some t
  | [],_,h=>by cases h
  | [x],_,h=>⟨x,rfl,h⟩
  | _ :: _ :: _,_,h=>by cases h
theorem Zg8 {f:Int→Int→Option T} {ts:List T} {t:T} (h:two2 f ts=some t):∃ i j,ts=[.int i,.int j]∧f i j=some t:=by
  unfold two2 at h
  split at h
  · exact ⟨_,_,rfl,h⟩
  · cases h
theorem Xq {b:B} (hb:b≠.min2∧b≠.max2∧b≠.range2∧b≠.zip2∧b≠.zip4∧b≠.dget∧b≠.din∧b≠.dnot):∀ ts t,bltT b ts=some t→ts.length=1:=by
  intro ts t h
  have h1:∀ f:T→Option T,one1 f ts=some t→ts.length=1:=fun f h=>by
    obtain ⟨x,rfl,_⟩:=ZhN h
    rfl
  cases b <;> first | exact h1 _ h | exact absurd hb (by decide) | cases h
theorem ZiD:Js X (.builtin "len") (rN X.K xr (fBlt .len)):=by
  rintro pins s σ H xs us Q I r ⟨cm,m,ws,M,rws,ho⟩
  obtain ⟨w,v,t,rr,rfl,rfl,rv,e,eb,ho⟩:=blt1 rws (Xq (by decide)) ho
  have hz:=ZG
  cases t with
  | str cs =>
    change (if cs.length≤lim then some (T.int cs.length) else none)=some rr at eb
    split at eb <;> cases eb
    cases (Zg rv e (fun _ z=>by cases z)).vstr
    exact Zbe pins s σ H _ us Q I r ⟨_,_,rfl,⟨by rw [Xh]; omega,rfl⟩,by rw [Xh]; exact ans ho M (.int _)⟩
  | tup ts =>
    cases eb
    obtain ⟨a,vs,rfl,h1,r1⟩:=(Zg rv e (fun _ z=>by cases z)).itup
    exact Zbe pins s σ H _ us Q I r ⟨_,_,rfl,.inr ⟨vs,h1,r1.length⟩,ans ho M (.int _)⟩
  | lst ts =>
    cases eb
    obtain ⟨a,vs,rfl,h1,r1⟩:=ZM M rv e
    exact Zbe pins s σ H _ us Q I r ⟨_,_,rfl,.inl ⟨vs,.of h1,r1.length⟩,ans ho M (.int _)⟩
  | scr ns =>
    cases eb
    obtain ⟨a,rfl,h1⟩:=(Zg rv e (fun _ z=>by cases z)).vscr
    exact Zbe pins s σ H _ us Q I r ⟨_,_,rfl,.inl ⟨_,h1.sq,by simp⟩,ans ho M (.int _)⟩
  | _=>cases eb
theorem ZiE:Js X (.type "int") (rN X.K xr (fBlt .int)):=by
  rintro pins s σ H xs us Q I r ⟨cm,m,ws,M,rws,ho⟩
  obtain ⟨w,v,t,rr,rfl,rfl,rv,e,eb,ho⟩:=blt1 rws (Xq (by decide)) ho
  cases t with
  | int i =>
    cases eb
    cases (Zg rv e (fun _ z=>by cases z)).vint
    exact Zee pins s σ H _ us Q I r (.inl ⟨_,rfl,ans ho M (.int _)⟩)
  | bl b =>
    cases eb
    cases (Zg rv e (fun _ z=>by cases z)).vbl
    exact Zee pins s σ H _ us Q I r (.inr ⟨_,rfl,ans ho M (.int _)⟩)
  | str cs =>
    have eb:(if cs≠[]∧cs.length≤600∧cs.all (fun c=>decide (48≤c) && decide (c≤57))=true then some (T.int (figV cs)) else none)=some rr:=eb
    split at eb <;> cases eb
    rename_i hc
    cases (Zg rv e (fun _ z=>by cases z)).vstr
    obtain ⟨u,rfl,tt,rfl⟩:=vals1 r
    have hd:NumText.AllDigits (⟨cs.toArray⟩:Str).cps.toList:=fun c hcm=>by
      have:=List.all_eq_true.mp hc.2.2 c (by simpa using hcm)
      rw [Bool.and_eq_true] at this
      exact ⟨of_decide_eq_true this.1,of_decide_eq_true this.2⟩
    have ht:=PySem.intText_digits (x:=⟨cs.toArray⟩) hd (by simpa using hc.1) (by show cs.toArray.size≤_; rw [List.size_toArray]; omega)
    refine W.KIN.call_text ht (by show cs.toArray.size≤_; rw [List.size_toArray]; omega) ⟨.int (figV cs),H,I.tok _,⟨s.toks,?_⟩,ans ho M (.int _)⟩
    show Value.int _ _=Value.int (figV cs) _
    rw [show (⟨cs.toArray⟩:Str).cps.toList=cs from by simp]
    rfl
  | _=>cases eb
theorem ZiA:Js X (.type "str") (rN X.K xr (fBlt .str)):=by
  rintro pins s σ H xs us Q I r ⟨cm,m,ws,M,rws,ho⟩
  obtain ⟨w,v,t,rr,rfl,rfl,rv,e,eb,ho⟩:=blt1 rws (Xq (by decide)) ho
  cases t with
  | int i =>
    have eb:(if i.natAbs < 2 ^ 250 then some (T.str (decI i)) else none)=some rr:=eb
    split at eb <;> cases eb
    rename_i hc
    cases (Zg rv e (fun _ z=>by cases z)).vint
    refine Zed pins s σ H _ us Q I r ⟨i,rfl,?_,?_⟩
    · by_cases h0:i.natAbs=0
      · rw [h0]; decide
      · exact Nat.lt_of_lt_of_le ((Nat.log2_lt h0).mpr hc) (by decide)
    · have:=ans ho M (.str _)
      have e2:(⟨(decI i).toArray⟩:Str)=Str.ofString (toString i):=(Zbl rfl).symm
      rw [e2] at this
      exact this
  | _=>cases eb
theorem Zkc (cs:List Nat):RTs K cm m H (cs.map fun c=>T.str [c]) (cs.map fun c=>V.str ⟨#[c]⟩):=by
  induction cs with
  | nil=>exact .nil
  | cons c cs ih=>exact .cons (.str [c]) ih
theorem ZcB {x:Str}:∀ (cs:List Nat) (k:Nat) (vs:List Value),vs.length=cs.length→(∀ (j:Nat) (v:Value),vs[j]? = some v→∃ c u,cs[j]? = some c∧v=Value.str ⟨#[c]⟩ u)→Vals (cs.map fun c=>V.str ⟨#[c]⟩) vs
  | [],_,[],_,_=>.nil
  | [],_,_ :: _,h,_=>by simp at h
  | _ :: _,_,[],h,_=>by simp at h
  | c :: cs,k,v :: vs,hl,h=>by
    obtain ⟨c',u,e1,e2⟩:=h 0 v rfl
    cases e1
    exact .cons ⟨u,e2⟩ (ZcB (x:=x) cs k vs (by simpa using hl) fun j w hw=>h (j + 1) w (by simpa using hw))
theorem Ze9 (hcalm:X.calm=true):Js X (.type "tuple") (rN X.K xr (fBlt .tuple)):=by
  rintro pins s σ H xs us Q I r ⟨cm,m,ws,M,rws,ho⟩
  obtain ⟨w,v,t,rr,rfl,rfl,rv,e,eb,ho⟩:=blt1 rws (Xq (by decide)) ho
  cases t with
  | tup ts =>
    cases eb
    obtain ⟨a,vs,rfl,h1,r1⟩:=(Zg rv e (fun _ z=>by cases z)).itup
    exact Zaq pins s σ H _ us Q I r ⟨a,vs,rfl,.inr ⟨h1,ans ho M (.mtup h1 r1)⟩⟩
  | lst ts =>
    cases eb
    obtain ⟨a,vs,rfl,h1,r1⟩:=ZM M rv e
    exact Zaq pins s σ H _ us Q I r ⟨a,vs,rfl,.inl ⟨.of h1,fun l hl=>ZcH ho M r1 hl⟩⟩
  | str cs =>
    change (if cs.length≤lim then some (T.tup (cs.map fun c=>T.str [c])) else none)=some rr at eb
    split at eb <;> cases eb
    rename_i hc
    cases (Zg rv e (fun _ z=>by cases z)).vstr
    obtain ⟨u,rfl,ru⟩:=vals1 r
    obtain ⟨tk,rfl⟩:=ru
    have hz:=ZG
    refine call_tuple_str (I.ok.hd hcalm) ⟨cs.toArray⟩ tk (fun h' tk' acc hk hit=>?_) (by show cs.toArray.size≤_; rw [List.size_toArray]; omega)
    obtain ⟨h1,h2⟩:=hit
    have I1:Inv X pins σ H { s with heap:=h',toks:=tk' }:=I.kept hk
    have rv2:Vals (cs.map fun c=>V.str ⟨#[c]⟩) acc.toList:=ZcB (x:=⟨cs.toArray⟩) cs 0 acc.toList (by simpa using h1) fun j w hw=>by
      obtain ⟨c,u,e1,e2⟩:=h2 j w (by simpa using hw)
      exact ⟨c,u,by simpa using e1,e2⟩
    refine ⟨.ref h'.objs.size,_,I1.laid (t':=tk') (o:=.tup (cs.map fun c=>V.str ⟨#[c]⟩)) (fun b ob q=>Heap.get?_push_of_some _ q) (Nat.le_refl _) ?_,rfl,ZcH ho M (Zkc cs) (I1.hok.fresh (Nat.le_refl _))⟩
    refine ⟨by rw [List.length_map]; omega,acc.toList,rv2,?_⟩
    have:=TupP.new h' acc.toList.toArray
    simpa using this
  | _=>cases eb
theorem RTs.bools:∀ {ts:List T} {vs:List V} {bs:List Bool},RTs K cm m H ts vs→bools? ts=some bs→vs=bs.map V.bl
  | [],_,_,.nil,e=>by cases e; rfl
  | t :: ts,_,bs,.cons r rs,e=>by
    cases t with
    | bl c =>
      unfold bools? at e
      cases q:bools? ts with
      | none=>rw [q] at e; cases e
      | some cs =>
        rw [q] at e; cases e
        cases RT.vbl r
        rw [RTs.bools rs q]
        rfl
    | _=>cases e
theorem Zat:∀ {bs:List Bool} {us:List Value},Vals (bs.map V.bl) us→us=bs.map Value.bool
  | [],_,.nil=>rfl
  | b :: bs,_,.cons r rs=>by
    cases r
    rw [Zat rs]
    rfl
theorem Zh9 {s:Shared} {h':Heap} {o:Obj} (hk:∀ b x,b ∉ [s.heap.objs.size]→(s.heap.push o).get? b=some x→h'.get? b=some x):∀ b x,s.heap.get? b=some x→h'.get? b=some x :=
  fun b x e=>hk b x (fun hm=>by rw [List.mem_singleton.mp hm] at e; exact Nat.lt_irrefl _ (Heap.lt_size e)) (Heap.get?_push_of_some _ e)
theorem Zkp {α:Type} (f:List α→Bool) (bs:List Bool) (d:Bool):(List.range bs.length).map (fun i=>(bs[i]?).getD d)=bs:=by
  apply List.ext_getElem?
  intro i
  rw [List.getElem?_map]
  by_cases h:i < bs.length
  · rw [List.getElem?_range h]; simp [h]
  · simp [h]
theorem ZiF (hc:X.calm=true):Js X (.builtin "all") (rN X.K xr (fBlt .all)):=by
  rintro pins s σ H xs us Q I r ⟨cm,m,ws,M,rws,ho⟩
  obtain ⟨w,v,t,rr,rfl,rfl,rv,e,eb,ho⟩:=blt1 rws (Xq (by decide)) ho
  cases t with
  | lst ts =>
    have eb:(bools? ts).map (fun bs=>T.bl (bs.all id))=some rr:=eb
    cases q:bools? ts with
    | none=>rw [q] at eb; cases eb
    | some bs =>
      rw [q] at eb; cases eb
      obtain ⟨a,vs,rfl,h1,r1⟩:=ZM M rv e
      obtain ⟨u,rfl,ru⟩:=vals1 r
      cases ru
      obtain ⟨its,rv',pl,hz⟩:=I.list (.of h1)
      cases RTs.bools r1 q
      cases Zat rv'
      have hl:=pl.isList
      have hlt:a < s.heap.objs.size:=by obtain ⟨_,e,_⟩:=hl; exact Heap.lt_size e
      refine call_all_walk (wpAny_pyIter_list hl ?_)
      refine ⟨s.heap.objs.size,[s.heap.objs.size,a],[s.heap.objs.size],(bs.map Value.bool).toArray.size,_,_,fun i=>(bs[i]?).getD true,rfl,Walks.list (A:=X.A.in1) (I.ok.hd hc) _ a (Nat.ne_of_lt hlt) (bs.map Value.bool).toArray,
        ⟨⟨_,Heap.get?_push_size _ rfl,rfl,rfl⟩,hl.push _⟩,fun i v s' Q' E' hP hQ=>?_,fun h' tk hk=>?_⟩
      · have hP':(bs.map Value.bool)[i]? = some v:=by simpa using hP
        rw [List.getElem?_map] at hP'
        cases qq:bs[i]? with
        | none=>rw [qq] at hP'; cases hP'
        | some b =>
          rw [qq] at hP'; cases hP'
          dsimp only at hQ
          rw [qq] at hQ
          exact wpAny_truthy_bool hQ
      · have e:((List.range (bs.map Value.bool).toArray.size).all fun i=>(bs[i]?).getD true)=bs.all id:=by
          rw [List.size_toArray,List.length_map]
          have:=congrArg (fun l=>l.all id) (Zkp (α:=Nat) (fun _=>true) bs true)
          rw [← this,List.all_map]
          rfl
        rw [e]
        exact ⟨.bl _,H,I.kept (Zh9 hk),rfl,ans ho M (.bl _)⟩
  | tup ts =>
    have eb:(bools? ts).map (fun bs=>T.bl (bs.all id))=some rr:=eb
    cases q:bools? ts with
    | none=>rw [q] at eb; cases eb
    | some bs =>
      rw [q] at eb; cases eb
      obtain ⟨a,vs,rfl,h1,r1⟩:=RT.itup (Zg rv e (fun _ z=>by cases z))
      obtain ⟨u,rfl,ru⟩:=vals1 r
      cases ru
      obtain ⟨its,rv',pl,hz⟩:=I.tuple h1
      cases RTs.bools r1 q
      cases Zat rv'
      have hl:s.heap.IsTuple a (bs.map Value.bool).toArray:=pl
      have hlt:a < s.heap.objs.size:=by obtain ⟨_,e,_⟩:=hl; exact Heap.lt_size e
      refine call_all_walk (wpAny_pyIter_tuple hl ?_)
      refine ⟨s.heap.objs.size,[s.heap.objs.size,a],[s.heap.objs.size],(bs.map Value.bool).toArray.size,_,_,fun i=>(bs[i]?).getD true,rfl,Walks.tuple (A:=X.A.in1) (I.ok.hd hc) _ a (Nat.ne_of_lt hlt) (bs.map Value.bool).toArray,
        ⟨⟨_,Heap.get?_push_size _ rfl,rfl,rfl⟩,(show Heap.IsTuple (s.heap.push _) a _ from let ⟨o,ho,r⟩:=hl; ⟨o,Heap.get?_push_of_some _ ho,r⟩)⟩,fun i v s' Q' E' hP hQ=>?_,fun h' tk hk=>?_⟩
      · have hP':(bs.map Value.bool)[i]? = some v:=by simpa using hP
        rw [List.getElem?_map] at hP'
        cases qq:bs[i]? with
        | none=>rw [qq] at hP'; cases hP'
        | some b =>
          rw [qq] at hP'; cases hP'
          dsimp only at hQ
          rw [qq] at hQ
          exact wpAny_truthy_bool hQ
      · have e:((List.range (bs.map Value.bool).toArray.size).all fun i=>(bs[i]?).getD true)=bs.all id:=by
          rw [List.size_toArray,List.length_map]
          have:=congrArg (fun l=>l.all id) (Zkp (α:=Nat) (fun _=>true) bs true)
          rw [← this,List.all_map]
          rfl
        rw [e]
        exact ⟨.bl _,H,I.kept (Zh9 hk),rfl,ans ho M (.bl _)⟩
  | _=>cases eb
end
end Mi
end
section
namespace Mi
open PySem PySem.Spec PyProof.Rows L2
section
variable {K:PySem.W.Frag} {cm:List Addr} {m:Mem} {H:Hp} {xr:XR} {X:Cx} {call:Nat→List W→Mem→Res W} {gv:List T}
variable {a b c e:Expr} {es:List Expr} {ea eb ec:E} {eas:Es} {pos p p2:Pos}
noncomputable def tyN:Ty→String
  | .int=>"int"
  | .bool=>"bool"
  | .str=>"str"
  | .tuple=>"tuple"
  | .list=>"list"
  | .dict=>"dict"
noncomputable def tyT:T→String
  | .non=>"NoneType"
  | .bl _=>"bool"
  | .int _=>"int"
  | .str _=>"str"
  | .tup _=>"tuple"
  | .lst _=>"list"
  | .dct _ _=>"dict"
  | .scr _=>"list"
theorem ZlZ (t:T) (ty:Ty):PySem.W.kitOne K (.type (tyT t)) (.type (tyN ty))=some (isT t ty):=by cases t <;> cases ty <;> rfl
theorem Zl2 {pins:List (Addr×Obj)} {σ:L2.St} {s:Shared} {A:Around} {E:Value→Shared→Prop} {Q:Value→Shared→Prop} {w:W} {v:V} {u:Value} {t:T} {ty:Ty} (I:Inv X pins σ H s) (M:MemR X.K cm m H) (rx:RelV v u) (r:RW X.K cm m H w v) (ew:view w m=some t) (h:∀ tk,Q (.bool (isT t ty)) { s with toks:=tk }) :
    wpAny (model X.prog X.w) A (PySem.call (.builtin "isinstance") [u,.type (tyN ty)]) Q E s:=by
  have k:=ZlZ (K:=X.K) t ty
  have onL:∀ (a:Addr) (vs:List V),v = .ref a→SqL X.K H a vs→tyT t = "list"→wpAny (model X.prog X.w) A (PySem.call (.builtin "isinstance") [u,.type (tyN ty)]) Q E s:=fun a vs e hq et=>by
    subst e
    cases rx
    obtain ⟨its,_,pl,_⟩:=I.list hq
    obtain ⟨o,n,e,c,_⟩:=pl
    rw [et] at k
    exact PySem.W.kia_one PySem.W.kitx_list I.kIn ⟨o,e,c⟩ k (fun z=>nomatch z) h
  cases t with
  | non=>cases (Zg r ew (fun _ z=>by cases z)).vnon; exact Xm I rx .non k h
  | bl y=>cases (Zg r ew (fun _ z=>by cases z)).vbl; exact Xm I rx (.bl y) k h
  | int i=>cases (Zg r ew (fun _ z=>by cases z)).vint; exact Xm I rx (.int i) k h
  | str cs=>cases (Zg r ew (fun _ z=>by cases z)).vstr; exact Xm I rx (.str _) k h
  | tup ts =>
    obtain ⟨a,vs,rfl,h1,_⟩:=(Zg r ew (fun _ z=>by cases z)).itup
    cases rx
    obtain ⟨its,_,p,_⟩:=I.tuple h1
    obtain ⟨o,h1,h2,_⟩:=p
    exact PySem.W.kia_one PySem.W.kitx_tuple I.kIn ⟨o,h1,h2⟩ k (fun z=>nomatch z) h
  | lst ts =>
    obtain ⟨a,vs,e,h1,_⟩:=ZM M r ew
    exact onL a vs e (.of h1) rfl
  | scr ns =>
    obtain ⟨a,e,h1⟩:=(Zg r ew (fun _ z=>by cases z)).vscr
    exact onL a _ e h1.sq rfl
  | dct ks ts =>
    have r':=Zg r ew (fun _ z=>by cases z)
    cases r' with
    | dct q1 q2 q3 q4 q5=>exact Xm I rx (.dK q1) k h
noncomputable def fIsi (ty:Ty) (w:W) (m:Mem):Res W:=pur ((view w m).map fun x=>.bl (isT x ty)) m
theorem Zki {ty:Ty}:Js X (.builtin "isinstance") (fun xs H Q=>∃ x,xs=[x,.ty (tyN ty)]∧r1 X.K xr (fIsi ty) x H Q):=by
  rintro pins s σ H xs us Q I r ⟨x,e,cm,m,w,M,rw',ho⟩
  subst e
  obtain ⟨u1,u2,rfl,ru1,ru2⟩:=vals2 r
  cases (show u2=Value.type (tyN ty) from ru2)
  obtain ⟨t,et,ho⟩:=Q0 ho
  cases q:view w m with
  | none=>rw [q] at et; cases et
  | some tw =>
    rw [q] at et; cases et
    exact Zl2 I M ru1 rw' q fun tk=>⟨.bl _,H,I.tok _,rfl,ans ho M (.bl _)⟩
theorem Zlp {ty:Ty} {x:Str} (ha:PE X a (tE X.K call gv xr ea)) (hg:Gl X "isinstance") (hm:X.mg "isinstance" = none) (hgT:Gl X x) (hmT:X.mg x=none) (hv:bootBuiltins x=some (.type (tyN ty)))
    (hn:x≠"__name__":=by decide) (hd:(x == ("__debug__" : Str))=false:=by decide)
    (hs:notStar a=true:=by rfl) :
    PE X (.Call (.Name "isinstance" p) [a,.Name x p2] [] pos) (tE X.K call gv xr (.isi ea ty)):=by
  refine PE.mono (Zfr (Zki (ty:=ty) (xr:=xr)) hg hm (by decide +kernel) (ZeF ha (ZeF (ZlA (v:=.ty (tyN ty)) hgT hmT hv rfl hn hd) Zku (J9 rfl)) (J9 hs)) (by decide) (by decide) (J9 hs) (Zbn rfl)) ?_
  rintro σ H Q ⟨env,cm,m,hE,M,ho⟩
  rw [ev] at ho
  exact ⟨env,cm,m,hE,M,ho.bind.mono fun w cm1 m1 H1 x1 M1 o1 v rv=>⟨v,rfl,cm1,m1,w,M1,rv,o1⟩⟩
noncomputable def rM (K:PySem.W.Frag) (xr:XR) (b:Mt):V→List V→Hp→VK→Prop:=fun x xs H Q=>∃ cm m w ws,MemR K cm m H∧RW K cm m H w x∧RWs K cm m H ws xs∧OkR K (doM b w ws m) xr cm m H fun w cm' m' H'=>∀ v,RW K cm' m' H' w v→Q v H'
theorem ZeV (sep:List Nat):∀ xs:List (List Nat),Str.join ⟨sep.toArray⟩ (xs.map fun c=>(⟨c.toArray⟩:Str))=⟨(Zc sep xs).toArray⟩
  | []=>rfl
  | [x]=>rfl
  | x :: y :: r=>by
    show (⟨x.toArray⟩:Str)++⟨sep.toArray⟩++Str.join ⟨sep.toArray⟩ ((y :: r).map fun c=>(⟨c.toArray⟩:Str))=⟨(x++sep++Zc sep (y :: r)).toArray⟩
    rw [ZeV sep (y :: r),Zhd,Zhd]
theorem RTs.strs:∀ {ts:List T} {vs:List V} {bs:List (List Nat)},RTs K cm m H ts vs→strs? ts=some bs→vs=bs.map fun c=>V.str ⟨c.toArray⟩
  | [],_,_,.nil,e=>by cases e; rfl
  | t :: ts,_,bs,.cons r rs,e=>by
    cases t with
    | str c =>
      unfold strs? at e
      cases q:strs? ts with
      | none=>rw [q] at e; cases e
      | some cs =>
        rw [q] at e; cases e
        cases RT.vstr r
        rw [RTs.strs rs q]
        rfl
    | _=>cases e
theorem Zdi:∀ {bs:List (List Nat)} {us:List Value},Vals (bs.map fun c=>V.str ⟨c.toArray⟩) us→StrsAre us (bs.map fun c=>(⟨c.toArray⟩:Str))
  | [],_,.nil=>.nil
  | b :: bs,_,.cons ⟨t,e⟩ rs=>by
    cases e
    exact .cons _ t (Zdi rs)
theorem Zdg {ws:List W} {t:T} (h:views ws m=some [t]):∃ w,ws=[w]∧view w m=some t:=by
  cases ws with
  | nil=>cases h
  | cons w ws =>
    unfold views at h
    cases q1:view w m with
    | none=>rw [q1] at h; cases h
    | some t1 =>
      rw [q1] at h
      have h:(views ws m).map (t1 :: ·)=some [t]:=h
      cases q2:views ws m with
      | none=>rw [q2] at h; cases h
      | some ts =>
        rw [q2] at h
        cases h
        cases ws with
        | nil=>exact ⟨w,rfl,by rw [q1]⟩
        | cons w2 ws =>
          unfold views at q2
          cases q3:view w2 m with
          | none=>rw [q3] at q2; cases q2
          | some t3 =>
            rw [q3] at q2
            cases q4:views ws m with
            | none=>rw [q4] at q2; cases q2
            | some t4=>rw [q4] at q2; cases q2
theorem Zkx {b:Mt} {w:W} {ws:List W} {k:W→List Addr→Mem→Hp→Prop} (h:OkR K (pur ((view w m).bind fun x=>(views ws m).bind fun ts=>mthT b x ts) m) xr cm m H k):∃ x ts t,view w m=some x∧views ws m=some ts∧mthT b x ts=some t∧OkR K (.ok (.t t) m) xr cm m H k:=by
  obtain ⟨t,e,ho⟩:=Q0 h
  cases q1:view w m with
  | none=>rw [q1] at e; cases e
  | some x =>
    cases q2:views ws m with
    | none=>rw [q1,q2] at e; cases e
    | some ts=>rw [q1,q2] at e; exact ⟨x,ts,t,rfl,rfl,e,ho⟩
theorem ZjW:MtR X "str.join" (rM X.K xr .join):=by
  rintro pins s σ H x xs v us Q I rx rs ⟨cm,m,w,ws,M,rw',rws,ho⟩
  obtain ⟨tw,ts,t,q1,q2,e,hz9⟩:=Zkx (b:=.join) ho
  clear ho
  cases tw with
  | str sep =>
    match ts,e,q2 with
    | [.lst ys],e,q2 =>
      have e:((strs? ys).bind fun zs=>if (zs.map List.length).sum + zs.length * sep.length≤lim then some (T.str (Zc sep zs)) else none)=some t:=e
      cases q3:strs? ys with
      | none=>rw [q3] at e; cases e
      | some zs =>
        rw [q3] at e
        have e:(if (zs.map List.length).sum + zs.length * sep.length≤lim then some (T.str (Zc sep zs)) else none)=some t:=e
        split at e <;> cases e
        rename_i hc
        obtain ⟨w1,rfl,q4⟩:=Zdg q2
        cases rws with
        | cons rv r0 =>
          cases r0
          cases (Zg rw' q1 (fun _ z=>by cases z)).vstr
          obtain ⟨tt,rfl⟩:=rx
          obtain ⟨a,vs,rfl,h1,r1⟩:=ZM M rv q4
          obtain ⟨u,rfl,ru⟩:=vals1 rs
          cases ru
          obtain ⟨its,rv',pl,hz⟩:=I.list (.of h1)
          cases RTs.strs r1 q3
          refine join_list pl.isList (Zdi rv') ?_ fun t' k=>?_
          · rw [List.map_map,Xh,List.length_map]
            have e5:((fun x:Str=>x.length) ∘ fun c:List Nat=>(⟨c.toArray⟩:Str))=List.length:=by funext c; exact Xh c
            have e6:(lim:Nat)≤16777216:=by decide
            rw [e5]
            omega
          · refine ⟨.str ⟨(Zc sep zs).toArray⟩,H,I.tok _,⟨t',?_⟩,ans hz9 M (.str _)⟩
            show Value.str (Txt.join _ _) t' = _
            unfold Txt.join
            rw [StrLaws.glued_eq_join,ZeV]
    | [],e,_=>cases e
    | [.non],e,_=>cases e
    | [.bl _],e,_=>cases e
    | [.int _],e,_=>cases e
    | [.str _],e,_=>cases e
    | [.tup _],e,_=>cases e
    | [.dct _ _],e,_=>cases e
    | [.scr _],e,_=>cases e
    | x1 :: _ :: _,e,_=>cases x1 <;> cases e
  | _=>cases e
theorem ty_str {w:W} {v:V} {b:Mt} (hb:b = .join∨b = .upper) (r:RW K cm m H w v) (h:tyM b w m=true):tyV K "str" v H:=by
  have h':(match view w m with | some (.str _)=>true | _=>false)=true:=by
    rcases hb with rfl | rfl <;> exact h
  split at h'
  · rename_i cs e
    cases (Zg r e (fun _ z=>by cases z)).vstr
    rfl
  · cases h'
theorem few1 {cpos:Pos} (hs:notStar e=true):((backTo cpos (starEach [e] X.env)).all (fun x=>!x.1) && (backToKw cpos (keywordEach [] X.env)).all (fun x=>x.1.isSome)
      && decide ([e].length + ([]:List Keyword).length + (if ([]:List Keyword).isEmpty then 0 else 1) < 30))=true:=by
  rw [Zhf (by rw [List.all_cons,hs]; rfl)]
  rfl
theorem ZjB {o:Expr} {apos cpos:Pos} (ho:PE X o (tE X.K call gv xr ea)) (ha:PA X [e] (tA X.K call gv xr eas))
    (hbase:attributeBase o "join" X.env (eval o X.env)=eval o X.env:=by rfl)
    (hline:(apos.endLine == cpos.line)=true:=by rfl) (hs:notStar e=true:=by rfl) :
    PE X (.Call (.Attribute o "join" apos) [e] [] cpos) (tE X.K call gv xr (.mth .join ea eas)):=by
  refine PE.mono (Zlz PySem.F.plainAttrs_str PySem.F.slot_str_join PySem.F.type_str_join (ZjW (xr:=xr)) ho ha hbase (few1 hs) hline (J9 hs) (Zbn rfl)) ?_
  rintro σ H Q ⟨env,cm,m,hE,M,hq⟩
  rw [ev] at hq
  refine ⟨env,cm,m,hE,M,hq.bind.mono fun w cm1 m1 H1 x1 M1 o1 v rv=>?_⟩
  obtain ⟨ht,o1⟩:=ZbJ o1
  refine ⟨ty_str (.inl rfl) rv ht,env,cm1,m1,hE.ext x1 M M1,M1,o1.bind.mono fun ws cm2 m2 H2 x2 M2 o2 vs rvs=>?_⟩
  exact ⟨cm2,m2,w,ws,M2,rv.ext x2 M1 M2,rvs,o2⟩
structure At (X:Cx) (call:Nat→List W→Mem→Res W) (gv:List T) (e:Expr) (a:E) (f:L2.St→Option V):Prop where
  pe:PE X e (fun σ H Q=>∃ v,f σ=some v∧Q v H)
  rd:∀ env cm m H σ,EnvR X.K cm m H env σ→(∃ w v,ev call gv a env m = .ok w m∧f σ=some v∧RW X.K cm m H w v)∨ev call gv a env m = .stuck
theorem Zga {tg:Expr} (hg:Gl X "range") (hm:X.mg "range" = none) (ha:PA X [a] (tA X.K call gv xr eas)) (hs:notStar a=true:=by rfl):PI X tg (.Call (.Name "range" p) [a] [] pos) (tI X.K call gv xr (.blt .range1 eas)):=by
  refine PI.mono (Zhv hg hm ha (J9 hs)) ?_
  rintro σ H R ⟨env,cm,m,hE,M,ho⟩
  rw [ev] at ho
  refine ⟨env,cm,m,hE,M,ho.bind.mono fun ws cm1 m1 H1 x1 M1 o1 vs rvs=>?_⟩
  obtain ⟨w,v,t,rr,rfl,rfl,rv,e,eb,o2⟩:=blt1 (b:=.range1) rvs (Xq (by decide)) o1
  cases t with
  | int i =>
    change (if i < 2 ^ 62∧-(2 ^ 62)≤i then some (T.lst (rangeT 0 i.toNat)) else none)=some rr at eb
    split at eb <;> cases eb
    rename_i hc
    cases (Zg rv e (fun _ z=>by cases z)).vint
    obtain ⟨ts,m2,q1,q2⟩:=OkR.now o2 M1
    cases q1
    exact ⟨_,rfl,hc.2,hc.1,q2 _ (.rng 0 _)⟩
  | _=>cases eb
end
end Mi
end
section
namespace Mi
open PySem PySem.Spec PyProof.Rows L2
section
variable (K:PySem.W.Frag) (call:Nat→List W→Mem→Res W) (gv:List T) (xr:XR)
noncomputable def Ze0 (n:Nat) (D:Ends) (fl:Flow) (cm:List Addr) (m:Mem) (H:Hp):Prop:=match fl with
  | .next env=>∀ σ:L2.St,σ.length=n→EnvR K cm m H env σ→D.nx σ H
  | .ret w=>∀ v,RW K cm m H w v→D.rt v H
  | .brk env=>∀ σ:L2.St,σ.length=n→EnvR K cm m H env σ→D.bk σ H
  | .cont env=>∀ σ:L2.St,σ.length=n→EnvR K cm m H env σ→D.ct σ H
noncomputable def tS (n:Nat) (s:S):TS:=fun D σ H=>σ.length=n∧∃ env cm m,EnvR K cm m H env σ∧MemR K cm m H∧OkR K (ex call gv s env m) xr cm m H fun fl cm' m' H'=>Ze0 K n D fl cm' m' H'
end
section
variable {K:PySem.W.Frag} {cm:List Addr} {m:Mem} {H:Hp} {xr:XR} {X:Cx} {call:Nat→List W→Mem→Res W} {gv:List T}
variable {a b c e:Expr} {es:List Expr} {ea eb ec:E} {eas:Es} {pos p p2:Pos} {rest:List Stmt} {k:S} {n:Nat}
theorem PSs.mono {sts:List Stmt} {t t':TS} (h:PSs X sts t) (f:∀ D σ H,t' D σ H→t D σ H):PSs X sts t':=fun pins s σ H D I q=>h pins s σ H D I (f D σ H q)
theorem PS.mono {st:Stmt} {t t':TS} (h:PS X st t) (f:∀ D σ H,t' D σ H→t D σ H):PS X st t':=fun pins s σ H D I q=>h pins s σ H D I (f D σ H q)
theorem Zjf:PSs X [] (tS X.K call gv xr n .done):=PSs.mono Zk9 fun D σ H ⟨hl,env,cm,m,hE,M,ho⟩=>by
  rw [ex] at ho
  exact OkR.now ho M σ hl hE
theorem Zje (h:PE X e (tE X.K call gv xr ea)):PSs X (.Return (some e) pos :: rest) (tS X.K call gv xr n (.ret ea k)):=PSs.mono (Q8 (ps_ret h) Zhp) fun D σ H ⟨hl,env,cm,m,hE,M,ho⟩=>by
  rw [ex] at ho
  exact ⟨env,cm,m,hE,M,ho.bind.mono fun w cm1 m1 H1 x1 M1 o1 v rv=>OkR.now o1 M1 v rv⟩
theorem Zhq (h:PE X e (tE X.K call gv xr ea)) (hk:PSs X rest (tS X.K call gv xr n k)) (hs:swapsWith e none pos.line X.env=pure false:=by rfl):PSs X (.Expr e pos :: rest) (tS X.K call gv xr n (.expr ea k)):=PSs.mono (Q8 (Zlb h hs) hk) fun D σ H ⟨hl,env,cm,m,hE,M,ho⟩=>by
  rw [ex] at ho
  exact ⟨env,cm,m,hE,M,ho.bind.mono fun w cm1 m1 H1 x1 M1 o1 v rv=>⟨hl,env,cm1,m1,hE.ext x1 M M1,M1,o1⟩⟩
theorem Zji {i:Nat} {x:Str} {px:Pos} (hN:X.N.Nodup) (hn:X.N.length=n) (hi:X.N[i]? = some x) (hx:Loc X.env.scope x) (h:PE X e (tE X.K call gv xr ea)) (hk:PSs X rest (tS X.K call gv xr n k))
    (hs:swapsWith e (some (.Name x px)) pos.line X.env=pure false:=by rfl) (hf:X.fn x=true∨X.env.scope.names.lookup x=some .local:=by first | exact .inl rfl | exact .inr rfl | assumption):PSs X (.Assign [.Name x px] e pos :: rest) (tS X.K call gv xr n (.asg i ea k)):=PSs.mono (Q8 (ps_set hN hi hx h hs hf) hk) fun D σ H ⟨hl,env,cm,m,hE,M,ho⟩=>by
  rw [ex] at ho
  have hi':i < σ.length:=by rw [hl,← hn]; exact (List.getElem?_eq_some_iff.mp hi).1
  exact ⟨env,cm,m,hE,M,ho.bind.mono fun w cm1 m1 H1 x1 M1 o1 v rv=>⟨by rw [List.length_set]; exact hl,env.set i (some w),cm1,m1,EnvR.set (hE.ext x1 M M1) rv i hi',M1,o1⟩⟩
theorem Zjd {o i v:Expr} {eo ei ev':E} {tp:Pos} (hv:PE X v (tE X.K call gv xr ev')) (ho:PE X o (tE X.K call gv xr eo)) (hi:PE X i (tE X.K call gv xr ei)) (hk:PSs X rest (tS X.K call gv xr n k))
    (ha:∀ v,assign (.Subscript o i tp) X.env v=(do
      let ov ← holding [v] (eval o X.env)
      let iv ← holding [v,ov] (eval i X.env)
      standAt tp
      holding [v,ov,iv] (setItem ov iv v)
      release [v,ov,iv] []):=by intro _; rfl)
    (hs:swapsWithSole [.Subscript o i tp] v pos.line X.env=pure false:=by rfl) (hw:swappedStores [.Subscript o i tp] v X.env=pure none:=by rfl)
    (h1:(assignEach [.Subscript o i tp] X.env).map (·.2)=[assign (.Subscript o i tp) X.env]:=by rfl):PSs X (.Assign [.Subscript o i tp] v pos :: rest) (tS X.K call gv xr n (.set eo ei ev' k)) :=
  PSs.mono (Q8 (Zks hv (pg_sub ho hi set_list ha) hs hw h1) hk) fun D σ H ⟨hl,env,cm,m,hE,M,hq⟩=>by
    rw [ex] at hq
    refine ⟨env,cm,m,hE,M,hq.bind.mono fun z cm1 m1 H1 x1 M1 o1 vz rz=>?_⟩
    refine ⟨env,cm1,m1,hE.ext x1 M M1,M1,o1.bind.mono fun x cm2 m2 H2 x2 M2 o2 vx rx=>?_⟩
    refine ⟨env,cm2,m2,(hE.ext x1 M M1).ext x2 M1 M2,M2,o2.bind.mono fun y cm3 m3 H3 x3 M3 o3 vy ry=>?_⟩
    unfold setM at o3
    split at o3
    · rename_i cc kk
      cases q:frz z m3 with
      | stuck=>rw [q] at o3; exact o3.elim
      | exc e' m'=>exact absurd q Zd3
      | ok t m4 =>
        rw [q] at o3
        obtain ⟨x4,M4,r4⟩:=Zih M3 ((rz.ext x2 M1 M2).ext x3 M2 M3) q
        have rx':RW X.K cm3 m4 H3 (.c cc) vx:=(rx.ext x3 M2 M3).ext x4 M3 M4
        cases RT.vint ry
        obtain ⟨a,ha1,rfl⟩:=rx'
        have o3:OkR X.K ((match m4[cc]? with
          | some (some (false,xs))=>match ixOf xs.length kk with
            | some j=>Res.ok () (m4.set cc (some (false,xs.set j t)))
            | none=>.stuck
          | _=>.stuck).bind fun _ m=>ex call gv k env m) xr cm3 m3 H3 _:=o3
        split at o3
        · rename_i xs e1
          split at o3
          · rename_i j e2
            obtain ⟨b,vs,q1,q2,q3,q4⟩:=M4.at' cc _ e1
            rw [ha1] at q1; cases q1
            have l4:=q4.length
            dsimp only at l4
            obtain ⟨x5,M5⟩:=ZcD M4 e1 ha1 (Zcl r4 j q4)
            refine ⟨a,vs,kk,j,rfl,rfl,q2,by rw [← l4]; exact e2,?_⟩
            have xx:=(x4.trans x5)
            exact ⟨hl,env,cm3,_,(((hE.ext x1 M M1).ext x2 M1 M2).ext x3 M2 M3).ext xx M3 M5,M5,OkR.shift (show OkR X.K (ex call gv k env _) xr cm3 m3 H3 _ from o3) xx⟩
          · exact o3.elim
        · exact o3.elim
    · exact o3.elim
theorem bind_assoc {α β γ:Type} (r:Res α) (f:α→Mem→Res β) (g:β→Mem→Res γ):(r.bind f).bind g=r.bind fun a m=>(f a m).bind g:=by cases r <;> rfl
theorem Zla {A B:List Stmt} {sa sb:S} (hc:PT X c (tT X.K call gv xr ec)) (ha:PSs X A (tS X.K call gv xr n sa)) (hb:PSs X B (tS X.K call gv xr n sb)) (hk:PSs X rest (tS X.K call gv xr n k)):PSs X (.If c A B pos :: rest) (tS X.K call gv xr n (.ife ec sa sb k)) :=
  PSs.mono (Q8 (ps_if hc ha hb) hk) fun D σ H ⟨hl,env,cm,m,hE,M,ho⟩=>by
    rw [ex,← bind_assoc] at ho
    refine ⟨env,cm,m,hE,M,ho.bind.mono fun t cm1 m1 H1 x1 M1 o1=>?_⟩
    have go:∀ s:S,OkR X.K ((ex call gv s env m1).bind fun fl m=>match fl with | .next env=>ex call gv k env m | fl=>.ok fl m) xr cm1 m1 H1 (fun fl cm' m' H'=>Ze0 X.K n D fl cm' m' H')→tS X.K call gv xr n s { D with nx:=tS X.K call gv xr n k D } σ H1:=fun s o=>by
      refine ⟨hl,env,cm1,m1,hE.ext x1 M M1,M1,o.bind.mono fun fl cm2 m2 H2 x2 M2 o2=>?_⟩
      cases fl with
      | next env'=>exact fun σ' hl' hE'=>⟨hl',env',cm2,m2,hE',M2,o2⟩
      | ret w=>exact OkR.now (xr:=xr) (a:=Flow.ret w) o2 M2
      | brk env'=>exact OkR.now (xr:=xr) (a:=Flow.brk env') o2 M2
      | cont env'=>exact OkR.now (xr:=xr) (a:=Flow.cont env') o2 M2
    cases t with
    | true=>exact iteT (go sa o1)
    | false=>exact iteF (go sb o1)
theorem Zab:∀ (is:List Nat) (vs:List V) (σ:L2.St),(setAll is vs σ).length=σ.length
  | [],_,_=>by unfold setAll; rfl
  | _ :: _,[],_=>by unfold setAll; rfl
  | i :: is,v :: vs,σ=>by unfold setAll; rw [Zab,List.length_set]
theorem ZkD {tg:Tg} {v:V} {σ:L2.St} {Q:L2.St→Hp→Prop} (h:gT K tg v σ H Q):gT K tg v σ H fun σ' H'=>σ'.length=σ.length∧Q σ' H':=by
  cases tg with
  | nm i=>exact ⟨List.length_set,h⟩
  | tp is =>
    obtain ⟨a,xs,h1,h2,h3,h4⟩:=h
    exact ⟨a,xs,h1,h2,h3,Zab _ _ _,h4⟩
theorem EnvR.same {cm:List Addr} {m m':Mem} {H:Hp} {env:Env} {σ:L2.St} (h:EnvR K cm m H env σ) (f:∀ t v,RT K cm m H t v→RT K cm m' H t v):EnvR K cm m' H env σ:=fun i w e=>by
  obtain ⟨v,h1,h2⟩:=h i w e
  refine ⟨v,h1,?_⟩
  cases w with
  | t t=>exact f t v h2
  | f a=>exact h2
  | c i=>exact h2
theorem Zjg {tgt iter:Expr} {body:List Stmt} {tg:Tg} {it:E} {sb:S} (hc:X.calm=true) (hp:PassesOwn (model X.prog X.w) X.A X.env X.xe) (hi:PI X tgt iter (tI X.K call gv xr it)) (hg:PG X tgt (gT X.K tg)) (ht:∀ i∈tgS tg,i < n)
    (hb:PSs X body (tS X.K call gv xr n sb)) (hk:PSs X rest (tS X.K call gv xr n k)) (hs:∀ x,foldedSetIterable iter X.env x=pure x:=by intro _; rfl):PSs X (.For tgt iter body [] pos :: rest) (tS X.K call gv xr n (.forr tg it sb k)) :=
  PSs.mono (Q8 (ps_for hp hc hi hg hb hs) hk) fun D σ0 H0 ⟨hl0,env0,cm0,m0,hE0,M0,ho⟩=>by
    rw [ex] at ho
    refine ⟨env0,cm0,m0,hE0,M0,ho.bind.mono fun x cm1 m1 H1 x1 M1 o1=>?_⟩
    cases hbr:Z7 x m1 with
    | stuck=>rw [hbr] at o1; exact o1.elim
    | exc e' m' =>
      exfalso
      unfold Z7 at hbr
      split at hbr <;> first | (cases hbr; done) | (split at hbr <;> cases hbr)
    | ok ts m2 =>
      rw [hbr] at o1
      obtain ⟨xb,Mb⟩:=ZbZ M1 hbr
      let g:Flow→Mem→Res Flow:=fun fl m=>match fl with
        | .next env=>ex call gv k env (giveBack x m1 m)
        | .ret w=>.ok (.ret w) (giveBack x m1 m)
        | _=>.stuck
      have o1:OkR X.K ((QT (fun env m=>ex call gv sb env m) tg ts env0 m2).bind g) xr cm1 m1 H1 (fun fl cm' m' H'=>Ze0 X.K n D fl cm' m' H'):=o1
      refine ⟨ts,m2,rfl,fun J hJ=>?_⟩
      let P:Flow→List Addr→Mem→Hp→Prop:=fun fl _ m' _=>OkR X.K (g fl m') xr cm1 m1 H1 (fun fl cm' m' H'=>Ze0 X.K n D fl cm' m' H')
      -- behind the walk
      have fin:∀ env cm m H σ,σ.length=n→EnvR X.K cm m H env σ→MemR X.K cm m H→Ext cm1 m2 H1 cm m H→P (.next env) cm m H→tS X.K call gv xr n k D σ H:=fun env cm m H σ hl hE M xx hP=>by
        obtain ⟨xg,Mg,fg⟩:=Zak M1 hbr xx M
        exact ⟨hl,env,cm,_,EnvR.same hE fg,Mg,OkR.shift (show OkR X.K (ex call gv k env (giveBack x m1 m)) xr cm1 m1 H1 _ from hP) xg⟩
      refine ⟨fun i μ σ H=>μ=ts.length - i∧σ.length=n∧∃ env cm m,EnvR X.K cm m H env σ∧MemR X.K cm m H∧Ext cm1 m2 H1 cm m H∧OkR X.K (QT (fun env m=>ex call gv sb env m) tg (ts.drop i) env m) xr cm m H P,⟨ts.length - 0,rfl,hl0,env0,cm1,m2,(hE0.ext x1 M0 M1).ext xb M1 Mb,Mb,.refl,?_⟩,?_⟩
      · rw [List.drop_zero]
        exact OkR.shift o1.bind0 xb
      · rintro i μ σ H ⟨rfl,hl,env,cm,m,hE,M,xx,hq⟩
        have sJ:=hJ.ext xx Mb M
        cases e:ts[i]? with
        | none =>
          have ed:ts.drop i=[]:=List.drop_eq_nil_iff.mpr (List.getElem?_eq_none_iff.mp e)
          rw [ed,QT] at hq
          exact .inl ⟨sJ.stop M e,fin env cm m H σ hl hE M xx (OkR.now hq M)⟩
        | some t =>
          have hlt:=(List.getElem?_eq_some_iff.mp e).1
          have ed:ts.drop i=t :: ts.drop (i + 1):=by
            rw [List.drop_eq_getElem_cons hlt]
            rw [(List.getElem?_eq_some_iff.mp e).2]
          rw [ed,QT] at hq
          obtain ⟨go,hy⟩:=sJ.go M e
          refine .inr ⟨go,fun σ' H'=>σ'.length=n∧∃ env cm m,EnvR X.K cm m H' env σ'∧MemR X.K cm m H'∧Ext cm1 m2 H1 cm m H'∧OkR X.K (QT (fun env m=>ex call gv sb env m) tg (ts.drop (i + 1)) env m) xr cm m H' P,
            fun σ' H' hN=>⟨ts.length - (i + 1),by omega,rfl,hN⟩,fun v H' y=>?_⟩
          obtain ⟨xy,My,rt⟩:=hy v H' y
          have hE:=hE.ext xy M My
          have xx:=xx.trans xy
          have hq:=OkR.shift hq xy
          have M:=My
          split at hq
          · exact hq.elim
          · rename_i env' eb
            have:=ZkD (Zl6 (Q:=fun σ' H2=>H2=H'∧EnvR X.K cm m H' env' σ') hE (fun j hj=>by rw [hl]; exact ht j hj) rt eb fun σ' hE' _=>⟨rfl,hE'⟩)
            have mono:∀ {Q Q':L2.St→Hp→Prop},gT X.K tg v σ H' Q→(∀ σ' H',Q σ' H'→Q' σ' H')→gT X.K tg v σ H' Q':=fun {Q Q'} h f=>by
              cases tg with
              | nm j=>exact f _ _ h
              | tp is =>
                obtain ⟨a1,xs,z1,z2,z3,z4⟩:=h
                exact ⟨a1,xs,z1,z2,z3,f _ _ z4⟩
            refine mono this ?_
            rintro σ2 H2 ⟨hl2,e2,hE2⟩
            subst e2
            refine ⟨hl2.trans hl,env',cm,m,hE2,M,hq.bind.mono fun fl cm3 m3 H3 x3 M3 o3=>?_⟩
            cases fl with
            | next env3=>exact fun σ3 hl3 hE3=>⟨hl3,env3,cm3,m3,hE3,M3,xx.trans x3,o3⟩
            | cont env3=>exact fun σ3 hl3 hE3=>⟨hl3,env3,cm3,m3,hE3,M3,xx.trans x3,o3⟩
            | brk env3=>exact fun σ3 hl3 hE3=>fin env3 cm3 m3 H3 σ3 hl3 hE3 M3 (xx.trans x3) (OkR.now (a:=Flow.next env3) o3 M3)
            | ret w =>
              intro v3 rv3
              have hP:P (.ret w) cm3 m3 H3:=OkR.now (a:=Flow.ret w) o3 M3
              obtain ⟨xg,Mg,fg⟩:=Zak M1 hbr (xx.trans x3) M3
              refine OkR.to (a:=Flow.ret w) (m':=giveBack x m1 m3) hP xg Mg v3 ?_
              cases w with
              | t t=>exact fg t v3 rv3
              | f a=>exact rv3
              | c j=>exact rv3
theorem ZcR {elt target iter:Expr} {ifs:List Expr} {gs:List Comprehension} {scope:Scope} {N':List Str} {own:Nat} {keep:List Nat} {it:E} {tg:Tg} {cs:Es} {inner:E} {i:Nat} {x:Str} {px spos:Pos}
    (hc:X.calm=true) (kk:CompK X xr call gv N' scope own keep elt target iter ifs gs it tg cs inner) (hN:X.N.Nodup) (hn:X.N.length=n) (hi:X.N[i]? = some x) (hx:X.env.scope.names.lookup x=some .local)
    (hk:PSs X rest (tS X.K call gv xr n k))
    (hsw:swapsWith (.ListComp elt (⟨target,iter,ifs,0⟩ :: gs) scope pos) (some (.Name x px)) spos.line X.env=pure true:=by rfl) :
    PSs X (.Assign [.Name x px] (.ListComp elt (⟨target,iter,ifs,0⟩ :: gs) scope pos) spos :: rest) (tS X.K call gv xr n (.asg i (.comp own keep it tg cs inner) k)):=by
  have h1:PS X (.Assign [.Name x px] (.ListComp elt (⟨target,iter,ifs,0⟩ :: gs) scope pos) spos) (fun D σ H=>∃ env cm m m' out,EnvR X.K cm m H env σ∧MemR X.K cm m H∧ev call gv (.comp own keep it tg cs inner) env m = .ok (.t (.lst out)) m' ∧
      ∀ (p:Addr) (H3:Hp) (cm3:List Addr) (vs:List V),H3 p=none→X.K.lookup p=none→Ext cm m H cm3 m' H3→MemR X.K cm3 m' H3→RTs X.K cm3 m' H3 out vs→D.nx (σ.set i (some (.ref p))) (upd H3 p (.lst vs))) :=
    fun pins s σ H D I ⟨env,cm,m,m',out,hE,M,ok,q⟩=>Zka hc kk hN hi hx hsw I hE M ok q
  refine PSs.mono (Q8 h1 hk) ?_
  rintro D σ H ⟨hl,env,cm,m,hE,M,ho⟩
  rw [ex] at ho
  cases h:ev call gv (.comp own keep it tg cs inner) env m with
  | stuck=>rw [h] at ho; exact ho.elim
  | exc e m'=>exact absurd h (ZcA e m')
  | ok w m' =>
    obtain ⟨out,rfl⟩:=Zd5 h
    rw [h] at ho
    refine ⟨env,cm,m,m',out,hE,M,h,fun p H3 cm3 vs hp _ x3 M3 r3=>?_⟩
    have hi':i < σ.length:=by rw [hl,← hn]; exact (List.getElem?_eq_some_iff.mp hi).1
    have x4:=x3.trans (Ext.new (o:=.lst vs) hp)
    have M4:=M3.new (o:=.lst vs) hp
    exact ⟨by rw [List.length_set]; exact hl,_,cm3,m',EnvR.set (w:=.t (.lst out)) (hE.ext x4 M M4) (RT.newLst M3 r3 hp) i hi',M4,OkR.shift (show OkR X.K (ex call gv k (env.set i (some (.t (.lst out)))) m') xr cm m H _ from ho) x4⟩
end
end Mi
end
section
namespace Mi
open PySem PySem.Spec PyProof.Rows L2
noncomputable def xr0:XR:=fun _ _ _ _=>False
noncomputable def spF (K:PySem.W.Frag) (fns:List Fn) (gv:List T) (k f:Nat):Sp:=fun vs H Q _=>∃ cm m ws,MemR K cm m H∧RWs K cm m H ws vs∧OkR K (ZR fns gv k f ws m) xr0 cm m H fun w cm' m' H'=>∀ v,RW K cm' m' H' w v→Q v H'
noncomputable def FOk (P:Program) (w:World) (K:PySem.W.Frag) (mg:Str→Option Value) (base:Heap) (fns:List Fn) (gv:List T) (k:Nat) (x:Str) (fi:Nat):Prop :=
  ∃ f fd ps,mg x=some (.ref f)∧PySem.W.keepIn K (.ref f)=true∧Binds K fd ps []∧FnOk P w K mg base CX0 k f fd ps (spF K fns gv k fi)
section
variable {K:PySem.W.Frag} {cm cm':List Addr} {m m':Mem} {H H':Hp} {X:Cx} {fns:List Fn} {gv:List T}
variable {a b c e:Expr} {es:List Expr} {ea eb ec:E} {eas:Es} {pos p p2:Pos} {k n:Nat}
theorem ZjG {fi:Nat} {x:Str} (F:FOk X.prog X.w X.K X.mg X.base fns gv k x fi) (hr:Room k X.A) (hg:Gl X x) (ha:PA X (e :: es) (tA X.K (ZR fns gv k) gv xr0 eas)) (hdb:(x == ("__debug__" : Str))=false:=by decide)
    (he:notStar e=true:=by rfl) (hpl:es.all notStar=true:=by rfl) :
    PE X (.Call (.Name x p) (e :: es) [] pos) (tE X.K (ZR fns gv k) gv xr0 (.call fi eas)):=by
  obtain ⟨f,fd,ps,hm,hk,hb,F⟩:=F
  refine PE.mono (Zly F hr hg hm hk hb (dvs:=[]) .nil (E:=E0) pass0 ha hdb (J9 he) (Zbn hpl)) ?_
  rintro σ H Q ⟨env,cm,m,hE,M,ho⟩
  rw [ev] at ho
  refine ⟨env,cm,m,hE,M,ho.bind.mono fun ws cm1 m1 H1 x1 M1 o1 vs rvs=>?_⟩
  show spF X.K fns gv k fi (vs++[]) H1 Q E0
  rw [List.append_nil]
  exact ⟨cm1,m1,ws,M1,rvs,o1⟩
theorem JK {i n:Nat} {c:Bool×List T} (h:(m.take n)[i]? = some (some c)):m[i]? = some (some c)∧i < n:=by
  rw [List.getElem?_take] at h
  split at h
  · exact ⟨h,‹_›⟩
  · cases h
theorem Ja {i n:Nat} (h:i < n):(cm.take n)[i]? = cm[i]?:=by rw [List.getElem?_take,if_pos h]
theorem Xk {n:Nat} {a:Addr} (h:Zt cm m a):Zt (cm.take n) (m.take n) a:=fun i q e=>by
  obtain ⟨e1,hi⟩:=JK e
  rw [Ja hi]
  exact h i q e1
theorem Zi0 (M:MemR K cm m H) (n:Nat):MemR K (cm.take n) (m.take n) H∧∀ t v,RT K cm m H t v→RT K (cm.take n) (m.take n) H t v:=by
  have sm:∀ t v,RT K cm m H t v→RT K (cm.take n) (m.take n) H t v:=fun t v r=>r.same (fun _ _ z=>z) fun _ z _=>Xk z
  refine ⟨⟨by rw [List.length_take,List.length_take,M.len],fun i j a q r e1 e2 f1 f2=>?_,fun i q e=>?_⟩,sm⟩
  · obtain ⟨e1,h1⟩:=JK e1
    obtain ⟨e2,h2⟩:=JK e2
    rw [Ja h1] at f1
    rw [Ja h2] at f2
    exact M.inj i j a q r e1 e2 f1 f2
  · obtain ⟨e1,h1⟩:=JK e
    obtain ⟨a,vs,q1,q2,q3,q4⟩:=M.at' i q e1
    exact ⟨a,vs,by rw [Ja h1]; exact q1,q2,q3,Zn (fun _ _ z=>sm _ _ z) q4⟩
theorem Zi1 (M:MemR K cm m H) (x:Ext cm m H cm' m' H'):Ext cm m H (cm'.take m.length) (m'.take m.length) H':=by
  refine ⟨fun i a h=>?_,by rw [List.length_take]; have:=x.len; omega,fun i ts h=>?_,fun a o h n=>⟨(x.keep a o h n).1,Xk (x.keep a o h n).2⟩⟩
  · have hi:=(List.getElem?_eq_some_iff.mp h).1
    rw [M.len] at hi
    rw [Ja hi]
    exact x.pre i a h
  · have hi:=(List.getElem?_eq_some_iff.mp h).1
    rw [List.getElem?_take,if_pos hi]
    exact x.lent i ts h
theorem fin_ok {cell:Bool} {fl:Flow} {Q:VK} {nn:Nat} (M:MemR K cm m H) (x:Ext cm m H cm' m' H') (M':MemR K cm' m' H') (ho:OkR K (fin m.length cell fl m') xr0 cm m H fun w cm' m' H'=>∀ v,RW K cm' m' H' w v→Q v H') :
    Ze0 K nn { nx:=fun _ H'=>Q .non H',rt:=Q } fl cm' m' H':=by
  obtain ⟨Mt,st⟩:=Zi0 M' m.length
  have xt:=Zi1 M x
  cases fl with
  | next env=>exact fun σ _ _=>OkR.to (a:=W.t .non) ho xt Mt _ .non
  | brk env=>exact ho.elim
  | cont env=>exact ho.elim
  | ret w =>
    intro v rv
    cases w with
    | t t=>exact OkR.to (a:=W.t t) ho xt Mt v (st t v rv)
    | f a=>exact ho.elim
    | c i =>
      unfold fin at ho
      dsimp only at ho
      split at ho
      · rename_i hi
        obtain ⟨a,h1,h2⟩:=rv
        exact OkR.to ho xt Mt v ⟨a,by rw [Ja hi]; exact h1,h2⟩
      · rename_i hi
        split at ho
        · rename_i ts e
          obtain ⟨a,h1,h2⟩:=rv
          obtain ⟨a',vs,q1,q2,q3,q4⟩:=M'.at' i _ e
          rw [h1] at q1; cases q1
          have na:Zt (cm'.take m.length) (m'.take m.length) a:=fun j q ej z=>by
            obtain ⟨ej,hj⟩:=JK ej
            rw [Ja hj] at z
            have:=M'.inj j i a _ _ ej e z h1
            omega
          have lt:(cm'.take m.length).length=m.length:=by rw [List.length_take,M'.len]; have:=x.len; omega
          have lm:(m'.take m.length).length=m.length:=by rw [List.length_take]; have:=x.len; omega
          split at ho
          · -- a list that may change is handed back
            have nl:∀ b,Zt cm' m' b→Zt (cm'.take m.length++[a]) (m'.take m.length++[some (false,ts)]) b:=fun b n=>by
              refine Zbz (by rw [lt,lm]) (Xk n) fun z=>?_
              subst z
              exact n i _ e h1
            have sm:∀ t v,RT K cm' m' H' t v→RT K (cm'.take m.length++[a]) (m'.take m.length++[some (false,ts)]) H' t v:=fun t v r=>r.same (fun _ _ z=>z) fun b z _=>nl b z
            have cs:∀ {j:Nat} {c:Bool×List T},(m'.take m.length++[some (false,ts)])[j]? = some (some c)→((m'.take m.length)[j]? = some (some c)∧j < m.length)∨(j=m.length∧c=(false,ts)):=fun {j c} ej=>by
              by_cases hj:j < m.length
              · rw [List.getElem?_append_left (by rw [lm]; exact hj)] at ej
                exact .inl ⟨ej,hj⟩
              · by_cases hj2:j=m.length
                · subst hj2
                  rw [List.getElem?_append_right (by rw [lm]; exact Nat.le_refl _),lm,Nat.sub_self] at ej
                  cases ej
                  exact .inr ⟨rfl,rfl⟩
                · rw [List.getElem?_eq_none (by rw [List.length_append,lm]; simp; omega)] at ej
                  cases ej
            have cl:∀ {j:Nat},j < m.length→(cm'.take m.length++[a])[j]? = (cm'.take m.length)[j]?:=fun {j} hj=>List.getElem?_append_left (by rw [lt]; exact hj)
            have cp:(cm'.take m.length++[a])[m.length]? = some a:=by
              rw [List.getElem?_append_right (by rw [lt]; exact Nat.le_refl _),lt,Nat.sub_self]
              rfl
            refine OkR.to (cm':=cm'.take m.length++[a]) ho ⟨fun j b h=>?_,by rw [List.length_append,lm]; simp,fun j us h=>?_,fun b o h nb=>⟨(x.keep b o h nb).1,nl b (x.keep b o h nb).2⟩⟩ ⟨by rw [List.length_append,List.length_append,lt,lm]; rfl,fun j1 j2 b c1 c2 e1 e2 f1 f2=>?_,fun j c ej=>?_⟩ v ⟨a,cp,h2⟩
            · have hj:=(List.getElem?_eq_some_iff.mp h).1
              rw [M.len] at hj
              rw [cl hj]
              exact xt.pre j b h
            · have hj:=(List.getElem?_eq_some_iff.mp h).1
              rw [List.getElem?_append_left (by rw [lm]; exact hj)]
              exact xt.lent j us h
            · rcases cs e1 with ⟨g1,l1⟩ | ⟨k1,_⟩
              · rw [cl l1] at f1
                rcases cs e2 with ⟨g2,l2⟩ | ⟨k2,_⟩
                · rw [cl l2] at f2
                  exact Mt.inj j1 j2 b _ _ g1 g2 f1 f2
                · rw [k2,cp] at f2; cases f2
                  exact absurd f1 (na j1 _ g1)
              · rw [k1,cp] at f1; cases f1
                rcases cs e2 with ⟨g2,l2⟩ | ⟨k2,_⟩
                · rw [cl l2] at f2
                  exact absurd f2 (na j2 _ g2)
                · rw [k1,k2]
            · rcases cs ej with ⟨g,l⟩ | ⟨kk,z⟩
              · obtain ⟨gg,_⟩:=JK g
                obtain ⟨b,ws,w1,w2,w3,w4⟩:=M'.at' j c gg
                exact ⟨b,ws,by rw [cl l,Ja l]; exact w1,w2,w3,Zn (fun _ _ z=>sm _ _ z) w4⟩
              · rw [kk,z]
                exact ⟨a,vs,cp,q2,q3,Zn (fun _ _ z=>sm _ _ z) q4⟩
          · subst h2
            exact OkR.to (a:=W.t (.lst ts)) ho xt Mt _ (RT.mlst q2 na (Zn (fun _ _ z=>st _ _ z) q4))
        · exact ho.elim
theorem Zk0 {N:List Str} {ws:List W} {vs:List V} {j:Nat} (r:RWs K cm m H ws vs) (hj:j=N.length - vs.length):EnvR K cm m H (ws.map some++List.replicate j none) (L2.start N vs):=fun i w e=>by
  unfold L2.start
  have hl:=r.length
  by_cases hi:i < ws.length
  · rw [List.getElem?_append_left (by simpa using hi),List.getElem?_map] at e
    cases q:ws[i]? with
    | none=>rw [q] at e; cases e
    | some w' =>
      rw [q] at e; cases e
      obtain ⟨v,h1,h2⟩:=ZS r q
      refine ⟨v,?_,h2⟩
      rw [List.getElem?_append_left (by rw [List.length_map]; omega),List.getElem?_map,h1]
      rfl
  · rw [List.getElem?_append_right (by simpa using hi),List.getElem?_replicate] at e
    split at e <;> cases e
theorem Zhe {N:List Str} {vs:List V} (h:vs.length≤N.length):(L2.start N vs).length=N.length:=by
  unfold L2.start
  rw [List.length_append,List.length_map,List.length_replicate]
  omega
theorem fn_okW {P:Program} {w:World} {mg:Str→Option Value} {base:Heap} {x qual:Str} {st:Stmt} {f:Addr} {fd:FuncData} {N ps:List Str} {fi:Nat} {d:Fn} (F:Fun K x qual st f fd) (S:FnScope N ps (Za st)) (hd:fns[fi]? = some d) (hps:d.ps=ps.length) (hn:d.n=N.length)
    (hbody:∀ (cdv:Value) (A:Around) (outer:List PySem.Env) (s:Shared) (H:Hp) (E:XK),Room k (A.deeper (envOfC qual (Za st) s.heap.objs.size f cdv)) →
      PSs (cxOf CX0 P w K mg base N qual (Za st) f cdv A outer s H E).nox (Zf st) (tS K (ZR fns gv k) gv xr0 N.length d.body)) :
    FnOk P w K mg base CX0 (k + 1) f fd ps (spF K fns gv (k + 1) fi):=by
  have hpl:ps.length≤N.length:=by have:=congrArg List.length S.pre; rw [List.length_take] at this; omega
  have len:∀ {ws:List W} {m:Mem} {cm:List Addr} {H:Hp} {post:W→List Addr→Mem→Hp→Prop},OkR K (ZR fns gv (k + 1) fi ws m) xr0 cm m H post→ws.length=d.ps∧OkR K ((ex (ZR fns gv k) gv d.body (ws.map some++List.replicate (d.n - d.ps) none) m).bind fun fl m'=>fin m.length d.cell fl m') xr0 cm m H post:=fun {ws m cm H post} h=>by
    rw [ZR,hd] at h
    dsimp only at h
    by_cases hc:ws.length=d.ps
    · rw [if_pos hc] at h; exact ⟨hc,h⟩
    · rw [if_neg hc] at h; exact h.elim
  refine F.ok S (fun vs H Q E ⟨cm,m,ws,M,r,ho⟩=>by rw [← r.length,(len ho).1,hps]) (fun cdv A outer s H vs Q E hr ⟨cm,m,ws,M,r,ho⟩=>?_)
  obtain ⟨hl,ho⟩:=len ho
  have hv:vs.length=ps.length:=by rw [← r.length,hl,hps]
  refine ⟨_,hbody cdv A outer s H E hr,Zhe (by omega),ws.map some++List.replicate (d.n - d.ps) none,cm,m,Zk0 r (by rw [hn,hps,hv]),M,?_⟩
  exact ho.bind0.mono fun fl cm1 m1 H1 x1 M1 o1=>fin_ok M x1 M1 o1
theorem Zu {P:Program} {w:World} {mg:Str→Option Value} {base:Heap} {f:Addr} {fd:FuncData} {ps:List Str} {fi:Nat}:FnOk P w K mg base CX0 0 f fd ps (spF K fns gv 0 fi):=by
  have no:∀ vs H Q E,¬ spF K fns gv 0 fi vs H Q E:=fun vs H Q E ⟨cm,m,ws,M,r,ho⟩=>by
    rw [ZR] at ho
    exact ho
  exact ⟨fun vs H Q E h=>absurd h (no vs H Q E),fun A outer s H args us vs Q E _ _ _ _ h=>absurd h (no vs H Q E)⟩
end
end Mi
end
section
namespace Mi
open PySem PySem.Spec PyProof.Rows L2
section
variable {K:PySem.W.Frag} {xr:XR} {X:Cx} {call:Nat→List W→Mem→Res W} {gv:List T}
variable {e:Expr} {ea:E} {pos:Pos} {rest:List Stmt} {k:S} {n:Nat}
theorem vr (i:Nat) {x:Str} {pos:Pos} (hN:X.N[i]? = some x:=by rfl) (hv:Vis X.env.scope x:=by first | exact Or.inl rfl | exact Or.inr (Or.inl rfl) | exact Or.inr (Or.inr rfl)) (hd:(x == ("__debug__" : Str))=false:=by decide)
    (hcd:(x == ("__classdict__" : Str))=false:=by decide):PE X (.Name x pos) (tE X.K call gv xr (.var i)):=Zlh hN hv hd hcd
theorem sg (i:Nat) {x:Str} {px:Pos} (hN:X.N.Nodup) (h:PE X e (tE X.K call gv xr ea)) (hk:PSs X rest (tS X.K call gv xr n k)) (hn:X.N.length=n:=by rfl) (hi:X.N[i]? = some x:=by rfl) (hx:Loc X.env.scope x:=by first | exact Or.inl rfl | exact Or.inr rfl)
    (hs:swapsWith e (some (.Name x px)) pos.line X.env=pure false:=by rfl) (hf:X.fn x=true∨X.env.scope.names.lookup x=some .local:=by first | exact .inl rfl | exact .inr rfl):PSs X (.Assign [.Name x px] e pos :: rest) (tS X.K call gv xr n (.asg i ea k)):=Zji hN hn hi hx h hk hs hf
theorem QC (i:Nat) {x:Str} {pos:Pos} (hN:X.N.Nodup) (hi:X.N[i]? = some x:=by rfl) (hx:Loc X.env.scope x:=by first | exact Or.inl rfl | exact Or.inr rfl) (hf:X.fn x=true∨X.env.scope.names.lookup x=some .local:=by first | exact .inl rfl | exact .inr rfl):PG X (.Name x pos) (gT X.K (.nm i)):=ZeD hN hi hx hf
noncomputable def scOk (scope osc:Scope):Bool:=scope.kind == .function && scope.names.all fun p=>p.2 != .cell && scope.names.lookup p.1 == some p.2 && (p.2 != .free || osc.names.lookup p.1 == some .cell || osc.names.lookup p.1 == some .free)
noncomputable def ZkA (N' N:List Str) (own:Nat) (keep:List Nat) (scope:Scope):Bool:=N'.length == own + keep.length && (List.range keep.length).all fun i=>match N'[own + i]?,keep[i]? with
  | some x,some j=>N[j]? == some x && scope.names.any fun p=>p.1 == x && p.2 == .free
  | _,_=>false
theorem Zkb {N':List Str} {scope:Scope} {own:Nat} {keep:List Nat} {elt target iter:Expr} {ifs:List Expr} {gs:List Comprehension} {it:E} {tg:Tg} {cs:Es} {inner:E} (h1:scOk scope X.env.scope=true) (h2:ZkA N' X.N own keep scope=true)
    (pi:PI X target iter (tI X.K call gv xr it)) (fs:∀ x,foldedSetIterable iter X.env x=pure x) (ins:ZiQ X xr call gv N' scope elt target ifs (⟨target,iter,ifs,0⟩ :: gs) tg cs inner) (dis:∀ i∈tgS tg,i ∉ innS inner) (slt:∀ i∈tgS tg++innS inner,i < own) :
    CompK X xr call gv N' scope own keep elt target iter ifs gs it tg cs inner:=by
  unfold scOk at h1
  rw [Bool.and_eq_true] at h1
  obtain ⟨hk,h1⟩:=h1
  have h1:=List.all_eq_true.mp h1
  unfold ZkA at h2
  rw [Bool.and_eq_true] at h2
  obtain ⟨hl,h2⟩:=h2
  have h2:=List.all_eq_true.mp h2
  refine ⟨⟨eq_of_beq hk,fun y hy=>?_,fun p hp=>?_,fun x hx=>?_⟩,eq_of_beq hl,fun i x e=>?_,pi,fs,ins,dis,slt⟩
  · have:=h1 y hy
    simp only [Bool.and_eq_true] at this
    have h:=this.1.1
    exact fun z=>by rw [z] at h; cases h
  · have:=h1 p hp
    simp only [Bool.and_eq_true] at this
    exact eq_of_beq this.1.2
  · have:=h1 _ hx
    simp only [Bool.and_eq_true,Bool.or_eq_true] at this
    rcases this.2 with (h | h) | h
    · cases h
    · exact .inl (eq_of_beq h)
    · exact .inr (eq_of_beq h)
  · have hlen:N'.length=own + keep.length:=eq_of_beq hl
    have hi:i < keep.length:=by
      have:=(List.getElem?_eq_some_iff.mp e).1
      omega
    have h:=h2 i (List.mem_range.mpr hi)
    rw [e] at h
    cases q:keep[i]? with
    | none=>rw [q] at h; cases h
    | some j =>
      rw [q] at h
      have h:(X.N[j]? == some x && scope.names.any fun p=>p.1 == x && p.2 == .free)=true:=h
      rw [Bool.and_eq_true] at h
      refine ⟨j,rfl,eq_of_beq h.1,?_⟩
      obtain ⟨p,hp,hq⟩:=List.any_eq_true.mp h.2
      rw [Bool.and_eq_true] at hq
      rw [← eq_of_beq hq.1]
      have:p.2=NameKind.free:=eq_of_beq hq.2
      rw [← this]
      exact hp
theorem scr_of {H:Hp} {a:Addr} {ns:List Int} (hO:Only H) (hS:SqL K H a (ns.map V.int)):Zeo K H a ns:=by
  rcases hS with (h | ⟨o,h⟩) | h
  · rcases hO a with q | ⟨o,xs,q⟩ <;> rw [h] at q <;> cases q
  · exact .inl ⟨o,h⟩
  · exact .inr h
theorem law_sp {fns:List Fn} {k fi:Nat} {H:Hp} {a:Addr} {ns:List Int} {E:XK} (hO:Only H) (hS:SqL K H a (ns.map V.int)) (h:∃ m,ZR fns gv k fi [.t (.scr ns)] [] = .ok (.t (.bl true)) m):spF K fns gv k fi [.ref a] H (fun v _=>v = .bl true) E:=by
  obtain ⟨m,h⟩:=h
  refine ⟨[],[],[.t (.scr ns)],⟨rfl,fun i j a p q e=>by simp at e,fun i p e=>by simp at e⟩,.cons (.scr ns (scr_of hO hS)) .nil,?_⟩
  rw [h]
  intro cm' H' x M v rv
  cases RT.vbl rv
  rfl
theorem ZfG {mg:Str→Option Value} {x y:Str} {t:Tok} {cs:List Nat} (h:mg x=some (.str y t)) (e:y.cps.toList=cs):Ji K mg x (.str cs):=⟨_,.str y,h,⟨t,rfl⟩,fun cm m H=>by rw [Zbl e]; exact .str cs⟩
theorem Jv {mg:Str→Option Value} {x:Str} {i:Int} {t:Tok} (h:mg x=some (.int i t)):Ji K mg x (.int i):=⟨_,.int i,h,⟨t,rfl⟩,fun cm m H=>.int i⟩
inductive StrsV:List (List Nat)→List Value→Prop where
  | nil:StrsV [] []
  | cons {y:Str} {t:Tok} {cs:List Nat} {r:List (List Nat)} {us:List Value}:y.cps.toList=cs→StrsV r us→StrsV (cs :: r) (.str y t :: us)
theorem Zd1 {mg:Str→Option Value} {x:Str} {a:Addr} {its:Array Value} {nn:Nat} {sl:Array (Option Value)} {css:List (List Nat)} (h:mg x=some (.ref a)) (l:K.lookup a=some ⟨.type "tuple",none,.seq its nn,sl⟩) (hz:its.size≤sizeLine) (hs:StrsV css its.toList):Ji K mg x (.tup (css.map .str)):=by
  refine ⟨_,.ref a,h,rfl,fun cm m H=>?_⟩
  have go:∀ {css:List (List Nat)} {us:List Value},StrsV css us→Vals (css.map fun c=>V.str ⟨c.toArray⟩) us∧RTs K cm m H (css.map .str) (css.map fun c=>V.str ⟨c.toArray⟩):=fun {css us} h=>by
    induction h with
    | nil=>exact ⟨.nil,.nil⟩
    | @cons y t cs r us e _ ih =>
      refine ⟨.cons ?_ ih.1,.cons (.str cs) ih.2⟩
      show ∃ t',Value.str y t=Value.str ⟨cs.toArray⟩ t'
      rw [← Zbl e]
      exact ⟨t,rfl⟩
  exact .mtup (.inr ⟨_,its,nn,l,rfl,rfl,hz,(go hs).1,rfl⟩) (go hs).2
end
end Mi
end
section
namespace Mi
open PySem PySem.Spec PyProof.Rows L2
section
variable {K:PySem.W.Frag} {cm:List Addr} {m:Mem} {H:Hp} {xr:XR} {X:Cx} {call:Nat→List W→Mem→Res W} {gv:List T}
variable {a b c e:Expr} {es:List Expr} {ea eb ec:E} {eas:Es} {pos p p2:Pos} {rest:List Stmt} {k:S} {n:Nat}
theorem blt2 {b:B} {ws:List W} {vs:List V} {k:W→List Addr→Mem→Hp→Prop} (r:RWs K cm m H ws vs) (h1:∀ ts t,bltT b ts=some t→∃ i j,ts=[.int i,.int j]) (h:OkR K (fBlt b ws m) xr cm m H k) :
    ∃ i j r,vs=[.int i,.int j]∧bltT b [.int i,.int j]=some r∧OkR K (.ok (.t r) m) xr cm m H k:=by
  obtain ⟨t,e,ho⟩:=Q0 h
  cases q:views ws m with
  | none=>rw [q] at e; cases e
  | some ts =>
    rw [q] at e
    have e:bltT b ts=some t:=e
    obtain ⟨i,j,rfl⟩:=h1 ts t e
    match ws,vs,r with
    | [],_,_=>cases q
    | [w],_,_ =>
      unfold views at q
      cases q1:view w m with
      | none=>rw [q1] at q; cases q
      | some t1=>rw [q1] at q; cases q
    | [w1,w2],_,.cons r1 (.cons r2 .nil) =>
      unfold views at q
      cases q1:view w1 m with
      | none=>rw [q1] at q; cases q
      | some t1 =>
        rw [q1] at q
        unfold views at q
        cases q2:view w2 m with
        | none=>rw [q2] at q; cases q
        | some t2 =>
          rw [q2] at q
          cases q
          cases (Zg r1 q1 (fun _ z=>by cases z)).vint
          cases (Zg r2 q2 (fun _ z=>by cases z)).vint
          exact ⟨i,j,t,rfl,e,ho⟩
    | w1 :: w2 :: w3 :: ws,_,_ =>
      unfold views at q
      cases q1:view w1 m with
      | none=>rw [q1] at q; cases q
      | some t1 =>
        rw [q1] at q
        unfold views at q
        cases q2:view w2 m with
        | none=>rw [q2] at q; cases q
        | some t2 =>
          rw [q2] at q
          unfold views at q
          cases q3:view w3 m with
          | none=>rw [q3] at q; cases q
          | some t3 =>
            rw [q3] at q
            cases q4:views ws m with
            | none=>rw [q4] at q; cases q
            | some t4=>rw [q4] at q; cases q
theorem ZiX {b:B} (hb:b = .min2∨b = .max2):∀ ts t,bltT b ts=some t→∃ i j,ts=[.int i,.int j]:=by
  intro ts t h
  rcases hb with rfl | rfl <;> exact (Zg8 h).imp fun i hi=>hi.imp fun j hj=>hj.1
theorem ZiB (hc:X.calm=true):Js X (.builtin "min") (rN X.K xr (fBlt .min2)):=by
  rintro pins s σ H xs us Q I r ⟨cm,m,ws,M,rws,ho⟩
  obtain ⟨i,j,rr,rfl,eb,ho⟩:=blt2 rws (ZiX (.inl rfl)) ho
  cases eb
  exact ZiC hc pins s σ H _ us Q I r ⟨i,j,rfl,ans ho M (.int _)⟩
theorem RTs.ints:∀ {ts:List T} {vs:List V} {bs:List Int},RTs K cm m H ts vs→ints? ts=some bs→vs=bs.map V.int
  | [],_,_,.nil,e=>by cases e; rfl
  | t :: ts,_,bs,.cons r rs,e=>by
    cases t with
    | int c =>
      unfold ints? at e
      cases q:ints? ts with
      | none=>rw [q] at e; cases e
      | some cs =>
        rw [q] at e; cases e
        cases RT.vint r
        rw [RTs.ints rs q]
        rfl
    | _=>cases e
theorem ZkY {prog:Program} {w:World} {A:Around} {E:Value→Shared→Prop} {s:Shared} {l:Addr} {vs:List Value} {ns:List Int} {Q:Value→Shared→Prop} (hh:A.handled=none) (hl:s.heap.IsList l vs.toArray) (hi:IntsAre vs ns)
    (h:∀ h' tk t',(∀ b o,s.heap.get? b=some o→h'.get? b=some o)→Q (.int ns.sum t') { s with heap:=h',toks:=tk }):wpAny (model prog w) A (PySem.call (.builtin "sum") [.ref l]) Q E s:=by
  obtain ⟨xs,hx⟩:=hi.allInts.items
  have hl':s.heap.IsList l (intItems xs):=hx ▸ hl
  refine sum_intListG hh hl' fun h' tk t' hk=>?_
  have e1:ns=xs.toList.map (·.1):=by
    rw [← nums_intItems,← hx]
    exact (show numsOf vs.toArray.toList=ns from hi.numsOf).symm
  have e2:preSum (numAt xs) xs.size=ns.sum:=by
    rw [preSum_eq,List.take_of_length_le (by simp),e1]
  rw [e2]
  exact h h' tk t' hk
theorem Ziz (hc:X.calm=true):Js X (.builtin "sum") (rN X.K xr (fBlt .sum)):=by
  rintro pins s σ H xs us Q I r ⟨cm,m,ws,M,rws,ho⟩
  obtain ⟨w,v,t,rr,rfl,rfl,rv,e,eb,ho⟩:=blt1 rws (Xq (by decide)) ho
  cases t with
  | lst ts =>
    have eb:(ints? ts).map (fun ns=>T.int ns.sum)=some rr:=eb
    cases q:ints? ts with
    | none=>rw [q] at eb; cases eb
    | some bs =>
      rw [q] at eb; cases eb
      obtain ⟨a,vs,rfl,h1,r1⟩:=ZM M rv e
      obtain ⟨u,rfl,ru⟩:=vals1 r
      cases ru
      obtain ⟨its,rv',pl,hz⟩:=I.list (.of h1)
      cases RTs.ints r1 q
      exact ZkY (I.ok.hd hc) pl.isList (intsAre_of rv') fun h' tk t' hk=>⟨.int _,H,I.kept hk,⟨_,rfl⟩,ans ho M (.int _)⟩
  | _=>cases eb
theorem ip_aug {op:Operator}:PIp X op (r2 X.K xr fun x y m=>pur ((view x m).bind fun x=>(view y m).bind fun y=>augT op x y) m):=by
  rintro pins s σ H x y v u Q I rx ry ⟨cm,m,a,b,M,ra,rb,ho⟩
  obtain ⟨t,e,ho⟩:=Q0 ho
  obtain ⟨ta,tb,ea,eb,e⟩:=Zcb e
  unfold augT at e
  split at e
  · cases e
    cases (Zg ra ea (fun _ z=>by cases z)).vint
    cases (Zg rb eb (fun _ z=>by cases z)).vint
    exact ip_add pins s σ H _ _ v u Q I rx ry ⟨_,_,rfl,rfl,ans ho M (.int _)⟩
  · cases e
    cases (Zg ra ea (fun _ z=>by cases z)).vint
    cases (Zg rb eb (fun _ z=>by cases z)).vint
    exact ip_sub pins s σ H _ _ v u Q I rx ry ⟨_,_,rfl,rfl,ans ho M (.int _)⟩
  · cases e
theorem Zjh (i:Nat) {x:Str} {op:Operator} {px:Pos} (hN:X.N.Nodup) (h:PE X e (tE X.K call gv xr ea)) (hk:PSs X rest (tS X.K call gv xr n k)) (hn:X.N.length=n:=by rfl) (hi:X.N[i]? = some x:=by rfl) (hx:Loc X.env.scope x:=by first | exact Or.inl rfl | exact Or.inr rfl)
    (hf:X.fn x=true∨X.env.scope.names.lookup x=some .local:=by first | exact .inl rfl | exact .inr rfl):PSs X (.AugAssign (.Name x px) op e pos :: rest) (tS X.K call gv xr n (.aug i op ea k)):=by
  refine PSs.mono (Q8 (ps_aug hN hi hx h (ip_aug (xr:=xr)) hf) hk) ?_
  rintro D σ H ⟨hl,env,cm,m,hE,M,ho⟩
  rw [ex] at ho
  split at ho
  · rename_i w e
    obtain ⟨v,h1,h2⟩:=hE i w e
    have hi':i < σ.length:=by rw [hl,← hn]; exact (List.getElem?_eq_some_iff.mp hi).1
    refine ⟨v,h1,env,cm,m,hE,M,ho.bind.mono fun y cm1 m1 H1 x1 M1 o1 vy ry=>?_⟩
    refine ⟨cm1,m1,w,y,M1,h2.ext x1 M M1,ry,o1.bind.mono fun z cm2 m2 H2 x2 M2 o2 vz rz=>?_⟩
    exact ⟨by rw [List.length_set]; exact hl,env.set i (some z),cm2,m2,EnvR.set ((hE.ext x1 M M1).ext x2 M1 M2) rz i hi',M2,o2⟩
  · exact ho.elim
theorem Zgq:MtR X "list.append" (rM X.K xr .append):=by
  rintro pins s σ H x xs v us Q I rx rs ⟨cm,m,w,ws,M,rw',rws,ho⟩
  cases w with
  | t t=>exact ho.elim
  | f a=>exact ho.elim
  | c i =>
    have ho:OkR X.K ((frzs ws m).bind fun ts m=>match m[i]? with
      | some (some (false,xs))=>match mutM .append xs ts with
        | some (t,ys)=>.ok (W.t t) (m.set i (some (false,ys)))
        | none=>.stuck
      | _=>.stuck) xr cm m H _:=ho
    obtain ⟨ts,m2,e2,o2⟩:=Zbb ho
    obtain ⟨x2,M2,r2⟩:=ZaI M rws e2
    obtain ⟨a,ha,rfl⟩:=rw'
    split at o2
    · rename_i ys e3
      split at o2
      · rename_i t zs e4
        obtain ⟨b,vs,q1,q2,q3,q4⟩:=M2.at' i _ e3
        rw [ha] at q1; cases q1
        have l4:=q4.length
        dsimp only at l4
        have hz:=ZG
        match ts,r2,e4 with
        | [t1],.cons r3 .nil,e4 =>
          unfold mutM at e4
          dsimp only at e4
          split at e4 <;> cases e4
          rename_i hlt
          obtain ⟨x5,M5⟩:=ZcD M2 e3 ha (Qt q4 (.cons r3 .nil))
          exact ZhW pins s σ H _ _ v us Q I rx rs ⟨a,vs,_,rfl,rfl,q2,by omega,OkR.to o2 (x2.trans x5) M5 _ .non⟩
        | [],_,e4=>cases e4
        | _ :: _ :: _,_,e4=>cases e4
      · exact o2.elim
    · exact o2.elim
theorem Zgc {o:Expr} {apos cpos:Pos} (ho:PE X o (tE X.K call gv xr ea)) (ha:PA X [e] (tA X.K call gv xr eas))
    (hbase:attributeBase o "append" X.env (eval o X.env)=eval o X.env:=by rfl)
    (hline:(apos.endLine == cpos.line)=true:=by rfl) (hs:notStar e=true:=by rfl) :
    PE X (.Call (.Attribute o "append" apos) [e] [] cpos) (tE X.K call gv xr (.mth .append ea eas)):=by
  refine PE.mono (Zlz PySem.F.plainAttrs_list PySem.F.slot_list_append PySem.F.type_list_append (Zgq (xr:=xr)) ho ha hbase (few1 hs) hline (J9 hs) (Zbn rfl)) ?_
  rintro σ H Q ⟨env,cm,m,hE,M,hq⟩
  rw [ev] at hq
  refine ⟨env,cm,m,hE,M,hq.bind.mono fun w cm1 m1 H1 x1 M1 o1 v rv=>?_⟩
  obtain ⟨ht,o1⟩:=ZbJ o1
  refine ⟨?_,env,cm1,m1,hE.ext x1 M M1,M1,o1.bind.mono fun ws cm2 m2 H2 x2 M2 o2 vs rvs=>?_⟩
  · cases w with
    | t t=>cases ht
    | f a=>cases ht
    | c i =>
      obtain ⟨a,h1,rfl⟩:=rv
      have ht:(match m1[i]? with
        | some (some _)=>true
        | _=>false)=true:=ht
      split at ht
      · rename_i c e1
        obtain ⟨b,vs,q1,q2,_⟩:=M1.at' i _ e1
        rw [h1] at q1; cases q1
        exact .inl ⟨rfl,vs,.of q2⟩
      · cases ht
  · exact ⟨cm2,m2,w,ws,M2,rv.ext x2 M1 M2,rvs,o2⟩
theorem Zf2 {body:List Stmt} {sb:S} (hp:PassesOwn (model X.prog X.w) X.A X.env X.xe) (hc:PT X c (tT X.K call gv xr ec)) (hb:PSs X body (tS X.K call gv xr n sb)) (hk:PSs X rest (tS X.K call gv xr n k)) :
    PSs X (.While c body [] pos :: rest) (tS X.K call gv xr n (.whil ec sb k)):=by
  refine PSs.mono (Q8 (Zjk hp hc hb) hk) ?_
  rintro D σ0 H0 ⟨hl0,env0,cm0,m0,hE0,M0,ho⟩
  rw [ex] at ho
  let g:Flow→Mem→Res Flow:=fun fl m=>match fl with
    | .next env=>ex call gv k env m
    | fl=>.ok fl m
  let P:Flow→List Addr→Mem→Hp→Prop:=fun fl cm m H=>OkR X.K (g fl m) xr cm m H (fun fl cm' m' H'=>Ze0 X.K n D fl cm' m' H')
  have ho:OkR X.K ((Jg (fun env m=>(ev call gv ec env m).bind Qm) (fun env m=>ex call gv sb env m) turns env0 m0).bind g) xr cm0 m0 H0 (fun fl cm' m' H'=>Ze0 X.K n D fl cm' m' H'):=ho
  refine ⟨fun μ σ H=>σ.length=n∧∃ env cm m,EnvR X.K cm m H env σ∧MemR X.K cm m H∧OkR X.K (Jg (fun env m=>(ev call gv ec env m).bind Qm) (fun env m=>ex call gv sb env m) μ env m) xr cm m H P,⟨turns,hl0,env0,cm0,m0,hE0,M0,ho.bind⟩,?_⟩
  rintro μ σ H ⟨hl,env,cm,m,hE,M,hq⟩
  cases μ with
  | zero=>rw [Jg] at hq; exact hq.elim
  | succ μ =>
    rw [Jg] at hq
    refine ⟨env,cm,m,hE,M,hq.bind.mono fun b cm1 m1 H1 x1 M1 o1=>?_⟩
    cases b with
    | false=>exact iteF ⟨hl,env,cm1,m1,hE.ext x1 M M1,M1,OkR.now (a:=Flow.next env) o1 M1⟩
    | true =>
      have o1:OkR X.K ((ex call gv sb env m1).bind fun fl m=>match fl with
        | .next env=>Jg (fun env m=>(ev call gv ec env m).bind Qm) (fun env m=>ex call gv sb env m) μ env m
        | .cont env=>Jg (fun env m=>(ev call gv ec env m).bind Qm) (fun env m=>ex call gv sb env m) μ env m
        | .brk env=>.ok (.next env) m
        | .ret w=>.ok (.ret w) m) xr cm1 m1 H1 P:=o1
      refine iteT ⟨fun σ' H'=>σ'.length=n∧∃ env cm m,EnvR X.K cm m H' env σ'∧MemR X.K cm m H'∧OkR X.K (Jg (fun env m=>(ev call gv ec env m).bind Qm) (fun env m=>ex call gv sb env m) μ env m) xr cm m H' P,fun σ' H' h=>⟨μ,Nat.lt_succ_self _,h⟩,hl,env,cm1,m1,hE.ext x1 M M1,M1,o1.bind.mono fun fl cm2 m2 H2 x2 M2 o2=>?_⟩
      cases fl with
      | next env2=>exact fun σ2 hl2 hE2=>⟨hl2,env2,cm2,m2,hE2,M2,o2⟩
      | cont env2=>exact fun σ2 hl2 hE2=>⟨hl2,env2,cm2,m2,hE2,M2,o2⟩
      | brk env2=>exact fun σ2 hl2 hE2=>⟨hl2,env2,cm2,m2,hE2,M2,OkR.now (a:=Flow.next env2) o2 M2⟩
      | ret w=>exact OkR.now (xr:=xr) (a:=Flow.ret w) (OkR.now (a:=Flow.ret w) o2 M2) M2
theorem ZcU (i j:Nat) {x y:Str} {px py:Pos} {kk:Nat} (hc:X.calm=true) (hN:X.N.Nodup) (hi:X.N[i]? = some x:=by rfl) (hj:X.N[j]? = some y:=by rfl) (hx:Loc X.env.scope x:=by first | exact Or.inl rfl | exact Or.inr rfl) (hy:Loc X.env.scope y:=by first | exact Or.inl rfl | exact Or.inr rfl)
    (hf:X.fn x=true∨X.env.scope.names.lookup x=some .local:=by first | exact .inl rfl | exact .inr rfl) (hg:X.fn y=true∨X.env.scope.names.lookup y=some .local:=by first | exact .inl rfl | exact .inr rfl)
    (hs:(assignEach [.Name x px,.Name y py] X.env).map (·.2)=assign (.Name x px) X.env :: (assignEach [.Name y py] X.env).map (·.2):=by rfl) (hs2:(assignEach [.Name y py] X.env).map (·.2)=assign (.Name y py) X.env :: (assignEach [] X.env).map (·.2):=by rfl)
    (hn:(assignEach [.Name x px,.Name y py] X.env).length=2:=by rfl) (hst:(assignEach [.Name x px,.Name y py] X.env).findIdx? (·.1)=none:=by rfl):PG X (.Tuple [.Name x px,.Name y py] kk pos) (gT X.K (.tp [i,j])):=by
  rintro pins s σ H v u Q I r ⟨a,xs,e1,h1,h2,h3⟩
  refine pg_tup hc (Zfq (ZeD hN hi hx hf) (Zfq (ZeD hN hj hy hg) Zlf hs2) hs) hn hst pins s σ H v u Q I r ⟨a,xs,e1,h1,h2,?_⟩
  match xs,h2 with
  | [v1,v2],_=>exact ⟨v1,[v2],rfl,v2,[],rfl,rfl,h3⟩
theorem Zjj {tg:Expr} {is:List Nat} (hN:∀ i∈is,i < n) (h:PE X e (tE X.K call gv xr ea)) (hg:PG X tg (gT X.K (.tp is))) (hk:PSs X rest (tS X.K call gv xr n k))
    (hs:swapsWithSole [tg] e pos.line X.env=pure false:=by rfl) (hw:swappedStores [tg] e X.env=pure none:=by rfl) (h1:(assignEach [tg] X.env).map (·.2)=[assign tg X.env]:=by rfl):PSs X (.Assign [tg] e pos :: rest) (tS X.K call gv xr n (.asgT is ea k)):=by
  refine PSs.mono (Q8 (Zks h hg hs hw h1) hk) ?_
  rintro D σ H ⟨hl,env,cm,m,hE,M,ho⟩
  rw [ex] at ho
  refine ⟨env,cm,m,hE,M,ho.bind.mono fun w cm1 m1 H1 x1 M1 o1 v rv=>?_⟩
  cases w with
  | f a=>exact o1.elim
  | c i=>exact o1.elim
  | t t =>
    have o1:OkR X.K (match Xd (.tp is) t env with
      | some env=>ex call gv k env m1
      | none=>.stuck) xr cm1 m1 H1 _:=o1
    split at o1
    · rename_i env' eb
      have:=ZkD (Zl6 (Q:=fun σ' H'=>H' = H1∧EnvR X.K cm1 m1 H1 env' σ') (hE.ext x1 M M1) (fun j hj=>by rw [hl]; exact hN j hj) rv eb fun σ' hE' _=>⟨rfl,hE'⟩)
      obtain ⟨a1,xs,z1,z2,z3,z4,z5,z6⟩:=this
      exact ⟨a1,xs,z1,z2,z3,z4.trans hl,env',cm1,m1,z6,M1,o1⟩
    · exact o1.elim
end
end Mi
namespace Mi
open PySem PySem.Spec PyProof.Rows L2
section
variable {xr:XR} {X:Cx} {call:Nat→List W→Mem→Res W} {gv:List T}
variable {e:Expr} {es:List Expr} {eas:Es} {pos p:Pos}
theorem Zlo (hg:Gl X "len") (hm:X.mg "len" = none) (ha:PA X (e :: es) (tA X.K call gv xr eas)) (he:notStar e=true) (hpl:es.all notStar=true):PE X (.Call (.Name "len" p) (e :: es) [] pos) (tE X.K call gv xr (.blt .len eas)):=Zbs ZiD (by decide +kernel) hg hm ha (by decide) (by decide) he hpl
theorem ZjC (hg:Gl X "int") (hm:X.mg "int" = none) (ha:PA X (e :: es) (tA X.K call gv xr eas)) (he:notStar e=true) (hpl:es.all notStar=true):PE X (.Call (.Name "int" p) (e :: es) [] pos) (tE X.K call gv xr (.blt .int eas)):=ZeE ZiE (by decide +kernel) hg hm ha (by decide) (by decide) he hpl
theorem Zjy (hg:Gl X "str") (hm:X.mg "str" = none) (ha:PA X (e :: es) (tA X.K call gv xr eas)) (he:notStar e=true) (hpl:es.all notStar=true):PE X (.Call (.Name "str" p) (e :: es) [] pos) (tE X.K call gv xr (.blt .str eas)):=ZeE ZiA (by decide +kernel) hg hm ha (by decide) (by decide) he hpl
theorem Zgb (hg:Gl X "tuple") (hm:X.mg "tuple" = none) (ha:PA X (e :: es) (tA X.K call gv xr eas)) (he:notStar e=true) (hpl:es.all notStar=true) (hc:X.calm=true:=by rfl):PE X (.Call (.Name "tuple" p) (e :: es) [] pos) (tE X.K call gv xr (.blt .tuple eas)):=ZeE (Ze9 hc) (by decide +kernel) hg hm ha (by decide) (by decide) he hpl
theorem ZjH (hg:Gl X "all") (hm:X.mg "all" = none) (ha:PA X (e :: es) (tA X.K call gv xr eas)) (he:notStar e=true) (hpl:es.all notStar=true) (hc:X.calm=true:=by rfl):PE X (.Call (.Name "all" p) (e :: es) [] pos) (tE X.K call gv xr (.blt .all eas)):=Zbs (ZiF hc) (by decide +kernel) hg hm ha (by decide) (by decide) he hpl
theorem Zjx (hg:Gl X "sum") (hm:X.mg "sum" = none) (ha:PA X (e :: es) (tA X.K call gv xr eas)) (he:notStar e=true) (hpl:es.all notStar=true) (hc:X.calm=true:=by rfl):PE X (.Call (.Name "sum" p) (e :: es) [] pos) (tE X.K call gv xr (.blt .sum eas)):=Zbs (Ziz hc) (by decide +kernel) hg hm ha (by decide) (by decide) he hpl
theorem ZjA (hg:Gl X "min") (hm:X.mg "min" = none) (ha:PA X (e :: es) (tA X.K call gv xr eas)) (he:notStar e=true) (hpl:es.all notStar=true) (hc:X.calm=true:=by rfl):PE X (.Call (.Name "min" p) (e :: es) [] pos) (tE X.K call gv xr (.blt .min2 eas)):=Zbs (ZiB hc) (by decide +kernel) hg hm ha (by decide) (by decide) he hpl
end
end Mi
namespace Mi
open PySem PySem.Spec PyProof.Rows L2
structure Bd (X:Cx) (st:List Stmt) (t:TS):Prop where
  h:PSs X st t
theorem ZJ {K:PySem.W.Frag} {fns:List Fn} {gv:List T} {k:Nat} {P:Program} {w:World} {mg:Str→Option Value} {base:Heap} {x qual:Str} {st:Stmt} {f:Addr} {fd:FuncData} {N ps:List Str} {fi np n:Nat} {body:S} {cell:Bool} (F:Fun K x qual st f fd) (S:FnScope N ps (Za st)) (hd:fns[fi]? = some ⟨np,n,body,cell⟩) (hps:np=ps.length) (hn:N.length=n)
    (hbody:∀ (cdv:Value) (A:Around) (outer:List PySem.Env) (s:Shared) (H:Hp) (E:XK),Room k (A.deeper (envOfC qual (Za st) s.heap.objs.size f cdv)) →
      Bd (cxOf CX0 P w K mg base N qual (Za st) f cdv A outer s H E).nox (Zf st) (tS K (ZR fns gv k) gv xr0 n body)) :
    FnOk P w K mg base CX0 (k + 1) f fd ps (spF K fns gv (k + 1) fi):=by
  subst hn
  exact fn_okW F S hd hps rfl fun cdv A outer s H E hr=>(hbody cdv A outer s H E hr).h
end Mi
end
section
namespace Mi
open PySem PySem.Spec PyProof.Rows L2
section
variable {K:PySem.W.Frag} {X:Cx} {fns:List Fn} {gv:List T} {xr:XR} {call:Nat→List W→Mem→Res W}
variable {e:Expr} {es:List Expr} {eas:Es} {pos p:Pos} {k:Nat}
inductive TabOk (P:Program) (w:World) (K:PySem.W.Frag) (mg:Str→Option Value) (base:Heap) (fns:List Fn) (gv:List T) (k:Nat):List (Nat×Nat)→Prop where
  | nil:TabOk P w K mg base fns gv k []
  | cons {j fi a:Nat} {x:Str} {r:List (Nat×Nat)}:FOk P w K mg base fns gv k x fi→mg x=some (.ref a)→gv[j]? = some (.int (a:Int))→TabOk P w K mg base fns gv k r→TabOk P w K mg base fns gv k ((j,fi) :: r)
theorem TabOk.get {P:Program} {w:World} {mg:Str→Option Value} {base:Heap} {tab:List (Nat×Nat)} (h:TabOk P w K mg base fns gv k tab) {a fi:Nat} (e:Zh0 gv a tab=some fi):∃ fd ps,PySem.W.keepIn K (.ref a)=true∧Binds K fd ps []∧FnOk P w K mg base CX0 k a fd ps (spF K fns gv k fi):=by
  induction h with
  | nil=>cases e
  | @cons j fj b x r F hm hj _ ih =>
    unfold Zh0 at e
    rw [hj] at e
    dsimp only at e
    split at e
    · rename_i hb
      cases e
      have hb:b=a:=by omega
      subst hb
      obtain ⟨f,fd,ps,h1,h2,h3,h4⟩:=F
      rw [hm] at h1
      cases h1
      exact ⟨fd,ps,h2,h3,h4⟩
    · exact ih e
end
end Mi
end
section
namespace Mi
theorem Qv {f:Env→Mem→Res (List T)} {tg:Tg} {env:Env} {m:Mem} {g:T→List T}:∀ (ts:List T),(∀ t∈ts,∃ env',Xd tg t env=some env'∧f env' m = .ok (g t) m)→JH f tg ts env m = .ok (ts.flatMap g) m
  | [],_=>rfl
  | t :: ts,h=>by
    obtain ⟨env',e1,e2⟩:=h t List.mem_cons_self
    rw [JH,e1]
    show (f env' m).bind _=_
    rw [e2]
    show (JH f tg ts env m).bind _=_
    rw [Qv ts fun t ht=>h t (List.mem_cons_of_mem _ ht)]
    rfl
inductive Turns {α β:Type} (R:α→β→Prop):List α→List β→Prop where
  | nil:Turns R [] []
  | cons {a:α} {b:β} {as:List α} {bs:List β}:R a b→Turns R as bs→Turns R (a :: as) (b :: bs)
theorem Turns.length {α β:Type} {R:α→β→Prop} {as:List α} {bs:List β} (h:Turns R as bs):as.length=bs.length:=by
  induction h with
  | nil=>rfl
  | cons _ _ ih=>simp [ih]
theorem Turns.right {α β:Type} {R:α→β→Prop} {as:List α} {bs:List β} (h:Turns R as bs) {b:β} (hb:b∈bs):∃ a∈as,R a b:=by
  induction h with
  | nil=>cases hb
  | cons r _ ih =>
    rcases List.mem_cons.mp hb with rfl | hb
    · exact ⟨_,List.mem_cons_self,r⟩
    · obtain ⟨a,h1,h2⟩:=ih hb
      exact ⟨a,List.mem_cons_of_mem _ h1,h2⟩
theorem Za9 {f:Env→Mem→Res (List T)} {tg:Tg} {env:Env} {P:Mem→Prop} {R:T→List T→Prop}:∀ (ts:List T) (m:Mem),P m→(∀ t∈ts,∀ m,P m→∃ env' xs m',Xd tg t env=some env'∧f env' m = .ok xs m'∧P m'∧R t xs) →
    ∃ xss m',JH f tg ts env m = .ok xss.flatten m'∧P m'∧Turns R ts xss
  | [],m,hm,_=>⟨[],m,rfl,hm,.nil⟩
  | t :: ts,m,hm,h=>by
    obtain ⟨env',xs,m1,e1,e2,p1,r1⟩:=h t List.mem_cons_self m hm
    obtain ⟨xss,m2,e3,p2,r2⟩:=Za9 ts m1 p1 fun t ht=>h t (List.mem_cons_of_mem _ ht)
    refine ⟨xs :: xss,m2,?_,p2,.cons r1 r2⟩
    rw [JH,e1]
    show (f env' m).bind _=_
    rw [e2]
    show (JH f tg ts env m1).bind _=_
    rw [e3]
    rfl
theorem Zcp {f:Env→Mem→Res Flow} {tg:Tg} {P:Env→Mem→Prop}:∀ (ts:List T) (env:Env) (m:Mem),P env m→(∀ t∈ts,∀ env m,P env m→∃ env1 env2 m2,Xd tg t env=some env1∧f env1 m = .ok (.next env2) m2∧P env2 m2) →
    ∃ env' m',QT f tg ts env m = .ok (.next env') m'∧P env' m'
  | [],env,m,hm,_=>⟨env,m,rfl,hm⟩
  | t :: ts,env,m,hm,h=>by
    obtain ⟨env1,env2,m2,e1,e2,p2⟩:=h t List.mem_cons_self env m hm
    obtain ⟨env3,m3,e3,p3⟩:=Zcp ts env2 m2 p2 fun t ht=>h t (List.mem_cons_of_mem _ ht)
    refine ⟨env3,m3,?_,p3⟩
    rw [QT,e1]
    show (f env1 m).bind _=_
    rw [e2]
    exact e3
theorem Xu {α:Type} {xs:List α} {i:Int} (h0:0≤i) (h1:i < xs.length):∃ x,atT xs i=some x∧x∈xs:=by
  have hi:i.toNat < xs.length:=by omega
  refine ⟨xs[i.toNat],?_,List.getElem_mem hi⟩
  unfold atT ixOf
  rw [if_pos h0,if_pos h1]
  exact List.getElem?_eq_getElem hi
theorem Zar {α:Type} (f:α→Bool):∀ xs:List α,bools? (xs.map fun x=>.bl (f x))=some (xs.map f)
  | []=>rfl
  | x :: xs=>by
    rw [List.map_cons,bools?,Zar f xs]
    rfl
theorem strs_map {α:Type} (f:α→List Nat):∀ xs:List α,strs? (xs.map fun x=>.str (f x))=some (xs.map f)
  | []=>rfl
  | x :: xs=>by
    rw [List.map_cons,strs?,strs_map f xs]
    rfl
theorem ZbD:∀ xs:List (List Nat),Zc [] xs=xs.flatten
  | []=>rfl
  | [x]=>by simp [Zc]
  | x :: y :: r=>by
    show x++[]++Zc [] (y :: r)=_
    rw [ZbD (y :: r)]; simp
section
variable {call:Nat→List W→Mem→Res W} {gv:List T}
noncomputable def QJ (call:Nat→List W→Mem→Res W) (gv:List T) (cs:Es) (inner:E) (env:Env) (m:Mem):Res (List T):=(tests call gv cs env m).bind fun k m=>if k then (ev call gv inner env m).bind Zdd else .ok [] m
theorem Qz {own:Nat} {keep:List Nat} {it:E} {tg:Tg} {cs:Es} {inner:E} {env:Env} {m m0 m1 m2:Mem} {x:W} {ts out:List T} (h1:ev call gv it env m = .ok x m0) (h2:Z7 x m0 = .ok ts m1)
    (h3:JH (QJ call gv cs inner) tg ts (List.replicate own none++keep.map fun i=>(env[i]?).join) m1 = .ok out m2) (hz:out.length≤lim):ev call gv (.comp own keep it tg cs inner) env m = .ok (.t (.lst out)) (giveBack x m0 m2):=by
  have e:ev call gv (.comp own keep it tg cs inner) env m=(ev call gv it env m).only.bind fun x m0=>(Z7 x m0).bind fun ts m =>
      (JH (QJ call gv cs inner) tg ts (List.replicate own none++keep.map fun i=>(env[i]?).join) m).only.bind fun out m =>
        if out.length≤lim then .ok (.t (.lst out)) (giveBack x m0 m) else .stuck:=by rw [ev]; rfl
  rw [e,h1]
  show (Z7 x m0).bind _=_
  rw [h2]
  show (JH (QJ call gv cs inner) tg ts (List.replicate own none++keep.map fun i=>(env[i]?).join) m1).only.bind _=_
  rw [h3]
  exact if_pos hz
theorem Zc3 {tg:Tg} {it:E} {body k:S} {env env':Env} {m m0 m1 m2:Mem} {x:W} {ts:List T} (h1:ev call gv it env m = .ok x m0) (h2:Z7 x m0 = .ok ts m1) (h3:QT (ex call gv body) tg ts env m1 = .ok (.next env') m2) :
    ex call gv (.forr tg it body k) env m=ex call gv k env' (giveBack x m0 m2):=by
  rw [ex,h1]
  show (Z7 x m0).bind _=_
  rw [h2]
  show (QT (ex call gv body) tg ts env m1).bind _=_
  rw [h3]
  rfl
end
section
variable {call:Nat→List W→Mem→Res W} {gv:List T} {env:Env} {m m1 m2:Mem} {k a b:S} {e:E} {w:W}
theorem Zh {α β:Type} (x:α) (m:Mem) (f:α→Mem→Res β):(Res.ok x m).bind f=f x m:=rfl
theorem only_k {α:Type} (x:α) (m:Mem):(Res.ok x m).only = .ok x m:=rfl
theorem view_k (x:T) (m:Mem):view (.t x) m=some x:=rfl
theorem pur_k (x:T) (m:Mem):pur (some x) m = .ok (.t x) m:=rfl
theorem Zmp (x:Bool) (m:Mem):Zb0 (.t (.bl x)) m = .ok x m:=rfl
theorem ZcL (x:Bool) (m:Mem):Qm (.t (.bl x)) m = .ok x m:=rfl
theorem frz_k (x:T) (m:Mem):frz (.t x) m = .ok x m:=rfl
theorem ZiL (x:List T) (m:Mem):Zdd (.t (.lst x)) m = .ok x m:=rfl
theorem intP_k (x:Int) (m:Mem):intP (.t (.int x)) m = .ok (some x) m:=rfl
theorem c_lt (i j:Int):cmpT .Lt (.int i) (.int j)=some (decide (i < j)):=rfl
theorem c_le (i j:Int):cmpT .LtE (.int i) (.int j)=some (decide (i≤j)):=rfl
theorem c_gt (i j:Int):cmpT .Gt (.int i) (.int j)=some (decide (j < i)):=rfl
theorem c_ge (i j:Int):cmpT .GtE (.int i) (.int j)=some (decide (j≤i)):=rfl
theorem ZgW (i j:Int):cmpT .Eq (.int i) (.int j)=some (i == j):=rfl
theorem c_neI (i j:Int):cmpT .NotEq (.int i) (.int j)=some (!(i == j)):=rfl
theorem c_eqB (i j:Bool):cmpT .Eq (.bl i) (.bl j)=some (i == j):=rfl
theorem c_neB (i j:Bool):cmpT .NotEq (.bl i) (.bl j)=some (!(i == j)):=rfl
theorem Zef (i j:List Nat):cmpT .Eq (.str i) (.str j)=some (i == j):=rfl
theorem c_neS (i j:List Nat):cmpT .NotEq (.str i) (.str j)=some (!(i == j)):=rfl
theorem c_in1 (i:Nat) (j:List Nat):cmpT .In (.str [i]) (.str j)=some (decide (i∈j)):=rfl
theorem c_isT (b x:Bool):cmpT .Is (.bl x) (.bl b)=some (x == b):=rfl
theorem ZgX (i j:Int):binT .Add (.int i) (.int j)=some (.int (i + j)):=rfl
theorem Zmr (i j:Int):binT .Sub (.int i) (.int j)=some (.int (i - j)):=rfl
theorem XN {a b:List Nat} (h:a.length + b.length≤lim):binT .Add (.str a) (.str b)=some (.str (a++b)):=if_pos h
theorem b_addL {a b:List T} (h:a.length + b.length≤lim):binT .Add (.lst a) (.lst b)=some (.lst (a++b)):=if_pos h
theorem b_mul {i j:Int} (h:Xl i j=true):binT .Mult (.int i) (.int j)=some (.int (i * j)):=if_pos h
theorem b_mod {i j:Int} (h:0 < j):binT .Mod (.int i) (.int j)=some (.int (i % j)):=if_pos h
theorem b_pow {i j:Int} (h:0≤j∧j≤1000∧i.natAbs < 2 ^ 64):binT .Pow (.int i) (.int j)=some (.int (i ^ j.toNat)):=if_pos h
theorem x_tup (ts:List T) (i:Int):ixT (.tup ts) (.int i)=atT ts i:=rfl
theorem x_lst (ts:List T) (i:Int):ixT (.lst ts) (.int i)=atT ts i:=rfl
theorem x_scr (ts:List Int) (i:Int):ixT (.scr ts) (.int i)=(atT ts i).map .int:=rfl
theorem x_str {cs:List Nat} (h:cs.length≤lim) (i:Int):ixT (.str cs) (.int i)=(atT cs i).map fun c=>.str [c]:=if_pos h
theorem s_lst (ts:List T) (lo hi:Option Int):slT (.lst ts) lo hi=some (.lst (cut ts lo hi)):=rfl
theorem s_scr (ts:List Int) (lo hi:Option Int):slT (.scr ts) lo hi=some (.lst ((cut ts lo hi).map .int)):=rfl
theorem Zgx {cs:List Nat} (h:cs.length≤lim):bltT .len [.str cs]=some (.int cs.length):=if_pos h
theorem Zh3 (ts:List T):bltT .len [.lst ts]=some (.int ts.length):=rfl
theorem ZlW (ts:List T):bltT .len [.tup ts]=some (.int ts.length):=rfl
theorem l_scr (ts:List Int):bltT .len [.scr ts]=some (.int ts.length):=rfl
theorem ZlX (b:Bool):bltT .int [.bl b]=some (.int (b2i b)):=rfl
theorem l_str1 {i:Int} (h:i.natAbs < 2 ^ 250):bltT .str [.int i]=some (.str (decI i)):=if_pos h
theorem Zky (ts:List T):bltT .tuple [.lst ts]=some (.tup ts):=rfl
theorem ZlY {ts:List T} {bs:List Bool} (h:bools? ts=some bs):bltT .all [.lst ts]=some (.bl (bs.all id)):=by
  show (bools? ts).map _=_
  rw [h]; rfl
theorem ZjY {i:Int} (h:i < 2 ^ 62∧-(2 ^ 62)≤i):bltT .range1 [.int i]=some (.lst (rangeT 0 i.toNat)):=if_pos h
theorem ZkS:views [] m=some []:=rfl
theorem ZkT (x:T) (ws:List W):views (.t x :: ws) m=(views ws m).map (x :: ·):=rfl
theorem ZaX:frzs [] m = .ok [] m:=rfl
theorem Zal (x:T) (ws:List W):frzs (.t x :: ws) m=(frzs ws m).bind fun ts m=>.ok (x :: ts) m:=rfl
theorem Zr {i:Nat} (h:ev call gv e env m = .ok w m1):ex call gv (.asg i e k) env m=ex call gv k (env.set i (some w)) m1:=by rw [ex,h]; rfl
theorem Zi (h:ev call gv e env m = .ok w m1):ex call gv (.ret e k) env m = .ok (.ret w) m1:=by rw [ex,h]; rfl
theorem ZK (h:ev call gv e env m = .ok (.t (.bl true)) m1) (h2:ex call gv a env m1 = .ok (.ret w) m2):ex call gv (.ife e a b k) env m = .ok (.ret w) m2:=by
  rw [ex,h]
  show (ex call gv a env m1).bind _=_
  rw [h2]; rfl
theorem Zk (h:ev call gv e env m = .ok (.t (.bl false)) m1):ex call gv (.ife e a .done k) env m=ex call gv k env m1:=by rw [ex,h]; rfl
theorem Zm {n:Nat} {cell:Bool} {t:T} (h:m1.length=n):fin n cell (.ret (.t t)) m1 = .ok (.t t) m1:=by
  show Res.ok (W.t t) (m1.take n)=_
  rw [← h,List.take_length]
theorem ZV {c:Prop} [Decidable c] {b:S} {env:Env} {m m1 m2:Mem} {k:Nat} {cell:Bool} {X:Res W} {w w':W} (hX:X=if c then (ex call gv b env m).bind fun fl m'=>fin k cell fl m' else .stuck) (hc:c) (key:ex call gv b env m = .ok (.ret w) m1) (hf:fin k cell (.ret w) m1 = .ok w' m2):X = .ok w' m2:=by
  rw [hX,if_pos hc,key]
  exact hf
theorem ZkK {sep:List Nat} {xs:List T} {ys:List (List Nat)} (h:strs? xs=some ys) (hz:(ys.map List.length).sum + ys.length * sep.length≤lim):doM .join (.t (.str sep)) [.t (.lst xs)] m = .ok (.t (.str (Zc sep ys))) m:=by
  show pur ((strs? xs).bind fun ys=>if (ys.map List.length).sum + ys.length * sep.length≤lim then some (.str (Zc sep ys)) else none) m=_
  rw [h]
  show pur (if (ys.map List.length).sum + ys.length * sep.length≤lim then some (.str (Zc sep ys)) else none) m=_
  rw [if_pos hz]
  rfl
theorem Zkn {x:List Nat}:tyM .join (.t (.str x)) m=true:=rfl
end
noncomputable def EVs:=And.intro @Zh (And.intro @only_k (And.intro @view_k (And.intro @pur_k (And.intro @Zmp (And.intro @ZcL (And.intro @frz_k (And.intro @ZiL (And.intro @intP_k (And.intro @c_lt (And.intro @c_le (And.intro @c_gt (And.intro @c_ge (And.intro @ZgW (And.intro @c_neI (And.intro @c_eqB (And.intro @c_neB (And.intro @Zef (And.intro @c_neS (And.intro @c_in1 (And.intro @c_isT (And.intro @ZgX (And.intro @Zmr (And.intro @x_tup (And.intro @x_lst (And.intro @x_scr (And.intro @s_lst (And.intro @s_scr (And.intro @Zh3 (And.intro @ZlW (And.intro @l_scr (And.intro @ZlX (And.intro @Zky (And.intro @ZkS (And.intro @ZkT (And.intro @ZaX (@Zal))))))))))))))))))))))))))))))))))))
end Mi
end
section
namespace Mi
open PySem PySem.Spec PyProof.Rows L2
section
variable {K:PySem.W.Frag} {cm:List Addr} {m:Mem} {H:Hp} {xr:XR} {X:Cx} {call:Nat→List W→Mem→Res W} {gv:List T}
variable {a b c e:Expr} {es:List Expr} {ea eb ec:E} {eas:Es} {pos p p2 pos2:Pos} {rest:List Stmt} {k:S} {n:Nat}
theorem Zba:∀ {ks:List Key} {ts:List T} {vs:List V} (_:RTs K cm m H ts vs) (k:Key),(∃ t v,Qn ks ts k=some t∧valV (ks.zip vs) k=some v∧RT K cm m H t v)∨(Qn ks ts k=none∧valV (ks.zip vs) k=none)
  | [],_,_,_,k=>.inr ⟨by simp [Qn],by simp [valV]⟩
  | _ :: _,_,_,.nil,k=>.inr ⟨by simp [Qn],by simp [valV]⟩
  | k0 :: ks,t :: ts,v :: vs,.cons r rs,k=>by
    by_cases h:k0=k
    · subst h
      exact .inl ⟨t,v,by simp [Qn],by simp [valV],r⟩
    · have e1:Qn (k0 :: ks) (t :: ts) k=Qn ks ts k:=by simp [Qn,List.find?_cons,h]
      have e2:valV ((k0 :: ks).zip (v :: vs)) k=valV (ks.zip vs) k:=by simp [valV,List.find?_cons,h]
      rw [e1,e2]
      exact Zba rs k
theorem Zh7 {t:T} {k:Key} {v:V} (h:keyT t=some k) (r:RT K cm m H t v):v=kV k:=by
  unfold keyT at h
  split at h <;> cases h
  · cases RT.vint r; rfl
  · cases RT.vstr r; rfl
theorem evs2 {env:Env}:evs call gv (.cons ea (.cons eb .nil)) env m=(ev call gv ea env m).bind fun x m=>(ev call gv eb env m).bind fun y m=>.ok [x,y] m:=by
  rw [evs]
  cases ev call gv ea env m with
  | ok w m1 =>
    simp only [Res.bind]
    rw [evs]
    cases ev call gv eb env m1 with
    | ok w2 m2=>simp only [Res.bind,evs]
    | exc x m2=>rfl
    | stuck=>rfl
  | exc x m1=>rfl
  | stuck=>rfl
theorem ZiW {g:B} {x y:W} {k:W→List Addr→Mem→Hp→Prop} (h:OkR K (fBlt g [x,y] m) xr cm m H k):∃ t1 t2 t,view x m=some t1∧view y m=some t2∧bltT g [t1,t2]=some t∧OkR K (.ok (.t t) m) xr cm m H k:=by
  obtain ⟨t,e,ho⟩:=Q0 h
  cases q:views [x,y] m with
  | none=>rw [q] at e; cases e
  | some ts =>
    rw [q] at e
    have e:bltT g ts=some t:=e
    unfold views at q
    cases q1:view x m with
    | none=>rw [q1] at q; cases q
    | some t1 =>
      rw [q1] at q
      unfold views at q
      cases q2:view y m with
      | none=>rw [q2] at q; cases q
      | some t2 =>
        rw [q2] at q
        cases q
        exact ⟨t1,t2,t,rfl,rfl,e,ho⟩
theorem Zmh {ks:List Key} {ts:List T} {v:V} (h:RT K cm m H (.dct ks ts) v):∃ a vs,v = .ref a∧H a=some (.dK (ks.zip vs))∧RTs K cm m H ts vs:=by
  cases h with
  | dct q1 q2 q3 q4 q5=>exact ⟨_,_,rfl,q1,Zae q4 q5⟩
theorem ZjE (ha:PE X a (tE X.K call gv xr ea)) (hb:PE X b (tE X.K call gv xr eb)) (hs:NoSl b) (hu:X.A.units + 64 < cLine):PE X (.Subscript a b pos) (tE X.K call gv xr (.blt .dget (.cons ea (.cons eb .nil)))):=by
  refine PE.mono (Zlu (by omega) ha hb hs) ?_
  rintro σ H Q ⟨env,cm,m,hE,M,ho⟩
  rw [ev,evs2] at ho
  refine ⟨env,cm,m,hE,M,ho.bind.bind.mono fun w cm1 m1 H1 x1 M1 o1 v rv=>?_⟩
  refine ⟨env,cm1,m1,hE.ext x1 M M1,M1,o1.bind.mono fun w2 cm2 m2 H2 x2 M2 o2 v2 rv2=>?_⟩
  obtain ⟨t1,t2,t,q1,q2,e,o3⟩:=ZiW (g:=.dget) (o2.now M2)
  cases t1 with
  | dct ks ts =>
    have e:(keyT t2).bind (Qn ks ts)=some t:=e
    cases qk:keyT t2 with
    | none=>rw [qk] at e; cases e
    | some kk =>
      rw [qk] at e
      have e:Qn ks ts kk=some t:=e
      obtain ⟨a,vs,rfl,h1,r1⟩:=Zmh (Zg (rv.ext x2 M1 M2) q1 (fun _ z=>by cases z))
      have ey:=Zh7 qk (Zg rv2 q2 (fun _ z=>by subst z; cases qk))
      subst ey
      rcases Zba (ks:=ks) r1 kk with ⟨t',v',l1,l2,l3⟩ | ⟨l1,l2⟩
      · rw [l1] at e
        cases e
        exact ⟨a,v',rfl,by rw [← l2]; exact .k h1,ans o3 M2 l3⟩
      · rw [l1] at e; cases e
  | _=>cases e
end
end Mi
end
section
namespace Mi
open PySem PySem.Spec PyProof.Rows L2
noncomputable abbrev q1 (h:Heap) (a:Addr):Heap:=h.push { cls:=.type "list_iterator",data:=.fields #[.ref a,.int 0 0] }
noncomputable abbrev q5 (h:Heap) (a b c d:Addr):Heap:=(q1 (q1 (q1 (q1 h a) b) c) d).push { cls:=.type "tuple",data:=.seq #[.ref h.objs.size,.ref (q1 h a).objs.size,.ref (q1 (q1 h a) b).objs.size,.ref (q1 (q1 (q1 h a) b) c).objs.size] }
noncomputable abbrev q6 (h:Heap) (a b c d:Addr):Heap:=(q5 h a b c d).push { cls:=.type "tuple",data:=.seq #[.none,.none,.none,.none] }
noncomputable abbrev q7 (h:Heap) (a b c d:Addr):Heap:=(q6 h a b c d).push { cls:=.type "zip",data:=.fields #[.none,.bool false,.bool false,.ref (q1 (q1 (q1 (q1 h a) b) c) d).objs.size,.ref (q5 h a b c d).objs.size] }
set_option maxHeartbeats 4000000 in
section
variable {K:PySem.W.Frag} {cm:List Addr} {m:Mem} {H:Hp} {xr:XR} {X:Cx} {call:Nat→List W→Mem→Res W} {gv:List T}
variable {a b c d e:Expr} {es:List Expr} {ea eb ec:E} {eas:Es} {pos p p2 pos2:Pos} {rest:List Stmt} {k:S} {n:Nat}
end
end Mi
end
section
namespace Mi
open PySem PySem.Spec PyProof.Rows L2
theorem Res.assoc {α β γ:Type} (r:Res α) (f:α→Mem→Res β) (g:β→Mem→Res γ):(r.bind f).bind g=r.bind fun a m=>(f a m).bind g:=by cases r <;> rfl
section
variable {K:PySem.W.Frag} {cm cm':List Addr} {m m':Mem} {H H':Hp} {xr:XR} {X:Cx} {call:Nat→List W→Mem→Res W} {gv:List T}
variable {a b c e:Expr} {es:List Expr} {ea eb ec:E} {eas:Es} {pos p p2:Pos} {rest:List Stmt} {k:S} {n:Nat}
noncomputable def PP (X:Cx) (call:Nat→List W→Mem→Res W) (gv:List T) (xr:XR) (p:Expr) (ea:E):Prop :=
  ∀ (pins:List (Addr×Obj)) (s:Shared) (σ:L2.St) (H:Hp) (cm:List Addr) (m:Mem) (env:Env) (acc:List Nat) (Q:List Nat→List Addr→Mem→Hp→Prop),Inv X pins σ H s→EnvR X.K cm m H env σ→MemR X.K cm m H →
    OkR X.K ((ev call gv ea env m).bind fun w m=>fmtW acc w m) xr cm m H Q →
    wpAny (model X.prog X.w) X.A (eval p X.env) (fun v s'=>∃ H' cm' m' a tk,Inv X pins σ H' s'∧Ext cm m H cm' m' H'∧MemR X.K cm' m' H'∧v = .str ⟨List.toArray a⟩ tk∧acc.length + a.length≤lim∧Q (acc++a) cm' m' H') X.xe s
theorem Zij {acc:List Nat} {w:W} {Q:List Nat→List Addr→Mem→Hp→Prop} (h:OkR K (fmtW acc w m) xr cm m H Q) (M:MemR K cm m H):∃ t a,w = .t t∧fmtT t=some a∧acc.length + a.length≤lim∧Q (acc++a) cm m H:=by
  unfold fmtW at h
  split at h
  · rename_i a e
    split at h
    · rename_i hl
      cases w with
      | t t=>exact ⟨t,a,rfl,e,hl,h.now M⟩
      | f _=>cases e
      | c i =>
        exfalso
        unfold view at e
        dsimp only at e
        split at e <;> cases e
    · exact h.elim
  · exact h.elim
theorem pp_con {x:Str} {cs:List Nat} {j} (h:x.cps.toList=cs):PP X call gv xr (.Constant (.str x) j pos) (.con (.str cs)):=by
  intro pins s σ H cm m env acc Q I hE M ho
  rw [ev] at ho
  obtain ⟨t,a,e1,e2,hl,q⟩:=Zij (show OkR X.K (fmtW acc (.t (.str cs)) m) xr cm m H Q from ho) M
  cases e1
  cases e2
  rw [Zbl h]
  exact Calls.Constant_str ⟨H,cm,m,cs,_,I.tok _,.refl,M,rfl,hl,q⟩
theorem pp_fmt (h:PE X e (tE X.K call gv xr ea)):PP X call gv xr (.FormattedValue e (-1) none pos) ea:=by
  intro pins s σ H cm m env acc Q I hE M ho
  refine FormattedValue_plain (thn (h pins s σ H (fun v H1=>∃ cm1 m1 w,Ext cm m H cm1 m1 H1∧MemR X.K cm1 m1 H1∧RW X.K cm1 m1 H1 w v∧OkR X.K (fmtW acc w m1) xr cm1 m1 H1 Q) I ⟨env,cm,m,hE,M,ho.bind.mono fun w cm1 m1 H1 x1 M1 o1 v rv=>⟨cm1,m1,w,x1,M1,rv,o1⟩⟩) ?_)
  rintro u s1 ⟨v,H1,I1,ru,cm1,m1,w,x1,M1,rv,o1⟩
  obtain ⟨t,a,rfl,e2,hl,q⟩:=Zij o1 M1
  have hz:=ZG
  cases t with
  | str cs =>
    cases e2
    cases RT.vstr rv
    obtain ⟨tk,rfl⟩:=ru
    exact formatField_str (fun t' k'=>⟨H1,cm1,m1,a,t',I1.tok _,x1,M1,rfl,hl,q⟩) (by show a.toArray.size≤_; rw [List.size_toArray]; omega)
  | int i =>
    have e2:(if i.natAbs < 2 ^ 250 then some (decI i) else none)=some a:=e2
    split at e2 <;> cases e2
    rename_i hc
    cases RT.vint rv
    obtain ⟨tk,rfl⟩:=ru
    have hd:i.natAbs.log2 < 1920:=by
      by_cases h0:i.natAbs=0
      · rw [h0]; decide
      · have:i.natAbs.log2 < 250:=(Nat.log2_lt h0).mpr hc
        omega
    refine formatField_int_small hd ⟨H1,cm1,m1,decI i,s1.toks + 1,I1.tok _,x1,M1,?_,hl,q⟩
    show Value.str _ _=Value.str _ _
    congr 1
  | _=>cases e2
noncomputable def PFs (X:Cx) (call:Nat→List W→Mem→Res W) (gv:List T) (xr:XR):List Expr→Es→Prop
  | [],.nil=>True
  | p :: ps,.cons e es=>PP X call gv xr p e∧PFs X call gv xr ps es
  | _,_=>False
theorem pf_nil:PFs X call gv xr [] .nil:=True.intro
theorem Zlg (h1:PP X call gv xr e ea) (h2:PFs X call gv xr es eas):PFs X call gv xr (e :: es) (.cons ea eas):=⟨h1,h2⟩
theorem Zfz {pins:List (Addr×Obj)} {σ:L2.St} {env:Env} {Q:VK}:∀ {ps:List Expr} {eas:Es} {s:Shared} {H:Hp} {cm:List Addr} {m:Mem} {acc:List Nat},PFs X call gv xr ps eas→Inv X pins σ H s→EnvR X.K cm m H env σ→MemR X.K cm m H→acc.length≤lim →
    OkR X.K ((evf call gv eas acc env m).bind fun cs m=>.ok (W.t (.str cs)) m) xr cm m H (fun w cm' m' H'=>∀ v,RW X.K cm' m' H' w v→Q v H')→wpAny (model X.prog X.w) X.A (joinParts ⟨acc.toArray⟩ (evalEach ps X.env)) (EP X pins σ Q) X.xe s
  | [],.nil,s,H,cm,m,acc,_,I,hE,M,hl,ho=>by
    rw [evf] at ho
    have hz:=ZG
    exact joinParts_nil ⟨.str ⟨acc.toArray⟩,H,I.tok _,⟨_,rfl⟩,ans ho M (.str acc)⟩ (by show acc.toArray.size≤_; rw [List.size_toArray]; omega)
  | p :: ps,.cons e es,s,H,cm,m,acc,hp,I,hE,M,hl,ho=>by
    rw [evf,Res.assoc] at ho
    have e0:((ev call gv e env m).bind fun w m=>((fmtW acc w m).bind fun acc m=>evf call gv es acc env m).bind fun cs m=>.ok (W.t (.str cs)) m)=((ev call gv e env m).bind fun w m=>fmtW acc w m).bind fun acc m=>(evf call gv es acc env m).bind fun cs m=>.ok (W.t (.str cs)) m:=by
      rw [Res.assoc]
      congr 1
      funext w m
      rw [Res.assoc]
    rw [e0] at ho
    show wpAny _ _ (joinParts ⟨acc.toArray⟩ (eval p X.env :: evalEach ps X.env)) _ _ _
    refine joinParts_cons (thn (hp.1 pins s σ H cm m env acc _ I hE M ho.bind) ?_)
    rintro v s1 ⟨H1,cm1,m1,a,tk,I1,x1,M1,rfl,hl1,o1⟩
    have hz:=ZG
    have hap:(⟨acc.toArray⟩:Str)++(⟨a.toArray⟩:Str)=⟨(acc++a).toArray⟩:=by
      show (⟨acc.toArray++a.toArray⟩:Str)=_
      simp
    refine ⟨?_,?_⟩
    · rw [hap]
      show (acc++a).toArray.size≤_
      rw [List.size_toArray,List.length_append]; omega
    · rw [hap]
      exact Zfz hp.2 I1 (hE.ext x1 M M1) M1 (by rw [List.length_append]; exact hl1) o1
  | [],.cons _ _,_,_,_,_,_,hp,_,_,_,_,_=>hp.elim
  | _ :: _,.nil,_,_,_,_,_,hp,_,_,_,_,_=>hp.elim
theorem Zls {ps:List Expr} (h:PFs X call gv xr ps eas) (h2:2≤ps.length):PE X (.JoinedStr ps pos) (tE X.K call gv xr (.fst eas)):=by
  rintro pins s σ H Q I ⟨env,cm,m,hE,M,ho⟩
  rw [ev] at ho
  match ps,h2,h with
  | p1 :: p2 :: r,_,h=>exact JoinedStr_many (Zfz (acc:=[]) h I hE M (Nat.zero_le _) ho)
theorem Zjc {sts:List Stmt}:PSs X sts (tS X.K call gv xr n .stk):=by
  rintro pins s σ H D I ⟨hl,env,cm,m,hE,M,ho⟩
  rw [ex] at ho
  exact ho.elim
theorem XQ {c:Nat}:∀ {ws:List (List Nat)},ws≠[]→(∀ w∈ws,c ∉ w)→Jh c (Zc [c] ws)=ws
  | [],h,_=>absurd rfl h
  | [w],h0,hc=>by
    show Jh c w=[w]
    have hw:=hc w (List.mem_singleton.mpr rfl)
    clear hc h0
    induction w with
    | nil=>rfl
    | cons a r ih =>
      rw [Jh,if_neg (fun z=>hw (by rw [z]; exact List.mem_cons_self)),ih fun z=>hw (List.mem_cons_of_mem _ z)]
  | w :: v :: r,h0,hc=>by
    have ih:=XQ (c:=c) (ws:=v :: r) (by simp) fun u hu=>hc u (List.mem_cons_of_mem _ hu)
    show Jh c (w++[c]++Zc [c] (v :: r))=_
    have hw:=hc w List.mem_cons_self
    clear hc h0
    induction w with
    | nil =>
      show Jh c (c :: Zc [c] (v :: r))=_
      rw [Jh,if_pos rfl,ih]
    | cons a w ihw =>
      show Jh c (a :: (w++[c]++Zc [c] (v :: r)))=_
      rw [Jh,if_neg (fun z=>hw (by rw [z]; exact List.mem_cons_self)),ihw fun z=>hw (List.mem_cons_of_mem _ z)]
theorem Zi4 (c:Nat) (cs:List Nat):Txt.split ⟨cs.toArray⟩ ⟨#[c]⟩=(Jh c cs).map fun w=>(⟨w.toArray⟩:Str):=by
  have h1:=StrLaws.join_split ⟨cs.toArray⟩ ⟨#[c]⟩
  have h2:=StrLaws.split_free ⟨cs.toArray⟩ c
  have h3:=split_pos (⟨cs.toArray⟩:Str) ⟨#[c]⟩
  generalize hq:Txt.split ⟨cs.toArray⟩ ⟨#[c]⟩=ps at h1 h2 h3
  have hm:ps=(ps.map fun p=>p.cps.toList).map fun w=>(⟨w.toArray⟩:Str):=by
    rw [List.map_map]
    exact (List.map_id' (l:=ps)).symm.trans (List.map_congr_left fun x _=>by cases x; simp)
  have hj:Zc [c] (ps.map fun p=>p.cps.toList)=cs:=by
    have:=ZeV [c] (ps.map fun p=>p.cps.toList)
    rw [← hm] at this
    have e2:(⟨cs.toArray⟩:Str)=⟨(Zc [c] (ps.map fun p=>p.cps.toList)).toArray⟩:=h1.symm.trans this
    have e3:=congrArg (fun z:Str=>z.cps.toList) e2
    simpa using e3.symm
  have hs:=XQ (c:=c) (ws:=ps.map fun p=>p.cps.toList) (by
    intro z
    have:ps=[]:=List.map_eq_nil_iff.mp z
    rw [this] at h3
    simp at h3) (fun w hw=>by
    obtain ⟨q,hq,rfl⟩:=List.mem_map.mp hw
    exact h2 q hq)
  rw [hj] at hs
  rw [hs]
  exact hm
theorem Zhg {prog:Program} {w:World} {A:Around} {E:Value→Shared→Prop} {s:Shared} {Q:Value→Shared→Prop} {x y:Str} {t u:Tok} (hy:(y.length == 0)=false) (hz:x.length + 2≤sizeLine)
    (h:∀ (l:List (Str×Tok)) (k:Nat),l.map (·.1)=Txt.split x y→Q (.ref s.heap.objs.size) { s with heap:=s.heap.push { cls:=.type "list",data:=.seq (strValues l).toArray },toks:=k }) :
    wpAny (model prog w) A (PySem.call (.builtin "str.split") [.str x t,.str y u]) Q E s:=by
  have many:(Builtin.Str.partsBetween x (Builtin.Str.occurrences x y 0 x.length (x.length + 1)) y.length).length≤sizeLine:=by
    have:=StrLaws.occ_length_le x y 0 x.length (x.length + 1)
    rw [length_partsBetween]; omega
  by_cases h1:(decide (x.length < y.length) || decide (Builtin.Str.strKind x < Builtin.Str.strKind y))=true
  · refine call_meets F.slot_str_split (typeIs_str _ _ _) F.entry_str_split (F.args_str_split_2 _ _) (meets_str_split_cannot_occur x y t u h1) ?_
    exact h [(x,t)] s.toks (if_pos h1).symm
  · have g1:=Bool.eq_false_iff.mpr h1
    by_cases h2:(Builtin.Str.occurrences x y 0 x.length (x.length + 1)).isEmpty=true
    · refine call_meets F.slot_str_split (typeIs_str _ _ _) F.entry_str_split (F.args_str_split_2 _ _) (meets_str_split_not_found x y t u g1 hy h2) ?_
      exact h [(x,t)] s.toks ((if_neg h1).trans (if_pos h2)).symm
    · have g2:=Bool.eq_false_iff.mpr h2
      refine call_meets F.slot_str_split (typeIs_str _ _ _) F.entry_str_split (F.args_str_split_2 _ _) (meets_str_split_sep x y t u g1 hy g2 (by omega) many) ?_
      have q:=h (numbered s.toks (Builtin.Str.partsBetween x (Builtin.Str.occurrences x y 0 x.length (x.length + 1)) y.length)) (s.toks + (Builtin.Str.partsBetween x (Builtin.Str.occurrences x y 0 x.length (x.length + 1)) y.length).length) ((numbered_texts _ _).trans ((if_neg h1).trans (if_neg h2)).symm)
      rw [← strsFrom_eq] at q
      exact q
theorem Zbm:∀ {l:List (Str×Tok)} {xs:List Str},l.map (·.1)=xs→Vals (xs.map V.str) (strValues l)
  | [],_,e=>by cases e; exact .nil
  | q :: l,_,e=>by cases e; exact .cons ⟨q.2,rfl⟩ (Zbm rfl)
theorem Zfm:∀ (ws:List (List Nat)),RTs K cm m H (ws.map T.str) (ws.map fun w=>V.str ⟨w.toArray⟩)
  | []=>.nil
  | w :: ws=>.cons (.str w) (Zfm ws)
theorem Zcf (c:Nat):∀ x:List Nat,(Jh c x).length≤x.length + 1
  | []=>by rw [Jh]; simp
  | a :: r=>by
    have ih:=Zcf c r
    rw [Jh]
    split
    · simp only [List.length_cons]; omega
    · split
      · rename_i e; rw [e] at ih; simp only [List.length_cons] at ih ⊢; omega
      · simp only [List.length_cons,List.length_nil]; omega
theorem ZhV:MtR X "str.split" (rM X.K xr .split):=by
  rintro pins s σ H x xs v us Q I rx rs ⟨cm,m,w,ws,M,rw',rws,ho⟩
  obtain ⟨tw,ts,t,q1,q2,e,hz9⟩:=Zkx (b:=.split) ho
  clear ho
  unfold mthT at e
  dsimp only at e
  split at e
  · rename_i cs
    split at e
    · rename_i c
      split at e <;> cases e
      rename_i hl
      obtain ⟨w1,rfl,e1⟩:=Zdg q2
      cases (Zg rw' q1 (fun _ z=>by cases z)).vstr
      cases rws with
      | cons r1 r0 =>
        cases r0
        cases (Zg r1 e1 (fun _ z=>by cases z)).vstr
        obtain ⟨tt,rfl⟩:=rx
        obtain ⟨u1,rfl,tu,rfl⟩:=vals1 rs
        have hz:=ZG
        unfold lim at hz
        refine Zhg rfl (by show cs.toArray.size + 2≤_; rw [List.size_toArray]; omega) fun l k' el=>?_
        rw [Zi4 c cs] at el
        have hv:=Zbm el
        rw [List.map_map] at hv
        have hlen:=Zcf c cs
        have I':=I.lnew (t':=k') hv (by rw [List.length_map]; omega)
        exact ⟨.ref s.heap.objs.size,_,I',rfl,ZcI hz9 M (Zfm _) I.fresh⟩
    · cases e
  · cases e
theorem ZkU {w:W} {v:V} (r:RW K cm m H w v) (h:tyM .split w m=true):tyV K "str" v H:=by
  have h':(match view w m with | some (.str _)=>true | _=>false)=true:=h
  split at h'
  · rename_i cs e
    cases (Zg r e (fun _ z=>by cases z)).vstr
    rfl
  · cases h'
theorem Zhx {o:Expr} {apos cpos:Pos} (ho:PE X o (tE X.K call gv xr ea)) (ha:PA X [e] (tA X.K call gv xr eas))
    (hbase:attributeBase o "split" X.env (eval o X.env)=eval o X.env:=by rfl)
    (hline:(apos.endLine == cpos.line)=true:=by rfl) (hs:notStar e=true:=by rfl) :
    PE X (.Call (.Attribute o "split" apos) [e] [] cpos) (tE X.K call gv xr (.mth .split ea eas)):=by
  refine PE.mono (Zlz PySem.F.plainAttrs_str PySem.F.slot_str_split PySem.F.type_str_split (ZhV (xr:=xr)) ho ha hbase (few1 hs) hline (J9 hs) (Zbn rfl)) ?_
  rintro σ H Q ⟨env,cm,m,hE,M,hq⟩
  rw [ev] at hq
  refine ⟨env,cm,m,hE,M,hq.bind.mono fun w cm1 m1 H1 x1 M1 o1 v rv=>?_⟩
  obtain ⟨ht,o1⟩:=ZbJ o1
  refine ⟨ZkU rv ht,env,cm1,m1,hE.ext x1 M M1,M1,o1.bind.mono fun ws cm2 m2 H2 x2 M2 o2 vs rvs=>?_⟩
  exact ⟨cm2,m2,w,ws,M2,rv.ext x2 M1 M2,rvs,o2⟩
end
end Mi
end
section
namespace Mi
open PySem PySem.Spec PyProof.Rows L2
noncomputable def Zg0 (P:Program) (w:World) (K:PySem.W.Frag) (mg:Str→Option Value) (x:Str) (ks:List Key) (ts:List T):Prop :=
  ∃ (a:Addr) (us:List Value) (ys:List V),mg x=some (.ref a)∧(∀ h:Heap,K.In h→h.DictOf (Z5 P w) a (ks.zip us))∧(a == sysModules)=false∧Vals ys us∧ks.length=us.length∧∀ cm m H,RTs K cm m H ts ys
section
variable {K:PySem.W.Frag} {cm cm':List Addr} {m m':Mem} {H H':Hp} {xr:XR} {X:Cx} {call:Nat→List W→Mem→Res W} {gv:List T}
variable {a b c e:Expr} {es:List Expr} {ea eb ec:E} {eas:Es} {pos p p2:Pos} {rest:List Stmt} {k:Nat} {n:Nat}
theorem Zh4:∀ {ks:List Key} {ys:List V} {us:List Value},Vals ys us→KV (ks.zip ys) (ks.zip us)
  | [],_,_,_=>.nil
  | _ :: _,_,_,.nil=>.nil
  | _ :: _,_,_,.cons r rs=>.cons ⟨rfl,r⟩ (Zh4 rs)
theorem ZbN {o:Option T} {f:List Key→List T→Option T} {t:T} (h:gDct o f=some t):∃ ks ts,o=some (.dct ks ts)∧f ks ts=some t:=by
  unfold gDct at h
  split at h
  · exact ⟨_,_,rfl,h⟩
  · cases h
theorem Zdh {w:W} {t:T} {kk:Key} {v:V} (r:RW K cm m H w v) (e:view w m=some t) (hk:keyT t=some kk):v=kV kk:=by
  refine Zh7 hk (Zg r e fun ts z=>?_)
  subst z
  cases hk
theorem Zhz {x:Str} {ks:List Key} {ts:List T} (hg:Gl X x) (hk:gv[k]? = some (.dct ks ts)) (ok:Zg0 X.prog X.w X.K X.mg x ks ts) (hb:PE X b (tE X.K call gv xr eb)) (hs:NoSl b) (hd:(x == ("__debug__" : Str))=false):PE X (.Subscript (.Name x p) b pos) (tE X.K call gv xr (.gdg k eb)):=by
  obtain ⟨a,us,ys,h1,h2,h3,h4,h5,h6⟩:=ok
  rintro pins s σ H Q I ⟨env,cm,m,hE,M,ho⟩
  rw [ev] at ho
  refine Zhc PySem.F.slot_dict_getitem.lookup hs (ZcZ I hg h1 (thn (hb pins s σ H (fun v H1=>∃ cm1 m1 w,MemR X.K cm1 m1 H1∧RW X.K cm1 m1 H1 w v∧OkR X.K (pur ((view w m1).bind fun x=>gDct gv[k]? fun ks vs=>(keyT x).bind (Qn ks vs)) m1) xr cm1 m1 H1 fun w cm' m' H'=>∀ v,RW X.K cm' m' H' w v→Q v H') I ⟨env,cm,m,hE,M,ho.bind.mono fun w cm1 m1 H1 x1 M1 o1 v rv=>⟨cm1,m1,w,M1,rv,o1⟩⟩) ?_) hd)
  rintro u s1 ⟨v,H1,I1,ru,cm1,m1,w,M1,rv,o1⟩
  obtain ⟨t,e,o1⟩:=Q0 o1
  have dd:=h2 _ I1.kIn
  refine ⟨dd.typeIs,?_⟩
  cases q:view w m1 with
  | none=>rw [q] at e; cases e
  | some tw =>
    rw [q] at e
    obtain ⟨ks',ts',e1,e2⟩:=ZbN (show gDct gv[k]? (fun ks vs=>(keyT tw).bind (Qn ks vs))=some t from e)
    rw [hk] at e1
    cases e1
    cases q2:keyT tw with
    | none=>rw [q2] at e2; cases e2
    | some kk =>
      rw [q2] at e2
      have e2:Qn ks ts kk=some t:=e2
      cases Zdh rv q q2
      rcases Zba (ks:=ks) (h6 cm1 m1 H1) kk with ⟨t',v',f1,f2,f3⟩ | ⟨f1,_⟩
      · rw [e2] at f1; cases f1
        obtain ⟨u',g1,g2⟩:=RelO.some_of (v:=v') (o:=valueAt (ks.zip us) kk) (by rw [← f2]; exact (Zh4 h4).val kk)
        exact wpAny_getItem_of (Zgy ru) dd.mapOf g1 ⟨v',H1,I1.tok _,g2,ans o1 M1 f3⟩
      · rw [e2] at f1; cases f1
noncomputable def ZlN (neg:Bool):CmpOp:=if neg then .NotIn else .In
theorem ZlD {x:Str} {neg:Bool} {ks:List Key} {ts:List T} (hg:Gl X x) (hk:gv[k]? = some (.dct ks ts)) (ok:Zg0 X.prog X.w X.K X.mg x ks ts) (hb:PE X b (tE X.K call gv xr eb)) (hd:(x == ("__debug__" : Str))=false):PC X (ZlN neg) b (.Name x p) (tE X.K call gv xr (.gdn k neg eb)):=by
  obtain ⟨a,us,ys,h1,h2,h3,h4,h5,h6⟩:=ok
  rintro pins s σ H Q I ⟨env,cm,m,hE,M,ho⟩
  rw [ev] at ho
  refine thn (hb pins s σ H (fun v H1=>∃ cm1 m1 w,MemR X.K cm1 m1 H1∧RW X.K cm1 m1 H1 w v∧OkR X.K (pur ((view w m1).bind fun x=>gDct gv[k]? fun ks vs=>(keyT x).map fun k=>T.bl (if neg then !(Qn ks vs k).isSome else (Qn ks vs k).isSome)) m1) xr cm1 m1 H1 fun w cm' m' H'=>∀ v,RW X.K cm' m' H' w v→Q v H') I ⟨env,cm,m,hE,M,ho.bind.mono fun w cm1 m1 H1 x1 M1 o1 v rv=>⟨cm1,m1,w,M1,rv,o1⟩⟩) ?_
  rintro u s1 ⟨v,H1,I1,ru,cm1,m1,w,M1,rv,o1⟩
  refine ZcZ I1 hg h1 ?_ hd
  obtain ⟨t,e,o1⟩:=Q0 o1
  have dd:=h2 _ I1.kIn
  cases q:view w m1 with
  | none=>rw [q] at e; cases e
  | some tw =>
    rw [q] at e
    obtain ⟨ks',ts',e1,e2⟩:=ZbN (show gDct gv[k]? (fun ks vs=>(keyT tw).map fun k=>T.bl (if neg then !(Qn ks vs k).isSome else (Qn ks vs k).isSome))=some t from e)
    rw [hk] at e1
    cases e1
    cases q2:keyT tw with
    | none=>rw [q2] at e2; cases e2
    | some kk =>
      rw [q2] at e2
      cases e2
      cases Zdh rv q q2
      have hv:(valueAt (ks.zip us) kk).isSome=(Qn ks ts kk).isSome:=by
        have r:=(Zh4 (ks:=ks) h4).val kk
        rcases Zba (ks:=ks) (h6 cm1 m1 H1) kk with ⟨t',v',f1,f2,f3⟩ | ⟨f1,f2⟩
        · rw [f2] at r
          obtain ⟨u',g1,_⟩:=RelO.some_of r
          rw [g1,f1]; rfl
        · rw [f2] at r
          rw [RelO.none_of r,f1]; rfl
      cases neg with
      | true =>
        refine wpAny_notIn_of (Zgy ru) h3 dd.mapOf ?_
        rw [hv]
        exact ⟨.bl _,H1,I1.tok _,rfl,ans o1 M1 (.bl _)⟩
      | false =>
        refine wpAny_in_of (Zgy ru) h3 dd.mapOf ?_
        rw [hv]
        exact ⟨.bl _,H1,I1.tok _,rfl,ans o1 M1 (.bl _)⟩
theorem gdn_bl {env:Env} {m m':Mem} {neg:Bool} {w:W} (h:ev call gv (.gdn k neg eb) env m = .ok w m'):∃ k,w = .t (.bl k):=by
  rw [ev] at h
  obtain ⟨x,m1,_,h⟩:=Zw h
  unfold pur at h
  split at h
  · rename_i t e
    obtain ⟨rfl,rfl⟩:W.t t=w∧m1=m':=by cases h; exact ⟨rfl,rfl⟩
    cases q:view x m1 with
    | none=>rw [q] at e; cases e
    | some tw =>
      rw [q] at e
      obtain ⟨ks',ts',e1,e2⟩:=ZbN e
      cases q2:keyT tw with
      | none=>rw [q2] at e2; cases e2
      | some kk=>rw [q2] at e2; cases e2; exact ⟨_,rfl⟩
  · cases h
theorem Zk5 {x:Str} {neg:Bool} {ks:List Key} {ts:List T} (hg:Gl X x) (hk:gv[k]? = some (.dct ks ts)) (ok:Zg0 X.prog X.w X.K X.mg x ks ts) (hb:PE X b (tE X.K call gv xr eb)) (hd:(x == ("__debug__" : Str))=false) (hm:behindInMarks (ZlN neg) (.Name x p)=false):PT X (.Compare b [ZlN neg] [.Name x p] pos) (tT X.K call gv xr (.gdn k neg eb)) :=
  Zez (f:=fun _ _=>.stuck) (te:=tE X.K call gv xr (.gdn k neg eb)) (PT.mono (pt_cmp (ZlD (neg:=neg) hg hk ok hb hd) hm) fun σ H Q q=>q) (fun env m w m' h=>gdn_bl h) (fun σ H Q q=>q)
noncomputable def ZgI:Es→Nat
  | .nil=>0
  | .cons _ es=>ZgI es + 1
noncomputable def ZkV (K:PySem.W.Frag) (call:Nat→List W→Mem→Res W) (gv:List T) (xr:XR):List (List Nat)→Es→List (TE×TE)
  | x :: xs,.cons e es=>(tC (.str ⟨x.toArray⟩),tE K call gv xr e) :: ZkV K call gv xr xs es
  | _,_=>[]
theorem ZdD {σ:L2.St} {env:Env}:∀ {ks:List (List Nat)} {vs:Es} {cm:List Addr} {m:Mem} {H:Hp} {Q:List (V×V)→Hp→Prop} {R:List W→List Addr→Mem→Hp→Prop},EnvR K cm m H env σ→MemR K cm m H→OkR K (evs call gv vs env m) xr cm m H R →
    (∀ ws cm' m' H',Ext cm m H cm' m' H'→MemR K cm' m' H'→R ws cm' m' H'→∀ ys,RWs K cm' m' H' ws ys→Q ((ks.map fun k=>V.str ⟨k.toArray⟩).zip ys) H')→ZgI vs=ks.length→Zfg (ZkV K call gv xr ks vs) σ H Q
  | [],vs,cm,m,H,Q,R,hE,M,ho,hq,hl=>by
    cases vs with
    | nil =>
      rw [evs] at ho
      exact hq [] cm m H .refl M (ho.now M) [] .nil
    | cons e es=>simp [ZgI] at hl
  | k :: ks,.nil,cm,m,H,Q,R,hE,M,ho,hq,hl=>by simp [ZgI] at hl
  | k :: ks,.cons e es,cm,m,H,Q,R,hE,M,ho,hq,hl=>by
    rw [evs] at ho
    refine ⟨env,cm,m,hE,M,ho.bind.mono fun w cm1 m1 H1 x1 M1 o1 v rv=>?_⟩
    refine ZdD (ks:=ks) (hE.ext x1 M M1) M1 o1.bind (fun ws cm2 m2 H2 x2 M2 r2 ys ry=>?_) (by simpa [ZgI] using hl)
    exact hq (w :: ws) cm2 m2 H2 (x1.trans x2) M2 (r2.now M2) (v :: ys) (.cons (rv.ext x2 M1 M2) ry)
theorem ZdR:∀ {more kvs:List (Key×V)},((kvs++more).map (·.1)).Nodup→ZaV kvs more=kvs++more
  | [],kvs,_=>by simp [ZaV]
  | q :: more,kvs,h=>by
    have hn:(kvs.any fun kv=>decide (kv.1=q.1))=false:=by
      rw [List.any_eq_false]
      intro kv hkv z
      have z:=of_decide_eq_true z
      rw [List.map_append,List.nodup_append] at h
      exact h.2.2 kv.1 (List.mem_map_of_mem hkv) q.1 (by simp) z
    have e:putK kvs q.1 q.2=kvs++[q]:=by unfold putK; rw [hn]; rfl
    show ZaV (putK kvs q.1 q.2) more=_
    rw [e,ZdR (by rw [List.append_assoc]; exact h),List.append_assoc]
    rfl
theorem Zcs {ks:List (List Nat)} (h:ks.Nodup):(ks.map fun k=>(Sum.inr ⟨k.toArray⟩:Key)).Nodup:=by
  refine List.Pairwise.map _ (fun a b hne z=>hne ?_) h
  have:=congrArg (fun q:Key=>match q with | .inr x=>x.cps.toList | .inl _=>[]) z
  simpa using this
theorem Zeq {α β:Type}:∀ {xs:List α} {ys:List β},xs.length=ys.length→(xs.zip ys).map (·.1)=xs
  | [],_,_=>rfl
  | _ :: _,[],h=>by simp at h
  | x :: xs,y :: ys,h=>by simp [Zeq (xs:=xs) (ys:=ys) (by simpa using h)]
theorem Zkj:∀ (ks:List (List Nat)) (ys:List V),(ks.map fun k=>V.str ⟨k.toArray⟩).zip ys=((ks.map fun k=>(Sum.inr ⟨k.toArray⟩:Key)).zip ys).map fun kv=>(kV kv.1,kv.2)
  | [],_=>rfl
  | _ :: _,[]=>rfl
  | k :: ks,y :: ys=>by simp [Zkj ks ys,kV]
noncomputable def tDispX (trs:List (TE×TE)):TE:=fun σ H Q=>∀ p φ,H p=none→Zfg trs σ (upd H p (.ext φ)) fun ps H2=>H2 p=some (.ext φ)∧∃ kvs:List (Key×V),ps=kvs.map (fun kv=>(kV kv.1,kv.2))∧kvs.length≤15∧Q (.ref p) (upd H2 p (.dK (ZaV [] kvs)))
theorem ZjD {keys:List (Option Expr)} {values:List Expr} {trs:List (TE×TE)} (h:PPs X pos keys values trs) (hall:keys.all (·.isSome)=true) (hl:keys.length=values.length) (h0:keys≠[]) (h15:keys.length≤15):PE X (.Dict keys values pos) (tDispX trs):=by
  intro pins s σ H Q I q
  have hn:=I.hok.fresh (Nat.le_refl s.heap.objs.size)
  have hok0:QZ X.prog X.w (upd H s.heap.objs.size (.dK [])) (s.heap.push { cls:=.type "dict",data:=.dict #[] }) s.heap.objs.size (.dK []):=Zj5 s.heap I.big
  obtain ⟨_,hd0,vs0,r0,dd0⟩:=hok0
  cases r0
  have I1:=I.laid (a:=s.heap.objs.size) (o:=.ext fun h=>h.DictOf (Z5 X.prog X.w) s.heap.objs.size ([]:List (Key×Value))) (h':=s.heap.push { cls:=.type "dict",data:=.dict #[] }) (t':=s.toks) (fun _ _ q=>Heap.get?_push_of_some _ q) (Nat.le_refl _)
    ⟨dd0,⟨_,Heap.get?_push_size _ rfl⟩,fun h1 h2 ⟨o,es,ep,g1,g2⟩ k=>⟨o,es,ep,k o g1,g2⟩⟩
  refine wpAny_Dict_walk (knd:=Z5 X.prog X.w) hall hl h0 h15 (thn (h pins _ σ _ _ I1 (q _ _ hn)) fun ws s2 ⟨ps,H2,I2,rel,e,kvs,ep,lk,q2⟩=>?_)
  subst ep
  obtain ⟨rs,c,rk⟩:=ZcE (P:=X.prog) (w:=X.w) rel
  obtain ⟨dd,_,_⟩:=(show QZ X.prog X.w H2 s2.heap s.heap.objs.size (.ext fun h=>h.DictOf (Z5 X.prog X.w) s.heap.objs.size ([]:List (Key×Value))) from I2.hok _ _ e)
  refine ⟨rs,c,dd,fun h' dd' hs=>⟨.ref s.heap.objs.size,_,?_,rfl,q2⟩⟩
  have hz:(ZaV [] kvs).length≤sizeLine:=by
    have h1:=Zag kvs []
    rw [List.length_nil] at h1
    rw [sizeLine_eq]; omega
  have he:∃ q,h'.get? s.heap.objs.size=some q:=let ⟨q,_,_,hq,_⟩:=dd'; ⟨q,hq⟩
  exact Zmi I2 (by rw [e]; exact True.intro) hs he (dk_new hz hd0 (rk.merge .nil) dd')
theorem RT.off {p:Addr} {φ:Heap→Prop} {o:HO} (hp:H p=some (.ext φ)) {t:T} {v:V} (h:RT K cm m H t v):RT K cm m (upd H p o) t v:=by
  have ne:∀ {a:Addr} {u:HO},H a=some u→(∀ ψ,u≠.ext ψ)→upd H p o a=some u:=fun {a u} e n=>by
    have:a≠p:=fun z=>by subst z; rw [hp] at e; cases e; exact n _ rfl
    rw [ZZ this]; exact e
  induction h with
  | non=>exact .non
  | bl b=>exact .bl b
  | int i=>exact .int i
  | str cs=>exact .str cs
  | tup q1 q2 _ ih =>
    refine .tup ?_ q2 ih
    rcases q1 with (q | ⟨o,q⟩) | q
    · exact .inl (.inl (ne q fun _ z=>by cases z))
    · exact .inl (.inr ⟨o,ne q fun _ z=>by cases z⟩)
    · exact .inr q
  | lst q1 q2 q3 _ ih=>exact .lst (ne q1 fun _ z=>by cases z) q2 q3 ih
  | dct q1 q2 q3 q4 _ ih=>exact .dct (ne q1 fun _ z=>by cases z) q2 q3 q4 ih
  | scr ns q =>
    refine .scr ns ?_
    rcases q with ⟨o,q⟩ | q
    · exact .inl ⟨o,ne q fun _ z=>by cases z⟩
    · exact .inr q
theorem Zig {α:Type} {ws:List W} {m0:Mem} {f:List T→Mem→Res α} {k:α→List Addr→Mem→Hp→Prop} (h:OkR K ((frzs ws m0).bind f) xr cm m H k):∃ ts m',frzs ws m0 = .ok ts m'∧OkR K (f ts m') xr cm m H k:=by
  cases q:frzs ws m0 with
  | stuck=>rw [q] at h; exact h.elim
  | exc x m'=>exact absurd q ZaJ
  | ok ts m'=>rw [q] at h; exact ⟨ts,m',rfl,h⟩
theorem Zlt {keys:List (Option Expr)} {values:List Expr} {ks:List (List Nat)} {vs:Es} (h:PPs X pos keys values (ZkV X.K call gv xr ks vs)) (hall:keys.all (·.isSome)=true) (hl:keys.length=values.length) (h0:keys≠[]) (h15:keys.length≤15) (hk:keys.length=ks.length) (hlen:ZgI vs=ks.length) :
    PE X (.Dict keys values pos) (tE X.K call gv xr (.dsn ks vs)):=by
  refine PE.mono (ZjD h hall hl h0 h15) ?_
  rintro σ H Q ⟨env,cm,m,hE,M,ho⟩ p φ hp
  rw [ev] at ho
  have M1:=M.new (o:=.ext φ) hp
  have X1:Ext cm m H cm m (upd H p (.ext φ)):=.new hp
  refine ZdD (hE.ext X1 M M1) M1 (OkR.shift ho.bind0 X1) (fun ws cm2 m2 H2 x2 M2 o2 ys ry=>?_) hlen
  obtain ⟨ts,m3,e3,o3⟩:=Zig o2
  obtain ⟨hc,o3⟩:=ZbJ o3
  obtain ⟨x3,M3,r3⟩:=ZaI M2 ry e3
  have hp2:=x2.keep p _ Jj (Zby M hp)
  have hly:ks.length=ys.length:=by rw [hc.1]; exact r3.length
  refine ⟨hp2.1,(ks.map fun k=>(Sum.inr ⟨k.toArray⟩:Key)).zip ys,Zkj ks ys,?_,?_⟩
  · rw [List.length_zip,List.length_map]; omega
  · have ek:(((ks.map fun k=>(Sum.inr ⟨k.toArray⟩:Key)).zip ys).map (·.1)).Nodup:=by
      rw [Zeq (by rw [List.length_map]; exact hly)]
      exact Zcs hc.2.2
    rw [ZdR (by simpa using ek),List.nil_append]
    have n3:Zt cm2 m3 p:=(x3.keep p _ hp2.1 hp2.2).2
    refine OkR.to (cm':=cm2) o3 ?_ ?_ (.ref p) ?_
    · have x23:=x2.trans x3
      refine ⟨fun i a e=>x23.pre i a (X1.pre i a e),x23.len,x23.lent,fun a o e n=>?_⟩
      have hne:a≠p:=Qu e hp
      have q:=x23.keep a o (X1.keep a o e n).1 (X1.keep a o e n).2
      exact ⟨by rw [ZZ hne]; exact q.1,q.2⟩
    · refine ⟨M3.len,M3.inj,fun i c e=>?_⟩
      obtain ⟨a,us,q1,q2,q3,q4⟩:=M3.at' i c e
      have hne:a≠p:=fun z=>by subst z; rw [hp2.1] at q2; cases q2
      exact ⟨a,us,q1,by rw [ZZ hne]; exact q2,q3,Zn (fun _ _ z=>RT.off hp2.1 z) q4⟩
    · refine RT.dct (ks:=ks.map fun k=>(Sum.inr ⟨k.toArray⟩:Key)) Jj n3 (by rw [List.length_map]; exact hly) r3.length fun i t v h1 h2=>RT.off hp2.1 (Jp r3 i t v h1 h2)
inductive Ents (w:World):List (List Nat)→List Value→List DictEntry→Prop where
  | nil:Ents w [] [] []
  | cons {y:Str} {t:Tok} {cs:List Nat} {h:Int} {u:Value} {css:List (List Nat)} {us:List Value} {es:List DictEntry}:y.cps.toList=cs→h=hashStr w y→Ents w css us es→Ents w (cs :: css) (u :: us) (⟨h,.str y t,u⟩ :: es)
noncomputable def VT (K:PySem.W.Frag) (u:Value) (t:T):Prop:=∃ v,RelV v u∧∀ cm m H,RT K cm m H t v
inductive VTs (K:PySem.W.Frag):List Value→List T→Prop where
  | nil:VTs K [] []
  | cons {u:Value} {t:T} {us:List Value} {ts:List T}:VT K u t→VTs K us ts→VTs K (u :: us) (t :: ts)
theorem vt_str {y:Str} {t:Tok} {cs:List Nat} (h:y.cps.toList=cs):VT K (.str y t) (.str cs):=⟨.str y,⟨t,rfl⟩,fun cm m H=>by rw [Zbl h]; exact .str cs⟩
theorem VTs.get:∀ {us:List Value} {ts:List T},VTs K us ts→∃ ys,Vals ys us∧∀ cm m H,RTs K cm m H ts ys
  | _,_,.nil=>⟨[],.nil,fun _ _ _=>.nil⟩
  | _,_,.cons ⟨v,h1,h2⟩ r=>let ⟨ys,h3,h4⟩:=r.get; ⟨v :: ys,.cons h1 h3,fun cm m H=>.cons (h2 cm m H) (h4 cm m H)⟩
theorem vt_tup {a:Addr} {its:Array Value} {nn:Nat} {sl:Array (Option Value)} {ts:List T} (l:K.lookup a=some ⟨.type "tuple",none,.seq its nn,sl⟩) (hz:its.size≤sizeLine) (hs:VTs K its.toList ts):VT K (.ref a) (.tup ts):=by
  obtain ⟨ys,h1,h2⟩:=hs.get
  exact ⟨.ref a,rfl,fun cm m H=>.mtup (.inr ⟨_,its,nn,l,rfl,rfl,hz,h1,rfl⟩) (h2 cm m H)⟩
theorem Ents.pairs {P:Program} {w:World}:∀ {css:List (List Nat)} {us:List Value} {es:List DictEntry},Ents w css us es→(∀ e∈es,∃ k,(Z5 P w).is k e.key=true∧e.hash=(Z5 P w).hash k)∧Pairs (Z5 P w) es ((css.map fun k=>(Sum.inr ⟨k.toArray⟩:Key)).zip us)∧css.length=us.length
  | _,_,_,.nil=>And.intro (fun e he=>nomatch he) (And.intro Pairs.nil rfl)
  | _,_,_,@Ents.cons _ y t cs h u css us es e1 e2 r=>by
    obtain ⟨h1,h2,h3⟩:=Ents.pairs (P:=P) r
    refine ⟨fun e he=>?_,.cons (kv:=(.inr ⟨cs.toArray⟩,u)) ?_ rfl h2,by simp [h3]⟩
    · rcases List.mem_cons.mp he with rfl | he
      · exact ⟨.inr y,ZbC y t,e2⟩
      · exact h1 e he
    · show ZeU (.inr ⟨cs.toArray⟩) (.str y t)=true
      rw [← Zbl e1]
      exact ZbC y t
theorem Zd2 {P:Program} {w:World} {mg:Str→Option Value} {x:Str} {a:Addr} {es:Array DictEntry} {nn:Nat} {css:List (List Nat)} {us:List Value} {ts:List T} (h:mg x=some (.ref a)) (l:K.lookup a=some ⟨.type "dict",none,.dict es nn,#[]⟩) (hz:(a == sysModules)=false)
    (he:Ents w css us es.toList) (nd:css.Nodup) (hv:VTs K us ts):Zg0 P w K mg x (css.map fun k=>.inr ⟨k.toArray⟩) ts:=by
  obtain ⟨ys,h1,h2⟩:=hv.get
  obtain ⟨p1,p2,p3⟩:=he.pairs (P:=P)
  refine ⟨a,us,ys,h,fun hh hK=>⟨_,es,nn,hK a _ l,⟨rfl,rfl,rfl⟩,rfl,fun e hm=>p1 e (Array.mem_toList_iff.mpr hm),p2,?_⟩,hz,h1,by rw [List.length_map]; exact p3,h2⟩
  rw [Zeq (by rw [List.length_map]; exact p3)]
  exact Zcs nd
end
end Mi
end
section
namespace Mi
open PySem PySem.Spec PyProof.Rows L2
theorem ZeO:∀ (ns:List Int) (n:Int),n≤maxI n ns∧(∀ x∈ns,x≤maxI n ns)∧maxI n ns∈n :: ns
  | [],n=>⟨Int.le_refl _,fun x hx=>by simp at hx,by simp [maxI]⟩
  | a :: r,n=>by
    obtain ⟨h1,h2,h3⟩:=ZeO r (if n < a then a else n)
    rw [show maxI n (a :: r)=maxI (if n < a then a else n) r from rfl]
    by_cases h:n < a
    · rw [if_pos h] at h1 h2 h3 ⊢
      refine ⟨by omega,fun x hx=>?_,List.mem_cons_of_mem _ h3⟩
      rcases List.mem_cons.mp hx with rfl | hx
      · exact h1
      · exact h2 x hx
    · rw [if_neg h] at h1 h2 h3 ⊢
      refine ⟨h1,fun x hx=>?_,?_⟩
      · rcases List.mem_cons.mp hx with rfl | hx
        · omega
        · exact h2 x hx
      · rcases List.mem_cons.mp h3 with h3 | h3
        · rw [h3]; exact List.mem_cons_self
        · exact List.mem_cons_of_mem _ (List.mem_cons_of_mem _ h3)
theorem ZlR {prog:Program} {w:World} {A:Around} {E:Value→Shared→Prop} {s:Shared} {l:Addr} {vs:List Value} {n:Int} {ns:List Int} {Q:Value→Shared→Prop} (hh:A.handled=none) (hl:s.heap.IsList l vs.toArray) (hi:IntsAre vs (n :: ns))
    (h:∀ h' tk t',(∀ b o,s.heap.get? b=some o→h'.get? b=some o)→Q (.int (maxI n ns) t') { s with heap:=h',toks:=tk }):wpAny (model prog w) A (PySem.call (.builtin "max") [.ref l]) Q E s:=by
  obtain ⟨xs,hx⟩:=hi.allInts.items
  have e1:n :: ns=xs.toList.map (·.1):=by
    rw [← nums_intItems,← hx]
    exact (show numsOf vs.toArray.toList=n :: ns from hi.numsOf).symm
  have hsz:xs.size=ns.length + 1:=by
    have:=congrArg List.length e1
    simpa using this.symm
  have num:∀ j,j < xs.size→numAt xs j=(n :: ns).getD j 0:=fun j hj=>by
    rw [e1]
    simp [numAt,List.getD]
  refine max_intList hh (hx ▸ hl:s.heap.IsList l (intItems xs)) (by omega) fun v h' tk hv hk=>?_
  obtain ⟨t,rfl⟩:=intItems_at hv
  obtain ⟨b1,b2⟩:=argBest_gt (numAt xs) (xs.size - 1)
  obtain ⟨m1,m2,m3⟩:=ZeO ns n
  have key:numAt xs (argBest (fun i j=>decide (numAt xs i > numAt xs j)) (xs.size - 1))=maxI n ns:=by
    refine Int.le_antisymm ?_ ?_
    · have hb:argBest (fun i j=>decide (numAt xs i > numAt xs j)) (xs.size - 1) < xs.size:=by omega
      rw [num _ hb]
      generalize argBest (fun i j=>decide (numAt xs i > numAt xs j)) (xs.size - 1)=b at hb
      have hb':b < (n :: ns).length:=by rw [List.length_cons]; omega
      have:(n :: ns).getD b 0∈n :: ns:=by
        rw [List.getD_eq_getElem?_getD,List.getElem?_eq_getElem hb']
        exact List.getElem_mem hb'
      rcases List.mem_cons.mp this with e | e
      · rw [e]; exact m1
      · exact m2 _ e
    · obtain ⟨j,hj,ej⟩:=List.getElem_of_mem m3
      have hj':j < xs.size:=by rw [hsz]; exact hj
      have:=b2 j (by omega)
      rw [num j hj',List.getD_eq_getElem?_getD,List.getElem?_eq_getElem hj] at this
      rw [← ej]
      exact this
  rw [key]
  exact h h' tk t hk
section
variable {K:PySem.W.Frag} {cm:List Addr} {m:Mem} {H:Hp} {xr:XR} {X:Cx} {call:Nat→List W→Mem→Res W} {gv:List T}
variable {a b c e:Expr} {es:List Expr} {ea eb ec:E} {eas:Es} {pos p p2 pos2:Pos}
theorem ZgV (hc:X.calm=true):Js X (.builtin "max") (rN X.K xr (fBlt .maxl)):=by
  rintro pins s σ H xs us Q I r ⟨cm,m,ws,M,rws,ho⟩
  obtain ⟨w,v,t,rr,rfl,rfl,rv,e,eb,ho⟩:=blt1 rws (Xq (by decide)) ho
  cases t with
  | lst ts =>
    have eb:ZhX ts=some rr:=eb
    unfold ZhX at eb
    cases q:ints? ts with
    | none=>rw [q] at eb; cases eb
    | some bs =>
      rw [q] at eb
      cases bs with
      | nil=>cases eb
      | cons b bs =>
        have eb:(if bs.length < 64 then some (T.int (maxI b bs)) else none)=some rr:=eb
        split at eb <;> cases eb
        obtain ⟨a,vs,rfl,h1,r1⟩:=ZM M rv e
        obtain ⟨u,rfl,ru⟩:=vals1 r
        cases ru
        obtain ⟨its,rv',pl,hz⟩:=I.list (.of h1)
        cases RTs.ints r1 q
        exact ZlR (I.ok.hd hc) pl.isList (intsAre_of rv') fun h' tk t' hk=>⟨.int _,H,I.kept hk,⟨_,rfl⟩,ans ho M (.int _)⟩
  | _=>cases eb
theorem Zhy (hg:Gl X "max") (hm:X.mg "max" = none) (ha:PA X (e :: es) (tA X.K call gv xr eas)) (he:notStar e=true) (hpl:es.all notStar=true) (hc:X.calm=true:=by rfl):PE X (.Call (.Name "max" p) (e :: es) [] pos) (tE X.K call gv xr (.blt .maxl eas)):=Zbs (ZgV hc) (by decide +kernel) hg hm ha (by decide) (by decide) he hpl
end
end Mi
end
section
namespace My
open Mi
noncomputable def Jd:E:=(.emit (.cmp .In (.var 0) (.gl 0)))
noncomputable def Xc:E:=(.comp 1 [] (.var 0) (.nm 0) .nil Jd)
noncomputable def Ql:S:=(.ret (.and (.cmp .Gt (.blt .len (.cons (.var 0) .nil)) (.con (.int 0))) (.and (.cmp .NotIn (.var 0) (.gl 2)) (.blt .all (.cons Xc .nil)))) .done)
noncomputable def Jc:S:=(.ret (.and (.isi (.var 0) .str) (.and (.cmp .LtE (.blt .len (.cons (.var 0) .nil)) (.gl 1)) (.call 0 (.cons (.var 0) .nil)))) .done)
noncomputable def JR:S:=(.ret (.and (.isi (.var 0) .int) (.not (.isi (.var 0) .bool))) .done)
noncomputable def Q7:S:=(.ret (.and (.call 2 (.cons (.var 0) .nil)) (.chn .LtE .LtE (.con (.int 0)) (.var 0) (.gl 3))) .done)
noncomputable def Jr:S:=(.ret (.and (.isi (.var 0) .str) (.cmp .In (.var 0) (.var 1))) .done)
noncomputable def Z6:S:=(.ife (.not (.isi (.var 0) .tuple)) (.ret (.con (.bl false)) .done) .done (.ife (.cmp .Eq (.blt .len (.cons (.var 0) .nil)) (.con (.int 1))) (.ret (.call 4 (.cons (.ix (.var 0) (.con (.int 0))) (.cons (.tup (.cons (.con (.str [97,110,121])) .nil)) .nil))) .done) .done (.ife (.cmp .Eq (.blt .len (.cons (.var 0) .nil)) (.con (.int 2))) (.ret (.and (.call 4 (.cons (.ix (.var 0) (.con (.int 0))) (.cons (.tup (.cons (.con (.str [105,115])) (.cons (.con (.str [98,121])) .nil))) .nil))) (.call 1 (.cons (.ix (.var 0) (.con (.int 1))) .nil))) .done) .done (.ife (.cmp .Eq (.blt .len (.cons (.var 0) .nil)) (.con (.int 3))) (.ret (.and (.call 4 (.cons (.ix (.var 0) (.con (.int 0))) (.cons (.tup (.cons (.con (.str [108,101,97,115,116])) (.cons (.con (.str [109,111,115,116])) .nil))) .nil))) (.and (.call 1 (.cons (.ix (.var 0) (.con (.int 1))) .nil)) (.call 3 (.cons (.ix (.var 0) (.con (.int 2))) .nil)))) .done) .done (.ret (.con (.bl false)) .done)))))
noncomputable def QH:S:=(.ret (.and (.isi (.var 0) .tuple) (.chn .LtE .LtE (.gl 6) (.blt .len (.cons (.var 0) .nil)) (.gl 7))) .done)
noncomputable def Q4:S:=(.ife (.or (.not (.isi (.var 0) .tuple)) (.cmp .NotEq (.blt .len (.cons (.var 0) .nil)) (.con (.int 2)))) (.ret (.tup .nil) .done) .done (.ife (.call 4 (.cons (.ix (.var 0) (.con (.int 0))) (.cons (.tup (.cons (.con (.str [110,111,116])) .nil)) .nil))) (.ret (.tup (.cons (.ix (.var 0) (.con (.int 1))) .nil)) .done) .done (.ife (.and (.call 4 (.cons (.ix (.var 0) (.con (.int 0))) (.cons (.tup (.cons (.con (.str [97,110,100])) (.cons (.con (.str [111,114])) .nil))) .nil))) (.call 6 (.cons (.ix (.var 0) (.con (.int 1))) .nil))) (.ret (.ix (.var 0) (.con (.int 1))) .done) .done (.ret (.tup .nil) .done))))
noncomputable def Jo:S:=(.ret (.or (.call 5 (.cons (.var 0) .nil)) (.cmp .Gt (.blt .len (.cons (.call 7 (.cons (.var 0) .nil)) .nil)) (.con (.int 0)))) .done)
noncomputable def Q3:E:=(.more (.call 7 (.cons (.var 0) .nil)) (.nm 1) .nil (.emit (.var 1)))
noncomputable def ZbY:E:=(.comp 2 [] (.var 1) (.nm 0) .nil Q3)
noncomputable def X5:E:=(.emit (.call 8 (.cons (.var 0) .nil)))
noncomputable def ZbX:E:=(.comp 1 [] (.var 1) (.nm 0) .nil X5)
noncomputable def Zy:S:=(.aug 2 .Add (.blt .len (.cons (.var 1) .nil)) (.ife (.or (.cmp .Gt (.var 2) (.gl 5)) (.not (.blt .all (.cons ZbX .nil)))) (.ret (.con (.bl false)) .done) .done (.asg 1 ZbY .done)))
noncomputable def JQ:S:=(.asg 1 (.lst (.cons (.var 0) .nil)) (.asg 2 (.con (.int 0)) (.forr (.nm 3) (.blt .range1 (.cons (.gl 4) .nil)) Zy (.ret (.cmp .Eq (.blt .len (.cons (.var 1) .nil)) (.con (.int 0))) .done))))
noncomputable def Zc2:E:=(.emit (.call 11 (.cons (.var 1) (.cons (.var 0) .nil))))
noncomputable def Zdb:E:=(.comp 1 [1] (.ix (.var 0) (.con (.int 1))) (.nm 0) .nil Zc2)
noncomputable def Z3:S:=(.asg 1 (.ix (.var 0) (.con (.int 0))) (.ife (.cmp .Eq (.var 1) (.con (.str [97,110,121]))) (.ret (.var 1) .done) .done (.ife (.cmp .In (.var 1) (.tup (.cons (.con (.str [105,115])) (.cons (.con (.str [98,121])) .nil)))) (.ret (.fst (.cons (.var 1) (.cons (.con (.str [32])) (.cons (.ix (.var 0) (.con (.int 1))) .nil)))) .done) .done (.ife (.cmp .Eq (.var 1) (.con (.str [108,101,97,115,116]))) (.ret (.fst (.cons (.ix (.var 0) (.con (.int 1))) (.cons (.con (.str [32,62,61,32])) (.cons (.ix (.var 0) (.con (.int 2))) .nil)))) .done) .done (.ife (.cmp .Eq (.var 1) (.con (.str [109,111,115,116]))) (.ret (.fst (.cons (.ix (.var 0) (.con (.int 1))) (.cons (.con (.str [32,60,61,32])) (.cons (.ix (.var 0) (.con (.int 2))) .nil)))) .done) .done (.ife (.cmp .Eq (.var 1) (.con (.str [110,111,116]))) (.ret (.fst (.cons (.con (.str [110,111,116,32])) (.cons (.call 11 (.cons (.var 1) (.cons (.ix (.var 0) (.con (.int 1))) .nil))) .nil))) .done) .done (.asg 2 (.fst (.cons (.con (.str [32])) (.cons (.var 1) (.cons (.con (.str [32])) .nil)))) (.ret (.mth .join (.var 2) (.cons Zdb .nil)) .done))))))))
noncomputable def Qw:S:=(.asg 2 (.call 10 (.cons (.var 1) .nil)) (.ife (.cmp .In (.ix (.var 1) (.con (.int 0))) (.gdg 13 (.var 0))) (.ret (.fst (.cons (.con (.str [40,32])) (.cons (.var 2) (.cons (.con (.str [32,41])) .nil)))) .done) .done (.ret (.var 2) .done)))
noncomputable def Ju:E:=(.emit (.cmp .In (.var 0) (.gl 8)))
noncomputable def QX:E:=(.comp 1 [] (.var 0) (.nm 0) .nil Ju)
noncomputable def ZX:S:=(.ife (.or (.not (.chn .LtE .LtE (.con (.int 1)) (.blt .len (.cons (.var 0) .nil)) (.gl 9))) (.not (.blt .all (.cons QX .nil)))) (.ret (.con (.bl false)) .done) .done (.ret (.or (.cmp .Eq (.var 0) (.con (.str [48]))) (.cmp .NotEq (.ix (.var 0) (.con (.int 0))) (.con (.str [48])))) .done))
noncomputable def JM:S:=(.ife (.cmp .Lt (.var 1) (.blt .len (.cons (.var 0) .nil))) (.ret (.ix (.var 0) (.var 1)) .done) .done (.ret (.con (.str [])) .done))
noncomputable def JP:S:=(.asg 2 (.call 13 (.cons (.var 0) (.cons (.var 1) .nil))) (.ife (.not (.call 0 (.cons (.var 2) .nil))) .stk .done (.ret (.var 2) .done)))
noncomputable def Q6:S:=(.asg 2 (.call 13 (.cons (.var 0) (.cons (.var 1) .nil))) (.ife (.not (.call 12 (.cons (.var 2) .nil))) .stk .done (.ret (.blt .int (.cons (.var 2) .nil)) .done)))
noncomputable def QG:S:=(.asg 2 (.call 13 (.cons (.var 0) (.cons (.var 1) .nil))) (.ife (.cmp .Eq (.var 2) (.con (.str [97,110,121]))) (.ret (.tup (.cons (.tup (.cons (.var 2) .nil)) (.cons (.bin .Add (.var 1) (.con (.int 1))) .nil))) .done) .done (.ife (.cmp .In (.var 2) (.tup (.cons (.con (.str [105,115])) (.cons (.con (.str [98,121])) .nil)))) (.ret (.tup (.cons (.tup (.cons (.var 2) (.cons (.call 14 (.cons (.var 0) (.cons (.bin .Add (.var 1) (.con (.int 1))) .nil))) .nil))) (.cons (.bin .Add (.var 1) (.con (.int 2))) .nil))) .done) .done (.asg 3 (.call 14 (.cons (.var 0) (.cons (.var 1) .nil))) (.asg 4 (.call 13 (.cons (.var 0) (.cons (.bin .Add (.var 1) (.con (.int 1))) .nil))) (.ife (.gdn 11 true (.var 4)) .stk .done (.ret (.tup (.cons (.tup (.cons (.gdg 11 (.var 4)) (.cons (.var 3) (.cons (.call 15 (.cons (.var 0) (.cons (.bin .Add (.var 1) (.con (.int 2))) .nil))) .nil)))) (.cons (.bin .Add (.var 1) (.con (.int 3))) .nil))) .done)))))))
noncomputable def Qk:S:=(.asg 3 (.call 13 (.cons (.var 0) (.cons (.var 1) .nil))) (.ife (.cmp .NotIn (.var 3) (.tup (.cons (.con (.str [110,111,116])) (.cons (.con (.str [40])) .nil)))) (.ret (.call 16 (.cons (.var 0) (.cons (.var 1) .nil))) .done) .done (.ife (.cmp .Eq (.var 2) (.gl 10)) .stk .done (.ife (.cmp .Eq (.var 3) (.con (.str [110,111,116]))) (.asgT [4,5] (.call 17 (.cons (.var 0) (.cons (.bin .Add (.var 1) (.con (.int 1))) (.cons (.bin .Add (.var 2) (.con (.int 1))) .nil)))) (.ret (.tup (.cons (.tup (.cons (.con (.str [110,111,116])) (.cons (.var 4) .nil))) (.cons (.var 5) .nil))) .done)) .done (.asgT [4,5] (.call 18 (.cons (.var 0) (.cons (.bin .Add (.var 1) (.con (.int 1))) (.cons (.bin .Add (.var 2) (.con (.int 1))) (.cons (.gl 12) .nil))))) (.ife (.cmp .NotEq (.call 13 (.cons (.var 0) (.cons (.var 5) .nil))) (.con (.str [41]))) .stk .done (.ret (.tup (.cons (.var 4) (.cons (.bin .Add (.var 5) (.con (.int 1))) .nil))) .done)))))))
noncomputable def QV:S:=(.asgT [4,5] (.call 18 (.cons (.var 0) (.cons (.bin .Add (.var 5) (.con (.int 1))) (.cons (.var 2) (.cons (.slc (.var 3) (.con (.int 1)) .hole) .nil))))) (.expr (.mth .append (.var 6) (.cons (.var 4) .nil)) .done))
noncomputable def Z2:S:=(.ife (.cmp .Eq (.blt .len (.cons (.var 3) .nil)) (.con (.int 0))) (.ret (.call 17 (.cons (.var 0) (.cons (.var 1) (.cons (.var 2) .nil)))) .done) .done (.asgT [4,5] (.call 18 (.cons (.var 0) (.cons (.var 1) (.cons (.var 2) (.cons (.slc (.var 3) (.con (.int 1)) .hole) .nil))))) (.asg 6 (.cel (.cons (.var 4) .nil)) (.whil (.cmp .Eq (.call 13 (.cons (.var 0) (.cons (.var 5) .nil))) (.ix (.var 3) (.con (.int 0)))) QV (.ife (.cmp .Eq (.blt .len (.cons (.var 6) .nil)) (.con (.int 1))) (.ret (.tup (.cons (.var 4) (.cons (.var 5) .nil))) .done) .done (.ret (.tup (.cons (.tup (.cons (.ix (.var 3) (.con (.int 0))) (.cons (.blt .tuple (.cons (.var 6) .nil)) .nil))) (.cons (.var 5) .nil))) .done))))))
noncomputable def Q5:S:=(.ife (.not (.isi (.var 0) .str)) .stk .done (.asg 1 (.mth .split (.var 0) (.cons (.con (.str [32])) .nil)) (.asgT [2,3] (.call 18 (.cons (.var 1) (.cons (.con (.int 0)) (.cons (.con (.int 0)) (.cons (.gl 12) .nil))))) (.ife (.or (.cmp .Lt (.var 3) (.blt .len (.cons (.var 1) .nil))) (.not (.call 9 (.cons (.var 2) .nil)))) .stk .done (.ret (.var 2) .done)))))
noncomputable def ZaP:S:=(.ife (.cmp .Lt (.var 1) (.blt .len (.cons (.var 0) .nil))) (.ret (.ix (.var 0) (.var 1)) .done) .done (.ret (.con (.int 0)) .done))
noncomputable def Zas:S:=(.asg 1 (.bin .Pow (.con (.int 10)) (.con (.int 60))) (.asg 2 (.bin .Mod (.var 0) (.bin .Mult (.bin .Mult (.bin .Mult (.bin .Mult (.var 1) (.var 1)) (.var 1)) (.var 1)) (.var 1))) (.ret (.cel (.cons (.bin .Mult (.var 2) (.blt .int (.cons (.cmp .GtE (.var 0) (.bin .Pow (.con (.int 10)) (.con (.int 18)))) .nil))) (.cons (.bin .Mod (.var 0) (.con (.int 2147483647))) (.cons (.con (.int 0)) .nil)))) .done)))
noncomputable def ZaM:S:=(.ife (.cmp .Gt (.ix (.var 0) (.con (.int 0))) (.con (.int 0))) (.asg 2 (.bin .Mod (.ix (.var 0) (.con (.int 0))) (.var 1)) (.set (.var 0) (.con (.int 0)) (.bin .FloorDiv (.ix (.var 0) (.con (.int 0))) (.var 1)) (.ret (.var 2) .done))) .done (.set (.var 0) (.con (.int 2)) (.bin .Add (.ix (.var 0) (.con (.int 2))) (.con (.int 1))) (.asg 3 (.bin .Mod (.bin .Mult (.bin .Add (.bin .Add (.ix (.var 0) (.con (.int 1))) (.bin .Mult (.con (.int 6373)) (.ix (.var 0) (.con (.int 2))))) (.con (.int 5))) (.con (.int 48271))) (.con (.int 2147483647))) (.asg 3 (.bin .Mod (.bin .Mult (.var 3) (.bin .Add (.bin .FloorDiv (.var 3) (.con (.int 1013))) (.con (.int 65539)))) (.con (.int 2147483647))) (.asg 3 (.bin .Mod (.bin .Mult (.var 3) (.bin .Add (.bin .FloorDiv (.var 3) (.con (.int 3001))) (.con (.int 40699)))) (.con (.int 2147483629))) (.ret (.bin .Mod (.bin .FloorDiv (.var 3) (.con (.int 3))) (.var 1)) .done))))))
noncomputable def ZbK:E:=(.emit (.ix (.con (.str [97,98,99,100,101,102,103,104,105,106,107,108,109,110,111,112,113,114,115,116,117,118,119,120,121,122])) (.call 22 (.cons (.var 1) (.cons (.con (.int 26)) .nil)))))
noncomputable def Zeg:E:=(.comp 1 [0] (.blt .range1 (.cons (.bin .Add (.con (.int 1)) (.call 22 (.cons (.var 0) (.cons (.con (.int 8)) .nil)))) .nil)) (.nm 0) .nil ZbK)
noncomputable def ZaL:S:=(.asg 1 (.lst (.cons (.con (.str [114,121,101])) (.cons (.con (.str [111,108,100])) (.cons (.con (.str [97])) (.cons (.con (.str [97,110])) (.cons (.con (.str [97,110,100,121])) (.cons (.con (.str [105,115,108,101])) (.cons (.con (.str [98,121,116,101])) (.cons (.con (.str [111,114,98])) (.cons (.con (.str [110,111,116,97])) (.cons (.con (.str [97,110,121,111,110,101])) (.cons (.con (.str [122,122,122,122,122,122,122,122])) (.cons (.con (.str [98])) .nil))))))))))))) (.ife (.cmp .Gt (.call 22 (.cons (.var 0) (.cons (.con (.int 3)) .nil))) (.con (.int 0))) (.ret (.ix (.var 1) (.call 22 (.cons (.var 0) (.cons (.con (.int 12)) .nil)))) .done) .done (.asg 2 Zeg (.asg 3 (.mth .join (.con (.str [])) (.cons (.var 2) .nil)) (.ife (.cmp .In (.var 3) (.tup (.cons (.con (.str [97,110,121])) (.cons (.con (.str [105,115])) (.cons (.con (.str [98,121])) (.cons (.con (.str [110,111,116])) (.cons (.con (.str [97,110,100])) (.cons (.con (.str [111,114])) .nil)))))))) (.ret (.bin .Add (.var 3) (.con (.str [115]))) .done) .done (.ret (.var 3) .done))))))
noncomputable def JS:S:=(.asg 1 (.lst (.cons (.call 22 (.cons (.var 0) (.cons (.con (.int 9)) .nil))) (.cons (.call 22 (.cons (.var 0) (.cons (.con (.int 9)) .nil))) (.cons (.bin .Sub (.bin .Pow (.con (.int 10)) (.con (.int 9))) (.call 22 (.cons (.var 0) (.cons (.con (.int 3)) .nil)))) (.cons (.call 22 (.cons (.var 0) (.cons (.bin .Add (.bin .Pow (.con (.int 10)) (.con (.int 9))) (.con (.int 1))) .nil))) .nil))))) (.ret (.ix (.var 1) (.call 22 (.cons (.var 0) (.cons (.con (.int 4)) .nil)))) .done))
noncomputable def ZaN:S:=(.asg 1 (.call 22 (.cons (.var 0) (.cons (.con (.int 6)) .nil))) (.ife (.cmp .Eq (.var 1) (.con (.int 0))) (.ret (.tup (.cons (.con (.str [97,110,121])) .nil)) .done) .done (.ife (.cmp .Lt (.var 1) (.con (.int 3))) (.ret (.tup (.cons (.ix (.lst (.cons (.con (.str [105,115])) (.cons (.con (.str [98,121])) .nil))) (.bin .Sub (.var 1) (.con (.int 1)))) (.cons (.call 23 (.cons (.var 0) .nil)) .nil))) .done) .done (.ret (.tup (.cons (.ix (.lst (.cons (.con (.str [108,101,97,115,116])) (.cons (.con (.str [109,111,115,116])) .nil))) (.bin .Mod (.var 1) (.con (.int 2)))) (.cons (.call 23 (.cons (.var 0) .nil)) (.cons (.call 24 (.cons (.var 0) .nil)) .nil)))) .done))))
noncomputable def ZbL:E:=(.emit (.call 26 (.cons (.var 1) (.cons (.bin .Sub (.var 2) (.con (.int 1))) .nil))))
noncomputable def Zeh:E:=(.comp 1 [0,1] (.blt .range1 (.cons (.var 3) .nil)) (.nm 0) .nil ZbL)
noncomputable def Xr:S:=(.asg 2 (.call 22 (.cons (.var 0) (.cons (.con (.int 6)) .nil))) (.ife (.or (.cmp .Eq (.var 1) (.con (.int 1))) (.cmp .Lt (.var 2) (.con (.int 2)))) (.ret (.call 25 (.cons (.var 0) .nil)) .done) .done (.ife (.cmp .Eq (.var 2) (.con (.int 2))) (.ret (.tup (.cons (.con (.str [110,111,116])) (.cons (.call 26 (.cons (.var 0) (.cons (.bin .Sub (.var 1) (.con (.int 1))) .nil))) .nil))) .done) .done (.asg 3 (.bin .Add (.con (.int 2)) (.call 22 (.cons (.var 0) (.cons (.ix (.lst (.cons (.con (.int 2)) (.cons (.con (.int 2)) (.cons (.con (.int 5)) .nil)))) (.call 22 (.cons (.var 0) (.cons (.con (.int 3)) .nil)))) .nil)))) (.ret (.tup (.cons (.ix (.lst (.cons (.con (.str [97,110,100])) (.cons (.con (.str [111,114])) .nil))) (.bin .Mod (.var 2) (.con (.int 2)))) (.cons (.blt .tuple (.cons Zeh .nil)) .nil))) .done)))))
noncomputable def ZaH:E:=(.emit (.call 27 (.cons (.var 0) .nil)))
noncomputable def ZcF:E:=(.comp 1 [] (.ix (.var 0) (.con (.int 1))) (.nm 0) .nil ZaH)
noncomputable def Xx:S:=(.ife (.cmp .Eq (.ix (.var 0) (.con (.int 0))) (.con (.str [110,111,116]))) (.ret (.bin .Add (.con (.int 1)) (.call 27 (.cons (.ix (.var 0) (.con (.int 1))) .nil))) .done) .done (.ife (.cmp .In (.ix (.var 0) (.con (.int 0))) (.tup (.cons (.con (.str [97,110,100])) (.cons (.con (.str [111,114])) .nil)))) (.ret (.bin .Add (.con (.int 1)) (.blt .sum (.cons ZcF .nil))) .done) .done (.ret (.con (.int 1)) .done)))
noncomputable def Qh:S:=(.asg 3 (.call 26 (.cons (.var 0) (.cons (.var 1) .nil))) (.ife (.cmp .LtE (.call 27 (.cons (.var 3) .nil)) (.con (.int 40))) (.ret (.var 3) .done) .done (.asg 1 (.blt .min2 (.cons (.var 1) (.cons (.con (.int 3)) .nil))) .done)))
noncomputable def ZaO:S:=(.asg 1 (.bin .Add (.con (.int 1)) (.call 22 (.cons (.var 0) (.cons (.con (.int 6)) .nil)))) (.forr (.nm 2) (.blt .range1 (.cons (.con (.int 6)) .nil)) Qh (.ret (.tup (.cons (.con (.str [110,111,116])) (.cons (.call 25 (.cons (.var 0) .nil)) .nil))) .done)))
noncomputable def ZdY:E:=(.emit (.call 29 (.cons (.var 0) .nil)))
noncomputable def Zei:E:=(.comp 1 [] (.ix (.var 0) (.con (.int 1))) (.nm 0) .nil ZdY)
noncomputable def JB:S:=(.ife (.cmp .Eq (.ix (.var 0) (.con (.int 0))) (.con (.str [110,111,116]))) (.ret (.bin .Add (.con (.int 1)) (.call 29 (.cons (.ix (.var 0) (.con (.int 1))) .nil))) .done) .done (.ife (.cmp .In (.ix (.var 0) (.con (.int 0))) (.tup (.cons (.con (.str [97,110,100])) (.cons (.con (.str [111,114])) .nil)))) (.ret (.bin .Add (.con (.int 1)) (.blt .maxl (.cons Zei .nil))) .done) .done (.ret (.con (.int 1)) .done)))
noncomputable def JT:S:=(.asg 4 (.cmp .In (.ix (.var 1) (.con (.int 0))) (.var 2)) (.asg 5 (.con (.int 0)) (.ife (.cmp .Gt (.var 3) (.bin .Add (.bin .Mult (.con (.int 2)) (.call 29 (.cons (.var 1) .nil))) (.con (.int 1)))) (.asg 5 (.ix (.lst (.cons (.con (.int 0)) (.cons (.con (.int 0)) (.cons (.con (.int 1)) (.cons (.con (.int 2)) .nil))))) (.call 22 (.cons (.var 0) (.cons (.con (.int 4)) .nil)))) .done) .done (.asg 5 (.bin .Add (.var 5) (.blt .int (.cons (.and (.var 4) (.cmp .Eq (.var 5) (.con (.int 0)))) .nil))) (.ret (.bin .Add (.bin .Add (.bin .Mult (.con (.str [40,32])) (.var 5)) (.call 31 (.cons (.var 0) (.cons (.var 1) (.cons (.bin .Sub (.var 3) (.var 5)) .nil))))) (.bin .Mult (.con (.str [32,41])) (.var 5))) .done)))))
noncomputable def Zcy:E:=(.emit (.call 30 (.cons (.var 1) (.cons (.var 0) (.cons (.var 2) (.cons (.var 3) .nil))))))
noncomputable def ZcG:E:=(.comp 1 [0,3,2] (.ix (.var 1) (.con (.int 1))) (.nm 0) .nil Zcy)
noncomputable def Q9:S:=(.ife (.cmp .Eq (.ix (.var 1) (.con (.int 0))) (.con (.str [97,110,121]))) (.ret (.con (.str [97,110,121])) .done) .done (.ife (.cmp .In (.ix (.var 1) (.con (.int 0))) (.tup (.cons (.con (.str [105,115])) (.cons (.con (.str [98,121])) .nil)))) (.ret (.bin .Add (.bin .Add (.ix (.var 1) (.con (.int 0))) (.con (.str [32]))) (.ix (.var 1) (.con (.int 1)))) .done) .done (.ife (.cmp .In (.ix (.var 1) (.con (.int 0))) (.tup (.cons (.con (.str [108,101,97,115,116])) (.cons (.con (.str [109,111,115,116])) .nil)))) (.ret (.bin .Add (.bin .Add (.ix (.var 1) (.con (.int 1))) (.ix (.lst (.cons (.con (.str [32,60,61,32])) (.cons (.con (.str [32,62,61,32])) .nil))) (.blt .int (.cons (.cmp .Eq (.ix (.var 1) (.con (.int 0))) (.con (.str [108,101,97,115,116]))) .nil)))) (.blt .str (.cons (.ix (.var 1) (.con (.int 2))) .nil))) .done) .done (.ife (.cmp .Eq (.ix (.var 1) (.con (.int 0))) (.con (.str [110,111,116]))) (.ret (.bin .Add (.con (.str [110,111,116,32])) (.call 30 (.cons (.var 0) (.cons (.ix (.var 1) (.con (.int 1))) (.cons (.lst (.cons (.con (.str [97,110,100])) (.cons (.con (.str [111,114])) .nil))) (.cons (.bin .Sub (.var 2) (.con (.int 1))) .nil)))))) .done) .done (.asg 3 (.blt .dget (.cons (.dsn [[97,110,100],[111,114]] (.cons (.lst (.cons (.con (.str [97,110,100])) (.cons (.con (.str [111,114])) .nil))) (.cons (.lst (.cons (.con (.str [111,114])) .nil)) .nil))) (.cons (.ix (.var 1) (.con (.int 0))) .nil))) (.ret (.mth .join (.bin .Add (.bin .Add (.con (.str [32])) (.ix (.var 1) (.con (.int 0)))) (.con (.str [32]))) (.cons ZcG .nil)) .done))))))
noncomputable def Zl4:E:=(.emit (.bin .Add (.bin .Add (.con (.str [40,32,40,32,40,32,40,32,40,32])) (.mth .join (.con (.str [32,111,114,32])) (.cons (.var 0) .nil))) (.con (.str [32,41,32,41,32,41,32,41,32,41]))))
noncomputable def ZiG:E:=(.comp 1 [] (.bin .Add (.bin .Mult (.lst (.cons (.var 7) .nil)) (.con (.int 5))) (.lst (.cons (.bin .Add (.slc (.var 7) .hole (.con (.int 4))) (.lst (.cons (.con (.str [40,32,40,32,40,32,110,111,116,32,97,110,121,32,41,32,41,32,41])) .nil))) .nil))) (.nm 0) .nil Zl4)
noncomputable def ZbB:S:=(.asg 4 (.call 21 (.cons (.var 3) .nil)) (.asg 5 (.call 28 (.cons (.var 4) .nil)) (.asg 6 (.call 30 (.cons (.var 4) (.cons (.var 5) (.cons (.lst .nil) (.cons (.con (.int 12)) .nil))))) (.ife (.cmp .LtE (.blt .len (.cons (.mth .split (.var 6) (.cons (.con (.str [32])) .nil)) .nil)) (.con (.int 300))) (.ife (.or (.cmp .NotEq (.call 19 (.cons (.var 6) .nil)) (.var 5)) (.or (.cmp .NotEq (.call 19 (.cons (.var 1) .nil)) (.var 2)) (.cmp .NotEq (.call 19 (.cons (.var 6) .nil)) (.var 5)))) (.ret (.con (.bl false)) .done) .done (.ife (.cmp .NotEq (.call 19 (.cons (.call 10 (.cons (.call 19 (.cons (.var 6) .nil)) .nil)) .nil)) (.var 5)) (.ret (.con (.bl false)) .done) .done (.asg 1 (.var 6) (.asg 2 (.var 5) .done)))) .done .done))))
noncomputable def Zcc:S:=(.asg 1 (.con (.str [97,110,121])) (.asg 2 (.tup (.cons (.con (.str [97,110,121])) .nil)) (.forr (.nm 3) (.bin .Add (.lst (.cons (.call 20 (.cons (.var 0) (.cons (.con (.int 0)) .nil))) .nil)) (.slc (.var 0) (.con (.int 1)) (.con (.int 30)))) ZbB (.asg 7 (.bin .Mult (.lst (.cons (.con (.str [40,32,40,32,40,32,97,110,121,32,41,32,41,32,41])) .nil)) (.con (.int 5))) (.asg 8 ZiG (.asg 2 (.tup (.cons (.con (.str [111,114])) (.cons (.bin .Mult (.tup (.cons (.tup (.cons (.con (.str [97,110,121])) .nil)) .nil)) (.con (.int 5))) .nil))) (.ife (.cmp .NotEq (.call 19 (.cons (.mth .join (.con (.str [32,97,110,100,32])) (.cons (.var 8) .nil)) .nil)) (.tup (.cons (.con (.str [97,110,100])) (.cons (.bin .Add (.bin .Mult (.tup (.cons (.var 2) .nil)) (.con (.int 5))) (.tup (.cons (.tup (.cons (.con (.str [111,114])) (.cons (.bin .Add (.bin .Mult (.tup (.cons (.tup (.cons (.con (.str [97,110,121])) .nil)) .nil)) (.con (.int 4))) (.tup (.cons (.tup (.cons (.con (.str [110,111,116])) (.cons (.tup (.cons (.con (.str [97,110,121])) .nil)) .nil))) .nil))) .nil))) .nil))) .nil)))) (.ret (.con (.bl false)) .done) .done (.asg 9 (.tup (.cons (.tup (.cons (.con (.str [105,115])) (.cons (.con (.str [97])) .nil))) (.cons (.tup (.cons (.con (.str [105,115])) (.cons (.con (.str [98])) .nil))) .nil))) (.ife (.cmp .NotEq (.call 19 (.cons (.con (.str [40,32,105,115,32,97,32,97,110,100,32,105,115,32,98,32,41,32,97,110,100,32,97,110,121])) .nil)) (.tup (.cons (.con (.str [97,110,100])) (.cons (.tup (.cons (.tup (.cons (.con (.str [97,110,100])) (.cons (.var 9) .nil))) (.cons (.tup (.cons (.con (.str [97,110,121])) .nil)) .nil))) .nil)))) (.ret (.con (.bl false)) .done) .done (.ret (.cmp .Eq (.call 19 (.cons (.con (.str [110,111,116,32,105,115,32,97,32,97,110,100,32,105,115,32,98])) .nil)) (.tup (.cons (.con (.str [97,110,100])) (.cons (.tup (.cons (.tup (.cons (.con (.str [110,111,116])) (.cons (.ix (.var 9) (.con (.int 0))) .nil))) (.cons (.ix (.var 9) (.con (.int 1))) .nil))) .nil)))) .done))))))))))
noncomputable def fns:List Fn:=[⟨1,1,Ql,false⟩,⟨1,1,Jc,false⟩,⟨1,1,JR,false⟩,⟨1,1,Q7,false⟩,⟨2,2,Jr,false⟩,⟨1,1,Z6,false⟩,⟨1,1,QH,false⟩,⟨1,1,Q4,false⟩,⟨1,1,Jo,false⟩,⟨1,4,JQ,false⟩,⟨1,3,Z3,false⟩,⟨2,3,Qw,false⟩,⟨1,1,ZX,false⟩,⟨2,2,JM,false⟩,⟨2,3,JP,false⟩,⟨2,3,Q6,false⟩,⟨2,5,QG,false⟩,⟨3,6,Qk,false⟩,⟨4,7,Z2,false⟩,⟨1,4,Q5,false⟩,⟨2,2,ZaP,false⟩,⟨1,3,Zas,true⟩,⟨2,4,ZaM,false⟩,⟨1,4,ZaL,false⟩,⟨1,2,JS,false⟩,⟨1,2,ZaN,false⟩,⟨2,4,Xr,false⟩,⟨1,1,Xx,false⟩,⟨1,4,ZaO,false⟩,⟨1,1,JB,false⟩,⟨4,6,JT,false⟩,⟨3,4,Q9,false⟩,⟨1,10,Zcc,false⟩]
noncomputable def gv:List T:=[(.str [97,98,99,100,101,102,103,104,105,106,107,108,109,110,111,112,113,114,115,116,117,118,119,120,121,122]),(.int 8),(.tup [(.str [97,110,121]),(.str [105,115]),(.str [98,121]),(.str [110,111,116]),(.str [97,110,100]),(.str [111,114])]),(.int 1000000000),(.int 6),(.int 40),(.int 2),(.int 6),(.str [48,49,50,51,52,53,54,55,56,57]),(.int 10),(.int 12),(.dct (List.map (fun k=>.inr ⟨k.toArray⟩) [[62,61],[60,61]]) [(.str [108,101,97,115,116]),(.str [109,111,115,116])]),(.tup [(.str [111,114]),(.str [97,110,100])]),(.dct (List.map (fun k=>.inr ⟨k.toArray⟩) [[110,111,116],[97,110,100],[111,114]]) [(.tup [(.str [97,110,100]),(.str [111,114])]),(.tup [(.str [97,110,100]),(.str [111,114])]),(.tup [(.str [111,114])])])]
noncomputable abbrev cf:=ZR fns gv
noncomputable abbrev CF (k:Nat) (b:S) (p q:Nat) (c:Bool):Prop:=∀ (n:Nat) (ws:List W) (m:Mem),cf (n + 1) k ws m=if ws.length=p then (ex (cf n) gv b (ws.map some++List.replicate (q - p) none) m).bind fun fl m'=>fin m.length c fl m' else .stuck
theorem ZbU:CF 0 Ql 1 1 false:=fun _ _ _=>rfl
theorem ZcC:CF 1 Jc 1 1 false:=fun _ _ _=>rfl
theorem Ze7:CF 2 JR 1 1 false:=fun _ _ _=>rfl
theorem Zec:CF 3 Q7 1 1 false:=fun _ _ _=>rfl
theorem Zeb:CF 4 Jr 2 2 false:=fun _ _ _=>rfl
theorem Za7:CF 5 Z6 1 1 false:=fun _ _ _=>rfl
theorem Zc9:CF 6 QH 1 1 false:=fun _ _ _=>rfl
theorem Zd8:CF 7 Q4 1 1 false:=fun _ _ _=>rfl
theorem Ze8:CF 8 Jo 1 1 false:=fun _ _ _=>rfl
theorem ZgS:CF 9 JQ 1 4 false:=fun _ _ _=>rfl
theorem Xp:CF 10 Z3 1 3 false:=fun _ _ _=>rfl
theorem Zca:CF 11 Qw 2 3 false:=fun _ _ _=>rfl
theorem ZaK:CF 12 ZX 1 1 false:=fun _ _ _=>rfl
theorem ZgQ:CF 13 JM 2 2 false:=fun _ _ _=>rfl
theorem ZgR:CF 14 JP 2 3 false:=fun _ _ _=>rfl
theorem Zea:CF 15 Q6 2 3 false:=fun _ _ _=>rfl
theorem Zc8:CF 16 QG 2 5 false:=fun _ _ _=>rfl
theorem X7:CF 17 Qk 3 6 false:=fun _ _ _=>rfl
theorem XM:CF 18 Z2 4 7 false:=fun _ _ _=>rfl
theorem Zd9:CF 19 Q5 1 4 false:=fun _ _ _=>rfl
theorem Zkg:CF 20 ZaP 2 2 false:=fun _ _ _=>rfl
theorem cf_Lstore:CF 21 Zas 1 3 true:=fun _ _ _=>rfl
theorem cf_Lpick:CF 22 ZaM 2 4 false:=fun _ _ _=>rfl
theorem Zkd:CF 23 ZaL 1 4 false:=fun _ _ _=>rfl
theorem ZgT:CF 24 JS 1 2 false:=fun _ _ _=>rfl
theorem Zke:CF 25 ZaN 1 2 false:=fun _ _ _=>rfl
theorem ZfO:CF 26 Xr 2 4 false:=fun _ _ _=>rfl
theorem Ziw:CF 27 Xx 1 1 false:=fun _ _ _=>rfl
theorem Zkf:CF 28 ZaO 1 4 false:=fun _ _ _=>rfl
theorem Zda:CF 29 JB 1 1 false:=fun _ _ _=>rfl
theorem ZgU:CF 30 JT 4 6 false:=fun _ _ _=>rfl
theorem ZbV:CF 31 Q9 3 4 false:=fun _ _ _=>rfl
theorem cf_law:CF 32 Zcc 1 10 false:=fun _ _ _=>rfl
theorem ZgD:gv[0]? = some (.str [97,98,99,100,101,102,103,104,105,106,107,108,109,110,111,112,113,114,115,116,117,118,119,120,121,122]):=rfl
theorem Xo:gv[1]? = some (.int 8):=rfl
theorem Zai:gv[2]? = some (.tup [(.str [97,110,121]),(.str [105,115]),(.str [98,121]),(.str [110,111,116]),(.str [97,110,100]),(.str [111,114])]):=rfl
theorem Zaj:gv[3]? = some (.int 1000000000):=rfl
theorem ZgF:gv[4]? = some (.int 6):=rfl
theorem J6:gv[5]? = some (.int 40):=rfl
theorem Xb:gv[6]? = some (.int 2):=rfl
theorem XF:gv[7]? = some (.int 6):=rfl
theorem ZgE:gv[8]? = some (.str [48,49,50,51,52,53,54,55,56,57]):=rfl
theorem ZbM:gv[9]? = some (.int 10):=rfl
theorem XD:gv[10]? = some (.int 12):=rfl
theorem ZfE:gv[11]? = some (.dct (List.map (fun k=>.inr ⟨k.toArray⟩) [[62,61],[60,61]]) [(.str [108,101,97,115,116]),(.str [109,111,115,116])]):=rfl
theorem ZfF:gv[12]? = some (.tup [(.str [111,114]),(.str [97,110,100])]):=rfl
theorem ZdZ:gv[13]? = some (.dct (List.map (fun k=>.inr ⟨k.toArray⟩) [[110,111,116],[97,110,100],[111,114]]) [(.tup [(.str [97,110,100]),(.str [111,114])]),(.tup [(.str [97,110,100]),(.str [111,114])]),(.tup [(.str [111,114])])]):=rfl
end My
end
section
set_option maxRecDepth 20000
namespace My
open Mi
noncomputable def IsSt (s:List T):Prop:=∃ a b c:Int,s=[.int a,.int b,.int c]
noncomputable def put (m:Mem) (i:Nat) (s:List T):Mem:=m.set i (some (false,s))
theorem Zkq {m:Mem} {i:Nat} {s:List T} (h:i < m.length):(put m i s)[i]? = some (some (false,s)):=List.getElem?_set_self h
theorem put_put {m:Mem} {i:Nat} {s s':List T}:put (put m i s) i s' = put m i s':=List.set_set _
theorem QF {m:Mem} {i:Nat} {s:List T}:(put m i s).length=m.length:=List.length_set
theorem Zhk {m:Mem} {i:Nat} {s s':List T}:(put m i s).set i (some (false,s'))=put m i s':=List.set_set _
theorem Zfp {m:Mem} {i:Nat} {s:List T}:(put m i s).take m.length=put m i s:=by
  have h:=List.take_length (l:=put m i s)
  rw [QF] at h
  exact h
theorem mulL {i j:Int} (h:0≤i) (h':i < 4294967296):Xl i j=true:=by
  have:i.natAbs < 2 ^ 64:=by omega
  simp [Xl,small,this]
theorem mulR {i j:Int} (h:0≤j) (h':j < 4294967296):Xl i j=true:=by
  have:j.natAbs < 2 ^ 64:=by omega
  simp [Xl,small,this]
section
variable {call:Nat→List W→Mem→Res W} {gv:List T} {env:Env} {m m1 m2 m3:Mem} {a b c e o v i:E} {x y z r:T} {w w1 w2:W} {f:Nat} {bb:B} {k:Bool}
theorem Qy {op:PySem.Operator} (h1:ev call gv a env m = .ok (.t x) m1) (h2:ev call gv b env m1 = .ok (.t y) m2) (h3:binT op x y=some r):ev call gv (.bin op a b) env m = .ok (.t r) m2:=by
  rw [ev,h1,Zh,h2,Zh]
  show pur (binT op x y) m2=_
  rw [h3]; rfl
theorem Zz {op:PySem.CmpOp} (h1:ev call gv a env m = .ok (.t x) m1) (h2:ev call gv b env m1 = .ok (.t y) m2) (h3:cmpT op x y=some k):ev call gv (.cmp op a b) env m = .ok (.t (.bl k)) m2:=by
  rw [ev,h1,Zh,h2,Zh]
  show pur ((cmpT op x y).map .bl) m2=_
  rw [h3]; rfl
theorem Zd (t:T):ev call gv (.con t) env m = .ok (.t t) m:=by rw [ev]
theorem Zb {i:Nat} {w:W} (h:env[i]? = some (some w)):ev call gv (.var i) env m = .ok w m:=by rw [ev,h]
theorem ev_cix {c j:Nat} {k:Int} {xs:List T} (h:env[c]? = some (some (.c j))) (hm:m[j]? = some (some (false,xs))) (hx:atT xs k=some r):ev call gv (.ix (.var c) (.con (.int k))) env m = .ok (.t r) m:=by
  rw [ev,Zb h,Zh,Zd,Zh]
  simp only [view,hm,Option.bind_some,ixT,hx]
  rfl
theorem ZbQ (h1:ev call gv a env m = .ok (.t x) m1) (h2:ev call gv b env m1 = .ok (.t y) m2) (h3:ixT x y=some r):ev call gv (.ix a b) env m = .ok (.t r) m2:=by
  rw [ev,h1,Zh,h2,Zh]
  show pur (ixT x y) m2=_
  rw [h3]; rfl
theorem Jf (h:ev call gv e env m = .ok (.t x) m1) (hb:bltT bb [x]=some r):ev call gv (.blt bb (.cons e .nil)) env m = .ok (.t r) m1:=by
  rw [ev,evs,h]
  show pur (bltT bb [x]) m1=_
  rw [hb]; rfl
theorem ZW (h:ev call gv e env m = .ok w m1):ev call gv (.call f (.cons e .nil)) env m=call f [w] m1:=by
  rw [ev,evs,h]
  rfl
theorem Z4 (h1:ev call gv a env m = .ok w m1) (h2:ev call gv b env m1 = .ok w1 m2):ev call gv (.call f (.cons a (.cons b .nil))) env m=call f [w,w1] m2:=by
  simp only [ev,evs,h1,h2,Zh]
theorem Zc5 (h1:ev call gv a env m = .ok w m1) (h2:ev call gv b env m1 = .ok w1 m2) (h3:ev call gv c env m2 = .ok w2 m3):ev call gv (.call f (.cons a (.cons b (.cons c .nil)))) env m=call f [w,w1,w2] m3:=by
  simp only [ev,evs,h1,h2,h3,Zh]
theorem ZbP (h1:ev call gv a env m = .ok (.t x) m1):ev call gv (.tup (.cons a .nil)) env m = .ok (.t (.tup [x])) m1:=by
  simp only [ev,evs,h1,Zh,Zal,ZaX]
  exact if_pos (by simp [lim])
theorem ZC (h1:ev call gv a env m = .ok (.t x) m1) (h2:ev call gv b env m1 = .ok (.t y) m2):ev call gv (.tup (.cons a (.cons b .nil))) env m = .ok (.t (.tup [x,y])) m2:=by
  simp only [ev,evs,h1,h2,Zh,Zal,ZaX]
  exact if_pos (by simp [lim])
theorem Zma (h1:ev call gv a env m = .ok (.t x) m1) (h2:ev call gv b env m1 = .ok (.t y) m2) (h3:ev call gv c env m2 = .ok (.t z) m3):ev call gv (.tup (.cons a (.cons b (.cons c .nil)))) env m = .ok (.t (.tup [x,y,z])) m3:=by
  simp only [ev,evs,h1,h2,h3,Zh,Zal,ZaX]
  exact if_pos (by simp [lim])
theorem ZeY (h1:ev call gv a env m = .ok (.t x) m1) (h2:ev call gv b env m1 = .ok (.t y) m2):ev call gv (.lst (.cons a (.cons b .nil))) env m = .ok (.t (.lst [x,y])) m2:=by
  simp only [ev,evs,h1,h2,Zh,Zal,ZaX]
  exact if_pos (by simp [lim])
theorem Zmc (h:ev call gv a env m = .ok (.t (.bl true)) m1):ev call gv (.and a b) env m=ev call gv b env m1:=by rw [ev,h]; rfl
theorem Zmd (h:ev call gv a env m = .ok (.t (.bl false)) m1):ev call gv (.and a b) env m = .ok (.t (.bl false)) m1:=by rw [ev,h]; rfl
theorem ZaY (h:ev call gv a env m = .ok (.t (.bl k)) m1):ev call gv (.not a) env m = .ok (.t (.bl (!k))) m1:=by rw [ev,h]; rfl
theorem ZkG (h:ev call gv a env m = .ok (.t (.bl true)) m1):ev call gv (.or a b) env m = .ok (.t (.bl true)) m1:=by rw [ev,h]; rfl
theorem Zcz (h:ev call gv a env m = .ok (.t (.bl false)) m1):ev call gv (.or a b) env m=ev call gv b env m1:=by rw [ev,h]; rfl
theorem ev_isi {ty:Ty} (h:ev call gv a env m = .ok (.t x) m1) (hk:isT x ty=k):ev call gv (.isi a ty) env m = .ok (.t (.bl k)) m1:=by rw [ev,h,← hk]; rfl
end
section
variable {call:Nat→List W→Mem→Res W} {gv:List T} {env:Env} {m m1 m2 m3:Mem} {a lo hi:E} {es:Es} {x y z r:T} {w:W} {ws:List W} {ts:List T} {f:Nat} {bb:B}
theorem Zfx {ts:List T} (h:ts.length≤1000:=by exact Nat.le_of_ble_eq_true rfl):ts.length≤lim:=Nat.le_trans h (by decide)
theorem ZbO:evs call gv .nil env m = .ok [] m:=by rw [evs]
theorem X6 (h1:ev call gv a env m = .ok w m1) (h2:evs call gv es env m1 = .ok ws m2):evs call gv (.cons a es) env m = .ok (w :: ws) m2:=by rw [evs,h1,Zh,h2]; rfl
theorem ZfJ (h:evs call gv es env m = .ok ws m1) (h2:frzs ws m1 = .ok ts m1) (hl:ts.length≤lim):ev call gv (.lst es) env m = .ok (.t (.lst ts)) m1:=by rw [ev,h,Zh,h2,Zh,if_pos hl]
theorem ev_tup (h:evs call gv es env m = .ok ws m1) (h2:frzs ws m1 = .ok ts m1) (hl:ts.length≤lim):ev call gv (.tup es) env m = .ok (.t (.tup ts)) m1:=by rw [ev,h,Zh,h2,Zh,if_pos hl]
theorem ev_call (h:evs call gv es env m = .ok ws m1):ev call gv (.call f es) env m=call f ws m1:=by rw [ev,h]; rfl
theorem ZkI (h:evs call gv es env m = .ok ws m1) (h2:views ws m1=some ts) (h3:bltT bb ts=some r):ev call gv (.blt bb es) env m = .ok (.t r) m1:=by
  rw [ev,h,Zh,h2]
  show pur (bltT bb ts) m1=_
  rw [h3]; rfl
theorem ev_one (h:ev call gv a env m = .ok w m1):ev call gv (.one a) env m = .ok w m1:=by rw [ev,h]
theorem ZgH {k:Nat} (h:gv[k]? = some x):ev call gv (.gl k) env m = .ok (.t x) m:=by rw [ev,h]; rfl
theorem ev_slox {k:Int} (h1:ev call gv a env m = .ok (.t x) m1) (h2:ev call gv hi env m1 = .ok (.t (.int k)) m2) (h3:slT x none (some k)=some r) (hh:Ze hi=false:=by rfl):ev call gv (.slc a .hole hi) env m = .ok (.t r) m2:=by
  rw [ev,h1,Zh,show Ze .hole=true from rfl,if_pos rfl,Zh,hh,if_neg Bool.false_ne_true,h2]
  show pur (slT x none (some k)) m2=_
  rw [h3]; rfl
theorem Zin {k:Int} (h1:ev call gv a env m = .ok (.t x) m1) (h2:ev call gv lo env m1 = .ok (.t (.int k)) m2) (h3:slT x (some k) none=some r) (hh:Ze lo=false:=by rfl):ev call gv (.slc a lo .hole) env m = .ok (.t r) m2:=by
  rw [ev,h1,Zh,hh,if_neg Bool.false_ne_true,h2]
  show pur (slT x (some k) none) m2=_
  rw [h3]; rfl
end
section
variable {call:Nat→List W→Mem→Res W} {gv:List T} {env env':Env} {m m1 m2:Mem} {k a b:S} {e:E} {w:W}
theorem ex_ifB (h:ev call gv e env m = .ok (.t (.bl false)) m1) (h2:ex call gv b env m1 = .ok (.next env') m2):ex call gv (.ife e a b k) env m=ex call gv k env' m2:=by
  rw [ex,h]
  show (ex call gv b env m1).bind _=_
  rw [h2]; rfl
theorem ZkF (h:ev call gv e env m = .ok (.t (.bl true)) m1) (h2:ex call gv a env m1 = .ok (.next env') m2):ex call gv (.ife e a b k) env m=ex call gv k env' m2:=by
  rw [ex,h]
  show (ex call gv a env m1).bind _=_
  rw [h2]; rfl
theorem Zl9 (h:ev call gv e env m = .ok w m1):ex call gv (.expr e k) env m=ex call gv k env m1:=by rw [ex,h]; rfl
end
section
variable {call:Nat→List W→Mem→Res W} {gv:List T} {env:Env} {m m1 m2:Mem} {a c inner:E} {x:T} {xs:List T}
theorem Zc4 (h:ev call gv a env m = .ok (.t x) m1):ev call gv (.emit a) env m = .ok (.t (.lst [x])) m1:=by rw [ev,h]; rfl
theorem turn1T (h:ev call gv c env m = .ok (.t (.bl true)) m1) (h2:ev call gv inner env m1 = .ok (.t (.lst xs)) m2):QJ call gv (.cons c .nil) inner env m = .ok xs m2:=by
  unfold QJ
  rw [tests,h,Zh,ZcL,Zh,if_pos rfl,tests,Zh,if_pos rfl,h2]
  rfl
theorem turn1F (h:ev call gv c env m = .ok (.t (.bl false)) m1):QJ call gv (.cons c .nil) inner env m = .ok [] m1:=by
  unfold QJ
  rw [tests,h,Zh,ZcL,Zh,if_neg (by decide),Zh,if_neg (by decide)]
theorem ZiZ (h2:ev call gv inner env m = .ok (.t (.lst xs)) m2):QJ call gv .nil inner env m = .ok xs m2:=by
  unfold QJ
  rw [tests,Zh,if_pos rfl,h2]
  rfl
end
theorem at0 {α:Type} (a:α) (r:List α):atT (a :: r) 0=some a:=by simp [atT,ixOf]
theorem at1 {α:Type} (a b:α) (r:List α):atT (a :: b :: r) 1=some b:=by
  have:(1:Int) < (r.length:Int) + 1 + 1:=by omega
  simp [atT,ixOf,this]
theorem at_get {α:Type} {xs:List α} {i:Int} (h0:0≤i) (h1:i < xs.length):atT xs i=xs[i.toNat]?:=by
  unfold atT ixOf
  rw [if_pos h0,if_pos h1]
  rfl
theorem Qg {α β:Type} (f:α→β) (xs:List α):xs.flatMap (fun x=>[f x])=xs.map f:=by
  induction xs with
  | nil=>rfl
  | cons x xs ih=>simp [ih]
theorem fin_t {n:Nat} {c:Bool} {t:T} {m:Mem} {k:Nat} (h:m.length=k):fin k c (.ret (.t t)) m = .ok (.t t) m:=Zm h
theorem Qx {n:Nat} {m:Mem} {i:Nat} {s:List T} {many:Int} (hi:i < m.length) (hs:IsSt s) (h1:0 < many) (h2:many < 1073741824) :
    ∃ r s',cf (n + 1) 22 [.c i,.t (.int many)] (put m i s) = .ok (.t (.int r)) (put m i s')∧IsSt s'∧0≤r∧r < many:=by
  obtain ⟨a,b,c,rfl⟩:=hs
  have h:=Zkq (s:=[.int a,.int b,.int c]) hi
  by_cases ha:0 < a
  · refine ⟨a % many,[.int (a / many),.int b,.int c],?_,⟨_,_,_,rfl⟩,Int.emod_nonneg _ (by omega),Int.emod_lt_of_pos _ h1⟩
    simp [cf,ZR,fns,ZaM,ex,ev,Res.bind,view,h,pur,cmpT,Za5,ltT,inT,ixT,atT,ixOf,Qm,fitT,Zcd,binT,addT,mulT,intT,ha,h1,h2,setM,frz,fin,Zhk,QF,Zfp]
  · have h4:Xl 6373 (c + 1)=true:=mulL (by decide) (by decide)
    have h5:∀ x,Xl x 48271=true:=fun x=>mulR (by decide) (by decide)
    have h6:∀ x y,Xl (x % 2147483647) y=true:=fun x y=>mulL (Int.emod_nonneg _ (by decide)) (by have:=Int.emod_lt_of_pos x (b:=2147483647) (by decide); omega)
    have hp:=Zkq (s:=[.int a,.int b,.int (c + 1)]) hi
    refine ⟨(((((b + 6373 * (c + 1) + 5) * 48271 % 2147483647) * ((b + 6373 * (c + 1) + 5) * 48271 % 2147483647 / 1013 + 65539) % 2147483647) * (((b + 6373 * (c + 1) + 5) * 48271 % 2147483647) * ((b + 6373 * (c + 1) + 5) * 48271 % 2147483647 / 1013 + 65539) % 2147483647 / 3001 + 40699) % 2147483629) / 3) % many,[.int a,.int b,.int (c + 1)],?_,⟨_,_,_,rfl⟩,Int.emod_nonneg _ (by omega),Int.emod_lt_of_pos _ h1⟩
    simp [cf,ZR,fns,ZaM,ex,ev,Res.bind,view,h,pur,cmpT,Za5,ltT,inT,ixT,atT,ixOf,Qm,fitT,Zcd,binT,addT,mulT,intT,ha,h1,h2,setM,frz,fin,h4,h5,h6,hp,Zhk,QF,Zfp]
theorem mw1:Xl 1000000000000000000000000000000000000000000000000000000000000 1000000000000000000000000000000000000000000000000000000000000=true:=by decide +kernel
theorem mw2:Xl 1000000000000000000000000000000000000000000000000000000000000000000000000000000000000000000000000000000000000000000000000 1000000000000000000000000000000000000000000000000000000000000=true:=by decide +kernel
theorem mw3:Xl 1000000000000000000000000000000000000000000000000000000000000000000000000000000000000000000000000000000000000000000000000000000000000000000000000000000000000000000000000000000000000 1000000000000000000000000000000000000000000000000000000000000=true:=by decide +kernel
theorem mw4:Xl 1000000000000000000000000000000000000000000000000000000000000000000000000000000000000000000000000000000000000000000000000000000000000000000000000000000000000000000000000000000000000000000000000000000000000000000000000000000000000000000000000 1000000000000000000000000000000000000000000000000000000000000=true:=by decide +kernel
theorem Zaa {n:Nat} {m:Mem} {x:Int}:∃ s,cf (n + 1) 21 [.t (.int x)] m = .ok (.c m.length) (put (m++[none]) m.length s)∧IsSt s:=by
  have hb:∀ y:Int,∀ k:Bool,Xl y (b2i k)=true:=fun y k=>mulR (by cases k <;> decide) (by cases k <;> decide)
  refine ⟨[.int ((x % 1000000000000000000000000000000000000000000000000000000000000000000000000000000000000000000000000000000000000000000000000000000000000000000000000000000000000000000000000000000000000000000000000000000000000000000000000000000000000000000000000000000000000000000000000000000000000000000000000000000000000) * b2i (decide (1000000000000000000≤x))),.int (x % 2147483647),.int 0],?_,⟨_,_,_,rfl⟩⟩
  simp [cf,ZR,fns,Zas,ex,ev,evs,Res.bind,view,views,pur,cmpT,Za5,ltT,inT,binT,addT,mulT,intT,bltT,one1,two2,bLen,bInt,bTup,bLst,bRng,frz,frzs,fin,put,mw1,mw2,mw3,mw4,hb,lim]
theorem ZbF {n:Nat} {m:Mem} {x:T}:cf (n + 1) 2 [.t x] m = .ok (.t (.bl (isT x .int && !isT x .bool))) m:=by
  rw [Ze7]
  cases x <;> simp [JR,ex,ev,Res.bind,view,pur,isT,Zb0,fin]
noncomputable def numB:T→Bool
  | .int i=>decide (0≤i) && decide (i≤1000000000)
  | _=>false
theorem ZdX {n:Nat} {m:Mem} {x:T}:cf (n + 2) 3 [.t x] m = .ok (.t (.bl (numB x))) m:=by
  rw [Zec]
  cases x with
  | int i =>
    by_cases h:0≤i <;> simp [Q7,ex,ev,evs,Res.bind,view,pur,isT,Zb0,fin,ZbF,cmpT,Za5,ltT,inT,numB,h,Zaj]
  | _=>simp [Q7,ex,ev,evs,Res.bind,view,pur,isT,Zb0,fin,ZbF,numB]
noncomputable def lett:List Nat:=[97,98,99,100,101,102,103,104,105,106,107,108,109,110,111,112,113,114,115,116,117,118,119,120,121,122]
noncomputable def six:List (List Nat):=[[97,110,121],[105,115],[98,121],[110,111,116],[97,110,100],[111,114]]
noncomputable def Zc1 (cs:List Nat):Bool:=six.any fun a=>a == cs
noncomputable def Xf (cs:List Nat):Bool:=decide (1≤cs.length) && decide (cs.length≤8) && !Zc1 cs && cs.all fun c=>decide (c∈lett)
theorem Zg3 {n:Nat} {cs:List Nat} {m:Mem} (hl:cs.length≤lim):ev (cf n) gv Xc [some (.t (.str cs))] m = .ok (.t (.lst (cs.map fun c=>.bl (decide (c∈lett))))) m:=by
  have h:=Qv (f:=QJ (cf n) gv .nil Jd) (tg:=.nm 0) (env:=[none]) (m:=m)
    (g:=fun t=>match t with | .str [c]=>[.bl (decide (c∈lett))] | _=>[]) (cs.map fun c=>.str [c]) (fun t ht=>by
      obtain ⟨c,_,rfl⟩:=List.mem_map.mp ht
      exact ⟨[some (.t (.str [c]))],rfl,by simp [QJ,tests,Jd,ev,Res.bind,view,pur,ZgD,cmpT,Za5,ltT,inT,Zdd,frz,lett]⟩)
  have e:(cs.map fun c=>T.str [c]).flatMap (fun t=>match t with | .str [c]=>[T.bl (decide (c∈lett))] | _=>[])=cs.map fun c=>.bl (decide (c∈lett)):=by
    rw [List.flatMap_map]
    exact Qg _ _
  rw [e] at h
  exact Qz (x:=.t (.str cs)) (m0:=m) (by simp [ev]) (by simp [Z7,ZfB,hl]) h (by simpa using hl)
theorem ZeX (cs:List Nat):hasT (.str cs) (.tup [.str [97,110,121],.str [105,115],.str [98,121],.str [110,111,116],.str [97,110,100],.str [111,114]])=some (Zc1 cs):=by
  simp [hasT,flat,eqT,six,Zc1]
noncomputable def Xy (cs:List Nat):Bool:=decide (1≤cs.length) && !Zc1 cs && cs.all fun c=>decide (c∈lett)
theorem Zcw {n:Nat} {m:Mem} {cs:List Nat} (hl:cs.length≤lim):cf (n + 1) 0 [.t (.str cs)] m = .ok (.t (.bl (Xy cs))) m:=by
  have e:ex (cf n) gv Ql [some (.t (.str cs))] m = .ok (.ret (.t (.bl (Xy cs)))) m:=by
    unfold Ql
    refine Zi ?_
    by_cases h1:0 < cs.length
    · have h1':(0:Int) < cs.length:=by omega
      have h1'':(decide (1≤cs.length))=true:=decide_eq_true h1
      have hin:cmpT .NotIn (.str cs) (.tup [.str [97,110,121],.str [105,115],.str [98,121],.str [110,111,116],.str [97,110,100],.str [111,114]])=some (!Zc1 cs):=by
        rcases cs with _ | ⟨c,_ | ⟨d,r⟩⟩ <;> simp [cmpT,Za5,ltT,inT,ZeX]
      cases h6:Zc1 cs
      · simp only [Xy,h1'',h6]
        simp [ev,evs,isT,Ze,EVs,Zgx hl,h1,h1',hin,h6,Zai,Zg3 hl,ZlY (Zar _ cs)]
      · simp [ev,evs,isT,Ze,EVs,Zgx hl,h1,h1',hin,h6,Zai,Xy]
    · have h1':¬ (0:Int) < cs.length:=by omega
      have h1'':(decide (1≤cs.length))=false:=decide_eq_false h1
      simp only [Xy,h1'']
      simp [ev,evs,isT,Ze,EVs,Zgx hl,h1,h1']
  exact ZV (ZbU _ _ _) rfl e (Zm (cell:=false) rfl)
theorem ZeW {n:Nat} {m:Mem} {cs:List Nat} (hl:cs.length≤lim):cf (n + 2) 1 [.t (.str cs)] m = .ok (.t (.bl (Xf cs))) m:=by
  have e:ex (cf (n + 1)) gv Jc [some (.t (.str cs))] m = .ok (.ret (.t (.bl (Xf cs)))) m:=by
    unfold Jc
    refine Zi ?_
    by_cases h8:cs.length≤8
    · have h8':(cs.length:Int)≤8:=by omega
      have hw:Xf cs=Xy cs:=by simp [Xf,Xy,h8]
      simp [ev,evs,isT,Ze,EVs,Zgx hl,h8',Xo,Zcw (n:=n) hl,hw]
    · have h8':¬ (cs.length:Int)≤8:=by omega
      simp [ev,evs,isT,Ze,EVs,Zgx hl,h8',Xo,Xf,h8]
  exact ZV (ZcC _ _ _) rfl e (Zm (cell:=false) rfl)
theorem Zgz {n:Nat} {m:Mem} {x:T} (h:isT x .str=false):cf (n + 2) 1 [.t x] m = .ok (.t (.bl false)) m:=by
  have e:ex (cf (n + 1)) gv Jc [some (.t x)] m = .ok (.ret (.t (.bl false))) m:=by
    unfold Jc
    refine Zi ?_
    cases x with
    | str cs=>cases h
    | _=>simp [ev,evs,isT,Ze,EVs]
  exact ZV (ZcC _ _ _) rfl e (Zm (cell:=false) rfl)
theorem join_len (cs:List Nat):(Zc [] (cs.map fun c=>[c])).length=cs.length:=by
  rw [ZbD,← List.flatMap_def,Qg]
  simp
theorem ZkZ (cs:List Nat):((cs.map fun c=>[c]).map List.length).sum=cs.length:=by
  induction cs with
  | nil=>rfl
  | cons c cs ih=>rw [List.map_cons,List.map_cons,List.sum_cons,ih]; simp; omega
theorem Zmj {α:Type} (xs:List α) (lo hi:Option Int):(cut xs lo hi).length≤xs.length:=by
  unfold cut
  rw [List.length_take,List.length_drop]
  omega
theorem Zmm {n:Nat} {m:Mem} {ns:List Int}:∃ v:Int,cf (n + 1) 20 [.t (.scr ns),.t (.int 0)] m = .ok (.t (.int v)) m:=by
  have key:∃ v:Int,ex (cf n) gv ZaP [some (.t (.scr ns)),some (.t (.int 0))] m = .ok (.ret (.t (.int v))) m:=by
    unfold ZaP
    by_cases h:(0:Int) < ns.length
    · obtain ⟨v,hv,_⟩:=Xu (xs:=ns) (i:=0) (by decide) h
      exact ⟨v,ZK (m1:=m) (by simp [ev,evs,isT,Ze,EVs]; omega) (Zi (by simp [ev,evs,isT,Ze,EVs,hv]))⟩
    · have h':ns=[]:=List.length_eq_zero_iff.mp (by omega)
      subst h'
      refine ⟨0,?_⟩
      rw [Zk (m1:=m) (by simp [ev,evs,isT,Ze,EVs])]
      exact Zi (by simp [ev,evs,isT,Ze,EVs])
  obtain ⟨v,e⟩:=key
  refine ⟨v,?_⟩
  rw [Zkg]
  simp [e,Zh,Zm]
noncomputable def fitL:T→Prop:=fun t=>∀ cs,t = .str cs→cs.length≤lim
noncomputable def oneOf (x:T) (ws:List (List Nat)):Bool:=match x with
  | .str cs=>ws.any fun a=>a == cs
  | _=>false
theorem ZdI {n:Nat} {m:Mem} {x:T} {ws:List (List Nat)}:cf (n + 1) 4 [.t x,.t (.tup (ws.map .str))] m = .ok (.t (.bl (oneOf x ws))) m:=by
  have hh:∀ cs,cmpT .In (.str cs) (.tup (ws.map .str))=some (ws.any fun a=>a == cs):=fun cs=>by
    have h1:hasT (.str cs) (.tup (ws.map .str))=some (ws.any fun a=>a == cs):=by
      have ha:∀ ws:List (List Nat),(ws.map T.str).all flat=true:=fun ws=>by simp [flat]
      have hb:∀ ws:List (List Nat),((ws.map T.str).any fun t=>eqT t (.str cs))=ws.any fun a=>a == cs:=fun ws=>by
        induction ws with
        | nil=>rfl
        | cons w ws ih=>simp [eqT] at ih ⊢; rw [ih]
      unfold hasT
      dsimp only
      rw [ha,hb]
      rfl
    rw [← h1]
    cases cs with
    | nil=>rfl
    | cons c r=>cases r <;> rfl
  rw [Zeb]
  cases x with
  | str cs=>simp [Jr,ex,ev,evs,isT,Ze,EVs,hh,oneOf,fin]
  | _=>exact ZV rfl rfl rfl (Zm (cell:=false) rfl)
noncomputable def ZfU:T→Bool
  | .str cs=>Xf cs
  | _=>false
theorem Zcv {n:Nat} {m:Mem} {x:T} (h:fitL x):cf (n + 2) 1 [.t x] m = .ok (.t (.bl (ZfU x))) m:=by
  cases x with
  | str cs=>exact ZeW (h cs rfl)
  | _=>exact Zgz rfl
noncomputable def Jt:T→Bool
  | .tup [a]=>oneOf a [[97,110,121]]
  | .tup [a,b]=>oneOf a [[105,115],[98,121]] && ZfU b
  | .tup [a,b,c]=>oneOf a [[108,101,97,115,116],[109,111,115,116]] && ZfU b && numB c
  | _=>false
noncomputable def fit1:T→Prop
  | .tup ts=>∀ t∈ts,fitL t
  | _=>True
theorem one1 {n:Nat} {m:Mem} {x:T} {w:List Nat}:cf (n + 1) 4 [.t x,.t (.tup [.str w])] m = .ok (.t (.bl (oneOf x [w]))) m:=ZdI (ws:=[w])
theorem one2 {n:Nat} {m:Mem} {x:T} {w v:List Nat}:cf (n + 1) 4 [.t x,.t (.tup [.str w,.str v])] m = .ok (.t (.bl (oneOf x [w,v]))) m:=ZdI (ws:=[w,v])
theorem at2 {α:Type} (a b c:α) (r:List α):atT (a :: b :: c :: r) 2=some c:=by
  have:(2:Int) < (r.length:Int) + 1 + 1 + 1:=by omega
  simp [atT,ixOf,this]
theorem Zjv {n:Nat} {m:Mem} {x:T} (h:fit1 x):cf (n + 3) 5 [.t x] m = .ok (.t (.bl (Jt x))) m:=by
  have key:ex (cf (n + 2)) gv Z6 [some (.t x)] m = .ok (.ret (.t (.bl (Jt x)))) m:=by
    unfold Z6
    cases x with
    | tup ts =>
      rw [Zk (m1:=m) rfl]
      match ts,h with
      | [],_ =>
        rw [Zk (m1:=m) rfl,Zk (m1:=m) rfl,Zk (m1:=m) rfl]
        exact Zi rfl
      | [a],_ =>
        exact ZK (m1:=m) rfl (Zi (by simp [ev,evs,isT,Ze,EVs,at0,one1 (n:=n + 1),lim,Jt]))
      | [a,b],h =>
        rw [Zk (m1:=m) rfl]
        have hb:=Zcv (n:=n) (m:=m) (x:=b) (h b (by simp))
        refine ZK (m1:=m) rfl (Zi ?_)
        cases ho:oneOf a [[105,115],[98,121]] <;> simp [ev,evs,isT,Ze,EVs,at0,at1,one2 (n:=n + 1),lim,Jt,ho,hb]
      | [a,b,c],h =>
        rw [Zk (m1:=m) rfl,Zk (m1:=m) rfl]
        have hb:=Zcv (n:=n) (m:=m) (x:=b) (h b (by simp))
        have hc:=ZdX (n:=n) (m:=m) (x:=c)
        refine ZK (m1:=m) rfl (Zi ?_)
        cases ho:oneOf a [[108,101,97,115,116],[109,111,115,116]] <;> cases hw:ZfU b <;> simp [ev,evs,isT,Ze,EVs,at0,at1,at2,one2 (n:=n + 1),lim,Jt,ho,hb,hw,hc]
      | a :: b :: c :: d :: r,_ =>
        have h1:¬ (r.length:Int) + 1 + 1 + 1 + 1=1:=by omega
        have h2:¬ (r.length:Int) + 1 + 1 + 1 + 1=2:=by omega
        have h3:¬ (r.length:Int) + 1 + 1 + 1 + 1=3:=by omega
        rw [Zk (m1:=m) (by simp [ev,evs,isT,Ze,EVs,h1]),Zk (m1:=m) (by simp [ev,evs,isT,Ze,EVs,h2]),Zk (m1:=m) (by simp [ev,evs,isT,Ze,EVs,h3])]
        exact Zi rfl
    | _=>exact ZK (m1:=m) rfl (Zi rfl)
  exact ZV (Za7 _ _ _) rfl key (Zm (cell:=false) rfl)
noncomputable def X4:T→Bool
  | .tup ts=>decide (2≤ts.length) && decide (ts.length≤6)
  | _=>false
theorem ZdV {n:Nat} {m:Mem} {x:T}:cf (n + 1) 6 [.t x] m = .ok (.t (.bl (X4 x))) m:=by
  rw [Zc9]
  cases x with
  | tup ts =>
    by_cases h:2≤ts.length
    · have h':(2:Int)≤ts.length:=by omega
      simp [QH,ex,ev,evs,isT,Ze,EVs,Xb,XF,h',X4,h,fin]
      omega
    · have h':¬ (2:Int)≤ts.length:=by omega
      simp [QH,ex,ev,evs,isT,Ze,EVs,Xb,XF,h',X4,h,fin]
  | _=>exact ZV rfl rfl rfl (Zm (cell:=false) rfl)
noncomputable def kids:T→List T
  | .tup [a,b]=>if oneOf a [[110,111,116]] then [b] else if oneOf a [[97,110,100],[111,114]] && X4 b then (match b with
    | .tup ts=>ts
    | _=>[]) else []
  | _=>[]
theorem Zdk {n:Nat} {m:Mem} {x:T}:cf (n + 2) 7 [.t x] m = .ok (.t (.tup (kids x))) m:=by
  have key:ex (cf (n + 1)) gv Q4 [some (.t x)] m = .ok (.ret (.t (.tup (kids x)))) m:=by
    unfold Q4
    cases x with
    | tup ts =>
      match ts with
      | []=>exact ZK (m1:=m) rfl (Zi rfl)
      | [a]=>exact ZK (m1:=m) rfl (Zi rfl)
      | [a,b] =>
        rw [Zk (m1:=m) rfl]
        cases hn:oneOf a [[110,111,116]] with
        | true=>exact ZK (m1:=m) (by simp [ev,evs,isT,Ze,EVs,at0,one1 (n:=n),lim,hn]) (Zi (by simp [ev,evs,isT,Ze,EVs,at1,lim,kids,hn]))
        | false =>
          rw [Zk (m1:=m) (by simp [ev,evs,isT,Ze,EVs,at0,one1 (n:=n),lim,hn])]
          cases ho:oneOf a [[97,110,100],[111,114]] with
          | false =>
            rw [Zk (m1:=m) (by simp [ev,evs,isT,Ze,EVs,at0,one2 (n:=n),lim,ho])]
            exact Zi (by simp [ev,evs,isT,Ze,EVs,lim,kids,hn,ho])
          | true =>
            cases hj:X4 b with
            | false =>
              rw [Zk (m1:=m) (by simp [ev,evs,isT,Ze,EVs,at0,at1,one2 (n:=n),lim,ho,ZdV (n:=n),hj])]
              exact Zi (by simp [ev,evs,isT,Ze,EVs,lim,kids,hn,ho,hj])
            | true =>
              refine ZK (m1:=m) (by simp [ev,evs,isT,Ze,EVs,at0,at1,one2 (n:=n),lim,ho,ZdV (n:=n),hj]) (Zi ?_)
              cases b with
              | tup ts=>simp [ev,evs,isT,Ze,EVs,at1,kids,hn,ho,hj]
              | _=>cases hj
      | a :: b :: c :: r =>
        have h1:¬ (r.length:Int) + 1 + 1 + 1=2:=by omega
        exact ZK (m1:=m) (by simp [ev,evs,isT,Ze,EVs,h1]) (Zi rfl)
    | _=>exact ZK (m1:=m) rfl (Zi rfl)
  exact ZV (Zd8 _ _ _) rfl key (Zm (cell:=false) rfl)
noncomputable def Je (x:T):Bool:=Jt x || decide (0 < (kids x).length)
theorem Zl8 {n:Nat} {m:Mem} {x:T} (h:fit1 x):cf (n + 4) 8 [.t x] m = .ok (.t (.bl (Je x))) m:=by
  have key:ex (cf (n + 3)) gv Jo [some (.t x)] m = .ok (.ret (.t (.bl (Je x)))) m:=by
    unfold Jo
    refine Zi ?_
    cases hp:Jt x <;> simp [ev,evs,isT,Ze,EVs,Zjv (n:=n) h,hp,Zdk (n:=n + 1),Je]
  exact ZV (Ze8 _ _ _) rfl key (Zm (cell:=false) rfl)
theorem Zl0 (x:T):(kids x).length≤6:=by
  unfold kids
  split
  · rename_i a b
    split
    · simp
    · split
      · rename_i h
        rw [Bool.and_eq_true] at h
        cases b with
        | tup ts =>
          have:=h.2
          unfold X4 at this
          simp at this
          exact this.2
        | _=>simp
      · simp
  · simp
theorem ZgG {n:Nat} {m:Mem} {l:List T} {e0 e2 e3:Option W} (hf:∀ x∈l,fit1 x) (hl:l.length≤lim):ev (cf (n + 4)) gv ZbX [e0,some (.t (.lst l)),e2,e3] m = .ok (.t (.lst (l.map fun x=>.bl (Je x)))) m:=by
  have h:=Qv (f:=QJ (cf (n + 4)) gv .nil X5) (tg:=.nm 0) (env:=[none]) (m:=m) (g:=fun x=>[.bl (Je x)]) l (fun t ht=>⟨[some (.t t)],rfl,by simp [QJ,tests,X5,ev,evs,isT,Ze,EVs,Zl8 (n:=n) (hf t ht)]⟩)
  rw [Qg] at h
  exact Qz (x:=.t (.lst l)) (m0:=m) rfl rfl h (by simpa using hl)
theorem Zh5 {n:Nat} {m:Mem} {x:T}:QJ (cf (n + 4)) gv .nil Q3 [some (.t x),none] m = .ok (kids x) m:=by
  have h:=Qv (f:=QJ (cf (n + 4)) gv .nil (.emit (.var 1))) (tg:=.nm 1) (env:=[some (.t x),none]) (m:=m) (g:=fun y=>[y]) (kids x) (fun t ht=>⟨[some (.t x),some (.t t)],rfl,by simp [QJ,tests,ev,evs,isT,Ze,EVs]⟩)
  rw [Qg,List.map_id'] at h
  have e:ev (cf (n + 4)) gv Q3 [some (.t x),none] m = .ok (.t (.lst (kids x))) m:=by
    have e1:ev (cf (n + 4)) gv Q3 [some (.t x),none] m=(ev (cf (n + 4)) gv (.call 7 (.cons (.var 0) .nil)) [some (.t x),none] m).bind fun y m0=>(Z7 y m0).bind fun ts m =>
        (JH (QJ (cf (n + 4)) gv .nil (.emit (.var 1))) (.nm 1) ts [some (.t x),none] m).bind fun out m=>.ok (.t (.lst out)) (giveBack y m0 m):=by
      unfold Q3
      rw [ev]
      rfl
    rw [e1]
    have e2:ev (cf (n + 4)) gv (.call 7 (.cons (.var 0) .nil)) [some (.t x),none] m = .ok (.t (.tup (kids x))) m:=by simp [ev,evs,isT,Ze,EVs,Zdk (n:=n + 2)]
    rw [e2]
    show (JH (QJ (cf (n + 4)) gv .nil (.emit (.var 1))) (.nm 1) (kids x) [some (.t x),none] m).bind _=_
    rw [h]
    rfl
  unfold QJ
  simp [tests,Zh,e,ZiL]
theorem Zh6 {n:Nat} {m:Mem} {l:List T} {e0 e2 e3:Option W} (hl:(l.flatMap kids).length≤lim):ev (cf (n + 4)) gv ZbY [e0,some (.t (.lst l)),e2,e3] m = .ok (.t (.lst (l.flatMap kids))) m:=by
  have h:=Qv (f:=QJ (cf (n + 4)) gv .nil Q3) (tg:=.nm 0) (env:=[none,none]) (m:=m) (g:=kids) l (fun t ht=>⟨[some (.t t),none],rfl,Zh5⟩)
  exact Qz (x:=.t (.lst l)) (m0:=m) rfl rfl h hl
noncomputable def lay:Nat→List T→List T
  | 0,l=>l
  | k + 1,l=>lay k (l.flatMap kids)
noncomputable def run:Nat→Nat→List T→Option (List T)
  | 0,_,l=>some l
  | k + 1,p,l=>if 40 < p + l.length∨l.all Je=false then none else run k (p + l.length) (l.flatMap kids)
theorem Zj3 (l:List T):(l.flatMap kids).length≤6 * l.length:=by
  induction l with
  | nil=>simp
  | cons x l ih =>
    have:=Zl0 x
    rw [List.flatMap_cons,List.length_append,List.length_cons]
    omega
theorem ZiI (l:List T):((l.map Je).all id)=l.all Je:=by rw [List.all_map]; rfl
theorem layers {n:Nat} {m:Mem} {x:Option W}:∀ (ts:List T) (l:List T) (p:Nat) (d:Option W),(∀ k,∀ y∈lay k l,fit1 y)→l.length≤lim→match run ts.length p l with
    | none=>QT (ex (cf (n + 4)) gv Zy) (.nm 3) ts [x,some (.t (.lst l)),some (.t (.int p)),d] m = .ok (.ret (.t (.bl false))) m
    | some l'=>∃ p' d',QT (ex (cf (n + 4)) gv Zy) (.nm 3) ts [x,some (.t (.lst l)),some (.t (.int p)),d] m = .ok (.next [x,some (.t (.lst l')),p',d']) m
  | [],l,p,d,_,_=>⟨_,_,rfl⟩
  | t :: ts,l,p,d,hf,hl=>by
    have hd:Xd (.nm 3) t [x,some (.t (.lst l)),some (.t (.int p)),d]=some [x,some (.t (.lst l)),some (.t (.int p)),some (.t t)]:=rfl
    have hfo:=ZgG (n:=n) (m:=m) (l:=l) (e0:=x) (e2:=some (.t (.int ((p:Int) + l.length)))) (e3:=some (.t t)) (fun y hy=>hf 0 y hy) hl
    have ha:=ZlY (Zar Je l)
    rw [ZiI] at ha
    have haug:∀ k,ex (cf (n + 4)) gv (.aug 2 .Add (.blt .len (.cons (.var 1) .nil)) k) [x,some (.t (.lst l)),some (.t (.int p)),some (.t t)] m=ex (cf (n + 4)) gv k [x,some (.t (.lst l)),some (.t (.int ((p:Int) + l.length))),some (.t t)] m:=fun k=>by
      rw [ex]
      simp [ev,evs,isT,Ze,EVs,augT]
    rw [List.length_cons,run]
    by_cases hc:40 < p + l.length∨l.all Je=false
    · rw [if_pos hc]
      show QT _ _ _ _ _=_
      rw [QT,hd]
      show (ex (cf (n + 4)) gv Zy [x,some (.t (.lst l)),some (.t (.int p)),some (.t t)] m).bind _=_
      have e:ex (cf (n + 4)) gv Zy [x,some (.t (.lst l)),some (.t (.int p)),some (.t t)] m = .ok (.ret (.t (.bl false))) m:=by
        unfold Zy
        rw [haug]
        refine ZK (m1:=m) ?_ (Zi rfl)
        by_cases h4:40 < p + l.length
        · have h4':(40:Int) < (p:Int) + l.length:=by omega
          simp [ev,evs,isT,Ze,EVs,J6,h4']
        · have h4':¬ (40:Int) < (p:Int) + l.length:=by omega
          have hal:l.all Je=false:=by
            rcases hc with h | h
            · exact absurd h h4
            · exact h
          rw [hal] at ha
          simp [ev,evs,isT,Ze,EVs,J6,h4',hfo,ha]
      rw [e]
      rfl
    · rw [if_neg hc]
      have h4:¬ 40 < p + l.length:=fun h=>hc (.inl h)
      have hal:l.all Je=true:=by
        cases h:l.all Je with
        | true=>rfl
        | false=>exact absurd (.inr h) hc
      have hfl:=Zj3 l
      have hl2:(l.flatMap kids).length≤lim:=by unfold lim; omega
      have hk:=Zh6 (n:=n) (m:=m) (e0:=x) (e2:=some (.t (.int ((p:Int) + l.length)))) (e3:=some (.t t)) hl2
      have e:ex (cf (n + 4)) gv Zy [x,some (.t (.lst l)),some (.t (.int p)),some (.t t)] m = .ok (.next [x,some (.t (.lst (l.flatMap kids))),some (.t (.int ((p + l.length:Nat):Int))),some (.t t)]) m:=by
        unfold Zy
        rw [haug]
        have h4':¬ (40:Int) < (p:Int) + l.length:=by omega
        rw [hal] at ha
        rw [Zk (m1:=m) (by simp [ev,evs,isT,Ze,EVs,J6,h4',hfo,ha])]
        rw [Zr hk]
        rw [ex]
        simp
      have ih:=layers (n:=n) (m:=m) (x:=x) ts (l.flatMap kids) (p + l.length) (some (.t t)) (fun k y hy=>hf (k + 1) y hy) hl2
      have step:QT (ex (cf (n + 4)) gv Zy) (.nm 3) (t :: ts) [x,some (.t (.lst l)),some (.t (.int p)),d] m=QT (ex (cf (n + 4)) gv Zy) (.nm 3) ts [x,some (.t (.lst (l.flatMap kids))),some (.t (.int ((p + l.length:Nat):Int))),some (.t t)] m:=by
        rw [QT,hd]
        show (ex (cf (n + 4)) gv Zy [x,some (.t (.lst l)),some (.t (.int p)),some (.t t)] m).bind _=_
        rw [e]
        rfl
      rw [step]
      exact ih
noncomputable def ZbG (x:T):Bool:=match run 6 0 [x] with
  | none=>false
  | some l=>l.isEmpty
theorem ZgA {n:Nat} {m:Mem} {x:T} (hf:∀ k,∀ y∈lay k [x],fit1 y):cf (n + 5) 9 [.t x] m = .ok (.t (.bl (ZbG x))) m:=by
  have key:ex (cf (n + 4)) gv JQ [some (.t x),none,none,none] m = .ok (.ret (.t (.bl (ZbG x)))) m:=by
    unfold JQ
    rw [Zr (w:=.t (.lst [x])) (m1:=m) rfl]
    rw [Zr (w:=.t (.int 0)) (m1:=m) rfl]
    simp only [List.set_cons_succ,List.set_cons_zero]
    have hit:ev (cf (n + 4)) gv (.blt .range1 (.cons (.gl 4) .nil)) [some (.t x),some (.t (.lst [x])),some (.t (.int 0)),none] m = .ok (.t (.lst (rangeT 0 6))) m:=by
      simp [ev,evs,isT,Ze,EVs,ZgF,ZjY (show (6:Int) < 2 ^ 62∧-(2 ^ 62)≤(6:Int) by decide)]
    have h:=layers (n:=n) (m:=m) (x:=some (.t x)) (rangeT 0 6) [x] 0 none hf (by show 1≤lim; decide)
    have hr:(rangeT 0 6).length=6:=rfl
    rw [hr] at h
    unfold ZbG
    cases q:run 6 0 [x] with
    | none =>
      rw [q] at h
      have h:QT (ex (cf (n + 4)) gv Zy) (.nm 3) (rangeT 0 6) [some (.t x),some (.t (.lst [x])),some (.t (.int 0)),none] m = .ok (.ret (.t (.bl false))) m:=h
      rw [ex,hit]
      show (QT (ex (cf (n + 4)) gv Zy) (.nm 3) (rangeT 0 6) [some (.t x),some (.t (.lst [x])),some (.t (.int 0)),none] m).bind _=_
      rw [h]
      rfl
    | some l' =>
      rw [q] at h
      obtain ⟨p',d',h⟩:=h
      have h:QT (ex (cf (n + 4)) gv Zy) (.nm 3) (rangeT 0 6) [some (.t x),some (.t (.lst [x])),some (.t (.int 0)),none] m = .ok (.next [some (.t x),some (.t (.lst l')),p',d']) m:=h
      rw [Zc3 hit rfl h]
      refine Zi ?_
      cases l' <;> simp [ev,evs,isT,Ze,EVs,giveBack]
      omega
  exact ZV (ZgS _ _ _) rfl key (Zm (cell:=false) rfl)
theorem ZaF:∀ (k:Nat) (a b:List T),lay k (a++b)=lay k a++lay k b
  | 0,_,_=>rfl
  | k + 1,a,b=>by rw [lay,lay,lay,List.flatMap_append,ZaF k]
theorem ZeT:∀ k:Nat,lay k []=[]
  | 0=>rfl
  | k + 1=>ZeT k
theorem Zh2 {k:Nat} {y:T}:∀ {l:List T},y∈lay k l→∃ x∈l,y∈lay k [x]
  | [],h=>by rw [ZeT] at h; cases h
  | x :: l,h=>by
    rw [show x :: l=[x]++l from rfl,ZaF,List.mem_append] at h
    rcases h with h | h
    · exact ⟨x,List.mem_cons_self,h⟩
    · obtain ⟨z,h1,h2⟩:=Zh2 h
      exact ⟨z,List.mem_cons_of_mem _ h1,h2⟩
theorem ZeS {k:Nat} {x y:T}:∀ {l:List T},x∈l→y∈lay k [x]→y∈lay k l
  | z :: l,hx,hy=>by
    rw [show z :: l=[z]++l from rfl,ZaF,List.mem_append]
    rcases List.mem_cons.mp hx with rfl | hx
    · exact .inl hy
    · exact .inr (ZeS hx hy)
theorem ZbA (k:Nat) (x:T):lay (k + 1) [x]=lay k (kids x):=by
  rw [lay]
  simp
noncomputable def tot:Nat→List T→Nat
  | 0,_=>0
  | d + 1,l=>l.length + tot d (l.flatMap kids)
theorem Zce:∀ (d:Nat) (a b:List T),tot d (a++b)=tot d a + tot d b
  | 0,_,_=>rfl
  | d + 1,a,b=>by
    rw [tot,tot,tot,List.flatMap_append,Zce d,List.length_append]
    omega
theorem Zav:∀ d:Nat,tot d []=0
  | 0=>rfl
  | d + 1=>by rw [tot]; simpa using Zav d
theorem Zau (d:Nat):∀ l:List T,tot d l=(l.map fun x=>tot d [x]).sum
  | []=>by rw [Zav]; rfl
  | x :: l=>by rw [show x :: l=[x]++l from rfl,Zce,Zau d l]; simp
theorem QD (d:Nat) (x:T):tot (d + 1) [x]=1 + tot d (kids x):=by
  rw [tot]
  simp
theorem Zfl:∀ (k p:Nat) (l:List T),p + tot k l≤40→(∀ i < k,∀ y∈lay i l,Je y=true)→run k p l=some (lay k l)
  | 0,p,l,_,_=>rfl
  | k + 1,p,l,hp,hf=>by
    rw [tot] at hp
    rw [run,if_neg,lay]
    · exact Zfl k (p + l.length) _ (by omega) fun i hi y hy=>hf (i + 1) (by omega) y hy
    · rintro (h | h)
      · omega
      · have:l.all Je=true:=List.all_eq_true.mpr fun y hy=>hf 0 (by omega) y hy
        rw [this] at h
        cases h
theorem Zho:∀ (k p:Nat) (l l':List T),run k p l=some l'→l' = lay k l∧∀ i < k,∀ y∈lay i l,Je y=true
  | 0,p,l,l',h=>by cases h; exact ⟨rfl,fun i hi=>by omega⟩
  | k + 1,p,l,l',h=>by
    rw [run] at h
    split at h
    · cases h
    · rename_i hc
      obtain ⟨h1,h2⟩:=Zho k _ _ _ h
      refine ⟨h1,fun i hi y hy=>?_⟩
      cases i with
      | zero =>
        have:l.all Je=true:=by
          cases q:l.all Je with
          | true=>rfl
          | false=>exact absurd (.inr q) hc
        exact List.all_eq_true.mp this y hy
      | succ i=>exact h2 i (by omega) y hy
noncomputable def Bad (k:Nat) (x:T):Prop:=(∃ i,i < k∧∃ y∈lay i [x],Je y=false)∨lay k [x]≠[]
theorem bad_no {x:T} (h:Bad 6 x):ZbG x=false:=by
  unfold ZbG
  cases q:run 6 0 [x] with
  | none=>rfl
  | some l' =>
    obtain ⟨h1,h2⟩:=Zho 6 0 [x] l' q
    rcases h with ⟨i,hi,y,hy,hb⟩ | h
    · rw [h2 i hi y hy] at hb; cases hb
    · show l'.isEmpty=false
      rw [h1]
      cases q2:lay 6 [x] with
      | nil=>exact absurd q2 h
      | cons a b=>rfl
theorem bad_up {k:Nat} {x y:T} (hy:y∈kids x) (h:Bad k y):Bad (k + 1) x:=by
  rcases h with ⟨i,hi,z,hz,hb⟩ | h
  · exact .inl ⟨i + 1,by omega,z,by rw [ZbA]; exact ZeS hy hz,hb⟩
  · refine .inr ?_
    rw [ZbA]
    intro e
    cases q:lay k [y] with
    | nil=>exact h q
    | cons a b =>
      have:=ZeS hy (show a∈lay k [y] by rw [q]; exact List.mem_cons_self)
      rw [e] at this
      cases this
noncomputable def NB (x:T):Prop:=Je x=false∨∃ y∈kids x,Je y=false
theorem nb_bad {k:Nat} {x:T} (h:NB x):Bad (k + 1) x:=by
  rcases h with h | ⟨y,hy,h⟩
  · exact .inl ⟨0,by omega,x,by simp [lay],h⟩
  · cases k with
    | zero =>
      refine .inr ?_
      rw [ZbA,lay]
      intro e
      rw [e] at hy
      cases hy
    | succ k=>exact .inl ⟨1,by omega,y,by rw [ZbA]; exact hy,h⟩
noncomputable def Fit (x:T):Prop:=∀ k,∀ y∈lay k [x],fit1 y
theorem fit_mk {x:T} (h1:fit1 x) (h2:∀ y∈kids x,Fit y):Fit x:=by
  intro k y hy
  cases k with
  | zero =>
    have:y=x:=by simpa [lay] using hy
    rw [this]; exact h1
  | succ k =>
    rw [ZbA] at hy
    obtain ⟨z,hz,hy⟩:=Zh2 hy
    exact h2 z hz k y hy
theorem fit_flat {x:T} (h1:fit1 x) (h2:kids x=[]):Fit x:=fit_mk h1 fun y hy=>by rw [h2] at hy; cases hy
inductive WT:Nat→T→Prop where
  | leaf {d:Nat} {t:T}:Jt t=true→kids t=[]→fit1 t→WT (d + 1) t
  | nt {d:Nat} {a:T}:WT d a→WT (d + 1) (.tup [.str [110,111,116],a])
  | jn {d:Nat} {w:List Nat} {ts:List T}:(w=[97,110,100]∨w=[111,114])→2≤ts.length→ts.length≤6→(∀ t∈ts,WT d t)→WT (d + 1) (.tup [.str w,.tup ts])
theorem QW (a:T):kids (.tup [.str [110,111,116],a])=[a]:=by simp [kids,oneOf]
theorem Jy {w:List Nat} {ts:List T} (hw:w=[97,110,100]∨w=[111,114]) (h2:2≤ts.length) (h6:ts.length≤6):kids (.tup [.str w,.tup ts])=ts:=by
  rcases hw with rfl | rfl <;> simp [kids,oneOf,X4,h2,h6]
theorem WT.form {d:Nat} {t:T} (h:WT d t):Je t=true:=by
  cases h with
  | leaf h1 _ _=>simp [Je,h1]
  | nt _=>simp [Je,QW]
  | jn hw h2 h6 _ =>
    unfold Je
    rw [Jy hw h2 h6]
    have:0 < List.length _:=Nat.lt_of_lt_of_le (by decide:0 < 2) h2
    rw [decide_eq_true this,Bool.or_true]
theorem WT.kid {d:Nat} {t:T} (h:WT (d + 1) t):∀ y∈kids t,WT d y:=by
  intro y hy
  cases h with
  | leaf _ h2 _=>rw [h2] at hy; cases hy
  | nt h =>
    rw [QW,List.mem_singleton] at hy
    subst hy
    exact h
  | jn hw h2 h6 h=>rw [Jy hw h2 h6] at hy; exact h y hy
theorem WT.layer:∀ {d:Nat} (i:Nat) {l:List T},(∀ t∈l,WT d t)→∀ y∈lay i l,i < d∧WT (d - i) y
  | d,0,l,h,y,hy=>by
    have:=h y hy
    cases d with
    | zero=>cases this
    | succ d=>exact ⟨by omega,this⟩
  | 0,i + 1,l,h,y,hy=>by
    cases l with
    | nil=>rw [ZeT] at hy; cases hy
    | cons a l=>cases h a List.mem_cons_self
  | d + 1,i + 1,l,h,y,hy=>by
    have:=WT.layer (d:=d) i (l:=l.flatMap kids) (fun t ht=>by
      obtain ⟨x,hx,hk⟩:=List.mem_flatMap.mp ht
      exact (h x hx).kid t hk) y hy
    exact ⟨by omega,by rw [show d + 1 - (i + 1)=d - i by omega]; exact this.2⟩
theorem WT.notStr {d:Nat} {t:T} (h:WT d t) (cs:List Nat):t≠.str cs:=by
  rintro rfl
  cases h with
  | leaf h1 _ _=>cases h1
theorem WT.fit1 {d:Nat} {t:T} (h:WT d t):fit1 t:=by
  cases h with
  | leaf _ _ h3=>exact h3
  | nt h =>
    intro t ht cs e
    rcases List.mem_cons.mp ht with rfl | ht
    · cases e; decide
    · rw [List.mem_singleton] at ht
      subst ht
      exact absurd e (h.notStr cs)
  | jn hw _ _ _ =>
    intro t ht cs e
    subst e
    simp at ht
    subst ht
    rcases hw with rfl | rfl <;> decide
theorem WT.fit {d:Nat} {t:T} (h:WT d t):Fit t:=fun k y hy=>((WT.layer (d:=d) k (l:=[t]) (fun x hx=>by rw [List.mem_singleton] at hx; subst hx; exact h) y hy).2).fit1
theorem WT.mono:∀ {d e:Nat} {t:T},WT d t→d≤e→WT e t
  | d + 1,e + 1,_,.leaf h1 h2 h3,_=>.leaf h1 h2 h3
  | d + 1,e + 1,_,.nt h,hle=>.nt (h.mono (by omega))
  | d + 1,e + 1,_,.jn hw h2 h6 h,hle=>.jn hw h2 h6 fun t ht=>(h t ht).mono (by omega)
theorem ZiS {d:Nat} {t:T} (h:WT d t) (hd:d≤6) (hp:tot 6 [t]≤40):ZbG t=true:=by
  have hl:∀ x∈[t],WT d x:=fun x hx=>by rw [List.mem_singleton] at hx; subst hx; exact h
  have h6:lay 6 [t]=[]:=by
    cases q:lay 6 [t] with
    | nil=>rfl
    | cons a b =>
      have:=(WT.layer 6 hl a (by rw [q]; exact List.mem_cons_self)).1
      omega
  have:=Zfl 6 0 [t] (by omega) fun i hi y hy=>((WT.layer i hl y hy).2).form
  unfold ZbG
  rw [this,h6]
  rfl
theorem Zh1 {n:Nat} {m:Mem} {i:Nat} {s:List T} {e1 e2 e3:Option W} (hi:i < m.length) (hs:IsSt s) :
    ∃ (cs:List Nat) (s':List T),ev (cf (n + 1)) gv Zeg [some (.c i),e1,e2,e3] (put m i s) = .ok (.t (.lst (cs.map fun c=>.str [c]))) (put m i s')∧IsSt s'∧1≤cs.length∧cs.length≤8∧∀ c∈cs,c∈lett:=by
  obtain ⟨r,s1,h1,hs1,hr0,hr1⟩:=Qx (n:=n) (many:=8) hi hs (by decide) (by decide)
  obtain ⟨xss,m',h2,⟨s2,rfl,hs2⟩,ht⟩:=Za9 (f:=QJ (cf (n + 1)) gv .nil ZbK) (tg:=.nm 0) (env:=[none,some (.c i)]) (P:=fun m'=>∃ s,m' = put m i s∧IsSt s) (R:=fun _ xs=>∃ c,c∈lett∧xs=[.str [c]]) (rangeT 0 (1 + r).toNat) (put m i s1) ⟨s1,rfl,hs1⟩ (by
    rintro t ht m' ⟨s,rfl,hs⟩
    obtain ⟨q,s3,h3,hs3,hq0,hq1⟩:=Qx (n:=n) (many:=26) hi hs (by decide) (by decide)
    obtain ⟨c,hc,hcm⟩:=Xu (xs:=lett) hq0 (by simpa [lett] using hq1)
    refine ⟨[some (.t t),some (.c i)],[.str [c]],put m i s3,rfl,?_,⟨s3,rfl,hs3⟩,c,hcm,rfl⟩
    have hx:ixT (.str lett) (.int q)=some (.str [c]):=by rw [x_str (by decide),hc]; rfl
    unfold lett at hx
    simp [QJ,tests,ZbK,ev,evs,isT,Ze,EVs,h3,hx])
  have hl:∃ cs:List Nat,xss=cs.map (fun c=>[T.str [c]])∧∀ c∈cs,c∈lett:=by
    clear h2 h1
    have:∀ (ts:List T) (xss:List (List T)),Turns (fun _ xs=>∃ c,c∈lett∧xs=[T.str [c]]) ts xss→∃ cs:List Nat,xss=cs.map (fun c=>[T.str [c]])∧∀ c∈cs,c∈lett:=fun ts xss h=>by
      induction h with
      | nil=>exact ⟨[],rfl,fun c hc=>by cases hc⟩
      | cons h _ ih =>
        obtain ⟨c,hc,rfl⟩:=h
        obtain ⟨cs,rfl,hl⟩:=ih
        refine ⟨c :: cs,rfl,fun x hx=>?_⟩
        rcases List.mem_cons.mp hx with rfl | hx
        · exact hc
        · exact hl x hx
    exact this _ _ ht
  obtain ⟨cs,rfl,hl⟩:=hl
  have hlen:=ht.length
  have hr:(rangeT 0 (1 + r).toNat).length=(1 + r).toNat:=by simp [rangeT]
  have hf:(cs.map (fun c=>[T.str [c]])).flatten=cs.map fun c=>T.str [c]:=by
    rw [← List.flatMap_def]; exact Qg _ _
  rw [hf] at h2
  rw [List.length_map] at hlen
  refine ⟨cs,s2,?_,hs2,by omega,by omega,hl⟩
  refine Qz (x:=.t (.lst (rangeT 0 (1 + r).toNat))) (m0:=put m i s1) (m1:=put m i s1) ?_ rfl h2 (by rw [List.length_map]; unfold lim; omega)
  simp [ev,evs,isT,Ze,EVs,h1,ZjY (show 1 + r < 2 ^ 62∧-(2 ^ 62)≤1 + r by omega)]
theorem Zb9 (cs:List Nat):Zc [] (cs.map fun c=>[c])=cs:=by
  rw [ZbD,← List.flatMap_def,Qg]
  simp
theorem ZkQ {n:Nat} {m:Mem} {i:Nat} {s:List T} (hi:i < m.length) (hs:IsSt s):∃ (cs:List Nat) (s':List T),cf (n + 2) 23 [.c i] (put m i s) = .ok (.t (.str cs)) (put m i s')∧IsSt s'∧Xf cs=true:=by
  have key:∃ (cs:List Nat) (s':List T),ex (cf (n + 1)) gv ZaL [some (.c i),none,none,none] (put m i s) = .ok (.ret (.t (.str cs))) (put m i s')∧IsSt s'∧Xf cs=true:=by
    obtain ⟨r,s1,h1,hs1,r0,r1⟩:=Qx (n:=n) (many:=3) hi hs (by decide) (by decide)
    unfold ZaL
    rw [Zr (w:=.t (.lst [.str [114,121,101],.str [111,108,100],.str [97],.str [97,110],.str [97,110,100,121],.str [105,115,108,101],.str [98,121,116,101],.str [111,114,98],.str [110,111,116,97],.str [97,110,121,111,110,101],.str [122,122,122,122,122,122,122,122],.str [98]])) (m1:=put m i s) (by simp [ev,evs,isT,Ze,EVs,lim])]
    by_cases hr:0 < r
    · obtain ⟨r2,s2,h2,hs2,g0,g1⟩:=Qx (n:=n) (many:=12) hi hs1 (by decide) (by decide)
      obtain ⟨w,hw,hm⟩:=Xu (xs:=[T.str [114,121,101],.str [111,108,100],.str [97],.str [97,110],.str [97,110,100,121],.str [105,115,108,101],.str [98,121,116,101],.str [111,114,98],.str [110,111,116,97],.str [97,110,121,111,110,101],.str [122,122,122,122,122,122,122,122],.str [98]]) g0 (by simpa using g1)
      have hw':∃ cs:List Nat,w = .str cs∧Xf cs=true:=by
        simp only [List.mem_cons,List.not_mem_nil,or_false] at hm
        rcases hm with rfl | rfl | rfl | rfl | rfl | rfl | rfl | rfl | rfl | rfl | rfl | rfl <;> exact ⟨_,rfl,by decide⟩
      obtain ⟨cs,rfl,hwb⟩:=hw'
      refine ⟨cs,s2,?_,hs2,hwb⟩
      exact ZK (m1:=put m i s1) (by simp [ev,evs,isT,Ze,EVs,h1,hr]) (Zi (by simp [ev,evs,isT,Ze,EVs,h2,hw]))
    · rw [Zk (m1:=put m i s1) (by simp [ev,evs,isT,Ze,EVs,h1,hr] <;> omega)]
      obtain ⟨cs,s2,h2,hs2,l1,l8,hl⟩:=Zh1 (n:=n) (e1:=some (.t (.lst [.str [114,121,101],.str [111,108,100],.str [97],.str [97,110],.str [97,110,100,121],.str [105,115,108,101],.str [98,121,116,101],.str [111,114,98],.str [110,111,116,97],.str [97,110,121,111,110,101],.str [122,122,122,122,122,122,122,122],.str [98]]))) (e2:=none) (e3:=none) hi hs1
      have hj:=ZkK (m:=put m i s2) (sep:=[]) (strs_map (fun c=>[c]) cs) (by rw [ZkZ,List.length_nil,Nat.mul_zero]; unfold lim; omega)
      rw [Zb9] at hj
      rw [Zr (w:=.t (.lst (cs.map fun c=>.str [c]))) (m1:=put m i s2) (by simpa using h2)]
      rw [Zr (w:=.t (.str cs)) (m1:=put m i s2) (by simp [ev,evs,isT,Ze,EVs,Zkn,hj])]
      have hin:cmpT .In (.str cs) (.tup [.str [97,110,121],.str [105,115],.str [98,121],.str [110,111,116],.str [97,110,100],.str [111,114]])=some (Zc1 cs):=by
        cases cs with
        | nil=>simp [cmpT,Za5,ltT,inT,ZeX]
        | cons c r=>cases r <;> simp [cmpT,Za5,ltT,inT,ZeX]
      cases h6:Zc1 cs with
      | true =>
        have hc:cs∈six:=by
          obtain ⟨a,ha,hb⟩:=List.any_eq_true.mp h6
          rw [← eq_of_beq hb]; exact ha
        refine ⟨cs++[115],s2,?_,hs2,?_⟩
        · exact ZK (m1:=put m i s2) (by simp [ev,evs,isT,Ze,EVs,lim,hin,h6]) (Zi (by simp [ev,evs,isT,Ze,EVs,XN (a:=cs) (b:=[115]) (by simp [lim]; omega)]))
        · simp only [six,List.mem_cons,List.not_mem_nil,or_false] at hc
          rcases hc with rfl | rfl | rfl | rfl | rfl | rfl <;> decide
      | false =>
        refine ⟨cs,s2,?_,hs2,?_⟩
        · rw [Zk (m1:=put m i s2) (by simp [ev,evs,isT,Ze,EVs,lim,hin,h6])]
          exact Zi (by simp [ev,evs,isT,Ze,EVs])
        · have:(cs.all fun c=>decide (c∈lett))=true:=List.all_eq_true.mpr fun c hc=>decide_eq_true (hl c hc)
          simp [Xf,h6,l1,l8]
          exact hl
  obtain ⟨cs,s',e,hs',hw⟩:=key
  refine ⟨cs,s',?_,hs',hw⟩
  rw [Zkd]
  simp [e,Zh,Zm,QF]
theorem ZhR {n:Nat} {m:Mem} {i:Nat} {s:List T} (hi:i < m.length) (hs:IsSt s):∃ (v:Int) (s':List T),cf (n + 2) 24 [.c i] (put m i s) = .ok (.t (.int v)) (put m i s')∧IsSt s'∧0≤v∧v≤1000000000:=by
  have key:∃ (v:Int) (s':List T),ex (cf (n + 1)) gv JS [some (.c i),none] (put m i s) = .ok (.ret (.t (.int v))) (put m i s')∧IsSt s'∧0≤v∧v≤1000000000:=by
    obtain ⟨r1,s1,h1,hs1,a0,a1⟩:=Qx (n:=n) (many:=9) hi hs (by decide) (by decide)
    obtain ⟨r2,s2,h2,hs2,b0,b1⟩:=Qx (n:=n) (many:=9) hi hs1 (by decide) (by decide)
    obtain ⟨r3,s3,h3,hs3,c0,c1⟩:=Qx (n:=n) (many:=3) hi hs2 (by decide) (by decide)
    obtain ⟨r4,s4,h4,hs4,d0,d1⟩:=Qx (n:=n) (many:=1000000001) hi hs3 (by decide) (by decide)
    obtain ⟨r5,s5,h5,hs5,k0,k1⟩:=Qx (n:=n) (many:=4) hi hs4 (by decide) (by decide)
    obtain ⟨z,hz,hzm⟩:=Xu (xs:=[T.int r1,.int r2,.int (1000000000 - r3),.int r4]) k0 (by simpa using k1)
    have hz':∃ v:Int,z = .int v∧0≤v∧v≤1000000000:=by
      simp only [List.mem_cons,List.not_mem_nil,or_false] at hzm
      rcases hzm with rfl | rfl | rfl | rfl <;> exact ⟨_,rfl,by omega,by omega⟩
    obtain ⟨v,rfl,hv⟩:=hz'
    refine ⟨v,s5,?_,hs5,hv⟩
    unfold JS
    rw [Zr (w:=.t (.lst [T.int r1,.int r2,.int (1000000000 - r3),.int r4])) (m1:=put m i s4) (by simp [ev,evs,isT,Ze,EVs,h1,h2,h3,h4,b_pow,lim])]
    exact Zi (by simp [ev,evs,isT,Ze,EVs,h5,hz])
  obtain ⟨v,s',e,hs',hl⟩:=key
  refine ⟨v,s',?_,hs',hl⟩
  rw [ZgT]
  simp [e,Zh,Zm,QF]
inductive Leaf:T→Prop where
  | any:Leaf (.tup [.str [97,110,121]])
  | two {w v:List Nat}:(w=[105,115]∨w=[98,121])→Xf v=true→Leaf (.tup [.str w,.str v])
  | three {w v:List Nat} {k:Int}:(w=[108,101,97,115,116]∨w=[109,111,115,116])→Xf v=true→0≤k→k≤1000000000→Leaf (.tup [.str w,.str v,.int k])
theorem Zfc {cs:List Nat} (h:Xf cs=true):cs.length≤lim:=by
  unfold Xf at h
  simp at h
  unfold lim
  omega
theorem Leaf.wt {d:Nat} {t:T} (h:Leaf t):WT (d + 1) t:=by
  cases h with
  | any=>exact .leaf (by decide) (by rfl) fun t ht cs e=>by subst e; simp at ht; subst ht; decide
  | two hw hv =>
    refine .leaf ?_ ?_ fun t ht cs e=>?_
    · rcases hw with rfl | rfl <;> simp [Jt,oneOf,ZfU,hv]
    · rcases hw with rfl | rfl <;> simp [kids,oneOf]
    · subst e
      simp at ht
      rcases ht with rfl | rfl
      · rcases hw with rfl | rfl <;> decide
      · exact Zfc hv
  | three hw hv h0 h1 =>
    refine .leaf ?_ ?_ fun t ht cs e=>?_
    · rcases hw with rfl | rfl <;> simp [Jt,oneOf,ZfU,hv,numB,h0,h1]
    · rfl
    · subst e
      simp at ht
      rcases ht with rfl | rfl
      · rcases hw with rfl | rfl <;> decide
      · exact Zfc hv
theorem ZeQ {n:Nat} {m:Mem} {i:Nat} {s:List T} (hi:i < m.length) (hs:IsSt s):∃ (t:T) (s':List T),cf (n + 3) 25 [.c i] (put m i s) = .ok (.t t) (put m i s')∧IsSt s'∧Leaf t:=by
  have key:∃ (t:T) (s':List T),ex (cf (n + 2)) gv ZaN [some (.c i),none] (put m i s) = .ok (.ret (.t t)) (put m i s')∧IsSt s'∧Leaf t:=by
    obtain ⟨r1,s1,h1,hs1,a0,a1⟩:=Qx (n:=n + 1) (many:=6) hi hs (by decide) (by decide)
    unfold ZaN
    rw [Zr (w:=.t (.int r1)) (m1:=put m i s1) (by simp [ev,evs,isT,Ze,EVs,h1])]
    by_cases h0:r1=0
    · exact ⟨_,s1,ZK (m1:=put m i s1) (by simp [ev,evs,isT,Ze,EVs,h0]) (Zi (by simp [ev,evs,isT,Ze,EVs,lim])),hs1,.any⟩
    · rw [Zk (m1:=put m i s1) (by simp [ev,evs,isT,Ze,EVs,h0])]
      obtain ⟨v,s2,h2,hs2,hv⟩:=ZkQ (n:=n) hi hs1
      by_cases h3:r1 < 3
      · obtain ⟨z,hz,hzm⟩:=Xu (xs:=[T.str [105,115],.str [98,121]]) (i:=r1 - 1) (by omega) (by simp; omega)
        have hz':∃ w:List Nat,z = .str w∧(w=[105,115]∨w=[98,121]):=by
          simp only [List.mem_cons,List.not_mem_nil,or_false] at hzm
          rcases hzm with rfl | rfl
          · exact ⟨_,rfl,.inl rfl⟩
          · exact ⟨_,rfl,.inr rfl⟩
        obtain ⟨w,rfl,hw⟩:=hz'
        exact ⟨_,s2,ZK (m1:=put m i s1) (by simp [ev,evs,isT,Ze,EVs,h3]) (Zi (by simp [ev,evs,isT,Ze,EVs,lim,hz,h2])),hs2,.two hw hv⟩
      · rw [Zk (m1:=put m i s1) (by simp [ev,evs,isT,Ze,EVs,h3] <;> omega)]
        obtain ⟨k,s3,h4,hs3,k0,k1⟩:=ZhR (n:=n) hi hs2
        obtain ⟨z,hz,hzm⟩:=Xu (xs:=[T.str [108,101,97,115,116],.str [109,111,115,116]]) (i:=r1 % 2) (by omega) (by simp; omega)
        have hz':∃ w:List Nat,z = .str w∧(w=[108,101,97,115,116]∨w=[109,111,115,116]):=by
          simp only [List.mem_cons,List.not_mem_nil,or_false] at hzm
          rcases hzm with rfl | rfl
          · exact ⟨_,rfl,.inl rfl⟩
          · exact ⟨_,rfl,.inr rfl⟩
        obtain ⟨w,rfl,hw⟩:=hz'
        exact ⟨_,s3,Zi (by simp [ev,evs,isT,Ze,EVs,lim,hz,h2,h4,b_mod]),hs3,.three hw hv k0 k1⟩
  obtain ⟨t,s',e,hs',hl⟩:=key
  refine ⟨t,s',?_,hs',hl⟩
  rw [Zke]
  simp [e,Zh,Zm,QF]
theorem ZkR:∀ (d:Nat) {n:Nat} {m:Mem} {i:Nat} {s:List T},i < m.length→IsSt s→∃ (t:T) (s':List T),cf (n + (d + 5)) 26 [.c i,.t (.int ((d:Int) + 1))] (put m i s) = .ok (.t t) (put m i s')∧IsSt s'∧WT (d + 1) t:=by
  intro d
  induction d with
  | zero =>
    intro n m i s hi hs
    obtain ⟨r1,s1,h1,hs1,a0,a1⟩:=Qx (n:=n + 3) (many:=6) hi hs (by decide) (by decide)
    obtain ⟨t,s2,h2,hs2,hl⟩:=ZeQ (n:=n + 1) hi hs1
    refine ⟨t,s2,?_,hs2,hl.wt⟩
    have e:ex (cf (n + 4)) gv Xr [some (.c i),some (.t (.int 1)),none,none] (put m i s) = .ok (.ret (.t t)) (put m i s2):=by
      unfold Xr
      rw [Zr (w:=.t (.int r1)) (m1:=put m i s1) (by simp [ev,evs,isT,Ze,EVs,h1])]
      exact ZK (m1:=put m i s1) (by simp [ev,evs,isT,Ze,EVs]) (Zi (by simp [ev,evs,isT,Ze,EVs,h2]))
    show cf (n + 4 + 1) _ _ _=_
    rw [ZfO]
    simp [e,Zh,Zm,QF]
  | succ d ih =>
    intro n m i s hi hs
    have key:∃ (t:T) (s':List T),ex (cf (n + (d + 5))) gv Xr [some (.c i),some (.t (.int ((d:Int) + 1 + 1))),none,none] (put m i s) = .ok (.ret (.t t)) (put m i s')∧IsSt s'∧WT (d + 1 + 1) t:=by
      obtain ⟨r1,s1,h1,hs1,a0,a1⟩:=Qx (n:=n + (d + 4)) (many:=6) hi hs (by decide) (by decide)
      have hd1:¬ (d:Int) + 1 + 1=1:=by omega
      unfold Xr
      rw [Zr (w:=.t (.int r1)) (m1:=put m i s1) (by
        have:cf (n + (d + 5)) 22 [.c i,.t (.int 6)] (put m i s)=_:=h1
        simp [ev,evs,isT,Ze,EVs,this])]
      by_cases h2:r1 < 2
      · obtain ⟨t,s2,h3,hs2,hl⟩:=ZeQ (n:=n + (d + 2)) hi hs1
        have h3:cf (n + (d + 5)) 25 [.c i] (put m i s1)=_:=h3
        exact ⟨t,s2,ZK (m1:=put m i s1) (by simp [ev,evs,isT,Ze,EVs,hd1,h2]) (Zi (by simp [ev,evs,isT,Ze,EVs,h3])),hs2,hl.wt⟩
      · rw [Zk (m1:=put m i s1) (by simp [ev,evs,isT,Ze,EVs,hd1,h2] <;> omega)]
        have hsub:(d:Int) + 1 + 1 - 1=(d:Int) + 1:=by omega
        by_cases h3:r1=2
        · obtain ⟨t,s2,h4,hs2,hw⟩:=ih (n:=n) hi hs1
          exact ⟨_,s2,ZK (m1:=put m i s1) (by simp [ev,evs,isT,Ze,EVs,h3]) (Zi (by simp [ev,evs,isT,Ze,EVs,hsub,h4,lim])),hs2,.nt hw⟩
        · rw [Zk (m1:=put m i s1) (by simp [ev,evs,isT,Ze,EVs,h3])]
          obtain ⟨r2,s2,h4,hs2,b0,b1⟩:=Qx (n:=n + (d + 4)) (many:=3) hi hs1 (by decide) (by decide)
          have h4:cf (n + (d + 5)) 22 [.c i,.t (.int 3)] (put m i s1)=_:=h4
          obtain ⟨z,hz,hzm⟩:=Xu (xs:=[T.int 2,.int 2,.int 5]) b0 (by simpa using b1)
          have hz':∃ v:Int,z = .int v∧2≤v∧v≤5:=by
            simp only [List.mem_cons,List.not_mem_nil,or_false] at hzm
            rcases hzm with rfl | rfl | rfl <;> exact ⟨_,rfl,by decide,by decide⟩
          obtain ⟨v,rfl,v0,v1⟩:=hz'
          obtain ⟨r3,s3,h5,hs3,c0,c1⟩:=Qx (n:=n + (d + 4)) (many:=v) hi hs2 (by omega) (by omega)
          have h5:cf (n + (d + 5)) 22 [.c i,.t (.int v)] (put m i s2)=_:=h5
          rw [Zr (w:=.t (.int (2 + r3))) (m1:=put m i s3) (by simp [ev,evs,isT,Ze,EVs,h4,hz,lim,h5])]
          obtain ⟨w0,hw0,hwm⟩:=Xu (xs:=[T.str [97,110,100],.str [111,114]]) (i:=r1 % 2) (by omega) (by simp; omega)
          have hw':∃ w:List Nat,w0 = .str w∧(w=[97,110,100]∨w=[111,114]):=by
            simp only [List.mem_cons,List.not_mem_nil,or_false] at hwm
            rcases hwm with rfl | rfl
            · exact ⟨_,rfl,.inl rfl⟩
            · exact ⟨_,rfl,.inr rfl⟩
          obtain ⟨w,rfl,hw⟩:=hw'
          obtain ⟨xss,m',h6,⟨s4,rfl,hs4⟩,ht⟩:=Za9 (f:=QJ (cf (n + (d + 5))) gv .nil ZbL) (tg:=.nm 0) (env:=[none,some (.c i),some (.t (.int ((d:Int) + 1 + 1)))]) (P:=fun m'=>∃ s,m' = put m i s∧IsSt s) (R:=fun _ xs=>∃ t,xs=[t]∧WT (d + 1) t) (rangeT 0 (2 + r3).toNat) (put m i s3) ⟨s3,rfl,hs3⟩ (by
            rintro t ht m' ⟨s,rfl,hs⟩
            obtain ⟨x,s5,h7,hs5,hx⟩:=ih (n:=n) hi hs
            refine ⟨[some (.t t),some (.c i),some (.t (.int ((d:Int) + 1 + 1)))],[x],put m i s5,rfl,?_,⟨s5,rfl,hs5⟩,x,rfl,hx⟩
            simp [QJ,tests,ZbL,ev,evs,isT,Ze,EVs,hsub,h7])
          have hl:∃ ts:List T,xss.flatten=ts∧ts.length=xss.length∧∀ t∈ts,WT (d + 1) t:=by
            have:∀ (as:List T) (xss:List (List T)),Turns (fun _ xs=>∃ t,xs=[t]∧WT (d + 1) t) as xss→∃ ts:List T,xss.flatten=ts∧ts.length=xss.length∧∀ t∈ts,WT (d + 1) t:=fun as xss h=>by
              induction h with
              | nil=>exact ⟨[],rfl,rfl,fun t ht=>by cases ht⟩
              | cons h _ ih2 =>
                obtain ⟨x,rfl,hx⟩:=h
                obtain ⟨ts,e1,e2,e3⟩:=ih2
                refine ⟨x :: ts,by simp [e1],by simp [e2],fun t ht=>?_⟩
                rcases List.mem_cons.mp ht with rfl | ht
                · exact hx
                · exact e3 t ht
            exact this _ _ ht
          obtain ⟨ts,e1,e2,e3⟩:=hl
          rw [e1] at h6
          have hlen:=ht.length
          have hr:(rangeT 0 (2 + r3).toNat).length=(2 + r3).toNat:=by simp [rangeT]
          have hts:ts.length=(2 + r3).toNat:=by omega
          have hc:ev (cf (n + (d + 5))) gv Zeh [some (.c i),some (.t (.int ((d:Int) + 1 + 1))),some (.t (.int r1)),some (.t (.int (2 + r3)))] (put m i s3) = .ok (.t (.lst ts)) (put m i s4):=by
            refine Qz (x:=.t (.lst (rangeT 0 (2 + r3).toNat))) (m0:=put m i s3) (m1:=put m i s3) ?_ rfl h6 (by unfold lim; omega)
            simp [ev,evs,isT,Ze,EVs,ZjY (show 2 + r3 < 2 ^ 62∧-(2 ^ 62)≤2 + r3 by omega)]
          refine ⟨_,s4,Zi (w:=.t (.tup [.str w,.tup ts])) (by
            simp [ev,evs,isT,Ze,EVs,lim,b_mod,hw0,hc]),hs4,.jn hw (by omega) (by omega) e3⟩
    obtain ⟨t,s',e,hs',hw⟩:=key
    refine ⟨t,s',?_,hs',hw⟩
    have hdd:((d + 1:Nat):Int) + 1=(d:Int) + 1 + 1:=by omega
    rw [hdd]
    show cf (n + (d + 5) + 1) _ _ _=_
    rw [ZfO]
    simp [e,Zh,Zm,QF]
theorem JG {a:T} {ws:List (List Nat)} (h:oneOf a ws=true):∃ cs,a = .str cs∧cs∈ws:=by
  cases a with
  | str cs =>
    obtain ⟨w,h1,h2⟩:=List.any_eq_true.mp (show (ws.any fun a=>a == cs)=true from h)
    exact ⟨cs,rfl,by rw [← eq_of_beq h2]; exact h1⟩
  | _=>cases h
theorem ZaA {t:T} (h:Jt t=true):∃ w r,t = .tup (.str w :: r)∧w≠[110,111,116]∧w≠[97,110,100]∧w≠[111,114]:=by
  unfold Jt at h
  split at h
  · obtain ⟨w,rfl,hw⟩:=JG h
    simp at hw
    subst hw
    exact ⟨_,_,rfl,by decide,by decide,by decide⟩
  · rw [Bool.and_eq_true] at h
    obtain ⟨w,rfl,hw⟩:=JG h.1
    simp at hw
    rcases hw with rfl | rfl <;> exact ⟨_,_,rfl,by decide,by decide,by decide⟩
  · rw [Bool.and_eq_true,Bool.and_eq_true] at h
    obtain ⟨w,rfl,hw⟩:=JG h.1.1
    simp at hw
    rcases hw with rfl | rfl <;> exact ⟨_,_,rfl,by decide,by decide,by decide⟩
  · cases h
theorem ZaW (w a b:List Nat):cmpT .In (.str w) (.tup [.str a,.str b])=some (a == w || b == w):=by
  have h:hasT (.str w) (.tup [.str a,.str b])=some (a == w || b == w):=by simp [hasT,flat,eqT]
  rw [← h]
  cases w with
  | nil=>rfl
  | cons c r=>cases r <;> rfl
theorem ZjI:∀ (d:Nat) {n:Nat} {m:Mem} {t:T},WT d t→cf (n + (d + 1)) 27 [.t t] m = .ok (.t (.int (tot d [t]))) m:=by
  intro d
  induction d with
  | zero=>intro n m t h; cases h
  | succ d ih =>
    intro n m t h
    have key:ex (cf (n + (d + 1))) gv Xx [some (.t t)] m = .ok (.ret (.t (.int (tot (d + 1) [t])))) m:=by
      unfold Xx
      cases h with
      | leaf h1 h2 _ =>
        obtain ⟨w,r,rfl,n1,n2,n3⟩:=ZaA h1
        rw [Zk (m1:=m) (by simp [ev,evs,isT,Ze,EVs,at0,n1])]
        rw [Zk (m1:=m) (by simp [ev,evs,isT,Ze,EVs,at0,lim,ZaW,Ne.symm n2,Ne.symm n3])]
        refine Zi ?_
        rw [QD,h2,Zav]
        simp [ev,evs,isT,Ze,EVs]
      | nt h =>
        refine ZK (m1:=m) (by simp [ev,evs,isT,Ze,EVs,at0]) (Zi ?_)
        rw [QD,QW]
        simp [ev,evs,isT,Ze,EVs,at1,ih (n:=n) h]
      | @jn _ w ts hw h2 h6 h =>
        have hn:w≠[110,111,116]:=by rcases hw with rfl | rfl <;> decide
        rw [Zk (m1:=m) (by simp [ev,evs,isT,Ze,EVs,at0,hn])]
        have hin:cmpT .In (.str w) (.tup [.str [97,110,100],.str [111,114]])=some true:=by
          rw [ZaW]
          rcases hw with rfl | rfl <;> rfl
        refine ZK (m1:=m) (by simp [ev,evs,isT,Ze,EVs,at0,lim,hin]) (Zi ?_)
        have hc:ev (cf (n + (d + 1))) gv ZcF [some (.t (.tup [.str w,.tup ts]))] m = .ok (.t (.lst (ts.map fun x=>.int (tot d [x])))) m:=by
          have h3:=Qv (f:=QJ (cf (n + (d + 1))) gv .nil ZaH) (tg:=.nm 0) (env:=[none]) (m:=m) (g:=fun x=>[.int (tot d [x])]) ts (fun t ht=>⟨[some (.t t)],rfl,by simp [QJ,tests,ZaH,ev,evs,isT,Ze,EVs,ih (n:=n) (h t ht)]⟩)
          rw [Qg] at h3
          exact Qz (x:=.t (.tup ts)) (m0:=m) (by simp [ev,evs,isT,Ze,EVs,at1]) rfl h3 (by rw [List.length_map]; unfold lim; omega)
        have hsum:bltT .sum [.lst (ts.map fun x=>.int (tot d [x]))]=some (.int (tot d ts)):=by
          have e:∀ l:List T,ints? (l.map fun x=>T.int (tot d [x]))=some (l.map fun x=>(tot d [x]:Int)):=fun l=>by
            induction l with
            | nil=>rfl
            | cons a l ih2=>rw [List.map_cons,ints?,ih2]; rfl
          show (ints? _).map _=_
          rw [e]
          show some (T.int _)=_
          rw [Zau d ts]
          have e2:∀ l:List T,(l.map fun x=>(tot d [x]:Int)).sum=((l.map fun x=>tot d [x]).sum:Nat):=fun l=>by
            induction l with
            | nil=>rfl
            | cons a l ih2=>rw [List.map_cons,List.map_cons,List.sum_cons,List.sum_cons,ih2]; omega
          rw [e2]
        rw [QD,Jy hw h2 h6]
        simp [ev,evs,isT,Ze,EVs,hc,hsum]
    show cf (n + (d + 1) + 1) _ _ _=_
    rw [Ziw]
    simp [key,Zh,Zm]
theorem Leaf.kids0 {t:T} (h:Leaf t):kids t=[]:=by
  cases h with
  | any=>rfl
  | two hw _=>rcases hw with rfl | rfl <;> simp [kids,oneOf]
  | three _ _ _ _=>rfl
theorem Zd0 {n:Nat} {m:Mem} {i:Nat} (hi:i < m.length):∀ (ts:List T) (d:Nat) (s:List T) (e2 e3:Option W),d≤5→IsSt s →
    (∃ (t:T) (s':List T),QT (ex (cf (n + 12)) gv Qh) (.nm 2) ts [some (.c i),some (.t (.int ((d:Int) + 1))),e2,e3] (put m i s) = .ok (.ret (.t t)) (put m i s')∧IsSt s'∧WT 6 t∧tot 6 [t]≤40) ∨
    (∃ (e1 e2' e3':Option W) (s':List T),QT (ex (cf (n + 12)) gv Qh) (.nm 2) ts [some (.c i),some (.t (.int ((d:Int) + 1))),e2,e3] (put m i s) = .ok (.next [some (.c i),e1,e2',e3']) (put m i s')∧IsSt s')
  | [],d,s,e2,e3,_,hs=>.inr ⟨_,_,_,s,rfl,hs⟩
  | t0 :: ts,d,s,e2,e3,hd,hs=>by
    obtain ⟨t,s1,h1,hs1,hw⟩:=ZkR d (n:=n + (7 - d)) hi hs
    have hn:n + (7 - d) + (d + 5)=n + 12:=by omega
    rw [hn] at h1
    have hw6:WT 6 t:=hw.mono (by omega)
    have hp:=ZjI 6 (n:=n + 5) (m:=put m i s1) hw6
    have hp:cf (n + 12) 27 [.t t] (put m i s1)=_:=hp
    by_cases h40:tot 6 [t]≤40
    · refine .inl ⟨t,s1,?_,hs1,hw6,h40⟩
      have h40':((tot 6 [t]:Nat):Int)≤40:=by omega
      have e:ex (cf (n + 12)) gv Qh [some (.c i),some (.t (.int ((d:Int) + 1))),some (.t t0),e3] (put m i s) = .ok (.ret (.t t)) (put m i s1):=by
        unfold Qh
        rw [Zr (w:=.t t) (m1:=put m i s1) (by simp [ev,evs,isT,Ze,EVs,h1])]
        exact ZK (m1:=put m i s1) (by simp [ev,evs,isT,Ze,EVs,hp,h40']) (Zi (by simp [ev,evs,isT,Ze,EVs]))
      rw [QT]
      show (ex (cf (n + 12)) gv Qh [some (.c i),some (.t (.int ((d:Int) + 1))),some (.t t0),e3] (put m i s)).bind _=_
      rw [e]
      rfl
    · have h40':¬ ((tot 6 [t]:Nat):Int)≤40:=by omega
      have hmin:∃ d':Nat,d'≤5∧bltT .min2 [.int ((d:Int) + 1),.int 3]=some (.int ((d':Int) + 1)):=by
        by_cases h:(3:Int) < (d:Int) + 1
        · refine ⟨2,by decide,?_⟩
          show some (T.int (if (3:Int) < (d:Int) + 1 then 3 else (d:Int) + 1))=_
          rw [if_pos h]
          rfl
        · refine ⟨d,hd,?_⟩
          show some (T.int (if (3:Int) < (d:Int) + 1 then 3 else (d:Int) + 1))=_
          rw [if_neg h]
      obtain ⟨d',hd',hmin⟩:=hmin
      have e:ex (cf (n + 12)) gv Qh [some (.c i),some (.t (.int ((d:Int) + 1))),some (.t t0),e3] (put m i s) = .ok (.next [some (.c i),some (.t (.int ((d':Int) + 1))),some (.t t0),some (.t t)]) (put m i s1):=by
        unfold Qh
        rw [Zr (w:=.t t) (m1:=put m i s1) (by simp [ev,evs,isT,Ze,EVs,h1])]
        rw [Zk (m1:=put m i s1) (by simp [ev,evs,isT,Ze,EVs,hp,h40'] <;> omega)]
        rw [Zr (w:=.t (.int ((d':Int) + 1))) (m1:=put m i s1) (by simp [ev,evs,isT,Ze,EVs,hmin])]
        rw [ex]
        rfl
      have step:QT (ex (cf (n + 12)) gv Qh) (.nm 2) (t0 :: ts) [some (.c i),some (.t (.int ((d:Int) + 1))),e2,e3] (put m i s)=QT (ex (cf (n + 12)) gv Qh) (.nm 2) ts [some (.c i),some (.t (.int ((d':Int) + 1))),some (.t t0),some (.t t)] (put m i s1):=by
        rw [QT]
        show (ex (cf (n + 12)) gv Qh [some (.c i),some (.t (.int ((d:Int) + 1))),some (.t t0),e3] (put m i s)).bind _=_
        rw [e]
        rfl
      rw [step]
      exact Zd0 hi ts d' s1 _ _ hd' hs1
theorem Zl5 {n:Nat} {m:Mem} {i:Nat} {s:List T} (hi:i < m.length) (hs:IsSt s):∃ (t:T) (s':List T),cf (n + 13) 28 [.c i] (put m i s) = .ok (.t t) (put m i s')∧IsSt s'∧WT 6 t∧tot 6 [t]≤40:=by
  have key:∃ (t:T) (s':List T),ex (cf (n + 12)) gv ZaO [some (.c i),none,none,none] (put m i s) = .ok (.ret (.t t)) (put m i s')∧IsSt s'∧WT 6 t∧tot 6 [t]≤40:=by
    obtain ⟨r1,s1,h1,hs1,a0,a1⟩:=Qx (n:=n + 11) (many:=6) hi hs (by decide) (by decide)
    have hd:1 + r1=((r1.toNat:Nat):Int) + 1:=by omega
    unfold ZaO
    rw [Zr (w:=.t (.int (((r1.toNat:Nat):Int) + 1))) (m1:=put m i s1) (by simp [ev,evs,isT,Ze,EVs,h1,hd])]
    simp only [List.set_cons_succ,List.set_cons_zero]
    have hit:ev (cf (n + 12)) gv (.blt .range1 (.cons (.con (.int 6)) .nil)) [some (.c i),some (.t (.int (((r1.toNat:Nat):Int) + 1))),none,none] (put m i s1) = .ok (.t (.lst (rangeT 0 6))) (put m i s1):=by
      simp [ev,evs,isT,Ze,EVs,ZjY (show (6:Int) < 2 ^ 62∧-(2 ^ 62)≤(6:Int) by decide)]
    rcases Zd0 (n:=n) hi (rangeT 0 6) r1.toNat s1 none none (by omega) hs1 with ⟨t,s2,h2,hs2,hw,hp⟩ | ⟨e1,e2,e3,s2,h2,hs2⟩
    · refine ⟨t,s2,?_,hs2,hw,hp⟩
      rw [ex,hit]
      show (QT (ex (cf (n + 12)) gv Qh) (.nm 2) (rangeT 0 6) [some (.c i),some (.t (.int (((r1.toNat:Nat):Int) + 1))),none,none] (put m i s1)).bind _=_
      rw [h2]
      rfl
    · rw [Zc3 hit rfl h2]
      obtain ⟨t,s3,h3,hs3,hl⟩:=ZeQ (n:=n + 9) hi hs2
      have hk:kids t=[]:=hl.kids0
      refine ⟨.tup [.str [110,111,116],t],s3,Zi ?_,hs3,.nt hl.wt,?_⟩
      · simp [ev,evs,isT,Ze,EVs,giveBack,h3,lim]
      · rw [QD,QW,QD,hk,Zav]
        decide
  obtain ⟨t,s',e,hs',h⟩:=key
  refine ⟨t,s',?_,hs',h⟩
  rw [Zkf]
  simp [e,Zh,Zm,QF]
noncomputable def wl (ws:List (List Nat)):T:=.lst (ws.map .str)
noncomputable def wat (ws:List (List Nat)) (i:Nat):List Nat:=(ws[i]?).getD []
theorem wat_pre (pre:List (List Nat)) (w:List Nat) (post:List (List Nat)):wat (pre++w :: post) pre.length=w:=by simp [wat]
theorem Zbi {pre mid post:List (List Nat)} {j i:Nat} (h:j < mid.length) (e:i=pre.length + j:=by omega):wat (pre++mid++post) i=wat mid j:=by
  subst e
  unfold wat
  rw [List.append_assoc,List.getElem?_append_right (by omega),List.getElem?_append_left (by omega),show pre.length + j - pre.length=j by omega]
theorem Zg5 {pre mid post:List (List Nat)} {i:Nat} (e:i=pre.length + mid.length:=by omega):wat (pre++mid++post) i=wat post 0:=by
  subst e
  unfold wat
  rw [List.getElem?_append_right (by simp),List.length_append,Nat.sub_self]
theorem Qo {n:Nat} {m:Mem} {ws:List (List Nat)} {k:Int} {i:Nat} (hk:k=(i:Int)):cf (n + 1) 13 [.t (wl ws),.t (.int k)] m = .ok (.t (.str (wat ws i))) m:=by
  subst hk
  have key:ex (cf n) gv JM [some (.t (wl ws)),some (.t (.int i))] m = .ok (.ret (.t (.str (wat ws i)))) m:=by
    unfold JM
    have hc:ev (cf n) gv (.cmp .Lt (.var 1) (.blt .len (.cons (.var 0) .nil))) [some (.t (wl ws)),some (.t (.int i))] m = .ok (.t (.bl (decide (i < ws.length)))) m:=by
      refine (Zz (Zb rfl) (Jf (Zb rfl) (Zh3 _)) (c_lt _ _)).trans ?_
      rw [List.length_map]
      congr 3
      exact decide_eq_decide.mpr (by omega)
    by_cases h:i < ws.length
    · rw [decide_eq_true h] at hc
      refine ZK hc (Zi (ZbQ (Zb rfl) (Zb rfl) ?_))
      show atT (ws.map T.str) (i:Int)=_
      rw [at_get (by omega) (by rw [List.length_map]; omega)]
      simp [wat,h]
    · rw [decide_eq_false h] at hc
      rw [Zk hc]
      refine Zi ?_
      rw [show wat ws i=[] by simp [wat,List.getElem?_eq_none (Nat.not_lt.mp h)]]
      exact Zd _
  exact ZV (ZgQ _ _ _) rfl key (Zm (cell:=false) rfl)
theorem Zco {n:Nat} {m:Mem} {ws:List (List Nat)} {k:Int} {i:Nat} (hk:k=(i:Int)) (hl:(wat ws i).length≤lim) (hw:Xy (wat ws i)=true):cf (n + 2) 14 [.t (wl ws),.t (.int k)] m = .ok (.t (.str (wat ws i))) m:=by
  have key:ex (cf (n + 1)) gv JP [some (.t (wl ws)),some (.t (.int k)),none] m = .ok (.ret (.t (.str (wat ws i)))) m:=by
    unfold JP
    rw [Zr ((Z4 (Zb rfl) (Zb rfl)).trans (Qo hk))]
    dsimp only [List.set_cons_succ,List.set_cons_zero]
    have hi:=Zcw (n:=n) (m:=m) hl
    rw [hw] at hi
    rw [Zk (ZaY (k:=true) ((ZW (Zb rfl)).trans hi))]
    exact Zi (Zb rfl)
  exact ZV (ZgR _ _ _) rfl key (Zm (cell:=false) rfl)
noncomputable def digs:List Nat:=[48,49,50,51,52,53,54,55,56,57]
noncomputable def figB (cs:List Nat):Bool:=decide (1≤cs.length) && decide (cs.length≤10) && (cs.all fun c=>decide (c∈digs)) && (cs == [48] || cs.head? != some 48)
theorem Zj6 {n:Nat} {cs:List Nat} {m:Mem} (hl:cs.length≤lim):ev (cf n) gv QX [some (.t (.str cs))] m = .ok (.t (.lst (cs.map fun c=>.bl (decide (c∈digs))))) m:=by
  have h:=Qv (f:=QJ (cf n) gv .nil Ju) (tg:=.nm 0) (env:=[none]) (m:=m)
    (g:=fun t=>match t with | .str [c]=>[.bl (decide (c∈digs))] | _=>[]) (cs.map fun c=>.str [c]) (fun t ht=>by
      obtain ⟨c,_,rfl⟩:=List.mem_map.mp ht
      exact ⟨[some (.t (.str [c]))],rfl,ZiZ (Zc4 (Zz (Zb rfl) (ZgH ZgE) (c_in1 _ _)))⟩)
  have e:(cs.map fun c=>T.str [c]).flatMap (fun t=>match t with | .str [c]=>[T.bl (decide (c∈digs))] | _=>[])=cs.map fun c=>.bl (decide (c∈digs)):=by
    clear h hl
    induction cs with
    | nil=>rfl
    | cons c cs ih=>rw [List.map_cons,List.flatMap_cons,ih]; rfl
  rw [e] at h
  have hb:Z7 (.t (.str cs)) m = .ok (cs.map fun c=>.str [c]) m:=by simp [Z7,ZfB,hl]
  exact Qz (x:=.t (.str cs)) (m0:=m) (m1:=m) (Zb rfl) hb h (by rw [List.length_map]; exact hl)
theorem ZeL {n:Nat} {m:Mem} {cs:List Nat} (hl:cs.length≤lim):cf (n + 1) 12 [.t (.str cs)] m = .ok (.t (.bl (figB cs))) m:=by
  have key:ex (cf n) gv ZX [some (.t (.str cs))] m = .ok (.ret (.t (.bl (figB cs)))) m:=by
    unfold ZX
    have ha:ev (cf n) gv (.not (.blt .all (.cons QX .nil))) [some (.t (.str cs))] m = .ok (.t (.bl (!(cs.all fun c=>decide (c∈digs))))) m:=by
      refine (ZaY (Jf (Zj6 hl) (ZlY (Zar _ _)))).trans ?_
      rw [List.all_map]; rfl
    have hb:ev (cf n) gv (.chn .LtE .LtE (.con (.int 1)) (.blt .len (.cons (.var 0) .nil)) (.gl 9)) [some (.t (.str cs))] m = .ok (.t (.bl (decide (1≤cs.length) && decide (cs.length≤10)))) m:=by
      rw [ev,Zd,Zh,Jf (Zb rfl) (Zgx hl),Zh]
      simp only [view,Option.bind_some,c_le]
      by_cases h1:1≤cs.length
      · rw [decide_eq_true (show (1:Int)≤(cs.length:Int) by omega)]
        dsimp only
        rw [ZgH ZbM,Zh]
        simp only [view,Option.bind_some,c_le,h1,decide_true,Bool.true_and,Option.map_some,pur]
        congr 3
        exact decide_eq_decide.mpr (by omega)
      · rw [decide_eq_false (show ¬ (1:Int)≤(cs.length:Int) by omega)]
        simp [h1]
    by_cases h1:(decide (1≤cs.length) && decide (cs.length≤10))=true
    · rw [h1] at hb
      by_cases h2:(cs.all fun c=>decide (c∈digs))=true
      · rw [h2] at ha
        rw [Zk ((Zcz (ZaY hb)).trans ha)]
        rw [Bool.and_eq_true] at h1
        have hlen:=of_decide_eq_true h1.1
        have hf:figB cs=(cs == [48] || cs.head? != some 48):=by
          unfold figB; rw [h1.1,h1.2,h2]; rfl
        rw [hf]
        cases cs with
        | nil=>simp at hlen
        | cons c r =>
          have e1:ev (cf n) gv (.cmp .Eq (.var 0) (.con (.str [48]))) [some (.t (.str (c :: r)))] m = .ok (.t (.bl (c :: r == [48]))) m:=Zz (Zb rfl) (Zd _) (Zef _ _)
          cases q:(c :: r == [48]) with
          | true =>
            rw [q] at e1
            exact Zi (ZkG e1)
          | false =>
            rw [q] at e1
            refine Zi ((Zcz e1).trans (Zz (ZbQ (Zb rfl) (Zd _) ((x_str hl _).trans (by rw [at0]; rfl))) (Zd _) ?_))
            rw [c_neS]
            simp [bne]
      · rw [Bool.eq_false_iff.mpr h2] at ha
        have hf:figB cs=false:=by unfold figB; rw [Bool.eq_false_iff.mpr h2]; simp
        rw [hf]
        exact ZK ((Zcz (ZaY hb)).trans ha) (Zi (Zd _))
    · rw [Bool.eq_false_iff.mpr h1] at hb
      have hf:figB cs=false:=by unfold figB; rw [Bool.eq_false_iff.mpr h1]; simp
      rw [hf]
      exact ZK (ZkG (ZaY hb)) (Zi (Zd _))
  exact ZV (ZaK _ _ _) rfl key (Zm (cell:=false) rfl)
theorem Zil {cs:List Nat} (h:figB cs=true):bltT .int [.str cs]=some (.int (figV cs))∧cs.length≤lim:=by
  unfold figB at h
  simp only [Bool.and_eq_true,decide_eq_true_eq,List.all_eq_true] at h
  obtain ⟨⟨⟨h1,h2⟩,h3⟩,_⟩:=h
  refine ⟨?_,by unfold lim; omega⟩
  show (if cs≠[]∧cs.length≤600∧cs.all (fun c=>decide (48≤c) && decide (c≤57))=true then some (T.int (figV cs)) else none)=_
  refine if_pos ⟨fun z=>by subst z; simp at h1,by omega,List.all_eq_true.mpr fun c hc=>?_⟩
  have:=h3 c hc
  unfold digs at this
  rw [Bool.and_eq_true]
  refine ⟨decide_eq_true ?_,decide_eq_true ?_⟩ <;> (simp at this; omega)
theorem ZdQ {n:Nat} {m:Mem} {ws:List (List Nat)} {k:Int} {i:Nat} (hk:k=(i:Int)) (hw:figB (wat ws i)=true):cf (n + 2) 15 [.t (wl ws),.t (.int k)] m = .ok (.t (.int (figV (wat ws i)))) m:=by
  have key:ex (cf (n + 1)) gv Q6 [some (.t (wl ws)),some (.t (.int k)),none] m = .ok (.ret (.t (.int (figV (wat ws i))))) m:=by
    unfold Q6
    rw [Zr ((Z4 (Zb rfl) (Zb rfl)).trans (Qo hk))]
    dsimp only [List.set_cons_succ,List.set_cons_zero]
    have hi:=ZeL (n:=n) (m:=m) (Zil hw).2
    rw [hw] at hi
    rw [Zk (ZaY (k:=true) ((ZW (Zb rfl)).trans hi))]
    exact Zi (Jf (Zb rfl) (Zil hw).1)
  exact ZV (Zea _ _ _) rfl key (Zm (cell:=false) rfl)
inductive LeafW:T→List (List Nat)→Prop where
  | any:LeafW (.tup [.str [97,110,121]]) [[97,110,121]]
  | two {w v:List Nat}:(w=[105,115]∨w=[98,121])→Xy v=true→v.length≤lim→LeafW (.tup [.str w,.str v]) [w,v]
  | three {a w v f:List Nat}:(a=[62,61]∧w=[108,101,97,115,116]∨a=[60,61]∧w=[109,111,115,116])→Xy v=true→v.length≤lim→figB f=true→LeafW (.tup [.str w,.str v,.int (figV f)]) [v,a,f]
theorem ZcY {v w:List Nat} (h:Xy v=true) (hw:Zc1 w=true):(v == w)=false:=by
  rw [Bool.eq_false_iff]
  intro z
  have:=eq_of_beq z
  subst this
  unfold Xy at h
  rw [hw] at h
  simp at h
theorem ZlT {v:List Nat} (h:Xy v=true):(v == [40])=false:=by
  rw [Bool.eq_false_iff]
  intro z
  have:=eq_of_beq z
  subst this
  revert h
  decide
theorem long_br2 {v:List Nat} (h:Xy v=true):(v == [41])=false:=by
  rw [Bool.eq_false_iff]
  intro z
  have:=eq_of_beq z
  subst this
  revert h
  decide
theorem in_two' (w a b:List Nat):cmpT .In (.str w) (.tup [.str a,.str b])=some (a == w || b == w):=ZaW w a b
theorem Zam {call:Nat→List W→Mem→Res W} {gv:List T} {env:Env} {m m1:Mem} {k:S} {e:E} {i j:Nat} {x y:T} (h:ev call gv e env m = .ok (.t (.tup [x,y])) m1):ex call gv (.asgT [i,j] e k) env m=ex call gv k ((env.set i (some (.t x))).set j (some (.t y))) m1:=by
  rw [ex,h]; rfl
theorem ZkH {call:Nat→List W→Mem→Res W} {gv:List T} {env:Env} {m m1:Mem} {e:E} {k:Nat} {x r:T} {ks:List L2.Key} {vs:List T} (h:ev call gv e env m = .ok (.t x) m1) (hk:gv[k]? = some (.dct ks vs)) (hr:(keyT x).bind (Qn ks vs)=some r):ev call gv (.gdg k e) env m = .ok (.t r) m1:=by
  rw [ev,h]
  show pur (gDct gv[k]? fun ks vs=>(keyT x).bind (Qn ks vs)) m1=_
  rw [hk]
  show pur ((keyT x).bind (Qn ks vs)) m1=_
  rw [hr]; rfl
theorem ev_gdn {call:Nat→List W→Mem→Res W} {gv:List T} {env:Env} {m m1:Mem} {e:E} {k:Nat} {neg b:Bool} {x:T} {ks:List L2.Key} {vs:List T} (h:ev call gv e env m = .ok (.t x) m1) (hk:gv[k]? = some (.dct ks vs)) (hr:((keyT x).map fun k=>T.bl (if neg then !(Qn ks vs k).isSome else (Qn ks vs k).isSome))=some (.bl b)):ev call gv (.gdn k neg e) env m = .ok (.t (.bl b)) m1:=by
  rw [ev,h]
  show pur (gDct gv[k]? fun ks vs=>(keyT x).map fun k=>T.bl (if neg then !(Qn ks vs k).isSome else (Qn ks vs k).isSome)) m1=_
  rw [hk]
  show pur ((keyT x).map fun k=>T.bl (if neg then !(Qn ks vs k).isSome else (Qn ks vs k).isSome)) m1=_
  rw [hr]; rfl
theorem QB {call:Nat→List W→Mem→Res W} {gv:List T} {env:Env} {m:Mem} {i:Nat} {a b:Int} (h:env[i]? = some (some (.t (.int a)))):ev call gv (.bin .Add (.var i) (.con (.int b))) env m = .ok (.t (.int (a + b))) m:=Qy (Zb h) (Zd _) (ZgX _ _)
theorem ZcQ {n:Nat} {m:Mem} {t:T} {pre mid post:List (List Nat)} (h:LeafW t mid):cf (n + 3) 16 [.t (wl (pre++mid++post)),.t (.int (pre.length:Int))] m = .ok (.t (.tup [t,.int ((pre.length + mid.length:Nat):Int)])) m:=by
  have key:ex (cf (n + 2)) gv QG [some (.t (wl (pre++mid++post))),some (.t (.int (pre.length:Int))),none,none,none] m = .ok (.ret (.t (.tup [t,.int ((pre.length + mid.length:Nat):Int)]))) m:=by
    unfold QG
    rw [Zr ((Z4 (Zb rfl) (Zb rfl)).trans (Qo rfl))]
    dsimp only [List.set_cons_succ,List.set_cons_zero]
    have h0:wat (pre++mid++post) pre.length=wat mid 0:=Zbi (j:=0) (by cases h <;> simp)
    rw [h0]
    cases h with
    | any =>
      refine ZK (m1:=m) (Zz (k:=true) (Zb rfl) (Zd _) rfl) (Zi ?_)
      refine (ZC (ZbP (Zb rfl)) (QB rfl)).trans ?_
      rfl
    | @two w v hw hv hl =>
      have h1:wat (pre++[w,v]++post) (pre.length + 1)=v:=(Zbi (j:=1) (by simp)).trans rfl
      have hn:=Zco (n:=n) (m:=m) (ws:=pre++[w,v]++post) (k:=(pre.length:Int) + 1) (i:=pre.length + 1) (by omega) (by rw [h1]; exact hl) (by rw [h1]; exact hv)
      rw [h1] at hn
      have ha:(w == [97,110,121])=false:=by rcases hw with rfl | rfl <;> rfl
      rw [Zk (m1:=m) (Zz (k:=false) (Zb rfl) (Zd _) (by rw [Zef]; exact congrArg some ha))]
      refine ZK (m1:=m) (Zz (k:=true) (Zb rfl) (ZC (Zd _) (Zd _)) ?_) (Zi ?_)
      · rw [ZaW]
        rcases hw with rfl | rfl <;> rfl
      · refine (ZC (ZC (Zb rfl) ((Z4 (Zb rfl) (QB rfl)).trans hn)) (QB rfl)).trans ?_
        rfl
    | @three a w v f hw hv hl hf =>
      have h1:wat (pre++[v,a,f]++post) pre.length=v:=h0.trans rfl
      have h2:wat (pre++[v,a,f]++post) (pre.length + 1)=a:=(Zbi (j:=1) (by simp)).trans rfl
      have h3:wat (pre++[v,a,f]++post) (pre.length + 2)=f:=(Zbi (j:=2) (by simp)).trans rfl
      have hn:=Zco (n:=n) (m:=m) (ws:=pre++[v,a,f]++post) (k:=(pre.length:Int)) (i:=pre.length) rfl (by rw [h1]; exact hl) (by rw [h1]; exact hv)
      rw [h1] at hn
      have hs:=Qo (n:=n + 1) (m:=m) (ws:=pre++[v,a,f]++post) (k:=(pre.length:Int) + 1) (i:=pre.length + 1) (by omega)
      rw [h2] at hs
      have hm:=ZdQ (n:=n) (m:=m) (ws:=pre++[v,a,f]++post) (k:=(pre.length:Int) + 2) (i:=pre.length + 2) (by omega) (by rw [h3]; exact hf)
      rw [h3] at hm
      show ex (cf (n + 2)) gv _ [_,_,some (.t (.str v)),none,none] m=_
      rw [Zk (m1:=m) (Zz (k:=false) (Zb rfl) (Zd _) (by rw [Zef]; exact congrArg some (ZcY hv rfl)))]
      rw [Zk (m1:=m) (Zz (k:=false) (Zb rfl) (ZC (Zd _) (Zd _)) (by rw [ZaW]; refine congrArg some ?_; have e1:=ZcY hv (w:=[105,115]) rfl; have e2:=ZcY hv (w:=[98,121]) rfl; rw [Bool.beq_comm,e1,Bool.beq_comm,e2]; rfl))]
      rw [Zr ((Z4 (Zb rfl) (Zb rfl)).trans hn)]
      dsimp only [List.set_cons_succ,List.set_cons_zero]
      rw [Zr ((Z4 (Zb rfl) (QB rfl)).trans hs)]
      dsimp only [List.set_cons_succ,List.set_cons_zero]
      rw [Zk (ev_gdn (b:=false) (Zb rfl) ZfE (by rcases hw with ⟨rfl,rfl⟩ | ⟨rfl,rfl⟩ <;> rfl))]
      refine Zi ?_
      have hg:ev (cf (n + 2)) gv (.gdg 11 (.var 4)) [some (.t (wl (pre++[v,a,f]++post))),some (.t (.int (pre.length:Int))),some (.t (.str v)),some (.t (.str v)),some (.t (.str a))] m = .ok (.t (.str w)) m :=
        ZkH (Zb rfl) ZfE (by rcases hw with ⟨rfl,rfl⟩ | ⟨rfl,rfl⟩ <;> rfl)
      refine (ZC (Zma hg (Zb rfl) ((Z4 (Zb rfl) (QB rfl)).trans hm)) (QB rfl)).trans ?_
      rfl
  exact ZV (Zc8 _ _ _) rfl key (Zm (cell:=false) rfl)
noncomputable def Jof (s:List Nat) (P:T→List (List Nat)→Prop) (t:T) (ws:List (List Nat)):Prop :=
  P t ws∨∃ (q:T×List (List Nat)) (qs:List (T×List (List Nat))),qs≠[]∧P q.1 q.2∧(∀ p∈qs,P p.1 p.2)∧t = .tup [.str s,.tup (q.1 :: qs.map (·.1))]∧ws=q.2++qs.flatMap fun p=>s :: p.2
noncomputable def G1:Nat→T→List (List Nat)→Prop
  | 0=>LeafW
  | k + 1=>fun t ws=>LeafW t ws∨(∃ t' ws',G1 k t' ws'∧t = .tup [.str [110,111,116],t']∧ws=[110,111,116] :: ws')∨∃ ws',Jof [111,114] (Jof [97,110,100] (G1 k)) t ws'∧ws=[40] :: (ws'++[[41]])
noncomputable abbrev GA (k:Nat):=Jof [97,110,100] (G1 k)
noncomputable abbrev GO (k:Nat):=Jof [111,114] (GA k)
theorem ZiT {c:Env→Mem→Res Bool} {f:Env→Mem→Res Flow} {n:Nat} {env env':Env} {m m1 m2:Mem} (h1:c env m = .ok true m1) (h2:f env m1 = .ok (.next env') m2):Jg c f (n + 1) env m=Jg c f n env' m2:=by
  rw [Jg,h1]
  show (f env m1).bind _=_
  rw [h2]; rfl
theorem ZiU {c:Env→Mem→Res Bool} {f:Env→Mem→Res Flow} {n:Nat} {env:Env} {m m1:Mem} (h1:c env m = .ok false m1):Jg c f (n + 1) env m = .ok (.next env) m1:=by
  rw [Jg,h1]; rfl
theorem Zmf {m:Mem} {ts:List T} {t:T} (hl:ts.length < lim):doM .append (.c m.length) [.t t] (m++[some (false,ts)]) = .ok (.t .non) (m++[some (false,ts++[t])]):=by
  have hg:(m++[some (false,ts)])[m.length]? = some (some (false,ts)):=by rw [List.getElem?_append_right (Nat.le_refl _),Nat.sub_self]; rfl
  unfold doM
  dsimp only
  rw [Zal,ZaX,Zh,Zh,hg]
  dsimp only
  unfold mutM
  dsimp only
  rw [if_pos hl]
  dsimp only
  rw [List.set_append_right _ _ (Nat.le_refl _),Nat.sub_self]
  rfl
theorem ZfH {m:Mem} {c:Option (Bool×List T)}:(m++[c])[m.length]? = some c:=by rw [List.getElem?_append_right (Nat.le_refl _),Nat.sub_self]; rfl
theorem ev_app {call:Nat→List W→Mem→Res W} {gv:List T} {env:Env} {m:Mem} {i j:Nat} {ts:List T} {t:T} (hi:env[i]? = some (some (.c m.length))) (hj:env[j]? = some (some (.t t))) (hl:ts.length < lim):ev call gv (.mth .append (.var i) (.cons (.var j) .nil)) env (m++[some (false,ts)]) = .ok (.t .non) (m++[some (false,ts++[t])]):=by
  rw [ev,Zb hi,Zh]
  rw [show tyM .append (.c m.length) (m++[some (false,ts)])=true by unfold tyM; dsimp only; rw [ZfH]]
  rw [if_pos rfl,evs,Zb hj,Zh,evs,Zh,Zh]
  exact Zmf hl
theorem J7 {call:Nat→List W→Mem→Res W} {gv:List T} {env:Env} {m m1 m2 m3 m4:Mem} {f:Nat} {a b c d:E} {w w1 w2 w3:W} (h1:ev call gv a env m = .ok w m1) (h2:ev call gv b env m1 = .ok w1 m2) (h3:ev call gv c env m2 = .ok w2 m3) (h4:ev call gv d env m3 = .ok w3 m4):ev call gv (.call f (.cons a (.cons b (.cons c (.cons d .nil))))) env m=call f [w,w1,w2,w3] m4:=by
  simp only [ev,evs,h1,h2,h3,h4,Zh]
section
variable {N:Nat} {s:List Nat} {rest:List T} {P:T→List (List Nat)→Prop} {I:List Nat→Prop} {wi:Int}
noncomputable def Reads (N:Nat) (rest:List T) (wi:Int) (P:T→List (List Nat)→Prop) (I:List Nat→Prop):Prop :=
  ∀ (m:Mem) (t:T) (pre mid post:List (List Nat)) (b:Int),P t mid→mid.length < 900000→I (wat post 0)→b=(pre.length:Int)→cf N 18 [.t (wl (pre++mid++post)),.t (.int b),.t (.int wi),.t (.tup rest)] m = .ok (.t (.tup [t,.int ((pre.length + mid.length:Nat):Int)])) m
theorem Zct (s:List Nat) (rest:List T):slT (.tup (.str s :: rest)) (some 1) none=some (.tup rest):=by
  show some (T.tup (cut (T.str s :: rest) (some 1) none))=_
  simp only [cut,ZgK,List.length_cons]
  rw [if_neg (by decide),show min (1:Int).toNat (rest.length + 1)=1 by simp]
  simp
theorem wat_app {a b:List (List Nat)} (h:a≠[]):wat (a++b) 0=wat a 0:=by
  cases a with
  | nil=>exact absurd rfl h
  | cons x r=>rfl
theorem ZhT (hs:I s) {qs:List (T×List (List Nat))} {post:List (List Nat)} (hI:I (wat post 0)):I (wat ((qs.flatMap fun p=>s :: p.2)++post) 0):=by
  cases qs with
  | nil=>exact hI
  | cons q qs=>exact hs
theorem join_loop (R:Reads (N + 1) rest wi P I) (hs:I s) {W0:List (List Nat)} {e1:Option W} {m:Mem}:∀ (qs:List (T×List (List Nat))) (f:Nat) (ts:List T) (t:T) (pre:List (List Nat)) (post:List (List Nat)) (b:Int),qs.length < f→ts.length + qs.length < 1000000→(qs.flatMap fun p=>s :: p.2).length < 900000→W0=pre++(qs.flatMap fun p=>s :: p.2)++post→b=(pre.length:Int)→(∀ p∈qs,P p.1 p.2)→(wat post 0 == s)=false→I (wat post 0) →
    Jg (fun env m=>(ev (cf (N + 1)) gv (.cmp .Eq (.call 13 (.cons (.var 0) (.cons (.var 5) .nil))) (.ix (.var 3) (.con (.int 0)))) env m).bind Qm) (fun env m=>ex (cf (N + 1)) gv QV env m) f
      [some (.t (wl W0)),e1,some (.t (.int wi)),some (.t (.tup (.str s :: rest))),some (.t t),some (.t (.int b)),some (.c m.length)] (m++[some (false,ts)]) =
    .ok (.next [some (.t (wl W0)),e1,some (.t (.int wi)),some (.t (.tup (.str s :: rest))),some (.t ((qs.map (·.1)).getLastD t)),some (.t (.int ((pre.length + (qs.flatMap fun p=>s :: p.2).length:Nat):Int))),some (.c m.length)]) (m++[some (false,ts++qs.map (·.1))]):=by
  have cond:∀ {i:Nat} {b:Int} {t:T} {ts:List T} {k:Bool},b=(i:Int)→(wat W0 i == s)=k→(ev (cf (N + 1)) gv (.cmp .Eq (.call 13 (.cons (.var 0) (.cons (.var 5) .nil))) (.ix (.var 3) (.con (.int 0)))) [some (.t (wl W0)),e1,some (.t (.int wi)),some (.t (.tup (.str s :: rest))),some (.t t),some (.t (.int b)),some (.c m.length)] (m++[some (false,ts)])).bind Qm = .ok k (m++[some (false,ts)]):=fun {i b t ts k} hb hk=>by
    have h0:ixT (.tup (.str s :: rest)) (.int 0)=some (.str s):=at0 _ _
    rw [Zz ((Z4 (Zb rfl) (Zb rfl)).trans (Qo hb)) (ZbQ (Zb rfl) (Zd _) h0) (by rw [Zef,hk])]
    rfl
  intro qs
  induction qs with
  | nil =>
    intro f ts t pre post b hf hl hz hW hb hq hn hI
    obtain ⟨f,rfl⟩:∃ g,f=g + 1:=⟨f - 1,by simp at hf; omega⟩
    have hw:wat W0 pre.length=wat post 0:=by rw [hW]; exact Zg5 (mid:=[]) (by simp)
    rw [ZiU (cond hb (by rw [hw]; exact hn))]
    subst hb
    simp
  | cons q qs ih =>
    intro f ts t pre post b hf hl hz hW hb hq hn hI
    obtain ⟨f,rfl⟩:∃ g,f=g + 1:=⟨f - 1,by simp at hf; omega⟩
    rw [List.length_cons] at hf hl
    have hW1:W0=(pre++[s])++q.2++((qs.flatMap fun p=>s :: p.2)++post):=by rw [hW]; simp
    have hW2:W0=(pre++s :: q.2)++(qs.flatMap fun p=>s :: p.2)++post:=by rw [hW]; simp
    have hw:wat W0 pre.length=s:=by
      rw [hW]
      simp [wat]
    have hr:=R (m++[some (false,ts)]) q.1 (pre++[s]) q.2 ((qs.flatMap fun p=>s :: p.2)++post) (b + 1) (hq q List.mem_cons_self) (by simp at hz; omega) (ZhT hs hI) (by rw [hb]; simp)
    rw [← hW1] at hr
    have hbody:ex (cf (N + 1)) gv QV [some (.t (wl W0)),e1,some (.t (.int wi)),some (.t (.tup (.str s :: rest))),some (.t t),some (.t (.int b)),some (.c m.length)] (m++[some (false,ts)]) =
        .ok (.next [some (.t (wl W0)),e1,some (.t (.int wi)),some (.t (.tup (.str s :: rest))),some (.t q.1),some (.t (.int (((pre++[s]).length + q.2.length:Nat):Int))),some (.c m.length)]) (m++[some (false,ts++[q.1])]):=by
      unfold QV
      rw [Zam ((J7 (Zb rfl) (QB rfl) (Zb rfl) (Zin (Zb rfl) (Zd _) (Zct s rest))).trans hr)]
      dsimp only [List.set_cons_succ,List.set_cons_zero]
      rw [Zl9 (ev_app rfl rfl (by unfold lim; omega)),ex]
    rw [ZiT (cond hb (by rw [hw]; simp)) hbody]
    rw [ih f (ts++[q.1]) q.1 (pre++s :: q.2) post _ (by omega) (by rw [List.length_append,List.length_singleton]; omega) (by rw [List.flatMap_cons,List.length_append] at hz; omega) hW2 (by simp; omega) (fun p hp=>hq p (List.mem_cons_of_mem _ hp)) hn hI]
    have e1:(q :: qs).map (·.1)=q.1 :: qs.map (·.1):=rfl
    rw [e1,List.getLastD_cons]
    congr 3
    · congr 7
      congr 2
      simp
      omega
    · simp
theorem Zik (s:List Nat):∀ qs:List (T×List (List Nat)),qs.length≤(qs.flatMap fun p=>s :: p.2).length
  | []=>by simp
  | q :: qs=>by
    have:=Zik s qs
    rw [List.flatMap_cons,List.length_append,List.length_cons,List.length_cons]
    omega
theorem ZfQ {call:Nat→List W→Mem→Res W} {gv:List T} {env:Env} {m:Mem} {i:Nat} {ts:List T} {bb:B} {r:T} (hi:env[i]? = some (some (.c m.length))) (hr:bltT bb [.lst ts]=some r):ev call gv (.blt bb (.cons (.var i) .nil)) env (m++[some (false,ts)]) = .ok (.t r) (m++[some (false,ts)]) :=
  ZkI (X6 (Zb hi) ZbO) (show views [.c m.length] (m++[some (false,ts)])=some [.lst ts] by unfold views views view; dsimp only; rw [ZfH]; rfl) hr
theorem Zcu (R:Reads (N + 1) rest wi P I) (hs:I s):Reads (N + 2) (.str s :: rest) wi (Jof s P) (fun w=>I w∧(w == s)=false):=by
  intro m t pre mid post b h hlen hI hb
  obtain ⟨q,qs,hP,hPs,ht,hm⟩:∃ (q:T×List (List Nat)) (qs:List (T×List (List Nat))),P q.1 q.2∧(∀ p∈qs,P p.1 p.2)∧t=(if qs=[] then q.1 else .tup [.str s,.tup (q.1 :: qs.map (·.1))])∧mid=q.2++qs.flatMap fun p=>s :: p.2:=by
    rcases h with h | ⟨q,qs,h0,h1,h2,h3,h4⟩
    · exact ⟨(t,mid),[],h,by simp⟩
    · exact ⟨q,qs,h1,h2,by rw [if_neg h0]; exact h3,h4⟩
  have hq:=Zik s qs
  have hl2:q.2.length + (qs.flatMap fun p=>s :: p.2).length < 900000:=by rw [hm,List.length_append] at hlen; exact hlen
  have hW1:pre++mid++post=pre++q.2++((qs.flatMap fun p=>s :: p.2)++post):=by rw [hm]; simp
  have hW2:pre++mid++post=(pre++q.2)++(qs.flatMap fun p=>s :: p.2)++post:=by rw [hm]; simp
  have key:ex (cf (N + 1)) gv Z2 [some (.t (wl (pre++mid++post))),some (.t (.int b)),some (.t (.int wi)),some (.t (.tup (.str s :: rest))),none,none,none] m = .ok (.ret (.t (.tup [t,.int ((pre.length + mid.length:Nat):Int)]))) (m++[some (false,q.1 :: qs.map (·.1))]):=by
    unfold Z2
    rw [Zk (m1:=m) (Zz (k:=false) (Jf (Zb rfl) (ZlW _)) (Zd _) (by rw [ZgW]; simp; omega))]
    have hr:=R m q.1 pre q.2 ((qs.flatMap fun p=>s :: p.2)++post) b hP (by omega) (ZhT hs hI.1) hb
    rw [← hW1] at hr
    rw [Zam ((J7 (Zb rfl) (Zb rfl) (Zb rfl) (Zin (Zb rfl) (Zd _) (Zct s rest))).trans hr)]
    dsimp only [List.set_cons_succ,List.set_cons_zero]
    rw [Zr (show ev (cf (N + 1)) gv (.cel (.cons (.var 4) .nil)) _ m = .ok (.c m.length) (m++[some (false,[q.1])]) by rw [ev,X6 (Zb rfl) ZbO,Zh,Zal,ZaX,Zh,Zh,if_pos (by simp [lim])])]
    dsimp only [List.set_cons_succ,List.set_cons_zero]
    rw [ex,join_loop R hs (W0:=pre++mid++post) qs turns [q.1] q.1 (pre++q.2) post _ (by unfold turns; omega) (by simp; omega) (by omega) hW2 (by simp) hPs hI.2 hI.1,Zh]
    dsimp only
    have hlast:((pre++q.2).length + (qs.flatMap fun p=>s :: p.2).length:Nat)=pre.length + mid.length:=by rw [hm]; simp; omega
    rw [hlast]
    have hc:∀ e4:Option W,ev (cf (N + 1)) gv (.cmp .Eq (.blt .len (.cons (.var 6) .nil)) (.con (.int 1))) [some (.t (wl (pre++mid++post))),some (.t (.int b)),some (.t (.int wi)),some (.t (.tup (.str s :: rest))),e4,some (.t (.int ((pre.length + mid.length:Nat):Int))),some (.c m.length)] (m++[some (false,[q.1]++qs.map (·.1))]) = .ok (.t (.bl qs.isEmpty)) (m++[some (false,[q.1]++qs.map (·.1))]):=fun e4=>by
      refine Zz (ZfQ rfl (Zh3 _)) (Zd _) ?_
      rw [ZgW]
      cases qs with
      | nil=>rfl
      | cons q' qs =>
        refine congrArg some ?_
        show ((([q.1]++q'.1 :: qs.map (·.1)).length:Int) == 1)=false
        rw [List.length_append,List.length_cons,List.length_cons,beq_eq_false_iff_ne]
        simp only [List.length_nil]
        omega
    cases qs with
    | nil =>
      rw [ZK (hc _) (Zi (ZC (Zb rfl) (Zb rfl)))]
      subst ht
      rfl
    | cons q' qs =>
      rw [Zk (hc _)]
      have h0:ixT (.tup (.str s :: rest)) (.int 0)=some (.str s):=at0 _ _
      rw [Zi (ZC (ZC (ZbQ (Zb rfl) (Zd _) h0) (ZfQ rfl (Zky _))) (Zb rfl))]
      rw [ht,if_neg (by simp)]
      rfl
  refine ZV (XM _ _ _) rfl key ?_
  show Res.ok _ ((m++[_]).take m.length)=_
  rw [List.take_left]
end
noncomputable def Zbh (N:Nat) (wi:Int) (P:T→List (List Nat)→Prop):Prop :=
  ∀ (m:Mem) (t:T) (pre mid post:List (List Nat)) (b:Int),P t mid→mid.length < 900000→b=(pre.length:Int)→cf N 17 [.t (wl (pre++mid++post)),.t (.int b),.t (.int wi)] m = .ok (.t (.tup [t,.int ((pre.length + mid.length:Nat):Int)])) m
theorem Zmq {N:Nat} {wi:Int} {P:T→List (List Nat)→Prop} (R:Zbh N wi P):Reads (N + 1) [] wi P (fun _=>True):=by
  intro m t pre mid post b h hlen _ hb
  have key:ex (cf N) gv Z2 [some (.t (wl (pre++mid++post))),some (.t (.int b)),some (.t (.int wi)),some (.t (.tup [])),none,none,none] m = .ok (.ret (.t (.tup [t,.int ((pre.length + mid.length:Nat):Int)]))) m:=by
    unfold Z2
    exact ZK (m1:=m) (Zz (k:=true) (Jf (Zb rfl) (ZlW _)) (Zd _) rfl) (Zi ((Zc5 (Zb rfl) (Zb rfl) (Zb rfl)).trans (R m t pre mid post b h hlen hb)))
  exact ZV (XM _ _ _) rfl key (Zm (cell:=false) rfl)
noncomputable def JN:List T:=[.str [111,114],.str [97,110,100]]
noncomputable def After (w:List Nat):Prop:=(True∧(w == [97,110,100])=false)∧(w == [111,114])=false
theorem or_ok {N:Nat} {wi:Int} {P:T→List (List Nat)→Prop} (R:Zbh N wi P):Reads (N + 3) JN wi (Jof [111,114] (Jof [97,110,100] P)) After :=
  Zcu (Zcu (Zmq R) True.intro) ⟨True.intro,rfl⟩
theorem Zbx (w a b:List Nat):cmpT .NotIn (.str w) (.tup [.str a,.str b])=some (!(a == w || b == w)):=by
  show (inT (.str w) (.tup [.str a,.str b])).map (!·)=_
  rw [show inT (.str w) (.tup [.str a,.str b])=some (a == w || b == w) from ZaW w a b]
  rfl
theorem Zgt {t:T} {mid:List (List Nat)} (h:LeafW t mid):mid≠[]∧([110,111,116] == wat mid 0)=false∧([40] == wat mid 0)=false:=by
  cases h with
  | any=>exact ⟨by simp,rfl,rfl⟩
  | two hw _ _=>rcases hw with rfl | rfl <;> exact ⟨by simp,rfl,rfl⟩
  | three hw hv _ _ =>
    refine ⟨by simp,?_,?_⟩
    · rw [Bool.beq_comm]; exact ZcY hv rfl
    · rw [Bool.beq_comm]; exact ZlT hv
theorem Zft {n:Nat} {wi:Int}:Zbh (n + 4) wi LeafW:=by
  intro m t pre mid post b h hlen hb
  obtain ⟨h1,h2,h3⟩:=Zgt h
  have hw:wat (pre++mid++post) pre.length=wat mid 0:=Zbi (j:=0) (List.length_pos_iff.mpr h1)
  have key:ex (cf (n + 3)) gv Qk [some (.t (wl (pre++mid++post))),some (.t (.int b)),some (.t (.int wi)),none,none,none] m = .ok (.ret (.t (.tup [t,.int ((pre.length + mid.length:Nat):Int)]))) m:=by
    unfold Qk
    rw [Zr ((Z4 (Zb rfl) (Zb rfl)).trans (Qo hb))]
    dsimp only [List.set_cons_succ,List.set_cons_zero]
    rw [hw]
    refine ZK (m1:=m) (Zz (k:=true) (Zb rfl) (ZC (Zd _) (Zd _)) (by rw [Zbx,h2,h3]; rfl)) (Zi ((Z4 (Zb rfl) (Zb rfl)).trans ?_))
    rw [hb]
    exact ZcQ h
  exact ZV (X7 _ _ _) rfl key (Zm (cell:=false) rfl)
theorem ZhM:∀ (k n:Nat) (wi:Int),0≤wi→wi + k≤12→Zbh (n + 4 * k + 4) wi (G1 k)
  | 0,n,wi,h0,h1=>Zft
  | k + 1,n,wi,h0,h1=>by
    intro m t pre mid post b h hlen hb
    have ih:=ZhM k n (wi + 1) (by omega) (by omega)
    have hwi:(wi == 12)=false:=by rw [beq_eq_false_iff_ne]; omega
    rcases h with h | ⟨t',ws',h,rfl,rfl⟩ | ⟨ws',h,rfl⟩
    · exact Zft (n:=n + 4 * (k + 1)) m t pre mid post b h hlen hb
    · have hW:pre++[110,111,116] :: ws'++post=pre++[[110,111,116]]++ws'++post:=by simp
      have hw:wat (pre++[110,111,116] :: ws'++post) pre.length=[110,111,116]:=(Zbi (j:=0) (by simp)).trans rfl
      have hr:=ZhM k (n + 3) (wi + 1) (by omega) (by omega) m t' (pre++[[110,111,116]]) ws' post (b + 1) h (by simp at hlen; omega) (by rw [hb]; simp)
      rw [← hW] at hr
      have key:ex (cf (n + 4 * (k + 1) + 3)) gv Qk [some (.t (wl (pre++[110,111,116] :: ws'++post))),some (.t (.int b)),some (.t (.int wi)),none,none,none] m = .ok (.ret (.t (.tup [.tup [.str [110,111,116],t'],.int ((pre.length + ([110,111,116] :: ws').length:Nat):Int)]))) m:=by
        unfold Qk
        rw [Zr ((Z4 (Zb rfl) (Zb rfl)).trans (Qo hb))]
        dsimp only [List.set_cons_succ,List.set_cons_zero]
        rw [hw]
        rw [Zk (m1:=m) (Zz (k:=false) (Zb rfl) (ZC (Zd _) (Zd _)) (by rw [Zbx]; rfl))]
        rw [Zk (m1:=m) (Zz (k:=false) (Zb rfl) (ZgH XD) (by rw [ZgW,hwi]))]
        refine ZK (m1:=m) (Zz (k:=true) (Zb rfl) (Zd _) rfl) ?_
        have e0:n + 4 * (k + 1) + 3=n + 3 + 4 * k + 4:=by omega
        rw [e0]
        rw [Zam ((Zc5 (Zb rfl) (QB rfl) (QB rfl)).trans hr)]
        dsimp only [List.set_cons_succ,List.set_cons_zero]
        rw [Zi (ZC (ZC (Zd _) (Zb rfl)) (Zb rfl))]
        congr 7
        simp
        omega
      exact ZV (X7 _ _ _) rfl key (Zm (cell:=false) rfl)
    · have hW:pre++[40] :: (ws'++[[41]])++post=pre++[[40]]++ws'++([41] :: post):=by simp
      have hw:wat (pre++[40] :: (ws'++[[41]])++post) pre.length=[40]:=(Zbi (j:=0) (by simp)).trans rfl
      have hr:=or_ok ih m t (pre++[[40]]) ws' ([41] :: post) (b + 1) h (by simp at hlen; omega) ⟨⟨True.intro,rfl⟩,rfl⟩ (by rw [hb]; simp)
      rw [← hW] at hr
      have hw2:wat (pre++[40] :: (ws'++[[41]])++post) ((pre++[[40]]).length + ws'.length)=[41]:=by
        rw [hW]
        exact (Zg5 rfl).trans rfl
      have key:ex (cf (n + 4 * (k + 1) + 3)) gv Qk [some (.t (wl (pre++[40] :: (ws'++[[41]])++post))),some (.t (.int b)),some (.t (.int wi)),none,none,none] m = .ok (.ret (.t (.tup [t,.int ((pre.length + ([40] :: (ws'++[[41]])).length:Nat):Int)]))) m:=by
        unfold Qk
        rw [Zr ((Z4 (Zb rfl) (Zb rfl)).trans (Qo hb))]
        dsimp only [List.set_cons_succ,List.set_cons_zero]
        rw [hw]
        rw [Zk (m1:=m) (Zz (k:=false) (Zb rfl) (ZC (Zd _) (Zd _)) (by rw [Zbx]; rfl))]
        rw [Zk (m1:=m) (Zz (k:=false) (Zb rfl) (ZgH XD) (by rw [ZgW,hwi]))]
        rw [Zk (m1:=m) (Zz (k:=false) (Zb rfl) (Zd _) rfl)]
        have e0:n + 4 * (k + 1) + 3=n + 4 * k + 4 + 3:=by omega
        rw [e0]
        rw [Zam ((J7 (Zb rfl) (QB rfl) (QB rfl) (ZgH ZfF)).trans hr)]
        dsimp only [List.set_cons_succ,List.set_cons_zero]
        rw [Zk (m1:=m) (Zz (k:=false) ((Z4 (Zb rfl) (Zb rfl)).trans (Qo rfl)) (Zd _) (by rw [hw2]; rfl))]
        rw [Zi (ZC (Zb rfl) (QB rfl))]
        congr 7
        simp
        omega
      exact ZV (X7 _ _ _) rfl key (Zm (cell:=false) rfl)
theorem Zbo {ws:List (List Nat)} (h0:ws≠[]) (h:∀ w∈ws,32 ∉ w) (hl:(Zc [32] ws).length≤900000) {m:Mem}:doM .split (.t (.str (Zc [32] ws))) [.t (.str [32])] m = .ok (.t (wl ws)) m:=by
  show pur (if (Zc [32] ws).length≤900000 then some (.lst ((Jh 32 (Zc [32] ws)).map .str)) else none) m=_
  rw [if_pos hl,XQ h0 h]
  rfl
theorem Zia (ws:List (List Nat)):ws.length≤(Zc [32] ws).length + 1:=by
  induction ws with
  | nil=>simp
  | cons w r ih =>
    cases r with
    | nil=>simp [Zc]
    | cons v r =>
      show _≤(w++[32]++Zc [32] (v :: r)).length + 1
      rw [List.length_append,List.length_append,List.length_cons]
      simp only [List.length_cons,List.length_nil] at ih ⊢
      omega
theorem Zdw {n:Nat} {m:Mem} {t:T} {ws:List (List Nat)} (h:GO 12 t ws) (h0:ws≠[]) (hw:∀ w∈ws,32 ∉ w) (hl:(Zc [32] ws).length≤800000) (hy:∀ {m:Mem},cf (n + 55) 9 [.t t] m = .ok (.t (.bl true)) m) :
    cf (n + 56) 19 [.t (.str (Zc [32] ws))] m = .ok (.t t) m:=by
  have hlen:=Zia ws
  have hr:=or_ok (ZhM 12 n 0 (by omega) (by omega)) m t [] ws [] 0 h (by omega) ⟨⟨True.intro,rfl⟩,rfl⟩ rfl
  rw [List.nil_append,List.append_nil] at hr
  have key:ex (cf (n + 55)) gv Q5 [some (.t (.str (Zc [32] ws))),none,none,none] m = .ok (.ret (.t t)) m:=by
    unfold Q5
    rw [Zk (m1:=m) (ZaY (k:=true) (ev_isi (Zb rfl) rfl))]
    rw [Zr (show ev (cf (n + 55)) gv (.mth .split (.var 0) (.cons (.con (.str [32])) .nil)) [some (.t (.str (Zc [32] ws))),none,none,none] m = .ok (.t (wl ws)) m by
      rw [ev,Zb rfl,Zh,show tyM .split (.t (.str (Zc [32] ws))) m=true from rfl,if_pos rfl,X6 (Zd _) ZbO,Zh]
      exact Zbo h0 hw (by omega))]
    dsimp only [List.set_cons_succ,List.set_cons_zero]
    rw [Zam ((J7 (Zb rfl) (Zd _) (Zd _) (ZgH ZfF)).trans hr)]
    dsimp only [List.set_cons_succ,List.set_cons_zero]
    have hc:ev (cf (n + 55)) gv (.cmp .Lt (.var 3) (.blt .len (.cons (.var 1) .nil))) [some (.t (.str (Zc [32] ws))),some (.t (wl ws)),some (.t t),some (.t (.int ((([]:List (List Nat)).length + ws.length:Nat):Int)))] m = .ok (.t (.bl false)) m:=by
      refine Zz (Zb rfl) (Jf (Zb rfl) (Zh3 _)) ?_
      rw [c_lt,List.length_map]
      refine congrArg some (decide_eq_false ?_)
      simp
    rw [Zk ((Zcz hc).trans (ZaY (k:=true) ((ZW (Zb rfl)).trans hy)))]
    exact Zi (Zb rfl)
  exact ZV (Zd9 _ _ _) rfl key (Zm (cell:=false) rfl)
theorem Ze1 (m:Nat) (h:0 < m):∃ c r,Nat.toDigits 10 m=c :: r∧c≠'0':=by
  induction m using Nat.strongRecOn with
  | _ m ih =>
    by_cases hm:m < 10
    · refine ⟨Nat.digitChar m,[],Nat.toDigits_of_lt_base hm,?_⟩
      have:∀ k:Nat,k < 10→0 < k→Nat.digitChar k≠'0':=by decide
      exact this m hm h
    · obtain ⟨c,r,e,hc⟩:=ih (m / 10) (by omega) (by omega)
      have t:Nat.toDigits 10 (m / 10)++Nat.toDigits 10 (m % 10)=Nat.toDigits 10 (10 * (m / 10) + m % 10):=Nat.toDigits_append_toDigits (by decide) (by omega) (Nat.mod_lt m (by decide))
      rw [Nat.div_add_mod] at t
      exact ⟨c,r++Nat.toDigits 10 (m % 10),by rw [← t,e]; rfl,hc⟩
theorem ZbS {k:Int} (h0:0≤k) (h1:k < 10000000000):figB (decI k)=true∧figV (decI k)=k∧32 ∉ decI k∧(decI k).length≤10:=by
  obtain ⟨n,rfl⟩:=Int.eq_ofNat_of_zero_le h0
  have hl:(decI (n:Int)).length≤10:=by
    have:=PySem.W.KT.len_num h0 h1
    unfold decI
    rw [Array.length_toList]
    exact this
  have e:decI (n:Int)=(Nat.toDigits 10 n).map Char.toNat:=PySem.W.KIN.signs_num n
  have hd:∀ c∈decI (n:Int),48≤c∧c≤57:=fun c hc=>by
    rw [e] at hc
    obtain ⟨ch,hch,rfl⟩:=List.mem_map.mp hc
    exact PyProof.Rows.digit_range (Nat.isDigit_of_mem_toDigits (by decide) (by decide) hch)
  have h1':1≤(decI (n:Int)).length:=by rw [e,List.length_map]; exact PySem.toDigits_len_ge 10 n
  refine ⟨?_,?_,fun z=>absurd (hd 32 z).1 (by decide),hl⟩
  · unfold figB
    rw [decide_eq_true h1',decide_eq_true hl]
    simp only [Bool.true_and,Bool.and_eq_true,List.all_eq_true]
    refine ⟨fun c hc=>decide_eq_true ?_,?_⟩
    · have:=hd c hc
      unfold digs
      have e:c=48∨c=49∨c=50∨c=51∨c=52∨c=53∨c=54∨c=55∨c=56∨c=57:=by omega
      rcases e with rfl | rfl | rfl | rfl | rfl | rfl | rfl | rfl | rfl | rfl <;> decide
    · by_cases hn:n=0
      · subst hn
        rw [e]
        rfl
      · obtain ⟨c,r,e2,hc⟩:=Ze1 n (by omega)
        rw [e,e2]
        simp only [List.map_cons,List.head?_cons,Bool.or_eq_true]
        right
        rw [bne_iff_ne]
        intro z
        have z:c.toNat=48:=Option.some.inj z
        exact hc (Char.ext (UInt32.toNat_inj.mp z))
  · have:=PySem.W.KIN.val_back n
    rw [e]
    show ((PySem.NumText.digitsVal ((Nat.toDigits 10 n).map Char.toNat):Nat):Int)=_
    rw [this]
noncomputable def Xn:T→List Nat
  | .tup (.str w :: _)=>w
  | _=>[]
noncomputable def clos (s:List (List Nat)) (t:T) (ws:List (List Nat)):List (List Nat):=if (s.any fun a=>a == Xn t)=true then [40] :: (ws++[[41]]) else ws
noncomputable def Jz (s:List Nat):List (List (List Nat))→List (List Nat)
  | []=>[]
  | x :: r=>x++r.flatMap fun y=>s :: y
noncomputable def kset (w:List Nat):List (List Nat):=if (w == [111,114])=true then [[111,114]] else [[97,110,100],[111,114]]
noncomputable def cw:Nat→T→List (List Nat)
  | 0,_=>[]
  | d + 1,t=>match t with
    | .tup [.str w]=>[w]
    | .tup [.str w,.str v]=>[w,v]
    | .tup [.str w,.str v,.int k]=>[v,if (w == [108,101,97,115,116])=true then [62,61] else [60,61],decI k]
    | .tup [.str w,.tup ts]=>if (w == [110,111,116])=true then w :: clos (kset w) (.tup ts) (cw d (.tup ts)) else Jz w (ts.map fun y=>clos (kset w) y (cw d y))
    | _=>[]
theorem ZeR {t:T} (h:Jt t=true):Leaf t:=by
  unfold Jt at h
  split at h
  · rename_i a
    obtain ⟨cs,rfl,hc⟩:=JG h
    simp at hc
    subst hc
    exact .any
  · rename_i a b
    rw [Bool.and_eq_true] at h
    obtain ⟨cs,rfl,hc⟩:=JG h.1
    cases b with
    | str v=>exact .two (by simpa using hc) h.2
    | _=>cases h.2
  · rename_i a b c
    rw [Bool.and_eq_true,Bool.and_eq_true] at h
    obtain ⟨cs,rfl,hc⟩:=JG h.1.1
    cases b with
    | str v =>
      cases c with
      | int k =>
        have hk:(decide (0≤k) && decide (k≤1000000000))=true:=h.2
        rw [Bool.and_eq_true] at hk
        exact .three (by simpa using hc) h.1.2 (of_decide_eq_true hk.1) (of_decide_eq_true hk.2)
      | _=>cases h.2
    | _=>cases h.1.2
  · cases h
theorem JC {v:List Nat} (h:Xf v=true):Xy v=true∧v.length≤8∧32 ∉ v:=by
  unfold Xf at h
  simp only [Bool.and_eq_true,decide_eq_true_eq] at h
  obtain ⟨⟨⟨h1,h2⟩,h3⟩,h4⟩:=h
  refine ⟨by unfold Xy; rw [decide_eq_true h1,h3,h4]; rfl,h2,fun z=>?_⟩
  have:=of_decide_eq_true (List.all_eq_true.mp h4 32 z)
  revert this
  decide
theorem Zcr {d:Nat} {t:T} (h:Leaf t):LeafW t (cw (d + 1) t)∧(∀ w∈cw (d + 1) t,32 ∉ w)∧(Zc [32] (cw (d + 1) t)).length≤60∧cw (d + 1) t≠[]:=by
  cases h with
  | any=>exact ⟨.any,by simp [cw],by simp [cw,Zc],by simp [cw]⟩
  | @two w v hw hv =>
    obtain ⟨h1,h2,h3⟩:=JC hv
    refine ⟨.two hw h1 (by unfold lim; omega),?_,?_,by simp [cw]⟩
    · intro x hx
      simp only [cw,List.mem_cons,List.not_mem_nil,or_false] at hx
      rcases hx with rfl | rfl
      · rcases hw with rfl | rfl <;> decide
      · exact h3
    · show (w++[32]++v).length≤60
      rw [List.length_append,List.length_append]
      rcases hw with rfl | rfl <;> (simp; omega)
  | @three w v k hw hv k0 k1 =>
    obtain ⟨h1,h2,h3⟩:=JC hv
    obtain ⟨f1,f2,f3,f4⟩:=ZbS k0 (by omega)
    have key:∀ a:List Nat,(a=[62,61]∧w=[108,101,97,115,116]∨a=[60,61]∧w=[109,111,115,116])→cw (d + 1) (.tup [.str w,.str v,.int k])=[v,a,decI k]→LeafW (.tup [.str w,.str v,.int k]) (cw (d + 1) (.tup [.str w,.str v,.int k]))∧(∀ x∈cw (d + 1) (.tup [.str w,.str v,.int k]),32 ∉ x)∧(Zc [32] (cw (d + 1) (.tup [.str w,.str v,.int k]))).length≤60∧cw (d + 1) (.tup [.str w,.str v,.int k])≠[]:=fun a ha e=>by
      rw [e]
      have hL:LeafW (.tup [.str w,.str v,.int (figV (decI k))]) [v,a,decI k]:=.three ha h1 (by unfold lim; omega) f1
      rw [f2] at hL
      refine ⟨hL,?_,?_,by simp⟩
      · intro x hx
        simp only [List.mem_cons,List.not_mem_nil,or_false] at hx
        rcases hx with rfl | rfl | rfl
        · exact h3
        · rcases ha with ⟨rfl,_⟩ | ⟨rfl,_⟩ <;> decide
        · exact f3
      · show (v++[32]++(a++[32]++decI k)).length≤60
        simp only [List.length_append,List.length_cons,List.length_nil]
        have:a.length=2:=by rcases ha with ⟨rfl,_⟩ | ⟨rfl,_⟩ <;> rfl
        omega
    rcases hw with rfl | rfl
    · exact key _ (.inl ⟨rfl,rfl⟩) rfl
    · exact key _ (.inr ⟨rfl,rfl⟩) rfl
theorem Jb:∀ {a b:List (List Nat)},a≠[]→b≠[]→Zc [32] (a++b)=Zc [32] a++32 :: Zc [32] b
  | [],_,h,_=>absurd rfl h
  | [x],b,_,hb=>by
    cases b with
    | nil=>exact absurd rfl hb
    | cons y r=>show x++[32]++Zc [32] (y :: r)=x++32 :: Zc [32] (y :: r); simp
  | x :: y :: r,b,_,hb=>by
    have ih:=Jb (a:=y :: r) (by simp) hb
    show x++[32]++Zc [32] (y :: r++b)=(x++[32]++Zc [32] (y :: r))++_
    rw [ih]
    simp
theorem ZfA {ws:List (List Nat)} (h:ws≠[]):Zc [32] ([40] :: (ws++[[41]]))=[40,32]++Zc [32] ws++[32,41]:=by
  have e:[40] :: (ws++[[41]])=[[40]]++(ws++[[41]]):=rfl
  rw [e,Jb (by simp) (by simp),Jb h (by simp)]
  simp [Zc]
theorem Zc0 {s:List Nat} {x:List (List Nat)} {r:List (List (List Nat))} (h:x≠[]):Jz s (x :: r)≠[]:=by
  unfold Jz
  intro z
  exact h (List.append_eq_nil_iff.mp z).1
theorem Xw {s:List Nat}:∀ {wss:List (List (List Nat))},(∀ x∈wss,x≠[])→Zc (32 :: s++[32]) (wss.map (Zc [32]))=Zc [32] (Jz s wss)
  | [],_=>rfl
  | [x],h=>by simp [Jz,Zc]
  | x :: y :: r,h=>by
    have ih:=Xw (s:=s) (wss:=y :: r) fun z hz=>h z (List.mem_cons_of_mem _ hz)
    have hx:=h x List.mem_cons_self
    show Zc [32] x++(32 :: s++[32])++Zc (32 :: s++[32]) ((y :: r).map (Zc [32]))=_
    rw [ih]
    have e:Jz s (x :: y :: r)=x++(s :: Jz s (y :: r)):=by simp [Jz]
    rw [e,Jb hx (by simp)]
    have hy:Jz s (y :: r)≠[]:=Zc0 (h y (by simp))
    have e2:s :: Jz s (y :: r)=[s]++Jz s (y :: r):=rfl
    rw [e2,Jb (by simp) hy]
    simp [Zc]
theorem Ze6 {s:List (List Nat)} {t:T} {ws:List (List Nat)} (h:ws≠[]):clos s t ws≠[]:=by
  unfold clos
  split
  · simp
  · exact h
theorem Zd7 {s:List (List Nat)} {t:T} {ws:List (List Nat)} (h:ws≠[]):Zc [32] (clos s t ws)=if (s.any fun a=>a == Xn t)=true then [40,32]++Zc [32] ws++[32,41] else Zc [32] ws:=by
  unfold clos
  split
  · exact ZfA h
  · rfl
section
variable {call:Nat→List W→Mem→Res W} {gv:List T} {env:Env} {m m1 m2 m3:Mem} {a b c e:E} {x y z:T} {p q r:List Nat} {s k:S} {w:W}
theorem Zmb (h1:ev call gv a env m = .ok (.t x) m1) (hx:fmtT x=some p) (h2:ev call gv b env m1 = .ok (.t y) m2) (hy:fmtT y=some q) (hl:p.length + q.length≤lim):ev call gv (.fst (.cons a (.cons b .nil))) env m = .ok (.t (.str (p++q))) m2:=by
  have f1:fmtW [] (.t x) m1 = .ok p m1:=by
    unfold fmtW
    show (match fmtT x with | some a=>_ | none=>_)=_
    rw [hx]
    exact if_pos (by simp; omega)
  have f2:fmtW p (.t y) m2 = .ok (p++q) m2:=by
    unfold fmtW
    show (match fmtT y with | some a=>_ | none=>_)=_
    rw [hy]
    exact if_pos hl
  rw [ev,evf,h1,Zh,f1,Zh,evf,h2,Zh,f2,Zh,evf,Zh]
theorem ZbR (h1:ev call gv a env m = .ok (.t x) m1) (hx:fmtT x=some p) (h2:ev call gv b env m1 = .ok (.t y) m2) (hy:fmtT y=some q) (h3:ev call gv c env m2 = .ok (.t z) m3) (hz:fmtT z=some r) (hl:p.length + q.length + r.length≤lim):ev call gv (.fst (.cons a (.cons b (.cons c .nil)))) env m = .ok (.t (.str (p++q++r))) m3:=by
  have f1:fmtW [] (.t x) m1 = .ok p m1:=by
    unfold fmtW
    show (match fmtT x with | some a=>_ | none=>_)=_
    rw [hx]
    exact if_pos (by simp; omega)
  have f2:fmtW p (.t y) m2 = .ok (p++q) m2:=by
    unfold fmtW
    show (match fmtT y with | some a=>_ | none=>_)=_
    rw [hy]
    exact if_pos (by omega)
  have f3:fmtW (p++q) (.t z) m3 = .ok (p++q++r) m3:=by
    unfold fmtW
    show (match fmtT z with | some a=>_ | none=>_)=_
    rw [hz]
    exact if_pos (by rw [List.length_append]; exact hl)
  rw [ev,evf,h1,Zh,f1,Zh,evf,h2,Zh,f2,Zh,evf,h3,Zh,f3,Zh,evf,Zh]
theorem skEq (h:ev call gv e env m = .ok (.t (.str p)) m) (hb:(p == q)=false):ex call gv (.ife (.cmp .Eq e (.con (.str q))) s .done k) env m=ex call gv k env m:=Zk (Zz h (Zd _) (by rw [Zef,hb]))
theorem tkEq (h:ev call gv e env m = .ok (.t (.str p)) m) (hb:(p == q)=true) (hs:ex call gv s env m = .ok (.ret w) m2):ex call gv (.ife (.cmp .Eq e (.con (.str q))) s .done k) env m = .ok (.ret w) m2:=ZK (Zz h (Zd _) (by rw [Zef,hb])) hs
theorem skIn (h:ev call gv e env m = .ok (.t (.str p)) m) (hb:(q == p || r == p)=false):ex call gv (.ife (.cmp .In e (.tup (.cons (.con (.str q)) (.cons (.con (.str r)) .nil)))) s .done k) env m=ex call gv k env m:=Zk (Zz h (ZC (Zd _) (Zd _)) (by rw [ZaW,hb]))
theorem tkIn (h:ev call gv e env m = .ok (.t (.str p)) m) (hb:(q == p || r == p)=true) (hs:ex call gv s env m = .ok (.ret w) m2):ex call gv (.ife (.cmp .In e (.tup (.cons (.con (.str q)) (.cons (.con (.str r)) .nil)))) s .done k) env m = .ok (.ret w) m2:=ZK (Zz h (ZC (Zd _) (Zd _)) (by rw [ZaW,hb])) hs
theorem Xe {ts:List T} (h:ev call gv e env m = .ok (.t (.tup (x :: y :: ts))) m):ev call gv (.ix e (.con (.int 1))) env m = .ok (.t y) m:=ZbQ h (Zd _) (at1 _ _ _)
theorem Zq {ts:List T} (h:ev call gv e env m = .ok (.t (.tup (.str p :: ts))) m):ev call gv (.ix e (.con (.int 0))) env m = .ok (.t (.str p)) m:=ZbQ h (Zd _) (at0 _ _)
end
theorem ZkB (h:List Nat) (ws:List (List Nat)):cmpT .In (.str h) (.tup (ws.map .str))=some (ws.any fun a=>a == h)∧cmpT .In (.str h) (.lst (ws.map .str))=some (ws.any fun a=>a == h):=by
  have ha:(ws.map T.str).all flat=true:=by simp [flat]
  have hb:((ws.map T.str).any fun t=>eqT t (.str h))=ws.any fun a=>a == h:=by
    clear ha
    induction ws with
    | nil=>rfl
    | cons w ws ih=>simp [eqT] at ih ⊢; rw [ih]
  have h1:hasT (.str h) (.tup (ws.map .str))=some (ws.any fun a=>a == h):=by
    unfold hasT; dsimp only; rw [ha,hb]; rfl
  have h2:hasT (.str h) (.lst (ws.map .str))=some (ws.any fun a=>a == h):=by
    unfold hasT; dsimp only; rw [ha,hb]; rfl
  constructor
  · rw [← h1]
    match h with
    | []=>rfl
    | [c]=>rfl
    | c :: c' :: r=>rfl
  · rw [← h2]
    match h with
    | []=>rfl
    | [c]=>rfl
    | c :: c' :: r=>rfl
theorem Zmo {w:List Nat} (hw:w=[110,111,116]∨w=[97,110,100]∨w=[111,114]):(keyT (.str w)).bind (Qn (List.map (fun k=>.inr ⟨k.toArray⟩) [[110,111,116],[97,110,100],[111,114]]) [(.tup [(.str [97,110,100]),(.str [111,114])]),(.tup [(.str [97,110,100]),(.str [111,114])]),(.tup [(.str [111,114])])])=some (.tup ((kset w).map .str)):=by
  rcases hw with rfl | rfl | rfl <;> rfl
theorem Zdf {N:Nat} {w h:List Nat} {r:List T} {ws:List (List Nat)} (hw:w=[110,111,116]∨w=[97,110,100]∨w=[111,114]) (hne:ws≠[]) (hl:(Zc [32] ws).length≤3000) (hx:∀ m:Mem,cf N 10 [.t (.tup (.str h :: r))] m = .ok (.t (.str (Zc [32] ws))) m) (m:Mem) :
    cf (N + 1) 11 [.t (.str w),.t (.tup (.str h :: r))] m = .ok (.t (.str (Zc [32] (clos (kset w) (.tup (.str h :: r)) ws)))) m:=by
  have key:ex (cf N) gv Qw [some (.t (.str w)),some (.t (.tup (.str h :: r))),none] m = .ok (.ret (.t (.str (Zc [32] (clos (kset w) (.tup (.str h :: r)) ws))))) m:=by
    unfold Qw
    rw [Zr ((ZW (Zb rfl)).trans (hx m))]
    dsimp only [List.set_cons_succ,List.set_cons_zero]
    rw [Zd7 hne]
    have hc:ev (cf N) gv (.cmp .In (.ix (.var 1) (.con (.int 0))) (.gdg 13 (.var 0))) [some (.t (.str w)),some (.t (.tup (.str h :: r))),some (.t (.str (Zc [32] ws)))] m = .ok (.t (.bl ((kset w).any fun a=>a == h))) m :=
      Zz (Zq (Zb rfl)) (ZkH (Zb rfl) ZdZ (Zmo hw)) (ZkB h _).1
    show ex _ _ _ _ _ = .ok (.ret (.t (.str (if ((kset w).any fun a=>a == h)=true then _ else _)))) m
    cases q:(kset w).any fun a=>a == h with
    | true =>
      rw [q] at hc
      exact ZK hc (Zi (ZbR (Zd _) rfl (Zb rfl) rfl (Zd _) rfl (by simp [lim]; omega)))
    | false =>
      rw [q] at hc
      rw [Zk hc]
      exact Zi (Zb rfl)
  exact ZV (Zca _ _ _) rfl key (Zm (cell:=false) rfl)
theorem Jof.mono {s:List Nat} {P P':T→List (List Nat)→Prop} (hp:∀ t ws,P t ws→P' t ws) {t:T} {ws:List (List Nat)} (h:Jof s P t ws):Jof s P' t ws:=by
  rcases h with h | ⟨q,qs,h0,h1,h2,h3,h4⟩
  · exact .inl (hp _ _ h)
  · exact .inr ⟨q,qs,h0,hp _ _ h1,fun p hq=>hp _ _ (h2 p hq),h3,h4⟩
theorem G1.up:∀ {k:Nat} {t:T} {ws:List (List Nat)},G1 k t ws→G1 (k + 1) t ws
  | 0,t,ws,h=>.inl h
  | k + 1,t,ws,h=>by
    rcases h with h | ⟨t',ws',h,e1,e2⟩ | ⟨ws',h,e⟩
    · exact .inl h
    · exact .inr (.inl ⟨t',ws',h.up,e1,e2⟩)
    · exact .inr (.inr ⟨ws',h.mono fun _ _ z=>z.mono fun _ _ z=>z.up,e⟩)
theorem G1.leaf {k:Nat} {t:T} {ws:List (List Nat)} (h:LeafW t ws):G1 k t ws:=by
  cases k with
  | zero=>exact h
  | succ k=>exact .inl h
noncomputable def Jw (k:Nat) (t:T) (ws:List (List Nat)):Prop:=(Xn t=[97,110,100]→GA k t ws)∧(Xn t=[111,114]→GO k t ws)∧(Xn t≠[97,110,100]→Xn t≠[111,114]→G1 k t ws)
theorem Jw.go {k:Nat} {t:T} {ws:List (List Nat)} (h:Jw k t ws):GO k t ws:=by
  by_cases h1:Xn t=[97,110,100]
  · exact .inl (h.1 h1)
  · by_cases h2:Xn t=[111,114]
    · exact h.2.1 h2
    · exact .inl (.inl (h.2.2 h1 h2))
theorem Zg7 (h:List Nat):([[97,110,100],[111,114]].any fun a=>a == h)=(decide (h=[97,110,100]) || decide (h=[111,114])):=by
  show ([97,110,100] == h || ([111,114] == h || false))=_
  rw [Bool.or_false]
  congr 1
  · rw [Bool.eq_iff_iff,beq_iff_eq,decide_eq_true_eq]; exact eq_comm
  · rw [Bool.eq_iff_iff,beq_iff_eq,decide_eq_true_eq]; exact eq_comm
theorem Jw.clos2 {k:Nat} {t:T} {ws:List (List Nat)} (h:Jw k t ws):G1 (k + 1) t (clos [[97,110,100],[111,114]] t ws):=by
  unfold clos
  rw [Zg7]
  by_cases h1:Xn t=[97,110,100]
  · rw [decide_eq_true h1,Bool.true_or,if_pos rfl]
    exact .inr (.inr ⟨ws,h.go,rfl⟩)
  · by_cases h2:Xn t=[111,114]
    · rw [decide_eq_true h2,Bool.or_true,if_pos rfl]
      exact .inr (.inr ⟨ws,h.go,rfl⟩)
    · rw [decide_eq_false h1,decide_eq_false h2,Bool.or_false,if_neg Bool.false_ne_true]
      exact (h.2.2 h1 h2).up
theorem Jw.clos1 {k:Nat} {t:T} {ws:List (List Nat)} (h:Jw k t ws):GA (k + 1) t (clos [[111,114]] t ws):=by
  unfold clos
  show GA (k + 1) t (if ([111,114] == Xn t || false)=true then _ else _)
  rw [Bool.or_false]
  by_cases h2:Xn t=[111,114]
  · rw [h2,if_pos (by decide)]
    exact .inl (.inr (.inr ⟨ws,h.go,rfl⟩))
  · rw [if_neg (fun z=>h2 (eq_of_beq z).symm)]
    by_cases h1:Xn t=[97,110,100]
    · exact (h.1 h1).mono fun _ _ z=>z.up
    · exact .inl (h.2.2 h1 h2).up
theorem Zib (s:List Nat) (f:T→List (List Nat)) (t:T) (ts:List T):Jz s ((t :: ts).map f)=(t,f t).2++((ts.map fun y=>(y,f y)).flatMap fun p=>s :: p.2):=by
  rw [List.map_cons,Jz]
  congr 1
  rw [List.flatMap_map,List.flatMap_map]
structure Tx (d:Nat) (t:T):Prop where
  ne:cw d t≠[]
  sp:∀ w∈cw d t,32 ∉ w
  len:(Zc [32] (cw d t)).length≤60 * tot d [t]
  wt:∀ n m,cf (n + 2 * d) 10 [.t t] m = .ok (.t (.str (Zc [32] (cw d t)))) m
  st:Jw (2 * d) t (cw d t)
theorem ZlV {d:Nat} {t:T} (h:Leaf t):Tx (d + 1) t:=by
  obtain ⟨h1,h2,h3,h4⟩:=Zcr (d:=d) h
  have htot:tot (d + 1) [t]=1:=by rw [QD,h.kids0,Zav]
  refine ⟨h4,h2,by rw [htot]; exact h3,fun n m=>?_,?_⟩
  · have key:∀ call,ex call gv Z3 [some (.t t),none,none] m = .ok (.ret (.t (.str (Zc [32] (cw (d + 1) t))))) m:=fun call=>by
      unfold Z3
      cases h with
      | any =>
        rw [Zr (Zq (Zb rfl))]
        exact tkEq (Zb rfl) rfl (Zi (Zb rfl))
      | @two w v hw hv =>
        obtain ⟨_,g2,_⟩:=JC hv
        rw [Zr (Zq (Zb rfl)),skEq (Zb rfl) (by rcases hw with rfl | rfl <;> rfl)]
        refine tkIn (Zb rfl) (by rcases hw with rfl | rfl <;> rfl) (Zi ((ZbR (r:=v) (Zb rfl) rfl (Zd _) rfl (Xe (Zb rfl)) rfl ?_).trans rfl))
        rcases hw with rfl | rfl <;> (simp [lim]; omega)
      | @three w v k hw hv k0 k1 =>
        obtain ⟨_,g2,_⟩:=JC hv
        obtain ⟨_,_,_,f4⟩:=ZbS k0 (by omega)
        have hk:fmtT (.int k)=some (decI k):=if_pos (by omega)
        have e2:∀ env:Env,env[0]? = some (some (.t (.tup [.str w,.str v,.int k])))→ev call gv (.ix (.var 0) (.con (.int 2))) env m = .ok (.t (.int k)) m:=fun env he=>ZbQ (Zb he) (Zd _) rfl
        rw [Zr (Zq (Zb rfl)),skEq (Zb rfl) (by rcases hw with rfl | rfl <;> rfl),skIn (Zb rfl) (by rcases hw with rfl | rfl <;> rfl)]
        rcases hw with rfl | rfl
        · refine tkEq (Zb rfl) rfl (Zi ((ZbR (Xe (Zb rfl)) rfl (Zd _) rfl (e2 _ rfl) hk (by simp [lim]; omega)).trans ?_))
          show Res.ok (W.t (.str (v++[32,62,61,32]++decI k))) m = .ok (.t (.str (v++[32]++([62,61]++[32]++decI k)))) m
          simp
        · rw [skEq (Zb rfl) rfl]
          refine tkEq (Zb rfl) rfl (Zi ((ZbR (Xe (Zb rfl)) rfl (Zd _) rfl (e2 _ rfl) hk (by simp [lim]; omega)).trans ?_))
          show Res.ok (W.t (.str (v++[32,60,61,32]++decI k))) m = .ok (.t (.str (v++[32]++([60,61]++[32]++decI k)))) m
          simp
    exact ZV (Xp _ _ _) rfl (key _) (Zm (cell:=false) rfl)
  · refine ⟨fun z=>?_,fun z=>?_,fun _ _=>.leaf h1⟩
    · cases h with
      | any=>cases z
      | two hw _=>rcases hw with rfl | rfl <;> cases z
      | three hw _ _ _=>rcases hw with rfl | rfl <;> cases z
    · cases h with
      | any=>cases z
      | two hw _=>rcases hw with rfl | rfl <;> cases z
      | three hw _ _ _=>rcases hw with rfl | rfl <;> cases z
theorem Tx.cons {d:Nat} {t:T} (h:WT d t):∃ w r,t = .tup (.str w :: r):=by
  cases h with
  | leaf h _ _=>obtain ⟨w,r,e,_⟩:=ZaA h; exact ⟨w,r,e⟩
  | nt _=>exact ⟨_,_,rfl⟩
  | jn _ _ _ _=>exact ⟨_,_,rfl⟩
theorem ZfM {d:Nat} {t:T} (h:WT d t):cw (d + 1) (.tup [.str [110,111,116],t])=[110,111,116] :: clos [[97,110,100],[111,114]] t (cw d t):=by
  obtain ⟨w,r,rfl⟩:=Tx.cons h
  rfl
theorem ZfN {s:List (List Nat)} {t:T} {ws:List (List Nat)} (h:ws≠[]):(Zc [32] (clos s t ws)).length≤(Zc [32] ws).length + 4:=by
  rw [Zd7 h]
  split
  · simp only [List.length_append,List.length_cons,List.length_nil]; omega
  · omega
theorem Ze5 {s:List (List Nat)} {t:T} {ws:List (List Nat)} (h:∀ w∈ws,32 ∉ w):∀ w∈clos s t ws,32 ∉ w:=by
  unfold clos
  split
  · intro w hw
    simp only [List.mem_cons,List.mem_append,List.not_mem_nil,or_false] at hw
    rcases hw with rfl | hw | rfl
    · decide
    · exact h w hw
    · decide
  · exact h
theorem not_tx {d:Nat} {t:T} (hw:WT d t) (h:Tx d t) (hz:60 * tot (d + 1) [.tup [.str [110,111,116],t]]≤2400):Tx (d + 1) (.tup [.str [110,111,116],t]):=by
  have htot:tot (d + 1) [.tup [.str [110,111,116],t]]=1 + tot d [t]:=by rw [QD,QW]
  have hc:=Ze6 (s:=[[97,110,100],[111,114]]) (t:=t) h.ne
  have hcl:=ZfN (s:=[[97,110,100],[111,114]]) (t:=t) h.ne
  have hlen:=h.len
  have etext:Zc [32] (cw (d + 1) (.tup [.str [110,111,116],t]))=[110,111,116,32]++Zc [32] (clos [[97,110,100],[111,114]] t (cw d t)):=by
    rw [ZfM hw]
    exact (Jb (a:=[[110,111,116]]) (by simp) hc).trans rfl
  refine ⟨by rw [ZfM hw]; simp,?_,?_,fun n m=>?_,?_⟩
  · rw [ZfM hw]
    intro w hm
    rcases List.mem_cons.mp hm with rfl | hm
    · decide
    · exact Ze5 h.sp w hm
  · rw [etext,htot,List.length_append]
    simp only [List.length_cons,List.length_nil]
    omega
  · obtain ⟨a,r,rfl⟩:=Tx.cons hw
    have hi:=Zdf (N:=n + 2 * d) (w:=[110,111,116]) (.inl rfl) h.ne (by omega) (fun m=>h.wt n m) m
    have key:ex (cf (n + 2 * d + 1)) gv Z3 [some (.t (.tup [.str [110,111,116],.tup (.str a :: r)])),none,none] m = .ok (.ret (.t (.str (Zc [32] (cw (d + 1) (.tup [.str [110,111,116],.tup (.str a :: r)])))))) m:=by
      unfold Z3
      rw [etext,Zr (Zq (Zb rfl)),skEq (Zb rfl) rfl,skIn (Zb rfl) rfl,skEq (Zb rfl) rfl,skEq (Zb rfl) rfl]
      exact tkEq (Zb rfl) rfl (Zi (Zmb (Zd _) rfl ((Z4 (Zb rfl) (Xe (Zb rfl))).trans hi) rfl (by show 4 + (Zc [32] (clos [[97,110,100],[111,114]] _ _)).length≤lim; unfold lim; omega)))
    exact ZV (Xp _ _ _) rfl key (Zm (cell:=false) rfl)
  · refine ⟨(fun z=>by cases z),(fun z=>by cases z),fun _ _=>?_⟩
    rw [ZfM hw]
    exact .inr (.inl ⟨t,_,h.st.clos2,rfl,rfl⟩)
theorem Zj9 {d:Nat} {w:List Nat} {ts:List T} (hw:w=[97,110,100]∨w=[111,114]):cw (d + 1) (.tup [.str w,.tup ts])=Jz w (ts.map fun y=>clos (kset w) y (cw d y)):=by
  rcases hw with rfl | rfl <;> rfl
theorem Zko {f g:T→Nat}:∀ {ts:List T},(∀ t∈ts,f t≤g t)→(ts.map f).sum≤(ts.map g).sum
  | [],_=>Nat.le_refl _
  | t :: ts,h=>by
    rw [List.map_cons,List.map_cons,List.sum_cons,List.sum_cons]
    exact Nat.add_le_add (h t List.mem_cons_self) (Zko fun x hx=>h x (List.mem_cons_of_mem _ hx))
theorem ZdS {f:T→Nat}:∀ {ts:List T} {t:T},t∈ts→f t≤(ts.map f).sum
  | x :: ts,t,h=>by
    rw [List.map_cons,List.sum_cons]
    rcases List.mem_cons.mp h with rfl | h
    · omega
    · have:=ZdS (f:=f) h
      omega
theorem Zes (f:T→Nat) (k c:Nat):∀ ts:List T,(ts.map fun t=>k * f t + c).sum=k * (ts.map f).sum + c * ts.length
  | []=>by simp
  | t :: ts=>by
    rw [List.map_cons,List.map_cons,List.sum_cons,List.sum_cons,Zes f k c ts,List.length_cons,Nat.mul_add,Nat.mul_add]
    omega
theorem ZbE (sep:List Nat):∀ ys:List (List Nat),(Zc sep ys).length≤(ys.map List.length).sum + ys.length * sep.length
  | []=>by simp [Zc]
  | [x]=>by simp [Zc]
  | x :: y :: r=>by
    have ih:=ZbE sep (y :: r)
    show (x++sep++Zc sep (y :: r)).length≤_
    rw [List.length_append,List.length_append,List.map_cons,List.sum_cons,List.length_cons,Nat.add_mul]
    omega
theorem ZeZ {call:Nat→List W→Mem→Res W} {gv:List T} {env:Env} {m m1 m2:Mem} {a b:E} {sep:List Nat} {ys:List (List Nat)} (h1:ev call gv a env m = .ok (.t (.str sep)) m1) (h2:ev call gv b env m1 = .ok (.t (.lst (ys.map .str))) m2) (hz:(ys.map List.length).sum + ys.length * sep.length≤lim):ev call gv (.mth .join a (.cons b .nil)) env m = .ok (.t (.str (Zc sep ys))) m2:=by
  rw [ev,h1,Zh,Zkn,if_pos rfl,X6 h2 ZbO,Zh]
  have hs:strs? (ys.map T.str)=some ys:=by
    have:=strs_map (fun x:List Nat=>x) ys
    simpa using this
  exact ZkK hs hz
theorem ZfY {call:Nat→List W→Mem→Res W} {gv:List T} {m:Mem} {c cl:E} {env:Env} {ts:List T} {x1:W} {w:List Nat} {f:T→List Nat} (hc:c = .comp 1 [1] (.ix (.var 0) (.con (.int 1))) (.nm 0) .nil (.emit cl)) (h0:env[0]? = some (some (.t (.tup [.str w,.tup ts])))) (h1:env[1]? = some (some x1)) (hl:ts.length≤100) (hf:∀ t∈ts,ev call gv cl [some (.t t),some x1] m = .ok (.t (.str (f t))) m) :
    ev call gv c env m = .ok (.t (.lst ((ts.map f).map .str))) m:=by
  subst hc
  have h:=Qv (f:=QJ call gv .nil (.emit cl)) (tg:=.nm 0) (env:=[none,some x1]) (m:=m) (g:=fun t=>[.str (f t)]) ts (fun t ht=>⟨[some (.t t),some x1],rfl,ZiZ (Zc4 (hf t ht))⟩)
  rw [Qg,show (ts.map fun t=>T.str (f t))=(ts.map f).map T.str by rw [List.map_map]; rfl] at h
  refine Qz (x:=.t (.tup ts)) (m0:=m) (m1:=m) (Xe (Zb h0)) rfl ?_ (by rw [List.length_map,List.length_map]; unfold lim; omega)
  rw [show (List.replicate 1 none++[1].map fun i=>(env[i]?).join)=[none,some x1] by simp [h1]]
  exact h
theorem jn_tx {d:Nat} {w:List Nat} {ts:List T} (hw:w=[97,110,100]∨w=[111,114]) (h2:2≤ts.length) (h6:ts.length≤6) (hts:∀ t∈ts,WT d t) (h:∀ t∈ts,Tx d t) (hz:60 * tot (d + 1) [.tup [.str w,.tup ts]]≤2400):Tx (d + 1) (.tup [.str w,.tup ts]):=by
  have htot:tot (d + 1) [.tup [.str w,.tup ts]]=1 + (ts.map fun x=>tot d [x]).sum:=by rw [QD,Jy hw h2 h6,Zau]
  have hsum:(ts.map fun t=>(Zc [32] (clos (kset w) t (cw d t))).length).sum≤60 * (ts.map fun x=>tot d [x]).sum + 4 * ts.length:=by
    rw [← Zes]
    exact Zko fun t ht=>Nat.le_trans (ZfN (h t ht).ne) (Nat.add_le_add_right (h t ht).len 4)
  have hw3:w.length≤3:=by rcases hw with rfl | rfl <;> decide
  have hsz:((ts.map fun t=>Zc [32] (clos (kset w) t (cw d t))).map List.length).sum + (ts.map fun t=>Zc [32] (clos (kset w) t (cw d t))).length * (32 :: w++[32]).length≤60 * (1 + (ts.map fun x=>tot d [x]).sum):=by
    rw [List.map_map,List.length_map]
    have e:(32 :: w++[32]).length≤5:=by simp; omega
    have e2:ts.length * (32 :: w++[32]).length≤ts.length * 5:=Nat.mul_le_mul_left _ e
    have e3:(List.map (List.length ∘ fun t=>Zc [32] (clos (kset w) t (cw d t))) ts).sum=(ts.map fun t=>(Zc [32] (clos (kset w) t (cw d t))).length).sum:=rfl
    rw [e3]
    omega
  have etext:Zc [32] (cw (d + 1) (.tup [.str w,.tup ts]))=Zc (32 :: w++[32]) (ts.map fun t=>Zc [32] (clos (kset w) t (cw d t))):=by
    rw [Zj9 hw,← Xw,List.map_map]
    · rfl
    · intro x hx
      obtain ⟨t,ht,rfl⟩:=List.mem_map.mp hx
      exact Ze6 (h t ht).ne
  have hwn:w=[110,111,116]∨w=[97,110,100]∨w=[111,114]:=.inr hw
  have each:∀ t∈ts,(Zc [32] (cw d t)).length≤3000:=fun t ht=>by
    have a1:=(h t ht).len
    have a2:tot d [t]≤(ts.map fun x=>tot d [x]).sum:=ZdS (f:=fun x=>tot d [x]) ht
    omega
  refine ⟨?_,?_,?_,fun n m=>?_,?_⟩
  · rw [Zj9 hw]
    cases ts with
    | nil=>simp at h2
    | cons t ts=>exact Zc0 (Ze6 (h t List.mem_cons_self).ne)
  · rw [Zj9 hw]
    cases ts with
    | nil=>simp at h2
    | cons t ts =>
      intro x hx
      rw [List.map_cons,Jz] at hx
      rcases List.mem_append.mp hx with hx | hx
      · exact Ze5 (h t List.mem_cons_self).sp x hx
      · obtain ⟨y,hy,hx⟩:=List.mem_flatMap.mp hx
        obtain ⟨t',ht',rfl⟩:=List.mem_map.mp hy
        rcases List.mem_cons.mp hx with rfl | hx
        · rcases hw with rfl | rfl <;> decide
        · exact Ze5 (h t' (List.mem_cons_of_mem _ ht')).sp x hx
  · rw [etext,htot]
    exact Nat.le_trans (ZbE _ _) hsz
  · have key:ex (cf (n + 2 * d + 1)) gv Z3 [some (.t (.tup [.str w,.tup ts])),none,none] m = .ok (.ret (.t (.str (Zc [32] (cw (d + 1) (.tup [.str w,.tup ts])))))) m:=by
      unfold Z3
      rw [etext,Zr (Zq (Zb rfl)),skEq (Zb rfl) (by rcases hw with rfl | rfl <;> rfl),skIn (Zb rfl) (by rcases hw with rfl | rfl <;> rfl),skEq (Zb rfl) (by rcases hw with rfl | rfl <;> rfl),skEq (Zb rfl) (by rcases hw with rfl | rfl <;> rfl),skEq (Zb rfl) (by rcases hw with rfl | rfl <;> rfl)]
      rw [Zr (ZbR (Zd _) rfl (Zb rfl) rfl (Zd _) rfl (by simp [lim]; omega))]
      dsimp only [List.set_cons_succ,List.set_cons_zero]
      refine Zi (ZeZ (Zb rfl) (ZfY (f:=fun t=>Zc [32] (clos (kset w) t (cw d t))) rfl rfl rfl (by omega) fun t ht=>?_) (Nat.le_trans hsz (by unfold lim; omega)))
      obtain ⟨a,r,rfl⟩:=Tx.cons (hts t ht)
      exact (Z4 (Zb rfl) (Zb rfl)).trans (Zdf hwn (h _ ht).ne (each _ ht) (fun m=>(h _ ht).wt n m) m)
    exact ZV (Xp _ _ _) rfl key (Zm (cell:=false) rfl)
  · cases ts with
    | nil=>simp at h2
    | cons t ts =>
      have hne:ts≠[]:=by intro z; subst z; simp at h2
      rw [Zj9 hw,Zib]
      rcases hw with rfl | rfl
      · refine ⟨fun _=>?_,(fun z=>by cases z),fun z _=>absurd rfl z⟩
        refine .inr ⟨(t,clos (kset [97,110,100]) t (cw d t)),ts.map fun y=>(y,clos (kset [97,110,100]) y (cw d y)),by simpa using hne,(h t List.mem_cons_self).st.clos2.up,fun p hp=>?_,?_,rfl⟩
        · obtain ⟨y,hy,rfl⟩:=List.mem_map.mp hp
          exact (h y (List.mem_cons_of_mem _ hy)).st.clos2.up
        · rw [List.map_map]
          show T.tup _=T.tup [_,T.tup (t :: ts.map (fun y=>y))]
          rw [List.map_id']
      · refine ⟨(fun z=>by cases z),fun _=>?_,fun _ z=>absurd rfl z⟩
        refine .inr ⟨(t,clos (kset [111,114]) t (cw d t)),ts.map fun y=>(y,clos (kset [111,114]) y (cw d y)),by simpa using hne,(h t List.mem_cons_self).st.clos1.mono (fun _ _ z=>z.up),fun p hp=>?_,?_,rfl⟩
        · obtain ⟨y,hy,rfl⟩:=List.mem_map.mp hp
          exact (h y (List.mem_cons_of_mem _ hy)).st.clos1.mono (fun _ _ z=>z.up)
        · rw [List.map_map]
          show T.tup _=T.tup [_,T.tup (t :: ts.map (fun y=>y))]
          rw [List.map_id']
theorem tx_of:∀ {d:Nat} {t:T},WT d t→60 * tot d [t]≤2400→Tx d t:=by
  intro d t h
  induction h with
  | leaf hp _ _=>exact fun _=>ZlV (ZeR hp)
  | @nt d a hw ih =>
    intro hz
    have htot:tot (d + 1) [.tup [.str [110,111,116],a]]=1 + tot d [a]:=by rw [QD,QW]
    exact not_tx hw (ih (by omega)) hz
  | @jn d w ts hw h2 h6 hts ih =>
    intro hz
    refine jn_tx hw h2 h6 hts (fun t ht=>ih t ht ?_) hz
    have htot:tot (d + 1) [.tup [.str w,.tup ts]]=1 + (ts.map fun x=>tot d [x]).sum:=by rw [QD,Jy hw h2 h6,Zau]
    have a2:tot d [t]≤(ts.map fun x=>tot d [x]).sum:=ZdS (f:=fun x=>tot d [x]) ht
    omega
theorem ZfK:∀ (n:Nat) (t:T),Zj n t=true→eqT t t=true:=by
  intro n
  induction n with
  | zero =>
    intro t h
    cases t with
    | non=>rfl
    | bl b=>simp [eqT]
    | int b=>simp [eqT]
    | str b=>simp [eqT]
    | tup ts=>simp [Zj] at h
    | lst ts=>simp [Zj] at h
    | dct ks ts=>simp [Zj] at h
    | scr ns=>simp [Zj] at h
  | succ n ih =>
    have hl:∀ ts:List T,Qi n ts=true→eqTs ts ts=true:=by
      intro ts
      induction ts with
      | nil=>intro _; rfl
      | cons t ts iht =>
        intro h
        rw [Qi,Bool.and_eq_true] at h
        rw [eqTs,ih t h.1,iht h.2]
        rfl
    intro t h
    cases t with
    | tup ts=>rw [Zj] at h; rw [eqT]; exact hl ts h
    | lst ts=>rw [Zj] at h; rw [eqT]; exact hl ts h
    | non=>rfl
    | bl b=>simp [eqT]
    | int b=>simp [eqT]
    | str b=>simp [eqT]
    | dct ks ts=>simp [Zj] at h
    | scr ns=>simp [Zj] at h
theorem ZlP {t:T} (h:Zj 60 t=true):cmpT .NotEq t t=some false:=by
  show (if (Zeu t t || (Zj 60 t && Zj 60 t))=true then some (!eqT t t) else none)=_
  rw [h,Bool.true_and,Bool.or_true,if_pos rfl,ZfK 60 t h]
  rfl
theorem eq_self {t:T} (h:Zj 60 t=true):cmpT .Eq t t=some true:=by
  show (if (Zeu t t || (Zj 60 t && Zj 60 t))=true then some (eqT t t) else none)=_
  rw [h,Bool.true_and,Bool.or_true,if_pos rfl,ZfK 60 t h]
theorem ZfL {k:Nat} {w:List Nat} (h:Xf w=true):Zj k (.str w)=true:=by
  unfold Zj
  show (w.toArray.all fun c=>decide (c < 0x110000))=true
  rw [List.all_toArray,List.all_eq_true]
  intro c hc
  have:c < 200:=by
    unfold Xf at h
    simp only [Bool.and_eq_true] at h
    have:=of_decide_eq_true (List.all_eq_true.mp h.2 c hc)
    unfold lett at this
    simp at this
    omega
  exact decide_eq_true (by omega)
theorem Jq {k:Nat}:∀ {ts:List T},(∀ t∈ts,Zj k t=true)→Qi k ts=true
  | [],_=>by unfold Qi; rfl
  | t :: ts,h=>by
    unfold Qi
    rw [h t List.mem_cons_self,Jq fun u hu=>h u (List.mem_cons_of_mem _ hu)]
    rfl
theorem Zan {k:Nat} {w:List Nat} (h:∀ c∈w,c < 1114112):Zj k (.str w)=true:=by
  unfold Zj
  show (w.toArray.all fun c=>decide (c < 0x110000))=true
  rw [List.all_toArray,List.all_eq_true]
  exact fun c hc=>decide_eq_true (h c hc)
theorem ZlU {k:Nat} {t:T} (h:Leaf t):Zj (k + 1) t=true:=by
  cases h with
  | any=>rw [Zj]; exact Jq fun x hx=>by simp at hx; subst hx; exact Zan (by decide)
  | @two w v hw hv =>
    rw [Zj]
    refine Jq fun x hx=>?_
    simp only [List.mem_cons,List.not_mem_nil,or_false] at hx
    rcases hx with rfl | rfl
    · rcases hw with rfl | rfl <;> exact Zan (by decide)
    · exact ZfL hv
  | @three w v n hw hv _ _ =>
    rw [Zj]
    refine Jq fun x hx=>?_
    simp only [List.mem_cons,List.not_mem_nil,or_false] at hx
    rcases hx with rfl | rfl | rfl
    · rcases hw with rfl | rfl <;> exact Zan (by decide)
    · exact ZfL hv
    · unfold Zj; rfl
noncomputable def mx:List Nat→Nat
  | []=>0
  | x :: r=>max x (mx r)
noncomputable def dpt:Nat→T→Nat
  | 0,_=>0
  | d + 1,t=>1 + mx ((kids t).map (dpt d))
theorem ZjT:∀ {xs:List Nat} {x:Nat},x∈xs→x≤mx xs
  | y :: r,x,h=>by
    rcases List.mem_cons.mp h with rfl | h
    · exact Nat.le_max_left _ _
    · exact Nat.le_trans (ZjT h) (Nat.le_max_right _ _)
theorem ZhU:∀ {xs:List Nat},xs≠[]→mx xs∈xs
  | [],h=>absurd rfl h
  | [x],_=>by simp [mx]
  | x :: y :: r,_=>by
    have ih:=ZhU (xs:=y :: r) (by simp)
    show max x (mx (y :: r))∈_
    by_cases h:mx (y :: r)≤x
    · rw [Nat.max_eq_left h]; exact List.mem_cons_self
    · rw [Nat.max_eq_right (by omega)]; exact List.mem_cons_of_mem _ ih
theorem ZlS (x:Nat) (r:List Nat):maxI (x:Int) (r.map fun k:Nat=>(k:Int))=((mx (x :: r):Nat):Int):=by
  obtain ⟨h1,h2,h3⟩:=ZeO (r.map fun k:Nat=>(k:Int)) (x:Int)
  refine Int.le_antisymm ?_ ?_
  · rcases List.mem_cons.mp h3 with e | e
    · rw [e]
      have:=ZjT (xs:=x :: r) List.mem_cons_self
      omega
    · obtain ⟨k,hk,e⟩:=List.mem_map.mp e
      rw [← e]
      have:=ZjT (xs:=x :: r) (List.mem_cons_of_mem _ hk)
      omega
  · have:=ZhU (xs:=x :: r) (by simp)
    rcases List.mem_cons.mp this with e | e
    · rw [e]; exact h1
    · exact h2 _ (List.mem_map.mpr ⟨_,e,rfl⟩)
theorem dpt_le:∀ {d:Nat} {t:T},WT d t→dpt d t≤d:=by
  intro d t h
  have mxle:∀ {xs:List Nat} {b:Nat},(∀ x∈xs,x≤b)→mx xs≤b:=fun {xs b} hb=>by
    cases xs with
    | nil=>exact Nat.zero_le _
    | cons x r=>exact hb _ (ZhU (by simp))
  induction h with
  | leaf hp hk _=>rw [dpt,hk]; simp [mx]
  | @nt d a hw ih =>
    rw [dpt,QW]
    have:=mxle (xs:=[a].map (dpt d)) (b:=d) (by simpa using ih)
    omega
  | @jn d w ts hw h2 h6 hts ih =>
    rw [dpt,Jy hw h2 h6]
    have:=mxle (xs:=ts.map (dpt d)) (b:=d) (by simpa using ih)
    omega
theorem Zmg:∀ {d:Nat} {t:T},WT d t→∀ (n:Nat) (m:Mem),cf (n + d) 29 [.t t] m = .ok (.t (.int (dpt d t:Nat))) m:=by
  intro d t h
  induction h with
  | @leaf d t hp hk hf =>
    intro n m
    obtain ⟨w,r,rfl,n1,n2,n3⟩:=ZaA hp
    have key:ex (cf (n + d)) gv JB [some (.t (.tup (.str w :: r)))] m = .ok (.ret (.t (.int (dpt (d + 1) (.tup (.str w :: r)):Nat)))) m:=by
      unfold JB
      rw [skEq (Zq (Zb rfl)) (beq_eq_false_iff_ne.mpr n1),skIn (Zq (Zb rfl)) (by rw [Bool.or_eq_false_iff]; exact ⟨beq_eq_false_iff_ne.mpr (Ne.symm n2),beq_eq_false_iff_ne.mpr (Ne.symm n3)⟩),dpt,hk]
      exact Zi (Zd _)
    exact ZV (Zda _ _ _) rfl key (Zm (cell:=false) rfl)
  | @nt d a hw ih =>
    intro n m
    have key:ex (cf (n + d)) gv JB [some (.t (.tup [.str [110,111,116],a]))] m = .ok (.ret (.t (.int (dpt (d + 1) (.tup [.str [110,111,116],a]):Nat)))) m:=by
      unfold JB
      rw [dpt,QW]
      refine (tkEq (Zq (Zb rfl)) rfl (Zi (Qy (Zd _) ((ZW (Xe (Zb rfl))).trans (ih n m)) (ZgX _ _)))).trans ?_
      congr 4
      simp [mx]
    exact ZV (Zda _ _ _) rfl key (Zm (cell:=false) rfl)
  | @jn d w ts hw h2 h6 hts ih =>
    intro n m
    have hc:ev (cf (n + d)) gv Zei [some (.t (.tup [.str w,.tup ts]))] m = .ok (.t (.lst (ts.map fun t=>.int (dpt d t:Nat)))) m:=by
      have h:=Qv (f:=QJ (cf (n + d)) gv .nil ZdY) (tg:=.nm 0) (env:=[none]) (m:=m) (g:=fun t=>[.int (dpt d t:Nat)]) ts (fun t ht=>⟨[some (.t t)],rfl,ZiZ (Zc4 ((ZW (Zb rfl)).trans (ih t ht n m)))⟩)
      rw [Qg] at h
      exact Qz (x:=.t (.tup ts)) (m0:=m) (m1:=m) (Xe (Zb rfl)) rfl h (by rw [List.length_map]; unfold lim; omega)
    have key:ex (cf (n + d)) gv JB [some (.t (.tup [.str w,.tup ts]))] m = .ok (.ret (.t (.int (dpt (d + 1) (.tup [.str w,.tup ts]):Nat)))) m:=by
      unfold JB
      rw [dpt,Jy hw h2 h6,skEq (Zq (Zb rfl)) (by rcases hw with rfl | rfl <;> rfl)]
      have hm:bltT .maxl [.lst (ts.map fun t=>.int (dpt d t:Nat))]=some (.int (mx (ts.map (dpt d)):Nat)):=by
        show ZhX (ts.map fun t=>T.int (dpt d t:Nat))=_
        have hi:∀ xs:List T,ints? (xs.map fun t=>T.int (dpt d t:Nat))=some ((xs.map (dpt d)).map fun k:Nat=>(k:Int)):=fun xs=>by
          induction xs with
          | nil=>rfl
          | cons x xs ih=>rw [List.map_cons,ints?,ih]; rfl
        unfold ZhX
        rw [hi]
        cases ts with
        | nil=>simp at h2
        | cons t ts =>
          show (if _ then some (T.int (maxI ((dpt d t:Nat):Int) ((ts.map (dpt d)).map fun k:Nat=>(k:Int)))) else none)=_
          rw [if_pos (by simp at h6 ⊢; omega),ZlS]
          rfl
      refine (tkIn (Zq (Zb rfl)) (by rcases hw with rfl | rfl <;> rfl) (Zi (Qy (Zd _) (Jf hc hm) (ZgX _ _)))).trans ?_
      congr 4
    exact ZV (Zda _ _ _) rfl key (Zm (cell:=false) rfl)
noncomputable def brk:Nat→List (List Nat)→List (List Nat)
  | 0,ws=>ws
  | k + 1,ws=>[40] :: (brk k ws++[[41]])
theorem ZkN {k:Nat} {ws:List (List Nat)} (h:ws≠[]):brk k ws≠[]:=by
  cases k with
  | zero=>exact h
  | succ k=>simp [brk]
theorem ZkM {ws:List (List Nat)} (h:∀ w∈ws,32 ∉ w):∀ k,∀ w∈brk k ws,32 ∉ w
  | 0=>h
  | k + 1=>by
    intro w hw
    simp only [brk,List.mem_cons,List.mem_append,List.not_mem_nil,or_false] at hw
    rcases hw with rfl | hw | rfl
    · decide
    · exact ZkM h k w hw
    · decide
theorem Za8 {α:Type} (xs:List α) (k:Nat):repT xs (k + 1)=xs++repT xs k:=by simp [repT,List.replicate_succ]
theorem Zfn {α:Type} (xs:List α):∀ k,repT xs k++xs=xs++repT xs k
  | 0=>by simp [repT]
  | k + 1=>by rw [Za8,List.append_assoc,Zfn xs k]
theorem Zbf {ws:List (List Nat)} (h:ws≠[]):∀ k,Zc [32] (brk k ws)=repT [40,32] k++Zc [32] ws++repT [32,41] k
  | 0=>by simp [brk,repT]
  | k + 1=>by
    rw [brk,ZfA (ZkN h),Zbf h k,Za8,Za8,← Zfn [32,41] k]
    simp
theorem ZiH {ws:List (List Nat)} (h:ws≠[]) (k:Nat):(Zc [32] (brk k ws)).length=(Zc [32] ws).length + 4 * k:=by
  have hr:∀ (xs:List Nat) (k:Nat),(repT xs k).length=k * xs.length:=fun xs k=>by
    induction k with
    | zero=>simp [repT]
    | succ k ih=>rw [Za8,List.length_append,ih,Nat.succ_mul]; omega
  rw [Zbf h,List.length_append,List.length_append,hr,hr]
  simp
  omega
theorem G1.upN {k:Nat} {t:T} {ws:List (List Nat)} (h:G1 k t ws):∀ j,G1 (k + j) t ws
  | 0=>h
  | j + 1=>(h.upN j).up
theorem Jw.up {k:Nat} {t:T} {ws:List (List Nat)} (h:Jw k t ws):Jw (k + 1) t ws :=
  ⟨fun z=>(h.1 z).mono fun _ _ z=>z.up,fun z=>(h.2.1 z).mono fun _ _ z=>z.mono fun _ _ z=>z.up,fun a b=>(h.2.2 a b).up⟩
theorem Jw.brk {k:Nat} {t:T} {ws:List (List Nat)} (h:Jw k t ws):∀ j,G1 (k + (j + 1)) t (brk (j + 1) ws)
  | 0=>.inr (.inr ⟨ws,h.go,rfl⟩)
  | j + 1=>.inr (.inr ⟨_,.inl (.inl (h.brk j)),rfl⟩)
structure Ar (s:List (List Nat)) (d r:Nat) (t:T) (ws:List (List Nat)):Prop where
  ne:ws≠[]
  sp:∀ w∈ws,32 ∉ w
  len:(Zc [32] ws).length≤80 * tot d [t] + 8
  st:G1 r t ws∨((s.any fun a=>a == Xn t)=false∧Jw r t ws)
structure Lo (d r:Nat) (t:T) (ws:List (List Nat)):Prop where
  ne:ws≠[]
  sp:∀ w∈ws,32 ∉ w
  len:(Zc [32] ws).length≤80 * tot d [t]
  st:Jw r t ws
theorem Ar.one {d r:Nat} {t:T} {ws:List (List Nat)} (h:Ar [[97,110,100],[111,114]] d r t ws):G1 r t ws:=by
  rcases h.st with h | ⟨h1,h2⟩
  · exact h
  · rw [Zg7,Bool.or_eq_false_iff] at h1
    exact h2.2.2 (of_decide_eq_false h1.1) (of_decide_eq_false h1.2)
theorem Ar.two {d r:Nat} {t:T} {ws:List (List Nat)} (h:Ar [[111,114]] d r t ws):GA r t ws:=by
  rcases h.st with h | ⟨h1,h2⟩
  · exact .inl h
  · have h1:([111,114] == Xn t || false)=false:=h1
    rw [Bool.or_false] at h1
    by_cases hh:Xn t=[97,110,100]
    · exact h2.1 hh
    · exact .inl (h2.2.2 hh fun z=>by rw [z] at h1; revert h1; decide)
theorem Ar.go {s:List (List Nat)} {d r:Nat} {t:T} {ws:List (List Nat)} (h:Ar s d r t ws):GO r t ws:=by
  rcases h.st with h | ⟨_,h⟩
  · exact .inl (.inl h)
  · exact h.go
noncomputable def X8 (d:Nat) (t:T):Prop:=∀ (r n:Nat) (m:Mem) (i:Nat) (st:List T),i < m.length→IsSt st→2 * dpt d t≤r + 2→(Xn t=[110,111,116]→2 * dpt d t≤r + 1) →
  ∃ ws st',cf (n + 2 * d) 31 [.c i,.t t,.t (.int (r:Int))] (put m i st) = .ok (.t (.str (Zc [32] ws))) (put m i st')∧IsSt st'∧Lo d r t ws
theorem Zb1 {d:Nat} {t:T} (hw:WT d t) (hd:1≤d) (ht:80 * tot d [t]≤4000) (hL:X8 d t) (s:List (List Nat)) (hs:∀ a∈s,a=[97,110,100]∨a=[111,114]) (r:Nat) (hr:2 * dpt d t≤r + 1) (n:Nat) (m:Mem) (i:Nat) (st:List T) (hi:i < m.length) (hst:IsSt st) :
    ∃ ws st',cf (n + 2 * d + 1) 30 [.c i,.t t,.t (.lst (s.map .str)),.t (.int (r:Int))] (put m i st) = .ok (.t (.str (Zc [32] ws))) (put m i st')∧IsSt st'∧Ar s d r t ws:=by
  obtain ⟨h,tl,rfl⟩:=Tx.cons hw
  have hdp:1≤dpt d (.tup (.str h :: tl)):=by
    obtain ⟨d',rfl⟩:∃ d',d=d' + 1:=⟨d - 1,by omega⟩
    rw [dpt]; omega
  generalize hD:dpt d (.tup (.str h :: tl))=D at *
  -- the rest,once it is known how many were drawn
  have fin_:∀ (k0:Nat) (st1:List T),IsSt st1→k0≤2→(k0≠0→2 * D + 1 < r)→∃ ws st',ex (cf (n + 2 * d)) gv (.asg 5 (.bin .Add (.var 5) (.blt .int (.cons (.and (.var 4) (.cmp .Eq (.var 5) (.con (.int 0)))) .nil))) (.ret (.bin .Add (.bin .Add (.bin .Mult (.con (.str [40,32])) (.var 5)) (.call 31 (.cons (.var 0) (.cons (.var 1) (.cons (.bin .Sub (.var 3) (.var 5)) .nil))))) (.bin .Mult (.con (.str [32,41])) (.var 5))) .done))
      [some (.c i),some (.t (.tup (.str h :: tl))),some (.t (.lst (s.map .str))),some (.t (.int (r:Int))),some (.t (.bl (s.any fun a=>a == h))),some (.t (.int (k0:Int)))] (put m i st1) = .ok (.ret (.t (.str (Zc [32] ws)))) (put m i st')∧IsSt st'∧Ar s d r (.tup (.str h :: tl)) ws:=by
    intro k0 st1 hst1 hk hk1
    -- how many there are in all
    obtain ⟨k,hk2,hk3,hk4⟩:∃ k:Nat,k≤2∧((k0:Int) + b2i ((s.any fun a=>a == h) && ((k0:Int) == 0))=(k:Int))∧((k0=0∧(s.any fun a=>a == h)=true∧k=1)∨(k=k0∧(k0=0→(s.any fun a=>a == h)=false))):=by
      by_cases hz:k0=0
      · subst hz
        cases q:s.any fun a=>a == h with
        | true=>exact ⟨1,by omega,rfl,.inl ⟨rfl,rfl,rfl⟩⟩
        | false=>exact ⟨0,by omega,rfl,.inr ⟨rfl,fun _=>rfl⟩⟩
      · refine ⟨k0,hk,?_,.inr ⟨rfl,fun z=>absurd z hz⟩⟩
        rw [show ((k0:Int) == 0)=false by rw [beq_eq_false_iff_ne]; omega,Bool.and_false]
        simp [b2i]
    have hnot:(s.any fun a=>a == h)=true→h≠[110,111,116]:=fun hq z=>by
      obtain ⟨a,ha,e⟩:=List.any_eq_true.mp hq
      have e:=eq_of_beq e
      rw [← e] at z
      rcases hs a ha with e2 | e2 <;> (rw [e2] at z; revert z; decide)
    have hle:k≤r:=by
      rcases hk4 with ⟨_,_,rfl⟩ | ⟨rfl,_⟩
      · omega
      · by_cases hz:k=0
        · omega
        · have:=hk1 hz; omega
    obtain ⟨ws,st2,e2,hst2,hlo⟩:=hL (r - k) n m i st1 hi hst1 (by
      rw [hD]
      rcases hk4 with ⟨_,_,rfl⟩ | ⟨rfl,_⟩
      · omega
      · by_cases hz:k=0
        · omega
        · have:=hk1 hz; omega) (fun hh=>by
      rw [hD]
      rcases hk4 with ⟨_,hq,rfl⟩ | ⟨rfl,_⟩
      · exact absurd hh (hnot hq)
      · by_cases hz:k=0
        · omega
        · have:=hk1 hz; omega)
    have hlen:=hlo.len
    refine ⟨brk k ws,st2,?_,hst2,ZkN hlo.ne,ZkM hlo.sp k,?_,?_⟩
    · have ha:ev (cf (n + 2 * d)) gv (.and (.var 4) (.cmp .Eq (.var 5) (.con (.int 0)))) [some (.c i),some (.t (.tup (.str h :: tl))),some (.t (.lst (s.map .str))),some (.t (.int (r:Int))),some (.t (.bl (s.any fun a=>a == h))),some (.t (.int (k0:Int)))] (put m i st1) = .ok (.t (.bl ((s.any fun a=>a == h) && ((k0:Int) == 0)))) (put m i st1):=by
        cases q:s.any fun a=>a == h with
        | true=>exact (Zmc (Zb rfl)).trans (Zz (Zb rfl) (Zd _) (ZgW _ _))
        | false=>exact Zmd (Zb rfl)
      rw [Zr (Qy (Zb rfl) (Jf ha (ZlX _)) (ZgX _ _)),hk3]
      dsimp only [List.set_cons_succ,List.set_cons_zero]
      have hm:∀ a:List Nat,a.length≤1000→binT .Mult (.str a) (.int (k:Int))=some (.str (repT a k)):=fun a hl=>by
        show (if (0≤(k:Int)∧(k:Int)≤64)∧a.length≤1000 then some (T.str (repT a (k:Int).toNat)) else none)=_
        rw [if_pos ⟨⟨by omega,by omega⟩,hl⟩,Int.toNat_natCast]
      have hsub:ev (cf (n + 2 * d)) gv (.bin .Sub (.var 3) (.var 5)) [some (.c i),some (.t (.tup (.str h :: tl))),some (.t (.lst (s.map .str))),some (.t (.int (r:Int))),some (.t (.bl (s.any fun a=>a == h))),some (.t (.int (k:Int)))] (put m i st1) = .ok (.t (.int ((r - k:Nat):Int))) (put m i st1):=by
        refine Qy (Zb rfl) (Zb rfl) ((Zmr _ _).trans ?_)
        congr 2
        omega
      have hb:=ZiH hlo.ne k
      rw [Zbf hlo.ne,List.length_append,List.length_append] at hb
      rw [Zbf hlo.ne]
      exact Zi (Qy (Qy (Qy (Zd _) (Zb rfl) (hm _ (by decide))) ((Zc5 (Zb rfl) (Zb rfl) hsub).trans e2) (XN (by unfold lim; omega))) (Qy (Zd _) (Zb rfl) (hm _ (by decide))) (XN (by rw [List.length_append]; unfold lim; omega)))
    · rw [ZiH hlo.ne]; omega
    · cases k with
      | zero =>
        rcases hk4 with ⟨_,_,z⟩ | ⟨z,hf⟩
        · cases z
        · exact .inr ⟨hf z.symm,hlo.st⟩
      | succ j =>
        have:=hlo.st.brk j
        rw [show r - (j + 1) + (j + 1)=r by omega] at this
        exact .inl this
  have key:∃ ws st',ex (cf (n + 2 * d)) gv JT [some (.c i),some (.t (.tup (.str h :: tl))),some (.t (.lst (s.map .str))),some (.t (.int (r:Int))),none,none] (put m i st) = .ok (.ret (.t (.str (Zc [32] ws)))) (put m i st')∧IsSt st'∧Ar s d r (.tup (.str h :: tl)) ws:=by
    unfold JT
    rw [Zr (Zz (Zq (Zb rfl)) (Zb rfl) (ZkB h s).2)]
    dsimp only [List.set_cons_succ,List.set_cons_zero]
    rw [Zr (Zd _)]
    dsimp only [List.set_cons_succ,List.set_cons_zero]
    have hdeep:=Zmg hw (n + d) (put m i st)
    rw [show n + d + d=n + 2 * d by omega,hD] at hdeep
    have hc:ev (cf (n + 2 * d)) gv (.cmp .Gt (.var 3) (.bin .Add (.bin .Mult (.con (.int 2)) (.call 29 (.cons (.var 1) .nil))) (.con (.int 1)))) [some (.c i),some (.t (.tup (.str h :: tl))),some (.t (.lst (s.map .str))),some (.t (.int (r:Int))),some (.t (.bl (s.any fun a=>a == h))),some (.t (.int 0))] (put m i st) = .ok (.t (.bl (decide (2 * (D:Int) + 1 < (r:Int))))) (put m i st) :=
      Zz (Zb rfl) (Qy (Qy (Zd _) ((ZW (Zb rfl)).trans hdeep) (b_mul (mulL (by decide) (by decide)))) (Zd _) (ZgX _ _)) (c_gt _ _)
    by_cases hg:2 * D + 1 < r
    · rw [decide_eq_true (by omega)] at hc
      obtain ⟨d',hd'⟩:∃ d',n + 2 * d=d' + 1:=⟨n + 2 * d - 1,by omega⟩
      obtain ⟨v,st1,e1,hst1,v0,v1⟩:=Qx (n:=d') (many:=4) hi hst (by decide) (by decide)
      rw [← hd'] at e1
      obtain ⟨k0,hk0,hk0'⟩:∃ k0:Nat,k0≤2∧ixT (.lst [.int 0,.int 0,.int 1,.int 2]) (.int v)=some (.int (k0:Int)):=by
        have hv:v=0∨v=1∨v=2∨v=3:=by omega
        rcases hv with rfl | rfl | rfl | rfl
        · exact ⟨0,by omega,rfl⟩
        · exact ⟨0,by omega,rfl⟩
        · exact ⟨1,by omega,rfl⟩
        · exact ⟨2,by omega,rfl⟩
      rw [ZkF hc (env':=[some (.c i),some (.t (.tup (.str h :: tl))),some (.t (.lst (s.map .str))),some (.t (.int (r:Int))),some (.t (.bl (s.any fun a=>a == h))),some (.t (.int (k0:Int)))]) (m2:=put m i st1) (by
        rw [Zr (ZbQ (ZfJ (X6 (Zd _) (X6 (Zd _) (X6 (Zd _) (X6 (Zd _) ZbO)))) rfl Zfx) ((Z4 (Zb rfl) (Zd _)).trans e1) hk0'),ex]
        rfl)]
      exact fin_ k0 st1 hst1 hk0 fun _=>hg
    · rw [decide_eq_false (by omega)] at hc
      rw [Zk hc]
      exact fin_ 0 st hst (by omega) fun z=>absurd rfl z
  obtain ⟨ws,st',e,hst',hA⟩:=key
  exact ⟨ws,st',ZV (ZgU _ _ _) rfl e (Zm (cell:=false) (QF.trans QF.symm)),hst',hA⟩
theorem Zgs {d:Nat} {t:T} (h:Leaf t):X8 (d + 1) t:=by
  intro r n m i st hi hst _ _
  obtain ⟨h1,h2,h3,h4⟩:=Zcr (d:=d) h
  have htot:tot (d + 1) [t]=1:=by rw [QD,h.kids0,Zav]
  refine ⟨cw (d + 1) t,st,?_,hst,h4,h2,by rw [htot]; omega,?_⟩
  · have key:∀ (call:Nat→List W→Mem→Res W) (m:Mem),ex call gv Q9 [some (.c i),some (.t t),some (.t (.int (r:Int))),none] m = .ok (.ret (.t (.str (Zc [32] (cw (d + 1) t))))) m:=fun call m=>by
      unfold Q9
      cases h with
      | any=>exact tkEq (Zq (Zb rfl)) rfl (Zi (Zd _))
      | @two w v hw hv =>
        obtain ⟨_,g2,_⟩:=JC hv
        rw [skEq (Zq (Zb rfl)) (by rcases hw with rfl | rfl <;> rfl)]
        refine tkIn (Zq (Zb rfl)) (by rcases hw with rfl | rfl <;> rfl) (Zi ((Qy (Qy (Zq (Zb rfl)) (Zd _) (XN ?_)) (Xe (Zb rfl)) (XN (b:=v) ?_)).trans rfl))
        · rcases hw with rfl | rfl <;> simp [lim]
        · rcases hw with rfl | rfl <;> (simp [lim]; omega)
      | @three w v k hw hv k0 k1 =>
        obtain ⟨_,g2,_⟩:=JC hv
        obtain ⟨_,_,_,f4⟩:=ZbS k0 (by omega)
        have e2:ev call gv (.ix (.var 1) (.con (.int 2))) [some (.c i),some (.t (.tup [.str w,.str v,.int k])),some (.t (.int (r:Int))),none] m = .ok (.t (.int k)) m:=ZbQ (Zb rfl) (Zd _) rfl
        have es:ev call gv (.ix (.lst (.cons (.con (.str [32,60,61,32])) (.cons (.con (.str [32,62,61,32])) .nil))) (.blt .int (.cons (.cmp .Eq (.ix (.var 1) (.con (.int 0))) (.con (.str [108,101,97,115,116]))) .nil))) [some (.c i),some (.t (.tup [.str w,.str v,.int k])),some (.t (.int (r:Int))),none] m = .ok (.t (.str (if (w == [108,101,97,115,116])=true then [32,62,61,32] else [32,60,61,32]))) m:=by
          refine ZbQ (ZeY (Zd _) (Zd _)) (Jf (Zz (Zq (Zb rfl)) (Zd _) (Zef _ _)) (ZlX _)) ?_
          rcases hw with rfl | rfl <;> rfl
        rw [skEq (Zq (Zb rfl)) (by rcases hw with rfl | rfl <;> rfl),skIn (Zq (Zb rfl)) (by rcases hw with rfl | rfl <;> rfl)]
        refine tkIn (Zq (Zb rfl)) (by rcases hw with rfl | rfl <;> rfl) (Zi ((Qy (Qy (Xe (Zb rfl)) es (XN ?_)) (Jf e2 (l_str1 (by omega))) (XN ?_)).trans ?_))
        · rcases hw with rfl | rfl <;> (simp [lim]; omega)
        · rcases hw with rfl | rfl <;> (simp [lim]; omega)
        · rcases hw with rfl | rfl
          · show Res.ok (W.t (.str (v++[32,62,61,32]++decI k))) m = .ok (.t (.str (v++[32]++([62,61]++[32]++decI k)))) m
            simp
          · show Res.ok (W.t (.str (v++[32,60,61,32]++decI k))) m = .ok (.t (.str (v++[32]++([60,61]++[32]++decI k)))) m
            simp
    exact ZV (ZbV _ _ _) rfl (key _ _) (Zm (cell:=false) rfl)
  · refine ⟨fun z=>?_,fun z=>?_,fun _ _=>.leaf h1⟩
    · cases h with
      | any=>cases z
      | two hw _=>rcases hw with rfl | rfl <;> cases z
      | three hw _ _ _=>rcases hw with rfl | rfl <;> cases z
    · cases h with
      | any=>cases z
      | two hw _=>rcases hw with rfl | rfl <;> cases z
      | three hw _ _ _=>rcases hw with rfl | rfl <;> cases z
theorem WT.pos {d:Nat} {t:T} (h:WT d t):1≤d:=by cases h <;> omega
theorem ZhS {d:Nat} {t:T} (hw:WT d t) (hz:80 * tot (d + 1) [.tup [.str [110,111,116],t]]≤4000) (hL:X8 d t):X8 (d + 1) (.tup [.str [110,111,116],t]):=by
  intro r n m i st hi hst _ hr
  have hr:=hr rfl
  have htot:tot (d + 1) [.tup [.str [110,111,116],t]]=1 + tot d [t]:=by rw [QD,QW]
  have hdp:dpt (d + 1) (.tup [.str [110,111,116],t])=1 + dpt d t:=by rw [dpt,QW]; simp [mx]
  rw [hdp] at hr
  obtain ⟨ws,st',e,hst',hA⟩:=Zb1 hw hw.pos (by omega) hL [[97,110,100],[111,114]] (by simp) (r - 1) (by omega) n m i st hi hst
  have hlen:=hA.len
  refine ⟨[110,111,116] :: ws,st',?_,hst',by simp,?_,?_,?_⟩
  · have key:ex (cf (n + 2 * d + 1)) gv Q9 [some (.c i),some (.t (.tup [.str [110,111,116],t])),some (.t (.int (r:Int))),none] (put m i st) = .ok (.ret (.t (.str (Zc [32] ([110,111,116] :: ws))))) (put m i st'):=by
      unfold Q9
      have et:Zc [32] ([110,111,116] :: ws)=[110,111,116,32]++Zc [32] ws:=(Jb (a:=[[110,111,116]]) (by simp) hA.ne).trans rfl
      rw [et,skEq (Zq (Zb rfl)) rfl,skIn (Zq (Zb rfl)) rfl,skIn (Zq (Zb rfl)) rfl]
      have hsub:ev (cf (n + 2 * d + 1)) gv (.bin .Sub (.var 2) (.con (.int 1))) [some (.c i),some (.t (.tup [.str [110,111,116],t])),some (.t (.int (r:Int))),none] (put m i st) = .ok (.t (.int ((r - 1:Nat):Int))) (put m i st):=by
        refine Qy (Zb rfl) (Zd _) ((Zmr _ _).trans ?_)
        congr 2
        omega
      exact tkEq (Zq (Zb rfl)) rfl (Zi (Qy (Zd _) ((J7 (Zb rfl) (Xe (Zb rfl)) (ZeY (Zd _) (Zd _)) hsub).trans e) (XN (by simp [lim]; omega))))
    exact ZV (ZbV _ _ _) rfl key (Zm (cell:=false) (QF.trans QF.symm))
  · intro w hm
    rcases List.mem_cons.mp hm with rfl | hm
    · decide
    · exact hA.sp w hm
  · have et:Zc [32] ([110,111,116] :: ws)=[110,111,116,32]++Zc [32] ws:=(Jb (a:=[[110,111,116]]) (by simp) hA.ne).trans rfl
    rw [et,htot,List.length_append]
    simp only [List.length_cons,List.length_nil]
    omega
  · refine ⟨(fun z=>by cases z),(fun z=>by cases z),fun _ _=>?_⟩
    obtain ⟨r',rfl⟩:∃ r',r=r' + 1:=⟨r - 1,by omega⟩
    exact .inr (.inl ⟨t,ws,hA.one,rfl,rfl⟩)
theorem Zbj {P:T→List (List Nat)→Prop}:∀ {ts:List T} {xss:List (List T)},Turns (fun t xs=>∃ ws,xs=[.str (Zc [32] ws)]∧P t ws) ts xss→∃ wss:List (T×List (List Nat)),wss.map (·.1)=ts∧xss.flatten=(wss.map fun p=>Zc [32] p.2).map .str∧∀ p∈wss,P p.1 p.2
  | _,_,.nil=>⟨[],rfl,rfl,fun p hp=>nomatch hp⟩
  | _,_,@Turns.cons _ _ _ t xs ts xss ⟨ws,e,hp⟩ r=>by
    obtain ⟨wss,h1,h2,h3⟩:=Zbj r
    refine ⟨(t,ws) :: wss,by rw [List.map_cons,h1],?_,fun p hq=>?_⟩
    · rw [List.flatten_cons,h2,e]; rfl
    · rcases List.mem_cons.mp hq with rfl | hq
      · exact hp
      · exact h3 p hq
theorem sumP {f g:T×List (List Nat)→Nat}:∀ {ps:List (T×List (List Nat))},(∀ p∈ps,f p≤g p)→(ps.map f).sum≤(ps.map g).sum
  | [],_=>Nat.le_refl _
  | p :: ps,h=>by
    rw [List.map_cons,List.map_cons,List.sum_cons,List.sum_cons]
    exact Nat.add_le_add (h p List.mem_cons_self) (sumP fun x hx=>h x (List.mem_cons_of_mem _ hx))
theorem ZjZ {d:Nat} {w:List Nat} {ts:List T} (hw:w=[97,110,100]∨w=[111,114]) (h2:2≤ts.length) (h6:ts.length≤6) (hts:∀ t∈ts,WT d t) (hz:80 * tot (d + 1) [.tup [.str w,.tup ts]]≤4000) (hL:∀ t∈ts,X8 d t):X8 (d + 1) (.tup [.str w,.tup ts]):=by
  intro r n m i st hi hst hr _
  have htot:tot (d + 1) [.tup [.str w,.tup ts]]=1 + (ts.map fun x=>tot d [x]).sum:=by rw [QD,Jy hw h2 h6,Zau]
  have hdp:∀ t∈ts,1 + dpt d t≤dpt (d + 1) (.tup [.str w,.tup ts]):=fun t ht=>by
    rw [dpt,Jy hw h2 h6]
    have:=ZjT (xs:=ts.map (dpt d)) (List.mem_map.mpr ⟨t,ht,rfl⟩)
    omega
  have hks:∀ a∈kset w,a=[97,110,100]∨a=[111,114]:=by rcases hw with rfl | rfl <;> simp [kset]
  obtain ⟨xss,m',h6',⟨st4,rfl,hst4⟩,hT⟩:=Za9 (f:=QJ (cf (n + 2 * d + 1)) gv .nil Zcy) (tg:=.nm 0) (env:=[none,some (.c i),some (.t (.lst ((kset w).map .str))),some (.t (.int (r:Int)))]) (P:=fun m'=>∃ s,m' = put m i s∧IsSt s) (R:=fun t xs=>∃ ws,xs=[.str (Zc [32] ws)]∧Ar (kset w) d r t ws) ts (put m i st) ⟨st,rfl,hst⟩ (by
    rintro t ht m0 ⟨s0,rfl,hs0⟩
    have hdt:=hdp t ht
    have a2:tot d [t]≤(ts.map fun x=>tot d [x]).sum:=ZdS (f:=fun x=>tot d [x]) ht
    obtain ⟨ws,st',e,hst',hA⟩:=Zb1 (hts t ht) (hts t ht).pos (by omega) (hL t ht) (kset w) hks r (by omega) n m i s0 hi hs0
    exact ⟨_,[.str (Zc [32] ws)],put m i st',rfl,ZiZ (Zc4 ((J7 (Zb rfl) (Zb rfl) (Zb rfl) (Zb rfl)).trans e)),⟨st',rfl,hst'⟩,ws,rfl,hA⟩)
  obtain ⟨wss,e1,e2,hA⟩:=Zbj hT
  have hlen:wss.length=ts.length:=by rw [← e1,List.length_map]
  have hsum:(wss.map fun p=>(Zc [32] p.2).length).sum≤80 * (ts.map fun x=>tot d [x]).sum + 8 * ts.length:=by
    rw [← Zes,← e1,List.map_map]
    exact sumP fun p hp=>(hA p hp).len
  have hw3:w.length≤3:=by rcases hw with rfl | rfl <;> decide
  have hsz:((wss.map fun p=>Zc [32] p.2).map List.length).sum + (wss.map fun p=>Zc [32] p.2).length * (32 :: w++[32]).length≤80 * (1 + (ts.map fun x=>tot d [x]).sum):=by
    rw [List.map_map,List.length_map,hlen]
    have e:(32 :: w++[32]).length≤5:=by simp; omega
    have e2:ts.length * (32 :: w++[32]).length≤ts.length * 5:=Nat.mul_le_mul_left _ e
    have e3:(List.map (List.length ∘ fun p:T×List (List Nat)=>Zc [32] p.2) wss).sum=(wss.map fun p=>(Zc [32] p.2).length).sum:=rfl
    rw [e3]
    omega
  have etext:Zc [32] (Jz w (wss.map (·.2)))=Zc (32 :: w++[32]) (wss.map fun p=>Zc [32] p.2):=by
    rw [← Xw,List.map_map]
    · rfl
    · intro x hx
      obtain ⟨p,hp,rfl⟩:=List.mem_map.mp hx
      exact (hA p hp).ne
  refine ⟨Jz w (wss.map (·.2)),st4,?_,hst4,?_,?_,?_,?_⟩
  · have hcomp:∀ env:Env,env[0]? = some (some (.c i))→env[1]? = some (some (.t (.tup [.str w,.tup ts])))→env[2]? = some (some (.t (.int (r:Int))))→env[3]? = some (some (.t (.lst ((kset w).map .str))))→ev (cf (n + 2 * d + 1)) gv ZcG env (put m i st) = .ok (.t (.lst ((wss.map fun p=>Zc [32] p.2).map .str))) (put m i st4):=fun env g0 g1 g2 g3=>by
      rw [← e2]
      refine Qz (x:=.t (.tup ts)) (m0:=put m i st) (m1:=put m i st) (Xe (Zb g1)) rfl ?_ (by rw [e2,List.length_map,List.length_map,hlen]; unfold lim; omega)
      rw [show (List.replicate 1 none++[0,3,2].map fun i=>(env[i]?).join)=[none,some (.c i),some (.t (.lst ((kset w).map .str))),some (.t (.int (r:Int)))] by simp [g0,g2,g3]]
      exact h6'
    have key:ex (cf (n + 2 * d + 1)) gv Q9 [some (.c i),some (.t (.tup [.str w,.tup ts])),some (.t (.int (r:Int))),none] (put m i st) = .ok (.ret (.t (.str (Zc [32] (Jz w (wss.map (·.2))))))) (put m i st4):=by
      unfold Q9
      rw [etext,skEq (Zq (Zb rfl)) (by rcases hw with rfl | rfl <;> rfl),skIn (Zq (Zb rfl)) (by rcases hw with rfl | rfl <;> rfl),skIn (Zq (Zb rfl)) (by rcases hw with rfl | rfl <;> rfl),skEq (Zq (Zb rfl)) (by rcases hw with rfl | rfl <;> rfl)]
      have hd:∀ (m:Mem) (env:Env),env[1]? = some (some (.t (.tup [.str w,.tup ts])))→ev (cf (n + 2 * d + 1)) gv (.blt .dget (.cons (.dsn [[97,110,100],[111,114]] (.cons (.lst (.cons (.con (.str [97,110,100])) (.cons (.con (.str [111,114])) .nil))) (.cons (.lst (.cons (.con (.str [111,114])) .nil)) .nil))) (.cons (.ix (.var 1) (.con (.int 0))) .nil))) env m = .ok (.t (.lst ((kset w).map .str))) m:=fun m env he=>by
        have hdd:ev (cf (n + 2 * d + 1)) gv (.dsn [[97,110,100],[111,114]] (.cons (.lst (.cons (.con (.str [97,110,100])) (.cons (.con (.str [111,114])) .nil))) (.cons (.lst (.cons (.con (.str [111,114])) .nil)) .nil))) env m = .ok (.t (.dct (List.map (fun k=>.inr ⟨k.toArray⟩) [[97,110,100],[111,114]]) [.lst [.str [97,110,100],.str [111,114]],.lst [.str [111,114]]])) m:=by
          rw [ev,X6 (ZeY (Zd _) (Zd _)) (X6 (ZfJ (X6 (Zd _) ZbO) rfl Zfx) ZbO),Zh,Zal,Zal,ZaX,Zh,Zh,Zh]
          exact if_pos ⟨rfl,by decide,by decide⟩
        refine ZkI (X6 hdd (X6 (Zq (Zb he)) ZbO)) rfl ?_
        rcases hw with rfl | rfl <;> rfl
      rw [Zr (hd _ _ rfl)]
      dsimp only [List.set_cons_succ,List.set_cons_zero]
      exact Zi (ZeZ (sep:=32 :: w++[32]) (Qy (Qy (Zd _) (Zq (Zb rfl)) (XN (by simp [lim]; omega))) (Zd _) (XN (by simp [lim]; omega))) (hcomp _ rfl rfl rfl rfl) (Nat.le_trans hsz (by unfold lim; omega)))
    exact ZV (ZbV _ _ _) rfl key (Zm (cell:=false) (QF.trans QF.symm))
  · cases wss with
    | nil=>simp at hlen; omega
    | cons p wss=>exact Zc0 (hA p List.mem_cons_self).ne
  · cases wss with
    | nil=>simp at hlen; omega
    | cons p wss =>
      intro x hx
      rw [List.map_cons,Jz] at hx
      rcases List.mem_append.mp hx with hx | hx
      · exact (hA p List.mem_cons_self).sp x hx
      · obtain ⟨y,hy,hx⟩:=List.mem_flatMap.mp hx
        obtain ⟨q,hq,rfl⟩:=List.mem_map.mp hy
        rcases List.mem_cons.mp hx with rfl | hx
        · rcases hw with rfl | rfl <;> decide
        · exact (hA q (List.mem_cons_of_mem _ hq)).sp x hx
  · rw [etext,htot]
    exact Nat.le_trans (ZbE _ _) hsz
  · cases wss with
    | nil=>simp at hlen; omega
    | cons p wss =>
      have hne:wss≠[]:=by intro z; subst z; simp at hlen; omega
      have eJ:Jz w ((p :: wss).map (·.2))=p.2++wss.flatMap fun q=>w :: q.2:=by
        rw [List.map_cons,Jz,List.flatMap_map]
      have eT:T.tup [.str w,.tup ts] = .tup [.str w,.tup (p.1 :: wss.map (·.1))]:=by rw [← e1]; rfl
      rw [eJ]
      rcases hw with rfl | rfl
      · refine ⟨fun _=>?_,(fun z=>by cases z),fun z _=>absurd rfl z⟩
        exact .inr ⟨p,wss,hne,(hA p List.mem_cons_self).one,fun q hq=>(hA q (List.mem_cons_of_mem _ hq)).one,eT,rfl⟩
      · refine ⟨(fun z=>by cases z),fun _=>?_,fun _ z=>absurd rfl z⟩
        exact .inr ⟨p,wss,hne,(hA p List.mem_cons_self).two,fun q hq=>(hA q (List.mem_cons_of_mem _ hq)).two,eT,rfl⟩
theorem ZjX:∀ {d:Nat} {t:T},WT d t→80 * tot d [t]≤4000→X8 d t:=by
  intro d t h
  induction h with
  | leaf hp _ _=>exact fun _=>Zgs (ZeR hp)
  | @nt d a hw ih =>
    intro hz
    have htot:tot (d + 1) [.tup [.str [110,111,116],a]]=1 + tot d [a]:=by rw [QD,QW]
    exact ZhS hw hz (ih (by omega))
  | @jn d w ts hw h2 h6 hts ih =>
    intro hz
    refine ZjZ hw h2 h6 hts hz fun t ht=>ih t ht ?_
    have htot:tot (d + 1) [.tup [.str w,.tup ts]]=1 + (ts.map fun x=>tot d [x]).sum:=by rw [QD,Jy hw h2 h6,Zau]
    have a2:tot d [t]≤(ts.map fun x=>tot d [x]).sum:=ZdS (f:=fun x=>tot d [x]) ht
    omega
theorem WTx.deep {d:Nat} {t:T} (h:WT d t):∀ k,Zj (2 * d + k) t=true:=by
  induction h with
  | @leaf d t hp _ _ =>
    intro k
    rw [show 2 * (d + 1) + k=(2 * d + 1 + k) + 1 by omega]
    exact ZlU (ZeR hp)
  | @nt d a hw ih =>
    intro k
    rw [show 2 * (d + 1) + k=(2 * d + (k + 1)) + 1 by omega,Zj]
    refine Jq fun x hx=>?_
    simp only [List.mem_cons,List.not_mem_nil,or_false] at hx
    rcases hx with rfl | rfl
    · exact Zan (by decide)
    · exact ih _
  | @jn d w ts hw h2 h6 hts ih =>
    intro k
    rw [show 2 * (d + 1) + k=(2 * d + k) + 1 + 1 by omega,Zj]
    refine Jq fun x hx=>?_
    simp only [List.mem_cons,List.not_mem_nil,or_false] at hx
    rcases hx with rfl | rfl
    · rcases hw with rfl | rfl <;> exact Zan (by decide)
    · rw [Zj]
      exact Jq fun x hx=>ih x hx k
noncomputable def Fine (t:T):Prop:=WT 6 t∧tot 6 [t]≤40
theorem Fine.tx {t:T} (h:Fine t):Tx 6 t:=tx_of h.1 (by have:=h.2; omega)
theorem Fine.wish {t:T} (h:Fine t) (n:Nat) (m:Mem):cf (n + 5) 9 [.t t] m = .ok (.t (.bl true)) m:=by
  have:=ZgA (n:=n) (m:=m) h.1.fit
  rw [ZiS h.1 (Nat.le_refl _) h.2] at this
  exact this
theorem Fine.ne {t:T} (h:Fine t):cmpT .NotEq t t=some false:=ZlP (WTx.deep h.1 48)
noncomputable def Tells (t:T) (x:List Nat):Prop:=∃ ws,x=Zc [32] ws∧GO 12 t ws∧ws≠[]∧(∀ w∈ws,32 ∉ w)∧x.length≤800000
theorem Tells.read {t:T} {x:List Nat} (h:Tells t x) (hF:Fine t) (n:Nat) (m:Mem):cf (n + 56) 19 [.t (.str x)] m = .ok (.t t) m:=by
  obtain ⟨ws,rfl,h1,h2,h3,h4⟩:=h
  exact Zdw h1 h2 h3 h4 fun {m}=>hF.wish (n + 50) m
theorem Fine.tells {t:T} (h:Fine t):Tells t (Zc [32] (cw 6 t)):=⟨_,rfl,h.tx.st.go,h.tx.ne,h.tx.sp,Nat.le_trans h.tx.len (by have:=h.2; omega)⟩
theorem law_turn {n:Nat} {ns:List Int} {v:Int} {m:Mem} {a:T} {x:List Nat} {b c d e7 e8 e9:Option W} (ha:Fine a) (hx:Tells a x):∃ a' x' b' c' d' m',ex (cf (n + 57)) gv ZbB [some (.t (.scr ns)),some (.t (.str x)),some (.t a),some (.t (.int v)),b,c,d,e7,e8,e9] m = .ok (.next [some (.t (.scr ns)),some (.t (.str x')),some (.t a'),some (.t (.int v)),b',c',d',e7,e8,e9]) m'∧Fine a'∧Tells a' x':=by
  obtain ⟨s0,h0,hs0⟩:=Zaa (n:=n + 56) (m:=m) (x:=v)
  have hi:m.length < (m++[none]).length:=by simp
  generalize hM:m++[none]=M at h0 hi
  generalize hI:m.length=i at h0 hi
  obtain ⟨t,s1,h1,hs1,hw,hp⟩:=Zl5 (n:=n + 44) hi hs0
  have hF:Fine t:=⟨hw,hp⟩
  have hdl:=dpt_le hw
  obtain ⟨ws,s2,h2,hs2,hA⟩:=Zb1 hw (by decide) (by omega) (ZjX hw (by omega)) [] (by simp) 12 (by omega) (n + 44) M i s1 hi hs1
  have h2:cf (n + 57) 30 [.c i,.t t,.t (.lst []),.t (.int 12)] (put M i s1) = .ok (.t (.str (Zc [32] ws))) (put M i s2):=h2
  have hT:Tells t (Zc [32] ws):=⟨ws,rfl,hA.go,hA.ne,hA.sp,Nat.le_trans hA.len (by omega)⟩
  unfold ZbB
  rw [Zr ((ZW (Zb rfl)).trans h0)]
  dsimp only [List.set_cons_succ,List.set_cons_zero]
  rw [Zr ((ZW (Zb rfl)).trans h1)]
  dsimp only [List.set_cons_succ,List.set_cons_zero]
  rw [Zr ((J7 (Zb rfl) (Zb rfl) (ZfJ ZbO rfl Zfx) (Zd _)).trans h2)]
  dsimp only [List.set_cons_succ,List.set_cons_zero]
  generalize put M i s2=m2
  have hsp:ev (cf (n + 57)) gv (.mth .split (.var 6) (.cons (.con (.str [32])) .nil)) [some (.t (.scr ns)),some (.t (.str x)),some (.t a),some (.t (.int v)),some (.c i),some (.t t),some (.t (.str (Zc [32] ws))),e7,e8,e9] m2 = .ok (.t (wl ws)) m2:=by
    rw [ev,Zb rfl,Zh,show tyM .split (.t (.str (Zc [32] ws))) m2=true from rfl,if_pos rfl,X6 (Zd _) ZbO,Zh]
    exact Zbo hA.ne hA.sp (Nat.le_trans hA.len (by omega))
  have hc:ev (cf (n + 57)) gv (.cmp .LtE (.blt .len (.cons (.mth .split (.var 6) (.cons (.con (.str [32])) .nil)) .nil)) (.con (.int 300))) [some (.t (.scr ns)),some (.t (.str x)),some (.t a),some (.t (.int v)),some (.c i),some (.t t),some (.t (.str (Zc [32] ws))),e7,e8,e9] m2 = .ok (.t (.bl (decide (((ws.map T.str).length:Int)≤300)))) m2:=Zz (Jf hsp (Zh3 _)) (Zd _) (c_le _ _)
  have g1:=hT.read hF (n + 1) m2
  have g2:=hx.read ha (n + 1) m2
  have g3:=hF.tells.read hF (n + 1) m2
  have g4:=hF.tx.wt (n + 45) m2
  cases q:decide (((ws.map T.str).length:Int)≤300) with
  | true =>
    rw [q] at hc
    refine ⟨t,Zc [32] ws,some (.c i),some (.t t),some (.t (.str (Zc [32] ws))),m2,?_,hF,hT⟩
    rw [ZkF hc (env':=[some (.t (.scr ns)),some (.t (.str (Zc [32] ws))),some (.t t),some (.t (.int v)),some (.c i),some (.t t),some (.t (.str (Zc [32] ws))),e7,e8,e9]) (m2:=m2) (by
      rw [Zk ((Zcz (Zz ((ZW (Zb rfl)).trans g1) (Zb rfl) hF.ne)).trans ((Zcz (Zz ((ZW (Zb rfl)).trans g2) (Zb rfl) ha.ne)).trans (Zz ((ZW (Zb rfl)).trans g1) (Zb rfl) hF.ne)))]
      rw [Zk (Zz ((ZW ((ZW ((ZW (Zb rfl)).trans g1)).trans g4)).trans g3) (Zb rfl) hF.ne)]
      rw [Zr (Zb rfl)]
      dsimp only [List.set_cons_succ,List.set_cons_zero]
      rw [Zr (Zb rfl),ex]
      rfl),ex]
  | false =>
    rw [q] at hc
    refine ⟨a,x,some (.c i),some (.t t),some (.t (.str (Zc [32] ws))),m2,?_,ha,hx⟩
    rw [Zk hc,ex]
noncomputable def anyT:T:=.tup [.str [97,110,121]]
theorem G1.br {k:Nat} {t:T} {ws:List (List Nat)} (h:GO k t ws):G1 (k + 1) t ([40] :: (ws++[[41]])):=.inr (.inr ⟨ws,h,rfl⟩)
theorem G1.brs {k:Nat} {t:T} {ws:List (List Nat)} (h:GO k t ws):∀ j,G1 (k + (j + 1)) t (brk (j + 1) ws)
  | 0=>.br h
  | j + 1=>.br (.inl (.inl (G1.brs h j)))
noncomputable def any3:List (List Nat):=brk 3 [[97,110,121]]
noncomputable def not3:List (List Nat):=brk 3 [[110,111,116],[97,110,121]]
noncomputable def or5 (last:List (List Nat)):List (List Nat):=brk 5 (any3++([any3,any3,any3,last].flatMap fun y=>[111,114] :: y))
noncomputable def orT (last:T):T:=.tup [.str [111,114],.tup [anyT,anyT,anyT,anyT,last]]
theorem Zb3:G1 4 anyT any3:=(G1.brs (k:=0) (.inl (.inl (.any:LeafW _ _))) 2).upN 1
theorem ZlO:G1 4 (.tup [.str [110,111,116],anyT]) not3:=G1.brs (k:=1) (.inl (.inl (.inr (.inl ⟨anyT,[[97,110,121]],(.any:LeafW _ _),rfl,rfl⟩)))) 2
theorem Zkv {t:T} {ws:List (List Nat)} (h:G1 4 t ws):G1 9 (orT t) (or5 ws) :=
  G1.brs (k:=4) (.inr ⟨(anyT,any3),[(anyT,any3),(anyT,any3),(anyT,any3),(t,ws)],by simp,.inl Zb3,fun p hp=>by
    simp only [List.mem_cons,List.not_mem_nil,or_false] at hp
    rcases hp with rfl | rfl | rfl | rfl
    · exact .inl Zb3
    · exact .inl Zb3
    · exact .inl Zb3
    · exact .inl h,rfl,rfl⟩) 4
noncomputable def bigW:List (List Nat):=or5 any3++([or5 any3,or5 any3,or5 any3,or5 any3,or5 not3].flatMap fun y=>[97,110,100] :: y)
noncomputable def bigT:T:=.tup [.str [97,110,100],.tup [orT anyT,orT anyT,orT anyT,orT anyT,orT anyT,orT (.tup [.str [110,111,116],anyT])]]
theorem big_ok:GO 12 bigT bigW:=by
  have h1:G1 12 (orT anyT) (or5 any3):=(Zkv Zb3).upN 3
  have h2:G1 12 (orT (.tup [.str [110,111,116],anyT])) (or5 not3):=(Zkv ZlO).upN 3
  refine .inl (.inr ⟨(orT anyT,or5 any3),[(orT anyT,or5 any3),(orT anyT,or5 any3),(orT anyT,or5 any3),(orT anyT,or5 any3),(orT (.tup [.str [110,111,116],anyT]),or5 not3)],by simp,h1,fun p hp=>?_,rfl,rfl⟩)
  simp only [List.mem_cons,List.not_mem_nil,or_false] at hp
  rcases hp with rfl | rfl | rfl | rfl | rfl
  · exact h1
  · exact h1
  · exact h1
  · exact h1
  · exact h2
theorem Xg {d:Nat}:WT (d + 1) anyT:=Leaf.any.wt
theorem ZfT {t:T} {d:Nat} (h:WT (d + 1) t):WT (d + 2) (orT t):=.jn (.inr rfl) (by simp) (by simp) fun x hx=>by
  simp only [List.mem_cons,List.not_mem_nil,or_false] at hx
  rcases hx with rfl | rfl | rfl | rfl | rfl
  · exact Xg
  · exact Xg
  · exact Xg
  · exact Xg
  · exact h
theorem ZfR:Fine bigT:=by
  refine ⟨.jn (.inl rfl) (by decide) (by decide) fun x hx=>?_,by decide⟩
  simp only [List.mem_cons,List.not_mem_nil,or_false] at hx
  rcases hx with rfl | rfl | rfl | rfl | rfl | rfl
  · exact ZfT Xg
  · exact ZfT Xg
  · exact ZfT Xg
  · exact ZfT Xg
  · exact ZfT Xg
  · exact ZfT (.nt Xg)
theorem ZiJ:Tells bigT (Zc [32] bigW):=⟨bigW,rfl,big_ok,by decide,by decide,by decide⟩
noncomputable def isA:T:=.tup [.str [105,115],.str [97]]
noncomputable def isB:T:=.tup [.str [105,115],.str [98]]
theorem ZfD {k:Nat}:G1 k isA [[105,115],[97]]:=.leaf (.two (.inl rfl) (by decide) (by decide))
theorem ZfC {k:Nat}:G1 k isB [[105,115],[98]]:=.leaf (.two (.inl rfl) (by decide) (by decide))
theorem Zkl {d:Nat}:WT (d + 1) isA:=(Leaf.two (.inl rfl) (by decide)).wt
theorem Zkk {d:Nat}:WT (d + 1) isB:=(Leaf.two (.inl rfl) (by decide)).wt
noncomputable def twoT:T:=.tup [.str [97,110,100],.tup [.tup [.str [97,110,100],.tup [isA,isB]],anyT]]
noncomputable def twoW:List (List Nat):=[[40],[105,115],[97],[97,110,100],[105,115],[98],[41],[97,110,100],[97,110,121]]
theorem Zg6:Tells twoT (Zc [32] twoW):=by
  refine ⟨twoW,rfl,.inl (.inr ⟨(.tup [.str [97,110,100],.tup [isA,isB]],[[40],[105,115],[97],[97,110,100],[105,115],[98],[41]]),[(anyT,[[97,110,121]])],by simp,?_,?_,rfl,rfl⟩),by decide,by decide,by decide⟩
  · exact .br (k:=11) (ws:=[[105,115],[97],[97,110,100],[105,115],[98]]) (.inl (.inr ⟨(isA,[[105,115],[97]]),[(isB,[[105,115],[98]])],by simp,ZfD,by simp; exact ZfC,rfl,rfl⟩))
  · simp; exact .leaf .any
theorem Zfe:Fine twoT:=by
  refine ⟨.jn (.inl rfl) (by decide) (by decide) fun x hx=>?_,by decide⟩
  simp only [List.mem_cons,List.not_mem_nil,or_false] at hx
  rcases hx with rfl | rfl
  · refine .jn (.inl rfl) (by decide) (by decide) fun x hx=>?_
    simp only [List.mem_cons,List.not_mem_nil,or_false] at hx
    rcases hx with rfl | rfl
    · exact Zkl
    · exact Zkk
  · exact Xg
noncomputable def Zgw:T:=.tup [.str [97,110,100],.tup [.tup [.str [110,111,116],isA],isB]]
noncomputable def lastW:List (List Nat):=[[110,111,116],[105,115],[97],[97,110,100],[105,115],[98]]
theorem Zgv:Tells Zgw (Zc [32] lastW):=by
  refine ⟨lastW,rfl,.inl (.inr ⟨(.tup [.str [110,111,116],isA],[[110,111,116],[105,115],[97]]),[(isB,[[105,115],[98]])],by simp,?_,by simp; exact ZfC,rfl,rfl⟩),by decide,by decide,by decide⟩
  exact .inr (.inl ⟨isA,[[105,115],[97]],ZfD,rfl,rfl⟩)
theorem ZdU:Fine Zgw:=by
  refine ⟨.jn (.inl rfl) (by decide) (by decide) fun x hx=>?_,by decide⟩
  simp only [List.mem_cons,List.not_mem_nil,or_false] at hx
  rcases hx with rfl | rfl
  · exact .nt Zkl
  · exact Zkk
theorem ZiK {call:Nat→List W→Mem→Res W} {gv:List T} {env:Env} {m:Mem} {i:Nat} {x:T} {ts:List T} (h:env[i]? = some (some (.t (.tup (x :: ts))))):ev call gv (.ix (.var i) (.con (.int 0))) env m = .ok (.t x) m:=ZbQ (Zb h) (Zd _) (at0 _ _)
theorem law_end {n:Nat} {ns:List Int} {m:Mem} {e1 e2 e3 e4 e5 e6:Option W} {k:S} (hk:Zcc = .asg 1 (.con (.str [97,110,121])) (.asg 2 (.tup (.cons (.con (.str [97,110,121])) .nil)) (.forr (.nm 3) (.bin .Add (.lst (.cons (.call 20 (.cons (.var 0) (.cons (.con (.int 0)) .nil))) .nil)) (.slc (.var 0) (.con (.int 1)) (.con (.int 30)))) ZbB k))) :
    ex (cf (n + 57)) gv k [some (.t (.scr ns)),e1,e2,e3,e4,e5,e6,none,none,none] m = .ok (.ret (.t (.bl true))) m:=by
  unfold Zcc at hk
  simp only [S.asg.injEq,S.forr.injEq,true_and] at hk
  subst hk
  have g1:=ZiJ.read ZfR (n + 1) m
  have g2:=Zg6.read Zfe (n + 1) m
  have g3:=Zgv.read ZdU (n + 1) m
  have g2:cf (n + 57) 19 [.t (.str [40,32,105,115,32,97,32,97,110,100,32,105,115,32,98,32,41,32,97,110,100,32,97,110,121])] m = .ok (.t twoT) m:=g2
  have g3:cf (n + 57) 19 [.t (.str [110,111,116,32,105,115,32,97,32,97,110,100,32,105,115,32,98])] m = .ok (.t Zgw) m:=g3
  have l7:ev (cf (n + 57)) gv (.bin .Mult (.lst (.cons (.con (.str [40,32,40,32,40,32,97,110,121,32,41,32,41,32,41])) .nil)) (.con (.int 5))) [some (.t (.scr ns)),e1,e2,e3,e4,e5,e6,none,none,none] m = .ok (.t (.lst (List.replicate 5 (.str (Zc [32] any3))))) m :=
    Qy (ZfJ (X6 (Zd _) ZbO) rfl Zfx) (Zd _) rfl
  rw [Zr l7]
  dsimp only [List.set_cons_succ,List.set_cons_zero]
  have hc:ev (cf (n + 57)) gv ZiG [some (.t (.scr ns)),e1,e2,e3,e4,e5,e6,some (.t (.lst (List.replicate 5 (.str (Zc [32] any3))))),none,none] m = .ok (.t (.lst ([Zc [32] (or5 any3),Zc [32] (or5 any3),Zc [32] (or5 any3),Zc [32] (or5 any3),Zc [32] (or5 any3),Zc [32] (or5 not3)].map .str))) m:=by rfl
  rw [Zr hc]
  dsimp only [List.set_cons_succ,List.set_cons_zero]
  rw [Zr (show ev (cf (n + 57)) gv (.tup (.cons (.con (.str [111,114])) (.cons (.bin .Mult (.tup (.cons (.tup (.cons (.con (.str [97,110,121])) .nil)) .nil)) (.con (.int 5))) .nil))) _ m = .ok (.t (orT anyT)) m from ZC (Zd _) (Qy (ZbP (ZbP (Zd _))) (Zd _) rfl))]
  dsimp only [List.set_cons_succ,List.set_cons_zero]
  have hj:Zc [32,97,110,100,32] [Zc [32] (or5 any3),Zc [32] (or5 any3),Zc [32] (or5 any3),Zc [32] (or5 any3),Zc [32] (or5 any3),Zc [32] (or5 not3)]=Zc [32] bigW:=Xw (s:=[97,110,100]) (wss:=[or5 any3,or5 any3,or5 any3,or5 any3,or5 any3,or5 not3]) (by decide)
  have hjl:(([Zc [32] (or5 any3),Zc [32] (or5 any3),Zc [32] (or5 any3),Zc [32] (or5 any3),Zc [32] (or5 any3),Zc [32] (or5 not3)]:List (List Nat)).map List.length).sum + ([Zc [32] (or5 any3),Zc [32] (or5 any3),Zc [32] (or5 any3),Zc [32] (or5 any3),Zc [32] (or5 any3),Zc [32] (or5 not3)]:List (List Nat)).length * [32,97,110,100,32].length≤lim:=by decide
  have hbig:ev (cf (n + 57)) gv (.mth .join (.con (.str [32,97,110,100,32])) (.cons (.var 8) .nil)) [some (.t (.scr ns)),e1,some (.t (orT anyT)),e3,e4,e5,e6,some (.t (.lst (List.replicate 5 (.str (Zc [32] any3))))),some (.t (.lst ([Zc [32] (or5 any3),Zc [32] (or5 any3),Zc [32] (or5 any3),Zc [32] (or5 any3),Zc [32] (or5 any3),Zc [32] (or5 not3)].map .str))),none] m = .ok (.t (.str (Zc [32] bigW))) m :=
    (ZeZ (Zd _) (Zb rfl) hjl).trans (by rw [hj])
  have hdue:ev (cf (n + 57)) gv (.tup (.cons (.con (.str [97,110,100])) (.cons (.bin .Add (.bin .Mult (.tup (.cons (.var 2) .nil)) (.con (.int 5))) (.tup (.cons (.tup (.cons (.con (.str [111,114])) (.cons (.bin .Add (.bin .Mult (.tup (.cons (.tup (.cons (.con (.str [97,110,121])) .nil)) .nil)) (.con (.int 4))) (.tup (.cons (.tup (.cons (.con (.str [110,111,116])) (.cons (.tup (.cons (.con (.str [97,110,121])) .nil)) .nil))) .nil))) .nil))) .nil))) .nil))) [some (.t (.scr ns)),e1,some (.t (orT anyT)),e3,e4,e5,e6,some (.t (.lst (List.replicate 5 (.str (Zc [32] any3))))),some (.t (.lst ([Zc [32] (or5 any3),Zc [32] (or5 any3),Zc [32] (or5 any3),Zc [32] (or5 any3),Zc [32] (or5 any3),Zc [32] (or5 not3)].map .str))),none] m = .ok (.t bigT) m:=by rfl
  rw [Zk (Zz ((ZW hbig).trans g1) hdue ZfR.ne)]
  rw [Zr (show ev (cf (n + 57)) gv (.tup (.cons (.tup (.cons (.con (.str [105,115])) (.cons (.con (.str [97])) .nil))) (.cons (.tup (.cons (.con (.str [105,115])) (.cons (.con (.str [98])) .nil))) .nil))) _ m = .ok (.t (.tup [isA,isB])) m from ZC (ZC (Zd _) (Zd _)) (ZC (Zd _) (Zd _)))]
  dsimp only [List.set_cons_succ,List.set_cons_zero]
  rw [Zk (Zz (x:=twoT) (y:=twoT) ((ZW (Zd _)).trans g2) (ZC (Zd _) (ZC (ZC (Zd _) (Zb rfl)) (ZbP (Zd _)))) Zfe.ne)]
  have hl:=eq_self (t:=Zgw) (WTx.deep ZdU.1 48)
  exact Zi (Zz (x:=Zgw) (y:=Zgw) ((ZW (Zd _)).trans g3) (ZC (Zd _) (ZC (ZC (Zd _) (ZiK rfl)) (Xe (Zb rfl)))) hl)
theorem law_true (ns:List Int) (hl:ns.length≤63):∃ m,ZR fns gv 81 32 [.t (.scr ns)] [] = .ok (.t (.bl true)) m:=by
  obtain ⟨v,hv⟩:=Zmm (n:=79) (m:=[]) (ns:=ns)
  have hc:=Zmj ns (some 1) (some 30)
  have ha0:Fine anyT:=⟨Leaf.any.wt,by decide⟩
  have hx0:Tells anyT [97,110,121]:=⟨[[97,110,121]],rfl,.inl (.inl (.leaf .any)),by decide,by decide,by decide⟩
  obtain ⟨env1,m1,e1,a,x,b,c,d,e,rfl,_,_⟩:=Zcp (f:=ex (cf 80) gv ZbB) (tg:=.nm 3) (P:=fun env m=>∃ a x b c d e,env=[some (.t (.scr ns)),some (.t (.str x)),some (.t a),b,c,d,e,none,none,none]∧Fine a∧Tells a x) (.int v :: (cut ns (some 1) (some 30)).map .int) [some (.t (.scr ns)),some (.t (.str [97,110,121])),some (.t anyT),none,none,none,none,none,none,none] [] ⟨_,_,_,_,_,_,rfl,ha0,hx0⟩ (by
    rintro t ht env m ⟨a,x,b,c,d,e,rfl,ha,hx⟩
    have:∃ x:Int,t = .int x:=by
      rcases List.mem_cons.mp ht with rfl | ht
      · exact ⟨v,rfl⟩
      · obtain ⟨x,_,rfl⟩:=List.mem_map.mp ht
        exact ⟨x,rfl⟩
    obtain ⟨y,rfl⟩:=this
    obtain ⟨a',x',b',c',d',m',h',ha',hx'⟩:=law_turn (n:=23) (ns:=ns) (v:=y) (m:=m) (b:=c) (c:=d) (d:=e) (e7:=none) (e8:=none) (e9:=none) ha hx
    exact ⟨_,_,m',rfl,h',_,_,_,_,_,_,rfl,ha',hx'⟩)
  refine ⟨[],?_⟩
  have key:ex (cf 80) gv Zcc [some (.t (.scr ns)),none,none,none,none,none,none,none,none,none] [] = .ok (.ret (.t (.bl true))) m1:=by
    unfold Zcc
    rw [Zr (Zd _)]
    dsimp only [List.set_cons_succ,List.set_cons_zero]
    rw [Zr (show ev (cf 80) gv (.tup (.cons (.con (.str [97,110,121])) .nil)) _ [] = .ok (.t anyT) [] from ZbP (Zd _))]
    dsimp only [List.set_cons_succ,List.set_cons_zero]
    rw [Zc3 (x:=.t (.lst (.int v :: (cut ns (some 1) (some 30)).map .int))) (m0:=[]) (m1:=[]) (by
      simp [ev,evs,isT,Ze,EVs,hv,lim]
      rw [b_addL (by simp [lim]; omega)]
      rfl) rfl e1]
    exact law_end (n:=23) (by unfold Zcc; rfl)
  show cf 81 32 [.t (.scr ns)] []=_
  rw [cf_law]
  simp [key,Zh,fin]
end My
end
section
set_option maxHeartbeats 1000000
namespace My
open PySem PySem.Spec PyProof.Rows L2 Mi
noncomputable def top (i:Nat):Stmt:=PySem.Challenge.pw_matepoint_k12_more_brackets.main.body.getD i (.Pass ⟨0,0,0,0⟩)
noncomputable abbrev ZD:Stmt:=top 5
noncomputable abbrev QM:Stmt:=top 6
noncomputable abbrev Qq:Stmt:=top 7
noncomputable abbrev Qe:Stmt:=top 8
noncomputable abbrev Qd:Stmt:=top 17
noncomputable abbrev Zx:Stmt:=top 18
noncomputable abbrev Z1:Stmt:=top 19
noncomputable abbrev Z9:Stmt:=top 20
noncomputable abbrev Qs:Stmt:=top 21
noncomputable abbrev QQ:Stmt:=top 22
noncomputable abbrev Z8:Stmt:=top 30
noncomputable abbrev ZP:Stmt:=top 31
noncomputable abbrev Zv:Stmt:=top 32
noncomputable abbrev QK:Stmt:=top 33
noncomputable abbrev QL:Stmt:=top 34
noncomputable abbrev Qc:Stmt:=top 35
noncomputable abbrev Z0:Stmt:=top 36
noncomputable abbrev Qp:Stmt:=top 37
noncomputable abbrev ZQ:Stmt:=top 38
noncomputable abbrev Qa:Stmt:=top 39
noncomputable abbrev J5:Stmt:=top 41
noncomputable abbrev Jk:Stmt:=top 42
noncomputable abbrev JX:Stmt:=top 43
noncomputable abbrev JV:Stmt:=top 44
noncomputable abbrev QR:Stmt:=top 45
noncomputable abbrev JZ:Stmt:=top 46
noncomputable abbrev JW:Stmt:=top 47
noncomputable abbrev Jl:Stmt:=top 48
noncomputable abbrev J1:Stmt:=top 49
noncomputable abbrev J4:Stmt:=top 50
noncomputable abbrev QS:Stmt:=top 51
noncomputable abbrev Jm:Stmt:=top 52
noncomputable abbrev Za1:Stmt:=top 53
set_option hygiene false
local macro_rules
  | `(tactic| wtm_at $s:str)=>do
    let mut r:Array (Lean.TSyntax `tactic):=#[]
    for c in s.getString.toList do
      let t ← match c with
        | '0'=>`(tactic| exact rfl)
        | '1'=>`(tactic| refine ZjJ ?_ ?_ ?_)
        | '2'=>`(tactic| exact ZlE)
        | '3'=>`(tactic| exact Zlq)
        | '4'=>`(tactic| exact (vr 0))
        | '5'=>`(tactic| exact hr)
        | '6'=>`(tactic| exact (Zlj (by decide +kernel)))
        | '7'=>`(tactic| refine ZlB ?_ ?_)
        | '8'=>`(tactic| refine ZjG ?_ ?_ ?_ ?_)
        | '9'=>`(tactic| exact (vr 1))
        | 'a'=>`(tactic| refine Zje ?_)
        | 'b'=>`(tactic| exact (by with_unfolding_all rfl))
        | 'c'=>`(tactic| exact hr.units)
        | 'd'=>`(tactic| exact (fun _ _=>rfl))
        | 'e'=>`(tactic| refine pe_ixW ?_ ?_ ?_)
        | 'f'=>`(tactic| exact Zjf)
        | 'g'=>`(tactic| refine Zli ?_)
        | 'h'=>`(tactic| refine Zla ?_ ?_ ?_ ?_)
        | 'i'=>`(tactic| refine Zk6 ?_ ?_ ?_ ?_)
        | 'j'=>`(tactic| exact (by decide))
        | 'k'=>`(tactic| refine ⟨?_⟩)
        | 'l'=>`(tactic| refine ⟨f,fd,_,m,F.kp,b,?_⟩)
        | 'm'=>`(tactic| intro _ _ _ _ _ _ hr)
        | 'n'=>`(tactic| exact T0)
        | 'o'=>`(tactic| exact ih)
        | 'p'=>`(tactic| exact (vr 2))
        | 'q'=>`(tactic| exact (vr 3))
        | 'r'=>`(tactic| exact (by kernel_rfl))
        | 's'=>`(tactic| exact (fun _=>rfl))
        | 't'=>`(tactic| refine Zlm ?_)
        | 'u'=>`(tactic| refine Zlo ?_ ?_ ?_ ?_ ?_)
        | 'v'=>`(tactic| exact T0.b_len)
        | 'w'=>`(tactic| refine Zlg ?_ ?_)
        | 'x'=>`(tactic| exact (vr 5))
        | 'y'=>`(tactic| refine Zlv ?_ ?_ ?_ ?_)
        | 'z'=>`(tactic| exact T1.f_Lpick)
        | 'A'=>`(tactic| refine ZlC ?_ ?_)
        | 'B'=>`(tactic| exact True.intro)
        | 'C'=>`(tactic| refine sg (i:=2) ?_ ?_ ?_)
        | 'D'=>`(tactic| refine pe_one ?_)
        | 'E'=>`(tactic| refine Zkb ?_ ?_ ?_ ?_ ?_ ?_ ?_)
        | 'F'=>`(tactic| refine pi_of ?_)
        | 'G'=>`(tactic| intro _ _ _ _ _)
        | 'H'=>`(tactic| refine ⟨?_,?_,?_⟩)
        | 'I'=>`(tactic| refine ⟨?_,?_⟩)
        | 'J'=>`(tactic| refine pt_of ?_ ?_)
        | 'K'=>`(tactic| refine sg (i:=1) ?_ ?_ ?_)
        | 'L'=>`(tactic| exact Zfh.nd)
        | 'M'=>`(tactic| exact (vr 4))
        | 'N'=>`(tactic| refine Zk4 ?_)
        | 'O'=>`(tactic| refine pp_fmt ?_)
        | 'P'=>`(tactic| refine sg (i:=3) ?_ ?_ ?_)
        | 'Q'=>`(tactic| refine Zlp ?_ ?_ ?_ ?_ ?_ ?_)
        | 'R'=>`(tactic| exact T0.b_isinstance)
        | 'S'=>`(tactic| exact (by decide +kernel))
        | 'T'=>`(tactic| exact pe_blW)
        | 'U'=>`(tactic| exact (pp_con (by decide +kernel)))
        | 'V'=>`(tactic| exact (vr 6))
        | 'W'=>`(tactic| exact T1.f_read_wish)
        | 'X'=>`(tactic| refine PW.pt ?_)
        | 'Y'=>`(tactic| refine pw_orW ?_ ?_)
        | 'Z'=>`(tactic| exact T1.f_word_at)
        | '!'=>`(tactic| exact Zjc)
        | '#'=>`(tactic| refine pw_or1 ?_)
        | '$'=>`(tactic| refine Zls ?_ ?_)
        | '%'=>`(tactic| exact pf_nil)
        | '&'=>`(tactic| exact T0.b_int)
        | '('=>`(tactic| exact T0.b_tuple)
        | ')'=>`(tactic| exact T1.f_is_one_of)
        | '*'=>`(tactic| refine ZjB ?_ ?_)
        | '+'=>`(tactic| refine Zjj ?_ ?_ ?_ ?_)
        | ','=>`(tactic| refine Zjt ?_ ?_)
        | '-'=>`(tactic| exact T0.b_str)
        | '.'=>`(tactic| exact Zax.nd)
        | '/'=>`(tactic| exact PassesOwn.never)
        | ':'=>`(tactic| refine Zga ?_ ?_ ?_)
        | ';'=>`(tactic| exact T0.b_range)
        | '<'=>`(tactic| refine ZjC ?_ ?_ ?_ ?_ ?_)
        | '='=>`(tactic| exact T1.f_read_joined)
        | '>'=>`(tactic| refine Zlk ?_ ?_ ?_)
        | '?'=>`(tactic| exact Zfj.nd)
        | '@'=>`(tactic| exact Zcj.nd)
        | '['=>`(tactic| refine sg (i:=5) ?_ ?_ ?_)
        | ']'=>`(tactic| refine ZjH ?_ ?_ ?_ ?_ ?_)
        | '^'=>`(tactic| exact T0.b_all)
        | '_'=>`(tactic| refine Zjg ?_ ?_ ?_ ?_ ?_ ?_ ?_)
        | '`'=>`(tactic| exact Zac.nd)
        | '{'=>`(tactic| refine sg (i:=4) ?_ ?_ ?_)
        | '|'=>`(tactic| exact Zju)
        | '}'=>`(tactic| exact Zfi.nd)
        | '~'=>`(tactic| exact T1.f_Lwish)
        | 'À'=>`(tactic| exact T1.f_Lparts)
        | 'Á'=>`(tactic| exact (QC 0 (show List.Nodup (["_law_one"]:List Str) from by decide +kernel)))
        | 'Â'=>`(tactic| exact ZcP.nd)
        | 'Ã'=>`(tactic| exact T1.f_Ldeep)
        | 'Ä'=>`(tactic| exact T1.f_Laround)
        | 'Å'=>`(tactic| exact (vr 9))
        | 'Æ'=>`(tactic| refine ZaB (N':=["sign"]) ?_ ?_)
        | 'Ç'=>`(tactic| exact (QC 0 (show List.Nodup (["sign"]:List Str) from by decide +kernel)))
        | 'È'=>`(tactic| exact T1.f_is_long_word)
        | 'É'=>`(tactic| refine Zlx ?_ ?_ ?_ ?_ ?_)
        | 'Ê'=>`(tactic| exact T1.f_text_within)
        | 'Ë'=>`(tactic| exact (ZcU 4 5 rfl XS.nd))
        | 'Ì'=>`(tactic| exact (Xa rfl rfl T0.g_JOINS (by decide)))
        | 'Í'=>`(tactic| exact (ZcU 4 5 rfl Jx.nd))
        | 'Î'=>`(tactic| refine sg (i:=6) ?_ ?_ ?_)
        | 'Ï'=>`(tactic| refine Zgb ?_ ?_ ?_ ?_ ?_)
        | 'Ð'=>`(tactic| refine Zhx ?_ ?_)
        | 'Ñ'=>`(tactic| exact Zds.nd)
        | 'Ò'=>`(tactic| refine Zjd ?_ ?_ ?_ ?_)
        | 'Ó'=>`(tactic| refine ZaB (N':=["_law_one"]) ?_ ?_)
        | 'Ô'=>`(tactic| refine Zjs ?_ ?_ ?_)
        | _=>Lean.Macro.throwUnsupported
      r:=r.push t
    `(tactic| ($[$r:tactic];*))
theorem Zbp:FnScope ["text"] ["text"] (Za ZD):=⟨rfl,rfl,rfl,by decide +kernel,rfl,by decide +kernel,by decide +kernel⟩
theorem Zf0:FnScope ["thing"] ["thing"] (Za QM):=⟨rfl,rfl,rfl,by decide +kernel,rfl,by decide +kernel,by decide +kernel⟩
theorem Zev:FnScope ["thing"] ["thing"] (Za Qq):=⟨rfl,rfl,rfl,by decide +kernel,rfl,by decide +kernel,by decide +kernel⟩
theorem Zdr:FnScope ["thing"] ["thing"] (Za Qe):=⟨rfl,rfl,rfl,by decide +kernel,rfl,by decide +kernel,by decide +kernel⟩
theorem Zdq:FnScope ["thing","texts"] ["thing","texts"] (Za Qd):=⟨rfl,rfl,rfl,by decide +kernel,rfl,by decide +kernel,by decide +kernel⟩
theorem Za0:FnScope ["thing"] ["thing"] (Za Zx):=⟨rfl,rfl,rfl,by decide +kernel,rfl,by decide +kernel,by decide +kernel⟩
theorem ZcN:FnScope ["thing"] ["thing"] (Za Z1):=⟨rfl,rfl,rfl,by decide +kernel,rfl,by decide +kernel,by decide +kernel⟩
theorem Zdp:FnScope ["thing"] ["thing"] (Za Z9):=⟨rfl,rfl,rfl,by decide +kernel,rfl,by decide +kernel,by decide +kernel⟩
theorem Zew:FnScope ["thing"] ["thing"] (Za Qs):=⟨rfl,rfl,rfl,by decide +kernel,rfl,by decide +kernel,by decide +kernel⟩
theorem Zax:FnScope ["thing","layer","parts","depth"] ["thing"] (Za QQ):=⟨rfl,rfl,rfl,by decide +kernel,rfl,by decide +kernel,by decide +kernel⟩
theorem Xi:FnScope ["wish","word","between"] ["wish"] (Za Z8):=⟨rfl,rfl,rfl,by decide +kernel,rfl,by decide +kernel,by decide +kernel⟩
theorem Xz:FnScope ["word","wish","text"] ["word","wish"] (Za ZP):=⟨rfl,rfl,rfl,by decide +kernel,rfl,by decide +kernel,by decide +kernel⟩
theorem Zay:FnScope ["word"] ["word"] (Za Zv):=⟨rfl,rfl,rfl,by decide +kernel,rfl,by decide +kernel,by decide +kernel⟩
theorem ZfZ:FnScope ["words","at"] ["words","at"] (Za QK):=⟨rfl,rfl,rfl,by decide +kernel,rfl,by decide +kernel,by decide +kernel⟩
theorem Zch:FnScope ["words","at","word"] ["words","at"] (Za QL):=⟨rfl,rfl,rfl,by decide +kernel,rfl,by decide +kernel,by decide +kernel⟩
theorem ZaS:FnScope ["words","at","word"] ["words","at"] (Za Qc):=⟨rfl,rfl,rfl,by decide +kernel,rfl,by decide +kernel,by decide +kernel⟩
theorem Zac:FnScope ["words","at","word","size","sign"] ["words","at"] (Za Z0):=⟨rfl,rfl,rfl,by decide +kernel,rfl,by decide +kernel,by decide +kernel⟩
theorem XS:FnScope ["words","at","within","word","wish","behind"] ["words","at","within"] (Za Qp):=⟨rfl,rfl,rfl,by decide +kernel,rfl,by decide +kernel,by decide +kernel⟩
theorem Jx:FnScope ["words","at","within","joins","wish","behind","wishes"] ["words","at","within","joins"] (Za ZQ):=⟨rfl,rfl,rfl,by decide +kernel,rfl,by decide +kernel,by decide +kernel⟩
theorem Xj:FnScope ["text","words","wish","behind"] ["text"] (Za Qa):=⟨rfl,rfl,rfl,by decide +kernel,rfl,by decide +kernel,by decide +kernel⟩
theorem Zi7:FnScope ["_law_script","_law_k"] ["_law_script","_law_k"] (Za J5):=⟨rfl,rfl,rfl,by decide +kernel,rfl,by decide +kernel,by decide +kernel⟩
theorem Zds:FnScope ["_law_cell_here","_law_wide","_law_digits"] ["_law_cell_here"] (Za Jk):=⟨rfl,rfl,rfl,by decide +kernel,rfl,by decide +kernel,by decide +kernel⟩
theorem Zfj:FnScope ["_law_store_here","_law_many","_law_found","_law_number_here"] ["_law_store_here","_law_many"] (Za JX):=⟨rfl,rfl,rfl,by decide +kernel,rfl,by decide +kernel,by decide +kernel⟩
theorem Zfi:FnScope ["_law_store_here","_law_menu","_law_letters","_law_word_here"] ["_law_store_here"] (Za JV):=⟨rfl,rfl,rfl,by decide +kernel,rfl,by decide +kernel,by decide +kernel⟩
theorem Zci:FnScope ["_law_store_here","_law_some"] ["_law_store_here"] (Za QR):=⟨rfl,rfl,rfl,by decide +kernel,rfl,by decide +kernel,by decide +kernel⟩
theorem Zfk:FnScope ["_law_store_here","_law_way"] ["_law_store_here"] (Za JZ):=⟨rfl,rfl,rfl,by decide +kernel,rfl,by decide +kernel,by decide +kernel⟩
theorem ZcO:FnScope ["_law_store_here","_law_deep_here","_law_way","_law_many"] ["_law_store_here","_law_deep_here"] (Za JW):=⟨rfl,rfl,rfl,by decide +kernel,rfl,by decide +kernel,by decide +kernel⟩
theorem Zhn:FnScope ["_law_wish_here"] ["_law_wish_here"] (Za Jl):=⟨rfl,rfl,rfl,by decide +kernel,rfl,by decide +kernel,by decide +kernel⟩
theorem ZcP:FnScope ["_law_store_here","_law_deep_here","_law_turn","_law_wish_here"] ["_law_store_here"] (Za J1):=⟨rfl,rfl,rfl,by decide +kernel,rfl,by decide +kernel,by decide +kernel⟩
theorem Zi6:FnScope ["_law_wish_here"] ["_law_wish_here"] (Za J4):=⟨rfl,rfl,rfl,by decide +kernel,rfl,by decide +kernel,by decide +kernel⟩
theorem Zcj:FnScope ["_law_store_here","_law_wish_here","_law_words","_law_room","_law_must","_law_more"] ["_law_store_here","_law_wish_here","_law_words","_law_room"] (Za QS):=⟨rfl,rfl,rfl,by decide +kernel,rfl,by decide +kernel,by decide +kernel⟩
theorem Zdt:FnScope ["_law_store_here","_law_wish_here","_law_room","_law_words"] ["_law_store_here","_law_wish_here","_law_room"] (Za Jm):=⟨rfl,rfl,rfl,by decide +kernel,rfl,by decide +kernel,by decide +kernel⟩
theorem Zfh:FnScope ["_law_script","_law_ahead","_law_due","_law_cell_here","_law_store_here","_law_wish_here","_law_text","_law_some","_law_ors","_law_two"] ["_law_script"] (Za Za1):=⟨rfl,rfl,rfl,by decide +kernel,rfl,by decide +kernel,by decide +kernel⟩
structure Txt0 (P:Program) (w:World) (K:PySem.W.Frag) (mg:Str→Option Value):Prop where
  b_all:mg "all" = none
  b_bool:mg "bool" = none
  b_int:mg "int" = none
  b_isinstance:mg "isinstance" = none
  b_len:mg "len" = none
  b_max:mg "max" = none
  b_min:mg "min" = none
  b_range:mg "range" = none
  b_str:mg "str" = none
  b_sum:mg "sum" = none
  b_tuple:mg "tuple" = none
  g_LETTERS:Ji K mg "LETTERS" (.str [97,98,99,100,101,102,103,104,105,106,107,108,109,110,111,112,113,114,115,116,117,118,119,120,121,122])
  g_LONGEST_WORD:Ji K mg "LONGEST_WORD" (.int 8)
  g_WISH_WORDS:Ji K mg "WISH_WORDS" (.tup [(.str [97,110,121]),(.str [105,115]),(.str [98,121]),(.str [110,111,116]),(.str [97,110,100]),(.str [111,114])])
  g_GREATEST_NUMBER:Ji K mg "GREATEST_NUMBER" (.int 1000000000)
  g_DEEPEST:Ji K mg "DEEPEST" (.int 6)
  g_MOST_PARTS:Ji K mg "MOST_PARTS" (.int 40)
  g_FEWEST_JOINED:Ji K mg "FEWEST_JOINED" (.int 2)
  g_MOST_JOINED:Ji K mg "MOST_JOINED" (.int 6)
  g_FIGURES:Ji K mg "FIGURES" (.str [48,49,50,51,52,53,54,55,56,57])
  g_MOST_FIGURES:Ji K mg "MOST_FIGURES" (.int 10)
  g_MOST_WITHIN:Ji K mg "MOST_WITHIN" (.int 12)
  d_SIGNS:Zg0 P w K mg "SIGNS" (List.map (fun k=>.inr ⟨k.toArray⟩) [[62,61],[60,61]]) [(.str [108,101,97,115,116]),(.str [109,111,115,116])]
  g_JOINS:Ji K mg "JOINS" (.tup [(.str [111,114]),(.str [97,110,100])])
  d_BRACKETED:Zg0 P w K mg "BRACKETED" (List.map (fun k=>.inr ⟨k.toArray⟩) [[110,111,116],[97,110,100],[111,114]]) [(.tup [(.str [97,110,100]),(.str [111,114])]),(.tup [(.str [97,110,100]),(.str [111,114])]),(.tup [(.str [111,114])])]
structure Txt1 (P:Program) (w:World) (K:PySem.W.Frag) (mg:Str→Option Value) (base:Heap) (k:Nat):Prop where
  f_is_long_word:FOk P w K mg base fns gv k "is_long_word" 0
  f_is_word:FOk P w K mg base fns gv k "is_word" 1
  f_is_whole:FOk P w K mg base fns gv k "is_whole" 2
  f_is_number:FOk P w K mg base fns gv k "is_number" 3
  f_is_one_of:FOk P w K mg base fns gv k "is_one_of" 4
  f_is_plain_wish:FOk P w K mg base fns gv k "is_plain_wish" 5
  f_are_joined:FOk P w K mg base fns gv k "are_joined" 6
  f_things_in:FOk P w K mg base fns gv k "things_in" 7
  f_has_form:FOk P w K mg base fns gv k "has_form" 8
  f_is_wish:FOk P w K mg base fns gv k "is_wish" 9
  f_wish_text:FOk P w K mg base fns gv k "wish_text" 10
  f_text_within:FOk P w K mg base fns gv k "text_within" 11
  f_is_number_text:FOk P w K mg base fns gv k "is_number_text" 12
  f_word_at:FOk P w K mg base fns gv k "word_at" 13
  f_name_at:FOk P w K mg base fns gv k "name_at" 14
  f_number_at:FOk P w K mg base fns gv k "number_at" 15
  f_read_plain:FOk P w K mg base fns gv k "read_plain" 16
  f_read_one:FOk P w K mg base fns gv k "read_one" 17
  f_read_joined:FOk P w K mg base fns gv k "read_joined" 18
  f_read_wish:FOk P w K mg base fns gv k "read_wish" 19
  f_Lcell:FOk P w K mg base fns gv k "_law_cell" 20
  f_Lstore:FOk P w K mg base fns gv k "_law_store" 21
  f_Lpick:FOk P w K mg base fns gv k "_law_pick" 22
  f_Lword:FOk P w K mg base fns gv k "_law_word" 23
  f_Lnumber:FOk P w K mg base fns gv k "_law_number" 24
  f_Lleaf:FOk P w K mg base fns gv k "_law_leaf" 25
  f_Lwish:FOk P w K mg base fns gv k "_law_wish" 26
  f_Lparts:FOk P w K mg base fns gv k "_law_parts" 27
  f_Lgood:FOk P w K mg base fns gv k "_law_good" 28
  f_Ldeep:FOk P w K mg base fns gv k "_law_deep" 29
  f_Laround:FOk P w K mg base fns gv k "_law_around" 30
  f_Lloose:FOk P w K mg base fns gv k "_law_loose" 31
  f_law:FOk P w K mg base fns gv k "law" 32
section
variable {P:Program} {w:World} {K:PySem.W.Frag} {mg:Str→Option Value} {base:Heap} {k:Nat} {f:Addr} {cdv:Value} {A:Around} {outer:List PySem.Env} {s:Shared} {H:Hp} {E:XK}
theorem Zbr (T0:Txt0 P w K mg) (T1:Txt1 P w K mg base k) (hr:Room k (A.deeper (envOfC "is_long_word" (Za ZD) s.heap.objs.size f cdv))) :
    Bd (cxOf CX0 P w K mg base ["text"] "is_long_word" (Za ZD) f cdv A outer s H E).nox (Zf ZD) (tS K (ZR fns gv k) gv xr0 1 Ql):=by
 wtm_at "kaAyu0v1420003bcAy4";exact (Xa rfl rfl T0.g_WISH_WORDS (by decide));wtm_at "bcD]0^1Æ0ErrF4sGHÇBI0y4";exact (Xa rfl rfl T0.g_LETTERS (by decide));wtm_at "bcjj2000"
theorem Zf5 (T0:Txt0 P w K mg) (T1:Txt1 P w K mg base k) (hr:Room k (A.deeper (envOfC "is_word" (Za QM) s.heap.objs.size f cdv))) :
    Bd (cxOf CX0 P w K mg base ["thing"] "is_word" (Za QM) f cdv A outer s H E).nox (Zf QM) (tS K (ZR fns gv k) gv xr0 1 Jc):=by
 wtm_at "kaAQ40R0-SAyu0v142000";exact (Xa rfl rfl T0.g_LONGEST_WORD (by decide));wtm_at "bcD8È501420"
theorem ZeB (T0:Txt0 P w K mg) (T1:Txt1 P w K mg base k) (hr:Room k (A.deeper (envOfC "is_whole" (Za Qq) s.heap.objs.size f cdv))) :
    Bd (cxOf CX0 P w K mg base ["thing"] "is_whole" (Za Qq) f cdv A outer s H E).nox (Zf Qq) (tS K (ZR fns gv k) gv xr0 1 JR):=by
 wtm_at "kaAQ40R0&SD";refine Zll ?_;wtm_at "Q40R0";exact T0.b_bool;wtm_at "S"
theorem ZdC (T0:Txt0 P w K mg) (T1:Txt1 P w K mg base k) (hr:Room k (A.deeper (envOfC "is_number" (Za Qe) s.heap.objs.size f cdv))) :
    Bd (cxOf CX0 P w K mg base ["thing"] "is_number" (Za Qe) f cdv A outer s H E).nox (Zf Qe) (tS K (ZR fns gv k) gv xr0 1 Q7):=by
 wtm_at "kaA8";exact T1.f_is_whole;wtm_at "501420DÉ34";exact (Xa rfl rfl T0.g_GREATEST_NUMBER (by decide));wtm_at "bc"
theorem ZdB (T0:Txt0 P w K mg) (T1:Txt1 P w K mg base k) (hr:Room k (A.deeper (envOfC "is_one_of" (Za Qd) s.heap.objs.size f cdv))) :
    Bd (cxOf CX0 P w K mg base ["thing","texts"] "is_one_of" (Za Qd) f cdv A outer s H E).nox (Zf Qd) (tS K (ZR fns gv k) gv xr0 2 Jr):=by
 wtm_at "kaAQ40R0-SDy49bc"
theorem Za2 (T0:Txt0 P w K mg) (T1:Txt1 P w K mg base k) (hr:Room k (A.deeper (envOfC "is_plain_wish" (Za Zx) s.heap.objs.size f cdv))) :
    Bd (cxOf CX0 P w K mg base ["thing"] "is_plain_wish" (Za Zx) f cdv A outer s H E).nox (Zf Zx) (tS K (ZR fns gv k) gv xr0 1 Z6):=by
 wtm_at "khNJQ40R0(SsaTfhiu0v1420003bca8)501e43d1g1620200fhiu0v1420003bcaA8)501e43d1g1616200200D8";exact T1.f_is_word;wtm_at "501e43d20fhiu0v1420003bcaA8)501e43d1g1616200200A8";exact T1.f_is_word;wtm_at "501e43d20D8";exact T1.f_is_number;wtm_at "501e43d20faT"
theorem ZcT (T0:Txt0 P w K mg) (T1:Txt1 P w K mg base k) (hr:Room k (A.deeper (envOfC "are_joined" (Za Z1) s.heap.objs.size f cdv))) :
    Bd (cxOf CX0 P w K mg base ["thing"] "are_joined" (Za Z1) f cdv A outer s H E).nox (Zf Z1) (tS K (ZR fns gv k) gv xr0 1 QH):=by
 wtm_at "kaAQ40R0(SDÉ";exact (Xa rfl rfl T0.g_FEWEST_JOINED (by decide));wtm_at "u0v142000";exact (Xa rfl rfl T0.g_MOST_JOINED (by decide));wtm_at "bc"
theorem Zdy (T0:Txt0 P w K mg) (T1:Txt1 P w K mg base k) (hr:Room k (A.deeper (envOfC "things_in" (Za Z9) s.heap.objs.size f cdv))) :
    Bd (cxOf CX0 P w K mg base ["thing"] "things_in" (Za Z9) f cdv A outer s H E).nox (Zf Z9) (tS K (ZR fns gv k) gv xr0 1 Q4):=by
 wtm_at "khXYNJQ40R0(Ss#iu0v1420003bcag2fhJ8)501e43d1g1620200sag1e43d20fhX";refine Zk2 ?_ ?_;wtm_at "J8)501e43d1g1616200200s";refine Zk3 ?_;wtm_at "J8";exact T1.f_are_joined;wtm_at "501e43d20sae43dfag2"
theorem ZeC (T0:Txt0 P w K mg) (T1:Txt1 P w K mg base k) (hr:Room k (A.deeper (envOfC "has_form" (Za Qs) s.heap.objs.size f cdv))) :
    Bd (cxOf CX0 P w K mg base ["thing"] "has_form" (Za Qs) f cdv A outer s H E).nox (Zf Qs) (tS K (ZR fns gv k) gv xr0 1 Jo):=by
 wtm_at "ka";refine Zkt ?_ ?_;wtm_at "8";exact T1.f_is_plain_wish;wtm_at "501420Dyu0v18";exact T1.f_things_in;wtm_at "50142020003bc"
theorem Zf6 (T0:Txt0 P w K mg) (T1:Txt1 P w K mg base k) (hr:Room k (A.deeper (envOfC "is_wish" (Za QQ) s.heap.objs.size f cdv))) :
    Bd (cxOf CX0 P w K mg base ["thing","layer","parts","depth"] "is_wish" (Za QQ) f cdv A outer s H E).nox (Zf QQ) (tS K (ZR fns gv k) gv xr0 4 JQ):=by
 wtm_at "kK.t1420C.3_0/:0;1";exact (Xa rfl rfl T0.g_DEEPEST (by decide));wtm_at "20";exact (QC 3 Zax.nd);wtm_at "j";refine Zjh (i:=2) ?_ ?_ ?_;wtm_at ".u0v192000hXYip";exact (Xa rfl rfl T0.g_MOST_PARTS (by decide));wtm_at "bc#NJ]0^1";refine ZaB (N':=["one"]) ?_ ?_;wtm_at "0ErrF9sGH";exact (QC 0 (show List.Nodup (["one"]:List Str) from by decide +kernel));wtm_at "BI08";exact T1.f_has_form;wtm_at "501420jj2000saTf";refine ZcR (N':=["one","below"]) ?_ ?_ ?_ ?_ ?_ ?_ ?_;wtm_at "0ErrF9sGH";exact (QC 0 (show List.Nodup (["one","below"]:List Str) from by decide +kernel));wtm_at "B";refine ⟨⟨_,_,_,rfl,?_,fun _=>rfl,?_,?_⟩,by decide,(show ∀ i∈tgS (.nm 1)++innS (.emit (.var 1)),i < 2 from by decide),?_⟩;wtm_at "F8";exact T1.f_things_in;wtm_at "501420";exact (QC 1 (show List.Nodup (["one","below"]:List Str) from by decide +kernel));wtm_at "BI09jj.000fayu0v1920003bc"
theorem Zdx (T0:Txt0 P w K mg) (T1:Txt1 P w K mg base k) (hr:Room k (A.deeper (envOfC "wish_text" (Za Z8) s.heap.objs.size f cdv))) :
    Bd (cxOf CX0 P w K mg base ["wish","word","between"] "wish_text" (Za Z8) f cdv A outer s H E).nox (Zf Z8) (tS K (ZR fns gv k) gv xr0 3 Z3):=by
 wtm_at "kK";exact Xi.nd;wtm_at "e43dhi96bca9fhi9g1616200bca$wO9wUwOe43d%jfhi96bca$wOe43dwUwOe43d%jfhi96bca$wOe43dwUwOe43d%jfhi96bca$wUwO8Ê50191e43d200%jfC";exact Xi.nd;wtm_at "$wUwO9wU%ja*p1";refine ZaB (N':=["one","word"]) ?_ ?_;wtm_at "0ErrFe43dsGH";exact (QC 0 (show List.Nodup (["one","word"]:List Str) from by decide +kernel));wtm_at "BI08Ê501914200jj20"
theorem Zb5 (T0:Txt0 P w K mg) (T1:Txt1 P w K mg base k) (hr:Room k (A.deeper (envOfC "text_within" (Za ZP) s.heap.objs.size f cdv))) :
    Bd (cxOf CX0 P w K mg base ["word","wish","text"] "text_within" (Za ZP) f cdv A outer s H E).nox (Zf ZP) (tS K (ZR fns gv k) gv xr0 3 Qw):=by
 wtm_at "kC";exact Xz.nd;wtm_at "8";exact T1.f_wish_text;wtm_at "501920hie93d";refine Zhz (ok:=T0.d_BRACKETED) ?_ ?_ ?_ ?_ ?_;wtm_at "004djbca$wUwOpwU%jfap"
theorem Zaz (T0:Txt0 P w K mg) (T1:Txt1 P w K mg base k) (hr:Room k (A.deeper (envOfC "is_number_text" (Za Zv) s.heap.objs.size f cdv))) :
    Bd (cxOf CX0 P w K mg base ["word"] "is_number_text" (Za Zv) f cdv A outer s H E).nox (Zf Zv) (tS K (ZR fns gv k) gv xr0 1 ZX):=by
 wtm_at "khXYN";refine Zk8 ?_ ?_ ?_ ?_ ?_;wtm_at "3u0v142000";exact (Xa rfl rfl T0.g_MOST_FIGURES (by decide));wtm_at "bc#NJ]0^1Æ0ErrF4sGHÇBI0y4";exact (Xa rfl rfl T0.g_FIGURES (by decide));wtm_at "bcjj2000saTfa";refine Zkt ?_ ?_;wtm_at "y46bcDye43d6bc"
theorem Zf3 (T0:Txt0 P w K mg) (T1:Txt1 P w K mg base k) (hr:Room k (A.deeper (envOfC "word_at" (Za QK) s.heap.objs.size f cdv))) :
    Bd (cxOf CX0 P w K mg base ["words","at"] "word_at" (Za QK) f cdv A outer s H E).nox (Zf QK) (tS K (ZR fns gv k) gv xr0 2 JM):=by
 wtm_at "khi9u0v142000bcae49dfa6"
theorem Zf4 (T0:Txt0 P w K mg) (T1:Txt1 P w K mg base k) (hr:Room k (A.deeper (envOfC "name_at" (Za QL) s.heap.objs.size f cdv))) :
    Bd (cxOf CX0 P w K mg base ["words","at","word"] "name_at" (Za QL) f cdv A outer s H E).nox (Zf QL) (tS K (ZR fns gv k) gv xr0 3 JP):=by
 wtm_at "kC";exact Zch.nd;wtm_at "8Z501419200hNJ8È501p20s!fap"
theorem ZdA (T0:Txt0 P w K mg) (T1:Txt1 P w K mg base k) (hr:Room k (A.deeper (envOfC "number_at" (Za Qc) s.heap.objs.size f cdv))) :
    Bd (cxOf CX0 P w K mg base ["words","at","word"] "number_at" (Za Qc) f cdv A outer s H E).nox (Zf Qc) (tS K (ZR fns gv k) gv xr0 3 Q6):=by
 wtm_at "kC";exact ZaS.nd;wtm_at "8Z501419200hNJ8";exact T1.f_is_number_text;wtm_at "501p20s!fa<0&1p2000"
theorem ZcS (T0:Txt0 P w K mg) (T1:Txt1 P w K mg base k) (hr:Room k (A.deeper (envOfC "read_plain" (Za Z0) s.heap.objs.size f cdv))) :
    Bd (cxOf CX0 P w K mg base ["words","at","word","size","sign"] "read_plain" (Za Z0) f cdv A outer s H E).nox (Zf Z0) (tS K (ZR fns gv k) gv xr0 5 QG):=by
 wtm_at "kC`8Z501419200hip6bcag1g1p201793200fhipg1616200bcag1g1p18";exact T1.f_name_at;wtm_at "501417932002001793200fP`8";exact T1.f_name_at;wtm_at "501419200{`8Z50141793200h";refine Zk5 (neg:=true) (ok:=T0.d_SIGNS) ?_ ?_ ?_ ?_ ?_;wtm_at "00Mjb!fag1g1";refine Zhz (ok:=T0.d_SIGNS) ?_ ?_ ?_ ?_ ?_;wtm_at "00Mdj1q18";exact T1.f_number_at;wtm_at "5014179320020001793200"
theorem ZeA (T0:Txt0 P w K mg) (T1:Txt1 P w K mg base k) (hr:Room k (A.deeper (envOfC "read_one" (Za Qp) s.heap.objs.size f cdv))) :
    Bd (cxOf CX0 P w K mg base ["words","at","within","word","wish","behind"] "read_one" (Za Qp) f cdv A outer s H E).nox (Zf Qp) (tS K (ZR fns gv k) gv xr0 6 Qk):=by
 wtm_at "kP";exact XS.nd;wtm_at "8Z501419200hiqg1616200bca8";exact T1.f_read_plain;wtm_at "501419200fhip";exact (Xa rfl rfl T0.g_MOST_WITHIN (by decide));wtm_at "bc!fhiq6bc+j8";exact T1.f_read_one;wtm_at "5014179317p32000Ëag1g161M2001x200f+j8=5014179317p31Ì20000Ëhi8Z50141x2006bc!fag1M17x3200"
theorem Zb6 (T0:Txt0 P w K mg) (T1:Txt1 P w K mg base k) (hr:Room k (A.deeper (envOfC "read_joined" (Za ZQ) s.heap.objs.size f cdv))) :
    Bd (cxOf CX0 P w K mg base ["words","at","within","joins","wish","behind","wishes"] "read_joined" (Za ZQ) f cdv A outer s H E).nox (Zf ZQ) (tS K (ZR fns gv k) gv xr0 7 Z2):=by
 wtm_at "khiu0v1q20003bca8";exact T1.f_read_one;wtm_at "5014191p2000f+j8=5014191p1>q,30|20000ÍÎ";exact Jx.nd;refine ZhA ?_;wtm_at "1M20";refine Zf2 ?_ ?_ ?_ ?_;wtm_at "/i8Z50141x200eq3dbc+j8=501417x31p1>q,30|20000Í";refine Zhq ?_ ?_;refine Zgc ?_ ?_;wtm_at "V1M20fhiu0v1V20003bcag1M1x200fag1g1eq3d1Ï0(1V20002001x200"
theorem Zdz (T0:Txt0 P w K mg) (T1:Txt1 P w K mg base k) (hr:Room k (A.deeper (envOfC "read_wish" (Za Qa) s.heap.objs.size f cdv))) :
    Bd (cxOf CX0 P w K mg base ["text","words","wish","behind"] "read_wish" (Za Qa) f cdv A outer s H E).nox (Zf Qa) (tS K (ZR fns gv k) gv xr0 4 Q5):=by
 wtm_at "khNJQ40R0-Ss!fK";exact Xj.nd;wtm_at "Ð41620+j8=501913131Ì20000";exact (ZcU 2 3 rfl Xj.nd);wtm_at "hXYiqu0v192000bc#NJ8";exact T1.f_is_wish;wtm_at "501p20s!fap"
theorem Zjr (T0:Txt0 P w K mg) (T1:Txt1 P w K mg base k) (hr:Room k (A.deeper (envOfC "_law_cell" (Za J5) s.heap.objs.size f cdv))) :
    Bd (cxOf CX0 P w K mg base ["_law_script","_law_k"] "_law_cell" (Za J5) f cdv A outer s H E).nox (Zf J5) (tS K (ZR fns gv k) gv xr0 2 ZaP):=by
 wtm_at "khi9u0v142000bcae49dfa3"
theorem Zhr (T0:Txt0 P w K mg) (T1:Txt1 P w K mg base k) (hr:Room k (A.deeper (envOfC "_law_store" (Za Jk) s.heap.objs.size f cdv))) :
    Bd (cxOf CX0 P w K mg base ["_law_cell_here","_law_wide","_law_digits"] "_law_store" (Za Jk) f cdv A outer s H E).nox (Zf Jk) (tS K (ZR fns gv k) gv xr0 3 Zas):=by
 wtm_at "kKÑ733CÑ74777799999a";refine ZhA ?_;wtm_at "17p<0&1y4733bc20001743132000"
theorem Zjn (T0:Txt0 P w K mg) (T1:Txt1 P w K mg base k) (hr:Room k (A.deeper (envOfC "_law_pick" (Za JX) s.heap.objs.size f cdv))) :
    Bd (cxOf CX0 P w K mg base ["_law_store_here","_law_many","_law_found","_law_number_here"] "_law_pick" (Za JX) f cdv A outer s H E).nox (Zf JX) (tS K (ZR fns gv k) gv xr0 4 ZaM):=by
 wtm_at "khie43d3bcC?7e43d9Ò7e43d943apfÒ7e43d343P?7777e43d73e43d333P?77q77q333P?77q77q333a77q39"
theorem Zjl (T0:Txt0 P w K mg) (T1:Txt1 P w K mg base k) (hr:Room k (A.deeper (envOfC "_law_word" (Za JV) s.heap.objs.size f cdv))) :
    Bd (cxOf CX0 P w K mg base ["_law_store_here","_law_menu","_law_letters","_law_word_here"] "_law_word" (Za JV) f cdv A outer s H E).nox (Zf JV) (tS K (ZR fns gv k) gv xr0 4 ZaL):=by
 wtm_at "kK}t1616161616161616161616162000000000000hi8z5014132003bcae98z501413200df";refine ZcR (N':=["_law_k","_law_store_here"]) ?_ ?_ ?_ ?_ ?_ ?_ ?_;wtm_at "0Err:0;1738z50141320020sGH";exact (QC 0 (show List.Nodup (["_law_k","_law_store_here"]:List Str) from by decide +kernel));wtm_at "BI0e68z501913200djj}000P}*61p20hiqg1616161616162000000bca7q6faq"
theorem Zf7 (T0:Txt0 P w K mg) (T1:Txt1 P w K mg base k) (hr:Room k (A.deeper (envOfC "_law_number" (Za QR) s.heap.objs.size f cdv))) :
    Bd (cxOf CX0 P w K mg base ["_law_store_here","_law_some"] "_law_number" (Za QR) f cdv A outer s H E).nox (Zf QR) (tS K (ZR fns gv k) gv xr0 2 JS):=by
 wtm_at "kK";exact Zci.nd;wtm_at "t18z50141320018z501413200177338z50141320018z501417733320020000ae98z501413200d"
theorem Zjo (T0:Txt0 P w K mg) (T1:Txt1 P w K mg base k) (hr:Room k (A.deeper (envOfC "_law_leaf" (Za JZ) s.heap.objs.size f cdv))) :
    Bd (cxOf CX0 P w K mg base ["_law_store_here","_law_way"] "_law_leaf" (Za JZ) f cdv A outer s H E).nox (Zf JZ) (tS K (ZR fns gv k) gv xr0 2 ZaN):=by
 wtm_at "kK";exact Zfk.nd;wtm_at "8z501413200hi93bcag1620fhi93bcag1et1616200793d18";exact T1.f_Lword;wtm_at "501420200fag1et1616200793d18";exact T1.f_Lword;wtm_at "50142018";exact T1.f_Lnumber;wtm_at "5014202000"
theorem Zjm (T0:Txt0 P w K mg) (T1:Txt1 P w K mg base k) (hr:Room k (A.deeper (envOfC "_law_wish" (Za JW) s.heap.objs.size f cdv))) :
    Bd (cxOf CX0 P w K mg base ["_law_store_here","_law_deep_here","_law_way","_law_many"] "_law_wish" (Za JW) f cdv A outer s H E).nox (Zf JW) (tS K (ZR fns gv k) gv xr0 4 Xr):=by
 wtm_at "kC";exact ZcO.nd;wtm_at "8z501413200hXYi93bc#ip3bca8";exact T1.f_Lleaf;wtm_at "501420fhip3bcag1618~50141793200200fP";exact ZcO.nd;wtm_at "738z50141et13131320008z501413200d200ag1et16162007p3d1Ï0(1";refine ZaB (N':=["_law_k","_law_store_here","_law_deep_here"]) ?_ ?_;wtm_at "0Err:0;1q20sGH";exact (QC 0 (show List.Nodup (["_law_k","_law_store_here","_law_deep_here"]:List Str) from by decide +kernel));wtm_at "BI08~501917p3200jj2000200"
theorem Zhs (T0:Txt0 P w K mg) (T1:Txt1 P w K mg base k) (hr:Room k (A.deeper (envOfC "_law_parts" (Za Jl) s.heap.objs.size f cdv))) :
    Bd (cxOf CX0 P w K mg base ["_law_wish_here"] "_law_parts" (Za Jl) f cdv A outer s H E).nox (Zf Jl) (tS K (ZR fns gv k) gv xr0 1 Xx):=by
 wtm_at "khie43d6bca738À501e43d20fhie43dg1616200bca73";refine Zjx ?_ ?_ ?_ ?_ ?_;wtm_at "0";exact T0.b_sum;wtm_at "1Ó0ErrFe43dsGHÁBI08À501420jj2000fa3"
theorem Zjp (T0:Txt0 P w K mg) (T1:Txt1 P w K mg base k) (hr:Room k (A.deeper (envOfC "_law_good" (Za J1) s.heap.objs.size f cdv))) :
    Bd (cxOf CX0 P w K mg base ["_law_store_here","_law_deep_here","_law_turn","_law_wish_here"] "_law_good" (Za J1) f cdv A outer s H E).nox (Zf J1) (tS K (ZR fns gv k) gv xr0 4 ZaO):=by
 wtm_at "kKÂ738z501413200_0/:0;1320";exact (QC 2 ZcP.nd);wtm_at "jPÂ8~501419200hi8À501q203bcaqfKÂ";refine ZjA ?_ ?_ ?_ ?_ ?_;wtm_at "0";exact T0.b_min;wtm_at "191320000fag1618";exact T1.f_Lleaf;wtm_at "501420200"
theorem Zjq (T0:Txt0 P w K mg) (T1:Txt1 P w K mg base k) (hr:Room k (A.deeper (envOfC "_law_deep" (Za J4) s.heap.objs.size f cdv))) :
    Bd (cxOf CX0 P w K mg base ["_law_wish_here"] "_law_deep" (Za J4) f cdv A outer s H E).nox (Zf J4) (tS K (ZR fns gv k) gv xr0 1 JB):=by
 wtm_at "khie43d6bca738Ã501e43d20fhie43dg1616200bca73";refine Zhy ?_ ?_ ?_ ?_ ?_;wtm_at "0";exact T0.b_max;wtm_at "1Ó0ErrFe43dsGHÁBI08Ã501420jj2000fa3"
theorem Zf8 (T0:Txt0 P w K mg) (T1:Txt1 P w K mg base k) (hr:Room k (A.deeper (envOfC "_law_around" (Za QS) s.heap.objs.size f cdv))) :
    Bd (cxOf CX0 P w K mg base ["_law_store_here","_law_wish_here","_law_words","_law_room","_law_must","_law_more"] "_law_around" (Za QS) f cdv A outer s H E).nox (Zf QS) (tS K (ZR fns gv k) gv xr0 6 JT):=by
 wtm_at "k{@ye93dpbc[@3hiq7738Ã5019203bc[@et13131313200008z501413200dff[@7x<0&1AMDyx3bc2000a7776x8";exact T1.f_Lloose;wtm_at "50141917qx200076x"
theorem Zht (T0:Txt0 P w K mg) (T1:Txt1 P w K mg base k) (hr:Room k (A.deeper (envOfC "_law_loose" (Za Jm) s.heap.objs.size f cdv))) :
    Bd (cxOf CX0 P w K mg base ["_law_store_here","_law_wish_here","_law_room","_law_words"] "_law_loose" (Za Jm) f cdv A outer s H E).nox (Zf Jm) (tS K (ZR fns gv k) gv xr0 4 Q9):=by
 wtm_at "khie93d6bca6fhie93dg1616200bca77e93d6e93dfhie93dg1616200bca77e93det1616200<0&1ye93d6bc2000d";refine Zjy ?_ ?_ ?_ ?_ ?_;wtm_at "0-1e93d2000fhie93d6bca768Ä50141e93d1t161620017p320000fP";exact Zdt.nd;refine ZjE ?_ ?_ ?_ ?_;refine Zlt ?_ ?_ ?_ ?_ ?_ ?_ ?_;wtm_at "Ô";exact Zhw;wtm_at "t1616200Ô";exact Zhw;wtm_at "t1620";exact Zlc;wtm_at "00";exact (by simp);wtm_at "j00e93ddca*776e93d61";refine ZaB (N':=["_law_one","_law_store_here","_law_words","_law_room"]) ?_ ?_;wtm_at "0ErrFe93dsGH";exact (QC 0 (show List.Nodup (["_law_one","_law_store_here","_law_words","_law_room"]:List Str) from by decide +kernel));wtm_at "BI08Ä5019141p1q20000jj20"
theorem Zkr (T0:Txt0 P w K mg) (T1:Txt1 P w K mg base k) (hr:Room k (A.deeper (envOfC "law" (Za Za1) s.heap.objs.size f cdv))) :
    Bd (cxOf CX0 P w K mg base ["_law_script","_law_ahead","_law_due","_law_cell_here","_law_store_here","_law_wish_here","_law_text","_law_some","_law_ors","_law_two"] "law" (Za Za1) f cdv A outer s H E).nox (Zf Za1) (tS K (ZR fns gv k) gv xr0 10 Zcc):=by
 wtm_at "kKL6CLg1620_0/F7t18";exact T1.f_Lcell;wtm_at "50141320020>4,30,30";exact (QC 3 Zfh.nd);wtm_at "j{L8";exact T1.f_Lstore;wtm_at "501q20[L8";exact T1.f_Lgood;wtm_at "501M20ÎL8Ä501M1x1t21320000hiu0v1ÐV162020003bchXYi8W501V20xbcYi8W501920pbc#i8W501V20xbcaTfhi8W5018";exact T1.f_wish_text;wtm_at "5018W501V202020xbcaTfKLVCLxfff";refine sg (i:=7) ?_ ?_ ?_;wtm_at "L7t16203";refine ZcR (N':=["_law_one"]) ?_ ?_ ?_ ?_ ?_ ?_ ?_;wtm_at "0ErrF77t1";exact (vr 7);wtm_at "203t17>";exact (vr 7);wtm_at "|,30t162020sGHÁBI0776*614206jjL000CLg1617g1g1620203200hi8W501*61";exact (vr 8);wtm_at "2020g16177g1p203g1g16177g1g1620203g1g161g16202002020020200bcaTf";refine sg (i:=9) ?_ ?_ ?_;wtm_at "Lg1g16162001g1616200200hi8W501620g161g1g161Å2001g1620200200bcaTfay8W501620g161g1g161eÅ3d2001eÅ3d200200bc"
end
structure TxtF (K:PySem.W.Frag) (mg:Str→Option Value):Prop where
  f_is_long_word:∃ f fd,Fun K "is_long_word" "is_long_word" ZD f fd∧mg "is_long_word" = some (.ref f)∧Binds K fd ["text"] []
  f_is_word:∃ f fd,Fun K "is_word" "is_word" QM f fd∧mg "is_word" = some (.ref f)∧Binds K fd ["thing"] []
  f_is_whole:∃ f fd,Fun K "is_whole" "is_whole" Qq f fd∧mg "is_whole" = some (.ref f)∧Binds K fd ["thing"] []
  f_is_number:∃ f fd,Fun K "is_number" "is_number" Qe f fd∧mg "is_number" = some (.ref f)∧Binds K fd ["thing"] []
  f_is_one_of:∃ f fd,Fun K "is_one_of" "is_one_of" Qd f fd∧mg "is_one_of" = some (.ref f)∧Binds K fd ["thing","texts"] []
  f_is_plain_wish:∃ f fd,Fun K "is_plain_wish" "is_plain_wish" Zx f fd∧mg "is_plain_wish" = some (.ref f)∧Binds K fd ["thing"] []
  f_are_joined:∃ f fd,Fun K "are_joined" "are_joined" Z1 f fd∧mg "are_joined" = some (.ref f)∧Binds K fd ["thing"] []
  f_things_in:∃ f fd,Fun K "things_in" "things_in" Z9 f fd∧mg "things_in" = some (.ref f)∧Binds K fd ["thing"] []
  f_has_form:∃ f fd,Fun K "has_form" "has_form" Qs f fd∧mg "has_form" = some (.ref f)∧Binds K fd ["thing"] []
  f_is_wish:∃ f fd,Fun K "is_wish" "is_wish" QQ f fd∧mg "is_wish" = some (.ref f)∧Binds K fd ["thing"] []
  f_wish_text:∃ f fd,Fun K "wish_text" "wish_text" Z8 f fd∧mg "wish_text" = some (.ref f)∧Binds K fd ["wish"] []
  f_text_within:∃ f fd,Fun K "text_within" "text_within" ZP f fd∧mg "text_within" = some (.ref f)∧Binds K fd ["word","wish"] []
  f_is_number_text:∃ f fd,Fun K "is_number_text" "is_number_text" Zv f fd∧mg "is_number_text" = some (.ref f)∧Binds K fd ["word"] []
  f_word_at:∃ f fd,Fun K "word_at" "word_at" QK f fd∧mg "word_at" = some (.ref f)∧Binds K fd ["words","at"] []
  f_name_at:∃ f fd,Fun K "name_at" "name_at" QL f fd∧mg "name_at" = some (.ref f)∧Binds K fd ["words","at"] []
  f_number_at:∃ f fd,Fun K "number_at" "number_at" Qc f fd∧mg "number_at" = some (.ref f)∧Binds K fd ["words","at"] []
  f_read_plain:∃ f fd,Fun K "read_plain" "read_plain" Z0 f fd∧mg "read_plain" = some (.ref f)∧Binds K fd ["words","at"] []
  f_read_one:∃ f fd,Fun K "read_one" "read_one" Qp f fd∧mg "read_one" = some (.ref f)∧Binds K fd ["words","at","within"] []
  f_read_joined:∃ f fd,Fun K "read_joined" "read_joined" ZQ f fd∧mg "read_joined" = some (.ref f)∧Binds K fd ["words","at","within","joins"] []
  f_read_wish:∃ f fd,Fun K "read_wish" "read_wish" Qa f fd∧mg "read_wish" = some (.ref f)∧Binds K fd ["text"] []
  f_Lcell:∃ f fd,Fun K "_law_cell" "_law_cell" J5 f fd∧mg "_law_cell" = some (.ref f)∧Binds K fd ["_law_script","_law_k"] []
  f_Lstore:∃ f fd,Fun K "_law_store" "_law_store" Jk f fd∧mg "_law_store" = some (.ref f)∧Binds K fd ["_law_cell_here"] []
  f_Lpick:∃ f fd,Fun K "_law_pick" "_law_pick" JX f fd∧mg "_law_pick" = some (.ref f)∧Binds K fd ["_law_store_here","_law_many"] []
  f_Lword:∃ f fd,Fun K "_law_word" "_law_word" JV f fd∧mg "_law_word" = some (.ref f)∧Binds K fd ["_law_store_here"] []
  f_Lnumber:∃ f fd,Fun K "_law_number" "_law_number" QR f fd∧mg "_law_number" = some (.ref f)∧Binds K fd ["_law_store_here"] []
  f_Lleaf:∃ f fd,Fun K "_law_leaf" "_law_leaf" JZ f fd∧mg "_law_leaf" = some (.ref f)∧Binds K fd ["_law_store_here"] []
  f_Lwish:∃ f fd,Fun K "_law_wish" "_law_wish" JW f fd∧mg "_law_wish" = some (.ref f)∧Binds K fd ["_law_store_here","_law_deep_here"] []
  f_Lparts:∃ f fd,Fun K "_law_parts" "_law_parts" Jl f fd∧mg "_law_parts" = some (.ref f)∧Binds K fd ["_law_wish_here"] []
  f_Lgood:∃ f fd,Fun K "_law_good" "_law_good" J1 f fd∧mg "_law_good" = some (.ref f)∧Binds K fd ["_law_store_here"] []
  f_Ldeep:∃ f fd,Fun K "_law_deep" "_law_deep" J4 f fd∧mg "_law_deep" = some (.ref f)∧Binds K fd ["_law_wish_here"] []
  f_Laround:∃ f fd,Fun K "_law_around" "_law_around" QS f fd∧mg "_law_around" = some (.ref f)∧Binds K fd ["_law_store_here","_law_wish_here","_law_words","_law_room"] []
  f_Lloose:∃ f fd,Fun K "_law_loose" "_law_loose" Jm f fd∧mg "_law_loose" = some (.ref f)∧Binds K fd ["_law_store_here","_law_wish_here","_law_room"] []
  f_law:∃ f fd,Fun K "law" "law" Za1 f fd∧mg "law" = some (.ref f)∧Binds K fd ["_law_script"] []
theorem Zbw {P:Program} {w:World} {K:PySem.W.Frag} {mg:Str→Option Value} {base:Heap} {k:Nat} (T0:Txt0 P w K mg) (TF:TxtF K mg) (ih:Txt1 P w K mg base k):FOk P w K mg base fns gv (k + 1) "is_long_word" 0:=by
 obtain ⟨f,fd,F,m,b⟩:=TF.f_is_long_word;wtm_at "l";refine ZJ (fi:=0) (np:=1) (n:=1) (body:=Ql) (cell:=false) F Zbp ?_ ?_ ?_ ?_;wtm_at "000m";refine Zbr ?_ ?_ ?_;wtm_at "no5"
theorem Zgl {P:Program} {w:World} {K:PySem.W.Frag} {mg:Str→Option Value} {base:Heap} {k:Nat} (T0:Txt0 P w K mg) (TF:TxtF K mg) (ih:Txt1 P w K mg base k):FOk P w K mg base fns gv (k + 1) "is_word" 1:=by
 obtain ⟨f,fd,F,m,b⟩:=TF.f_is_word;wtm_at "l";refine ZJ (fi:=1) (np:=1) (n:=1) (body:=Jc) (cell:=false) F Zf0 ?_ ?_ ?_ ?_;wtm_at "000m";refine Zf5 ?_ ?_ ?_;wtm_at "no5"
theorem ZeI {P:Program} {w:World} {K:PySem.W.Frag} {mg:Str→Option Value} {base:Heap} {k:Nat} (T0:Txt0 P w K mg) (TF:TxtF K mg) (ih:Txt1 P w K mg base k):FOk P w K mg base fns gv (k + 1) "is_whole" 2:=by
 obtain ⟨f,fd,F,m,b⟩:=TF.f_is_whole;wtm_at "l";refine ZJ (fi:=2) (np:=1) (n:=1) (body:=JR) (cell:=false) F Zev ?_ ?_ ?_ ?_;wtm_at "000m";refine ZeB ?_ ?_ ?_;wtm_at "no5"
theorem ZdO {P:Program} {w:World} {K:PySem.W.Frag} {mg:Str→Option Value} {base:Heap} {k:Nat} (T0:Txt0 P w K mg) (TF:TxtF K mg) (ih:Txt1 P w K mg base k):FOk P w K mg base fns gv (k + 1) "is_number" 3:=by
 obtain ⟨f,fd,F,m,b⟩:=TF.f_is_number;wtm_at "l";refine ZJ (fi:=3) (np:=1) (n:=1) (body:=Q7) (cell:=false) F Zdr ?_ ?_ ?_ ?_;wtm_at "000m";refine ZdC ?_ ?_ ?_;wtm_at "no5"
theorem ZdN {P:Program} {w:World} {K:PySem.W.Frag} {mg:Str→Option Value} {base:Heap} {k:Nat} (T0:Txt0 P w K mg) (TF:TxtF K mg) (ih:Txt1 P w K mg base k):FOk P w K mg base fns gv (k + 1) "is_one_of" 4:=by
 obtain ⟨f,fd,F,m,b⟩:=TF.f_is_one_of;wtm_at "l";refine ZJ (fi:=4) (np:=2) (n:=2) (body:=Jr) (cell:=false) F Zdq ?_ ?_ ?_ ?_;wtm_at "000m";refine ZdB ?_ ?_ ?_;wtm_at "no5"
theorem Za3 {P:Program} {w:World} {K:PySem.W.Frag} {mg:Str→Option Value} {base:Heap} {k:Nat} (T0:Txt0 P w K mg) (TF:TxtF K mg) (ih:Txt1 P w K mg base k):FOk P w K mg base fns gv (k + 1) "is_plain_wish" 5:=by
 obtain ⟨f,fd,F,m,b⟩:=TF.f_is_plain_wish;wtm_at "l";refine ZJ (fi:=5) (np:=1) (n:=1) (body:=Z6) (cell:=false) F Za0 ?_ ?_ ?_ ?_;wtm_at "000m";refine Za2 ?_ ?_ ?_;wtm_at "no5"
theorem ZcX {P:Program} {w:World} {K:PySem.W.Frag} {mg:Str→Option Value} {base:Heap} {k:Nat} (T0:Txt0 P w K mg) (TF:TxtF K mg) (ih:Txt1 P w K mg base k):FOk P w K mg base fns gv (k + 1) "are_joined" 6:=by
 obtain ⟨f,fd,F,m,b⟩:=TF.f_are_joined;wtm_at "l";refine ZJ (fi:=6) (np:=1) (n:=1) (body:=QH) (cell:=false) F ZcN ?_ ?_ ?_ ?_;wtm_at "000m";refine ZcT ?_ ?_ ?_;wtm_at "no5"
theorem ZdK {P:Program} {w:World} {K:PySem.W.Frag} {mg:Str→Option Value} {base:Heap} {k:Nat} (T0:Txt0 P w K mg) (TF:TxtF K mg) (ih:Txt1 P w K mg base k):FOk P w K mg base fns gv (k + 1) "things_in" 7:=by
 obtain ⟨f,fd,F,m,b⟩:=TF.f_things_in;wtm_at "l";refine ZJ (fi:=7) (np:=1) (n:=1) (body:=Q4) (cell:=false) F Zdp ?_ ?_ ?_ ?_;wtm_at "000m";refine Zdy ?_ ?_ ?_;wtm_at "no5"
theorem ZeJ {P:Program} {w:World} {K:PySem.W.Frag} {mg:Str→Option Value} {base:Heap} {k:Nat} (T0:Txt0 P w K mg) (TF:TxtF K mg) (ih:Txt1 P w K mg base k):FOk P w K mg base fns gv (k + 1) "has_form" 8:=by
 obtain ⟨f,fd,F,m,b⟩:=TF.f_has_form;wtm_at "l";refine ZJ (fi:=8) (np:=1) (n:=1) (body:=Jo) (cell:=false) F Zew ?_ ?_ ?_ ?_;wtm_at "000m";refine ZeC ?_ ?_ ?_;wtm_at "no5"
theorem Zgm {P:Program} {w:World} {K:PySem.W.Frag} {mg:Str→Option Value} {base:Heap} {k:Nat} (T0:Txt0 P w K mg) (TF:TxtF K mg) (ih:Txt1 P w K mg base k):FOk P w K mg base fns gv (k + 1) "is_wish" 9:=by
 obtain ⟨f,fd,F,m,b⟩:=TF.f_is_wish;wtm_at "l";refine ZJ (fi:=9) (np:=1) (n:=4) (body:=JQ) (cell:=false) F Zax ?_ ?_ ?_ ?_;wtm_at "000m";refine Zf6 ?_ ?_ ?_;wtm_at "no5"
theorem ZdJ {P:Program} {w:World} {K:PySem.W.Frag} {mg:Str→Option Value} {base:Heap} {k:Nat} (T0:Txt0 P w K mg) (TF:TxtF K mg) (ih:Txt1 P w K mg base k):FOk P w K mg base fns gv (k + 1) "wish_text" 10:=by
 obtain ⟨f,fd,F,m,b⟩:=TF.f_wish_text;wtm_at "l";refine ZJ (fi:=10) (np:=1) (n:=3) (body:=Z3) (cell:=false) F Xi ?_ ?_ ?_ ?_;wtm_at "000m";refine Zdx ?_ ?_ ?_;wtm_at "no5"
theorem Zb7 {P:Program} {w:World} {K:PySem.W.Frag} {mg:Str→Option Value} {base:Heap} {k:Nat} (T0:Txt0 P w K mg) (TF:TxtF K mg) (ih:Txt1 P w K mg base k):FOk P w K mg base fns gv (k + 1) "text_within" 11:=by
 obtain ⟨f,fd,F,m,b⟩:=TF.f_text_within;wtm_at "l";refine ZJ (fi:=11) (np:=2) (n:=3) (body:=Qw) (cell:=false) F Xz ?_ ?_ ?_ ?_;wtm_at "000m";refine Zb5 ?_ ?_ ?_;wtm_at "no5"
theorem ZaE {P:Program} {w:World} {K:PySem.W.Frag} {mg:Str→Option Value} {base:Heap} {k:Nat} (T0:Txt0 P w K mg) (TF:TxtF K mg) (ih:Txt1 P w K mg base k):FOk P w K mg base fns gv (k + 1) "is_number_text" 12:=by
 obtain ⟨f,fd,F,m,b⟩:=TF.f_is_number_text;wtm_at "l";refine ZJ (fi:=12) (np:=1) (n:=1) (body:=ZX) (cell:=false) F Zay ?_ ?_ ?_ ?_;wtm_at "000m";refine Zaz ?_ ?_ ?_;wtm_at "no5"
theorem Zgj {P:Program} {w:World} {K:PySem.W.Frag} {mg:Str→Option Value} {base:Heap} {k:Nat} (T0:Txt0 P w K mg) (TF:TxtF K mg) (ih:Txt1 P w K mg base k):FOk P w K mg base fns gv (k + 1) "word_at" 13:=by
 obtain ⟨f,fd,F,m,b⟩:=TF.f_word_at;wtm_at "l";refine ZJ (fi:=13) (np:=2) (n:=2) (body:=JM) (cell:=false) F ZfZ ?_ ?_ ?_ ?_;wtm_at "000m";refine Zf3 ?_ ?_ ?_;wtm_at "no5"
theorem Zgk {P:Program} {w:World} {K:PySem.W.Frag} {mg:Str→Option Value} {base:Heap} {k:Nat} (T0:Txt0 P w K mg) (TF:TxtF K mg) (ih:Txt1 P w K mg base k):FOk P w K mg base fns gv (k + 1) "name_at" 14:=by
 obtain ⟨f,fd,F,m,b⟩:=TF.f_name_at;wtm_at "l";refine ZJ (fi:=14) (np:=2) (n:=3) (body:=JP) (cell:=false) F Zch ?_ ?_ ?_ ?_;wtm_at "000m";refine Zf4 ?_ ?_ ?_;wtm_at "no5"
theorem ZdM {P:Program} {w:World} {K:PySem.W.Frag} {mg:Str→Option Value} {base:Heap} {k:Nat} (T0:Txt0 P w K mg) (TF:TxtF K mg) (ih:Txt1 P w K mg base k):FOk P w K mg base fns gv (k + 1) "number_at" 15:=by
 obtain ⟨f,fd,F,m,b⟩:=TF.f_number_at;wtm_at "l";refine ZJ (fi:=15) (np:=2) (n:=3) (body:=Q6) (cell:=false) F ZaS ?_ ?_ ?_ ?_;wtm_at "000m";refine ZdA ?_ ?_ ?_;wtm_at "no5"
theorem ZcW {P:Program} {w:World} {K:PySem.W.Frag} {mg:Str→Option Value} {base:Heap} {k:Nat} (T0:Txt0 P w K mg) (TF:TxtF K mg) (ih:Txt1 P w K mg base k):FOk P w K mg base fns gv (k + 1) "read_plain" 16:=by
 obtain ⟨f,fd,F,m,b⟩:=TF.f_read_plain;wtm_at "l";refine ZJ (fi:=16) (np:=2) (n:=5) (body:=QG) (cell:=false) F Zac ?_ ?_ ?_ ?_;wtm_at "000m";refine ZcS ?_ ?_ ?_;wtm_at "no5"
theorem ZeH {P:Program} {w:World} {K:PySem.W.Frag} {mg:Str→Option Value} {base:Heap} {k:Nat} (T0:Txt0 P w K mg) (TF:TxtF K mg) (ih:Txt1 P w K mg base k):FOk P w K mg base fns gv (k + 1) "read_one" 17:=by
 obtain ⟨f,fd,F,m,b⟩:=TF.f_read_one;wtm_at "l";refine ZJ (fi:=17) (np:=3) (n:=6) (body:=Qk) (cell:=false) F XS ?_ ?_ ?_ ?_;wtm_at "000m";refine ZeA ?_ ?_ ?_;wtm_at "no5"
theorem Zb8 {P:Program} {w:World} {K:PySem.W.Frag} {mg:Str→Option Value} {base:Heap} {k:Nat} (T0:Txt0 P w K mg) (TF:TxtF K mg) (ih:Txt1 P w K mg base k):FOk P w K mg base fns gv (k + 1) "read_joined" 18:=by
 obtain ⟨f,fd,F,m,b⟩:=TF.f_read_joined;wtm_at "l";refine ZJ (fi:=18) (np:=4) (n:=7) (body:=Z2) (cell:=false) F Jx ?_ ?_ ?_ ?_;wtm_at "000m";refine Zb6 ?_ ?_ ?_;wtm_at "no5"
theorem ZdL {P:Program} {w:World} {K:PySem.W.Frag} {mg:Str→Option Value} {base:Heap} {k:Nat} (T0:Txt0 P w K mg) (TF:TxtF K mg) (ih:Txt1 P w K mg base k):FOk P w K mg base fns gv (k + 1) "read_wish" 19:=by
 obtain ⟨f,fd,F,m,b⟩:=TF.f_read_wish;wtm_at "l";refine ZJ (fi:=19) (np:=1) (n:=4) (body:=Q5) (cell:=false) F Xj ?_ ?_ ?_ ?_;wtm_at "000m";refine Zdz ?_ ?_ ?_;wtm_at "no5"
theorem ZjQ {P:Program} {w:World} {K:PySem.W.Frag} {mg:Str→Option Value} {base:Heap} {k:Nat} (T0:Txt0 P w K mg) (TF:TxtF K mg) (ih:Txt1 P w K mg base k):FOk P w K mg base fns gv (k + 1) "_law_cell" 20:=by
 obtain ⟨f,fd,F,m,b⟩:=TF.f_Lcell;wtm_at "l";refine ZJ (fi:=20) (np:=2) (n:=2) (body:=ZaP) (cell:=false) F Zi7 ?_ ?_ ?_ ?_;wtm_at "000m";refine Zjr ?_ ?_ ?_;wtm_at "no5"
theorem ZhO {P:Program} {w:World} {K:PySem.W.Frag} {mg:Str→Option Value} {base:Heap} {k:Nat} (T0:Txt0 P w K mg) (TF:TxtF K mg) (ih:Txt1 P w K mg base k):FOk P w K mg base fns gv (k + 1) "_law_store" 21:=by
 obtain ⟨f,fd,F,m,b⟩:=TF.f_Lstore;wtm_at "l";refine ZJ (fi:=21) (np:=1) (n:=3) (body:=Zas) (cell:=true) F Zds ?_ ?_ ?_ ?_;wtm_at "000m";refine Zhr ?_ ?_ ?_;wtm_at "no5"
theorem ZjM {P:Program} {w:World} {K:PySem.W.Frag} {mg:Str→Option Value} {base:Heap} {k:Nat} (T0:Txt0 P w K mg) (TF:TxtF K mg) (ih:Txt1 P w K mg base k):FOk P w K mg base fns gv (k + 1) "_law_pick" 22:=by
 obtain ⟨f,fd,F,m,b⟩:=TF.f_Lpick;wtm_at "l";refine ZJ (fi:=22) (np:=2) (n:=4) (body:=ZaM) (cell:=false) F Zfj ?_ ?_ ?_ ?_;wtm_at "000m";refine Zjn ?_ ?_ ?_;wtm_at "no5"
theorem ZjK {P:Program} {w:World} {K:PySem.W.Frag} {mg:Str→Option Value} {base:Heap} {k:Nat} (T0:Txt0 P w K mg) (TF:TxtF K mg) (ih:Txt1 P w K mg base k):FOk P w K mg base fns gv (k + 1) "_law_word" 23:=by
 obtain ⟨f,fd,F,m,b⟩:=TF.f_Lword;wtm_at "l";refine ZJ (fi:=23) (np:=1) (n:=4) (body:=ZaL) (cell:=false) F Zfi ?_ ?_ ?_ ?_;wtm_at "000m";refine Zjl ?_ ?_ ?_;wtm_at "no5"
theorem Zgn {P:Program} {w:World} {K:PySem.W.Frag} {mg:Str→Option Value} {base:Heap} {k:Nat} (T0:Txt0 P w K mg) (TF:TxtF K mg) (ih:Txt1 P w K mg base k):FOk P w K mg base fns gv (k + 1) "_law_number" 24:=by
 obtain ⟨f,fd,F,m,b⟩:=TF.f_Lnumber;wtm_at "l";refine ZJ (fi:=24) (np:=1) (n:=2) (body:=JS) (cell:=false) F Zci ?_ ?_ ?_ ?_;wtm_at "000m";refine Zf7 ?_ ?_ ?_;wtm_at "no5"
theorem ZjN {P:Program} {w:World} {K:PySem.W.Frag} {mg:Str→Option Value} {base:Heap} {k:Nat} (T0:Txt0 P w K mg) (TF:TxtF K mg) (ih:Txt1 P w K mg base k):FOk P w K mg base fns gv (k + 1) "_law_leaf" 25:=by
 obtain ⟨f,fd,F,m,b⟩:=TF.f_Lleaf;wtm_at "l";refine ZJ (fi:=25) (np:=1) (n:=2) (body:=ZaN) (cell:=false) F Zfk ?_ ?_ ?_ ?_;wtm_at "000m";refine Zjo ?_ ?_ ?_;wtm_at "no5"
theorem ZjL {P:Program} {w:World} {K:PySem.W.Frag} {mg:Str→Option Value} {base:Heap} {k:Nat} (T0:Txt0 P w K mg) (TF:TxtF K mg) (ih:Txt1 P w K mg base k):FOk P w K mg base fns gv (k + 1) "_law_wish" 26:=by
 obtain ⟨f,fd,F,m,b⟩:=TF.f_Lwish;wtm_at "l";refine ZJ (fi:=26) (np:=2) (n:=4) (body:=Xr) (cell:=false) F ZcO ?_ ?_ ?_ ?_;wtm_at "000m";refine Zjm ?_ ?_ ?_;wtm_at "no5"
theorem ZhP {P:Program} {w:World} {K:PySem.W.Frag} {mg:Str→Option Value} {base:Heap} {k:Nat} (T0:Txt0 P w K mg) (TF:TxtF K mg) (ih:Txt1 P w K mg base k):FOk P w K mg base fns gv (k + 1) "_law_parts" 27:=by
 obtain ⟨f,fd,F,m,b⟩:=TF.f_Lparts;wtm_at "l";refine ZJ (fi:=27) (np:=1) (n:=1) (body:=Xx) (cell:=false) F Zhn ?_ ?_ ?_ ?_;wtm_at "000m";refine Zhs ?_ ?_ ?_;wtm_at "no5"
theorem ZjO {P:Program} {w:World} {K:PySem.W.Frag} {mg:Str→Option Value} {base:Heap} {k:Nat} (T0:Txt0 P w K mg) (TF:TxtF K mg) (ih:Txt1 P w K mg base k):FOk P w K mg base fns gv (k + 1) "_law_good" 28:=by
 obtain ⟨f,fd,F,m,b⟩:=TF.f_Lgood;wtm_at "l";refine ZJ (fi:=28) (np:=1) (n:=4) (body:=ZaO) (cell:=false) F ZcP ?_ ?_ ?_ ?_;wtm_at "000m";refine Zjp ?_ ?_ ?_;wtm_at "no5"
theorem ZjP {P:Program} {w:World} {K:PySem.W.Frag} {mg:Str→Option Value} {base:Heap} {k:Nat} (T0:Txt0 P w K mg) (TF:TxtF K mg) (ih:Txt1 P w K mg base k):FOk P w K mg base fns gv (k + 1) "_law_deep" 29:=by
 obtain ⟨f,fd,F,m,b⟩:=TF.f_Ldeep;wtm_at "l";refine ZJ (fi:=29) (np:=1) (n:=1) (body:=JB) (cell:=false) F Zi6 ?_ ?_ ?_ ?_;wtm_at "000m";refine Zjq ?_ ?_ ?_;wtm_at "no5"
theorem Zgo {P:Program} {w:World} {K:PySem.W.Frag} {mg:Str→Option Value} {base:Heap} {k:Nat} (T0:Txt0 P w K mg) (TF:TxtF K mg) (ih:Txt1 P w K mg base k):FOk P w K mg base fns gv (k + 1) "_law_around" 30:=by
 obtain ⟨f,fd,F,m,b⟩:=TF.f_Laround;wtm_at "l";refine ZJ (fi:=30) (np:=4) (n:=6) (body:=JT) (cell:=false) F Zcj ?_ ?_ ?_ ?_;wtm_at "000m";refine Zf8 ?_ ?_ ?_;wtm_at "no5"
theorem ZhQ {P:Program} {w:World} {K:PySem.W.Frag} {mg:Str→Option Value} {base:Heap} {k:Nat} (T0:Txt0 P w K mg) (TF:TxtF K mg) (ih:Txt1 P w K mg base k):FOk P w K mg base fns gv (k + 1) "_law_loose" 31:=by
 obtain ⟨f,fd,F,m,b⟩:=TF.f_Lloose;wtm_at "l";refine ZJ (fi:=31) (np:=3) (n:=4) (body:=Q9) (cell:=false) F Zdt ?_ ?_ ?_ ?_;wtm_at "000m";refine Zht ?_ ?_ ?_;wtm_at "no5"
theorem ok_law {P:Program} {w:World} {K:PySem.W.Frag} {mg:Str→Option Value} {base:Heap} {k:Nat} (T0:Txt0 P w K mg) (TF:TxtF K mg) (ih:Txt1 P w K mg base k):FOk P w K mg base fns gv (k + 1) "law" 32:=by
 obtain ⟨f,fd,F,m,b⟩:=TF.f_law;wtm_at "l";refine ZJ (fi:=32) (np:=1) (n:=10) (body:=Zcc) (cell:=false) F Zfh ?_ ?_ ?_ ?_;wtm_at "000m";refine Zkr ?_ ?_ ?_;wtm_at "no5"
theorem ZkO {P:Program} {w:World} {K:PySem.W.Frag} {mg:Str→Option Value} {base:Heap} (T0:Txt0 P w K mg) (TF:TxtF K mg):∀ k:Nat,Txt1 P w K mg base k
  | 0=>⟨(let ⟨_,_,F,m,b⟩:=TF.f_is_long_word; ⟨_,_,_,m,F.kp,b,Zu⟩),(let ⟨_,_,F,m,b⟩:=TF.f_is_word; ⟨_,_,_,m,F.kp,b,Zu⟩),(let ⟨_,_,F,m,b⟩:=TF.f_is_whole; ⟨_,_,_,m,F.kp,b,Zu⟩),(let ⟨_,_,F,m,b⟩:=TF.f_is_number; ⟨_,_,_,m,F.kp,b,Zu⟩),(let ⟨_,_,F,m,b⟩:=TF.f_is_one_of; ⟨_,_,_,m,F.kp,b,Zu⟩),(let ⟨_,_,F,m,b⟩:=TF.f_is_plain_wish; ⟨_,_,_,m,F.kp,b,Zu⟩),(let ⟨_,_,F,m,b⟩:=TF.f_are_joined; ⟨_,_,_,m,F.kp,b,Zu⟩),(let ⟨_,_,F,m,b⟩:=TF.f_things_in; ⟨_,_,_,m,F.kp,b,Zu⟩),(let ⟨_,_,F,m,b⟩:=TF.f_has_form; ⟨_,_,_,m,F.kp,b,Zu⟩),(let ⟨_,_,F,m,b⟩:=TF.f_is_wish; ⟨_,_,_,m,F.kp,b,Zu⟩),(let ⟨_,_,F,m,b⟩:=TF.f_wish_text; ⟨_,_,_,m,F.kp,b,Zu⟩),(let ⟨_,_,F,m,b⟩:=TF.f_text_within; ⟨_,_,_,m,F.kp,b,Zu⟩),(let ⟨_,_,F,m,b⟩:=TF.f_is_number_text; ⟨_,_,_,m,F.kp,b,Zu⟩),(let ⟨_,_,F,m,b⟩:=TF.f_word_at; ⟨_,_,_,m,F.kp,b,Zu⟩),(let ⟨_,_,F,m,b⟩:=TF.f_name_at; ⟨_,_,_,m,F.kp,b,Zu⟩),(let ⟨_,_,F,m,b⟩:=TF.f_number_at; ⟨_,_,_,m,F.kp,b,Zu⟩),(let ⟨_,_,F,m,b⟩:=TF.f_read_plain; ⟨_,_,_,m,F.kp,b,Zu⟩),(let ⟨_,_,F,m,b⟩:=TF.f_read_one; ⟨_,_,_,m,F.kp,b,Zu⟩),(let ⟨_,_,F,m,b⟩:=TF.f_read_joined; ⟨_,_,_,m,F.kp,b,Zu⟩),(let ⟨_,_,F,m,b⟩:=TF.f_read_wish; ⟨_,_,_,m,F.kp,b,Zu⟩),(let ⟨_,_,F,m,b⟩:=TF.f_Lcell; ⟨_,_,_,m,F.kp,b,Zu⟩),(let ⟨_,_,F,m,b⟩:=TF.f_Lstore; ⟨_,_,_,m,F.kp,b,Zu⟩),(let ⟨_,_,F,m,b⟩:=TF.f_Lpick; ⟨_,_,_,m,F.kp,b,Zu⟩),(let ⟨_,_,F,m,b⟩:=TF.f_Lword; ⟨_,_,_,m,F.kp,b,Zu⟩),(let ⟨_,_,F,m,b⟩:=TF.f_Lnumber; ⟨_,_,_,m,F.kp,b,Zu⟩),(let ⟨_,_,F,m,b⟩:=TF.f_Lleaf; ⟨_,_,_,m,F.kp,b,Zu⟩),(let ⟨_,_,F,m,b⟩:=TF.f_Lwish; ⟨_,_,_,m,F.kp,b,Zu⟩),(let ⟨_,_,F,m,b⟩:=TF.f_Lparts; ⟨_,_,_,m,F.kp,b,Zu⟩),(let ⟨_,_,F,m,b⟩:=TF.f_Lgood; ⟨_,_,_,m,F.kp,b,Zu⟩),(let ⟨_,_,F,m,b⟩:=TF.f_Ldeep; ⟨_,_,_,m,F.kp,b,Zu⟩),(let ⟨_,_,F,m,b⟩:=TF.f_Laround; ⟨_,_,_,m,F.kp,b,Zu⟩),(let ⟨_,_,F,m,b⟩:=TF.f_Lloose; ⟨_,_,_,m,F.kp,b,Zu⟩),(let ⟨_,_,F,m,b⟩:=TF.f_law; ⟨_,_,_,m,F.kp,b,Zu⟩)⟩
  | k + 1 =>
    have ih:=ZkO T0 TF k
    ⟨Zbw T0 TF ih,Zgl T0 TF ih,ZeI T0 TF ih,ZdO T0 TF ih,ZdN T0 TF ih,Za3 T0 TF ih,ZcX T0 TF ih,ZdK T0 TF ih,ZeJ T0 TF ih,Zgm T0 TF ih,ZdJ T0 TF ih,Zb7 T0 TF ih,ZaE T0 TF ih,Zgj T0 TF ih,Zgk T0 TF ih,ZdM T0 TF ih,ZcW T0 TF ih,ZeH T0 TF ih,Zb8 T0 TF ih,ZdL T0 TF ih,ZjQ T0 TF ih,ZhO T0 TF ih,ZjM T0 TF ih,ZjK T0 TF ih,Zgn T0 TF ih,ZjN T0 TF ih,ZjL T0 TF ih,ZhP T0 TF ih,ZjO T0 TF ih,ZjP T0 TF ih,Zgo T0 TF ih,ZhQ T0 TF ih,ok_law T0 TF ih⟩
end My
end
section
set_option maxHeartbeats 1000000
namespace My
open PySem PySem.Spec PyProof.Rows L2 Mi
theorem us_1 {α:Type} {P:List α→Prop} {us:List α} (hl:us.length=1) (h:∀ x0:α,P [x0]):P us:=by
  rcases us with _ | ⟨x0,us⟩
  · simp at hl
  rcases us with _ | ⟨y,us⟩
  · exact h x0
  · simp at hl
theorem us_2 {α:Type} {P:List α→Prop} {us:List α} (hl:us.length=2) (h:∀ x0 x1:α,P [x0,x1]):P us:=by
  rcases us with _ | ⟨x0,us⟩
  · simp at hl
  rcases us with _ | ⟨x1,us⟩
  · simp at hl
  rcases us with _ | ⟨y,us⟩
  · exact h x0 x1
  · simp at hl
theorem us_3 {α:Type} {P:List α→Prop} {us:List α} (hl:us.length=3) (h:∀ x0 x1 x2:α,P [x0,x1,x2]):P us:=by
  rcases us with _ | ⟨x0,us⟩
  · simp at hl
  rcases us with _ | ⟨x1,us⟩
  · simp at hl
  rcases us with _ | ⟨x2,us⟩
  · simp at hl
  rcases us with _ | ⟨y,us⟩
  · exact h x0 x1 x2
  · simp at hl
theorem us_4 {α:Type} {P:List α→Prop} {us:List α} (hl:us.length=4) (h:∀ x0 x1 x2 x3:α,P [x0,x1,x2,x3]):P us:=by
  rcases us with _ | ⟨x0,us⟩
  · simp at hl
  rcases us with _ | ⟨x1,us⟩
  · simp at hl
  rcases us with _ | ⟨x2,us⟩
  · simp at hl
  rcases us with _ | ⟨x3,us⟩
  · simp at hl
  rcases us with _ | ⟨y,us⟩
  · exact h x0 x1 x2 x3
  · simp at hl
theorem all_mk {l:PySem.W.OpenLaw} {w:World} {K:PySem.W.Frag} {h:Heap} {mg:Str→Option Value} {fa f0 f1 f2 f3 f4 f5 f6 f7 f8 f9 f10 f11 f12 f13 f14 f15 f16 f17 f18 f19 f20 f21 f22 f23 f24 f25 f26 f27 f28 f29 f30 f31 f32:Addr} (X:K.In h) (G:h.Ns mainGlobals mg) (hfa:mg "law" = some (.ref fa))
    {od0 an0 od1 an1 od2 an2 od3 an3 od4 an4 od5 an5 od6 an6 od7 an7 od8 an8 od9 an9 od10 an10 od11 an11 od12 an12 od13 an13 od14 an14 od15 an15 od16 an16 od17 an17 od18 an18 od19 an19 od20 an20 od21 an21 od22 an22 od23 an23 od24 an24 od25 an25 od26 an26 od27 an27 od28 an28 od29 an29 od30 an30 od31 an31 od32 an32:Option Addr} {sl0 sl1 sl2 sl3 sl4 sl5 sl6 sl7 sl8 sl9 sl10 sl11 sl12 sl13 sl14 sl15 sl16 sl17 sl18 sl19 sl20 sl21 sl22 sl23 sl24 sl25 sl26 sl27 sl28 sl29 sl30 sl31 sl32:Array (Option Value)} {oc0 kV0 dc0 pm0 cd0 ct0 oc1 kV1 dc1 pm1 cd1 ct1 oc2 kV2 dc2 pm2 cd2 ct2 oc3 kV3 dc3 pm3 cd3 ct3 oc4 kV4 dc4 pm4 cd4 ct4 oc5 kV5 dc5 pm5 cd5 ct5 oc6 kV6 dc6 pm6 cd6 ct6 oc7 kV7 dc7 pm7 cd7 ct7 oc8 kV8 dc8 pm8 cd8 ct8 oc9 kV9 dc9 pm9 cd9 ct9 oc10 kV10 dc10 pm10 cd10 ct10 oc11 kV11 dc11 pm11 cd11 ct11 oc12 kV12 dc12 pm12 cd12 ct12 oc13 kV13 dc13 pm13 cd13 ct13 oc14 kV14 dc14 pm14 cd14 ct14 oc15 kV15 dc15 pm15 cd15 ct15 oc16 kV16 dc16 pm16 cd16 ct16 oc17 kV17 dc17 pm17 cd17 ct17 oc18 kV18 dc18 pm18 cd18 ct18 oc19 kV19 dc19 pm19 cd19 ct19 oc20 kV20 dc20 pm20 cd20 ct20 oc21 kV21 dc21 pm21 cd21 ct21 oc22 kV22 dc22 pm22 cd22 ct22 oc23 kV23 dc23 pm23 cd23 ct23 oc24 kV24 dc24 pm24 cd24 ct24 oc25 kV25 dc25 pm25 cd25 ct25 oc26 kV26 dc26 pm26 cd26 ct26 oc27 kV27 dc27 pm27 cd27 ct27 oc28 kV28 dc28 pm28 cd28 ct28 oc29 kV29 dc29 pm29 cd29 ct29 oc30 kV30 dc30 pm30 cd30 ct30 oc31 kV31 dc31 pm31 cd31 ct31 oc32 kV32 dc32 pm32 cd32 ct32:Value}
    (a0:PySem.W.nsIn K mainGlobals "is_long_word" = some (some (.ref f0))) (l0:K.lookup f0=some ⟨oc0,od0,.func (PySem.W.fnOf "is_long_word" "is_long_word" (Zo ZD) (Zf ZD) (Za ZD) .none kV0 dc0 pm0 an0 cd0 ct0),sl0⟩) (c0:PySem.W.codeIn K cd0 "is_long_word" = true) (k0:PySem.W.keepIn K (.ref f0)=true)
    (a1:PySem.W.nsIn K mainGlobals "is_word" = some (some (.ref f1))) (l1:K.lookup f1=some ⟨oc1,od1,.func (PySem.W.fnOf "is_word" "is_word" (Zo QM) (Zf QM) (Za QM) .none kV1 dc1 pm1 an1 cd1 ct1),sl1⟩) (c1:PySem.W.codeIn K cd1 "is_word" = true) (k1:PySem.W.keepIn K (.ref f1)=true)
    (a2:PySem.W.nsIn K mainGlobals "is_whole" = some (some (.ref f2))) (l2:K.lookup f2=some ⟨oc2,od2,.func (PySem.W.fnOf "is_whole" "is_whole" (Zo Qq) (Zf Qq) (Za Qq) .none kV2 dc2 pm2 an2 cd2 ct2),sl2⟩) (c2:PySem.W.codeIn K cd2 "is_whole" = true) (k2:PySem.W.keepIn K (.ref f2)=true)
    (a3:PySem.W.nsIn K mainGlobals "is_number" = some (some (.ref f3))) (l3:K.lookup f3=some ⟨oc3,od3,.func (PySem.W.fnOf "is_number" "is_number" (Zo Qe) (Zf Qe) (Za Qe) .none kV3 dc3 pm3 an3 cd3 ct3),sl3⟩) (c3:PySem.W.codeIn K cd3 "is_number" = true) (k3:PySem.W.keepIn K (.ref f3)=true)
    (a4:PySem.W.nsIn K mainGlobals "is_one_of" = some (some (.ref f4))) (l4:K.lookup f4=some ⟨oc4,od4,.func (PySem.W.fnOf "is_one_of" "is_one_of" (Zo Qd) (Zf Qd) (Za Qd) .none kV4 dc4 pm4 an4 cd4 ct4),sl4⟩) (c4:PySem.W.codeIn K cd4 "is_one_of" = true) (k4:PySem.W.keepIn K (.ref f4)=true)
    (a5:PySem.W.nsIn K mainGlobals "is_plain_wish" = some (some (.ref f5))) (l5:K.lookup f5=some ⟨oc5,od5,.func (PySem.W.fnOf "is_plain_wish" "is_plain_wish" (Zo Zx) (Zf Zx) (Za Zx) .none kV5 dc5 pm5 an5 cd5 ct5),sl5⟩) (c5:PySem.W.codeIn K cd5 "is_plain_wish" = true) (k5:PySem.W.keepIn K (.ref f5)=true)
    (a6:PySem.W.nsIn K mainGlobals "are_joined" = some (some (.ref f6))) (l6:K.lookup f6=some ⟨oc6,od6,.func (PySem.W.fnOf "are_joined" "are_joined" (Zo Z1) (Zf Z1) (Za Z1) .none kV6 dc6 pm6 an6 cd6 ct6),sl6⟩) (c6:PySem.W.codeIn K cd6 "are_joined" = true) (k6:PySem.W.keepIn K (.ref f6)=true)
    (a7:PySem.W.nsIn K mainGlobals "things_in" = some (some (.ref f7))) (l7:K.lookup f7=some ⟨oc7,od7,.func (PySem.W.fnOf "things_in" "things_in" (Zo Z9) (Zf Z9) (Za Z9) .none kV7 dc7 pm7 an7 cd7 ct7),sl7⟩) (c7:PySem.W.codeIn K cd7 "things_in" = true) (k7:PySem.W.keepIn K (.ref f7)=true)
    (a8:PySem.W.nsIn K mainGlobals "has_form" = some (some (.ref f8))) (l8:K.lookup f8=some ⟨oc8,od8,.func (PySem.W.fnOf "has_form" "has_form" (Zo Qs) (Zf Qs) (Za Qs) .none kV8 dc8 pm8 an8 cd8 ct8),sl8⟩) (c8:PySem.W.codeIn K cd8 "has_form" = true) (k8:PySem.W.keepIn K (.ref f8)=true)
    (a9:PySem.W.nsIn K mainGlobals "is_wish" = some (some (.ref f9))) (l9:K.lookup f9=some ⟨oc9,od9,.func (PySem.W.fnOf "is_wish" "is_wish" (Zo QQ) (Zf QQ) (Za QQ) .none kV9 dc9 pm9 an9 cd9 ct9),sl9⟩) (c9:PySem.W.codeIn K cd9 "is_wish" = true) (k9:PySem.W.keepIn K (.ref f9)=true)
    (a10:PySem.W.nsIn K mainGlobals "wish_text" = some (some (.ref f10))) (l10:K.lookup f10=some ⟨oc10,od10,.func (PySem.W.fnOf "wish_text" "wish_text" (Zo Z8) (Zf Z8) (Za Z8) .none kV10 dc10 pm10 an10 cd10 ct10),sl10⟩) (c10:PySem.W.codeIn K cd10 "wish_text" = true) (k10:PySem.W.keepIn K (.ref f10)=true)
    (a11:PySem.W.nsIn K mainGlobals "text_within" = some (some (.ref f11))) (l11:K.lookup f11=some ⟨oc11,od11,.func (PySem.W.fnOf "text_within" "text_within" (Zo ZP) (Zf ZP) (Za ZP) .none kV11 dc11 pm11 an11 cd11 ct11),sl11⟩) (c11:PySem.W.codeIn K cd11 "text_within" = true) (k11:PySem.W.keepIn K (.ref f11)=true)
    (a12:PySem.W.nsIn K mainGlobals "is_number_text" = some (some (.ref f12))) (l12:K.lookup f12=some ⟨oc12,od12,.func (PySem.W.fnOf "is_number_text" "is_number_text" (Zo Zv) (Zf Zv) (Za Zv) .none kV12 dc12 pm12 an12 cd12 ct12),sl12⟩) (c12:PySem.W.codeIn K cd12 "is_number_text" = true) (k12:PySem.W.keepIn K (.ref f12)=true)
    (a13:PySem.W.nsIn K mainGlobals "word_at" = some (some (.ref f13))) (l13:K.lookup f13=some ⟨oc13,od13,.func (PySem.W.fnOf "word_at" "word_at" (Zo QK) (Zf QK) (Za QK) .none kV13 dc13 pm13 an13 cd13 ct13),sl13⟩) (c13:PySem.W.codeIn K cd13 "word_at" = true) (k13:PySem.W.keepIn K (.ref f13)=true)
    (a14:PySem.W.nsIn K mainGlobals "name_at" = some (some (.ref f14))) (l14:K.lookup f14=some ⟨oc14,od14,.func (PySem.W.fnOf "name_at" "name_at" (Zo QL) (Zf QL) (Za QL) .none kV14 dc14 pm14 an14 cd14 ct14),sl14⟩) (c14:PySem.W.codeIn K cd14 "name_at" = true) (k14:PySem.W.keepIn K (.ref f14)=true)
    (a15:PySem.W.nsIn K mainGlobals "number_at" = some (some (.ref f15))) (l15:K.lookup f15=some ⟨oc15,od15,.func (PySem.W.fnOf "number_at" "number_at" (Zo Qc) (Zf Qc) (Za Qc) .none kV15 dc15 pm15 an15 cd15 ct15),sl15⟩) (c15:PySem.W.codeIn K cd15 "number_at" = true) (k15:PySem.W.keepIn K (.ref f15)=true)
    (a16:PySem.W.nsIn K mainGlobals "read_plain" = some (some (.ref f16))) (l16:K.lookup f16=some ⟨oc16,od16,.func (PySem.W.fnOf "read_plain" "read_plain" (Zo Z0) (Zf Z0) (Za Z0) .none kV16 dc16 pm16 an16 cd16 ct16),sl16⟩) (c16:PySem.W.codeIn K cd16 "read_plain" = true) (k16:PySem.W.keepIn K (.ref f16)=true)
    (a17:PySem.W.nsIn K mainGlobals "read_one" = some (some (.ref f17))) (l17:K.lookup f17=some ⟨oc17,od17,.func (PySem.W.fnOf "read_one" "read_one" (Zo Qp) (Zf Qp) (Za Qp) .none kV17 dc17 pm17 an17 cd17 ct17),sl17⟩) (c17:PySem.W.codeIn K cd17 "read_one" = true) (k17:PySem.W.keepIn K (.ref f17)=true)
    (a18:PySem.W.nsIn K mainGlobals "read_joined" = some (some (.ref f18))) (l18:K.lookup f18=some ⟨oc18,od18,.func (PySem.W.fnOf "read_joined" "read_joined" (Zo ZQ) (Zf ZQ) (Za ZQ) .none kV18 dc18 pm18 an18 cd18 ct18),sl18⟩) (c18:PySem.W.codeIn K cd18 "read_joined" = true) (k18:PySem.W.keepIn K (.ref f18)=true)
    (a19:PySem.W.nsIn K mainGlobals "read_wish" = some (some (.ref f19))) (l19:K.lookup f19=some ⟨oc19,od19,.func (PySem.W.fnOf "read_wish" "read_wish" (Zo Qa) (Zf Qa) (Za Qa) .none kV19 dc19 pm19 an19 cd19 ct19),sl19⟩) (c19:PySem.W.codeIn K cd19 "read_wish" = true) (k19:PySem.W.keepIn K (.ref f19)=true)
    (a20:PySem.W.nsIn K mainGlobals "_law_cell" = some (some (.ref f20))) (l20:K.lookup f20=some ⟨oc20,od20,.func (PySem.W.fnOf "_law_cell" "_law_cell" (Zo J5) (Zf J5) (Za J5) .none kV20 dc20 pm20 an20 cd20 ct20),sl20⟩) (c20:PySem.W.codeIn K cd20 "_law_cell" = true) (k20:PySem.W.keepIn K (.ref f20)=true)
    (a21:PySem.W.nsIn K mainGlobals "_law_store" = some (some (.ref f21))) (l21:K.lookup f21=some ⟨oc21,od21,.func (PySem.W.fnOf "_law_store" "_law_store" (Zo Jk) (Zf Jk) (Za Jk) .none kV21 dc21 pm21 an21 cd21 ct21),sl21⟩) (c21:PySem.W.codeIn K cd21 "_law_store" = true) (k21:PySem.W.keepIn K (.ref f21)=true)
    (a22:PySem.W.nsIn K mainGlobals "_law_pick" = some (some (.ref f22))) (l22:K.lookup f22=some ⟨oc22,od22,.func (PySem.W.fnOf "_law_pick" "_law_pick" (Zo JX) (Zf JX) (Za JX) .none kV22 dc22 pm22 an22 cd22 ct22),sl22⟩) (c22:PySem.W.codeIn K cd22 "_law_pick" = true) (k22:PySem.W.keepIn K (.ref f22)=true)
    (a23:PySem.W.nsIn K mainGlobals "_law_word" = some (some (.ref f23))) (l23:K.lookup f23=some ⟨oc23,od23,.func (PySem.W.fnOf "_law_word" "_law_word" (Zo JV) (Zf JV) (Za JV) .none kV23 dc23 pm23 an23 cd23 ct23),sl23⟩) (c23:PySem.W.codeIn K cd23 "_law_word" = true) (k23:PySem.W.keepIn K (.ref f23)=true)
    (a24:PySem.W.nsIn K mainGlobals "_law_number" = some (some (.ref f24))) (l24:K.lookup f24=some ⟨oc24,od24,.func (PySem.W.fnOf "_law_number" "_law_number" (Zo QR) (Zf QR) (Za QR) .none kV24 dc24 pm24 an24 cd24 ct24),sl24⟩) (c24:PySem.W.codeIn K cd24 "_law_number" = true) (k24:PySem.W.keepIn K (.ref f24)=true)
    (a25:PySem.W.nsIn K mainGlobals "_law_leaf" = some (some (.ref f25))) (l25:K.lookup f25=some ⟨oc25,od25,.func (PySem.W.fnOf "_law_leaf" "_law_leaf" (Zo JZ) (Zf JZ) (Za JZ) .none kV25 dc25 pm25 an25 cd25 ct25),sl25⟩) (c25:PySem.W.codeIn K cd25 "_law_leaf" = true) (k25:PySem.W.keepIn K (.ref f25)=true)
    (a26:PySem.W.nsIn K mainGlobals "_law_wish" = some (some (.ref f26))) (l26:K.lookup f26=some ⟨oc26,od26,.func (PySem.W.fnOf "_law_wish" "_law_wish" (Zo JW) (Zf JW) (Za JW) .none kV26 dc26 pm26 an26 cd26 ct26),sl26⟩) (c26:PySem.W.codeIn K cd26 "_law_wish" = true) (k26:PySem.W.keepIn K (.ref f26)=true)
    (a27:PySem.W.nsIn K mainGlobals "_law_parts" = some (some (.ref f27))) (l27:K.lookup f27=some ⟨oc27,od27,.func (PySem.W.fnOf "_law_parts" "_law_parts" (Zo Jl) (Zf Jl) (Za Jl) .none kV27 dc27 pm27 an27 cd27 ct27),sl27⟩) (c27:PySem.W.codeIn K cd27 "_law_parts" = true) (k27:PySem.W.keepIn K (.ref f27)=true)
    (a28:PySem.W.nsIn K mainGlobals "_law_good" = some (some (.ref f28))) (l28:K.lookup f28=some ⟨oc28,od28,.func (PySem.W.fnOf "_law_good" "_law_good" (Zo J1) (Zf J1) (Za J1) .none kV28 dc28 pm28 an28 cd28 ct28),sl28⟩) (c28:PySem.W.codeIn K cd28 "_law_good" = true) (k28:PySem.W.keepIn K (.ref f28)=true)
    (a29:PySem.W.nsIn K mainGlobals "_law_deep" = some (some (.ref f29))) (l29:K.lookup f29=some ⟨oc29,od29,.func (PySem.W.fnOf "_law_deep" "_law_deep" (Zo J4) (Zf J4) (Za J4) .none kV29 dc29 pm29 an29 cd29 ct29),sl29⟩) (c29:PySem.W.codeIn K cd29 "_law_deep" = true) (k29:PySem.W.keepIn K (.ref f29)=true)
    (a30:PySem.W.nsIn K mainGlobals "_law_around" = some (some (.ref f30))) (l30:K.lookup f30=some ⟨oc30,od30,.func (PySem.W.fnOf "_law_around" "_law_around" (Zo QS) (Zf QS) (Za QS) .none kV30 dc30 pm30 an30 cd30 ct30),sl30⟩) (c30:PySem.W.codeIn K cd30 "_law_around" = true) (k30:PySem.W.keepIn K (.ref f30)=true)
    (a31:PySem.W.nsIn K mainGlobals "_law_loose" = some (some (.ref f31))) (l31:K.lookup f31=some ⟨oc31,od31,.func (PySem.W.fnOf "_law_loose" "_law_loose" (Zo Jm) (Zf Jm) (Za Jm) .none kV31 dc31 pm31 an31 cd31 ct31),sl31⟩) (c31:PySem.W.codeIn K cd31 "_law_loose" = true) (k31:PySem.W.keepIn K (.ref f31)=true)
    (a32:PySem.W.nsIn K mainGlobals "law" = some (some (.ref f32))) (l32:K.lookup f32=some ⟨oc32,od32,.func (PySem.W.fnOf "law" "law" (Zo Za1) (Zf Za1) (Za Za1) .none kV32 dc32 pm32 an32 cd32 ct32),sl32⟩) (c32:PySem.W.codeIn K cd32 "law" = true) (k32:PySem.W.keepIn K (.ref f32)=true)
    {t0:Tok} (gv0:PySem.W.nsIn K mainGlobals "LETTERS" = some (some (.str "abcdefghijklmnopqrstuvwxyz" t0)))
    {t1:Tok} (gv1:PySem.W.nsIn K mainGlobals "LONGEST_WORD" = some (some (.int 8 t1)))
    {ga2:Addr} {its2:Array Value} {gn2:Nat} {gsl2:Array (Option Value)} (gv2:PySem.W.nsIn K mainGlobals "WISH_WORDS" = some (some (.ref ga2))) (gl2:K.lookup ga2=some ⟨.type "tuple",none,.seq its2 gn2,gsl2⟩) (gz2:its2.size≤sizeLine) (gs2:StrsV [[97,110,121],[105,115],[98,121],[110,111,116],[97,110,100],[111,114]] its2.toList)
    {t3:Tok} (gv3:PySem.W.nsIn K mainGlobals "GREATEST_NUMBER" = some (some (.int 1000000000 t3)))
    {t4:Tok} (gv4:PySem.W.nsIn K mainGlobals "DEEPEST" = some (some (.int 6 t4)))
    {t5:Tok} (gv5:PySem.W.nsIn K mainGlobals "MOST_PARTS" = some (some (.int 40 t5)))
    {t6:Tok} (gv6:PySem.W.nsIn K mainGlobals "FEWEST_JOINED" = some (some (.int 2 t6)))
    {t7:Tok} (gv7:PySem.W.nsIn K mainGlobals "MOST_JOINED" = some (some (.int 6 t7)))
    {t8:Tok} (gv8:PySem.W.nsIn K mainGlobals "FIGURES" = some (some (.str "0123456789" t8)))
    {t9:Tok} (gv9:PySem.W.nsIn K mainGlobals "MOST_FIGURES" = some (some (.int 10 t9)))
    {t10:Tok} (gv10:PySem.W.nsIn K mainGlobals "MOST_WITHIN" = some (some (.int 12 t10)))
    {ga11:Addr} {des11:Array DictEntry} {gn11:Nat} {dus11:List Value} (gv11:PySem.W.nsIn K mainGlobals "SIGNS" = some (some (.ref ga11))) (gl11:K.lookup ga11=some ⟨.type "dict",none,.dict des11 gn11,#[]⟩) (gz11:(ga11 == sysModules)=false) (ge11:Ents w [[62,61],[60,61]] dus11 des11.toList) (gx11:VTs K dus11 [(.str [108,101,97,115,116]),(.str [109,111,115,116])])
    {ga12:Addr} {its12:Array Value} {gn12:Nat} {gsl12:Array (Option Value)} (gv12:PySem.W.nsIn K mainGlobals "JOINS" = some (some (.ref ga12))) (gl12:K.lookup ga12=some ⟨.type "tuple",none,.seq its12 gn12,gsl12⟩) (gz12:its12.size≤sizeLine) (gs12:StrsV [[111,114],[97,110,100]] its12.toList)
    {ga13:Addr} {des13:Array DictEntry} {gn13:Nat} {dus13:List Value} (gv13:PySem.W.nsIn K mainGlobals "BRACKETED" = some (some (.ref ga13))) (gl13:K.lookup ga13=some ⟨.type "dict",none,.dict des13 gn13,#[]⟩) (gz13:(ga13 == sysModules)=false) (ge13:Ents w [[110,111,116],[97,110,100],[111,114]] dus13 des13.toList) (gx13:VTs K dus13 [(.tup [(.str [97,110,100]),(.str [111,114])]),(.tup [(.str [97,110,100]),(.str [111,114])]),(.tup [(.str [111,114])])])
    (z0:PySem.W.nsIn K mainGlobals "all" = some none)
    (z1:PySem.W.nsIn K mainGlobals "bool" = some none)
    (z2:PySem.W.nsIn K mainGlobals "int" = some none)
    (z3:PySem.W.nsIn K mainGlobals "isinstance" = some none)
    (z4:PySem.W.nsIn K mainGlobals "len" = some none)
    (z5:PySem.W.nsIn K mainGlobals "max" = some none)
    (z6:PySem.W.nsIn K mainGlobals "min" = some none)
    (z7:PySem.W.nsIn K mainGlobals "range" = some none)
    (z8:PySem.W.nsIn K mainGlobals "str" = some none)
    (z9:PySem.W.nsIn K mainGlobals "sum" = some none)
    (z10:PySem.W.nsIn K mainGlobals "tuple" = some none)
    : ∃ fd:FuncData,(∀ (s:Shared) (v:Value),BindsTo s fd ⟨[v],[]⟩ [("_law_script",v)])∧∀ base:Heap,K.In base→base.Ns mainGlobals mg→FnOk l.prog w K mg base CX0 81 fa fd ["_law_script"] (spF K fns gv 81 32):=by
  have e:=hfa.symm.trans (PySem.W.mg_of X G a32)
  cases e
  have F0:=ZL (st:=ZD) l0 c0 k0
  have b0:=F0.binds (ps:=["text"]) fun _ _ _ _ _ _ us hl=>us_1 (us:=us) (P:=fun us=>bindArgs _ ⟨us,[]⟩=pure (List.zip _ us)) hl fun _=>rfl
  have F1:=ZL (st:=QM) l1 c1 k1
  have b1:=F1.binds (ps:=["thing"]) fun _ _ _ _ _ _ us hl=>us_1 (us:=us) (P:=fun us=>bindArgs _ ⟨us,[]⟩=pure (List.zip _ us)) hl fun _=>rfl
  have F2:=ZL (st:=Qq) l2 c2 k2
  have b2:=F2.binds (ps:=["thing"]) fun _ _ _ _ _ _ us hl=>us_1 (us:=us) (P:=fun us=>bindArgs _ ⟨us,[]⟩=pure (List.zip _ us)) hl fun _=>rfl
  have F3:=ZL (st:=Qe) l3 c3 k3
  have b3:=F3.binds (ps:=["thing"]) fun _ _ _ _ _ _ us hl=>us_1 (us:=us) (P:=fun us=>bindArgs _ ⟨us,[]⟩=pure (List.zip _ us)) hl fun _=>rfl
  have F4:=ZL (st:=Qd) l4 c4 k4
  have b4:=F4.binds (ps:=["thing","texts"]) fun _ _ _ _ _ _ us hl=>us_2 (us:=us) (P:=fun us=>bindArgs _ ⟨us,[]⟩=pure (List.zip _ us)) hl fun _ _=>rfl
  have F5:=ZL (st:=Zx) l5 c5 k5
  have b5:=F5.binds (ps:=["thing"]) fun _ _ _ _ _ _ us hl=>us_1 (us:=us) (P:=fun us=>bindArgs _ ⟨us,[]⟩=pure (List.zip _ us)) hl fun _=>rfl
  have F6:=ZL (st:=Z1) l6 c6 k6
  have b6:=F6.binds (ps:=["thing"]) fun _ _ _ _ _ _ us hl=>us_1 (us:=us) (P:=fun us=>bindArgs _ ⟨us,[]⟩=pure (List.zip _ us)) hl fun _=>rfl
  have F7:=ZL (st:=Z9) l7 c7 k7
  have b7:=F7.binds (ps:=["thing"]) fun _ _ _ _ _ _ us hl=>us_1 (us:=us) (P:=fun us=>bindArgs _ ⟨us,[]⟩=pure (List.zip _ us)) hl fun _=>rfl
  have F8:=ZL (st:=Qs) l8 c8 k8
  have b8:=F8.binds (ps:=["thing"]) fun _ _ _ _ _ _ us hl=>us_1 (us:=us) (P:=fun us=>bindArgs _ ⟨us,[]⟩=pure (List.zip _ us)) hl fun _=>rfl
  have F9:=ZL (st:=QQ) l9 c9 k9
  have b9:=F9.binds (ps:=["thing"]) fun _ _ _ _ _ _ us hl=>us_1 (us:=us) (P:=fun us=>bindArgs _ ⟨us,[]⟩=pure (List.zip _ us)) hl fun _=>rfl
  have F10:=ZL (st:=Z8) l10 c10 k10
  have b10:=F10.binds (ps:=["wish"]) fun _ _ _ _ _ _ us hl=>us_1 (us:=us) (P:=fun us=>bindArgs _ ⟨us,[]⟩=pure (List.zip _ us)) hl fun _=>rfl
  have F11:=ZL (st:=ZP) l11 c11 k11
  have b11:=F11.binds (ps:=["word","wish"]) fun _ _ _ _ _ _ us hl=>us_2 (us:=us) (P:=fun us=>bindArgs _ ⟨us,[]⟩=pure (List.zip _ us)) hl fun _ _=>rfl
  have F12:=ZL (st:=Zv) l12 c12 k12
  have b12:=F12.binds (ps:=["word"]) fun _ _ _ _ _ _ us hl=>us_1 (us:=us) (P:=fun us=>bindArgs _ ⟨us,[]⟩=pure (List.zip _ us)) hl fun _=>rfl
  have F13:=ZL (st:=QK) l13 c13 k13
  have b13:=F13.binds (ps:=["words","at"]) fun _ _ _ _ _ _ us hl=>us_2 (us:=us) (P:=fun us=>bindArgs _ ⟨us,[]⟩=pure (List.zip _ us)) hl fun _ _=>rfl
  have F14:=ZL (st:=QL) l14 c14 k14
  have b14:=F14.binds (ps:=["words","at"]) fun _ _ _ _ _ _ us hl=>us_2 (us:=us) (P:=fun us=>bindArgs _ ⟨us,[]⟩=pure (List.zip _ us)) hl fun _ _=>rfl
  have F15:=ZL (st:=Qc) l15 c15 k15
  have b15:=F15.binds (ps:=["words","at"]) fun _ _ _ _ _ _ us hl=>us_2 (us:=us) (P:=fun us=>bindArgs _ ⟨us,[]⟩=pure (List.zip _ us)) hl fun _ _=>rfl
  have F16:=ZL (st:=Z0) l16 c16 k16
  have b16:=F16.binds (ps:=["words","at"]) fun _ _ _ _ _ _ us hl=>us_2 (us:=us) (P:=fun us=>bindArgs _ ⟨us,[]⟩=pure (List.zip _ us)) hl fun _ _=>rfl
  have F17:=ZL (st:=Qp) l17 c17 k17
  have b17:=F17.binds (ps:=["words","at","within"]) fun _ _ _ _ _ _ us hl=>us_3 (us:=us) (P:=fun us=>bindArgs _ ⟨us,[]⟩=pure (List.zip _ us)) hl fun _ _ _=>rfl
  have F18:=ZL (st:=ZQ) l18 c18 k18
  have b18:=F18.binds (ps:=["words","at","within","joins"]) fun _ _ _ _ _ _ us hl=>us_4 (us:=us) (P:=fun us=>bindArgs _ ⟨us,[]⟩=pure (List.zip _ us)) hl fun _ _ _ _=>rfl
  have F19:=ZL (st:=Qa) l19 c19 k19
  have b19:=F19.binds (ps:=["text"]) fun _ _ _ _ _ _ us hl=>us_1 (us:=us) (P:=fun us=>bindArgs _ ⟨us,[]⟩=pure (List.zip _ us)) hl fun _=>rfl
  have F20:=ZL (st:=J5) l20 c20 k20
  have b20:=F20.binds (ps:=["_law_script","_law_k"]) fun _ _ _ _ _ _ us hl=>us_2 (us:=us) (P:=fun us=>bindArgs _ ⟨us,[]⟩=pure (List.zip _ us)) hl fun _ _=>rfl
  have F21:=ZL (st:=Jk) l21 c21 k21
  have b21:=F21.binds (ps:=["_law_cell_here"]) fun _ _ _ _ _ _ us hl=>us_1 (us:=us) (P:=fun us=>bindArgs _ ⟨us,[]⟩=pure (List.zip _ us)) hl fun _=>rfl
  have F22:=ZL (st:=JX) l22 c22 k22
  have b22:=F22.binds (ps:=["_law_store_here","_law_many"]) fun _ _ _ _ _ _ us hl=>us_2 (us:=us) (P:=fun us=>bindArgs _ ⟨us,[]⟩=pure (List.zip _ us)) hl fun _ _=>rfl
  have F23:=ZL (st:=JV) l23 c23 k23
  have b23:=F23.binds (ps:=["_law_store_here"]) fun _ _ _ _ _ _ us hl=>us_1 (us:=us) (P:=fun us=>bindArgs _ ⟨us,[]⟩=pure (List.zip _ us)) hl fun _=>rfl
  have F24:=ZL (st:=QR) l24 c24 k24
  have b24:=F24.binds (ps:=["_law_store_here"]) fun _ _ _ _ _ _ us hl=>us_1 (us:=us) (P:=fun us=>bindArgs _ ⟨us,[]⟩=pure (List.zip _ us)) hl fun _=>rfl
  have F25:=ZL (st:=JZ) l25 c25 k25
  have b25:=F25.binds (ps:=["_law_store_here"]) fun _ _ _ _ _ _ us hl=>us_1 (us:=us) (P:=fun us=>bindArgs _ ⟨us,[]⟩=pure (List.zip _ us)) hl fun _=>rfl
  have F26:=ZL (st:=JW) l26 c26 k26
  have b26:=F26.binds (ps:=["_law_store_here","_law_deep_here"]) fun _ _ _ _ _ _ us hl=>us_2 (us:=us) (P:=fun us=>bindArgs _ ⟨us,[]⟩=pure (List.zip _ us)) hl fun _ _=>rfl
  have F27:=ZL (st:=Jl) l27 c27 k27
  have b27:=F27.binds (ps:=["_law_wish_here"]) fun _ _ _ _ _ _ us hl=>us_1 (us:=us) (P:=fun us=>bindArgs _ ⟨us,[]⟩=pure (List.zip _ us)) hl fun _=>rfl
  have F28:=ZL (st:=J1) l28 c28 k28
  have b28:=F28.binds (ps:=["_law_store_here"]) fun _ _ _ _ _ _ us hl=>us_1 (us:=us) (P:=fun us=>bindArgs _ ⟨us,[]⟩=pure (List.zip _ us)) hl fun _=>rfl
  have F29:=ZL (st:=J4) l29 c29 k29
  have b29:=F29.binds (ps:=["_law_wish_here"]) fun _ _ _ _ _ _ us hl=>us_1 (us:=us) (P:=fun us=>bindArgs _ ⟨us,[]⟩=pure (List.zip _ us)) hl fun _=>rfl
  have F30:=ZL (st:=QS) l30 c30 k30
  have b30:=F30.binds (ps:=["_law_store_here","_law_wish_here","_law_words","_law_room"]) fun _ _ _ _ _ _ us hl=>us_4 (us:=us) (P:=fun us=>bindArgs _ ⟨us,[]⟩=pure (List.zip _ us)) hl fun _ _ _ _=>rfl
  have F31:=ZL (st:=Jm) l31 c31 k31
  have b31:=F31.binds (ps:=["_law_store_here","_law_wish_here","_law_room"]) fun _ _ _ _ _ _ us hl=>us_3 (us:=us) (P:=fun us=>bindArgs _ ⟨us,[]⟩=pure (List.zip _ us)) hl fun _ _ _=>rfl
  have F32:=ZL (st:=Za1) l32 c32 k32
  have b32:=F32.binds (ps:=["_law_script"]) fun _ _ _ _ _ _ us hl=>us_1 (us:=us) (P:=fun us=>bindArgs _ ⟨us,[]⟩=pure (List.zip _ us)) hl fun _=>rfl
  have T0:Txt0 l.prog w K mg:=⟨PySem.W.mg_none_of X G z0,PySem.W.mg_none_of X G z1,PySem.W.mg_none_of X G z2,PySem.W.mg_none_of X G z3,PySem.W.mg_none_of X G z4,PySem.W.mg_none_of X G z5,PySem.W.mg_none_of X G z6,PySem.W.mg_none_of X G z7,PySem.W.mg_none_of X G z8,PySem.W.mg_none_of X G z9,PySem.W.mg_none_of X G z10,ZfG (PySem.W.mg_of X G gv0) (by decide +kernel),Jv (PySem.W.mg_of X G gv1),Zd1 (PySem.W.mg_of X G gv2) gl2 gz2 gs2,Jv (PySem.W.mg_of X G gv3),Jv (PySem.W.mg_of X G gv4),Jv (PySem.W.mg_of X G gv5),Jv (PySem.W.mg_of X G gv6),Jv (PySem.W.mg_of X G gv7),ZfG (PySem.W.mg_of X G gv8) (by decide +kernel),Jv (PySem.W.mg_of X G gv9),Jv (PySem.W.mg_of X G gv10),Zd2 (PySem.W.mg_of X G gv11) gl11 gz11 ge11 (by decide) gx11,Zd1 (PySem.W.mg_of X G gv12) gl12 gz12 gs12,Zd2 (PySem.W.mg_of X G gv13) gl13 gz13 ge13 (by decide) gx13⟩
  have TF:TxtF K mg:=⟨⟨_,_,F0,PySem.W.mg_of X G a0,b0⟩,⟨_,_,F1,PySem.W.mg_of X G a1,b1⟩,⟨_,_,F2,PySem.W.mg_of X G a2,b2⟩,⟨_,_,F3,PySem.W.mg_of X G a3,b3⟩,⟨_,_,F4,PySem.W.mg_of X G a4,b4⟩,⟨_,_,F5,PySem.W.mg_of X G a5,b5⟩,⟨_,_,F6,PySem.W.mg_of X G a6,b6⟩,⟨_,_,F7,PySem.W.mg_of X G a7,b7⟩,⟨_,_,F8,PySem.W.mg_of X G a8,b8⟩,⟨_,_,F9,PySem.W.mg_of X G a9,b9⟩,⟨_,_,F10,PySem.W.mg_of X G a10,b10⟩,⟨_,_,F11,PySem.W.mg_of X G a11,b11⟩,⟨_,_,F12,PySem.W.mg_of X G a12,b12⟩,⟨_,_,F13,PySem.W.mg_of X G a13,b13⟩,⟨_,_,F14,PySem.W.mg_of X G a14,b14⟩,⟨_,_,F15,PySem.W.mg_of X G a15,b15⟩,⟨_,_,F16,PySem.W.mg_of X G a16,b16⟩,⟨_,_,F17,PySem.W.mg_of X G a17,b17⟩,⟨_,_,F18,PySem.W.mg_of X G a18,b18⟩,⟨_,_,F19,PySem.W.mg_of X G a19,b19⟩,⟨_,_,F20,PySem.W.mg_of X G a20,b20⟩,⟨_,_,F21,PySem.W.mg_of X G a21,b21⟩,⟨_,_,F22,PySem.W.mg_of X G a22,b22⟩,⟨_,_,F23,PySem.W.mg_of X G a23,b23⟩,⟨_,_,F24,PySem.W.mg_of X G a24,b24⟩,⟨_,_,F25,PySem.W.mg_of X G a25,b25⟩,⟨_,_,F26,PySem.W.mg_of X G a26,b26⟩,⟨_,_,F27,PySem.W.mg_of X G a27,b27⟩,⟨_,_,F28,PySem.W.mg_of X G a28,b28⟩,⟨_,_,F29,PySem.W.mg_of X G a29,b29⟩,⟨_,_,F30,PySem.W.mg_of X G a30,b30⟩,⟨_,_,F31,PySem.W.mg_of X G a31,b31⟩,⟨_,_,F32,PySem.W.mg_of X G a32,b32⟩⟩
  refine ⟨PySem.W.fnOf "law" "law" (Zo Za1) (Zf Za1) (Za Za1) .none kV32 dc32 pm32 an32 cd32 ct32,fun s v=>.of_eq rfl,fun base _ _=>?_⟩
  refine ZJ (fi:=32) (np:=1) (n:=10) (body:=Zcc) (cell:=false) F32 Zfh ?_ ?_ ?_ ?_
  exact rfl
  exact rfl
  exact rfl
  intro _ _ _ _ _ _ hr
  refine Zkr ?_ ?_ ?_
  exact T0
  exact ZkO T0 TF 80
  exact hr
theorem walk {l:PySem.W.OpenLaw} {q:Program} {loose:List Str} {XP:(Str→Option Value)→Heap→Prop} {YP:World→Heap→Prop} {d:DefRec} {K:Params→PySem.W.Frag} (hn:l.most=some 63) (hdf:d.params.defaults=[])
    (hY:∀ (w:World) (h:Heap),YP w h→(K w.params).In h)
    (F:∀ (w:World) (mg:Str→Option Value) (fa:Addr) (h:Heap),(K w.params).In h→h.Ns mainGlobals mg→mg d.name=some (.ref fa) →
      ∃ fd:FuncData,(∀ (s:Shared) (u:Value),BindsTo s fd ⟨[u],[]⟩ [("_law_script",u)])∧∀ base:Heap,(K w.params).In base→base.Ns mainGlobals mg→FnOk l.prog w (K w.params) mg base CX0 81 fa fd ["_law_script"] (spF (K w.params) fns gv 81 32)) :
    PySem.W.WalkO q loose XP YP l.row.toRowW d [] (fun f vs=>PySem.call f vs) :=
  L2.walk_of (n:=63) (k:=81) (x:="_law_script") (CX:=fun _=>CX0) (sp:=fun w=>spF (K w.params) fns gv 81 32) hn (by decide) hdf ⟨rfl,by decide,by decide⟩ hY F (fun _ _ a ns hl hO hS=>law_sp hO hS (law_true ns hl)) fun _ _ _ _ _ z=>z
theorem walkX {l:PySem.W.OpenLaw} {q:Program} {loose:List Str} {XP:(Str→Option Value)→Heap→Prop} {d:DefRec} {K:Params→PySem.W.Frag} {as:List Addr} {n t:Nat} (hn:l.most=some 63) (hdf:d.params.defaults=[]) (he:∀ P,as=(K P).map (·.1))
    (F:∀ (w:World) (mg:Str→Option Value) (fa:Addr) (h:Heap),(K w.params).In h→h.Ns mainGlobals mg→mg d.name=some (.ref fa) →
      ∃ fd:FuncData,(∀ (s:Shared) (u:Value),BindsTo s fd ⟨[u],[]⟩ [("_law_script",u)])∧∀ base:Heap,(K w.params).In base→base.Ns mainGlobals mg→FnOk l.prog w (K w.params) mg base CX0 81 fa fd ["_law_script"] (spF (K w.params) fns gv 81 32)) :
    PySem.W.WalkX q loose XP (PySem.W.X.obsZ as) (PySem.W.X.valZ K n t) l.row.toRowW d [] (fun f vs=>PySem.call f vs):=by
  intro w s₀ s₁ mg mb G y fa o pm cd doc dV kV ho hd hcd hD hmg hg args vals as' L
  exact walk (YP:=fun w h=>(K w.params).In h) hn hdf (fun _ _ h=>h) F w s₀ s₁ mg mb G (PySem.W.InK.keeps w _ _ (PySem.W.X.z_facts he y).2.1 (PySem.W.Laid.keeps L)) fa o pm cd doc dV kV ho hd hcd hD hmg hg args vals as'
end My
set_option Elab.async false
noncomputable def PySem.W.Fast.tw7717066382812333656:Unit:=()
noncomputable def PySem.W.Fast.tw1054192088130739856:Unit:=()
noncomputable def PySem.W.Fast.tw8904647728286919625:PySem.Program:=PySem.Challenge.pw_matepoint_k12_more_brackets
theorem PySem.W.Fast.te8904647728286919625:PySem.Challenge.pw_matepoint_k12_more_brackets=PySem.W.Fast.tw8904647728286919625:=rfl
noncomputable def PySem.W.Fast.tw12686713907750245715:Unit:=()
noncomputable def PySem.W.Fast.tw6584740344349841619:Unit:=()
noncomputable def PySem.W.Fast.tw7797211180946104840:Unit:=()
noncomputable def PySem.W.Fast.tw10016665651527375418:Unit:=()
noncomputable def PySem.W.Fast.tw5387709097211465967:Unit:=()
noncomputable def PySem.W.Fast.tw5715219478181746253:Unit:=()
noncomputable def PySem.W.Fast.tw10161640403268541779:Unit:=()
noncomputable def PySem.W.Fast.tw13953387871333955459:Unit:=()
noncomputable def PySem.W.Fast.tw5765530493899407285:Unit:=()
noncomputable def PySem.W.Fast.tw4457057969803939284:Unit:=()
noncomputable def PySem.W.Fast.tw12838062277293340653:Unit:=()
noncomputable def PySem.W.Fast.tw303671515624331198:Unit:=()
noncomputable def PySem.W.Fast.tw15105067233091859061:Unit:=()
noncomputable def PySem.W.Fast.tw6662219276371518251:Unit:=()
noncomputable def PySem.W.Fast.tw10980041760884541673:Unit:=()
noncomputable def PySem.W.Fast.tw14586247921324486042:Unit:=()
noncomputable def PySem.W.Fast.tw15873899729104732175:Unit:=()
noncomputable def PySem.W.Fast.tw12458732797584350231:Unit:=()
noncomputable def PySem.W.Fast.tw2456028838143667078:Unit:=()
noncomputable def PySem.W.Fast.tw11430573875511704337:Unit:=()
noncomputable def PySem.W.Fast.tw18390317712150580858:Unit:=()
noncomputable def PySem.W.Fast.tw12805744223354814515:Unit:=()
noncomputable def PySem.W.Fast.tw8159628858404805118:Unit:=()
noncomputable def PySem.W.Fast.tw13344009879266537860:Unit:=()
noncomputable def PySem.W.Fast.tw6289313987803522171:Unit:=()
noncomputable def PySem.W.Fast.tw12563068463836881179:Unit:=()
noncomputable def PySem.W.Fast.tw16956696670536448083:Unit:=()
noncomputable def PySem.W.Fast.tw9174006930078904713:Unit:=()
noncomputable def PySem.W.Fast.tw7752734242186527670:Unit:=()
noncomputable def PySem.W.Fast.tw11599251351923086920:Unit:=()
noncomputable def PySem.W.Fast.tw293590013325514979:Unit:=()
noncomputable def PySem.W.Fast.tw4254380925922742833:Unit:=()
noncomputable def PySem.W.Fast.tw8199146608546492931:Unit:=()
noncomputable def PySem.W.Fast.tw2317252975847786380:Unit:=()
noncomputable def PySem.W.Fast.tw4354852641938886764:Unit:=()
noncomputable def PySem.W.Fast.tw15970257626303759456:Unit:=()
noncomputable def PySem.W.Fast.tw12292613225250239550:Unit:=()
noncomputable def PySem.W.Fast.tw4227118454671821248:Unit:=()
noncomputable def PySem.W.Fast.tw349310023083617155:Unit:=()
noncomputable def PySem.W.Fast.tw12712668383098031228:Unit:=()
noncomputable def PySem.W.Fast.tw5970488755317326656:Unit:=()
noncomputable def PySem.W.Fast.tw9086012687683577575:Unit:=()
noncomputable def PySem.W.Fast.tw16311236644737954288:Unit:=()
noncomputable def PySem.W.Fast.tw16311487963856219529:Unit:=()
noncomputable def PySem.W.Fast.tw7700568429775379263:Unit:=()
noncomputable def PySem.W.Fast.tw8193625617623848599:Unit:=()
noncomputable def PySem.W.Fast.tw2833714180908408052:Unit:=()
noncomputable def PySem.W.Fast.tw12387805620793555864:Unit:=()
noncomputable def PySem.W.Fast.tw11129933903689526659:Unit:=()
noncomputable def PySem.W.Fast.tw7084035637419937543:Unit:=()
noncomputable def PySem.W.Fast.tw13073824424353229279:Unit:=()
noncomputable def PySem.W.Fast.tw17745673169661245213:Unit:=()
noncomputable def PySem.W.Fast.tw9642923637518261598:Unit:=()
noncomputable def PySem.W.Fast.tw17632278731122046695:Unit:=()
noncomputable def PySem.W.Fast.tw2261695309386584487:Unit:=()
noncomputable def PySem.W.Fast.tw11489962233843418872:Unit:=()
noncomputable def PySem.W.Fast.tw945518092135007349:Unit:=()
noncomputable def PySem.W.Fast.tw13879417392186140233:Unit:=()
noncomputable def PySem.W.Fast.tw1085543625984379610:Unit:=()
noncomputable def PySem.W.Fast.tw2761395839166988172:Unit:=()
noncomputable def PySem.W.Fast.tw8574774121955136081:Unit:=()
noncomputable def PySem.W.Fast.tw16282501102184638262:Unit:=()
noncomputable def PySem.W.Fast.tw1165337631119038569:Unit:=()
noncomputable def PySem.W.Fast.tw2007149977174820975:Unit:=()
noncomputable def PySem.W.Fast.tw1367567807360682646:Unit:=()
noncomputable def PySem.W.Fast.tw9576016425401028873:Unit:=()
noncomputable def PySem.W.Fast.tw18204658337544392807:Unit:=()
noncomputable def PySem.W.Fast.tw18417104273420570744:Unit:=()
noncomputable def PySem.W.Fast.tw17468109807044956101:Unit:=()
noncomputable def PySem.W.Fast.tw16751724635443398011:Unit:=()
noncomputable def PySem.W.Fast.tw8933599213147481613:Unit:=()
noncomputable def PySem.W.Fast.tw3312289805850688878:Unit:=()
noncomputable def PySem.W.Fast.tw10592273490725930473:Unit:=()
noncomputable def PySem.W.Fast.tw3268637500602730205:Unit:=()
noncomputable def PySem.W.Fast.tw1818647162873349775:Unit:=()
noncomputable def PySem.W.Fast.tw13089684647639340509:Unit:=()
noncomputable def PySem.W.Fast.tw10553974586021134809:Unit:=()
noncomputable def PySem.W.Fast.tw15556111830013407796:Unit:=()
noncomputable def PySem.W.Fast.tw17490146940043500031:Unit:=()
noncomputable def PySem.W.Fast.tw8347204551904584338:Unit:=()
noncomputable def PySem.W.Fast.tw17078785237316360816:Unit:=()
noncomputable def PySem.W.Fast.tw9391392468956152279:Unit:=()
noncomputable def PySem.W.Fast.tw1296243662013516960:Unit:=()
noncomputable def PySem.W.Fast.tw18259855311217811860:Unit:=()
noncomputable def PySem.W.Fast.tw14092223822981472157:Unit:=()
noncomputable def PySem.W.Fast.tw5539619044429600167:Unit:=()
open PySem PySem.W PyProof.Rows
set_option maxRecDepth 100000 in
set_option maxHeartbeats 0 in
theorem PySem.Challenge.cw_matepoint_k12_more_brackets_holds : PySem.Challenge.rw_matepoint_k12_more_brackets.Holds := by
  w_on; o_law; z_head; (case hw=>w_witness2)
  k_fill
  refine My.walkX (l:=PySem.Challenge.rw_matepoint_k12_more_brackets) rfl rfl (fun _=>rfl) ?F
  case F =>
    intro w mg fa h KX G hmg
    refine' My.all_mk KX G hmg ?a0 ?l0 ?c0 ?k0 ?a1 ?l1 ?c1 ?k1 ?a2 ?l2 ?c2 ?k2 ?a3 ?l3 ?c3 ?k3 ?a4 ?l4 ?c4 ?k4 ?a5 ?l5 ?c5 ?k5 ?a6 ?l6 ?c6 ?k6 ?a7 ?l7 ?c7 ?k7 ?a8 ?l8 ?c8 ?k8 ?a9 ?l9 ?c9 ?k9 ?a10 ?l10 ?c10 ?k10 ?a11 ?l11 ?c11 ?k11 ?a12 ?l12 ?c12 ?k12 ?a13 ?l13 ?c13 ?k13 ?a14 ?l14 ?c14 ?k14 ?a15 ?l15 ?c15 ?k15 ?a16 ?l16 ?c16 ?k16 ?a17 ?l17 ?c17 ?k17 ?a18 ?l18 ?c18 ?k18 ?a19 ?l19 ?c19 ?k19 ?a20 ?l20 ?c20 ?k20 ?a21 ?l21 ?c21 ?k21 ?a22 ?l22 ?c22 ?k22 ?a23 ?l23 ?c23 ?k23 ?a24 ?l24 ?c24 ?k24 ?a25 ?l25 ?c25 ?k25 ?a26 ?l26 ?c26 ?k26 ?a27 ?l27 ?c27 ?k27 ?a28 ?l28 ?c28 ?k28 ?a29 ?l29 ?c29 ?k29 ?a30 ?l30 ?c30 ?k30 ?a31 ?l31 ?c31 ?k31 ?a32 ?l32 ?c32 ?k32 ?gv0 ?gv1 ?gv2 ?gl2 ?gz2 ?gs2 ?gv3 ?gv4 ?gv5 ?gv6 ?gv7 ?gv8 ?gv9 ?gv10 ?gv11 ?gl11 ?gz11 ?ge11 ?gx11 ?gv12 ?gl12 ?gz12 ?gs12 ?gv13 ?gl13 ?gz13 ?ge13 ?gx13 ?z0 ?z1 ?z2 ?z3 ?z4 ?z5 ?z6 ?z7 ?z8 ?z9 ?z10
    (case a0=>k_is)
    (case l0=>k_is)
    (case c0=>k_is)
    (case k0=>k_is)
    (case a1=>k_is)
    (case l1=>k_is)
    (case c1=>k_is)
    (case k1=>k_is)
    (case a2=>k_is)
    (case l2=>k_is)
    (case c2=>k_is)
    (case k2=>k_is)
    (case a3=>k_is)
    (case l3=>k_is)
    (case c3=>k_is)
    (case k3=>k_is)
    (case a4=>k_is)
    (case l4=>k_is)
    (case c4=>k_is)
    (case k4=>k_is)
    (case a5=>k_is)
    (case l5=>k_is)
    (case c5=>k_is)
    (case k5=>k_is)
    (case a6=>k_is)
    (case l6=>k_is)
    (case c6=>k_is)
    (case k6=>k_is)
    (case a7=>k_is)
    (case l7=>k_is)
    (case c7=>k_is)
    (case k7=>k_is)
    (case a8=>k_is)
    (case l8=>k_is)
    (case c8=>k_is)
    (case k8=>k_is)
    (case a9=>k_is)
    (case l9=>k_is)
    (case c9=>k_is)
    (case k9=>k_is)
    (case a10=>k_is)
    (case l10=>k_is)
    (case c10=>k_is)
    (case k10=>k_is)
    (case a11=>k_is)
    (case l11=>k_is)
    (case c11=>k_is)
    (case k11=>k_is)
    (case a12=>k_is)
    (case l12=>k_is)
    (case c12=>k_is)
    (case k12=>k_is)
    (case a13=>k_is)
    (case l13=>k_is)
    (case c13=>k_is)
    (case k13=>k_is)
    (case a14=>k_is)
    (case l14=>k_is)
    (case c14=>k_is)
    (case k14=>k_is)
    (case a15=>k_is)
    (case l15=>k_is)
    (case c15=>k_is)
    (case k15=>k_is)
    (case a16=>k_is)
    (case l16=>k_is)
    (case c16=>k_is)
    (case k16=>k_is)
    (case a17=>k_is)
    (case l17=>k_is)
    (case c17=>k_is)
    (case k17=>k_is)
    (case a18=>k_is)
    (case l18=>k_is)
    (case c18=>k_is)
    (case k18=>k_is)
    (case a19=>k_is)
    (case l19=>k_is)
    (case c19=>k_is)
    (case k19=>k_is)
    (case a20=>k_is)
    (case l20=>k_is)
    (case c20=>k_is)
    (case k20=>k_is)
    (case a21=>k_is)
    (case l21=>k_is)
    (case c21=>k_is)
    (case k21=>k_is)
    (case a22=>k_is)
    (case l22=>k_is)
    (case c22=>k_is)
    (case k22=>k_is)
    (case a23=>k_is)
    (case l23=>k_is)
    (case c23=>k_is)
    (case k23=>k_is)
    (case a24=>k_is)
    (case l24=>k_is)
    (case c24=>k_is)
    (case k24=>k_is)
    (case a25=>k_is)
    (case l25=>k_is)
    (case c25=>k_is)
    (case k25=>k_is)
    (case a26=>k_is)
    (case l26=>k_is)
    (case c26=>k_is)
    (case k26=>k_is)
    (case a27=>k_is)
    (case l27=>k_is)
    (case c27=>k_is)
    (case k27=>k_is)
    (case a28=>k_is)
    (case l28=>k_is)
    (case c28=>k_is)
    (case k28=>k_is)
    (case a29=>k_is)
    (case l29=>k_is)
    (case c29=>k_is)
    (case k29=>k_is)
    (case a30=>k_is)
    (case l30=>k_is)
    (case c30=>k_is)
    (case k30=>k_is)
    (case a31=>k_is)
    (case l31=>k_is)
    (case c31=>k_is)
    (case k31=>k_is)
    (case a32=>k_is)
    (case l32=>k_is)
    (case c32=>k_is)
    (case k32=>k_is)
    (case gv0=>k_is)
    (case gv1=>k_is)
    (case gv2=>k_is)
    (case gl2=>k_is)
    (case gz2=>decide)
    (case gs2=>exact (.cons (by decide +kernel) (.cons (by decide +kernel) (.cons (by decide +kernel) (.cons (by decide +kernel) (.cons (by decide +kernel) (.cons (by decide +kernel) .nil)))))))
    (case gv3=>k_is)
    (case gv4=>k_is)
    (case gv5=>k_is)
    (case gv6=>k_is)
    (case gv7=>k_is)
    (case gv8=>k_is)
    (case gv9=>k_is)
    (case gv10=>k_is)
    (case gv11=>k_is)
    (case gl11=>k_is)
    (case gz11=>decide)
    (case ge11=>exact (Mi.Ents.cons (by decide +kernel) (by with_unfolding_all rfl) (Mi.Ents.cons (by decide +kernel) (by with_unfolding_all rfl) Mi.Ents.nil)))
    (case gx11=>exact (Mi.VTs.cons (Mi.vt_str (by decide +kernel)) (Mi.VTs.cons (Mi.vt_str (by decide +kernel)) Mi.VTs.nil)))
    (case gv12=>k_is)
    (case gl12=>k_is)
    (case gz12=>decide)
    (case gs12=>exact (.cons (by decide +kernel) (.cons (by decide +kernel) .nil)))
    (case gv13=>k_is)
    (case gl13=>k_is)
    (case gz13=>decide)
    (case ge13=>exact (Mi.Ents.cons (by decide +kernel) (by with_unfolding_all rfl) (Mi.Ents.cons (by decide +kernel) (by with_unfolding_all rfl) (Mi.Ents.cons (by decide +kernel) (by with_unfolding_all rfl) Mi.Ents.nil))))
    (case gx13=>exact (Mi.VTs.cons (Mi.vt_tup (by k_is) (by decide) (Mi.VTs.cons (Mi.vt_str (by decide +kernel)) (Mi.VTs.cons (Mi.vt_str (by decide +kernel)) Mi.VTs.nil))) (Mi.VTs.cons (Mi.vt_tup (by k_is) (by decide) (Mi.VTs.cons (Mi.vt_str (by decide +kernel)) (Mi.VTs.cons (Mi.vt_str (by decide +kernel)) Mi.VTs.nil))) (Mi.VTs.cons (Mi.vt_tup (by k_is) (by decide) (Mi.VTs.cons (Mi.vt_str (by decide +kernel)) Mi.VTs.nil)) Mi.VTs.nil))))
    (case z0=>k_is)
    (case z1=>k_is)
    (case z2=>k_is)
    (case z3=>k_is)
    (case z4=>k_is)
    (case z5=>k_is)
    (case z6=>k_is)
    (case z7=>k_is)
    (case z8=>k_is)
    (case z9=>k_is)
    (case z10=>k_is)
end
