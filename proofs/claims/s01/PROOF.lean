import PyProof.Rows.All
import Wide.All
import OpenK.AllK
import Wide.FinOn
import PyProof.EqAt
import PyProof.EqKinds
import PyProof.TupleCall
import KE.BitLaws
import KE.KDictList
import KE.KSortTupG
import PyProof.ListRange
import Open.SpecLaws
import KE.OsHead
import KE.OsGo
import KE.IntBitsLaws
import PyProof.Rows.TupDisplay
import PySem.Challenge.RW_foodwebs_s01_answers
set_option Elab.async false
set_option linter.all false
set_option maxRecDepth 100000
namespace L2
open PySem PySem.Spec PyProof.Rows
abbrev Key:=Sum Int Str
def keyIs : Key → Value → Bool
  | .inl k,v=>Value.isInt k v
  | .inr x,v=>Value.isStrOf x v
def keyH (w : World) : Key → Int
  | .inl k=>hashInt k
  | .inr x=>hashStr w x
theorem keyIs_shape : ∀ {k : Key} {v : Value},keyIs k v = true → (∃ i t,k = Sum.inl i ∧ v = Value.int i t) ∨ (∃ x t,k = Sum.inr x ∧ v = Value.str x t)
  | .inl i,v,h=>by
    obtain ⟨t,e⟩:=Value.isInt_shape (k:=i) (v:=v) h
    exact .inl ⟨i,t,rfl,e⟩
  | .inr x,v,h=>by
    obtain ⟨t,e⟩:=Value.isStrOf_shape (x:=x) (v:=v) h
    exact .inr ⟨x,t,rfl,e⟩
theorem keyIs_int (i : Int) (t : Tok) : keyIs (.inl i) (.int i t) = true:=by simp [keyIs,Value.isInt]
theorem keyIs_str (x : Str) (t : Tok) : keyIs (.inr x) (.str x t) = true:=by simp [keyIs,Value.isStrOf]
theorem key_ll (a b : Int) : decide ((Sum.inl a : Key) = Sum.inl b) = (a == b):=by
  by_cases e : a = b
  · subst e; simp
  · have h : ¬ (Sum.inl a : Key) = Sum.inl b:=fun q=>e (Sum.inl.inj q)
    rw [decide_eq_false h]
    exact (beq_eq_false_iff_ne.mpr e).symm
theorem key_rr (a b : Str) : decide ((Sum.inr a : Key) = Sum.inr b) = decide (a = b):=by
  by_cases e : a = b
  · subst e; simp
  · have h : ¬ (Sum.inr a : Key) = Sum.inr b:=fun q=>e (Sum.inr.inj q)
    rw [decide_eq_false h,decide_eq_false e]
theorem key_lr (a : Int) (b : Str) : decide ((Sum.inl a : Key) = Sum.inr b) = false:=decide_eq_false (fun q=>nomatch q)
theorem key_rl (a : Str) (b : Int) : decide ((Sum.inr a : Key) = Sum.inl b) = false:=decide_eq_false (fun q=>nomatch q)
def mixKind (prog : Program) (w : World) : PySem.KeyKind prog w Key where
  is:=keyIs
  hash:=keyH w
  inj:=fun v a b ha hb=>by
    rcases keyIs_shape ha with ⟨i,t,rfl,rfl⟩ | ⟨x,t,rfl,rfl⟩
    · rcases keyIs_shape hb with ⟨j,u,rfl,e⟩ | ⟨y,u,rfl,e⟩
      · injection e with e1 _; rw [e1]
      · exact nomatch e
    · rcases keyIs_shape hb with ⟨j,u,rfl,e⟩ | ⟨y,u,rfl,e⟩
      · exact nomatch e
      · injection e with e1 _; rw [e1]
  byValue:=fun k v h=>by
    rcases keyIs_shape h with ⟨i,t,rfl,rfl⟩ | ⟨x,t,rfl,rfl⟩ <;> rfl
  pyHash:=fun hv h=>by
    rcases keyIs_shape hv with ⟨i,t,rfl,rfl⟩ | ⟨x,t,rfl,rfl⟩
    · exact wpAny_pyHash_int h
    · exact wpAny_pyHash_str h
  eqBool:=fun hu hv h=>by
    rcases keyIs_shape hu with ⟨i,t,rfl,rfl⟩ | ⟨x,t,rfl,rfl⟩
    · rcases keyIs_shape hv with ⟨j,u,rfl,rfl⟩ | ⟨y,u,rfl,rfl⟩
      · rw [key_ll] at h; exact wpAny_eqBool_int h
      · rw [key_lr] at h; exact SeqAt.EqAt.int_str i t y u _ _ _ _ h
    · rcases keyIs_shape hv with ⟨j,u,rfl,rfl⟩ | ⟨y,u,rfl,rfl⟩
      · rw [key_rl] at h; exact SeqAt.EqAt.str_int x t j u _ _ _ _ h
      · rw [key_rr] at h; exact wpAny_eqBool_str h
  «strs»:=fun k x t v h=>by
    rcases keyIs_shape h with ⟨i,u,rfl,e⟩ | ⟨y,u,rfl,e⟩
    · exact nomatch e
    · injection e with e1 _
      subst e1
      cases v <;> rfl
theorem mixKind_int (prog : Program) (w : World) (i : Int) (t : Tok) : (mixKind prog w).is (.inl i) (.int i t) = true:=keyIs_int i t
theorem mixKind_str (prog : Program) (w : World) (x : Str) (t : Tok) : (mixKind prog w).is (.inr x) (.str x t) = true:=keyIs_str x t
end L2
namespace L2
open PySem PySem.Spec PyProof.Rows
inductive V where
  | non | bl (b : Bool) | int (i : Int) | str (x : Str) | byt (b : Array UInt8) | flt (b : UInt64) | ref (a : Addr) | ty (n : String)
  deriving DecidableEq
def RelV : V → Value → Prop
  | .non,u=>u = Value.none
  | .bl b,u=>u = Value.bool b
  | .int i,u=>∃ t,u = Value.int i t
  | .str x,u=>∃ t,u = Value.str x t
  | .byt b,u=>∃ t,u = Value.bytes b t
  | .flt b,u=>∃ t,u = Value.float b t
  | .ref a,u=>u = Value.ref a
  | .ty n,u=>u = Value.type n
abbrev Vals : List V → List Value → Prop:=Paired RelV
theorem Vals.length {xs : List V} {us : List Value} (r : Vals xs us) : xs.length = us.length:=Paired.length r
theorem Vals.get : ∀ {xs : List V} {us : List Value} {i : Nat} {x : V},Vals xs us → xs[i]? = some x → ∃ u,us[i]? = some u ∧ RelV x u
  | _,_,_,_,.nil,e=>by simp at e
  | _,_,0,_,.cons r _,e=>by simp at e; subst e; exact ⟨_,rfl,r⟩
  | _,_,i + 1,x,.cons _ t,e=>by
    obtain ⟨u,h1,h2⟩:=Vals.get (i:=i) (x:=x) t (by simpa using e)
    exact ⟨u,by simpa using h1,h2⟩
theorem Vals.set {x : V} {u : Value} (r : RelV x u) : ∀ {xs : List V} {us : List Value} (i : Nat),Vals xs us → Vals (xs.set i x) (us.set i u)
  | _,_,_,.nil=>.nil
  | _,_,0,.cons _ t=>.cons r t
  | _,_,i + 1,.cons q t=>.cons q (Vals.set r i t)
theorem Vals.append : ∀ {xs ys : List V} {us ws : List Value},Vals xs us → Vals ys ws → Vals (xs ++ ys) (us ++ ws)
  | _,_,_,_,.nil,s=>s
  | _,_,_,_,.cons r t,s=>.cons r (Vals.append t s)
theorem Vals.take : ∀ {xs : List V} {us : List Value} (n : Nat),Vals xs us → Vals (xs.take n) (us.take n)
  | _,_,0,_=>.nil
  | _,_,_ + 1,.nil=>.nil
  | _,_,n + 1,.cons r t=>.cons r (Vals.take n t)
theorem Vals.drop : ∀ {xs : List V} {us : List Value} (n : Nat),Vals xs us → Vals (xs.drop n) (us.drop n)
  | _,_,0,r=>r
  | _,_,_ + 1,.nil=>.nil
  | _,_,n + 1,.cons _ t=>Vals.drop n t
def RelO : Option V → Option Value → Prop
  | some v,some u=>RelV v u
  | none,none=>True
  | _,_=>False
def KV {κ : Type} : List (κ × V) → List (κ × Value) → Prop:=Paired fun (p : κ × V) (q : κ × Value)=>p.1 = q.1 ∧ RelV p.2 q.2
def kV : Key → V
  | .inl i=>.int i
  | .inr x=>.str x
inductive HO where
  /-- a list -/
  | lst (xs : List V)
  /-- a tuple (never changes) -/
  | tup (xs : List V)
  /-- a dict whose keys are ints and texts; one whose keys are tuples of ints and texts (the empty one is both) -/
  | dK (kvs : List (Key × V)) | dT (kvs : List (List Key × V))
  /-- a set of ints: its members,its size -/
  | set (S : Int → Bool) (n : Nat)
  /-- an instance of the class at C,its dict at dx,its attributes -/
  | ins (C dx : Addr) (fs : List (Str × V))
  /-- the dict of the instance at x -/
  | own (x : Addr)
  /-- the dict of an exception -/
  | xd (fs : List (Str × V))
  /-- a bound method,f of x -/
  | met (f x : Addr)
  /-- a range object lo,lo + 1,.. below hi -/
  | rng (lo hi : Int)
  /-- a thing that is known to the object (the script; a dict while a loop walks it): read,never written while it is so -/
  | frz (o : Obj) (u : HO)
  /-- a code object's table -/
  | tbl (ps : Array Value)
  /-- any other thing,by what is true of its one object (a def of one's own: SetO a S n:=HO.ext fun h=>..) -/
  | ext (φ : Heap → Prop)
abbrev Hp:=Addr → Option HO
def upd (H : Hp) (a : Addr) (o : HO) : Hp:=fun b=>if b = a then some o else H b
theorem upd_same {H : Hp} {a : Addr} {o : HO} : upd H a o a = some o:=by unfold upd; rw [if_pos rfl]
theorem upd_ne {H : Hp} {a b : Addr} {o : HO} (h : b ≠ a) : upd H a o b = H b:=by unfold upd; rw [if_neg h]
theorem ne_of {H : Hp} {a b : Addr} {o u : HO} (h : H a = some o) (h' : H b = some u) (d : o ≠ u) : a ≠ b:=by
  intro e; subst e; rw [h] at h'; exact d (Option.some.inj h')
theorem ne_of_none {H : Hp} {a b : Addr} {o : HO} (h : H a = some o) (h' : H b = none) : a ≠ b:=by
  intro e; subst e; rw [h] at h'; cases h'
section
variable (P : Program) (w : World)
def ObjOk (H : Hp) (h : Heap) (a : Addr) : HO → Prop
  | .lst xs=>xs.length ≤ sizeLine ∧ ∃ (its : List Value) (n : Nat),Vals xs its ∧ h.get? a = some { cls:=.type "list",data:=.seq its.toArray n }
  | .tup xs=>xs.length ≤ sizeLine ∧ ∃ its : List Value,Vals xs its ∧ IsTup h a its.toArray
  | .dK kvs=>kvs.length ≤ sizeLine ∧ (a == sysModules) = false ∧ ∃ vs,KV kvs vs ∧ h.DictOf (mixKind P w) a vs
  | .dT kvs=>kvs.length ≤ sizeLine ∧ (a == sysModules) = false ∧ ∃ xs : List (List Key × Addr × Value),
      Paired (fun (p : List Key × V) (q : List Key × Addr × Value)=>p.1 = q.1 ∧ H q.2.1 = some (.tup (p.1.map kV)) ∧ RelV p.2 q.2.2) kvs xs ∧
      ∃ o es ep,h.get? a = some o ∧ o.ExactDict ∧ o.data = .dict es ep ∧ es.toList = xs.map (entryOfKey (tupleKind (mixKind P w))) ∧ (xs.map (·.1)).Nodup
  | .set S n=>h.SetOf (intKind P w) a S n
  | .ins C dx fs=>H dx = some (.own a) ∧ fs.length ≤ 1000 ∧ dx ≠ a ∧ h.get? a = some (PySem.W.instObj C dx) ∧
      ∃ mA,h.Ns1 dx mA ∧ (∀ f,RelO (fs.lookup f) (mA f)) ∧ PySem.Within mA (fs.map (·.1))
  | .own _=>∃ o,h.get? a = some o
  | .xd fs=>∃ mA,h.Ns1 a mA ∧ ∀ f,RelO (fs.lookup f) (mA f)
  | .rng lo hi=>∃ t u v,h.get? a = some { cls:=.type "range",data:=.fields #[.int lo t,.int hi u,.int 1 v] }
  | .frz o u=>h.get? a = some o ∧ ObjOk H h a u
  | .tbl ps=>h.get? a = some { cls:=.none,data:=.fields ps }
  | .met f x=>h.get? a = some (PySem.W.methodObj (.ref f) (.ref x))
  | .ext φ=>φ h ∧ (∃ o,h.get? a = some o) ∧ ∀ h1 h2 : Heap,φ h1 → (∀ o,h1.get? a = some o → h2.get? a = some o) → φ h2
def HOk (H : Hp) (h : Heap) : Prop:=∀ a o,H a = some o → ObjOk P w H h a o
end
section
variable {P : Program} {w : World} {H H' : Hp} {h h' : Heap} {a : Addr} {o : HO}
theorem ObjOk.lt (x : ObjOk P w H h a o) : a < h.objs.size:=by
  cases o with
  | lst xs=>obtain ⟨_,_,_,_,e⟩:=x; exact Heap.lt_size e
  | tup xs=>obtain ⟨_,_,_,p⟩:=x; exact p.lt
  | dK kvs=>obtain ⟨_,_,_,_,o,_,_,e,_⟩:=x; exact Heap.lt_size e
  | dT kvs=>obtain ⟨_,_,_,_,o,_,_,e,_⟩:=x; exact Heap.lt_size e
  | set S n=>obtain ⟨o,_,_,_,e,_⟩:=x; exact Heap.lt_size e
  | ins C dx fs=>obtain ⟨_,_,_,e,_⟩:=x; exact Heap.lt_size e
  | own y=>obtain ⟨_,e⟩:=x; exact Heap.lt_size e
  | xd fs=>obtain ⟨_,⟨_,_,_,e,_⟩,_⟩:=x; exact Heap.lt_size e
  | rng lo hi=>obtain ⟨_,_,_,e⟩:=x; exact Heap.lt_size e
  | frz ob u=>obtain ⟨e,_⟩:=x; exact Heap.lt_size e
  | tbl ps=>exact Heap.lt_size (show h.get? a = some _ from x)
  | met f y=>exact Heap.lt_size (show h.get? a = some _ from x)
  | ext φ=>obtain ⟨_,⟨_,e⟩,_⟩:=x; exact Heap.lt_size e
theorem Paired.mapP {α β : Type} {F G : α → β → Prop} : ∀ {l₁ : List α} {l₂ : List β},Paired F l₁ l₂ → (∀ a b,F a b → G a b) → Paired G l₁ l₂
  | _,_,.nil,_=>.nil
  | _,_,.cons r t,f=>.cons (f _ _ r) (Paired.mapP t f)
theorem ObjOk.stay (x : ObjOk P w H h a o) (k : ∀ b u,(b = a ∨ H b = some (.own a)) → h.get? b = some u → h'.get? b = some u)
    (ho : ∀ b,H b = some (.own a) → H' b = some (.own a)) (ht : ∀ b xs,H b = some (.tup xs) → H' b = some (.tup xs)) : ObjOk P w H' h' a o:=by
  induction o with
  | lst xs=>obtain ⟨z,its,n,r,e⟩:=x; exact ⟨z,its,n,r,k _ _ (.inl rfl) e⟩
  | tup xs=>obtain ⟨z,its,r,ob,e,c⟩:=x; exact ⟨z,its,r,ob,k _ _ (.inl rfl) e,c⟩
  | dK kvs=>obtain ⟨z,y,vs,r,ob,es,ep,e,c⟩:=x; exact ⟨z,y,vs,r,ob,es,ep,k _ _ (.inl rfl) e,c⟩
  | dT kvs =>
    obtain ⟨z,y,xs,r,ob,es,ep,e,c⟩:=x
    exact ⟨z,y,xs,Paired.mapP r fun p q z=>⟨z.1,ht _ _ z.2.1,z.2.2⟩,ob,es,ep,k _ _ (.inl rfl) e,c⟩
  | set S n=>obtain ⟨ob,es,ep,t,e,c⟩:=x; exact ⟨ob,es,ep,t,k _ _ (.inl rfl) e,c⟩
  | ins C dx fs =>
    obtain ⟨d,z,ne,e,mA,⟨od,es,ep,e2,c⟩,r⟩:=x
    exact ⟨ho _ d,z,ne,k _ _ (.inl rfl) e,mA,⟨od,es,ep,k _ _ (.inr d) e2,c⟩,r⟩
  | own y=>obtain ⟨ob,e⟩:=x; exact ⟨ob,k _ _ (.inl rfl) e⟩
  | xd fs=>obtain ⟨mA,⟨od,es,ep,e,c⟩,r⟩:=x; exact ⟨mA,⟨od,es,ep,k _ _ (.inl rfl) e,c⟩,r⟩
  | rng lo hi=>obtain ⟨t,u,v,e⟩:=x; exact ⟨t,u,v,k _ _ (.inl rfl) e⟩
  | frz ob u ih=>obtain ⟨e,q⟩:=x; exact ⟨k _ _ (.inl rfl) e,ih q⟩
  | tbl ps =>
    have e : h.get? a = some { cls:=.none,data:=.fields ps }:=x
    show h'.get? a = some { cls:=.none,data:=.fields ps }
    exact k a _ (.inl rfl) e
  | met f y =>
    have e : h.get? a = some (PySem.W.methodObj (.ref f) (.ref y)):=x
    show h'.get? a = some (PySem.W.methodObj (.ref f) (.ref y))
    exact k a _ (.inl rfl) e
  | ext φ=>obtain ⟨p,⟨o,e⟩,st⟩:=x; exact ⟨st _ _ p fun o q=>k _ _ (.inl rfl) q,⟨o,k _ _ (.inl rfl) e⟩,st⟩
theorem HOk.lt (x : HOk P w H h) (e : H a = some o) : a < h.objs.size:=(x a o e).lt
theorem HOk.fresh (x : HOk P w H h) (e : h.objs.size ≤ a) : H a = none:=by
  cases q : H a with
  | none=>rfl
  | some u=>exact absurd (Nat.lt_of_lt_of_le (x.lt q) e) (Nat.lt_irrefl _)
theorem HOk.kept (x : HOk P w H h) (k : ∀ b u,h.get? b = some u → h'.get? b = some u) : HOk P w H h':=fun a o e =>
  (x a o e).stay (fun b u _ q=>k b u q) (fun _ q=>q) fun _ _ q=>q
theorem HOk.laid (x : HOk P w H h) (k : ∀ b u,h.get? b = some u → h'.get? b = some u) (hp : h.objs.size ≤ a) (new : ObjOk P w (upd H a o) h' a o) : HOk P w (upd H a o) h':=fun b u e=>by
  have hn:=x.fresh hp
  by_cases hb : b = a
  · subst hb; rw [upd_same] at e; cases e; exact new
  · rw [upd_ne hb] at e
    exact (x b u e).stay (fun c v _ q=>k c v q) (fun c q=>by rw [upd_ne (ne_of_none q hn)]; exact q) fun c xs q=>by rw [upd_ne (ne_of_none q hn)]; exact q
end
def Rd (H : Hp) (a : Addr) (u : HO) : Prop:=H a = some u ∨ ∃ o,H a = some (.frz o u)
theorem Rd.ok {P : Program} {w : World} {H : Hp} {h : Heap} {a : Addr} {u : HO} (r : Rd H a u) (x : HOk P w H h) : ObjOk P w H h a u:=by
  rcases r with r | ⟨o,r⟩
  · exact x a u r
  · obtain ⟨_,q⟩:=x a _ r
    exact q
def Mut : Option HO → Prop
  | some (.lst _)=>True
  | some (.dK _)=>True
  | some (.dT _)=>True
  | some (.set _ _)=>True
  | some (.ins _ _ _)=>True
  | some (.ext _)=>True
  | _=>False
section
variable {P : Program} {w : World} {H : Hp} {h h' : Heap} {x e : Addr} {o' : HO}
theorem HOk.write (ok : HOk P w H h) (mu : Mut (H x)) (he : e = x ∨ H e = some (.own x)) (k : ∀ b u,b ≠ e → h.get? b = some u → h'.get? b = some u) (heo : ∃ u,h'.get? e = some u)
    (new : ObjOk P w (upd H x o') h' x o') : HOk P w (upd H x o') h':=fun b u q=>by
  have nown : ∀ c y,H c = some (.own y) → c ≠ x:=fun c y r z=>by subst z; rw [r] at mu; exact mu
  have ntup : ∀ c xs,H c = some (.tup xs) → c ≠ x:=fun c xs r z=>by subst z; rw [r] at mu; exact mu
  by_cases hb : b = x
  · subst hb; rw [upd_same] at q; cases q; exact new
  · rw [upd_ne hb] at q
    by_cases hbe : b = e
    · have q' : H b = some (.own x):=by
        rcases he with z | z
        · exact absurd (hbe.trans z) hb
        · rw [hbe]; exact z
      rw [q] at q'; cases q'
      obtain ⟨v,hv⟩:=heo
      exact ⟨v,by rw [hbe]; exact hv⟩
    · refine (ok b u q).stay (fun c v hc r=>k c v ?_ r) (fun c r=>by rw [upd_ne (nown c b r)]; exact r) fun c xs r=>by rw [upd_ne (ntup c xs r)]; exact r
      rcases hc with rfl | hc
      · exact hbe
      · rintro rfl
        rcases he with z | z
        · exact nown c b hc z
        · rw [hc] at z; cases z; exact hb rfl
end
structure Un (fs ex : List Addr) (H H' : Hp) (h h' : Heap) : Prop where
  keep : ∀ b o,h.get? b = some o → H b = none → b ∉ fs → b ∉ ex → h'.get? b = some o
  slot : ∀ b o,h.get? b = some o → H b = none → b ∈ fs → b ∉ ex → ∃ sl,h'.get? b = some { o with slots:=sl }
  free : ∀ b o,h.get? b = some o → H b = none → b ∉ ex → H' b = none
  there : ∀ b o,h.get? b = some o → b ∉ ex → ∃ o',h'.get? b = some o'
  tups : ∀ b xs,H b = some (.tup xs) → H' b = some (.tup xs)
  frzs : ∀ b o u,H b = some (.frz o u) → H' b = some (.frz o u)
  tbls : ∀ b ps,H b = some (.tbl ps) → ∃ more,H' b = some (.tbl (ps ++ more))
section
variable {fs fs' ex ex' : List Addr} {H H1 H2 : Hp} {h h1 h2 h' : Heap} {a x e : Addr} {o : HO}
theorem Un.any (u : Un fs ex H H1 h h1) {b : Addr} {ob : Obj} (q : h.get? b = some ob) (n : H b = none) (hx : b ∉ ex) : ∃ sl,h1.get? b = some { ob with slots:=sl }:=by
  by_cases hb : b ∈ fs
  · exact u.slot b ob q n hb hx
  · exact ⟨ob.slots,u.keep b ob q n hb hx⟩
theorem Un.kept (k : ∀ b u,h.get? b = some u → h'.get? b = some u) : Un fs ex H H h h' :=
  ⟨fun b ob q _ _ _=>k b ob q,fun b ob q _ _ _=>⟨ob.slots,k b ob q⟩,fun _ _ _ n _=>n,fun b ob q _=>⟨ob,k b ob q⟩,fun _ _ q=>q,fun _ _ _ q=>q,fun _ ps q=>⟨#[],by rw [q]; simp⟩⟩
theorem Un.refl : Un fs ex H H h h:=Un.kept fun _ _ q=>q
theorem Un.laid (k : ∀ b u,h.get? b = some u → h'.get? b = some u) (hp : h.objs.size ≤ a) (hn : H a = none) : Un fs ex H (upd H a o) h h' where
  keep:=fun b u q _ _ _=>k b u q
  slot:=fun b u q _ _ _=>⟨u.slots,k b u q⟩
  free:=fun b u q n _=>by rw [upd_ne (Nat.ne_of_lt (Nat.lt_of_lt_of_le (Heap.lt_size q) hp))]; exact n
  there:=fun b u q _=>⟨u,k b u q⟩
  tups:=fun b xs q=>by rw [upd_ne (ne_of_none q hn)]; exact q
  frzs:=fun b u xs q=>by rw [upd_ne (ne_of_none q hn)]; exact q
  tbls:=fun b ps q=>⟨#[],by rw [upd_ne (ne_of_none q hn),q]; simp⟩
theorem Un.write (mu : Mut (H x)) (he : e = x ∨ H e = some (.own x)) (k : ∀ b u,b ≠ e → h.get? b = some u → h'.get? b = some u) (heo : ∃ u,h'.get? e = some u) : Un fs ex H (upd H x o) h h':=by
  have hx : ∀ b,H b = none → b ≠ x:=fun b n z=>by subst z; rw [n] at mu; exact mu
  have hb : ∀ b,H b = none → b ≠ e:=fun b n z=>by
    subst z
    rcases he with r | r
    · exact hx b n r
    · rw [n] at r; cases r
  have hm : ∀ b u,H b = some u → ¬ Mut (some u) → b ≠ x:=fun b u q nm z=>by subst z; rw [q] at mu; exact nm mu
  refine ⟨fun b u q n _ _=>k b u (hb b n) q,fun b u q n _ _=>⟨u.slots,k b u (hb b n) q⟩,fun b u q n _=>by rw [upd_ne (hx b n)]; exact n,fun b u q _=>?_,
    fun b xs q=>by rw [upd_ne (hm b _ q fun z=>z)]; exact q,fun b u xs q=>by rw [upd_ne (hm b _ q fun z=>z)]; exact q,fun b ps q=>⟨#[],by rw [upd_ne (hm b _ q fun z=>z),q]; simp⟩⟩
  by_cases hbe : b = e
  · subst hbe; exact heo
  · exact ⟨u,k b u hbe q⟩
end
def trk (h : Heap) (H : Hp) : List Addr:=(List.range h.objs.size).filter fun a=>(H a).isSome
def hidT (h : Heap) (H : Hp) : Heap:=PySem.W.hideAll h (trk h H)
theorem hidT_size (h : Heap) (H : Hp) : (hidT h H).objs.size = h.objs.size:=PySem.W.hideAll_size _ _
theorem hidT_get {h : Heap} {H : Hp} {b : Addr} {o : Obj} (e : h.get? b = some o) (n : H b = none) : (hidT h H).get? b = some o :=
  PySem.W.hideAll_get _ e fun hm=>by
    have q : (H b).isSome = true:=(List.mem_filter.mp hm).2
    rw [n] at q; simp at q
theorem of_hidT {h : Heap} {H : Hp} {b : Addr} {o : Obj} (e : (hidT h H).get? b = some o) : h.get? b = some o ∧ H b = none:=by
  have e' : h.get? b = some o:=PySem.W.of_hideAll (trk h H) e
  refine ⟨e',?_⟩
  cases q : H b with
  | none=>rfl
  | some x =>
    have hm : b ∈ trk h H:=List.mem_filter.mpr ⟨List.mem_range.mpr (Heap.lt_size e'),by simp [q]⟩
    have z : (hidT h H).get? b = none:=PySem.W.hideAll_none (trk h H) hm
    rw [z] at e; cases e
end L2
namespace L2
open PySem PySem.Spec PyProof.Rows
structure Mod (K : PySem.W.Frag) (mg : Str → Option Value) (base : Heap) : Prop where
  kin : K.In base
  glob : base.Ns mainGlobals mg
  blt : ∃ mb,base.Ns builtinsNs mb ∧ ∀ x : Str,x ≠ "__name__" → mb x = bootBuiltins x
  nolimit : base.NoLimit
structure Cx where
  prog : Program
  w : World
  K : PySem.W.Frag
  mg : Str → Option Value
  base : Heap
  A : Around
  N : List Str
  s_0 : Shared
  H_0 : Hp
  env : Env
  outer : List Env
  stack : List Env
  ex : List Addr
  fn : Str → Bool
  calm : Bool
  pn : List (Addr × Obj)
  xe : Value → Shared → Prop
def frs (l : List Env) : List Addr:=l.filterMap (·.frame)
abbrev Cx.fs (X : Cx) : List Addr:=frs X.outer
def Vis (sc : Scope) (x : Str) : Prop:=sc.names.lookup x = some .local ∨ sc.names.lookup x = some .cell ∨ sc.names.lookup x = some .free
def Loc (sc : Scope) (x : Str) : Prop:=sc.names.lookup x = some .local ∨ sc.names.lookup x = some .cell
def Look (env : Env) (h : Heap) (m : Str → Option Value) (x : Str) (u : Value) : Prop :=
  (env.kindOf x = some .local ∧ m x = some u) ∨ ((env.kindOf x = some .cell ∨ env.kindOf x = some .free) ∧ ∃ c,env.cells.lookup x = some c ∧ h.IsCell c (some u))
structure Cx.Ok (X : Cx) : Prop where
  mod : Mod X.K X.mg X.base
  kind : X.env.scope.kind = .function
  glob : X.env.globals = mainGlobals
  blt : X.env.builtins = builtinsNs
  above : X.s_0.heap.objs.size ≤ X.env.locals
  inj : ∀ x y c,X.env.cells.lookup x = some c → X.env.cells.lookup y = some c → x = y
  has : ∀ x,(X.env.kindOf x = some .cell ∨ X.env.kindOf x = some .free) → ∃ c,X.env.cells.lookup x = some c
  cab : ∀ x c,X.fn x = true → X.env.cells.lookup x = some c → X.s_0.heap.objs.size ≤ c
  hd : X.calm = true → X.A.handled = none
  frames : X.A.frames = some X.stack
  stk : X.stack = X.outer ∨ (X.stack = X.env :: X.outer ∧ X.env.frame = some X.env.locals)
  exf : ∀ b ∈ X.ex,b ≠ X.env.locals ∧ ∀ x c,X.env.cells.lookup x = some c → c ≠ b
  bs : ∀ b o,X.base.get? b = some o → X.s_0.heap.get? b = some o ∧ X.H_0 b = none
  bsz : X.base.objs.size ≤ X.s_0.heap.objs.size
  noex : ∀ b o,X.base.get? b = some o → b ∉ X.ex
  exfs : ∀ b ∈ X.ex,b ∉ X.fs
  funs : X.s_0.heap.FunFrames X.base X.outer
  frf : ∀ b ∈ X.fs,X.H_0 b = none
structure Inv (X : Cx) (pins : List (Addr × Obj)) (σ : List (Option V)) (H : Hp) (s : Shared) : Prop where
  ok : X.Ok
  os : s.os = X.s_0.os
  bare : AllBare s.gens
  base : Un X.fs X.ex X.H_0 H X.s_0.heap s.heap
  loc : ∃ m,s.heap.Ns X.env.locals m ∧ ∀ (i : Nat) (x : Str) (v : V),X.N[i]? = some x → σ[i]? = some (some v) → Vis X.env.scope x → ∃ u,RelV v u ∧ Look X.env s.heap m x u
  cell : ∀ x c,X.env.cells.lookup x = some c → ∃ v,s.heap.IsCell c v
  free : H X.env.locals = none
  freeC : ∀ x c,X.env.cells.lookup x = some c → H c = none
  pin : ∀ p ∈ X.pn ++ pins,s.heap.get? p.1 = some p.2 ∧ H p.1 = none ∧ p.1 ≠ X.env.locals ∧ p.1 ∉ X.fs ∧ ∀ v,p.2.data ≠ .cell v
  hok : HOk X.prog X.w H s.heap
  len : σ.length = X.N.length
section
variable {X : Cx} {pins : List (Addr × Obj)} {σ : List (Option V)} {H H' : Hp} {s : Shared} {h' : Heap}
theorem Cx.Ok.nofr (ok : X.Ok) {b : Addr} {o : Obj} (e : X.base.get? b = some o) : b ∉ X.fs:=fun hb=>by
  have:=(ok.funs.mem hb).1
  rw [e] at this; cases this
theorem Inv.bs (I : Inv X pins σ H s) : ∀ b o,X.base.get? b = some o → s.heap.get? b = some o ∧ H b = none:=fun b o e =>
  ⟨I.base.keep b o (I.ok.bs b o e).1 (I.ok.bs b o e).2 (I.ok.nofr e) (I.ok.noex b o e),I.base.free b o (I.ok.bs b o e).1 (I.ok.bs b o e).2 (I.ok.noex b o e)⟩
theorem Inv.bk (I : Inv X pins σ H s) : ∀ b o,X.base.get? b = some o → s.heap.get? b = some o:=fun b o e=>(I.bs b o e).1
theorem Inv.mod (I : Inv X pins σ H s) : Mod X.K X.mg X.base:=I.ok.mod
theorem Inv.kIn (I : Inv X pins σ H s) : X.K.In s.heap:=I.ok.mod.kin.keeps I.bk
theorem Inv.lt (I : Inv X pins σ H s) : X.env.locals < s.heap.objs.size:=let ⟨_,hn,_⟩:=I.loc; hn.lt
theorem Inv.sz (I : Inv X pins σ H s) : X.s_0.heap.objs.size ≤ s.heap.objs.size:=Nat.le_trans I.ok.above (Nat.le_of_lt I.lt)
theorem Inv.nofs (I : Inv X pins σ H s) {a : Addr} (h : s.heap.objs.size ≤ a) : a ∉ X.fs:=fun hb=>by
  obtain ⟨_,o,ho,_⟩:=I.ok.funs.mem hb
  exact absurd (Nat.lt_of_lt_of_le (Heap.lt_size ho) (Nat.le_trans I.sz h)) (Nat.lt_irrefl _)
theorem Inv.cne (I : Inv X pins σ H s) : ∀ x c,X.env.cells.lookup x = some c → c ≠ X.env.locals:=fun x c e z=>by
  obtain ⟨v,o,ho,hd⟩:=I.cell x c e
  obtain ⟨m,⟨o',es,ep,ho',hd',_⟩,_⟩:=I.loc
  rw [z,ho'] at ho; cases ho; rw [hd'] at hd; cases hd
theorem Inv.funs (I : Inv X pins σ H s) : s.heap.FunFrames X.base X.outer:=by
  have all : ∀ (l : List Env),(∀ b ∈ frs l,b ∈ X.fs) → X.s_0.heap.FunFrames X.base l → s.heap.FunFrames X.base l:=by
    intro l
    induction l with
    | nil=>intro _ _; trivial
    | cons env r ih =>
      intro hs hl
      obtain ⟨hk,⟨L,o,hf,hn,ho,hd⟩,hr⟩:=hl
      have hL : L ∈ X.fs:=hs L (by unfold frs; rw [List.filterMap_cons,hf]; exact List.mem_cons_self)
      obtain ⟨sl,e⟩:=I.base.slot L o ho (I.ok.frf L hL) hL fun z=>I.ok.exfs L z hL
      exact ⟨hk,⟨L,_,hf,hn,e,hd⟩,ih (fun b hb=>hs b (by unfold frs; rw [List.filterMap_cons,hf]; exact List.mem_cons_of_mem _ hb)) hr⟩
  exact all X.outer (fun _ hb=>hb) I.ok.funs
theorem Inv.stack (I : Inv X pins σ H s) : s.heap.FunFrames X.base X.stack:=by
  rcases I.ok.stk with e | ⟨e,hf⟩
  · rw [e]; exact I.funs
  · rw [e]
    obtain ⟨m,hn,_⟩:=I.loc
    refine .cons (by rw [I.ok.kind]; decide) hf hn ?_ I.funs
    exact Heap.get?_none_of_le (Nat.le_trans I.ok.bsz I.ok.above)
theorem Inv.stkSub (I : Inv X pins σ H s) : ∀ b ∈ frs X.stack,b ∈ X.env.locals :: X.fs:=fun b hb=>by
  rcases I.ok.stk with e | ⟨e,hf⟩
  · rw [e] at hb; exact List.mem_cons_of_mem _ hb
  · rw [e] at hb
    unfold frs at hb
    rw [List.filterMap_cons,hf] at hb
    exact hb
theorem Inv.stkFree (I : Inv X pins σ H s) : ∀ b ∈ frs X.stack,H b = none:=fun b hb=>by
  rcases List.mem_cons.mp (I.stkSub b hb) with e | hb
  · rw [e]; exact I.free
  · obtain ⟨_,o,ho,_⟩:=I.ok.funs.mem hb
    exact I.base.free b o ho (I.ok.frf b hb) fun z=>I.ok.exfs b z hb
theorem Inv.step {g' : Array GenState} {t' : Nat} {d' : Drawn} {ch : List Addr} (I : Inv X pins σ H s)
    (hch : ∀ b ∈ ch,(b ∈ X.ex ∨ X.s_0.heap.objs.size ≤ b) ∧ b ≠ X.env.locals ∧ (∀ x c,X.env.cells.lookup x = some c → c ≠ b) ∧ ∀ p ∈ X.pn ++ pins,p.1 ≠ b)
    (keep : ∀ b o,b ≠ X.env.locals → b ∉ X.fs → b ∉ ch → s.heap.get? b = some o → H b = none → h'.get? b = some o)
    (slot : ∀ b o,b ≠ X.env.locals → b ∈ X.fs → b ∉ ch → s.heap.get? b = some o → H b = none → ∃ sl,h'.get? b = some { o with slots:=sl }) (free : ∀ b o,b ∉ ch → s.heap.get? b = some o → H b = none → H' b = none)
    (there : ∀ b o,b ∉ ch → s.heap.get? b = some o → ∃ o',h'.get? b = some o')
    (tups : ∀ b xs,H b = some (.tup xs) → H' b = some (.tup xs)) (frzs : ∀ b o u,H b = some (.frz o u) → H' b = some (.frz o u)) (tbls : ∀ b ps,H b = some (.tbl ps) → ∃ more,H' b = some (.tbl (ps ++ more)))
    (ns : ∀ m,s.heap.Ns X.env.locals m → h'.Ns X.env.locals m) (hok : HOk X.prog X.w H' h') (hg : AllBare g') :
    Inv X pins σ H' { s with heap:=h',gens:=g',drawn:=d',toks:=t' }:=by
  have neL : ∀ b o,X.s_0.heap.get? b = some o → b ≠ X.env.locals:=fun b o e=>Nat.ne_of_lt (Nat.lt_of_lt_of_le (Heap.lt_size e) I.ok.above)
  have neC : ∀ b o,X.s_0.heap.get? b = some o → b ∉ X.ex → b ∉ ch:=fun b o e hx hb=>by
    rcases (hch b hb).1 with z | z
    · exact hx z
    · exact absurd (Nat.lt_of_lt_of_le (Heap.lt_size e) z) (Nat.lt_irrefl _)
  have cellK : ∀ x c,X.env.cells.lookup x = some c → ∀ v,s.heap.IsCell c v → h'.IsCell c v:=fun x c e v ⟨o,ho,hd⟩=>by
    have nch : c ∉ ch:=fun z=>(hch c z).2.2.1 x c e rfl
    by_cases hc : c ∈ X.fs
    · obtain ⟨sl,q⟩:=slot c o (I.cne x c e) hc nch ho (I.freeC x c e)
      exact ⟨_,q,hd⟩
    · exact ⟨o,keep c o (I.cne x c e) hc nch ho (I.freeC x c e),hd⟩
  refine ⟨I.ok,I.os,hg,⟨fun b o e n hb hx=>?_,fun b o e n hb hx=>?_,fun b o e n hx=>?_,fun b o e hx=>?_,fun b xs e=>tups b xs (I.base.tups b xs e),fun b o xs e=>frzs b o xs (I.base.frzs b o xs e),fun b ps e=>?_⟩,?_,fun x c e=>?_,?_,fun x c e=>?_,fun p hp=>?_,hok,I.len⟩
  · exact keep b o (neL b o e) hb (neC b o e hx) (I.base.keep b o e n hb hx) (I.base.free b o e n hx)
  · obtain ⟨sl,e1⟩:=I.base.slot b o e n hb hx
    obtain ⟨sl',e2⟩:=slot b _ (neL b o e) hb (neC b o e hx) e1 (I.base.free b o e n hx)
    exact ⟨sl',e2⟩
  · obtain ⟨o',e1⟩:=I.base.there b o e hx
    exact free b o' (neC b o e hx) e1 (I.base.free b o e n hx)
  · obtain ⟨o',e1⟩:=I.base.there b o e hx
    exact there b o' (neC b o e hx) e1
  · obtain ⟨m1,e1⟩:=I.base.tbls b ps e
    obtain ⟨m2,e2⟩:=tbls b _ e1
    exact ⟨m1 ++ m2,by rw [e2,Array.append_assoc]⟩
  · obtain ⟨m,hn,hl⟩:=I.loc
    refine ⟨m,ns m hn,fun i x v e1 e2 e3=>?_⟩
    obtain ⟨u,r,l⟩:=hl i x v e1 e2 e3
    refine ⟨u,r,?_⟩
    rcases l with l | ⟨k,c,e,z⟩
    · exact .inl l
    · exact .inr ⟨k,c,e,cellK x c e _ z⟩
  · obtain ⟨v,z⟩:=I.cell x c e
    exact ⟨v,cellK x c e v z⟩
  · obtain ⟨m,⟨o,_,_,ho,_⟩,_⟩:=I.loc
    exact free _ o (fun z=>(hch _ z).2.1 rfl) ho I.free
  · obtain ⟨v,o,ho,hd⟩:=I.cell x c e
    exact free c o (fun z=>(hch c z).2.2.1 x c e rfl) ho (I.freeC x c e)
  · obtain ⟨e,n,ne,nf,d⟩:=I.pin p hp
    have nch : p.1 ∉ ch:=fun z=>(hch p.1 z).2.2.2 p hp rfl
    exact ⟨keep p.1 p.2 ne nf nch e n,free p.1 p.2 nch e n,ne,nf,d⟩
theorem Inv.un {t' : Nat} (I : Inv X pins σ H s) (u : Un X.fs [] H H' s.heap h') (hok : HOk X.prog X.w H' h') : Inv X pins σ H' { s with heap:=h',toks:=t' }:=by
  obtain ⟨m,⟨o,es,ep,ho,r⟩,_⟩:=id I.loc
  obtain ⟨sl,hL⟩:=u.any ho I.free (by simp)
  exact I.step (g':=s.gens) (d':=s.drawn) (ch:=[]) (fun _ z=>nomatch z) (fun b o _ hb _ e n=>u.keep b o e n hb (by simp)) (fun b o _ hb _ e n=>u.slot b o e n hb (by simp)) (fun b o _ e n=>u.free b o e n (by simp)) (fun b o _ e=>u.there b o e (by simp)) u.tups u.frzs u.tbls (fun m' hm=>by
    obtain ⟨o',es',ep',ho',r'⟩:=hm
    rw [ho] at ho'; cases ho'
    exact ⟨_,es',ep',hL,r'⟩) hok I.bare
theorem Inv.call {g' : Array GenState} {t' : Nat} {d' : Drawn} {ch : List Addr} (I : Inv X pins σ H s) (u : Un (frs X.stack) ch H H' s.heap h') (hok : HOk X.prog X.w H' h') (hg : AllBare g')
    (hch : ∀ b ∈ ch,(b ∈ X.ex ∨ X.s_0.heap.objs.size ≤ b) ∧ b ≠ X.env.locals ∧ (∀ x c,X.env.cells.lookup x = some c → c ≠ b) ∧ ∀ p ∈ X.pn ++ pins,p.1 ≠ b) :
    Inv X pins σ H' { s with heap:=h',gens:=g',drawn:=d',toks:=t' }:=by
  obtain ⟨m,⟨o,es,ep,ho,r⟩,_⟩:=id I.loc
  obtain ⟨sl,hL⟩:=u.any ho I.free fun z=>(hch _ z).2.1 rfl
  exact I.step (ch:=ch) hch (fun b o hL hb hc e n=>u.keep b o e n (fun z=>(List.mem_cons.mp (I.stkSub b z)).elim hL hb) hc) (fun b o _ _ hc e n=>u.any e n hc) (fun b o hc e n=>u.free b o e n hc) (fun b o hc e=>u.there b o e hc) u.tups u.frzs u.tbls (fun m' hm=>by
    obtain ⟨o',es',ep',ho',r'⟩:=hm
    rw [ho] at ho'; cases ho'
    exact ⟨_,es',ep',hL,r'⟩) hok hg
theorem Inv.turned {t' : Nat} {it : Addr} (I : Inv X pins σ H s) (k : ∀ b o,b ≠ it → s.heap.get? b = some o → h'.get? b = some o) (hn : H it = none) (hL : it ≠ X.env.locals)
    (h1 : it ∈ X.ex ∨ X.s_0.heap.objs.size ≤ it) (h2 : ∀ x c,X.env.cells.lookup x = some c → c ≠ it) (h3 : ∀ p ∈ X.pn ++ pins,p.1 ≠ it) : Inv X pins σ H { s with heap:=h',toks:=t' }:=by
  have nit : ∀ b u,H b = some u → b ≠ it:=fun b u e z=>by rw [z,hn] at e; cases e
  refine I.step (g':=s.gens) (d':=s.drawn) (ch:=[it]) (fun b hb=>?_) (fun b o _ _ hc e _=>k b o (fun z=>hc (by simp [z])) e) (fun b o _ _ hc e _=>⟨o.slots,k b o (fun z=>hc (by simp [z])) e⟩) (fun _ _ _ _ n=>n)
    (fun b o hc e=>⟨o,k b o (fun z=>hc (by simp [z])) e⟩) (fun _ _ e=>e) (fun _ _ _ e=>e) (fun b ps e=>⟨#[],by rw [e]; simp⟩) (fun m hm=>?_) (fun b u e=>?_) I.bare
  · have e : b = it:=by simpa using hb
    subst e
    exact ⟨h1,hL,h2,h3⟩
  · obtain ⟨o,es,ep,ho,r⟩:=hm
    exact ⟨o,es,ep,k _ o (Ne.symm hL) ho,r⟩
  · refine (I.hok b u e).stay (fun c v hc q=>k c v ?_ q) (fun _ q=>q) fun _ _ q=>q
    rcases hc with z | z
    · rw [z]; exact nit b u e
    · exact nit c _ z
theorem Inv.tok (I : Inv X pins σ H s) (t : Nat) : Inv X pins σ H { s with toks:=t }:=I.un (h':=s.heap) (t':=t) Un.refl I.hok
theorem Inv.kept {t' : Nat} (I : Inv X pins σ H s) (k : ∀ b u,s.heap.get? b = some u → h'.get? b = some u) : Inv X pins σ H { s with heap:=h',toks:=t' }:=I.un (Un.kept k) (I.hok.kept k)
theorem Inv.laid {a : Addr} {o : HO} {t' : Nat} (I : Inv X pins σ H s) (k : ∀ b u,s.heap.get? b = some u → h'.get? b = some u) (hp : s.heap.objs.size ≤ a) (new : ObjOk X.prog X.w (upd H a o) h' a o) :
    Inv X pins σ (upd H a o) { s with heap:=h',toks:=t' }:=I.un (Un.laid k hp (I.hok.fresh hp)) (I.hok.laid k hp new)
theorem Inv.write {x e : Addr} {o : HO} {t' : Nat} (I : Inv X pins σ H s) (mu : Mut (H x)) (he : e = x ∨ H e = some (.own x)) (k : ∀ b u,b ≠ e → s.heap.get? b = some u → h'.get? b = some u) (heo : ∃ u,h'.get? e = some u)
    (new : ObjOk X.prog X.w (upd H x o) h' x o) : Inv X pins σ (upd H x o) { s with heap:=h',toks:=t' }:=I.un (Un.write mu he k heo) (I.hok.write mu he k heo new)
theorem Inv.weak {σ' : List (Option V)} (I : Inv X pins σ H s) (hl : σ'.length = σ.length) (w : ∀ (i : Nat) v,σ'[i]? = some (some v) → σ[i]? = some (some v)) : Inv X pins σ' H s :=
  ⟨I.ok,I.os,I.bare,I.base,let ⟨m,hn,hl'⟩:=I.loc; ⟨m,hn,fun i x v e1 e2 e3=>hl' i x v e1 (w i v e2) e3⟩,I.cell,I.free,I.freeC,I.pin,I.hok,hl.trans I.len⟩
theorem Inv.pins_of {pins' : List (Addr × Obj)} (I : Inv X pins σ H s) (h : ∀ p ∈ pins',s.heap.get? p.1 = some p.2 ∧ H p.1 = none ∧ p.1 ≠ X.env.locals ∧ p.1 ∉ X.fs ∧ ∀ v,p.2.data ≠ .cell v) : Inv X pins' σ H s :=
  ⟨I.ok,I.os,I.bare,I.base,I.loc,I.cell,I.free,I.freeC,fun p hp=>(List.mem_append.mp hp).elim (fun z=>I.pin p (List.mem_append_left _ z)) (h p),I.hok,I.len⟩
theorem nodup_ix {N : List Str} (hN : N.Nodup) {i j : Nat} {x : Str} (a : N[i]? = some x) (b : N[j]? = some x) : i = j:=by
  obtain ⟨h1,e1⟩:=List.getElem?_eq_some_iff.mp a
  obtain ⟨h2,e2⟩:=List.getElem?_eq_some_iff.mp b
  exact (List.getElem_inj hN).mp (e1.trans e2.symm)
theorem store_ok2 {M : Model} {A : Around} {E : Value → Shared → Prop} {i : Nat} {x : Str} {v : V} {u : Value} {Q : Unit → Shared → Prop} (I : Inv X pins σ H s) (hN : X.N.Nodup) (hi : X.N[i]? = some x) (hx : Loc X.env.scope x) (r : RelV v u)
    (h : ∀ s',Inv X pins (σ.set i (some v)) H s' → (∃ a,Heap.SameBut a s.heap s'.heap ∧ (a = X.env.locals ∨ X.env.cells.lookup x = some a)) → Q () s') (hf : X.fn x = true ∨ X.env.scope.names.lookup x = some .local:=by first | exact .inl rfl | exact .inr rfl | assumption) : wpAny M A (storeName X.env x u) Q E s:=by
  obtain ⟨m,hn,hl⟩:=id I.loc
  have hcls : (X.env.scope.kind == .class || (X.env.scope.kind == .module && X.env.locals != X.env.globals)) = false:=by rw [I.ok.kind]; rfl
  have hiσ : i < σ.length:=by rw [I.len]; exact (List.getElem?_eq_some_iff.mp hi).1
  have cne:=I.cne
  have tracked : ∀ {a : Addr} {h' : Heap},(∃ o,s.heap.get? a = some o ∧ H a = none) → Heap.SameBut a s.heap h' → HOk X.prog X.w H h':=fun {a h'} ha hs b ob e=>by
    obtain ⟨_,_,hfree⟩:=ha
    refine (I.hok b ob e).stay (fun c w' hc q=>(hs.2 c ?_).trans q) (fun _ q=>q) fun _ _ q=>q
    rintro rfl
    rcases hc with rfl | hc
    · rw [hfree] at e; cases e
    · rw [hfree] at hc; cases hc
  rcases hx with hk | hk
  · refine wpAny_storeName_local hk hn (fun h' hn' hs=>?_) hcls
    obtain ⟨oL,_,_,hoL,_⟩:=id hn
    refine h _ ⟨I.ok,I.os,I.bare,⟨fun b o e n hb hx=>?_,fun b o e n hb hx=>?_,I.base.free,fun b o e hx=>?_,I.base.tups,I.base.frzs,I.base.tbls⟩,⟨_,hn',fun j y v' e1 e2 e3=>?_⟩,fun y c e=>?_,I.free,I.freeC,fun p hp=>?_,tracked ⟨oL,hoL,I.free⟩ hs,by simpa using I.len⟩ ⟨_,hs,.inl rfl⟩
    · exact (hs.2 b (Nat.ne_of_lt (Nat.lt_of_lt_of_le (Heap.lt_size e) I.ok.above))).trans (I.base.keep b o e n hb hx)
    · obtain ⟨sl,e1⟩:=I.base.slot b o e n hb hx
      exact ⟨sl,(hs.2 b (Nat.ne_of_lt (Nat.lt_of_lt_of_le (Heap.lt_size e) I.ok.above))).trans e1⟩
    · obtain ⟨o',e1⟩:=I.base.there b o e hx
      exact ⟨o',(hs.2 b (Nat.ne_of_lt (Nat.lt_of_lt_of_le (Heap.lt_size e) I.ok.above))).trans e1⟩
    · by_cases hj : j = i
      · subst hj
        rw [hi] at e1; cases e1
        rw [List.getElem?_set_self hiσ] at e2
        cases e2
        exact ⟨u,r,.inl ⟨hk,by simp⟩⟩
      · rw [List.getElem?_set_ne (Ne.symm hj)] at e2
        obtain ⟨u',r',q⟩:=hl j y v' e1 e2 e3
        refine ⟨u',r',?_⟩
        rcases q with ⟨k,e⟩ | ⟨k,c,e,z⟩
        · refine .inl ⟨k,?_⟩
          have : y ≠ x:=fun e=>hj (nodup_ix hN e1 (e ▸ hi))
          simp [this,e]
        · exact .inr ⟨k,c,e,z.sameBut hs (cne y c e)⟩
    · obtain ⟨w',z⟩:=I.cell y c e
      exact ⟨w',z.sameBut hs (cne y c e)⟩
    · obtain ⟨e,n,ne,nf,d⟩:=I.pin p hp
      exact ⟨(hs.2 p.1 ne).trans e,n,ne,nf,d⟩
  · have hfn : X.fn x = true:=by
      rcases hf with z | z
      · exact z
      · rw [z] at hk; cases hk
    obtain ⟨c,hc⟩:=I.ok.has x (.inl hk)
    obtain ⟨w',z⟩:=I.cell x c hc
    refine wpAny_storeName_cell I.ok.kind hk hc z (fun h' hc' hs=>?_)
    obtain ⟨oc,hoc,hocd⟩:=id z
    refine h { s with heap:=h' } ⟨I.ok,I.os,I.bare,⟨fun b o e n hb hx=>?_,fun b o e n hb hx=>?_,I.base.free,fun b o e hx=>?_,I.base.tups,I.base.frzs,I.base.tbls⟩,⟨m,hn.sameBut hs (Ne.symm (cne x c hc)),fun j y v' e1 e2 e3=>?_⟩,fun y c' e=>?_,I.free,I.freeC,fun p hp=>?_,tracked ⟨oc,hoc,I.freeC x c hc⟩ hs,by simpa using I.len⟩ ⟨c,hs,.inr hc⟩
    · exact (hs.2 b (Nat.ne_of_lt (Nat.lt_of_lt_of_le (Heap.lt_size e) (I.ok.cab x c hfn hc)))).trans (I.base.keep b o e n hb hx)
    · obtain ⟨sl,e1⟩:=I.base.slot b o e n hb hx
      exact ⟨sl,(hs.2 b (Nat.ne_of_lt (Nat.lt_of_lt_of_le (Heap.lt_size e) (I.ok.cab x c hfn hc)))).trans e1⟩
    · obtain ⟨o',e1⟩:=I.base.there b o e hx
      exact ⟨o',(hs.2 b (Nat.ne_of_lt (Nat.lt_of_lt_of_le (Heap.lt_size e) (I.ok.cab x c hfn hc)))).trans e1⟩
    · by_cases hj : j = i
      · subst hj
        rw [hi] at e1; cases e1
        rw [List.getElem?_set_self hiσ] at e2
        cases e2
        exact ⟨u,r,.inr ⟨.inl hk,c,hc,hc'⟩⟩
      · rw [List.getElem?_set_ne (Ne.symm hj)] at e2
        obtain ⟨u',r',q⟩:=hl j y v' e1 e2 e3
        refine ⟨u',r',?_⟩
        rcases q with q | ⟨k,c',e,z'⟩
        · exact .inl q
        · refine .inr ⟨k,c',e,z'.sameBut hs ?_⟩
          rintro rfl
          exact hj (nodup_ix hN e1 (I.ok.inj _ _ _ e hc ▸ hi))
    · by_cases hcc : c' = c
      · subst hcc; exact ⟨_,hc'⟩
      · obtain ⟨w2,z2⟩:=I.cell y c' e
        exact ⟨w2,z2.sameBut hs hcc⟩
    · obtain ⟨e,n,ne,nf,d⟩:=I.pin p hp
      refine ⟨(hs.2 p.1 ?_).trans e,n,ne,nf,d⟩
      intro q
      rw [q,hoc] at e
      have q' : oc = p.2:=Option.some.inj e
      exact d w' (by rw [← q']; exact hocd)
theorem store_ok {M : Model} {A : Around} {E : Value → Shared → Prop} {i : Nat} {x : Str} {v : V} {u : Value} {Q : Unit → Shared → Prop} (I : Inv X pins σ H s) (hN : X.N.Nodup) (hi : X.N[i]? = some x) (hx : Loc X.env.scope x) (r : RelV v u)
    (h : ∀ s',Inv X pins (σ.set i (some v)) H s' → Q () s') (hf : X.fn x = true ∨ X.env.scope.names.lookup x = some .local:=by first | exact .inl rfl | exact .inr rfl | assumption) : wpAny M A (storeName X.env x u) Q E s :=
  store_ok2 I hN hi hx r (fun s' I' _=>h s' I') hf
theorem Inv.call' {s' : Shared} {ch : List Addr} (I : Inv X pins σ H s) (ho : s'.os = s.os) (u : Un (frs X.stack) ch H H' s.heap s'.heap) (hok : HOk X.prog X.w H' s'.heap) (hg : AllBare s'.gens)
    (hch : ∀ b ∈ ch,(b ∈ X.ex ∨ X.s_0.heap.objs.size ≤ b) ∧ b ≠ X.env.locals ∧ (∀ x c,X.env.cells.lookup x = some c → c ≠ b) ∧ ∀ p ∈ X.pn ++ pins,p.1 ≠ b) : Inv X pins σ H' s':=by
  obtain ⟨h',g',d',t',o'⟩:=s'
  have e : o' = s.os:=ho
  subst e
  exact I.call (g':=g') (t':=t') (d':=d') u hok hg hch
end
abbrev XK:=Value → Option Addr → Hp → Prop
abbrev St:=List (Option V)
abbrev VK:=V → Hp → Prop
abbrev TE:=St → Hp → VK → Prop
abbrev TT:=St → Hp → (Bool → Hp → Prop) → Prop
abbrev TA:=St → Hp → (List V → Hp → Prop) → Prop
structure Ends where
  nx : St → Hp → Prop
  rt : VK
  bk : St → Hp → Prop:=fun _ _=>False
  ct : St → Hp → Prop:=fun _ _=>False
abbrev TS:=Ends → St → Hp → Prop
def EP (X : Cx) (pins : List (Addr × Obj)) (σ : St) (Q : VK) (u : Value) (s' : Shared) : Prop:=∃ v H',Inv X pins σ H' s' ∧ RelV v u ∧ Q v H'
def TP (X : Cx) (pins : List (Addr × Obj)) (σ : St) (Q : Bool → Hp → Prop) (b : Bool) (s' : Shared) : Prop:=∃ H',Inv X pins σ H' s' ∧ Q b H'
def AP (X : Cx) (pins : List (Addr × Obj)) (σ : St) (Q : List V → Hp → Prop) (us : List Value) (s' : Shared) : Prop:=∃ vs H',Inv X pins σ H' s' ∧ Vals vs us ∧ Q vs H'
def SP (X : Cx) (pins : List (Addr × Obj)) (D : Ends) (f : Flow) (s' : Shared) : Prop :=
  match f with
  | .next=>∃ σ' H',Inv X pins σ' H' s' ∧ D.nx σ' H'
  | .brk=>∃ σ' H',Inv X pins σ' H' s' ∧ D.bk σ' H'
  | .cont=>∃ σ' H',Inv X pins σ' H' s' ∧ D.ct σ' H'
  | .ret u=>∃ v σ' H',Inv X pins σ' H' s' ∧ RelV v u ∧ D.rt v H'
def PE (X : Cx) (e : Expr) (t : TE) : Prop :=
  ∀ (pins : List (Addr × Obj)) (s : Shared) (σ : St) (H : Hp) (Q : VK),Inv X pins σ H s → t σ H Q → wpAny (model X.prog X.w) X.A (eval e X.env) (EP X pins σ Q) X.xe s
def PT (X : Cx) (e : Expr) (t : TT) : Prop :=
  ∀ (pins : List (Addr × Obj)) (s : Shared) (σ : St) (H : Hp) (Q : Bool → Hp → Prop),Inv X pins σ H s → t σ H Q → wpAny (model X.prog X.w) X.A (isTrue e X.env (eval e X.env)) (TP X pins σ Q) X.xe s
def PW (X : Cx) (e : Expr) (t : TT) : Prop :=
  ∀ (whole : Sem Value) (pins : List (Addr × Obj)) (s : Shared) (σ : St) (H : Hp) (Q : Bool → Hp → Prop),Inv X pins σ H s → t σ H Q → wpAny (model X.prog X.w) X.A (isTrue e X.env whole) (TP X pins σ Q) X.xe s
theorem PW.pt {X : Cx} {e : Expr} {t : TT} (h : PW X e t) : PT X e t:=h _
def PA (X : Cx) (es : List Expr) (t : TA) : Prop :=
  ∀ (pos : Pos) (pins : List (Addr × Obj)) (s : Shared) (σ : St) (H : Hp) (Q : List V → Hp → Prop),Inv X pins σ H s → t σ H Q → wpAny (model X.prog X.w) X.A (spliced (backTo pos (starEach es X.env))) (AP X pins σ Q) X.xe s
def PS (X : Cx) (st : Stmt) (t : TS) : Prop :=
  ∀ (pins : List (Addr × Obj)) (s : Shared) (σ : St) (H : Hp) (D : Ends),Inv X pins σ H s → t D σ H → wpAny (model X.prog X.w) X.A (exec st X.env) (SP X pins D) X.xe s
def PSs (X : Cx) (st : List Stmt) (t : TS) : Prop :=
  ∀ (pins : List (Addr × Obj)) (s : Shared) (σ : St) (H : Hp) (D : Ends),Inv X pins σ H s → t D σ H → wpAny (model X.prog X.w) X.A (execs st X.env) (SP X pins D) X.xe s
theorem thn {α : Type} {t : Sem α} {Q Q' : α → Shared → Prop} {M : Model} {A : Around} {E : Value → Shared → Prop} {s : Shared} (h : wpAny M A t Q E s) (hQ : ∀ a s,Q a s → Q' a s) : wpAny M A t Q' E s:=wpAny_mono h hQ fun _ _ x=>x
end L2
namespace L2
open PySem PySem.Spec PyProof.Rows
section
variable {X : Cx}
def tVar (i : Nat) : TE:=fun σ H Q=>∃ v,σ[i]? = some (some v) ∧ Q v H
def tC (v : V) : TE:=fun _ H Q=>Q v H
theorem pe_var {i : Nat} {x : Str} {pos : Pos} (hN : X.N[i]? = some x) (hv : Vis X.env.scope x) (hd : (x == ("__debug__" : Str)) = false:=by decide) (hcd : (x == ("__classdict__" : Str)) = false:=by decide) : PE X (.Name x pos) (tVar i):=by
  intro pins s σ H Q I h
  obtain ⟨v,e,h⟩:=h
  obtain ⟨m,hn,hl⟩:=I.loc
  obtain ⟨u,r,l⟩:=hl i x v hN e hv
  have fin : EP X pins σ Q u s:=⟨v,H,I,r,h⟩
  rcases l with ⟨hk,hm⟩ | ⟨hk,c,hc,hcell⟩
  · exact wpAny_Name (wpAny_loadName_local I.ok.kind hk hn hm fin) hd
  · rcases hk with hk | hk
    · exact wpAny_Name (wpAny_loadName_cell I.ok.kind hk hc hcell fin) hd
    · exact wpAny_Name (wpAny_loadName_free I.ok.kind hk hc hcell fin hcd) hd
theorem pe_int {i j pos} : PE X (.Constant (.int i) j pos) (tC (.int i)):=fun _ _ _ H _ I h=>wpAny_Constant_int ⟨.int i,H,I.tok _,⟨_,rfl⟩,h⟩
theorem pe_bl {b j pos} : PE X (.Constant (.bool b) j pos) (tC (.bl b)):=fun _ _ _ H _ I h=>Constant_bool ⟨.bl b,H,I,rfl,h⟩
theorem pe_non {j pos} : PE X (.Constant .none j pos) (tC .non):=fun _ _ _ H _ I h=>Constant_none ⟨.non,H,I,rfl,h⟩
def Gl (X : Cx) (x : Str) : Prop:=X.env.kindOf x = some .globalImplicit
theorem ld_glob {E : Value → Shared → Prop} {pins : List (Addr × Obj)} {s : Shared} {σ : St} {H : Hp} {x : Str} {u : Value} {pos : Pos} {Q : Value → Shared → Prop} (I : Inv X pins σ H s) (hg : Gl X x) (hm : X.mg x = some u) (h : Q u s)
    (hd : (x == ("__debug__" : Str)) = false:=by decide) : wpAny (model X.prog X.w) X.A (eval (.Name x pos) X.env) Q E s :=
  Calls.Name_function_global I.ok.kind hg (Calls.loadGlobal_global (by rw [I.ok.glob]; exact I.mod.glob.keeps I.bk) hm h) hd
theorem ld_blt {E : Value → Shared → Prop} {pins : List (Addr × Obj)} {s : Shared} {σ : St} {H : Hp} {x : Str} {u : Value} {pos : Pos} {Q : Value → Shared → Prop} (I : Inv X pins σ H s) (hg : Gl X x) (hm : X.mg x = none) (hv : bootBuiltins x = some u) (h : Q u s)
    (hn : x ≠ "__name__":=by decide) (hd : (x == ("__debug__" : Str)) = false:=by decide) : wpAny (model X.prog X.w) X.A (eval (.Name x pos) X.env) Q E s:=by
  obtain ⟨mb,h1,h2⟩:=I.mod.blt
  exact Calls.Name_function_global I.ok.kind hg (Calls.loadGlobal_builtin (by rw [I.ok.glob]; exact I.mod.glob.keeps I.bk) hm (by rw [I.ok.blt]; exact h1.keeps I.bk) ((h2 x hn).trans hv) h) hd
theorem pe_glob {x : Str} {v : V} {u : Value} {pos : Pos} (hg : Gl X x) (hm : X.mg x = some u) (r : RelV v u) (hd : (x == ("__debug__" : Str)) = false:=by decide) : PE X (.Name x pos) (tC v) :=
  fun _ _ _ H _ I h=>ld_glob I hg hm ⟨v,H,I,r,h⟩ hd
variable {a b : Expr} {ta tb : TE} {pos : Pos}
def PC (X : Cx) (op : CmpOp) (a b : Expr) (t : TE) : Prop :=
  ∀ (pins : List (Addr × Obj)) (s : Shared) (σ : St) (H : Hp) (Q : VK),Inv X pins σ H s → t σ H Q →
    wpAny (model X.prog X.w) X.A (eval a X.env) (fun v s₁=>wpAny (model X.prog X.w) X.A (eval b X.env) (fun u s₂=>wpAny (model X.prog X.w) X.A (compareOp op v u) (EP X pins σ Q) X.xe s₂) X.xe s₁) X.xe s
def tIsN (ta : TE) : TE:=fun σ H Q=>ta σ H fun x H1=>Q (.bl (decide (x = .non))) H1
theorem RelV.none_iff {x : V} {v : Value} (r : RelV x v) : (v == Value.none) = decide (x = .non):=by
  cases x with
  | non=>cases r; rfl
  | bl _=>cases r; rfl
  | int _=>obtain ⟨t,rfl⟩:=r; rfl
  | str _=>obtain ⟨t,rfl⟩:=r; rfl
  | byt _=>obtain ⟨t,rfl⟩:=r; rfl
  | flt _=>obtain ⟨t,rfl⟩:=r; rfl
  | ref _=>cases r; rfl
  | ty _=>cases r; rfl
theorem pc_isN {j pos'} (ha : PE X a ta) : PC X .Is a (.Constant .none j pos') (tIsN ta):=by
  intro pins s σ H Q I h
  refine thn (ha pins s σ H _ I h) fun v s1 ⟨x,H1,I1,r1,q1⟩=>?_
  exact Constant_none (is_none_gen ⟨.bl _,H1,I1,by rw [r1.none_iff]; rfl,q1⟩)
def tB (t : TE) : TT:=fun σ H Q=>t σ H fun x H1=>∃ c,x = .bl c ∧ Q c H1
theorem pt_cmp {op : CmpOp} {t : TE} (h : PC X op a b t) (h1 : behindInMarks op b = false:=by first | exact nobehind _ (by decide) (by decide) | rfl) : PT X (.Compare a [op] [b] pos) (tB t):=by
  intro pins s σ H Q I hw
  refine wpAny_isTrue_Compare1 (thn (h pins s σ H _ I hw) fun v s1 h1=>thn h1 fun u s2 h2=>thn h2 fun c s3 ⟨x,H1,I1,r1,q1⟩=>?_) h1
  obtain ⟨d,rfl,q⟩:=q1
  cases r1
  exact wpAny_truthy_bool ⟨H1,I1,q⟩
theorem pt_val {e : Expr} {t : TE} (h : PE X e t) (he : ∀ whole,isTrue e X.env whole = (do let v ← whole; standAt e.pos; holding [v] (truthy v)):=by intro _; rfl) : PT X e (tB t):=by
  intro pins s σ H Q I hw
  refine isTrue_plain (thn (h pins s σ H _ I hw) fun v s1 ⟨x,H1,I1,r1,q1⟩=>?_) (he _)
  obtain ⟨d,rfl,q⟩:=q1
  cases r1
  exact wpAny_truthy_bool ⟨H1,I1,q⟩
variable {tA tB' : TT} {rest : List Expr}
def tAnd (t u : TT) : TT:=fun σ H Q=>t σ H fun c H1=>if c = true then u σ H1 Q else Q false H1
def tOr (t u : TT) : TT:=fun σ H Q=>t σ H fun c H1=>if c = true then Q true H1 else u σ H1 Q
def tNot (t : TT) : TT:=fun σ H Q=>t σ H fun c H1=>Q (!c) H1
theorem pw_and1 (ha : PT X a tA) : PW X (.BoolOp .And [a] pos) tA:=by
  intro wh pins s σ H Q I h
  refine isTrue_and (thn (ha pins s σ H Q I h) fun c s1 e=>?_)
  cases c with
  | true=>exact isTrue_and_nil e
  | false=>exact e
theorem pw_or1 (ha : PT X a tA) : PW X (.BoolOp .Or [a] pos) tA:=by
  intro wh pins s σ H Q I h
  refine isTrue_or (thn (ha pins s σ H Q I h) fun c s1 e=>?_)
  cases c with
  | false=>exact isTrue_or_nil e
  | true=>exact e
theorem pw_and (ha : PT X a tA) (hb : PW X (.BoolOp .And (b :: rest) pos) tB') : PW X (.BoolOp .And (a :: b :: rest) pos) (tAnd tA tB'):=by
  intro wh pins s σ H Q I h
  refine isTrue_and (thn (ha pins s σ H _ I h) fun c s1 ⟨H1,I1,q1⟩=>?_)
  cases c with
  | true=>exact hb wh pins s1 σ H1 Q I1 q1
  | false=>exact ⟨H1,I1,q1⟩
theorem pw_or (ha : PT X a tA) (hb : PW X (.BoolOp .Or (b :: rest) pos) tB') : PW X (.BoolOp .Or (a :: b :: rest) pos) (tOr tA tB'):=by
  intro wh pins s σ H Q I h
  refine isTrue_or (thn (ha pins s σ H _ I h) fun c s1 ⟨H1,I1,q1⟩=>?_)
  cases c with
  | true=>exact ⟨H1,I1,q1⟩
  | false=>exact hb wh pins s1 σ H1 Q I1 q1
theorem pt_not (ha : PT X a tA) : PT X (.UnaryOp .Not a pos) (tNot tA):=by
  intro pins s σ H Q I h
  exact isTrue_not (ha pins s σ H (fun c H1=>Q (!c) H1) I h)
def tAndV (ta tb : TE) : TE:=fun σ H Q=>ta σ H fun x H1=>∃ c,x = .bl c ∧ if c = true then tb σ H1 Q else Q (.bl false) H1
theorem pe_one {op} {t : TE} (h : PE X a t) : PE X (.BoolOp op [a] pos) t:=fun pins s σ H Q I hw=>BoolOp_one (h pins s σ H Q I hw)
theorem pe_and (ha : PE X a ta) (hb : PE X (.BoolOp .And (b :: rest) pos) tb) : PE X (.BoolOp .And (a :: b :: rest) pos) (tAndV ta tb):=by
  intro pins s σ H Q I h
  refine BoolOp_and (thn (ha pins s σ H _ I h) fun v s1 ⟨x,H1,I1,r1,q1⟩=>?_)
  obtain ⟨c,rfl,q1⟩:=q1
  cases r1
  refine wpAny_truthy_bool ?_
  cases c with
  | true=>exact hb pins s1 σ H1 Q I1 q1
  | false=>exact ⟨.bl false,H1,I1,rfl,q1⟩
def tIf (t : TT) (ta tb : TE) : TE:=fun σ H Q=>t σ H fun c H1=>if c = true then ta σ H1 Q else tb σ H1 Q
theorem pe_ifExp {c : Expr} (hc : PT X c tA) (ha : PE X a ta) (hb : PE X b tb) : PE X (.IfExp c a b pos) (tIf tA ta tb):=by
  intro pins s σ H Q I h
  refine wpAny_IfExp (thn (hc pins s σ H _ I h) fun d s1 ⟨H1,I1,q1⟩=>?_)
  cases d with
  | true=>exact ha pins s1 σ H1 Q I1 q1
  | false=>exact hb pins s1 σ H1 Q I1 q1
end
end L2
namespace L2
open PySem PySem.Spec PyProof.Rows
def SqL (K : PySem.W.Frag) (H : Hp) (a : Addr) (xs : List V) : Prop :=
  Rd H a (.lst xs) ∨
    ∃ (o : Obj) (its : Array Value) (n : Nat),K.lookup a = some o ∧ o.cls = .type "list" ∧ o.dict = none ∧ o.data = .seq its n ∧ its.size ≤ sizeLine ∧ Vals xs its.toList
def SqT (K : PySem.W.Frag) (H : Hp) (a : Addr) (xs : List V) : Prop :=
  Rd H a (.tup xs) ∨
    ∃ (o : Obj) (its : Array Value) (n : Nat),K.lookup a = some o ∧ o.cls = .type "tuple" ∧ o.data = .seq its n ∧ its.size ≤ sizeLine ∧ Vals xs its.toList
def absV : Value → Option V
  | .none=>some .non
  | .bool b=>some (.bl b)
  | .int i _=>some (.int i)
  | .str x _=>some (.str x)
  | .bytes b _=>some (.byt b)
  | .float b _=>some (.flt b)
  | .ref a=>some (.ref a)
  | .type n=>some (.ty n)
  | _=>none
theorem RelV.abs {x : V} {u : Value} (r : RelV x u) : absV u = some x:=by
  cases x with
  | non=>cases r; rfl
  | bl _=>cases r; rfl
  | int _=>obtain ⟨t,rfl⟩:=r; rfl
  | str _=>obtain ⟨t,rfl⟩:=r; rfl
  | byt _=>obtain ⟨t,rfl⟩:=r; rfl
  | flt _=>obtain ⟨t,rfl⟩:=r; rfl
  | ref _=>cases r; rfl
  | ty _=>cases r; rfl
theorem RelV.inj {x y : V} {u : Value} (r : RelV x u) (q : RelV y u) : x = y:=Option.some.inj (r.abs.symm.trans q.abs)
theorem Vals.inj : ∀ {xs ys : List V} {us : List Value},Vals xs us → Vals ys us → xs = ys
  | _,_,_,.nil,.nil=>rfl
  | _,_,_,.cons r t,.cons r' t'=>by rw [r.inj r',Vals.inj t t']
section
variable {X : Cx} {pins : List (Addr × Obj)} {σ : St} {H : Hp} {s : Shared} {a : Addr} {xs ys : List V}
theorem SqL.of {K : PySem.W.Frag} (h : H a = some (.lst xs)) : SqL K H a xs:=.inl (.inl h)
theorem SqT.of {K : PySem.W.Frag} (h : H a = some (.tup xs)) : SqT K H a xs:=.inl (.inl h)
theorem Inv.list (I : Inv X pins σ H s) (h : SqL X.K H a xs) : ∃ its : List Value,Vals xs its ∧ PlainL s.heap a its.toArray ∧ xs.length ≤ sizeLine:=by
  rcases h with h | ⟨o,its,n,hk,hc,hd,hs,hz,r⟩
  · obtain ⟨z,its,n,r,e⟩:=h.ok I.hok
    exact ⟨its,r,⟨_,n,e,rfl,rfl,rfl⟩,z⟩
  · refine ⟨its.toList,r,⟨o,n,I.kIn a o hk,hc,hd,by simpa using hs⟩,?_⟩
    have e:=r.length
    simp only [Array.length_toList] at e
    omega
theorem Inv.tuple (I : Inv X pins σ H s) (h : SqT X.K H a xs) : ∃ its : List Value,Vals xs its ∧ IsTup s.heap a its.toArray ∧ xs.length ≤ sizeLine:=by
  rcases h with h | ⟨o,its,n,hk,hc,hs,hz,r⟩
  · obtain ⟨z,its,r,p⟩:=h.ok I.hok
    exact ⟨its,r,p,z⟩
  · refine ⟨its.toList,r,⟨o,I.kIn a o hk,hc,n,by simpa using hs⟩,?_⟩
    have e:=r.length
    simp only [Array.length_toList] at e
    omega
theorem Inv.list_inj (I : Inv X pins σ H s) (h : SqL X.K H a xs) (h' : SqL X.K H a ys) : xs = ys:=by
  obtain ⟨its,r,⟨o,n,e,_,_,d⟩,_⟩:=I.list h
  obtain ⟨its',r',⟨o',n',e',_,_,d'⟩,_⟩:=I.list h'
  rw [e] at e'; cases e'
  rw [d] at d'
  injection d' with d1 _
  have : its = its':=by simpa using congrArg Array.toList d1
  subst this
  exact r.inj r'
end
abbrev Cx.wish (X : Cx) (E : Value → Shared → Prop) : Cx:={ X with xe:=E }
abbrev Cx.nox (X : Cx) : Cx:=X.wish fun _ _=>False
theorem Cx.Ok.wish {X : Cx} (ok : X.Ok) (E : Value → Shared → Prop) : (X.wish E).Ok :=
  ⟨ok.mod,ok.kind,ok.glob,ok.blt,ok.above,ok.inj,ok.has,ok.cab,ok.hd,ok.frames,ok.stk,ok.exf,ok.bs,ok.bsz,ok.noex,ok.exfs,ok.funs,ok.frf⟩
theorem Cx.Ok.unwish {X : Cx} {E : Value → Shared → Prop} (ok : (X.wish E).Ok) : X.Ok :=
  ⟨ok.mod,ok.kind,ok.glob,ok.blt,ok.above,ok.inj,ok.has,ok.cab,ok.hd,ok.frames,ok.stk,ok.exf,ok.bs,ok.bsz,ok.noex,ok.exfs,ok.funs,ok.frf⟩
section
variable {X : Cx} {pins : List (Addr × Obj)} {σ : St} {H : Hp} {s : Shared} {E : Value → Shared → Prop}
theorem Inv.wish (I : Inv X pins σ H s) (E : Value → Shared → Prop) : Inv (X.wish E) pins σ H s:=⟨I.ok.wish E,I.os,I.bare,I.base,I.loc,I.cell,I.free,I.freeC,I.pin,I.hok,I.len⟩
theorem Inv.unwish (I : Inv (X.wish E) pins σ H s) : Inv X pins σ H s:=⟨I.ok.unwish,I.os,I.bare,I.base,I.loc,I.cell,I.free,I.freeC,I.pin,I.hok,I.len⟩
theorem SP.unwish {D : Ends} {f : Flow} {s' : Shared} (h : SP (X.wish E) pins D f s') : SP X pins D f s':=by
  cases f with
  | next=>obtain ⟨σ',H',I,q⟩:=h; exact ⟨σ',H',I.unwish,q⟩
  | brk=>obtain ⟨σ',H',I,q⟩:=h; exact ⟨σ',H',I.unwish,q⟩
  | cont=>obtain ⟨σ',H',I,q⟩:=h; exact ⟨σ',H',I.unwish,q⟩
  | ret u=>obtain ⟨v,σ',H',I,r,q⟩:=h; exact ⟨v,σ',H',I.unwish,r,q⟩
theorem PSs.nox {st : List Stmt} {t : TS} (h : PSs X.nox st t) : PSs X st t:=fun pins s σ H D I hw =>
  wpAny_mono (h pins s σ H D (I.wish _) hw) (fun _ _ q=>q.unwish) fun _ _ z=>False.elim z
end
section
variable {X : Cx} {st : Stmt} {rest : List Stmt} {t u : TS} {e : Expr} {te : TE} {pos : Pos}
def tNext : TS:=fun D σ H=>D.nx σ H
def tSeq (t u : TS) : TS:=fun D σ H=>t { D with nx:=u D } σ H
theorem pss_nil : PSs X [] tNext:=fun _ _ σ H _ I h=>wpAny_execs_nil ⟨σ,H,I,h⟩
theorem pss_cons (h1 : PS X st t) (h2 : PSs X rest u) : PSs X (st :: rest) (tSeq t u):=by
  intro pins s σ H D I h
  refine wpAny_execs_cons (thn (h1 pins s σ H { D with nx:=u D } I h) fun f s1 q=>?_)
  cases f with
  | next =>
    obtain ⟨σ',H',I',q⟩:=q
    exact h2 pins s1 σ' H' D I' q
  | ret v=>exact q
  | brk=>exact q
  | cont=>exact q
theorem pss_one (h1 : PS X st t) : PSs X [st] t:=by
  intro pins s σ H D I h
  refine wpAny_execs_cons (thn (h1 pins s σ H D I h) fun f s1 q=>?_)
  cases f with
  | next=>exact wpAny_execs_nil q
  | ret v=>exact q
  | brk=>exact q
  | cont=>exact q
theorem Inv.quiet {pins : List (Addr × Obj)} {σ : St} {H : Hp} {s : Shared} (I : Inv X pins σ H s) : interactive X.env = false:=by simp [interactive,I.ok.kind]
def tDrop (te : TE) : TS:=fun D σ H=>te σ H fun _ H1=>D.nx σ H1
theorem ps_expr (he : PE X e te) (hs : swapsWith e none pos.line X.env = pure false:=by rfl) : PS X (.Expr e pos) (tDrop te):=by
  intro pins s σ H D I h
  exact wpAny_Expr_any (thn (he pins s σ H _ I h) fun v s1 ⟨x,H1,I1,r1,q1⟩=>⟨σ,H1,I1,q1⟩) I.quiet hs
def tRet (te : TE) : TS:=fun D σ H=>te σ H D.rt
theorem ps_ret (he : PE X e te) : PS X (.Return (some e) pos) (tRet te):=by
  intro pins s σ H D I h
  exact wpAny_Return_some (thn (he pins s σ H _ I h) fun v s1 ⟨x,H1,I1,r1,q1⟩=>⟨x,σ,H1,I1,r1,q1⟩)
def tIfS (c : TT) (t u : TS) : TS:=fun D σ H=>c σ H fun b H1=>if b = true then t D σ H1 else u D σ H1
theorem ps_if {c : Expr} {a b : List Stmt} {tc : TT} (hc : PT X c tc) (ha : PSs X a t) (hb : PSs X b u) : PS X (.If c a b pos) (tIfS tc t u):=by
  intro pins s σ H D I h
  refine wpAny_If (thn (hc pins s σ H _ I h) fun d s1 ⟨H1,I1,q1⟩=>?_)
  cases d with
  | true=>exact ha pins s1 σ H1 D I1 q1
  | false=>exact hb pins s1 σ H1 D I1 q1
end
abbrev TG:=V → St → Hp → (St → Hp → Prop) → Prop
def PG (X : Cx) (target : Expr) (t : TG) : Prop :=
  ∀ (pins : List (Addr × Obj)) (s : Shared) (σ : St) (H : Hp) (v : V) (u : Value) (Q : St → Hp → Prop),Inv X pins σ H s → RelV v u → t v σ H Q →
    wpAny (model X.prog X.w) X.A (assign target X.env u) (fun _ s'=>∃ σ' H',Inv X pins σ' H' s' ∧ Q σ' H') X.xe s
abbrev TSet:=V → V → V → Hp → (Hp → Prop) → Prop
def PSet (X : Cx) (t : TSet) : Prop :=
  ∀ (pins : List (Addr × Obj)) (s : Shared) (σ : St) (H : Hp) (o i v : V) (ov iv u : Value) (Q : Hp → Prop),Inv X pins σ H s → RelV o ov → RelV i iv → RelV v u → t o i v H Q →
    wpAny (model X.prog X.w) X.A (setItem ov iv u) (fun _ s'=>∃ H',Inv X pins σ H' s' ∧ Q H') X.xe s
abbrev TIp:=V → V → Hp → VK → Prop
def PIp (X : Cx) (op : Operator) (t : TIp) : Prop :=
  ∀ (pins : List (Addr × Obj)) (s : Shared) (σ : St) (H : Hp) (x y : V) (v u : Value) (Q : VK),Inv X pins σ H s → RelV x v → RelV y u → t x y H Q →
    wpAny (model X.prog X.w) X.A (inplaceOp op v u) (EP X pins σ Q) X.xe s
section
variable {X : Cx} {pos : Pos}
def gName (i : Nat) : TG:=fun v σ H Q=>Q (σ.set i (some v)) H
theorem pg_name {i : Nat} {x : Str} (hN : X.N.Nodup) (hi : X.N[i]? = some x) (hx : Loc X.env.scope x) (hf : X.fn x = true ∨ X.env.scope.names.lookup x = some .local:=by first | exact .inl rfl | exact .inr rfl | assumption) : PG X (.Name x pos) (gName i):=by
  intro pins s σ H v u Q I r h
  exact wpAny_assign_Name (store_ok I hN hi hx r (fun s' I'=>⟨_,H,I',h⟩) hf)
def gSub (to ti : TE) (t : TSet) : TG:=fun v σ H Q=>to σ H fun o H1=>ti σ H1 fun i H2=>t o i v H2 fun H3=>Q σ H3
theorem pg_sub {o i : Expr} {to ti : TE} {t : TSet} (ho : PE X o to) (hi : PE X i ti) (hs : PSet X t)
    (ha : ∀ v,assign (.Subscript o i pos) X.env v = (do
      let ov ← holding [v] (eval o X.env)
      let iv ← holding [v,ov] (eval i X.env)
      standAt pos
      holding [v,ov,iv] (setItem ov iv v)
      release [v,ov,iv] []):=by intro _; rfl) : PG X (.Subscript o i pos) (gSub to ti t):=by
  intro pins s σ H v u Q I r h
  rw [ha]
  refine wpAny_bind (wpAny_holding (thn (ho pins s σ H _ I h) fun ov s1 ⟨x,H1,I1,r1,q1⟩=>?_))
  refine wpAny_bind (wpAny_holding (thn (hi pins s1 σ H1 _ I1 q1) fun iv s2 ⟨y,H2,I2,r2,q2⟩=>?_))
  refine wpAny_bind (wpAny_standAt (wpAny_bind (wpAny_holding (thn (hs pins s2 σ H2 x y v ov iv u _ I2 r1 r2 r q2) fun _ s3 ⟨H3,I3,q3⟩=>?_))))
  exact wpAny_release ⟨σ,H3,I3,q3⟩
def tAsg (te : TE) (g : TG) : TS:=fun D σ H=>te σ H fun x H1=>g x σ H1 D.nx
theorem ps_asg {tg e : Expr} {te : TE} {g : TG} (he : PE X e te) (hg : PG X tg g) (hs : swapsWithSole [tg] e pos.line X.env = pure false:=by rfl) (hw : swappedStores [tg] e X.env = pure none:=by rfl)
    (h1 : (assignEach [tg] X.env).map (·.2) = [assign tg X.env]:=by rfl) : PS X (.Assign [tg] e pos) (tAsg te g):=by
  intro pins s σ H D I h
  refine wpAny_Assign_stores (thn (he pins s σ H _ I h) fun v s1 ⟨x,H1,I1,r1,q1⟩=>?_) hs hw
  rw [h1]
  exact thn (hg pins s1 σ H1 x v _ I1 r1 q1) fun _ s2 q=>q
theorem ps_set {i : Nat} {x : Str} {e : Expr} {te : TE} {pos' : Pos} (hN : X.N.Nodup) (hi : X.N[i]? = some x) (hx : Loc X.env.scope x) (he : PE X e te) (hs : swapsWith e (some (.Name x pos')) pos.line X.env = pure false:=by rfl) (hf : X.fn x = true ∨ X.env.scope.names.lookup x = some .local:=by first | exact .inl rfl | exact .inr rfl | assumption) :
    PS X (.Assign [.Name x pos'] e pos) (tAsg te (gName i)):=by
  intro pins s σ H D I h
  refine wpAny_Assign_Name (thn (he pins s σ H _ I h) fun v s1 ⟨y,H1,I1,r1,q1⟩=>?_) hs
  exact store_ok I1 hN hi hx r1 (fun s2 I2=>⟨_,H1,I2,q1⟩) hf
def tAugS (to ti te : TE) (tget : V → V → Hp → VK → Prop) (tip : TIp) (tset : TSet) : TS:=fun D σ H=>to σ H fun o H1=>ti σ H1 fun i H2=>tget o i H2 fun x H3=>te σ H3 fun y H4=>tip x y H4 fun z H5=>tset o i z H5 fun H6=>D.nx σ H6
def PGet (X : Cx) (t : V → V → Hp → VK → Prop) : Prop :=
  ∀ (pins : List (Addr × Obj)) (s : Shared) (σ : St) (H : Hp) (o i : V) (ov iv : Value) (Q : VK),Inv X pins σ H s → RelV o ov → RelV i iv → t o i H Q →
    wpAny (model X.prog X.w) X.A (getItem ov iv) (EP X pins σ Q) X.xe s
theorem ps_augS {o i e : Expr} {to ti te : TE} {tget : V → V → Hp → VK → Prop} {tip : TIp} {tset : TSet} {op : Operator} {tpos : Pos} (ho : PE X o to) (hi : PE X i ti) (hg : PGet X tget) (he : PE X e te) (hp : PIp X op tip) (hs : PSet X tset)
    (ha : ∀ ov iv new,augStore i ov iv new = (do holding [new,ov,iv] (setItem ov iv new); release [new,ov,iv] []; pure .next):=by intros; rfl) : PS X (.AugAssign (.Subscript o i tpos) op e pos) (tAugS to ti te tget tip tset):=by
  intro pins s σ H D I h
  refine wpAny_AugAssign_SubscriptAny (thn (ho pins s σ H _ I h) fun ov s1 ⟨x1,H1,I1,r1,q1⟩=>?_) ha
  refine thn (hi pins s1 σ H1 _ I1 q1) fun iv s2 ⟨x2,H2,I2,r2,q2⟩=>?_
  refine thn (hg pins s2 σ H2 x1 x2 ov iv _ I2 r1 r2 q2) fun old s3 ⟨x3,H3,I3,r3,q3⟩=>?_
  refine thn (he pins s3 σ H3 _ I3 q3) fun v s4 ⟨x4,H4,I4,r4,q4⟩=>?_
  refine thn (hp pins s4 σ H4 x3 x4 old v _ I4 r3 r4 q4) fun new s5 ⟨x5,H5,I5,r5,q5⟩=>?_
  exact thn (hs pins s5 σ H5 x1 x2 x5 ov iv new _ I5 r1 r2 r5 q5) fun _ s6 ⟨H6,I6,q6⟩=>⟨σ,H6,I6,q6⟩
def ipI (f : Int → Int → Int) : TIp:=fun x y H Q=>∃ i j,x = .int i ∧ y = .int j ∧ Q (.int (f i j)) H
theorem ip_add : PIp X .Add (ipI fun i j=>i + j):=by
  intro pins s σ H x y v u Q I r1 r2 h
  obtain ⟨i,j,e1,e2,q⟩:=h
  subst e1; subst e2
  obtain ⟨t,rfl⟩:=r1
  obtain ⟨t',rfl⟩:=r2
  exact iadd_int ⟨.int _,H,I.tok _,⟨_,rfl⟩,q⟩
end
section
variable {X : Cx} {pos : Pos}
def tWhile (c : TT) (tb : TS) : TS:=fun D σ H=>∃ W : Nat → St → Hp → Prop,(∃ m,W m σ H) ∧ ∀ m σ H,W m σ H →
  c σ H fun b H1=>if b = true then ∃ N : St → Hp → Prop,(∀ σ' H',N σ' H' → ∃ m',m' < m ∧ W m' σ' H') ∧ tb { D with nx:=N,ct:=N,bk:=D.nx } σ H1 else D.nx σ H1
theorem ps_while {c : Expr} {body : List Stmt} {tc : TT} {tb : TS} (hp : PassesOwn (model X.prog X.w) X.A X.env X.xe) (hc : PT X c tc) (hb : PSs X body tb) : PS X (.While c body [] pos) (tWhile tc tb):=by
  intro pins s σ H D I h
  obtain ⟨W,⟨m0,w0⟩,turn⟩:=h
  refine wpAny_While (codeAny_whileLoop (fun n s'=>∃ σ' H',Inv X pins σ' H' s' ∧ W n σ' H') ?_ m0 ⟨σ,H,I,w0⟩)
  rintro n s1 ⟨σ1,H1,I1,w1⟩
  refine wpAny_passesOwn hp (thn (hc pins s1 σ1 H1 _ I1 (turn n σ1 H1 w1)) fun b s2 ⟨H2,I2,q2⟩=>?_)
  cases b with
  | true =>
    obtain ⟨N,hN,q2⟩:=q2
    rw [if_pos rfl]
    refine wpAny_passesOwn hp (thn (hb pins s2 σ1 H2 _ I2 q2) fun f s3 q3=>?_)
    cases f with
    | next =>
      obtain ⟨σ3,H3,I3,n3⟩:=q3
      obtain ⟨m',hm,w3⟩:=hN σ3 H3 n3
      exact ⟨m',hm,σ3,H3,I3,w3⟩
    | cont =>
      obtain ⟨σ3,H3,I3,n3⟩:=q3
      obtain ⟨m',hm,w3⟩:=hN σ3 H3 n3
      exact ⟨m',hm,σ3,H3,I3,w3⟩
    | brk=>exact q3
    | ret v=>exact q3
  | false =>
    rw [if_neg Bool.false_ne_true]
    exact wpAny_execs_nil ⟨σ1,H2,I2,q2⟩
end
structure It where
  go : Nat → Hp → Prop
  yld : Nat → Hp → V → Hp → Prop
  stop : Nat → Hp → Prop
def FpOk (X : Cx) (pins : List (Addr × Obj)) (H : Hp) (b : Addr) : Prop :=
  H b = none ∧ b ≠ X.env.locals ∧ b ∉ X.fs ∧ (b ∈ X.ex ∨ X.s_0.heap.objs.size ≤ b) ∧ (∀ x c,X.env.cells.lookup x = some c → c ≠ b) ∧ ∀ p ∈ X.pn ++ pins,p.1 ≠ b
theorem Inv.fpOk {X : Cx} {pins : List (Addr × Obj)} {σ : St} {H H' : Hp} {s : Shared} {b : Addr} (I : Inv X pins σ H s) (hb : s.heap.objs.size ≤ b) (hn : H' b = none) : FpOk X pins H' b:=by
  refine ⟨hn,Nat.ne_of_gt (Nat.lt_of_lt_of_le I.lt hb),I.nofs hb,.inr (Nat.le_trans I.sz hb),fun x c e z=>?_,fun p hp z=>?_⟩
  · obtain ⟨v,q⟩:=I.cell x c e
    exact absurd (Nat.lt_of_lt_of_le q.lt (by rw [z]; exact hb)) (Nat.lt_irrefl _)
  · exact absurd (Nat.lt_of_lt_of_le (Heap.lt_size (I.pin p hp).1) (by rw [z]; exact hb)) (Nat.lt_irrefl _)
structure Turn (P : Program) (w : World) (K : PySem.W.Frag) (tg : Expr) (J : It) (fp : List Addr) (it : Addr) (tn : Nat → Heap → Prop) : Prop where
  mem : it ∈ fp
  obj : ∀ i h,tn i h → ∀ b ∈ fp,∃ o,h.get? b = some o ∧ ∀ v,o.data ≠ .cell v
  keep : ∀ i h h',tn i h → (∀ b ∈ fp,∀ o,h.get? b = some o → h'.get? b = some o) → tn i h'
  item : ∀ (X : Cx),X.prog = P → X.w = w → X.K = K → X.calm = true → ∀ (i : Nat) (pins : List (Addr × Obj)) (s : Shared) (σ : St) (H : Hp) (E : Value → Shared → Prop),Inv X pins σ H s → (∀ b ∈ fp,FpOk X pins H b) → tn i s.heap → J.go i H →
    wpAny (model P w) X.A (pyNext (.ref it)) (fun r s1=>∃ u,r = some u ∧
      wpAny (model P w) X.A (letOwnedTupleGo tg (.ref it) u) (fun _ s2=>∃ x H',Inv X pins σ H' s2 ∧ RelV x u ∧ J.yld i H x H' ∧ tn (i + 1) s2.heap ∧ ∀ b ∈ fp,H' b = none) E s1) E s
  done : ∀ (X : Cx),X.prog = P → X.w = w → X.K = K → X.calm = true → ∀ (i : Nat) (pins : List (Addr × Obj)) (s : Shared) (σ : St) (H : Hp) (E : Value → Shared → Prop),Inv X pins σ H s → (∀ b ∈ fp,FpOk X pins H b) → tn i s.heap → J.stop i H →
    wpAny (model P w) X.A (pyNext (.ref it)) (fun r s1=>r = none ∧ Inv X pins σ H s1) E s
  self : ∀ (A : Around) (i : Nat) (s : Shared) (Q : Value → Shared → Prop) (E : Value → Shared → Prop),tn i s.heap → Q (.ref it) s → wpAny (model P w) A (pyIter (.ref it)) Q E s
abbrev TI:=St → Hp → (It → Hp → Prop) → Prop
def PIE (X : Cx) (pins : List (Addr × Obj)) (σ : St) (tg : Expr) (R : It → Hp → Prop) (itv : Value) (s2 : Shared) : Prop :=
  ∃ (it : Addr) (fp : List Addr) (tn : Nat → Heap → Prop) (J : It) (H' : Hp),itv = .ref it ∧ Inv X pins σ H' s2 ∧ Turn X.prog X.w X.K tg J fp it tn ∧ tn 0 s2.heap ∧ (∀ b ∈ fp,FpOk X pins H' b) ∧ R J H'
def PI (X : Cx) (tg iter : Expr) (wi : TI) : Prop :=
  ∀ (pins : List (Addr × Obj)) (s : Shared) (σ : St) (H : Hp) (R : It → Hp → Prop),Inv X pins σ H s → wi σ H R →
    wpAny (model X.prog X.w) X.A (eval iter X.env) (fun v s1=>wpAny (model X.prog X.w) X.A (pyIter v) (PIE X pins σ tg R) X.xe s1) X.xe s
theorem go_of {M : Model} {A : Around} {E : Value → Shared → Prop} {s : Shared} {tg : Expr} {it : Addr} {u : Value} {o : Obj} {n : String} {vs : Array Value} {Q : Unit → Shared → Prop} (ho : s.heap.get? it = some o) (hc : o.cls = .type n) (hd : o.data = .fields vs)
    (hn : ["enumerate","zip","dict_itemiterator","dict_reverseitemiterator","odict_iterator","itertools.zip_longest","itertools.pairwise"].contains n = false) (hQ : Q () s) : wpAny M A (letOwnedTupleGo tg (.ref it) u) Q E s:=by
  unfold letOwnedTupleGo
  cases tg <;> first
    | exact wpAny_pure hQ
    | (cases u <;> first
        | exact wpAny_pure hQ
        | (refine wpAny_bind (wpAny_load ho ?_)
           rw [hc,hd]
           show wpAny M A (if (["enumerate","zip","dict_itemiterator","dict_reverseitemiterator","odict_iterator","itertools.zip_longest","itertools.pairwise"].contains n && vs[0]? == some (rawInt _)) = true then _ else _) Q E s
           rw [if_neg (by intro h; rw [hn,Bool.false_and] at h; cases h)]
           exact wpAny_pure hQ))
def Itl (K : PySem.W.Frag) (a : Addr) : It :=
  ⟨fun i H=>∃ xs x,SqL K H a xs ∧ xs[i]? = some x,fun i H x H'=>H' = H ∧ ∀ xs,SqL K H a xs → xs[i]? = some x,fun i H=>∃ xs,SqL K H a xs ∧ xs.length ≤ i⟩
def Itr (lo : Int) (n : Nat) : It:=⟨fun i _=>i < n,fun i H x H'=>H' = H ∧ x = .int (lo + i),fun i _=>n ≤ i⟩
theorem turn_list {P : Program} {w : World} {K : PySem.W.Frag} {tg : Expr} (a it : Addr) : Turn P w K tg (Itl K a) [it] it (fun i h=>h.IsListIter it a i) where
  mem:=by simp
  obj:=fun i h st b hb=>by
    have e : b = it:=by simpa using hb
    subst e
    obtain ⟨o,e,c,d⟩:=st
    exact ⟨o,e,fun v z=>by rw [d] at z; cases z⟩
  keep:=fun i h h' st k=>st.at fun o e=>k it (by simp) o e
  item:=by
    intro X hP hw hK hc i pins s σ H E I hf st hg
    subst hP hw hK
    obtain ⟨xs,x,hq,hx⟩:=hg
    obtain ⟨its,rv,p,hz⟩:=I.list hq
    obtain ⟨u,hu,ru⟩:=rv.get hx
    obtain ⟨f0,f1,f2,f3,f4,f5⟩:=hf it (by simp)
    refine wpAny_pyNext_list_item st p.isList (x:=u) (by simpa using hu) fun h' st' sb=>?_
    have I1 : Inv X pins σ H { s with heap:=h' }:=I.turned (t':=s.toks) (fun b o hb e=>(sb.2 b hb).trans e) f0 f1 f3 f4 f5
    obtain ⟨o,e,c,d⟩:=id st'
    exact ⟨u,rfl,go_of (s:={ s with heap:=h' }) e c d (by decide) ⟨x,H,I1,ru,⟨rfl,fun ys hy=>by rw [I.list_inj hy hq]; exact hx⟩,st',fun b hb=>(hf b hb).1⟩⟩
  done:=by
    intro X hP hw hK hc i pins s σ H E I hf st hg
    subst hP hw hK
    obtain ⟨xs,hq,hx⟩:=hg
    obtain ⟨its,rv,p,hz⟩:=I.list hq
    obtain ⟨f0,f1,f2,f3,f4,f5⟩:=hf it (by simp)
    have hl:=rv.length
    exact wpAny_pyNext_list_end (I.ok.hd hc) st p.isList (by simp; omega) fun h' eb=>⟨rfl,I.turned (t':=s.toks) (fun b o hb e=>eb b o hb e) f0 f1 f3 f4 f5⟩
  self:=fun _ _ _ _ _ st h=>wpAny_pyIter_listiter st h
theorem turn_range {P : Program} {w : World} {K : PySem.W.Frag} {tg : Expr} (it : Addr) (lo : Int) (n : Nat) : Turn P w K tg (Itr lo n) [it] it (fun i h=>IsRangeIter h it (lo + (i : Nat) * 1) ((n : Int) - (i : Nat)) 1) where
  mem:=by simp
  obj:=fun i h st b hb=>by
    have e : b = it:=by simpa using hb
    subst e
    exact ⟨_,st,fun v z=>by
      have z' : Data.fields _ = Data.cell v:=z
      cases z'⟩
  keep:=fun i h h' st k=>k it (by simp) _ st
  item:=by
    intro X hP hw hK hc i pins s σ H E I hf st hg
    subst hP hw hK
    obtain ⟨f0,f1,f2,f3,f4,f5⟩:=hf it (by simp)
    have W:=Walks.range (prog:=X.prog) (w:=X.w) (I.ok.hd hc) it lo 1 n
    refine W.item i s _ _ hg st fun v h' tk hv st' kk=>?_
    obtain ⟨t,rfl⟩:=hv
    have I1 : Inv X pins σ H { s with heap:=h',toks:=tk }:=I.turned (fun b o hb e=>kk b o (by simpa using hb) e) f0 f1 f3 f4 f5
    refine ⟨_,rfl,go_of (s:={ s with heap:=h',toks:=tk }) (n:="range_iterator") st' rfl rfl (by decide) ⟨.int (lo + i),H,I1,⟨t,?_⟩,⟨rfl,rfl⟩,st',fun b hb=>(hf b hb).1⟩⟩
    rw [Int.mul_one]
  done:=by
    intro X hP hw hK hc i pins s σ H E I hf st hg
    subst hP hw hK
    obtain ⟨f0,f1,f2,f3,f4,f5⟩:=hf it (by simp)
    exact wpAny_pyNext_range_end (I.ok.hd hc) st (by have : n ≤ i:=hg; omega) fun h' eb=>⟨rfl,I.turned (t':=s.toks) (fun b o hb e=>eb b o hb e) f0 f1 f3 f4 f5⟩
  self:=fun _ _ _ _ _ st h=>wpAny_pyIter_rangeiter st h
end L2
namespace L2
open PySem PySem.Spec PyProof.Rows
section
variable {X : Cx} {tg : Expr}
def iList (K : PySem.W.Frag) (tl : TE) : TI:=fun σ H R=>tl σ H fun x H1=>∃ a,x = .ref a ∧ (∃ xs,SqL K H1 a xs) ∧ R (Itl K a) H1
theorem pi_list {l : Expr} {tl : TE} (hl : PE X l tl) : PI X tg l (iList X.K tl):=by
  intro pins s σ H R I h
  refine thn (hl pins s σ H _ I h) fun v s1 ⟨x,H1,I1,r1,q1⟩=>?_
  obtain ⟨a,e,⟨xs,hq⟩,q⟩:=q1
  subst e
  cases r1
  obtain ⟨its,rv,p,hz⟩:=I1.list hq
  refine wpAny_pyIter_list p.isList ?_
  refine ⟨s1.heap.objs.size,[s1.heap.objs.size],_,_,H1,rfl,I1.kept (t':=s1.toks) fun b o e=>Heap.get?_push_of_some _ e,turn_list a _,⟨_,Heap.get?_push_size _ rfl,rfl,rfl⟩,fun b hb=>?_,q⟩
  have e : b = s1.heap.objs.size:=by simpa using hb
  subst e
  exact I1.fpOk (Nat.le_refl _) (I1.hok.fresh (Nat.le_refl _))
theorem range_it {pins : List (Addr × Obj)} {σ : St} {H : Hp} {s : Shared} {R : It → Hp → Prop} {E : Value → Shared → Prop} {lo hi : Int} {t u v : Tok} {tk : Nat} (I : Inv X pins σ H s) (h1 : -(2 ^ 62) ≤ lo) (h2 : lo < 2 ^ 62) (h3 : -(2 ^ 62) ≤ hi) (h4 : hi < 2 ^ 62)
    (q : R (Itr lo (hi - lo).toNat) H) : wpAny (model X.prog X.w) X.A (pyIter (.ref s.heap.objs.size)) (PIE X pins σ tg R) E { s with heap:=s.heap.push { cls:=.type "range",data:=.fields #[.int lo t,.int hi u,.int 1 v] },toks:=tk }:=by
  refine wpAny_pyIter_range (IsRange.new ..) (small_one h1 h2 h3 h4) ?_
  have I1 : Inv X pins σ H { s with heap:=s.heap.push { cls:=.type "range",data:=.fields #[.int lo t,.int hi u,.int 1 v] },toks:=tk }:=I.kept fun b o e=>Heap.get?_push_of_some _ e
  refine ⟨(s.heap.push { cls:=.type "range",data:=.fields #[.int lo t,.int hi u,.int 1 v] }).objs.size,[(s.heap.push { cls:=.type "range",data:=.fields #[.int lo t,.int hi u,.int 1 v] }).objs.size],_,_,H,rfl,
    I1.kept (t':=tk) fun b o e=>Heap.get?_push_of_some _ e,turn_range _ lo (hi - lo).toNat,?_,fun b hb=>?_,q⟩
  · have e1 : lo + ((0 : Nat) : Int) * 1 = lo:=by simp
    have e2 : (((hi - lo).toNat : Nat) : Int) - ((0 : Nat) : Int) = Builtin.Range.rangeSize lo hi 1:=by rw [rangeSize_one]; split <;> omega
    show IsRangeIter _ _ (lo + ((0 : Nat) : Int) * 1) ((((hi - lo).toNat : Nat) : Int) - ((0 : Nat) : Int)) 1
    rw [e1,e2]
    exact Heap.get?_push_size _ rfl
  · have e : b = (s.heap.push { cls:=.type "range",data:=.fields #[.int lo t,.int hi u,.int 1 v] }).objs.size:=by simpa using hb
    subst e
    exact I1.fpOk (Nat.le_refl _) (I1.hok.fresh (Nat.le_refl _))
def iRng1 (ta : TA) : TI:=fun σ H R=>ta σ H fun vs H1=>∃ j : Int,vs = [.int j] ∧ -(2 ^ 62) ≤ j ∧ j < 2 ^ 62 ∧ R (Itr 0 j.toNat) H1
def iRng2 (ta : TA) : TI:=fun σ H R=>ta σ H fun vs H1=>∃ i j : Int,vs = [.int i,.int j] ∧ (-(2 ^ 62) ≤ i ∧ i < 2 ^ 62 ∧ -(2 ^ 62) ≤ j ∧ j < 2 ^ 62) ∧ R (Itr i (j - i).toNat) H1
theorem pi_range1 {a : Expr} {ta : TA} {p pos : Pos} (hg : Gl X "range") (hm : X.mg "range" = none) (ha : PA X [a] ta) (hs : starEach [a] X.env = [(false,eval a X.env)]:=by rfl) : PI X tg (.Call (.Name "range" p) [a] [] pos) (iRng1 ta):=by
  intro pins s σ H R I h
  refine Call_ (ld_blt I hg hm boot_range (PyProof.Rows.callWith_type1 (thn (ha pos pins s σ H _ I h) fun us s1 ⟨vs,H1,I1,r1,q1⟩=>?_) hs rfl))
  obtain ⟨j,e,q1,q2,q⟩:=q1
  subst e
  cases r1 with
  | cons r rr =>
    cases rr
    obtain ⟨t,rfl⟩:=r
    exact call_range_1 (range_it I1 (by omega) (by omega) q1 q2 (by simpa using q))
theorem pi_range2 {a b : Expr} {ta : TA} {p pos : Pos} (hg : Gl X "range") (hm : X.mg "range" = none) (ha : PA X [a,b] ta) (hs : starEach [a,b] X.env = [(false,eval a X.env),(false,eval b X.env)]:=by rfl) (hs2 : starEach [b] X.env = [(false,eval b X.env)]:=by rfl) :
    PI X tg (.Call (.Name "range" p) [a,b] [] pos) (iRng2 ta):=by
  intro pins s σ H R I h
  refine Call_ (ld_blt I hg hm boot_range (PyProof.Rows.callWith_type1 (thn (ha pos pins s σ H _ I h) fun us s1 ⟨vs,H1,I1,r1,q1⟩=>?_) (by rw [hs,hs2]) (by rw [hs2]; rfl)))
  obtain ⟨i,j,e,⟨q1,q2,q3,q4⟩,q⟩:=q1
  subst e
  cases r1 with
  | cons r rr =>
    cases rr with
    | cons r' rr =>
      cases rr
      obtain ⟨t,rfl⟩:=r
      obtain ⟨t',rfl⟩:=r'
      exact call_range_2 (range_it I1 q1 q2 q3 q4 q)
def tFor (wi : TI) (g : TG) (tb : TS) : TS:=fun D σ H=>wi σ H fun J H1=>∃ W : Nat → Nat → St → Hp → Prop,(∃ m,W 0 m σ H1) ∧ ∀ i m σ H,W i m σ H →
  (J.stop i H ∧ D.nx σ H) ∨ (J.go i H ∧ ∃ N : St → Hp → Prop,(∀ σ' H',N σ' H' → ∃ m',m' < m ∧ W (i + 1) m' σ' H') ∧ ∀ x H',J.yld i H x H' → g x σ H' fun σ2 H2=>tb { D with nx:=N,ct:=N,bk:=D.nx } σ2 H2)
def pinsAt (fp : List Addr) (h : Heap) : List (Addr × Obj):=fp.filterMap fun b=>(h.get? b).map fun o=>(b,o)
theorem mem_pinsAt {fp : List Addr} {h : Heap} {b : Addr} {o : Obj} (hb : b ∈ fp) (e : h.get? b = some o) : (b,o) ∈ pinsAt fp h:=List.mem_filterMap.mpr ⟨b,hb,by rw [e]; rfl⟩
theorem of_pinsAt {fp : List Addr} {h : Heap} {p : Addr × Obj} (hp : p ∈ pinsAt fp h) : p.1 ∈ fp ∧ h.get? p.1 = some p.2:=by
  obtain ⟨b,hb,e⟩:=List.mem_filterMap.mp hp
  cases q : h.get? b with
  | none=>rw [q] at e; cases e
  | some o =>
    rw [q] at e
    have e' : (b,o) = p:=Option.some.inj e
    subst e'
    exact ⟨hb,q⟩
theorem Inv.pinned {pins : List (Addr × Obj)} {σ : St} {H : Hp} {s : Shared} {fp : List Addr} (I : Inv X pins σ H s) (hf : ∀ b ∈ fp,FpOk X pins H b) (ho : ∀ b ∈ fp,∃ o,s.heap.get? b = some o ∧ ∀ v,o.data ≠ .cell v) : Inv X (pins ++ pinsAt fp s.heap) σ H s :=
  I.pins_of fun p hp=>(List.mem_append.mp hp).elim (fun z=>I.pin p (List.mem_append_right _ z)) fun z=>by
    obtain ⟨hb,e⟩:=of_pinsAt z
    obtain ⟨f0,f1,f2,_⟩:=hf p.1 hb
    obtain ⟨o,e',d⟩:=ho p.1 hb
    rw [e] at e'; cases e'
    exact ⟨e,f0,f1,f2,d⟩
theorem Inv.unpinned {pins pl : List (Addr × Obj)} {σ : St} {H : Hp} {s : Shared} (I : Inv X (pins ++ pl) σ H s) : Inv X pins σ H s:=I.pins_of fun p hp=>I.pin p (List.mem_append_right _ (List.mem_append_left _ hp))
theorem ps_for {iter : Expr} {body : List Stmt} {wi : TI} {g : TG} {tb : TS} {pos : Pos} (hp : PassesOwn (model X.prog X.w) X.A X.env X.xe) (hc : X.calm = true) (hi : PI X tg iter wi) (hg : PG X tg g) (hb : PSs X body tb)
    (hs : ∀ x,foldedSetIterable iter X.env x = pure x:=by intro _; rfl) : PS X (.For tg iter body [] pos) (tFor wi g tb):=by
  intro pins s σ H D I h
  refine wpAny_For (thn (hi pins s σ H _ I h) fun v s1 h1=>thn h1 fun itv s2 h2=>?_) hs
  obtain ⟨it,fp,tn,J,H2,e,I2,T,st2,f2,W,⟨m0,w0⟩,turn⟩:=h2
  subst e
  have stat : ∀ {H' : Hp},(∀ b ∈ fp,H' b = none) → ∀ b ∈ fp,FpOk X pins H' b:=fun hn b hb=>⟨hn b hb,(f2 b hb).2⟩
  refine codeAny_forLoop_any (fun n s'=>∃ i σ' H',Inv X pins σ' H' s' ∧ tn i s'.heap ∧ (∀ b ∈ fp,H' b = none) ∧ W i n σ' H') ?_ m0 ⟨0,σ,H2,I2,st2,fun b hb=>(f2 b hb).1,w0⟩
  rintro n s3 ⟨i,σ3,H3,I3,st3,fr3,w3⟩
  rcases turn i n σ3 H3 w3 with ⟨stop,qn⟩ | ⟨go,N,hN,step⟩
  · refine wpAny_passesOwn hp (thn (T.done X rfl rfl rfl hc i pins s3 σ3 H3 X.xe I3 (stat fr3) st3 stop) fun r s4 ⟨hr,I4⟩=>?_)
    subst hr
    exact wpAny_execs_nil ⟨σ3,H3,I4,qn⟩
  · refine wpAny_passesOwn hp (thn (T.item X rfl rfl rfl hc i pins s3 σ3 H3 X.xe I3 (stat fr3) st3 go) fun r s4 ⟨u,hr,h4⟩=>?_)
    subst hr
    refine wpAny_passesOwn hp (thn h4 fun _ s5 ⟨x,H5,I5,r5,y5,st5,fr5⟩=>?_)
    have I5':=I5.pinned (stat fr5) (T.obj _ _ st5)
    refine wpAny_passesOwn hp (thn (hg _ s5 σ3 H5 x u _ I5' r5 (step x H5 y5)) fun _ s6 ⟨σ6,H6,I6,q6⟩=>?_)
    refine wpAny_passesOwn hp (thn (hb _ s6 σ6 H6 _ I6 q6) fun f s7 q7=>?_)
    have again : ∀ {σ7 : St} {H7 : Hp},Inv X (pins ++ pinsAt fp s5.heap) σ7 H7 s7 → N σ7 H7 → ∃ m,m < n ∧ ∃ i σ' H',Inv X pins σ' H' s7 ∧ tn i s7.heap ∧ (∀ b ∈ fp,H' b = none) ∧ W i m σ' H':=fun {σ7 H7} I7 n7=>by
      obtain ⟨m',hm,w7⟩:=hN σ7 H7 n7
      refine ⟨m',hm,i + 1,σ7,H7,I7.unpinned,T.keep _ _ _ st5 fun b hb o e=>(I7.pin (b,o) (List.mem_append_right _ (List.mem_append_right _ (mem_pinsAt hb e)))).1,fun b hb=>?_,w7⟩
      obtain ⟨o,e,d⟩:=T.obj _ _ st5 b hb
      exact (I7.pin (b,o) (List.mem_append_right _ (List.mem_append_right _ (mem_pinsAt hb e)))).2.1
    cases f with
    | next=>obtain ⟨σ7,H7,I7,n7⟩:=q7; exact again I7 n7
    | cont=>obtain ⟨σ7,H7,I7,n7⟩:=q7; exact again I7 n7
    | brk=>obtain ⟨σ7,H7,I7,q7⟩:=q7; exact ⟨σ7,H7,I7.unpinned,q7⟩
    | ret v=>obtain ⟨x7,σ7,H7,I7,r7,q7⟩:=q7; exact ⟨x7,σ7,H7,I7.unpinned,r7,q7⟩
end
theorem for_list {K : PySem.W.Frag} {a : Addr} {xs : List V} {g : TG} {tb : TS} {D : Ends} {σ : St} {H : Hp} (Pv : Nat → St → Hp → Prop) (h0 : Pv 0 σ H) (hl : ∀ i σ H,i ≤ xs.length → Pv i σ H → SqL K H a xs)
    (hs : ∀ i x σ H,xs[i]? = some x → Pv i σ H → g x σ H fun σ2 H2=>tb { D with nx:=Pv (i + 1),ct:=Pv (i + 1),bk:=D.nx } σ2 H2) (hd : ∀ σ H,Pv xs.length σ H → D.nx σ H) :
    ∃ W : Nat → Nat → St → Hp → Prop,(∃ m,W 0 m σ H) ∧ ∀ i m σ H,W i m σ H →
      ((Itl K a).stop i H ∧ D.nx σ H) ∨ ((Itl K a).go i H ∧ ∃ N : St → Hp → Prop,(∀ σ' H',N σ' H' → ∃ m',m' < m ∧ W (i + 1) m' σ' H') ∧ ∀ x H',(Itl K a).yld i H x H' → g x σ H' fun σ2 H2=>tb { D with nx:=N,ct:=N,bk:=D.nx } σ2 H2):=by
  refine ⟨fun i m σ H=>m = xs.length - i ∧ i ≤ xs.length ∧ Pv i σ H,⟨xs.length,by simp,Nat.zero_le _,h0⟩,?_⟩
  rintro i m σ H ⟨rfl,hi,p⟩
  have q:=hl i σ H hi p
  by_cases hlt : i < xs.length
  · refine .inr ⟨⟨xs,xs[i],q,by simp [hlt]⟩,Pv (i + 1),fun σ' H' p'=>⟨xs.length - (i + 1),by omega,rfl,hlt,p'⟩,fun x H' y=>?_⟩
    obtain ⟨e,y⟩:=y
    subst e
    exact hs i x σ _ (y xs q) p
  · have e : i = xs.length:=by omega
    subst e
    exact .inl ⟨⟨xs,q,Nat.le_refl _⟩,hd σ H p⟩
theorem for_range {lo : Int} {n : Nat} {g : TG} {tb : TS} {D : Ends} {σ : St} {H : Hp} (Pv : Nat → St → Hp → Prop) (h0 : Pv 0 σ H)
    (hs : ∀ i σ H,i < n → Pv i σ H → g (.int (lo + i)) σ H fun σ2 H2=>tb { D with nx:=Pv (i + 1),ct:=Pv (i + 1),bk:=D.nx } σ2 H2) (hd : ∀ σ H,Pv n σ H → D.nx σ H) :
    ∃ W : Nat → Nat → St → Hp → Prop,(∃ m,W 0 m σ H) ∧ ∀ i m σ H,W i m σ H →
      ((Itr lo n).stop i H ∧ D.nx σ H) ∨ ((Itr lo n).go i H ∧ ∃ N : St → Hp → Prop,(∀ σ' H',N σ' H' → ∃ m',m' < m ∧ W (i + 1) m' σ' H') ∧ ∀ x H',(Itr lo n).yld i H x H' → g x σ H' fun σ2 H2=>tb { D with nx:=N,ct:=N,bk:=D.nx } σ2 H2):=by
  refine ⟨fun i m σ H=>m = n - i ∧ i ≤ n ∧ Pv i σ H,⟨n,by simp,Nat.zero_le _,h0⟩,?_⟩
  rintro i m σ H ⟨rfl,hi,p⟩
  by_cases hlt : i < n
  · refine .inr ⟨hlt,Pv (i + 1),fun σ' H' p'=>⟨n - (i + 1),by omega,rfl,hlt,p'⟩,fun x H' y=>?_⟩
    obtain ⟨e,y⟩:=y
    subst e y
    exact hs i σ _ hlt p
  · have e : i = n:=by omega
    subst e
    exact .inl ⟨Nat.le_refl _,hd σ H p⟩
end L2
namespace L2
open PySem PySem.Spec PyProof.Rows
abbrev R2:=V → V → Hp → VK → Prop
def OpR (X : Cx) (f : Value → Value → Sem Value) (r : R2) : Prop :=
  ∀ (pins : List (Addr × Obj)) (s : Shared) (σ : St) (H : Hp) (x y : V) (v u : Value) (Q : VK),Inv X pins σ H s → RelV x v → RelV y u → r x y H Q →
    wpAny (model X.prog X.w) X.A (f v u) (EP X pins σ Q) X.xe s
def UnR (X : Cx) (f : Value → Sem Value) (r : V → Hp → VK → Prop) : Prop :=
  ∀ (pins : List (Addr × Obj)) (s : Shared) (σ : St) (H : Hp) (x : V) (v : Value) (Q : VK),Inv X pins σ H s → RelV x v → r x H Q →
    wpAny (model X.prog X.w) X.A (f v) (EP X pins σ Q) X.xe s
def CallR (X : Cx) (f : Value) (r : List V → Hp → VK → Prop) : Prop :=
  ∀ (pins : List (Addr × Obj)) (s : Shared) (σ : St) (H : Hp) (xs : List V) (us : List Value) (Q : VK),Inv X pins σ H s → Vals xs us → r xs H Q →
    wpAny (model X.prog X.w) X.A (call f us) (EP X pins σ Q) X.xe s
def TruR (X : Cx) (r : V → Hp → (Bool → Hp → Prop) → Prop) : Prop :=
  ∀ (pins : List (Addr × Obj)) (s : Shared) (σ : St) (H : Hp) (x : V) (v : Value) (Q : Bool → Hp → Prop),Inv X pins σ H s → RelV x v → r x H Q →
    wpAny (model X.prog X.w) X.A (truthy v) (TP X pins σ Q) X.xe s
def tOp (r : R2) (ta tb : TE) : TE:=fun σ H Q=>ta σ H fun x H1=>tb σ H1 fun y H2=>r x y H2 Q
def tUn (r : V → Hp → VK → Prop) (ta : TE) : TE:=fun σ H Q=>ta σ H fun x H1=>r x H1 Q
def rI (C : Int → Int → Prop) (g : Int → Int → V) : R2:=fun x y H Q=>∃ i j,x = .int i ∧ y = .int j ∧ C i j ∧ Q (g i j) H
def rI0 (g : Int → Int → V) : R2:=fun x y H Q=>∃ i j,x = .int i ∧ y = .int j ∧ Q (g i j) H
def rU (g : Int → V) : V → Hp → VK → Prop:=fun x H Q=>∃ i,x = .int i ∧ Q (g i) H
section
variable {X : Cx} {a b c : Expr} {ta tb tc : TE} {pos : Pos}
theorem binT (ha : PE X a ta) (hb : PE X b tb) {pins : List (Addr × Obj)} {s : Shared} {σ : St} {H : Hp} {R : V → V → Hp → Prop} (I : Inv X pins σ H s)
    (h : ta σ H fun x H1=>tb σ H1 fun y H2=>R x y H2) {Q : Value → Shared → Prop} {f : Value → Value → Sem Value}
    (hf : ∀ v u s2 x y H2,Inv X pins σ H2 s2 → RelV x v → RelV y u → R x y H2 → wpAny (model X.prog X.w) X.A (f v u) Q X.xe s2) :
    wpAny (model X.prog X.w) X.A (eval a X.env) (fun v s₁=>wpAny (model X.prog X.w) X.A (eval b X.env) (fun u s₂=>wpAny (model X.prog X.w) X.A (f v u) Q X.xe s₂) X.xe s₁) X.xe s:=by
  refine thn (ha pins s σ H _ I h) fun v s1 ⟨x,H1,I1,r1,q1⟩=>?_
  refine thn (hb pins s1 σ H1 _ I1 q1) fun u s2 ⟨y,H2,I2,r2,q2⟩=>?_
  exact hf v u s2 x y H2 I2 r1 r2 q2
theorem pe_op {op : Operator} {r : R2} (ho : OpR X (binaryOp op) r) (ha : PE X a ta) (hb : PE X b tb) : PE X (.BinOp a op b pos) (tOp r ta tb):=by
  intro pins s σ H Q I h
  exact wpAny_BinOp (binT ha hb I h fun v u s2 x y H2 I2 rx ry q=>ho pins s2 σ H2 x y v u Q I2 rx ry q)
theorem pe_un {op : UnaryOp} {r : V → Hp → VK → Prop} (ho : UnR X (unaryOp op) r) (ha : PE X a ta) : PE X (.UnaryOp op a pos) (tUn r ta):=by
  intro pins s σ H Q I h
  exact UnaryOp_ (thn (ha pins s σ H _ I h) fun v s1 ⟨x,H1,I1,r1,q1⟩=>ho pins s1 σ H1 x v Q I1 r1 q1)
theorem opI {f : Value → Value → Sem Value} {C : Int → Int → Prop} {g : Int → Int → Int}
    (rule : ∀ (i j : Int) (t u : Tok) (s : Shared) (Q : Value → Shared → Prop) (E : Value → Shared → Prop),C i j → Q (.int (g i j) s.toks) { s with toks:=s.toks + 1 } → wpAny (model X.prog X.w) X.A (f (.int i t) (.int j u)) Q E s) :
    OpR X f (rI C fun i j=>.int (g i j)):=by
  intro pins s σ H x y v u Q I rx ry h
  obtain ⟨i,j,rfl,rfl,hc,q⟩:=h
  obtain ⟨t,rfl⟩:=rx
  obtain ⟨t',rfl⟩:=ry
  exact rule i j t t' s _ _ hc ⟨.int (g i j),H,I.tok _,⟨_,rfl⟩,q⟩
theorem opI0 {f : Value → Value → Sem Value} {g : Int → Int → Int}
    (rule : ∀ (i j : Int) (t u : Tok) (s : Shared) (Q : Value → Shared → Prop) (E : Value → Shared → Prop),Q (.int (g i j) s.toks) { s with toks:=s.toks + 1 } → wpAny (model X.prog X.w) X.A (f (.int i t) (.int j u)) Q E s) :
    OpR X f (rI0 fun i j=>.int (g i j)):=by
  intro pins s σ H x y v u Q I rx ry h
  obtain ⟨i,j,rfl,rfl,q⟩:=h
  obtain ⟨t,rfl⟩:=rx
  obtain ⟨t',rfl⟩:=ry
  exact rule i j t t' s _ _ ⟨.int (g i j),H,I.tok _,⟨_,rfl⟩,q⟩
theorem opB0 {f : Value → Value → Sem Value} {g : Int → Int → Bool}
    (rule : ∀ (i j : Int) (t u : Tok) (s : Shared) (Q : Value → Shared → Prop) (E : Value → Shared → Prop),Q (.bool (g i j)) s → wpAny (model X.prog X.w) X.A (f (.int i t) (.int j u)) Q E s) :
    OpR X f (rI0 fun i j=>.bl (g i j)):=by
  intro pins s σ H x y v u Q I rx ry h
  obtain ⟨i,j,rfl,rfl,q⟩:=h
  obtain ⟨t,rfl⟩:=rx
  obtain ⟨t',rfl⟩:=ry
  exact rule i j t t' s _ _ ⟨.bl (g i j),H,I,rfl,q⟩
theorem op_add : OpR X (binaryOp .Add) (rI0 fun i j=>.int (i + j)):=opI0 fun _ _ _ _ _ _ _ q=>add_int q
theorem op_sub : OpR X (binaryOp .Sub) (rI0 fun i j=>.int (i - j)):=opI0 fun _ _ _ _ _ _ _ q=>sub_int q
theorem op_mod : OpR X (binaryOp .Mod) (rI (fun _ j=>0 < j) fun i j=>.int (i % j)):=opI fun i j _ _ _ _ _ hc q=>by
  have h1 : (0 : Int) < j:=hc
  exact mod_int' (by omega) (by rw [Int.fmod_eq_emod_of_nonneg i (by omega)]; exact q)
theorem unI {f : Value → Sem Value} {g : Int → Int}
    (rule : ∀ (i : Int) (t : Tok) (s : Shared) (Q : Value → Shared → Prop) (E : Value → Shared → Prop),Q (.int (g i) s.toks) { s with toks:=s.toks + 1 } → wpAny (model X.prog X.w) X.A (f (.int i t)) Q E s) :
    UnR X f (rU fun i=>.int (g i)):=by
  intro pins s σ H x v Q I rx h
  obtain ⟨i,rfl,q⟩:=h
  obtain ⟨t,rfl⟩:=rx
  exact rule i t s _ _ ⟨.int (g i),H,I.tok _,⟨_,rfl⟩,q⟩
theorem un_neg : UnR X (unaryOp .USub) (rU fun i=>.int (-i)):=unI fun _ _ _ _ _ q=>neg_int q
end
def scal : V → V → Bool
  | .non,.non=>true | .non,.int _=>true | .int _,.non=>true | .non,.bl _=>true | .bl _,.non=>true | .non,.str _=>true | .str _,.non=>true
  | .int _,.int _=>true | .bl _,.bl _=>true | .str _,.str _=>true | .byt _,.byt _=>true
  | .int _,.str _=>true | .str _,.int _=>true | .bl _,.str _=>true | .str _,.bl _=>true
  | _,_=>false
def rEq : R2:=fun x y H Q=>scal x y = true ∧ Q (.bl (decide (x = y))) H
def rNe : R2:=fun x y H Q=>scal x y = true ∧ Q (.bl (!decide (x = y))) H
theorem dec_int {i j : Int} : decide (V.int i = V.int j) = (i == j):=by
  rw [Bool.eq_iff_iff]
  simp
theorem dec_bl {i j : Bool} : decide (V.bl i = V.bl j) = (i == j):=by
  rw [Bool.eq_iff_iff]
  simp
theorem dec_str {i j : Str} : decide (V.str i = V.str j) = (i == j):=by
  rw [Bool.eq_iff_iff]
  simp
theorem dec_byt {i j : Array UInt8} : decide (V.byt i = V.byt j) = (i.toList == j.toList):=by
  rw [Bool.eq_iff_iff]
  cases i
  cases j
  simp
section
variable {X : Cx} {a b c : Expr} {ta tb tc : TE} {pos : Pos}
theorem fin_bl {pins : List (Addr × Obj)} {σ : St} {H : Hp} {s : Shared} {Q : VK} {k k' : Bool} (I : Inv X pins σ H s) (q : Q (.bl k) H) (e : k = k') : EP X pins σ Q (.bool k') s:=by
  subst e
  exact ⟨.bl k,H,I,rfl,q⟩
theorem op_eq : OpR X (compareOp .Eq) rEq:=by
  intro pins s σ H x y v u Q I rx ry h
  obtain ⟨hs,q⟩:=h
  cases x with
  | non =>
    cases rx
    cases y with
    | non=>cases ry; exact PySem.EqNone.eq_none_none (fin_bl I q (by simp))
    | bl j=>cases ry; exact PySem.EqNone.eq_none_bool (fin_bl I q (by simp))
    | int j=>obtain ⟨t',rfl⟩:=ry; exact PySem.EqNone.eq_none_int (fin_bl I q (by simp))
    | str j=>obtain ⟨t',rfl⟩:=ry; exact PySem.EqNone.eq_none_str (fin_bl I q (by simp))
    | _=>exact absurd (show false = true from hs) Bool.false_ne_true
  | bl i =>
    cases rx
    cases y with
    | non=>cases ry; exact PySem.EqNone.eq_bool_none (fin_bl I q (by simp))
    | bl j=>cases ry; exact eq_bool (fin_bl I q dec_bl)
    | str j=>obtain ⟨t',rfl⟩:=ry; exact PySem.EqMixed.eq_bool_str (fin_bl I q (by simp))
    | _=>exact absurd (show false = true from hs) Bool.false_ne_true
  | int i =>
    obtain ⟨t,rfl⟩:=rx
    cases y with
    | non=>cases ry; exact PySem.EqNone.eq_int_none (fin_bl I q (by simp))
    | int j=>obtain ⟨t',rfl⟩:=ry; exact eq_int (fin_bl I q dec_int)
    | str j=>obtain ⟨t',rfl⟩:=ry; exact PySem.EqMixed.eq_int_str (fin_bl I q (by simp))
    | _=>exact absurd (show false = true from hs) Bool.false_ne_true
  | str i =>
    obtain ⟨t,rfl⟩:=rx
    cases y with
    | non=>cases ry; exact PySem.EqNone.eq_str_none (fin_bl I q (by simp))
    | bl j=>cases ry; exact PySem.EqMixed.eq_str_bool (fin_bl I q (by simp))
    | int j=>obtain ⟨t',rfl⟩:=ry; exact PySem.EqMixed.eq_str_int (fin_bl I q (by simp))
    | str j=>obtain ⟨t',rfl⟩:=ry; exact eq_str (fin_bl I q dec_str)
    | _=>exact absurd (show false = true from hs) Bool.false_ne_true
  | byt i =>
    obtain ⟨t,rfl⟩:=rx
    cases y with
    | byt j=>obtain ⟨t',rfl⟩:=ry; exact PySem.W.eq_bytes (fin_bl I q dec_byt)
    | _=>exact absurd (show false = true from hs) Bool.false_ne_true
  | _=>cases y <;> exact absurd (show false = true from hs) Bool.false_ne_true
theorem op_ne : OpR X (compareOp .NotEq) rNe:=by
  intro pins s σ H x y v u Q I rx ry h
  obtain ⟨hs,q⟩:=h
  cases x with
  | non =>
    cases rx
    cases y with
    | non=>cases ry; exact PySem.EqNone.ne_none_none (fin_bl I q (by simp))
    | bl j=>cases ry; exact PySem.EqNone.ne_none_bool (fin_bl I q (by simp))
    | int j=>obtain ⟨t',rfl⟩:=ry; exact PySem.EqNone.ne_none_int (fin_bl I q (by simp))
    | str j=>obtain ⟨t',rfl⟩:=ry; exact PySem.EqNone.ne_none_str (fin_bl I q (by simp))
    | _=>exact absurd (show false = true from hs) Bool.false_ne_true
  | bl i =>
    cases rx
    cases y with
    | non=>cases ry; exact PySem.EqNone.ne_bool_none (fin_bl I q (by simp))
    | bl j=>cases ry; exact ne_bool (fin_bl I q (congrArg not dec_bl))
    | str j=>obtain ⟨t',rfl⟩:=ry; exact PySem.EqMixed.ne_bool_str (fin_bl I q (by simp))
    | _=>exact absurd (show false = true from hs) Bool.false_ne_true
  | int i =>
    obtain ⟨t,rfl⟩:=rx
    cases y with
    | non=>cases ry; exact PySem.EqNone.ne_int_none (fin_bl I q (by simp))
    | int j=>obtain ⟨t',rfl⟩:=ry; exact ne_int (fin_bl I q (congrArg not dec_int))
    | str j=>obtain ⟨t',rfl⟩:=ry; exact PySem.EqMixed.ne_int_str (fin_bl I q (by simp))
    | _=>exact absurd (show false = true from hs) Bool.false_ne_true
  | str i =>
    obtain ⟨t,rfl⟩:=rx
    cases y with
    | non=>cases ry; exact PySem.EqNone.ne_str_none (fin_bl I q (by simp))
    | bl j=>cases ry; exact PySem.EqMixed.ne_str_bool (fin_bl I q (by simp))
    | int j=>obtain ⟨t',rfl⟩:=ry; exact PySem.EqMixed.ne_str_int (fin_bl I q (by simp))
    | str j=>obtain ⟨t',rfl⟩:=ry; exact ne_str (fin_bl I q (congrArg not dec_str))
    | _=>exact absurd (show false = true from hs) Bool.false_ne_true
  | byt i =>
    obtain ⟨t,rfl⟩:=rx
    cases y with
    | byt j=>obtain ⟨t',rfl⟩:=ry; exact PySem.W.ne_bytes (fin_bl I q (congrArg not dec_byt))
    | _=>exact absurd (show false = true from hs) Bool.false_ne_true
  | _=>cases y <;> exact absurd (show false = true from hs) Bool.false_ne_true
theorem op_lt : OpR X (compareOp .Lt) (rI0 fun i j=>.bl (decide (i < j))):=opB0 fun _ _ _ _ _ _ _ q=>lt_int q
theorem op_le : OpR X (compareOp .LtE) (rI0 fun i j=>.bl (decide (i ≤ j))):=opB0 fun _ _ _ _ _ _ _ q=>le_int q
theorem op_gt : OpR X (compareOp .Gt) (rI0 fun i j=>.bl (decide (j < i))):=opB0 fun _ _ _ _ _ _ _ q=>gt_int q
theorem nomark (b : Expr) {op : CmpOp} (h : op ≠ .In:=by decide) (h2 : op ≠ .NotIn:=by decide) : behindInMarks op b = false:=by
  have e1 : (op == CmpOp.In) = false:=by cases op <;> first | rfl | exact absurd rfl h
  have e2 : (op == CmpOp.NotIn) = false:=by cases op <;> first | rfl | exact absurd rfl h2
  cases b <;> simp [behindInMarks,e1,e2]
theorem pe_cmpR {op : CmpOp} {r : R2} (ho : OpR X (compareOp op) r) (ha : PE X a ta) (hb : PE X b tb) (hm : behindInMarks op b = false) : PE X (.Compare a [op] [b] pos) (tOp r ta tb):=by
  intro pins s σ H Q I h
  exact wpAny_Compare1 (binT ha hb I h fun v u s2 x y H2 I2 rx ry q=>ho pins s2 σ H2 x y v u Q I2 rx ry q) hm
def tTest (t : TE) : TT:=fun σ H Q=>t σ H fun x H'=>∃ k,x = .bl k ∧ Q k H'
theorem pt_cmpR {op : CmpOp} {r : R2} (ho : OpR X (compareOp op) r) (ha : PE X a ta) (hb : PE X b tb) (hm : behindInMarks op b = false) : PT X (.Compare a [op] [b] pos) (tTest (tOp r ta tb)):=by
  intro pins s σ H Q I h
  refine wpAny_isTrue_Compare1 (thn (ha pins s σ H _ I h) fun v s1 ⟨x,H1,I1,r1,q1⟩=>thn (hb pins s1 σ H1 _ I1 q1) fun u s2 ⟨y,H2,I2,r2,q2⟩ =>
    thn (ho pins s2 σ H2 x y v u _ I2 r1 r2 q2) fun c s3 ⟨z,H3,I3,r3,k,e,q3⟩=>?_) hm
  subst e
  cases r3
  exact wpAny_truthy_bool ⟨H3,I3,q3⟩
def tChain (r r' : R2) (ta tb tc : TE) : TE:=fun σ H Q=>ta σ H fun x H1=>tb σ H1 fun y H2=>r x y H2 fun z H3=>∃ k,z = .bl k ∧
  (if k = true then tc σ H3 fun w' H4=>r' y w' H4 Q else Q (.bl false) H3)
theorem pe_chain {op op' : CmpOp} {r r' : R2} (ho : OpR X (compareOp op) r) (ho' : OpR X (compareOp op') r') (ha : PE X a ta) (hb : PE X b tb) (hc : PE X c tc)
    (hm : lastMarks [op,op'] [b,c] = false:=by with_unfolding_all rfl) : PE X (.Compare a [op,op'] [b,c] pos) (tChain r r' ta tb tc):=by
  intro pins s σ H Q I h
  refine Compare_chain (thn (ha pins s σ H _ I h) fun v s1 ⟨x,H1,I1,r1,q1⟩=>chain_link (thn (hb pins s1 σ H1 _ I1 q1) fun u s2 ⟨y,H2,I2,r2,q2⟩ =>
    thn (ho pins s2 σ H2 x y v u _ I2 r1 r2 q2) fun d s3 ⟨z,H3,I3,r3,k,e,q3⟩=>?_)) hm
  subst e
  cases r3
  refine wpAny_truthy_bool ?_
  cases k with
  | false=>exact ite_ff ⟨.bl false,H3,I3,rfl,q3⟩
  | true=>exact ite_tt (chain_last (thn (hc pins s3 σ H3 _ I3 q3) fun w' s4 ⟨z',H4,I4,r4,q4⟩=>ho' pins s4 σ H4 y z' u w' Q I4 r2 r4 q4))
theorem pt_chain {op op' : CmpOp} {r r' : R2} (ho : OpR X (compareOp op) r) (ho' : OpR X (compareOp op') r') (ha : PE X a ta) (hb : PE X b tb) (hc : PE X c tc)
    (hm : lastMarks [op,op'] [b,c] = false:=by with_unfolding_all rfl) : PT X (.Compare a [op,op'] [b,c] pos) (tTest (tChain r r' ta tb tc)):=by
  intro pins s σ H Q I h
  refine isTrue_chain (thn (ha pins s σ H _ I h) fun v s1 ⟨x,H1,I1,r1,q1⟩=>test_link (thn (hb pins s1 σ H1 _ I1 q1) fun u s2 ⟨y,H2,I2,r2,q2⟩ =>
    thn (ho pins s2 σ H2 x y v u _ I2 r1 r2 q2) fun d s3 ⟨z,H3,I3,r3,k,e,q3⟩=>?_)) hm
  subst e
  cases r3
  refine wpAny_truthy_bool ?_
  cases k with
  | false =>
    obtain ⟨k',e',q'⟩:=q3
    cases e'
    exact ite_ff ⟨H3,I3,q'⟩
  | true =>
    refine ite_tt (test_last (thn (hc pins s3 σ H3 _ I3 q3) fun w' s4 ⟨z',H4,I4,r4,q4⟩=>thn (ho' pins s4 σ H4 y z' u w' _ I4 r2 r4 q4) fun d' s5 ⟨z2,H5,I5,r5,k2,e2,q5⟩=>?_))
    subst e2
    cases r5
    exact wpAny_truthy_bool ⟨H5,I5,q5⟩
def TruV (K : PySem.W.Frag) (x : V) (H : Hp) (k : Bool) : Prop :=
  match x with
  | .non=>k = false
  | .bl b=>k = b
  | .int i=>k = (i != 0)
  | .str y=>y.length ≤ sizeLine ∧ k = ((y.length : Int) != 0)
  | .byt y=>y.size ≤ sizeLine ∧ k = ((y.size : Int) != 0)
  | .ref p=>(∃ xs,SqL K H p xs ∧ k = !xs.isEmpty) ∨ (∃ xs,SqT K H p xs ∧ k = !xs.isEmpty) ∨ ∃ kvs,H p = some (.dK kvs) ∧ k = !kvs.isEmpty
  | _=>False
theorem isEmpty_kv {κ : Type} {kvs : List (κ × V)} {vs : List (κ × Value)} (r : KV kvs vs) : (!vs.isEmpty) = !kvs.isEmpty:=by
  cases r <;> rfl
theorem isEmpty_of {xs : List V} {its : List Value} (r : Vals xs its) : (!its.toArray.isEmpty) = !xs.isEmpty:=by
  cases r <;> simp
theorem line63 : (sizeLine : Nat) < 2 ^ 63:=by rw [sizeLine_eq]; decide
theorem tru_ok : TruR X (fun x H Q=>∃ k,TruV X.K x H k ∧ Q k H):=by
  intro pins s σ H x v Q I rx h
  obtain ⟨k,e,q⟩:=h
  have hl:=line63
  have hs : sizeLine = 16777216:=sizeLine_eq
  cases x with
  | non =>
    cases rx
    have e' : k = false:=e
    subst e'
    exact truthy_none ⟨H,I,q⟩
  | bl b =>
    cases rx
    have e' : k = b:=e
    subst e'
    exact wpAny_truthy_bool ⟨H,I,q⟩
  | int i =>
    obtain ⟨t,rfl⟩:=rx
    have e' : k = (i != 0):=e
    subst e'
    exact PySem.P.truthy_int ⟨H,I,q⟩
  | str y =>
    obtain ⟨t,rfl⟩:=rx
    obtain ⟨hy,e'⟩ : y.length ≤ sizeLine ∧ k = ((y.length : Int) != 0):=e
    subst e'
    exact PySem.P.truthy_str (by omega) ⟨H,I.tok _,q⟩
  | byt y =>
    obtain ⟨t,rfl⟩:=rx
    obtain ⟨hy,e'⟩ : y.size ≤ sizeLine ∧ k = ((y.size : Int) != 0):=e
    subst e'
    exact PySem.W.truthy_bytes (by omega) ⟨H,I.tok _,q⟩
  | ref p =>
    cases rx
    have e' : (∃ xs,SqL X.K H p xs ∧ k = !xs.isEmpty) ∨ (∃ xs,SqT X.K H p xs ∧ k = !xs.isEmpty) ∨ ∃ kvs,H p = some (.dK kvs) ∧ k = !kvs.isEmpty:=e
    rcases e' with ⟨xs,hx,e'⟩ | ⟨xs,hx,e'⟩ | ⟨kvs,hx,e'⟩
    · subst e'
      obtain ⟨its,r,pl,hz⟩:=I.list hx
      have hlen:=r.length
      exact wpAny_truthy_list pl.isList (by simp only [List.size_toArray]; omega) ⟨H,I.tok _,by rw [isEmpty_of r]; exact q⟩
    · subst e'
      obtain ⟨its,r,pl,hz⟩:=I.tuple hx
      have hlen:=r.length
      exact truthy_tuple pl (by simp only [List.size_toArray]; omega) ⟨H,I.tok _,by rw [isEmpty_of r]; exact q⟩
    · subst e'
      obtain ⟨hz,hS,vs,r,m⟩ : kvs.length ≤ sizeLine ∧ (p == sysModules) = false ∧ ∃ vs,KV kvs vs ∧ s.heap.DictOf (mixKind X.prog X.w) p vs:=I.hok p _ hx
      have hlen : kvs.length = vs.length:=Paired.length r
      exact wpAny_truthy_dict hS m (by omega) ⟨H,I.tok _,by rw [isEmpty_kv r]; exact q⟩
  | _=>exact (show False from e).elim
theorem pt_truth (ha : PE X a ta) (he : ∀ whole,isTrue a X.env whole = (do let v ← whole; standAt a.pos; holding [v] (truthy v))) :
    PT X a (fun σ H Q=>ta σ H fun x H'=>∃ k,TruV X.K x H' k ∧ Q k H'):=by
  intro pins s σ H Q I h
  exact isTrue_plain (thn (ha pins s σ H _ I h) fun v s1 ⟨x,H1,I1,r1,q1⟩=>tru_ok pins s1 σ H1 x v Q I1 r1 q1) (he _)
theorem vals1 {x : V} {us : List Value} (r : Vals [x] us) : ∃ u,us = [u] ∧ RelV x u:=by
  cases r with
  | cons r1 r2=>cases r2; exact ⟨_,rfl,r1⟩
end
end L2
namespace L2
open PySem PySem.Spec PyProof.Rows
structure ObjM (h : Heap) (x dx C : Addr) (mA : Str → Option Value) : Prop where
  obj : h.get? x = some (PySem.W.instObj C dx)
  ns : h.Ns1 dx mA
  ne : dx ≠ x
theorem lookIn_ns {h : Heap} {dx : Addr} {mA : Str → Option Value} (n : h.Ns1 dx mA) : ∃ od,h.get? dx = some od ∧ ∀ name,PySem.W.lookIn name od = some (mA name):=by
  obtain ⟨o,es,ep,ho,hd,hk,_,hm⟩:=n
  refine ⟨o,ho,fun name=>?_⟩
  have e:=hm name
  unfold nsFind findBy at e
  rw [← Array.find?_toList] at e
  unfold PySem.W.lookIn
  rw [hd]
  dsimp only
  split
  · rename_i y q
    rw [q] at e
    exact congrArg some e
  · rename_i q
    rw [q] at e
    have a : es.toList.any (·.refKey) = false:=by
      rw [List.any_eq_false]
      intro y hy
      obtain ⟨z,t,hkey⟩:=hk y (Array.mem_toList_iff.mp hy)
      simp [DictEntry.refKey,hkey]
    have a' : ¬ es.toList.any (·.refKey) = true:=by rw [a]; exact Bool.false_ne_true
    rw [if_neg a']
    exact congrArg some e
theorem ObjM.look {h : Heap} {x dx C : Addr} {mA : Str → Option Value} (I : ObjM h x dx C mA) : ∃ od,PySem.W.InstAt h x (PySem.W.instObj C dx) C (some od) ∧ ∀ name,PySem.W.lookIn name od = some (mA name) :=
  let ⟨od,ho,hl⟩:=lookIn_ns I.ns
  ⟨od,⟨I.obj,rfl,rfl,ho⟩,hl⟩
section
variable {prog : Program} {w : World} {A : Around} {E : Value → Shared → Prop} {s : Shared} {K : PySem.W.Frag} {x dx C f : Addr} {mA : Str → Option Value} {name : Str} {v : Value}
theorem get_map {expr : Bool} {Q : Value → Shared → Prop} (X : K.In s.heap) (I : ObjM s.heap x dx C mA) (hg : PySem.W.plainGet K C name = true) (hh : PySem.W.hasDictIn K C = true)
    (ha : PySem.W.findIn K (.ref C) name = some none) (hv : mA name = some v) (hv' : PySem.W.handedIn v = true) (h : Q v { s with toks:=s.toks + 1 }) :
    wpAny (model prog w) A (getAttr (.ref x) name expr) Q E s:=by
  obtain ⟨od,J,hl⟩:=I.look
  exact PySem.W.get_value X J (PySem.W.plainGet_of hg).1 (PySem.W.findObj_own hh ha rfl (by rw [hl,hv])) hv' h
theorem get_meth {pl : Sem Bool} {Q : Value × List Value → Shared → Prop} (X : K.In s.heap) (I : ObjM s.heap x dx C mA) (hg : PySem.W.plainGet K C name = true)
    (hf : PySem.W.findIn K (.ref C) name = some (some (.ref f))) (ht : PySem.W.isFn K (.ref f) = true) (hv : mA name = none) (h : Q (.ref f,[.ref x]) s) :
    wpAny (model prog w) A (getMethod (.ref x) name pl) Q E s:=by
  obtain ⟨od,J,hl⟩:=I.look
  exact PySem.W.method_fn X J (PySem.W.plainGet_of hg).1 (PySem.W.plainGet_of hg).2 hf (beq_iff_eq.mp ht) (by show (PySem.W.lookIn name od).map (·.isSome) = some false; rw [hl,hv]; rfl) h
theorem set_map {ns : List Str} {Q : Unit → Shared → Prop} (X : K.In s.heap) (I : ObjM s.heap x dx C mA)
    (hs : PySem.W.findIn K (.ref C) "__setattr__" = some (some (.builtin "object.__setattr__"))) (hp : PySem.W.plainOver K C = true) (ht : PySem.W.takerIn K C name = some none) (hh : PySem.W.hasDictIn K C = true)
    (hw : PySem.Within mA ns) (hsz : ns.length ≤ sizeLine)
    (h : ∀ h',ObjM h' x dx C (fun y=>if y = name then some v else mA y) → Heap.SameBut dx s.heap h' → Q () { s with heap:=h',toks:=s.toks + 2 }) :
    wpAny (model prog w) A (setAttr (.ref x) name v) Q E s:=by
  obtain ⟨od,J,hl⟩:=I.look
  refine PySem.W.set_plain X J hs (PySem.W.osa_open (s:={ s with toks:=s.toks + 1 }) (r:=none) X J hp ht fun b=>?_)
  obtain ⟨cd,hc,hd'⟩:=PySem.W.any_some hh
  have hx : s.heap.get? x = some ⟨.ref C,some dx,.plain,#[]⟩:=I.obj
  refine wpAny_bind (wpAny_pure (wpAny_bind (wpAny_bind (wpAny_loadPart hx (wpAny_bind (PySem.W.Looks.here (s:={ s with toks:=s.toks + 1 }) (PySem.W.looks_clsIn X hc) ?_))))))
  rw [hd']
  refine wpAny_pure (a:=some dx) (wpAny_bind (wpAny_pure (wpAny_bind ?_)))
  refine wpAny_nsSet1 (s:={ s with toks:=s.toks + 1 }) I.ns fun h' hn2 hs2=>?_
  obtain ⟨oD,esD,epD,hoD,hdD,hcD⟩:=hn2.count (PySem.Within.cons name v hw)
  refine wpAny_bind (wpAny_lookBehind hoD (by rw [hdD]; exact pastItsLine_dict (Nat.le_trans hcD (by rw [List.length_cons]; omega))) ?_)
  exact wpAny_pure (h _ ⟨(hs2.2 _ (Ne.symm I.ne)).trans I.obj,hn2,I.ne⟩ hs2)
theorem make_map {R : Result → Shared → Prop} {vs : List Value} {kw : List (Str × Value)} (X : K.In s.heap) (hm : PySem.W.makesIn K C = true)
    (hi : PySem.W.findIn K (.ref C) "__init__" = some (some (.ref f))) (hf : PySem.W.typeIn K (.ref f) = some (.type "function"))
    (h : codeAny (model prog w) (A.under (.builtin "type.__call__" ⟨.ref C :: vs,kw⟩)) (.call (.ref f) ⟨.ref (s.heap.objs.size + 1) :: vs,kw⟩) (PySem.W.InitBack (s.heap.objs.size + 1) R)
      { s with heap:=(s.heap.push PySem.W.emptyDict).push (PySem.W.instObj C s.heap.objs.size) }) :
    codeAny (model prog w) A (.call (.ref C) ⟨vs,kw⟩) R s:=by
  obtain ⟨hh,g,d,t,os⟩:=s
  exact PySem.W.make_core (PySem.W.makes_of X hm) (PySem.W.looks_findIn X hi) (fun self=>PySem.W.bind_fn X self hf) (.inl rfl) h
end
def putF (f : Str) (v : V) : List (Str × V) → List (Str × V)
  | []=>[(f,v)]
  | (g,x) :: r=>if g = f then (g,v) :: r else (g,x) :: putF f v r
theorem lookup_putF (f g : Str) (v : V) : ∀ fs : List (Str × V),(putF f v fs).lookup g = if g = f then some v else fs.lookup g
  | []=>by
    show List.lookup g [(f,v)] = _
    by_cases h : g = f
    · have hb : (g == f) = true:=beq_iff_eq.mpr h
      simp only [List.lookup,hb,if_pos h]
    · have hb : (g == f) = false:=beq_eq_false_iff_ne.mpr h
      simp only [List.lookup,hb,if_neg h]
  | (k,x) :: r=>by
    have ih:=lookup_putF f g v r
    rw [show putF f v ((k,x) :: r) = (if k = f then (k,v) :: r else (k,x) :: putF f v r) from rfl]
    by_cases hk : k = f
    · rw [if_pos hk]
      by_cases h : g = k
      · have hb : (g == k) = true:=beq_iff_eq.mpr h
        simp only [List.lookup,hb,if_pos (h.trans hk)]
      · have hb : (g == k) = false:=beq_eq_false_iff_ne.mpr h
        simp only [List.lookup,hb,if_neg (fun e : g = f=>h (e.trans hk.symm))]
    · rw [if_neg hk]
      by_cases h : g = k
      · have hb : (g == k) = true:=beq_iff_eq.mpr h
        simp only [List.lookup,hb,if_neg (fun e : g = f=>hk (h.symm.trans e))]
      · have hb : (g == k) = false:=beq_eq_false_iff_ne.mpr h
        simp only [List.lookup,hb]
        exact ih
theorem keys_putF (f : Str) (v : V) : ∀ fs : List (Str × V),f ∈ (putF f v fs).map (·.1) ∧ ∀ g,g ∈ fs.map (·.1) → g ∈ (putF f v fs).map (·.1)
  | []=>⟨by simp [putF],fun g h=>by simp at h⟩
  | (k,x) :: r=>by
    obtain ⟨i1,i2⟩:=keys_putF f v r
    rw [show putF f v ((k,x) :: r) = (if k = f then (k,v) :: r else (k,x) :: putF f v r) from rfl]
    by_cases hk : k = f
    · rw [if_pos hk]
      subst hk
      exact ⟨by simp,fun g h=>by simpa using h⟩
    · rw [if_neg hk]
      refine ⟨?_,fun g h=>?_⟩
      · rw [List.map_cons]
        exact List.mem_cons_of_mem _ i1
      · rw [List.map_cons] at h ⊢
        rcases List.mem_cons.mp h with e | e
        · exact List.mem_cons.mpr (.inl e)
        · exact List.mem_cons_of_mem _ (i2 g e)
theorem length_putF (f : Str) (v : V) : ∀ fs : List (Str × V),(putF f v fs).length ≤ fs.length + 1
  | []=>by simp [putF]
  | (k,x) :: r=>by
    have ih:=length_putF f v r
    rw [show putF f v ((k,x) :: r) = (if k = f then (k,v) :: r else (k,x) :: putF f v r) from rfl]
    by_cases hk : k = f
    · rw [if_pos hk,List.length_cons,List.length_cons]; omega
    · rw [if_neg hk,List.length_cons,List.length_cons]; omega
theorem RelO.some_of {v : V} {o : Option Value} (r : RelO (some v) o) : ∃ u,o = some u ∧ RelV v u:=by
  cases o with
  | none=>exact (show False from r).elim
  | some u=>exact ⟨u,rfl,r⟩
theorem RelO.none_of {o : Option Value} (r : RelO none o) : o = none:=by
  cases o with
  | none=>rfl
  | some u=>exact (show False from r).elim
theorem handed_of {v : V} {u : Value} (r : RelV v u) : PySem.W.handedIn u = true:=by
  cases v with
  | non=>cases (show u = Value.none from r); rfl
  | bl b=>cases (show u = Value.bool b from r); rfl
  | int i=>obtain ⟨t,e⟩:=(show ∃ t,u = Value.int i t from r); cases e; rfl
  | str x=>obtain ⟨t,e⟩:=(show ∃ t,u = Value.str x t from r); cases e; rfl
  | byt b=>obtain ⟨t,e⟩:=(show ∃ t,u = Value.bytes b t from r); cases e; rfl
  | flt b=>obtain ⟨t,e⟩:=(show ∃ t,u = Value.float b t from r); cases e; rfl
  | ref a=>cases (show u = Value.ref a from r); rfl
  | ty n=>cases (show u = Value.type n from r); rfl
section
variable {P : Program} {w : World} {H H' : Hp} {h h' : Heap} {a C dx : Addr} {fs fs' : List (Str × V)}
theorem ins_get (hok : HOk P w H h) (e : H a = some (.ins C dx fs)) : ∃ mA,ObjM h a dx C mA ∧ (∀ f,RelO (fs.lookup f) (mA f)) ∧ PySem.Within mA (fs.map (·.1)) ∧ fs.length ≤ 1000 ∧ H dx = some (.own a):=by
  obtain ⟨d,z,ne,ob,mA,n,r,q⟩:=(show ObjOk P w H h a (.ins C dx fs) from hok a _ e)
  exact ⟨mA,⟨ob,n,ne⟩,r,q,z,d⟩
end
structure Cls (K : PySem.W.Frag) (C : Addr) : Prop where
  pg : PySem.W.plainGet K C Str.empty = true
  hd : PySem.W.hasDictIn K C = true
  po : PySem.W.plainOver K C = true
  sa : PySem.W.findIn K (.ref C) "__setattr__" = some (some (.builtin "object.__setattr__"))
theorem Cls.get {K : PySem.W.Frag} {C : Addr} (c : Cls K C) (f : Str) : PySem.W.plainGet K C f = true:=c.pg
def NoAttr (K : PySem.W.Frag) (C : Addr) (f : Str) : Prop:=PySem.W.findIn K (.ref C) f = some none
theorem NoAttr.taker {K : PySem.W.Frag} {C : Addr} {f : Str} (n : NoAttr K C f) : PySem.W.takerIn K C f = some none:=by
  unfold PySem.W.takerIn
  rw [show PySem.W.findIn K (.ref C) f = some none from n]
  rfl
structure Con (K : PySem.W.Frag) (C : Addr) (f : Str) (v : V) (u : Value) : Prop where
  at_ : PySem.W.findIn K (.ref C) f = some (some u)
  rel : RelV v u
  get : PySem.W.specialIn K u "__get__" = some none
  cp : PySem.W.copiedNames.contains f = false
structure Meth (K : PySem.W.Frag) (C : Addr) (m : Str) (f : Addr) : Prop where
  at_ : PySem.W.findIn K (.ref C) m = some (some (.ref f))
  fn : PySem.W.isFn K (.ref f) = true
  kp : PySem.W.keepIn K (.ref f) = true
section
variable {X : Cx} {pins : List (Addr × Obj)} {σ : St} {H : Hp} {s : Shared} {a C dx : Addr} {fs : List (Str × V)} {f : Str} {v : V} {A : Around} {E : Value → Shared → Prop}
theorem getattr_ok {b : Bool} {Q : Value → Shared → Prop} (I : Inv X pins σ H s) (e : H a = some (.ins C dx fs)) (c : Cls X.K C) (n : NoAttr X.K C f) (l : fs.lookup f = some v)
    (h : ∀ u s',Inv X pins σ H s' → RelV v u → Q u s') : wpAny (model X.prog X.w) A (getAttr (.ref a) f b) Q E s:=by
  obtain ⟨mA,O,r,_,_,_⟩:=ins_get I.hok e
  obtain ⟨u,hu,ru⟩:=RelO.some_of (v:=v) (o:=mA f) (by rw [← l]; exact r f)
  exact get_map I.kIn O (c.get f) c.hd n hu (handed_of ru) (h u _ (I.tok _) ru)
theorem getmeth_ok {m : Str} {g : Addr} {pl : Sem Bool} {Q : Value × List Value → Shared → Prop} (I : Inv X pins σ H s) (e : H a = some (.ins C dx fs)) (c : Cls X.K C) (k : Meth X.K C m g) (l : fs.lookup m = none)
    (h : Q (.ref g,[.ref a]) s) : wpAny (model X.prog X.w) A (getMethod (.ref a) m pl) Q E s:=by
  obtain ⟨mA,O,r,_,_,_⟩:=ins_get I.hok e
  have hn : mA m = none:=RelO.none_of (by rw [← l]; exact r m)
  exact get_meth I.kIn O (c.get m) k.at_ k.fn hn h
theorem setattr_ok {y : V} {u : Value} {Q : Unit → Shared → Prop} (I : Inv X pins σ H s) (e : H a = some (.ins C dx fs)) (c : Cls X.K C) (n : NoAttr X.K C f) (hl : fs.length < 1000) (ry : RelV y u)
    (h : ∀ s',Inv X pins σ (upd H a (.ins C dx (putF f y fs))) s' → Q () s') : wpAny (model X.prog X.w) A (setAttr (.ref a) f u) Q E s:=by
  obtain ⟨mA,O,r,wi,_,ho⟩:=ins_get I.hok e
  have hz : (fs.map (·.1)).length ≤ sizeLine:=by rw [List.length_map,sizeLine_eq]; omega
  refine set_map I.kIn O c.sa c.po n.taker c.hd wi hz fun h' O' sb=>h _ ?_
  have hd : ∃ o,h'.get? dx = some o:=let ⟨o,_,_,e',_⟩:=O'.ns; ⟨o,e'⟩
  refine I.write (x:=a) (e:=dx) (by rw [e]; exact True.intro) (.inr ho) (fun b q hb z=>(sb.2 b hb).trans z) hd ?_
  refine ⟨by rw [upd_ne O.ne]; exact ho,?_,O.ne,O'.obj,_,O'.ns,fun g=>?_,fun g hg=>?_⟩
  · have:=length_putF f y fs; omega
  · show RelO ((putF f y fs).lookup g) (if g = f then some u else mA g)
    rw [lookup_putF]
    by_cases q : g = f
    · rw [if_pos q,if_pos q]; exact ry
    · rw [if_neg q,if_neg q]; exact r g
  · by_cases q : g = f
    · rw [q]; exact (keys_putF f y fs).1
    · refine (keys_putF f y fs).2 g (wi g fun z=>hg ?_)
      show (if g = f then some u else mA g) = none
      rw [if_neg q]; exact z
theorem Inv.made (I : Inv X pins σ H s) : Inv X pins σ (upd (upd H s.heap.objs.size (.own (s.heap.objs.size + 1))) (s.heap.objs.size + 1) (.ins C s.heap.objs.size []))
    { s with heap:=(s.heap.push PySem.W.emptyDict).push (PySem.W.instObj C s.heap.objs.size) }:=by
  have e1 : (s.heap.push PySem.W.emptyDict).get? s.heap.objs.size = some PySem.W.emptyDict:=Heap.get?_push_size s.heap rfl
  have e2 : ((s.heap.push PySem.W.emptyDict).push (PySem.W.instObj C s.heap.objs.size)).get? (s.heap.objs.size + 1) = some (PySem.W.instObj C s.heap.objs.size):=by
    have:=Heap.get?_push_size (s.heap.push PySem.W.emptyDict) (o:=PySem.W.instObj C s.heap.objs.size) rfl
    rwa [Heap.size_push] at this
  have e3 : (s.heap.push PySem.W.emptyDict).Ns s.heap.objs.size (fun _=>none):=⟨PySem.W.emptyDict,#[],_,e1,rfl,(fun e he=>absurd he (by simp)),fun _=>rfl⟩
  have I1:=I.laid (a:=s.heap.objs.size) (o:=.own (s.heap.objs.size + 1)) (h':=s.heap.push PySem.W.emptyDict) (t':=s.toks) (fun b u q=>Heap.get?_push_of_some _ q) (Nat.le_refl _) ⟨_,e1⟩
  refine I1.laid (a:=s.heap.objs.size + 1) (o:=.ins C s.heap.objs.size []) (t':=s.toks) (fun b u q=>Heap.get?_push_of_some _ q) (Nat.le_of_eq (Heap.size_push _ _)) ?_
  have ne : s.heap.objs.size ≠ s.heap.objs.size + 1:=Nat.ne_of_lt (Nat.lt_succ_self _)
  refine ⟨by rw [upd_ne ne,upd_same],Nat.zero_le _,ne,e2,fun _=>none,(Heap.Ns1.of_empty e3).at fun o q=>Heap.get?_push_of_some _ q,fun _=>True.intro,fun y hy=>absurd rfl hy⟩
theorem attr_of {prog : Program} {w : World} {env : Env} {e : Expr} {f : Str} {pos : Pos} {s : Shared} {Q : Value → Shared → Prop} (hb : attributeBase e f env (eval e env) = eval e env)
    (h : wpAny (model prog w) A (eval e env) (fun o s₁=>wpAny (model prog w) A (getAttr o f true) Q E s₁) E s) : wpAny (model prog w) A (eval (.Attribute e f pos) env) Q E s :=
  Attribute_any_ h (by rw [arm_eval_Attribute,hb])
end
def tFld (K : PySem.W.Frag) (ta : TE) (f : Str) : TE:=fun σ H Q=>ta σ H fun x H1=>∃ a C dx fs v,x = .ref a ∧ H1 a = some (.ins C dx fs) ∧ Cls K C ∧ NoAttr K C f ∧ fs.lookup f = some v ∧ Q v H1
def sFld (K : PySem.W.Frag) (ta tv : TE) (f : Str) : TS:=fun D σ H=>tv σ H fun y H1=>ta σ H1 fun x H2=>∃ a C dx fs,x = .ref a ∧ H2 a = some (.ins C dx fs) ∧ Cls K C ∧ NoAttr K C f ∧ fs.length < 1000 ∧
  D.nx σ (upd H2 a (.ins C dx (putF f y fs)))
def InOp (X : Cx) (op : Operator) (rd : V → V → Hp → VK → Prop) : Prop :=
  ∀ (pins : List (Addr × Obj)) (s : Shared) (σ : St) (H : Hp) (x y : V) (u v : Value) (Q : VK),Inv X pins σ H s → RelV x u → RelV y v → rd x y H Q → wpAny (model X.prog X.w) X.A (inplaceOp op u v) (EP X pins σ Q) X.xe s
def sFldAug (K : PySem.W.Frag) (ta tv : TE) (rd : V → V → Hp → VK → Prop) (f : Str) : TS:=fun D σ H=>ta σ H fun x H1=>∃ a C dx fs v,x = .ref a ∧ H1 a = some (.ins C dx fs) ∧ Cls K C ∧ NoAttr K C f ∧ fs.lookup f = some v ∧
  tv σ H1 fun y H2=>rd v y H2 fun z H3=>∃ dx' fs',H3 a = some (.ins C dx' fs') ∧ fs'.length < 1000 ∧ D.nx σ (upd H3 a (.ins C dx' (putF f z fs')))
section
variable {X : Cx} {o e value : Expr} {f : Str} {pos pos' tpos : Pos} {ta tv : TE}
theorem pe_fld (he : PE X e ta) (hb : attributeBase e f X.env (eval e X.env) = eval e X.env) : PE X (.Attribute e f pos) (tFld X.K ta f):=by
  intro pins s σ H Q I h
  refine attr_of hb (thn (he pins s σ H _ I h) fun u s1 ⟨x,H1,I1,rx,a,C,dx,fs,v,ex,ea,c,n,l,q⟩=>?_)
  subst ex
  obtain rfl : u = Value.ref a:=rx
  exact getattr_ok I1 ea c n l fun u' s2 I2 ru=>⟨v,H1,I2,ru,q⟩
theorem ps_fld (ha : PE X o ta) (hv : PE X value tv) (hs : swapsWith value (some (.Attribute o f pos')) pos.line X.env = pure false) : PS X (.Assign [.Attribute o f pos'] value pos) (sFld X.K ta tv f):=by
  intro pins s σ H D I h
  refine plainObj_wpAny_Assign_Attribute (thn (hv pins s σ H _ I h) fun u s1 ⟨y,H1,I1,ry,q⟩=>thn (ha pins s1 σ H1 _ I1 q) fun ov s2 ⟨x,H2,I2,rx,a,C,dx,fs,ex,ea,c,n,l,q2⟩=>?_) hs
  subst ex
  obtain rfl : ov = Value.ref a:=rx
  exact setattr_ok I2 ea c n l ry fun s3 I3=>⟨σ,_,I3,q2⟩
theorem ps_fldaug {op : Operator} {rd : V → V → Hp → VK → Prop} (ha : PE X o ta) (hv : PE X value tv) (hop : InOp X op rd) : PS X (.AugAssign (.Attribute o f tpos) op value pos) (sFldAug X.K ta tv rd f):=by
  intro pins s σ H D I h
  refine wpAny_AugAssign_AttributeAny (thn (ha pins s σ H _ I h) fun ov s1 ⟨x,H1,I1,rx,a,C,dx,fs,v,ex,ea,c,n,l,q⟩=>?_)
  subst ex
  obtain rfl : ov = Value.ref a:=rx
  refine getattr_ok I1 ea c n l fun u s2 I2 ru=>thn (hv pins s2 σ H1 _ I2 q) fun w3 s3 ⟨y,H2,I3,ry,q3⟩=>thn (hop pins s3 σ H2 v y u w3 _ I3 ru ry q3) fun w4 s4 ⟨z,H3,I4,rz,dx',fs',ea',l',q4⟩=>?_
  exact setattr_ok I4 ea' c n l' rz fun s5 I5=>⟨σ,_,I5,q4⟩
def rAdd : V → V → Hp → VK → Prop:=fun x y H Q=>∃ i j,x = .int i ∧ y = .int j ∧ Q (.int (i + j)) H
def rSub : V → V → Hp → VK → Prop:=fun x y H Q=>∃ i j,x = .int i ∧ y = .int j ∧ Q (.int (i - j)) H
theorem in_add : InOp X .Add rAdd:=by
  rintro pins s σ H x y u v Q I rx ry ⟨i,j,rfl,rfl,q⟩
  obtain ⟨t,rfl⟩:=(show ∃ t,u = Value.int i t from rx)
  obtain ⟨t',rfl⟩:=(show ∃ t',v = Value.int j t' from ry)
  exact PyProof.Rows.iadd_int ⟨.int (i + j),H,I.tok _,⟨_,rfl⟩,q⟩
theorem in_sub : InOp X .Sub rSub:=by
  rintro pins s σ H x y u v Q I rx ry ⟨i,j,rfl,rfl,q⟩
  obtain ⟨t,rfl⟩:=(show ∃ t,u = Value.int i t from rx)
  obtain ⟨t',rfl⟩:=(show ∃ t',v = Value.int j t' from ry)
  exact PyProof.Rows.isub_int ⟨.int (i - j),H,I.tok _,⟨_,rfl⟩,q⟩
end
section
variable {X : Cx} {pins : List (Addr × Obj)} {σ : St} {H : Hp} {s : Shared} {A : Around} {E : Value → Shared → Prop} {Q : Value → Shared → Prop} {c : Value} {b : Bool}
inductive TyOf (K : PySem.W.Frag) (H : Hp) : V → Value → Prop where
  | non : TyOf K H .non (.type "NoneType")
  | bl (x : Bool) : TyOf K H (.bl x) (.type "bool")
  | int (i : Int) : TyOf K H (.int i) (.type "int")
  | str (x : Str) : TyOf K H (.str x) (.type "str")
  | flt (x : UInt64) : TyOf K H (.flt x) (.type "float")
  | lst {a : Addr} {xs : List V} (e : H a = some (.lst xs)) : TyOf K H (.ref a) (.type "list")
  | frz {a : Addr} {o : Obj} {xs : List V} (e : H a = some (.frz o (.lst xs))) : TyOf K H (.ref a) (.type "list")
  | tup {a : Addr} {xs : List V} (e : H a = some (.tup xs)) : TyOf K H (.ref a) (.type "tuple")
  | dK {a : Addr} {kvs : List (Key × V)} (e : H a = some (.dK kvs)) : TyOf K H (.ref a) (.type "dict")
  | dT {a : Addr} {kvs : List (List Key × V)} (e : H a = some (.dT kvs)) : TyOf K H (.ref a) (.type "dict")
  | ins {a C dx : Addr} {fs : List (Str × V)} (e : H a = some (.ins C dx fs)) (cl : Cls K C) (ha : PySem.W.findIn K (.ref C) "__class__" = some (some (.builtin "object.__class__")))
      (hn : PySem.W.specialIn K (.builtin "object.__class__") "__get__" = some (some (.builtin "getset_descriptor.__get__"))) (htk : PySem.W.takesIn K (.builtin "object.__class__") = some true)
      (hm : PySem.W.mroIn K C (.type "object") = some true) : TyOf K H (.ref a) (.ref C)
end
end L2
namespace L2
open PySem PySem.Spec PyProof.Rows
structure Room (k : Nat) (A : Around) : Prop where
  hd : A.handled = none
  dp : A.depth + 3 * k + 5 < recursionLimit
  un : A.units + 16 * k + 200 < cLine
theorem Room.mono {j k : Nat} {A : Around} (r : Room k A) (h : j ≤ k) : Room j A:=⟨r.hd,by have:=r.dp; omega,by have:=r.un; omega⟩
theorem Room.deeper {k : Nat} {A : Around} (r : Room (k + 1) A) (env : Env) : Room k (A.deeper env) :=
  ⟨r.hd,by have:=r.dp; show A.depth + 1 + 3 * k + 5 < _; omega,by have:=r.un; show A.units + 3 + 16 * k + 200 < _; omega⟩
theorem make_depth {A : Around} {C : Addr} {us : List Value} {kw : List (Str × Value)} : (A.under (.builtin "type.__call__" ⟨.ref C :: us,kw⟩)).depth = A.depth + 1:=by
  first | rfl | simp [Around.under,Code.weight,Code.isCreation,Code.isGuard,Code.isCaller,Code.frames,Code.isFrame,guardIds]
theorem make_units {A : Around} {C : Addr} {us : List Value} {kw : List (Str × Value)} : (A.under (.builtin "type.__call__" ⟨.ref C :: us,kw⟩)).units = A.units + 1:=by
  first | rfl | simp [Around.under,Code.cUnits,Code.frames,Code.isFrame]
theorem Room.make {k : Nat} {A : Around} (r : Room (k + 1) A) (C : Addr) (us : List Value) (kw : List (Str × Value)) : Room k (A.under (.builtin "type.__call__" ⟨.ref C :: us,kw⟩)) :=
  ⟨r.hd,by have:=r.dp; rw [make_depth]; omega,by have:=r.un; rw [make_units]; omega⟩
theorem Room.depth {k : Nat} {A : Around} (r : Room k A) : A.depth < recursionLimit:=by have:=r.dp; omega
theorem Room.units {k : Nat} {A : Around} (r : Room k A) : A.units + 64 < cLine:=by have:=r.un; omega
def tNil : TA:=fun _ H Q=>Q [] H
def tCons (ta : TE) (tr : TA) : TA:=fun σ H Q=>ta σ H fun x H1=>tr σ H1 fun xs H2=>Q (x :: xs) H2
section
variable {X : Cx} {e : Expr} {es : List Expr} {te : TE} {t : TA} {pos : Pos}
theorem pa_nil : PA X [] tNil:=fun _ _ _ _ H Q I h=>Calls.spliced_nil ⟨[],H,I,.nil,h⟩
theorem pa_cons (ha : PE X e te) (hr : PA X es t) (hs : starEach (e :: es) X.env = (false,eval e X.env) :: starEach es X.env:=by rfl) : PA X (e :: es) (tCons te t):=by
  intro pos pins s σ H Q I h
  rw [hs]
  show wpAny _ _ (spliced ((false,eval e X.env) :: backTo pos (starEach es X.env))) _ _ s
  refine Calls.spliced_cons (thn (ha pins s σ H _ I h) fun u s1 ⟨x,H1,I1,r1,q1⟩=>?_)
  exact thn (hr pos pins s1 σ H1 _ I1 q1) fun us s2 ⟨xs,H2,I2,r2,q2⟩=>⟨x :: xs,H2,I2,.cons r1 r2,q2⟩
def tTup (t : TA) : TE:=fun σ H Q=>t σ H fun xs H1=>xs.length ≤ sizeLine ∧ ∀ p,H1 p = none → Q (.ref p) (upd H1 p (.tup xs))
def tLst (t : TA) : TE:=fun σ H Q=>t σ H fun xs H1=>xs.length ≤ sizeLine ∧ ∀ p,H1 p = none → Q (.ref p) (upd H1 p (.lst xs))
theorem pe_tup {x1} (h : PA X es t) : PE X (.Tuple es x1 pos) (tTup t):=by
  intro pins s σ H Q I hq
  refine wpAny_Tuple_spliced (thn (h pos pins s σ H _ I hq) fun us s1 ⟨xs,H1,I1,r,z,q⟩=>⟨by rw [← r.length]; exact z,?_⟩)
  have hf : H1 s1.heap.objs.size = none:=I1.hok.fresh (Nat.le_refl _)
  refine ⟨.ref s1.heap.objs.size,upd H1 s1.heap.objs.size (.tup xs),I1.laid (t':=s1.toks) (fun b u e=>Heap.get?_push_of_some _ e) (Nat.le_refl _) ?_,rfl,q _ hf⟩
  exact ⟨z,us,r,⟨_,Heap.get?_push_size _ rfl,rfl,_,rfl⟩⟩
theorem pe_lst (h : PA X es t) : PE X (.List es pos) (tLst t):=by
  intro pins s σ H Q I hq
  refine wpAny_List_spliced (thn (h pos pins s σ H _ I hq) fun us s1 ⟨xs,H1,I1,r,z,q⟩=>⟨by rw [← r.length]; exact z,?_⟩)
  have hf : H1 s1.heap.objs.size = none:=I1.hok.fresh (Nat.le_refl _)
  refine ⟨.ref s1.heap.objs.size,upd H1 s1.heap.objs.size (.lst xs),I1.laid (t':=s1.toks) (fun b u e=>Heap.get?_push_of_some _ e) (Nat.le_refl _) ?_,rfl,q _ hf⟩
  exact ⟨z,us,0,r,Heap.get?_push_size _ rfl⟩
end
abbrev Sp:=List V → Hp → VK → XK → Prop
abbrev CXT:=List Env → Hp → Shared → XK → Value → Shared → Prop
structure Env0 (P : Program) (w : World) (K : PySem.W.Frag) (mg : Str → Option Value) (base : Heap) (A : Around) (outer : List Env) (s : Shared) (H : Hp) : Prop where
  frames : A.frames = some outer
  mod : Mod K mg base
  bs : ∀ b o,base.get? b = some o → s.heap.get? b = some o ∧ H b = none
  bsz : base.objs.size ≤ s.heap.objs.size
  funs : s.heap.FunFrames base outer
  frf : ∀ b ∈ frs outer,H b = none
  hok : HOk P w H s.heap
  bare : AllBare s.gens
def CE (outer : List Env) (P : Program) (w : World) (H : Hp) (s : Shared) (Q : VK) (u : Value) (s' : Shared) : Prop :=
  ∃ v H',s'.os = s.os ∧ AllBare s'.gens ∧ Un (frs outer) [] H H' s.heap s'.heap ∧ HOk P w H' s'.heap ∧ RelV v u ∧ Q v H'
def CR (CX : CXT) (outer : List Env) (P : Program) (w : World) (H : Hp) (s : Shared) (Q : VK) (E : XK) (r : Result) (s' : Shared) : Prop :=
  match r with
  | .ok (.ret u)=>CE outer P w H s Q u s'
  | .ok _=>False
  | .error e=>CX outer H s E e s'
structure FnOk (P : Program) (w : World) (K : PySem.W.Frag) (mg : Str → Option Value) (base : Heap) (CX : CXT) (k : Nat) (f : Addr) (fd : FuncData) (ps : List Str) (sp : Sp) : Prop where
  len : ∀ vs H Q E,sp vs H Q E → vs.length = ps.length
  run : ∀ (A : Around) (outer : List Env) (s : Shared) (H : Hp) (args : Args) (us : List Value) (vs : List V) (Q : VK) (E : XK),Room k A → Env0 P w K mg base A outer s H → BindsTo s fd args (ps.zip us) → Vals vs us → sp vs H Q E →
    codeAny (model P w) A (.call (.ref f) args) (CR CX outer P w H s Q E) s
theorem Env0.make {P : Program} {w : World} {K : PySem.W.Frag} {mg : Str → Option Value} {base : Heap} {A : Around} {outer : List Env} {s : Shared} {H : Hp} (e : Env0 P w K mg base A outer s H) (C : Addr) (us : List Value) (kw : List (Str × Value)) :
    Env0 P w K mg base (A.under (.builtin "type.__call__" ⟨.ref C :: us,kw⟩)) outer s H:=⟨by first | exact e.frames | (simpa [Around.under,Code.envs,Code.isFrame,pushEnvs] using e.frames),e.mod,e.bs,e.bsz,e.funs,e.frf,e.hok,e.bare⟩
section
variable {X : Cx} {pins : List (Addr × Obj)} {σ : St} {H : Hp} {s s' : Shared}
theorem Inv.env0 (I : Inv X pins σ H s) : Env0 X.prog X.w X.K X.mg X.base X.A X.stack s H :=
  ⟨I.ok.frames,I.ok.mod,I.bs,Nat.le_trans I.ok.bsz I.sz,I.stack,I.stkFree,I.hok,I.bare⟩
theorem Inv.after {Q : VK} {u : Value} (I : Inv X pins σ H s) (h : CE X.stack X.prog X.w H s Q u s') : EP X pins σ Q u s':=by
  obtain ⟨v,H',os,bare,un,hok,r,q⟩:=h
  obtain ⟨hh,g,d,t,os'⟩:=s'
  obtain rfl : os' = s.os:=os
  exact ⟨v,H',I.call (h':=hh) (g':=g) (d':=d) (t':=t) (ch:=[]) un hok bare (fun b z=>absurd z (by simp)),r,q⟩
end
def tCall (sp : Sp) (dvs : List V) (E : XK) (t : TA) : TE:=fun σ H Q=>t σ H fun vs H1=>sp (vs ++ dvs) H1 Q E
def tMeth (C : Addr) (m : Str) (sp : Sp) (dvs : List V) (E : XK) (ta : TE) (t : TA) : TE:=fun σ H Q=>ta σ H fun x H1=>∃ a dx fs,x = .ref a ∧ H1 a = some (.ins C dx fs) ∧ fs.lookup m = none ∧
  t σ H1 fun vs H2=>sp (x :: (vs ++ dvs)) H2 Q E
def tMake (C : Addr) (sp : Sp) (dvs : List V) (E : XK) (t : TA) : TE:=fun σ H Q=>t σ H fun vs H1=>∀ x dx,H1 x = none → H1 dx = none → dx ≠ x →
  sp (.ref x :: (vs ++ dvs)) (upd (upd H1 dx (.own x)) x (.ins C dx [])) (fun v H2=>v = .non ∧ Q (.ref x) H2) E
def Binds (K : PySem.W.Frag) (fd : FuncData) (ps : List Str) (ds : List Value) : Prop :=
  ∀ (s : Shared) (us : List Value),K.In s.heap → (us ++ ds).length = ps.length → BindsTo s fd ⟨us,[]⟩ (ps.zip (us ++ ds))
theorem Binds.all {K : PySem.W.Frag} {fd : FuncData} {ps : List Str} (h : ∀ us : List Value,us.length = ps.length → bindArgs fd ⟨us,[]⟩ = pure (ps.zip us)) : Binds K fd ps []:=fun s us _ hl=>by
  rw [List.append_nil] at hl ⊢
  exact .of_eq (h us hl)
def Passes (CX : CXT) (X : Cx) (E : XK) : Prop:=∀ (pins : List (Addr × Obj)) (σ : St) (H : Hp) (s : Shared) (e : Value) (s' : Shared),Inv X pins σ H s → CX X.stack H s E e s' → X.xe e s'
section
variable {X : Cx} {CX : CXT} {k : Nat} {f C : Addr} {fd : FuncData} {ps : List Str} {sp : Sp} {dvs : List V} {ds : List Value} {E : XK} {x m : Str} {p pos apos : Pos} {e o : Expr} {es : List Expr} {ta : TE} {t : TA}
theorem run_fn {pins : List (Addr × Obj)} {σ : St} {H : Hp} {s : Shared} {Q : VK} {us : List Value} {vs : List V} (F : FnOk X.prog X.w X.K X.mg X.base CX k f fd ps sp) (hr : Room k X.A) (hb : Binds X.K fd ps ds) (hd : Vals dvs ds) (hx : Passes CX X E)
    (I : Inv X pins σ H s) (r : Vals vs us) (h : sp (vs ++ dvs) H Q E) : wpAny (model X.prog X.w) X.A (call (.ref f) us) (EP X pins σ Q) X.xe s:=by
  have r2 : Vals (vs ++ dvs) (us ++ ds):=r.append hd
  have hl : (us ++ ds).length = ps.length:=by rw [← r2.length]; exact F.len _ _ _ _ h
  refine wpAny_call (codeAny_mono (F.run X.A X.stack s H ⟨us,[]⟩ (us ++ ds) (vs ++ dvs) Q E hr I.env0 (hb s us I.kIn hl) r2 h) fun r s' hq=>?_)
  cases r with
  | error e=>exact hx pins σ H s e s' I hq
  | ok fl =>
    cases fl with
    | ret u=>exact I.after hq
    | next=>exact False.elim hq
    | brk=>exact False.elim hq
    | cont=>exact False.elim hq
theorem pe_call (F : FnOk X.prog X.w X.K X.mg X.base CX k f fd ps sp) (hr : Room k X.A) (hg : Gl X x) (hm : X.mg x = some (.ref f)) (hk : PySem.W.keepIn X.K (.ref f) = true) (hb : Binds X.K fd ps ds) (hd : Vals dvs ds) (hx : Passes CX X E)
    (ha : PA X (e :: es) t) (hdb : (x == ("__debug__" : Str)) = false:=by decide) (he : starEach (e :: es) X.env = (false,eval e X.env) :: starEach es X.env:=by rfl) (hpl : (backTo pos (starEach es X.env)).any (·.1) = false:=by rfl) :
    PE X (.Call (.Name x p) (e :: es) [] pos) (tCall sp dvs E t):=by
  intro pins s σ H Q I h
  refine wpAny_Call_Name_kw (ld_glob I hg hm ?_ hdb)
  refine PySem.W.callWith_K (h₀:=X.base) I.ok.mod.kin hk (thn (ha pos pins s σ H _ I h) fun us s1 ⟨vs,H1,I1,r,q⟩=>⟨I1.kIn,?_⟩) he hpl
  exact run_fn F hr hb hd hx I1 r q
theorem pe_meth0 {pl : Sem Bool} (he : PE X o ta) (c : Cls X.K C) (hm : Meth X.K C m f) (F : FnOk X.prog X.w X.K X.mg X.base CX k f fd ps sp) (hr : Room k X.A) (hb : Binds X.K fd ps ds) (hd : Vals dvs ds) (hx : Passes CX X E)
    (ht : eval (.Call (.Attribute o m apos) [] [] pos) X.env = (do
      let ov ← eval o X.env
      standAt apos.atName
      let (f,first) ← holding [ov] (getMethod ov m pl)
      callWith pos f first (backTo pos (starEach [] X.env)) (backToKw pos (keywordEach [] X.env))):=by rfl) :
    PE X (.Call (.Attribute o m apos) [] [] pos) (tMeth C m sp dvs E ta tNil):=by
  intro pins s σ H Q I h
  refine PySem.W.methodCall_KW (pl:=pl) (thn (he pins s σ H _ I h) fun u s1 ⟨x,H1,I1,rx,a,dx,fs,ex,ea,l,q⟩=>?_) ht
  subst ex
  obtain rfl : u = Value.ref a:=rx
  refine getmeth_ok I1 ea c hm l ?_
  exact PySem.W.callWith_K0 (first:=[.ref a]) I1.kIn hm.kp (run_fn (us:=[.ref a]) (vs:=[.ref a]) F hr hb hd hx I1 (.cons rfl .nil) q)
structure Mk (K : PySem.W.Frag) (C f : Addr) : Prop where
  makes : PySem.W.makesIn K C = true
  init : PySem.W.findIn K (.ref C) "__init__" = some (some (.ref f))
  fn : PySem.W.isFn K (.ref f) = true
  kp : PySem.W.keepIn K (.ref C) = true
theorem run_make {pins : List (Addr × Obj)} {σ : St} {H : Hp} {s : Shared} {Q : VK} {us : List Value} {vs : List V} (M : Mk X.K C f) (F : FnOk X.prog X.w X.K X.mg X.base CX k f fd ps sp) (hr : Room (k + 1) X.A) (hb : Binds X.K fd ps ds) (hd : Vals dvs ds)
    (hx : Passes CX X E) (I : Inv X pins σ H s) (r : Vals vs us)
    (h : ∀ x dx,H x = none → H dx = none → dx ≠ x → sp (.ref x :: (vs ++ dvs)) (upd (upd H dx (.own x)) x (.ins C dx [])) (fun v H2=>v = .non ∧ Q (.ref x) H2) E) :
    wpAny (model X.prog X.w) X.A (call (.ref C) us) (EP X pins σ Q) X.xe s:=by
  have hq:=h (s.heap.objs.size + 1) s.heap.objs.size (I.hok.fresh (Nat.le_succ _)) (I.hok.fresh (Nat.le_refl _)) (Nat.ne_of_lt (Nat.lt_succ_self _))
  have I2:=Inv.made (C:=C) I
  have r2 : Vals (V.ref (s.heap.objs.size + 1) :: (vs ++ dvs)) (Value.ref (s.heap.objs.size + 1) :: (us ++ ds)):=.cons rfl (r.append hd)
  have hl : (Value.ref (s.heap.objs.size + 1) :: us ++ ds).length = ps.length:=by
    have e:=r2.length
    rw [F.len _ _ _ _ hq] at e
    exact e.symm
  refine wpAny_call (make_map (f:=f) I.kIn M.makes M.init (beq_iff_eq.mp M.fn) (codeAny_mono (F.run _ X.stack _ _ ⟨Value.ref (s.heap.objs.size + 1) :: us,[]⟩ (Value.ref (s.heap.objs.size + 1) :: (us ++ ds)) _ _ E (hr.make C us [])
    (I2.env0.make C us []) (hb _ (Value.ref (s.heap.objs.size + 1) :: us) I2.kIn hl) r2 hq) fun r s' hq'=>?_))
  cases r with
  | error e=>exact hx pins σ _ _ e s' I2 hq'
  | ok fl =>
    cases fl with
    | ret u =>
      obtain ⟨v,H',I3,rv,ev,q3⟩:=I2.after hq'
      subst ev
      exact ⟨rv,⟨V.ref (s.heap.objs.size + 1),H',I3,rfl,q3⟩⟩
    | next=>exact False.elim hq'
    | brk=>exact False.elim hq'
    | cont=>exact False.elim hq'
theorem pe_make (M : Mk X.K C f) (F : FnOk X.prog X.w X.K X.mg X.base CX k f fd ps sp) (hr : Room (k + 1) X.A) (hg : Gl X x) (hm : X.mg x = some (.ref C)) (hb : Binds X.K fd ps ds) (hd : Vals dvs ds) (hx : Passes CX X E)
    (ha : PA X (e :: es) t) (hdb : (x == ("__debug__" : Str)) = false:=by decide) (he : starEach (e :: es) X.env = (false,eval e X.env) :: starEach es X.env:=by rfl) (hpl : (backTo pos (starEach es X.env)).any (·.1) = false:=by rfl) :
    PE X (.Call (.Name x p) (e :: es) [] pos) (tMake C sp dvs E t):=by
  intro pins s σ H Q I h
  refine wpAny_Call_Name_kw (ld_glob I hg hm ?_ hdb)
  refine PySem.W.callWith_K (h₀:=X.base) I.ok.mod.kin M.kp (thn (ha pos pins s σ H _ I h) fun us s1 ⟨vs,H1,I1,r,q⟩=>⟨I1.kIn,?_⟩) he hpl
  exact run_make M F hr hb hd hx I1 r q
theorem pe_make0 (M : Mk X.K C f) (F : FnOk X.prog X.w X.K X.mg X.base CX k f fd ps sp) (hr : Room (k + 1) X.A) (hg : Gl X x) (hm : X.mg x = some (.ref C)) (hb : Binds X.K fd ps ds) (hd : Vals dvs ds) (hx : Passes CX X E)
    (hdb : (x == ("__debug__" : Str)) = false:=by decide) : PE X (.Call (.Name x p) [] [] pos) (tMake C sp dvs E tNil):=by
  intro pins s σ H Q I h
  refine wpAny_Call_Name_kw (ld_glob I hg hm ?_ hdb)
  exact PySem.W.callWith_K0 I.kIn M.kp (run_make (us:=[]) M F hr hb hd hx I .nil h)
end
section
variable {X : Cx} {CX : CXT} {k : Nat} {f C : Addr} {fd : FuncData} {ps ks : List Str} {sp : Sp} {E : XK} {x m : Str} {p pos apos kpos : Pos} {e o : Expr} {es : List Expr} {kws : List Keyword} {te ta : TE} {t tk : TA} {nm : Option Str}
structure KBinds (K : PySem.W.Frag) (fd : FuncData) (ps ks : List Str) (g : List Value → List Value → List Value) (gV : List V → List V → List V) : Prop where
  to : ∀ (s : Shared) (us ws : List Value),K.In s.heap → (g us ws).length = ps.length → BindsTo s fd ⟨us,ks.zip ws⟩ (ps.zip (g us ws))
  rel : ∀ {vs : List V} {us : List Value} {zs : List V} {ws : List Value},Vals vs us → Vals zs ws → Vals (gV vs zs) (g us ws)
variable {g : List Value → List Value → List Value} {gV : List V → List V → List V}
end
structure FnScope (N P : List Str) (sc : Scope) : Prop where
  kind : sc.kind = .function
  co : sc.isCoroutine = false
  gen : sc.isGenerator = false
  nd : N.Nodup
  pre : N.take P.length = P
  par : ∀ x ∈ P,sc.names.lookup x = some .local ∨ sc.names.lookup x = some .cell
  nofree : ∀ y ∈ sc.names,y.2 ≠ .free
theorem bindL_out {kindOf : Str → Option NameKind} {x : Str} : ∀ {binds : List (Str × Value)} {m : Str → Option Value},(∀ v,(x,v) ∉ binds) → bindL kindOf binds m x = m x
  | [],_,_=>rfl
  | (n,v) :: r,m,h=>by
    unfold bindL
    rw [bindL_out fun w hw=>h w (List.mem_cons_of_mem _ hw)]
    split
    · have : x ≠ n:=by rintro rfl; exact h v List.mem_cons_self
      simp [this]
    · rfl
theorem bindC_out {kindOf : Str → Option NameKind} {x : Str} : ∀ {binds : List (Str × Value)} {m : Str → Option Value},(∀ v,(x,v) ∉ binds) → bindC kindOf binds m x = m x
  | [],_,_=>rfl
  | (n,v) :: r,m,h=>by
    unfold bindC
    rw [bindC_out fun w hw=>h w (List.mem_cons_of_mem _ hw)]
    split
    · rfl
    · have : x ≠ n:=by rintro rfl; exact h v List.mem_cons_self
      simp [this]
theorem bindL_get {kindOf : Str → Option NameKind} {x : Str} {v : Value} : ∀ {P : List Str} {vs : List Value} {i : Nat} {m : Str → Option Value},P.Nodup → P[i]? = some x → vs[i]? = some v → kindOf x = some .local →
    bindL kindOf (P.zip vs) m x = some v
  | [],_,_,_,_,h,_,_=>by simp at h
  | _ :: _,[],_,_,_,_,h,_=>by simp at h
  | p :: P,w :: vs,0,m,nd,h1,h2,hk=>by
    simp at h1 h2; subst h1; subst h2
    show bindL kindOf ((p,w) :: P.zip vs) m p = _
    unfold bindL
    rw [bindL_out fun v hv=>(List.nodup_cons.mp nd).1 (List.of_mem_zip hv).1,if_pos hk]
    simp
  | p :: P,w :: vs,i + 1,m,nd,h1,h2,hk=>by
    show bindL kindOf ((p,w) :: P.zip vs) m x = _
    unfold bindL
    exact bindL_get (i:=i) (List.nodup_cons.mp nd).2 (by simpa using h1) (by simpa using h2) hk
theorem bindC_get {kindOf : Str → Option NameKind} {x : Str} {v : Value} : ∀ {P : List Str} {vs : List Value} {i : Nat} {m : Str → Option Value},P.Nodup → P[i]? = some x → vs[i]? = some v → kindOf x ≠ some .local →
    bindC kindOf (P.zip vs) m x = some v
  | [],_,_,_,_,h,_,_=>by simp at h
  | _ :: _,[],_,_,_,_,h,_=>by simp at h
  | p :: P,w :: vs,0,m,nd,h1,h2,hk=>by
    simp at h1 h2; subst h1; subst h2
    show bindC kindOf ((p,w) :: P.zip vs) m p = _
    unfold bindC
    rw [bindC_out fun v hv=>(List.nodup_cons.mp nd).1 (List.of_mem_zip hv).1,if_neg hk]
    simp
  | p :: P,w :: vs,i + 1,m,nd,h1,h2,hk=>by
    show bindC kindOf ((p,w) :: P.zip vs) m x = _
    unfold bindC
    exact bindC_get (i:=i) (List.nodup_cons.mp nd).2 (by simpa using h1) (by simpa using h2) hk
def start (N : List Str) (vs : List V) : St:=vs.map some ++ List.replicate (N.length - vs.length) none
def cxOf (CX : CXT) (P : Program) (w : World) (K : PySem.W.Frag) (mg : Str → Option Value) (base : Heap) (N : List Str) (qual : Str) (scope : Scope) (f : Addr) (cd : Value) (A : Around) (outer : List Env) (s : Shared) (H : Hp) (E : XK) : Cx where
  prog:=P
  w:=w
  K:=K
  mg:=mg
  base:=base
  A:=A.deeper (envOfC qual scope s.heap.objs.size f cd)
  N:=N
  s_0:=s
  H_0:=H
  env:=envOfC qual scope s.heap.objs.size f cd
  outer:=outer
  stack:=envOfC qual scope s.heap.objs.size f cd :: outer
  ex:=[]
  calm:=true
  fn:=fun _=>true
  pn:=[]
  xe:=fun e s'=>wpAny (model P w) (A.deeper (envOfC qual scope s.heap.objs.size f cd)) (leaving (envOfC qual scope s.heap.objs.size f cd) e) (fun _ s''=>CX outer H s E e s'') (fun e' s''=>CX outer H s E e' s'') s'
theorem cell_has {sc : Scope} {n : Nat} {x : Str} (h : sc.names.lookup x = some .cell) : ∃ c,(cellsFrom n sc.names []).lookup x = some c:=by
  have q:=PySem.W.cellsFrom_some sc.names n [] (.inl h)
  exact Option.isSome_iff_exists.mp q
theorem inv_start {CX : CXT} {P : Program} {w : World} {K : PySem.W.Frag} {mg : Str → Option Value} {base : Heap} {N ps : List Str} {qual : Str} {scope : Scope} {f : Addr} {cd : Value} {A : Around} {outer : List Env} {s s1 : Shared} {H : Hp} {E : XK} {us : List Value} {vs : List V}
    (S : FnScope N ps scope) (hd : A.handled = none) (e0 : Env0 P w K mg base A outer s H) (hl : vs.length = ps.length) (r : Vals vs us)
    (x : InCallC s s.heap.objs.size (bindL (envOfC qual scope s.heap.objs.size f cd).kindOf (ps.zip us) fun _=>none) (cellsFrom (s.heap.objs.size + 1) scope.names []) (bindC (envOfC qual scope s.heap.objs.size f cd).kindOf (ps.zip us) fun _=>none) s1) :
    Inv (cxOf CX P w K mg base N qual scope f cd A outer s H E) [] (start N vs) H s1:=by
  have hpl : ps.length ≤ N.length:=by have:=congrArg List.length S.pre; rw [List.length_take] at this; omega
  obtain ⟨h1,tk,rfl,hk⟩:=x.done
  have noA : ∀ b : Addr,b ∉ (cxOf CX P w K mg base N qual scope f cd A outer s H E).ex:=fun b z=>absurd (show b ∈ ([] : List Addr) from z) (by simp)
  refine ⟨⟨e0.mod,S.kind,rfl,rfl,Nat.le_refl _,fun y z c h1 h2=>?_,fun y hy=>?_,fun y c _ h=>?_,fun _=>hd,Around.frames_deeper e0.frames,.inr ⟨rfl,rfl⟩,fun b z=>absurd z (noA b),e0.bs,e0.bsz,fun b _ _=>noA b,fun b z=>absurd z (noA b),e0.funs,e0.frf⟩,
    rfl,e0.bare,Un.kept hk,⟨_,x.toInCall.ns,fun i y v h1 h2 h3=>?_⟩,fun y c h=>⟨_,x.cell y c h⟩,e0.hok.fresh (Nat.le_refl _),fun y c h=>?_,fun p hp=>absurd (show p ∈ ([] : List (Addr × Obj)) from hp) (by simp),e0.hok.kept hk,?_⟩
  · exact name_of_addr x.apart (PySem.mem_of_lookup h1) (PySem.mem_of_lookup h2)
  · have hy : scope.names.lookup y = some .cell ∨ scope.names.lookup y = some .free:=hy
    rcases hy with hy | hy
    · exact cell_has hy
    · exact absurd rfl (S.nofree _ (PySem.mem_of_lookup hy))
  · exact Nat.le_of_lt (x.above y c (PySem.mem_of_lookup h))
  · have hi : i < vs.length:=by
      unfold start at h2
      by_cases hi : i < vs.length
      · exact hi
      · rw [List.getElem?_append_right (by simpa using hi)] at h2
        rw [List.getElem?_replicate] at h2
        split at h2 <;> cases h2
    have ha : vs[i]? = some v:=by
      unfold start at h2
      rw [List.getElem?_append_left (by simpa using hi),List.getElem?_map] at h2
      cases e : vs[i]? with
      | none=>rw [e] at h2; cases h2
      | some a=>rw [e] at h2; cases h2; rfl
    obtain ⟨u,hu,rv⟩:=r.get ha
    have hp : ps[i]? = some y:=by
      rw [← S.pre,List.getElem?_take_of_lt (by omega)]; exact h1
    have ndP : ps.Nodup:=by rw [← S.pre]; exact S.nd.sublist (List.take_sublist _ _)
    refine ⟨u,rv,?_⟩
    rcases S.par y (List.mem_of_getElem? hp) with k | k
    · exact .inl ⟨k,bindL_get ndP hp hu k⟩
    · obtain ⟨c,e⟩:=cell_has (n:=s.heap.objs.size + 1) k
      refine .inr ⟨.inl k,c,e,?_⟩
      have q:=x.cell y c e
      rw [bindC_get ndP hp hu (by show scope.names.lookup y ≠ _; rw [k]; decide)] at q
      exact q
  · exact e0.hok.fresh (Nat.le_of_lt (x.above y c (PySem.mem_of_lookup h)))
  · unfold start
    show _ = N.length
    rw [List.length_append,List.length_map,List.length_replicate]
    omega
theorem fn_of {CX : CXT} {P : Program} {w : World} {K : PySem.W.Frag} {mg : Str → Option Value} {base : Heap} {k : Nat} {f : Addr} {name qual : Str} {params : Arguments} {body : List Stmt} {scope : Scope} {dV kV doc pm cdv ct oc : Value} {an od : Option Addr}
    {osl : Array (Option Value)} {N ps : List Str} {sp : Sp} (lk : K.lookup f = some ⟨oc,od,.func (PySem.W.fnOf name qual params body scope dV kV doc pm an cdv ct),osl⟩) (hcd : PySem.W.codeIn K cdv qual = true) (S : FnScope N ps scope)
    (len : ∀ vs H Q E,sp vs H Q E → vs.length = ps.length)
    (hbody : ∀ (A : Around) (outer : List Env) (s : Shared) (H : Hp) (vs : List V) (Q : VK) (E : XK),Room k (A.deeper (envOfC qual scope s.heap.objs.size f cdv)) → sp vs H Q E →
      ∃ t,PSs (cxOf CX P w K mg base N qual scope f cdv A outer s H E) body t ∧ t { nx:=fun _ H'=>Q .non H',rt:=Q } (start N vs) H) :
    FnOk P w K mg base CX (k + 1) f (PySem.W.fnOf name qual params body scope dV kV doc pm an cdv ct) ps sp:=by
  refine ⟨len,fun A outer s H args us vs Q E hr e0 hb r hsp=>?_⟩
  have hl:=len _ _ _ _ hsp
  have KX : K.In s.heap:=e0.mod.kin.keeps fun b o e=>(e0.bs b o e).1
  have lim : s.heap.NoLimit:=e0.mod.nolimit.keeps fun b o e=>(e0.bs b o e).1
  have hkind : ∀ y ∈ ps.zip us,scope.names.lookup y.1 = some .local ∨ (scope.names.lookup y.1 = some .cell ∧ ((cellsFrom (s.heap.objs.size + 1) scope.names []).lookup y.1).isSome = true):=fun ⟨n,v⟩ hy=>by
    rcases S.par n (List.of_mem_zip hy).1 with q | q
    · exact .inl q
    · exact .inr ⟨q,PySem.W.cellsFrom_some _ _ _ (.inl q)⟩
  refine codeAny_call_function hr.depth (KX _ _ lk) rfl S.co S.gen rfl (PySem.W.codeRec_of KX hcd) (hb _ _ _ _ ?_)
  refine wpAny_newFunctionEnv_cells S.kind hkind fun env he s1 x=>?_
  subst he
  refine ⟨lim.keeps x.toInCall.keep,codeAny_func ?_⟩
  obtain ⟨t,ht,hq⟩:=hbody A outer s H vs Q E (hr.deeper _) hsp
  have I : Inv (cxOf CX P w K mg base N qual scope f cdv A outer s H E) [] (start N vs) H s1:=inv_start S hr.hd e0 hl r x
  refine wpAny_mono (ht [] s1 (start N vs) H _ I hq) (fun fl s' hs=>?_) fun e s' hs=>hs
  have fin : ∀ {σ' : St} {H' : Hp} {v : V} {u : Value},Inv (cxOf CX P w K mg base N qual scope f cdv A outer s H E) [] σ' H' s' → RelV v u → Q v H' → CE outer P w H s Q u s' :=
    fun {σ' H' v u} J rv q=>⟨v,H',J.os,J.bare,J.base,J.hok,rv,q⟩
  cases fl with
  | ret u =>
    obtain ⟨v,σ',H',J,rv,q⟩:=hs
    exact fin J rv q
  | next =>
    obtain ⟨σ',H',J,q⟩:=hs
    exact fin (v:=V.non) (u:=Value.none) J rfl q
  | brk =>
    obtain ⟨_,_,_,q⟩:=hs
    exact False.elim q
  | cont =>
    obtain ⟨_,_,_,q⟩:=hs
    exact False.elim q
end L2
namespace L2
open PySem PySem.Spec PyProof.Rows
section
variable {X : Cx} {x : Str} {p pos : Pos} {e : Expr} {es : List Expr} {t : TA} {id T : String} {r : List V → Hp → VK → Prop}
def tCB (r : List V → Hp → VK → Prop) (t : TA) : TE:=fun σ H Q=>t σ H fun vs H1=>r vs H1 Q
theorem pe_callB (hc : CallR X (.builtin id) r) (hg : Gl X x) (hm : X.mg x = none) (hv : bootBuiltins x = some (.builtin id)) (ha : PA X (e :: es) t) (hn : x ≠ "__name__":=by decide) (hdb : (x == ("__debug__" : Str)) = false:=by decide)
    (he : starEach (e :: es) X.env = (false,eval e X.env) :: starEach es X.env:=by rfl) (hpl : (backTo pos (starEach es X.env)).any (·.1) = false:=by rfl) : PE X (.Call (.Name x p) (e :: es) [] pos) (tCB r t):=by
  intro pins s σ H Q I h
  refine wpAny_Call_Name_kw (ld_blt I hg hm hv ?_ hn hdb)
  exact PyProof.Rows.callWith_builtin1 (thn (ha pos pins s σ H _ I h) fun us s1 ⟨vs,H1,I1,r1,q1⟩=>hc pins s1 σ H1 vs us Q I1 r1 q1) he hpl
end
end L2
namespace HT
open PySem PyProof.Rows
section
open PySem.SeqAt
open PySem.AutoSeq1 (wpAny_loadPart')
open PySem.MeetsSeq PySem.MeetsSeq2 PySem.MeetsSeq3
end
section
variable {prog : Program} {w : World} {A : Around} {E : Value → Shared → Prop} {s : Shared}
def sIx (n d : Nat) : Option Int → Nat
  | none=>d
  | some v=>if v < 0 then (v + (n : Int)).toNat else min v.toNat n
theorem sIx_nat (n d k : Nat) : sIx n d (some (k : Int)) = min k n:=by
  show (if (k : Int) < 0 then ((k : Int) + (n : Int)).toNat else min (k : Int).toNat n) = min k n
  rw [if_neg (by omega),Int.toNat_natCast]
end
end HT
namespace L2
open PySem PySem.Spec PyProof.Rows
abbrev TO:=St → Hp → (Option Int → Hp → Prop) → Prop
def PO (X : Cx) (e : Option Expr) (t : TO) : Prop :=
  ∀ (pins : List (Addr × Obj)) (s : Shared) (σ : St) (H : Hp) (Q : Option Int → Hp → Prop),Inv X pins σ H s → t σ H Q →
    wpAny (model X.prog X.w) X.A (evalPart e X.env) (fun u s'=>∃ o H',Inv X pins σ H' s' ∧ IsPart u o ∧ Q o H') X.xe s
def tNoPart : TO:=fun _ H Q=>Q none H
def tPart (t : TE) : TO:=fun σ H Q=>t σ H fun x H1=>∃ i,x = .int i ∧ Q (some i) H1
section
variable {X : Cx} {e : Expr} {te : TE} {lo hi : Option Expr} {tl th : TO} {pos p2 : Pos}
theorem po_none : PO X none tNoPart:=by
  intro pins s σ H Q I h
  rw [evalPart_none]
  exact wpAny_pure ⟨none,H,I,.none,h⟩
theorem po_some (h : PE X e te) : PO X (some e) (tPart te):=by
  intro pins s σ H Q I hw
  rw [evalPart_some]
  refine thn (h pins s σ H _ I hw) fun u s1 ⟨x,H1,I1,r1,q1⟩=>?_
  obtain ⟨i,rfl,q⟩:=q1
  obtain ⟨t,rfl⟩:=r1
  exact ⟨some i,H1,I1,.int i t,q⟩
def SlR (X : Cx) (r : V → Option Int → Option Int → Hp → VK → Prop) : Prop :=
  ∀ (pins : List (Addr × Obj)) (s : Shared) (σ : St) (H : Hp) (x : V) (v vl vu : Value) (lo hi : Option Int) (sl : Addr) (Q : VK),Inv X pins σ H s → RelV x v → s.heap.IsSliceOf sl vl vu .none → IsPart vl lo → IsPart vu hi → r x lo hi H Q →
    ∃ T id,typeLookup (.type T) "__getitem__" = pure (some (.builtin id)) ∧ s.TypeIs v T ∧ wpAny (model X.prog X.w) X.A (getItem v (.ref sl)) (EP X pins σ Q) X.xe s
def tSl (r : V → Option Int → Option Int → Hp → VK → Prop) (te : TE) (tl th : TO) : TE:=fun σ H Q=>te σ H fun x H1=>tl σ H1 fun l H2=>th σ H2 fun u H3=>r x l u H3 Q
theorem pe_slice {r : V → Option Int → Option Int → Hp → VK → Prop} (hr : SlR X r) (he : PE X e te) (hl : PO X lo tl) (hu : PO X hi th) : PE X (.Subscript e (.Slice lo hi none p2) pos) (tSl r te tl th):=by
  intro pins s σ H Q I h
  refine Subscript_ (thn (he pins s σ H _ I h) fun v s1 ⟨x,H1,I1,r1,q1⟩=>?_)
  refine wpAny_Slice (thn (hl pins s1 σ H1 _ I1 q1) fun vl s2 ⟨l,H2,I2,pl,q2⟩=>thn (hu pins s2 σ H2 _ I2 q2) fun vu s3 ⟨u,H3,I3,pu,q3⟩=>?_)
  rw [evalPart_none]
  refine wpAny_pure ?_
  have I4 : Inv X pins σ H3 { s3 with heap:=s3.heap.push { cls:=.type "slice",data:=.fields #[vl,vu,.none] } }:=I3.kept (t':=s3.toks) fun b ob q=>Heap.get?_push_of_some _ q
  obtain ⟨T,id,hT,ht,hg⟩:=hr pins { s3 with heap:=s3.heap.push { cls:=.type "slice",data:=.fields #[vl,vu,.none] } } σ H3 x v vl vu l u s3.heap.objs.size Q I4 r1 (Heap.IsSliceOf.new ..) pl pu q3
  show wpAny (model X.prog X.w) X.A (subscriptTail e (.Slice lo hi none p2) v (.ref s3.heap.objs.size)) (EP X pins σ Q) X.xe { s3 with heap:=s3.heap.push { cls:=.type "slice",data:=.fields #[vl,vu,.none] } }
  exact tail_any (ops:=[.ref s3.heap.objs.size,v]) ht hT hg (by with_unfolding_all rfl)
def cutV (xs : List V) (lo hi : Option Int) : List V:=(xs.drop (HT.sIx xs.length 0 lo)).take (HT.sIx xs.length xs.length hi - HT.sIx xs.length 0 lo)
theorem cutV_length (xs : List V) (lo hi : Option Int) : (cutV xs lo hi).length ≤ xs.length:=by
  unfold cutV
  rw [List.length_take,List.length_drop]
  omega
end
end L2
namespace L2
open PySem PySem.Spec PyProof.Rows
def ixN (n : Nat) (i : Int) : Option Nat:=if 0 ≤ i then (if i < n then some i.toNat else none) else if -(n : Int) ≤ i then some (i + n).toNat else none
def atI {α : Type} (xs : List α) (i : Int) : Option α:=(ixN xs.length i).bind fun j=>xs[j]?
theorem ixN_seq {n : Nat} {i : Int} {j : Nat} (h : ixN n i = some j) : seqIndex? i n = some j ∧ j < n ∧ -(n : Int) ≤ i ∧ i < n:=by
  unfold ixN at h
  by_cases h0 : 0 ≤ i
  · rw [if_pos h0] at h
    by_cases h1 : i < n
    · rw [if_pos h1] at h
      have e : i.toNat = j:=Option.some.inj h
      exact ⟨by rw [seqIndex_of h0 h1,e],by omega,by omega,h1⟩
    · rw [if_neg h1] at h; cases h
  · rw [if_neg h0] at h
    by_cases h1 : -(n : Int) ≤ i
    · rw [if_pos h1] at h
      have e : (i + n).toNat = j:=Option.some.inj h
      exact ⟨by rw [seqIndex_neg (by omega) h1,e],by omega,h1,by omega⟩
    · rw [if_neg h1] at h; cases h
theorem atI_get {α : Type} {xs : List α} {i : Int} {v : α} (h : atI xs i = some v) : ∃ j,seqIndex? i xs.length = some j ∧ xs[j]? = some v ∧ j < xs.length ∧ -(xs.length : Int) ≤ i ∧ i < xs.length:=by
  unfold atI at h
  cases e : ixN xs.length i with
  | none=>rw [e] at h; cases h
  | some j =>
    rw [e] at h
    obtain ⟨h1,h2,h3,h4⟩:=ixN_seq e
    exact ⟨j,h1,h,h2,h3,h4⟩
theorem atI_nat {α : Type} {xs : List α} {j : Nat} {v : α} (h : xs[j]? = some v) : atI xs (j : Int) = some v:=by
  have hj : j < xs.length:=(List.getElem?_eq_some_iff.mp h).1
  have e : ixN xs.length (j : Int) = some j:=by
    unfold ixN
    rw [if_pos (by omega),if_pos (by omega)]; simp
  unfold atI; rw [e]; exact h
def PlainIx (b : Expr) : Prop:=∀ o i,subscripted b false o i = operate [o,i] (getItem o i)
def IxR (X : Cx) (r : R2) : Prop :=
  ∀ (value slice : Expr) (pins : List (Addr × Obj)) (s : Shared) (σ : St) (H : Hp) (x y : V) (v u : Value) (Q : VK),Inv X pins σ H s → RelV x v → RelV y u → r x y H Q →
    subscripted slice false v u = operate [v,u] (getItem v u) → wpAny (model X.prog X.w) X.A (subscriptTail value slice v u) (EP X pins σ Q) X.xe s
def MtR (X : Cx) (id : String) (r : V → List V → Hp → VK → Prop) : Prop :=
  ∀ (pins : List (Addr × Obj)) (s : Shared) (σ : St) (H : Hp) (x : V) (xs : List V) (v : Value) (us : List Value) (Q : VK),Inv X pins σ H s → RelV x v → Vals xs us → r x xs H Q →
    wpAny (model X.prog X.w) X.A (call (.builtin id) (v :: us)) (EP X pins σ Q) X.xe s
section
variable {X : Cx} {a b : Expr} {ta tb : TE} {pos : Pos}
theorem pe_ix {r : R2} (hr : IxR X r) (ha : PE X a ta) (hb : PE X b tb) (hs : PlainIx b) : PE X (.Subscript a b pos) (tOp r ta tb):=by
  intro pins s σ H Q I h
  exact Subscript_ (binT ha hb I h fun v u s2 x y H2 I2 rx ry q=>hr a b pins s2 σ H2 x y v u Q I2 rx ry q (hs _ _))
def rIxL (K : PySem.W.Frag) : R2:=fun x y H Q=>∃ p xs i v,x = .ref p ∧ y = .int i ∧ SqL K H p xs ∧ atI xs i = some v ∧ Q v H
def rIxT (K : PySem.W.Frag) : R2:=fun x y H Q=>∃ p xs i v,x = .ref p ∧ y = .int i ∧ SqT K H p xs ∧ atI xs i = some v ∧ Q v H
theorem ix_list : IxR X (rIxL X.K):=by
  intro value slice pins s σ H x y v u Q I rx ry h hs
  obtain ⟨p,xs,i,z,rfl,rfl,hq,he,q⟩:=h
  cases rx
  obtain ⟨t,rfl⟩:=ry
  obtain ⟨its,r,pl,hz⟩:=I.list hq
  obtain ⟨j,h1,h2,h3,h4,h5⟩:=atI_get he
  obtain ⟨w,ew,rw'⟩:=r.get h2
  have hl:=r.length
  have hn:=line63
  have fin : EP X pins σ Q w s:=⟨z,H,I,rw',q⟩
  by_cases h0 : 0 ≤ i
  · have hj : i.toNat = j:=by
      rw [seqIndex_of h0 h5] at h1
      exact Option.some.inj h1
    exact item_listR pl.isList h0 (by omega) (by rw [hj]; simpa using ew) fin hs
  · have hj : (i + (its.toArray.size : Int)).toNat = j:=by
      rw [seqIndex_neg (by omega) h4] at h1
      rw [List.size_toArray,← hl]
      exact Option.some.inj h1
    exact subscriptTail_builtinR (x:=w) pl.isList.typeIs slot_list_getitem.lookup
      (wpAny_getItem_list_neg (Q:=fun r s'=>r = w ∧ EP X pins σ Q r s') pl.isList (by omega) (by rw [List.size_toArray] <;> omega) (by omega) (by rw [hj]; simpa using ew) ⟨rfl,fin⟩) hs
theorem ix_tup : IxR X (rIxT X.K):=by
  intro value slice pins s σ H x y v u Q I rx ry h hs
  obtain ⟨p,xs,i,z,rfl,rfl,hq,he,q⟩:=h
  cases rx
  obtain ⟨t,rfl⟩:=ry
  obtain ⟨its,r,pl,hz⟩:=I.tuple hq
  obtain ⟨j,h1,h2,h3,h4,h5⟩:=atI_get he
  obtain ⟨w,ew,rw'⟩:=r.get h2
  have hl:=r.length
  have hn:=line63
  have fin : EP X pins σ Q w s:=⟨z,H,I,rw',q⟩
  exact subscriptTail_builtinR (x:=w) pl.typeIs slot_tuple_getitem.lookup
    (getItem_tuple (j:=j) (Q:=fun r s'=>r = w ∧ EP X pins σ Q r s') pl (by omega) (by omega) (by rw [List.size_toArray,← hl]; exact h1) (by simpa using ew) ⟨rfl,fin⟩) hs
theorem mapSeq_set (its : List Value) (n j : Nat) (u : Value) : Obj.mapSeq (·.setIfInBounds j u) { cls:=.type "list",data:=.seq its.toArray n } = { cls:=.type "list",data:=.seq (its.set j u).toArray n }:=by
  simp [Obj.mapSeq]
theorem Inv.lst {pins : List (Addr × Obj)} {σ : St} {H : Hp} {s : Shared} {p : Addr} {xs : List V} (I : Inv X pins σ H s) (h : H p = some (.lst xs)) :
    ∃ (its : List Value) (n : Nat),Vals xs its ∧ s.heap.get? p = some { cls:=.type "list",data:=.seq its.toArray n } ∧ xs.length ≤ sizeLine:=by
  obtain ⟨z,its,n,r,e⟩:=I.hok p _ h
  exact ⟨its,n,r,e,z⟩
theorem Inv.lstUpd {pins : List (Addr × Obj)} {σ : St} {H : Hp} {s : Shared} {p : Addr} {xs ys : List V} {its its' : List Value} {n n' : Nat} {f : Obj → Obj} (I : Inv X pins σ H s) (h : H p = some (.lst xs))
    (ho : s.heap.get? p = some { cls:=.type "list",data:=.seq its.toArray n }) (hf : f { cls:=.type "list",data:=.seq its.toArray n } = { cls:=.type "list",data:=.seq its'.toArray n' }) (r : Vals ys its') (hz : ys.length ≤ sizeLine) (t : Nat) :
    Inv X pins σ (upd H p (.lst ys)) { s with heap:=s.heap.update p f,toks:=t }:=by
  have e : (s.heap.update p f).get? p = some { cls:=.type "list",data:=.seq its'.toArray n' }:=by
    rw [Heap.get?_update_self f ho (by rw [hf] <;> rfl),hf]
  refine I.write (x:=p) (e:=p) (by rw [h]; trivial) (.inl rfl) (fun b u hb q=>(Heap.get?_update_other _ _ (Ne.symm hb)).trans q) ⟨_,e⟩ ?_
  exact ⟨hz,its',n',r,e⟩
def rSetL : V → V → V → Hp → (Hp → Prop) → Prop:=fun o i v H Q=>∃ p xs k j,o = .ref p ∧ i = .int k ∧ H p = some (.lst xs) ∧ ixN xs.length k = some j ∧ Q (upd H p (.lst (xs.set j v)))
theorem set_list : PSet X rSetL:=by
  intro pins s σ H o i v ov iv u Q I ro ri rv h
  obtain ⟨p,xs,k,j,rfl,rfl,hp,hj,q⟩:=h
  cases ro
  obtain ⟨t,rfl⟩:=ri
  obtain ⟨its,n,r,ho,hz⟩:=I.lst hp
  obtain ⟨h1,h2,h3,h4⟩:=ixN_seq hj
  have hl:=r.length
  have hn:=line63
  have I' : Inv X pins σ (upd H p (.lst (xs.set j v))) { s with heap:=s.heap.update p (Obj.mapSeq (·.setIfInBounds j u)) } :=
    I.lstUpd hp ho (mapSeq_set its n j u) (r.set rv j) (by rw [List.length_set]; exact hz) s.toks
  by_cases h0 : 0 ≤ k
  · have hk : k.toNat = j:=by
      rw [seqIndex_of h0 h4] at h1
      exact Option.some.inj h1
    exact PySem.W.ki_setAt ho h0 (by omega) (by rw [List.size_toArray,← hl]; exact h4) (by rw [hk]; exact ⟨_,I',q⟩)
  · have hk : (k + (its.toArray.size : Int)).toNat = j:=by
      rw [seqIndex_neg (by omega) h3] at h1
      rw [List.size_toArray,← hl]
      exact Option.some.inj h1
    exact PySem.W.ki_setBack ho (by omega) (by rw [List.size_toArray,← hl]; exact h3) (by omega) (by rw [hk]; exact ⟨_,I',q⟩)
theorem slice_bounds (lo hi : Option Int) (n : Nat) : (sliceBounds lo hi none n).1 = ((HT.sIx n 0 lo : Nat) : Int) ∧ (sliceBounds lo hi none n).2.1 = ((HT.sIx n n hi : Nat) : Int) ∧ (sliceBounds lo hi none n).2.2 = 1:=by
  refine ⟨?_,?_,rfl⟩
  · cases lo with
    | none=>simp [sliceBounds,HT.sIx]
    | some i =>
      simp only [sliceBounds,HT.sIx,Option.getD_none,show (1 : Int) > 0 by decide,if_true]
      by_cases h : i < 0
      · simp only [h,if_true] <;> omega
      · simp only [h,if_false] <;> omega
  · cases hi with
    | none=>simp [sliceBounds,HT.sIx]
    | some i =>
      simp only [sliceBounds,HT.sIx,Option.getD_none,show (1 : Int) > 0 by decide,if_true]
      by_cases h : i < 0
      · simp only [h,if_true] <;> omega
      · simp only [h,if_false] <;> omega
theorem slicePick_cut (its : List Value) (lo hi : Option Int) : slicePick its.toArray lo hi none = ((its.drop (HT.sIx its.length 0 lo)).take (HT.sIx its.length its.length hi - HT.sIx its.length 0 lo)).toArray:=by
  obtain ⟨h1,h2,h3⟩:=slice_bounds lo hi its.toArray.size
  unfold slicePick
  rw [h1,h2,h3]
  simp only [sliceRange_one,pick_run,List.size_toArray] <;> rfl
def rSlL (K : PySem.W.Frag) : V → Option Int → Option Int → Hp → VK → Prop:=fun x lo hi H Q=>∃ a xs,x = .ref a ∧ SqL K H a xs ∧ ∀ p,H p = none → Q (.ref p) (upd H p (.lst (cutV xs lo hi)))
theorem sl_list : SlR X (rSlL X.K):=by
  intro pins s σ H x v vl vu lo hi sl Q I rx hs pl pu h
  obtain ⟨a,xs,rfl,hx,q⟩:=h
  cases rx
  obtain ⟨its,r,ht,hz⟩:=I.list hx
  have hlen:=r.length
  refine ⟨"list",_,slot_list_getitem.lookup,ht.isList.typeIs,?_⟩
  refine wpAny_getItem_list_slice ht.isList hs pl pu .none (by simp) ?_ (by rw [List.size_toArray] <;> omega)
  rw [slicePick_cut,← hlen]
  refine ⟨.ref s.heap.objs.size,_,I.laid (t':=s.toks) (o:=.lst (cutV xs lo hi)) (fun b ob q=>Heap.get?_push_of_some _ q) (Nat.le_refl _) ?_,rfl,q _ (I.hok.fresh (Nat.le_refl _))⟩
  exact ⟨Nat.le_trans (cutV_length xs lo hi) hz,_,0,(r.drop (HT.sIx xs.length 0 lo)).take (HT.sIx xs.length xs.length hi - HT.sIx xs.length 0 lo),Heap.get?_push_size _ rfl⟩
def flatV : V → Bool
  | .non=>true
  | .bl _=>true
  | .int _=>true
  | .str _=>true
  | _=>false
def eqV : V → V → Bool
  | .non,.non=>true
  | .bl a,.bl b=>a == b
  | .bl a,.int b=>(if a then 1 else 0) == b
  | .int a,.bl b=>a == (if b then 1 else 0)
  | .int a,.int b=>a == b
  | .str a,.str b=>a == b
  | _,_=>false
theorem eqAt_V {A : Around} {s : Shared} {y x : V} {u v : Value} (ry : RelV y u) (rx : RelV x v) (fy : flatV y = true) (fx : flatV x = true) : SeqAt.EqAt A s u v (eqV y x):=by
  cases y with
  | non =>
    cases ry
    cases x with
    | non=>cases rx; exact SeqAt.EqAt.same _
    | bl b=>cases rx; exact SeqAt.EqAt.none_bool b
    | int b=>obtain ⟨t,rfl⟩:=rx; exact SeqAt.EqAt.none_int b t
    | str b=>obtain ⟨t,rfl⟩:=rx; exact SeqAt.EqAt.none_str b t
    | _=>exact absurd (show false = true from fx) Bool.false_ne_true
  | bl a =>
    cases ry
    cases x with
    | non=>cases rx; exact SeqAt.EqAt.bool_none a
    | bl b=>cases rx; exact SeqAt.EqAt.bool_bool a b
    | int b=>obtain ⟨t,rfl⟩:=rx; exact SeqAt.EqAt.bool_int a b t
    | str b=>obtain ⟨t,rfl⟩:=rx; exact SeqAt.EqAt.bool_str a b t
    | _=>exact absurd (show false = true from fx) Bool.false_ne_true
  | int a =>
    obtain ⟨t',rfl⟩:=ry
    cases x with
    | non=>cases rx; exact SeqAt.EqAt.int_none a t'
    | bl b=>cases rx; exact SeqAt.EqAt.int_bool a t' b
    | int b=>obtain ⟨t,rfl⟩:=rx; exact SeqAt.EqAt.int_int a t' b t
    | str b=>obtain ⟨t,rfl⟩:=rx; exact SeqAt.EqAt.int_str a t' b t
    | _=>exact absurd (show false = true from fx) Bool.false_ne_true
  | str a =>
    obtain ⟨t',rfl⟩:=ry
    cases x with
    | non=>cases rx; exact SeqAt.EqAt.str_none a t'
    | bl b=>cases rx; exact SeqAt.EqAt.str_bool a t' b
    | int b=>obtain ⟨t,rfl⟩:=rx; exact SeqAt.EqAt.str_int a t' b t
    | str b=>obtain ⟨t,rfl⟩:=rx; exact SeqAt.EqAt.str_str a t' b t
    | _=>exact absurd (show false = true from fx) Bool.false_ne_true
  | _=>exact absurd (show false = true from fy) Bool.false_ne_true
def eqU (x : V) (u : Value) : Bool:=match u with
  | .none=>eqV .non x
  | .bool b=>eqV (.bl b) x
  | .int i _=>eqV (.int i) x
  | .str z _=>eqV (.str z) x
  | _=>false
theorem eqU_of {x y : V} {u : Value} (r : RelV y u) (f : flatV y = true) : eqU x u = eqV y x:=by
  cases y with
  | non=>cases r; rfl
  | bl b=>cases r; rfl
  | int i=>obtain ⟨t,rfl⟩:=r; rfl
  | str z=>obtain ⟨t,rfl⟩:=r; rfl
  | _=>exact absurd (show false = true from f) Bool.false_ne_true
theorem any_eqU {x : V} : ∀ {xs : List V} {us : List Value},Vals xs us → xs.all flatV = true → us.any (eqU x) = xs.any fun y=>eqV y x
  | _,_,.nil,_=>rfl
  | y :: xs,u :: us,.cons r t,f=>by
    rw [List.all_cons,Bool.and_eq_true] at f
    rw [List.any_cons,List.any_cons,eqU_of r f.1,any_eqU t f.2]
theorem mem_eqAt {A : Around} {s : Shared} {x : V} {v : Value} (rx : RelV x v) (fx : flatV x = true) : ∀ {xs : List V} {us : List Value},Vals xs us → xs.all flatV = true → ∀ u ∈ us,SeqAt.EqAt A s u v (eqU x u)
  | _,_,.nil,_=>fun u hu=>by cases hu
  | y :: xs,u :: us,.cons r t,f=>fun u' hu=>by
    rw [List.all_cons,Bool.and_eq_true] at f
    rcases List.mem_cons.mp hu with rfl | hu
    · rw [eqU_of r f.1]; exact eqAt_V r rx f.1 fx
    · exact mem_eqAt rx fx t f.2 u' hu
def inV (x : V) (xs : List V) : Bool:=xs.any fun y=>eqV y x
def rIn (K : PySem.W.Frag) (neg : Bool) : R2:=fun x y H Q=>∃ p xs,y = .ref p ∧ (SqL K H p xs ∨ SqT K H p xs) ∧ flatV x = true ∧ xs.all flatV = true ∧ Q (.bl (if neg then !inV x xs else inV x xs)) H
theorem op_in_seq : OpR X (compareOp .In) (rIn X.K false):=by
  intro pins s σ H x y v u Q I rx ry h
  obtain ⟨p,xs,rfl,hq,fx,fs,q⟩:=h
  cases ry
  rcases hq with hq | hq
  · obtain ⟨its,r,pl,hz⟩:=I.list hq
    refine SeqAt.in_listAt (eqU x) pl.isList (fun w hw=>mem_eqAt rx fx r fs w (by simpa using hw)) ⟨.bl _,H,I,rfl,?_⟩
    rw [show its.toArray.any (eqU x) = its.any (eqU x) by simp,any_eqU r fs]
    exact q
  · obtain ⟨its,r,pl,hz⟩:=I.tuple hq
    refine SeqAt.in_tupleAt (eqU x) pl (fun w hw=>mem_eqAt rx fx r fs w (by simpa using hw)) ⟨.bl _,H,I,rfl,?_⟩
    rw [show its.toArray.any (eqU x) = its.any (eqU x) by simp,any_eqU r fs]
    exact q
theorem op_notIn_seq : OpR X (compareOp .NotIn) (rIn X.K true):=by
  intro pins s σ H x y v u Q I rx ry h
  obtain ⟨p,xs,rfl,hq,fx,fs,q⟩:=h
  cases ry
  rcases hq with hq | hq
  · obtain ⟨its,r,pl,hz⟩:=I.list hq
    refine SeqAt.notIn_listAt (eqU x) pl.isList (fun w hw=>mem_eqAt rx fx r fs w (by simpa using hw)) ⟨.bl _,H,I,rfl,?_⟩
    rw [show its.toArray.any (eqU x) = its.any (eqU x) by simp,any_eqU r fs]
    exact q
  · obtain ⟨its,r,pl,hz⟩:=I.tuple hq
    refine SeqAt.notIn_tupleAt (eqU x) pl (fun w hw=>mem_eqAt rx fx r fs w (by simpa using hw)) ⟨.bl _,H,I,rfl,?_⟩
    rw [show its.toArray.any (eqU x) = its.any (eqU x) by simp,any_eqU r fs]
    exact q
theorem call_len_seq : CallR X (.builtin "len") (fun xs H Q=>∃ p ys,xs = [.ref p] ∧ (SqL X.K H p ys ∨ SqT X.K H p ys) ∧ Q (.int ys.length) H):=by
  intro pins s σ H xs us Q I r h
  obtain ⟨p,ys,rfl,hq,q⟩:=h
  obtain ⟨u,rfl,rx⟩:=vals1 r
  cases rx
  have hn:=line63
  rcases hq with hq | hq
  · obtain ⟨its,r',pl,hz⟩:=I.list hq
    have hlen:=r'.length
    exact Calls.call_len_list pl.isList (by simp only [List.size_toArray] <;> omega) ⟨.int ys.length,H,I.tok _,⟨s.toks + 1,by rw [List.size_toArray,hlen]⟩,q⟩
  · obtain ⟨its,r',pl,hz⟩:=I.tuple hq
    have hlen:=r'.length
    exact len_tuple pl (by simp only [List.size_toArray] <;> omega) ⟨.int ys.length,H,I.tok _,⟨s.toks + 1,by rw [List.size_toArray,hlen]⟩,q⟩
def tyV (K : PySem.W.Frag) (T : String) (x : V) (H : Hp) : Prop:=match x with
  | .str _=>T = "str"
  | .int _=>T = "int"
  | .ref p=>(T = "list" ∧ ∃ xs,SqL K H p xs) ∨ (T = "tuple" ∧ ∃ o,K.lookup p = some o ∧ o.cls = .type "tuple" ∧ o.dict = none) ∨
      (T = "dict" ∧ ((∃ kvs,H p = some (.dK kvs)) ∨ ∃ kvs,H p = some (.dT kvs))) ∨ (T = "set" ∧ ∃ S n,H p = some (.set S n))
  | _=>False
theorem tyV_is {pins : List (Addr × Obj)} {σ : St} {H : Hp} {s : Shared} {T : String} {x : V} {v : Value} (I : Inv X pins σ H s) (r : RelV x v) (ty : tyV X.K T x H) :
    s.TypeIs v T ∧ ∀ a,v = .ref a → ∃ ob,s.heap.get? a = some ob ∧ ob.dict = none:=by
  cases x with
  | str z =>
    obtain ⟨t,rfl⟩:=r
    cases (show T = "str" from ty)
    exact ⟨typeIs_str s z t,fun _ e=>nomatch e⟩
  | int i =>
    obtain ⟨t,rfl⟩:=r
    cases (show T = "int" from ty)
    exact ⟨typeIs_int s i t,fun _ e=>nomatch e⟩
  | ref p =>
    cases r
    rcases ty with ⟨rfl,xs,hq⟩ | ⟨rfl,o,hk,hc,hd⟩ | ⟨rfl,hk⟩ | ⟨rfl,S,n,hk⟩
    · obtain ⟨its,_,pl,_⟩:=I.list hq
      refine ⟨pl.isList.typeIs,fun a e=>?_⟩
      cases e
      obtain ⟨o,n,e,c,hd,_⟩:=pl
      exact ⟨o,e,hd⟩
    · refine ⟨⟨o,I.kIn p o hk,hc⟩,fun a e=>?_⟩
      cases e
      exact ⟨o,I.kIn _ o hk,hd⟩
    · have z : ∃ o,s.heap.get? p = some o ∧ o.ExactDict:=by
        rcases hk with ⟨kvs,hk⟩ | ⟨kvs,hk⟩
        · obtain ⟨_,_,_,_,o,_,_,e,ex,_⟩:=I.hok p _ hk
          exact ⟨o,e,ex⟩
        · obtain ⟨_,_,_,_,o,_,_,e,ex,_⟩:=I.hok p _ hk
          exact ⟨o,e,ex⟩
      obtain ⟨o,e,ex⟩:=z
      refine ⟨⟨o,e,ex.1⟩,fun a e2=>?_⟩
      cases e2
      exact ⟨o,e,ex.2.1⟩
    · obtain ⟨o,_,_,_,e,ex,_⟩:=I.hok p _ hk
      refine ⟨⟨o,e,ex.1⟩,fun a e2=>?_⟩
      cases e2
      exact ⟨o,e,ex.2.1⟩
  | _=>exact False.elim ty
def tBM0 (K : PySem.W.Frag) (T : String) (r : V → List V → Hp → VK → Prop) (to : TE) : TE:=fun σ H Q=>to σ H fun x H1=>tyV K T x H1 ∧ r x [] H1 Q
def tBM (K : PySem.W.Frag) (T : String) (r : V → List V → Hp → VK → Prop) (to : TE) (t : TA) : TE:=fun σ H Q=>to σ H fun x H1=>tyV K T x H1 ∧ t σ H1 fun xs H2=>r x xs H2 Q
variable {o e : Expr} {es : List Expr} {to : TE} {t : TA} {name : Str} {apos cpos : Pos} {T id : String} {r : V → List V → Hp → VK → Prop}
theorem pe_bm0 (pa : PlainAttrs T) (slot : Slot T name id) (hty : typeOf (.builtin id) = pure (.type "method_descriptor")) (hm : MtR X id r) (ho : PE X o to)
    (hbase : attributeBase o name X.env (eval o X.env) = eval o X.env:=by rfl) (hline : (apos.endLine == cpos.line) = true:=by rfl) : PE X (.Call (.Attribute o name apos) [] [] cpos) (tBM0 X.K T r to):=by
  intro pins s σ H Q I h
  refine wpAny_Call_method0_late hbase hline (thn (ho pins s σ H _ I h) fun v s1 ⟨x,H1,I1,r1,ty,q1⟩=>?_)
  obtain ⟨h1,h2⟩:=tyV_is I1 r1 ty
  exact ⟨T,id,pa,slot,hty,h1,h2,Calls.callWith_builtin rfl (PySem.evalArgs_none (hm pins s1 σ H1 x [] v [] Q I1 r1 .nil q1))⟩
theorem pe_bm (pa : PlainAttrs T) (slot : Slot T name id) (hty : typeOf (.builtin id) = pure (.type "method_descriptor")) (hm : MtR X id r) (ho : PE X o to) (ha : PA X (e :: es) t)
    (hbase : attributeBase o name X.env (eval o X.env) = eval o X.env:=by rfl)
    (hfew : ((backTo cpos (starEach (e :: es) X.env)).all (fun x=>!x.1) && (backToKw cpos (keywordEach [] X.env)).all (fun x=>x.1.isSome)
      && decide ((e :: es).length + ([] : List Keyword).length + (if ([] : List Keyword).isEmpty then 0 else 1) < 30)) = true:=by rfl)
    (hline : (apos.endLine == cpos.line) = true:=by rfl) (hs : starEach (e :: es) X.env = (false,eval e X.env) :: starEach es X.env:=by rfl) (hplain : (backTo cpos (starEach es X.env)).any (·.1) = false:=by rfl) :
    PE X (.Call (.Attribute o name apos) (e :: es) [] cpos) (tBM X.K T r to t):=by
  intro pins s σ H Q I h
  refine wpAny_Call_method_late hbase hfew hline rfl (thn (ho pins s σ H _ I h) fun v s1 ⟨x,H1,I1,r1,ty,q1⟩=>?_)
  obtain ⟨h1,h2⟩:=tyV_is I1 r1 ty
  refine ⟨T,id,pa,slot,hty,h1,h2,?_⟩
  have hA:=ha cpos pins s1 σ H1 _ I1 q1
  rw [hs] at hA ⊢
  refine Calls.callWith_builtin (by show (false || (backTo cpos (starEach es X.env)).any (·.1)) = false; rw [hplain] <;> rfl) (Calls.evalArgs_plain ?_)
  exact thn hA fun us s2 ⟨vs,H2,I2,r2,q2⟩=>hm pins s2 σ H2 x vs v us Q I2 r1 r2 q2
end
end L2
namespace L2
open PySem PySem.Spec PyProof.Rows
def MtM (X : Cx) (id : String) (r : V → List V → Hp → VK → Prop) : Prop :=
  ∀ (pins : List (Addr × Obj)) (s : Shared) (σ : St) (H : Hp) (x : V) (xs : List V) (v : Value) (us : List Value) (Q : VK),Inv X pins σ H s → RelV x v → Vals xs us → r x xs H Q →
    wpAny (model X.prog X.w) X.A (call (.builtin id) (v :: us)) (EP X pins σ Q) X.xe s
theorem Vals.one : ∀ {x : V} {us : List Value},Vals [x] us → ∃ u,us = [u] ∧ RelV x u
  | _,_,.cons r .nil=>⟨_,rfl,r⟩
theorem Vals.zero : ∀ {us : List Value},Vals [] us → us = []
  | _,.nil=>rfl
theorem Vals.dropLast {xs : List V} {us : List Value} (h : Vals xs us) : Vals xs.dropLast us.dropLast:=by
  induction h with
  | nil=>exact .nil
  | cons r t ih =>
    cases t with
    | nil=>exact .nil
    | cons q t'=>exact .cons r ih
theorem Vals.rep {xs : List V} {us : List Value} (h : Vals xs us) : ∀ k : Nat,Vals (List.replicate k xs).flatten (List.replicate k us).flatten
  | 0=>.nil
  | k + 1=>by
    rw [List.replicate_succ,List.replicate_succ,List.flatten_cons,List.flatten_cons]
    exact Vals.append h (Vals.rep h k)
theorem erase_last {α : Type} (l : List α) : l.eraseIdx (l.length - 1) = l.dropLast:=by
  induction l with
  | nil=>rfl
  | cons a r ih =>
    cases r with
    | nil=>rfl
    | cons b r =>
      have e : (a :: b :: r).length - 1 = ((b :: r).length - 1) + 1:=by
        have h1 : (a :: b :: r).length = r.length + 2:=rfl
        have h2 : (b :: r).length = r.length + 1:=rfl
        omega
      rw [e,List.eraseIdx_cons_succ,ih]
      all_goals rfl
theorem foldl_rep (its : List Value) : ∀ (k : Nat) (acc : List Value),
    List.foldl (fun x1 x2=>x1 ++ x2) acc.toArray (List.replicate k its.toArray) = (acc ++ (List.replicate k its).flatten).toArray
  | 0,acc=>by simp
  | k + 1,acc=>by
    have e : acc.toArray ++ its.toArray = (acc ++ its).toArray:=by simp
    have e2 : (acc ++ its) ++ (List.replicate k its).flatten = acc ++ (List.replicate (k + 1) its).flatten:=by
      rw [List.replicate_succ,List.flatten_cons,List.append_assoc]
    rw [← e2,← foldl_rep its k (acc ++ its),← e,List.replicate_succ,List.foldl_cons]
section
variable {X : Cx} {pins : List (Addr × Obj)} {σ : St} {H : Hp} {s : Shared} {l b : Addr} {xs ys zs : List V}
theorem Inv.lset {its its' : List Value} {n : Nat} {f : Array Value → Array Value} {t' : Nat} (I : Inv X pins σ H s) (hH : H l = some (.lst xs))
    (e : s.heap.get? l = some { cls:=.type "list",data:=.seq its.toArray n }) (hf : f its.toArray = its'.toArray) (hv : Vals ys its') (hz : ys.length ≤ sizeLine) :
    Inv X pins σ (upd H l (.lst ys)) { s with heap:=s.heap.update l (Obj.mapSeq f),toks:=t' }:=by
  have q:=PySem.IsL.update e f
  rw [hf] at q
  refine I.write (x:=l) (e:=l) (by rw [hH]; exact trivial) (.inl rfl) (fun b' u hb hu=>(Heap.get?_update_other s.heap (Obj.mapSeq f) (Ne.symm hb)).trans hu) ⟨_,q⟩ ?_
  exact ⟨hz,its',_,hv,q⟩
theorem Inv.lnew {its : List Value} {t' : Nat} (I : Inv X pins σ H s) (hv : Vals ys its) (hz : ys.length ≤ sizeLine) :
    Inv X pins σ (upd H s.heap.objs.size (.lst ys)) { s with heap:=s.heap.push { cls:=.type "list",data:=.seq its.toArray },toks:=t' } :=
  I.laid (fun _ _ q=>Heap.get?_push_of_some _ q) (Nat.le_refl _) ⟨hz,its,0,hv,Heap.get?_push_size _ rfl⟩
theorem Inv.fresh (I : Inv X pins σ H s) : H s.heap.objs.size = none:=I.hok.fresh (Nat.le_refl _)
theorem Inv.lstM (I : Inv X pins σ H s) (hH : H l = some (.lst xs)) : xs.length ≤ sizeLine ∧ ∃ (its : List Value) (n : Nat),Vals xs its ∧ xs.length = its.length ∧ s.heap.get? l = some { cls:=.type "list",data:=.seq its.toArray n }:=by
  obtain ⟨z,its,n,r,e⟩:=I.hok l _ hH
  exact ⟨z,its,n,r,r.length,e⟩
theorem notLongL {n : Nat} (h : n ≤ sizeLine) : Builtin.List.listTooLong n = false:=by
  unfold Builtin.List.listTooLong
  exact decide_eq_false (by omega)
end
section
variable {X : Cx}
def rAppend : V → List V → Hp → VK → Prop:=fun x vs H Q=>∃ l xs y,x = .ref l ∧ vs = [y] ∧ H l = some (.lst xs) ∧ xs.length < sizeLine ∧ Q .non (upd H l (.lst (xs ++ [y])))
theorem mt_append : MtM X "list.append" rAppend:=by
  intro pins s σ H x vs v us Q I rx rv h
  obtain ⟨l,xs,y,rfl,rfl,hH,hz,q⟩:=h
  cases rx
  obtain ⟨u,rfl,ru⟩:=rv.one
  obtain ⟨z,its,n,r,hl,e⟩:=I.lstM hH
  refine call_meets F.slot_list_append ⟨_,e,rfl⟩ F.entry_list_append (F.args_list_append_2 _ _) (PySem.list_append l its.toArray n u (by rw [List.size_toArray]; omega)) ⟨e,?_⟩
  refine ⟨.non,_,I.lset (its':=its ++ [u]) hH e (by simp) (r.append (.cons ru .nil)) ?_,rfl,q⟩
  rw [List.length_append,List.length_singleton]
  omega
def rExtend : V → List V → Hp → VK → Prop:=fun x vs H Q=>∃ l b xs zs,x = .ref l ∧ vs = [.ref b] ∧ H l = some (.lst xs) ∧ H b = some (.lst zs) ∧ xs.length + zs.length ≤ sizeLine ∧ Q .non (upd H l (.lst (xs ++ zs)))
theorem mt_extend : MtM X "list.extend" rExtend:=by
  intro pins s σ H x vs v us Q I rx rv h
  obtain ⟨l,b,xs,zs,rfl,rfl,hH,hB,hz,q⟩:=h
  cases rx
  obtain ⟨u,rfl,ru⟩:=rv.one
  cases ru
  obtain ⟨z,its,n,r,hl,e⟩:=I.lstM hH
  obtain ⟨z2,its2,n2,r2,hl2,e2⟩:=I.lstM hB
  have hsz : its.toArray.size + its2.toArray.size ≤ sizeLine:=by rw [List.size_toArray,List.size_toArray]; omega
  have hlong : ¬ (!its.toArray.isEmpty && Builtin.List.listTooLong (its.toArray.size + its2.toArray.size)) = true:=by
    rw [notLongL hsz,Bool.and_false]
    exact Bool.false_ne_true
  refine call_meets F.slot_list_extend ⟨_,e,rfl⟩ F.entry_list_extend (F.args_list_extend_2 _ _)
    (AutoSeq1.list_extend_list_list_0 l its.toArray n b its2.toArray n2 hlong (by rw [List.size_toArray]; omega) (by omega)) ⟨e,e2,?_⟩
  refine ⟨.non,_,I.lset (its':=its ++ its2) hH e (by simp) (r.append r2) ?_,rfl,q⟩
  rw [List.length_append]
  omega
def rPop : V → List V → Hp → VK → Prop:=fun x vs H Q=>∃ l xs y,x = .ref l ∧ vs = [] ∧ H l = some (.lst xs) ∧ xs[xs.length - 1]? = some y ∧ Q y (upd H l (.lst xs.dropLast))
theorem mt_pop : MtM X "list.pop" rPop:=by
  intro pins s σ H x vs v us Q I rx rv h
  obtain ⟨l,xs,y,rfl,rfl,hH,hy,q⟩:=h
  cases rx
  have hus:=rv.zero
  subst hus
  obtain ⟨z,its,n,r,hl,e⟩:=I.lstM hH
  obtain ⟨u,hu,ru⟩:=r.get hy
  have hy' : its.toArray[its.toArray.size - 1]? = some u:=by
    show its.toArray[its.length - 1]? = some u
    rw [← Array.getElem?_toList,← hl]
    exact hu
  refine call_meets F.slot_list_pop ⟨_,e,rfl⟩ F.entry_list_pop (F.args_list_pop_1 _) (MeetsSeq.list_pop_last l its.toArray n u hy' (by rw [List.size_toArray]; omega)) ⟨e,?_⟩
  refine ⟨y,_,I.lset (its':=its.dropLast) hH e ?_ r.dropLast ?_,ru,q⟩
  · show its.toArray.eraseIdxIfInBounds (its.toArray.size - 1) = its.dropLast.toArray
    rw [List.size_toArray,List.eraseIdxIfInBounds_toArray,erase_last]
  · rw [List.length_dropLast]
    omega
def rCat : R2:=fun x y H Q=>∃ l b xs zs,x = .ref l ∧ y = .ref b ∧ H l = some (.lst xs) ∧ H b = some (.lst zs) ∧ xs.length + zs.length ≤ sizeLine ∧ ∀ p,H p = none → Q (.ref p) (upd H p (.lst (xs ++ zs)))
theorem op_cat : OpR X (binaryOp .Add) rCat:=by
  intro pins s σ H x y v u Q I rx ry h
  obtain ⟨l,b,xs,zs,rfl,rfl,hH,hB,hz,q⟩:=h
  cases rx
  cases ry
  obtain ⟨z,its,n,r,hl,e⟩:=I.lstM hH
  obtain ⟨z2,its2,n2,r2,hl2,e2⟩:=I.lstM hB
  refine PySem.P.add_list e e2 ?_ (by rw [List.size_toArray,List.size_toArray]; omega)
  have ea : its.toArray ++ its2.toArray = (its ++ its2).toArray:=by simp
  rw [ea]
  exact ⟨.ref _,_,I.lnew (t':=s.toks) (r.append r2) (by rw [List.length_append]; omega),rfl,q _ I.fresh⟩
def rRep : R2:=fun x y H Q=>∃ l k xs,x = .ref l ∧ y = .int k ∧ H l = some (.lst xs) ∧ -(2 ^ 63) ≤ k ∧ k < 2 ^ 63 ∧ xs.length * k.toNat ≤ sizeLine ∧
  ∀ p,H p = none → Q (.ref p) (upd H p (.lst (List.replicate k.toNat xs).flatten))
theorem len_rep {α : Type} (xs : List α) (k : Nat) : (List.replicate k xs).flatten.length = k * xs.length:=by
  induction k with
  | zero=>simp
  | succ k ih=>rw [List.replicate_succ,List.flatten_cons,List.length_append,ih,Nat.succ_mul,Nat.add_comm]
theorem op_rep : OpR X (binaryOp .Mult) rRep:=by
  intro pins s σ H x y v u Q I rx ry h
  obtain ⟨l,k,xs,rfl,rfl,hH,h1,h2,hz,q⟩:=h
  cases rx
  obtain ⟨t,rfl⟩:=ry
  obtain ⟨z,its,n,r,hl,e⟩:=I.lstM hH
  have hlen : its.toArray.size * k.toNat ≤ sizeLine:=by rw [List.size_toArray,← hl]; exact hz
  have hcap : ¬ its.toArray.size * k.toNat > (2 ^ 63 - 1) / 8:=by
    have : (sizeLine : Nat) ≤ (2 ^ 63 - 1) / 8:=by decide
    omega
  have hfit : ¬ (!Builtin.List.listFitsIndex k) = true:=by
    rw [fitsIndex_both h1 h2]
    exact Bool.false_ne_true
  have hlong : ¬ Builtin.List.listTooLong (its.toArray.size * k.toNat) = true:=by
    rw [notLongL hlen]
    exact Bool.false_ne_true
  have hnew : List.foldl (fun x1 x2=>x1 ++ x2) #[] (List.replicate (if its.toArray.isEmpty = true then 0 else k.toNat) its.toArray) = (List.replicate k.toNat its).flatten.toArray:=by
    have f0 : ∀ m : Nat,List.foldl (fun x1 x2=>x1 ++ x2) #[] (List.replicate m its.toArray) = (List.replicate m its).flatten.toArray:=fun m=>by
      have:=foldl_rep its m []
      rw [List.nil_append] at this
      exact this
    rw [f0]
    cases its with
    | nil=>simp
    | cons a r'=>rw [if_neg (by simp)]
  refine wpAny_binaryOp_repeat_ref (T:="list") (U:="int") (by decide) ⟨_,e,rfl⟩ (fun s'=>typeIs_int s' k t) noFill_list_mul F.fills_int_mul F.slot_int_rmul repeat_list F.slot_int_index.lookup
    (call_meets F.slot_int_rmul (typeIs_int s k t) F.entry_int_rmul (F.args_int_rmul_2 _ _) (int___rmul___int_list k t l its.toArray n)
      ⟨e,rfl,⟨_,e,rfl⟩,call_meets F.slot_list_mul ⟨_,e,rfl⟩ F.entry_list_mul (F.args_list_mul_2 _ _) (AutoListH.list___mul___list_int_3 l its.toArray n k t hfit hcap hlong) ⟨e,?_⟩⟩)
  rw [hnew]
  exact ⟨.ref _,_,I.lnew (t':=s.toks) (r.rep k.toNat) (by rw [len_rep,Nat.mul_comm]; exact hz),rfl,q _ I.fresh⟩
end
section
variable {prog : Program} {w : World} {A : Around} {E : Value → Shared → Prop} {s : Shared}
end
section
variable {X : Cx}
end
end L2
namespace L2
open PySem PySem.Spec PyProof.Rows
theorem Vals.ints : ∀ {ns : List Int} {us : List Value},Vals (ns.map V.int) us → IntsAre us ns
  | [],us,h=>by
    rw [List.map_nil] at h
    cases h
    exact IntsAre.nil
  | n :: ns,us,h=>by
    rw [List.map_cons] at h
    cases h with
    | cons r t =>
      obtain ⟨k,rfl⟩:=r
      exact IntsAre.cons n k (Vals.ints t)
theorem vals_of_ints : ∀ {us : List Value} {ns : List Int},IntsAre us ns → Vals (ns.map V.int) us
  | _,_,.nil=>by rw [List.map_nil]; exact Paired.nil
  | _,_,.cons n t h=>by rw [List.map_cons]; exact Paired.cons (show RelV (V.int n) (Value.int n t) from ⟨t,rfl⟩) (vals_of_ints h)
theorem Vals.bls : ∀ {bs : List Bool} {us : List Value},Vals (bs.map V.bl) us → us = bs.map Value.bool
  | [],us,h=>by
    rw [List.map_nil] at h
    cases h
    rfl
  | b :: bs,us,h=>by
    rw [List.map_cons] at h
    cases h with
    | cons r t =>
      cases r
      rw [Vals.bls t,List.map_cons]
theorem Vals.ref1 {a : Addr} {us : List Value} (r : Vals [V.ref a] us) : us = [Value.ref a]:=by
  cases r with
  | cons r t =>
    cases t
    cases r
    rfl
theorem Vals.int2 {i j : Int} {us : List Value} (r : Vals [V.int i,V.int j] us) : ∃ t u,us = [Value.int i t,Value.int j u]:=by
  cases r with
  | cons r t =>
    cases t with
    | cons r2 t2 =>
      cases t2
      obtain ⟨t,rfl⟩:=r
      obtain ⟨u,rfl⟩:=r2
      exact ⟨t,u,rfl⟩
section
variable {prog : Program} {w : World} {A : Around} {E : Value → Shared → Prop} {s : Shared} {l : Addr} {its : List Value} {ns : List Int} {Q : Value → Shared → Prop}
theorem sum_raw (hh : A.handled = none) (hl : s.heap.IsList l its.toArray) (hi : IntsAre its ns)
    (h : ∀ h' tk t',(∀ b o,s.heap.get? b = some o → h'.get? b = some o) → Q (.int ns.sum t') { s with heap:=h',toks:=tk }) : wpAny (model prog w) A (call (.builtin "sum") [.ref l]) Q E s:=by
  obtain ⟨xs,e⟩:=hi.allInts.items
  have hn : numsOf (intItems xs).toList = ns:=by rw [← e]; exact hi.numsOf
  rw [nums_intItems] at hn
  rw [e] at hl
  refine PySem.sum_intListG hh hl fun h' tk t' hk=>?_
  have:=h h' tk t' hk
  rw [preSum_eq,List.take_of_length_le (by simp),hn]; exact this
end
section
variable {X : Cx}
def rSum (K : PySem.W.Frag) : List V → Hp → VK → Prop:=fun vs H Q=>∃ (a : Addr) (ns : List Int),vs = [V.ref a] ∧ SqL K H a (ns.map V.int) ∧ Q (.int ns.sum) H
theorem cr_sum (hc : X.calm = true) : CallR X (.builtin "sum") (rSum X.K):=by
  intro pins s σ H vs us Q I r h
  obtain ⟨a,ns,rfl,hs,q⟩:=h
  obtain ⟨its,rv,hl,_⟩:=I.list hs
  rw [Vals.ref1 r]
  exact sum_raw (I.ok.hd hc) hl.isList rv.ints fun h' tk t' hk=>⟨.int _,H,I.kept hk,⟨_,rfl⟩,q⟩
def rSorted (K : PySem.W.Frag) : List V → Hp → VK → Prop:=fun vs H Q=>∃ (a : Addr) (ns : List Int),vs = [V.ref a] ∧ SqL K H a (ns.map V.int) ∧ ns.length < 64 ∧
  ∀ (ns' : List Int) (p : Addr),ns'.Perm ns → ns'.Pairwise (· ≤ ·) → H p = none → Q (.ref p) (upd H p (.lst (ns'.map V.int)))
theorem small64 {n : Nat} (h : n < 64) : n ≤ sizeLine:=by rw [sizeLine_eq]; omega
theorem cr_sorted : CallR X (.builtin "sorted") (rSorted X.K):=by
  intro pins s σ H vs us Q I r h
  obtain ⟨a,ns,rfl,hs,h64,q⟩:=h
  obtain ⟨its,rv,hl,_⟩:=I.list hs
  rw [Vals.ref1 r]
  have hi:=rv.ints
  refine PyProof.Rows.sorted_ints hl.isList hi (by rw [hi.length]; exact h64) fun out ns' h1 h2 h3=>?_
  obtain ⟨ep,he'⟩:=PyProof.Rows.sortedAll_at s.heap its out
  have hlen : (ns'.map V.int).length ≤ sizeLine:=by rw [List.length_map,h2.length_eq]; exact small64 h64
  exact ⟨.ref _,upd H (s.heap.objs.size + 1) (.lst (ns'.map V.int)),I.laid (t':=s.toks) (fun _ _=>PyProof.Rows.sortedAll_old) (Nat.le_succ _) ⟨hlen,out.toList,ep,vals_of_ints h1,he'⟩,rfl,q ns' _ h2 h3 (I.hok.fresh (Nat.le_succ _))⟩
end
section
variable {X : Cx}
end
section
variable {X : Cx}
end
theorem iter_any {prog : Program} {w : World} {A : Around} {E : Value → Shared → Prop} {s : Shared} {l : Addr} {items : Array Value} {Q : Value → Shared → Prop} (hl : s.heap.IsList l items)
    (h : ∀ s₂ : Shared,s₂ = { s with heap:=s.heap.push { cls:=.type "list_iterator",data:=.fields #[.ref l,.int 0 0] } } →
      (s₂.heap.IsListIter s.heap.objs.size l 0 ∧ s₂.heap.IsList l items) → l ≠ s.heap.objs.size → Q (.ref s.heap.objs.size) s₂) : wpAny (model prog w) A (pyIter (.ref l)) Q E s:=by
  have hlt : l < s.heap.objs.size:=by obtain ⟨_,e,_⟩:=hl; exact Heap.lt_size e
  exact wpAny_pyIter_list hl (h _ rfl ⟨⟨_,Heap.get?_push_size _ rfl,rfl,rfl⟩,hl.push _⟩ (Nat.ne_of_lt hlt))
theorem truth_bools {prog : Program} {w : World} {A : Around} {bs : List Bool} {its : List Value} (e : its = bs.map Value.bool) :
    TruthOf prog w A (fun i v=>its.toArray[i]? = some v) (fun i=>bs.getD i false):=fun i v s Q E hv hq=>by
  have hv' : its[i]? = some v:=by simpa using hv
  rw [e,List.getElem?_map] at hv'
  obtain ⟨b,hb,rfl⟩:=Option.map_eq_some_iff.mp hv'
  have hg : bs.getD i false = b:=by rw [List.getD_eq_getElem?_getD,hb] <;> rfl
  have hq' : Q (bs.getD i false) s:=hq
  rw [hg] at hq'
  exact wpAny_truthy_bool hq'
theorem all_range : ∀ bs : List Bool,(List.range bs.length).all (fun i=>bs.getD i false) = bs.all id
  | []=>rfl
  | b :: bs=>by
    rw [List.length_cons,List.range_succ_eq_map,List.all_cons,List.all_map,List.all_cons,← all_range bs]
    all_goals rfl
section
variable {X : Cx}
def rAll (K : PySem.W.Frag) : List V → Hp → VK → Prop:=fun vs H Q=>∃ (a : Addr) (bs : List Bool),vs = [V.ref a] ∧ SqL K H a (bs.map V.bl) ∧ Q (.bl (bs.all id)) H
theorem cr_all (hc : X.calm = true) : CallR X (.builtin "all") (rAll X.K):=by
  intro pins s σ H vs us Q I r h
  obtain ⟨a,bs,rfl,hs,q⟩:=h
  obtain ⟨its,rv,hl,_⟩:=I.list hs
  rw [Vals.ref1 r]
  have hb:=rv.bls
  refine call_all_walk (iter_any hl.isList fun s₂ e2 st hne=>?_)
  subst e2
  refine ⟨_,_,_,_,_,_,_,rfl,Walks.list (A:=X.A.in1) (I.ok.hd hc) _ a hne its.toArray,st,truth_bools hb,fun h' tk hk=>?_⟩
  refine ⟨.bl _,H,I.kept fun b o eo=>hk b o (fun hmem=>?_) (Heap.get?_push_of_some _ eo),?_,q⟩
  · rcases List.mem_cons.mp hmem with e1 | hmem
    · exact absurd (e1 ▸ Heap.lt_size eo) (Nat.lt_irrefl _)
    · cases hmem
  · show Value.bool _ = Value.bool _
    rw [← all_range,hb,List.size_toArray,List.length_map]
end
mutual
inductive Dp (K : PySem.W.Frag) (H : Hp) : V → PyData → Prop
  | non : Dp K H .non .none
  | bl (b : Bool) : Dp K H (.bl b) (.bool b)
  | int (i : Int) : Dp K H (.int i) (.int i)
  | str (x : Str) : Dp K H (.str x) (.str x)
  | lst {a : Addr} {xs : List V} {ds : List PyData} : SqL K H a xs → DpAll K H xs ds → Dp K H (.ref a) (.list ds)
  | tup {a : Addr} {xs : List V} {ds : List PyData} : SqT K H a xs → DpAll K H xs ds → Dp K H (.ref a) (.tuple ds)
inductive DpAll (K : PySem.W.Frag) (H : Hp) : List V → List PyData → Prop
  | nil : DpAll K H [] []
  | cons {v : V} {vs : List V} {d : PyData} {ds : List PyData} : Dp K H v d → DpAll K H vs ds → DpAll K H (v :: vs) (d :: ds)
end
section
variable {X : Cx} {pins : List (Addr × Obj)} {σ : St} {H : Hp} {s : Shared}
mutual
theorem Dp.reads (I : Inv X pins σ H s) : ∀ (d : PyData) (v : V) (u : Value),Dp X.K H v d → RelV v u → ∃ as,Reads s.heap u d as
  | .none,_,_,h,r=>by
    cases h
    cases r
    exact ⟨_,Reads.none⟩
  | .bool b,_,_,h,r=>by
    cases h
    cases r
    exact ⟨_,Reads.bool b⟩
  | .int i,_,_,h,r=>by
    cases h
    obtain ⟨t,rfl⟩:=r
    exact ⟨_,Reads.int i t⟩
  | .str x,_,_,h,r=>by
    cases h
    obtain ⟨t,rfl⟩:=r
    exact ⟨_,Reads.str x t⟩
  | .list ds,_,_,h,r=>by
    cases h with
    | lst hs ha =>
      cases r
      obtain ⟨its,rv,⟨o,n,ho,hc,_,hd⟩,_⟩:=I.list hs
      obtain ⟨as,hr⟩:=Dp.readsAll I ds _ its ha rv
      exact ⟨_,Reads.list ho hc hd hr⟩
  | .tuple ds,_,_,h,r=>by
    cases h with
    | tup hs ha =>
      cases r
      obtain ⟨its,rv,⟨o,ho,hc,n,hd⟩,_⟩:=I.tuple hs
      obtain ⟨as,hr⟩:=Dp.readsAll I ds _ its ha rv
      exact ⟨_,Reads.tuple ho hc hd hr⟩
  | .dict _,_,_,h,_=>by cases h
theorem Dp.readsAll (I : Inv X pins σ H s) : ∀ (ds : List PyData) (vs : List V) (us : List Value),DpAll X.K H vs ds → Vals vs us → ∃ as,ReadsAll s.heap us ds as
  | [],_,_,h,r=>by
    cases h
    cases r
    exact ⟨_,ReadsAll.nil⟩
  | d :: ds,_,_,h,r=>by
    cases h with
    | cons h1 h2 =>
      cases r with
      | cons r1 r2 =>
        obtain ⟨as,q1⟩:=Dp.reads I d _ _ h1 r1
        obtain ⟨bs,q2⟩:=Dp.readsAll I ds _ _ h2 r2
        exact ⟨_,ReadsAll.cons q1 q2⟩
end
end
section
variable {X : Cx}
end
end L2
namespace L2
open PySem PySem.Spec PyProof.Rows
abbrev CellAt (h : Heap) (c : Addr) (v : Option Value) : Prop:=h.IsCell c v
def relS (scope sc : Scope) : Scope :=
  { scope with names:=scope.names.map fun (n,k)=>if (k == .free && sc.kind == .function && sc.names.lookup n == some .cell) then (n,.cell) else (n,k) }
def cloFrom (cells : List (Str × Addr)) : List (Str × NameKind) → List (Str × Addr) → List (Str × Addr)
  | [],acc=>acc
  | (n,k) :: r,acc=>if k == .free then cloFrom cells r ((n,(cells.lookup n).getD 0) :: acc) else cloFrom cells r acc
theorem closure_loop (env : Env) (f : Str × NameKind → List (Str × Addr) → Sem (ForInStep (List (Str × Addr))))
    (hf : ∀ n k c,f (n,k) c = if k == .free then (do let a ← cellOf env n; pure (.yield ((n,a) :: c))) else pure (.yield c)) :
    ∀ (names : List (Str × NameKind)) (acc : List (Str × Addr)),(∀ y ∈ names,y.2 = .free → ∃ c,env.cells.lookup y.1 = some c) → forIn names acc f = pure (cloFrom env.cells names acc)
  | [],acc,_=>by rw [List.forIn_nil]; rfl
  | (n,k) :: r,acc,h=>by
    rw [List.forIn_cons,hf]
    have ih:=fun acc=>closure_loop env f hf r acc fun y hy=>h y (List.mem_cons_of_mem _ hy)
    unfold cloFrom
    by_cases hk : (k == NameKind.free) = true
    · rw [if_pos hk,if_pos hk]
      obtain ⟨c,hc⟩:=h (n,k) List.mem_cons_self (by simpa using hk)
      have e : cellOf env n = pure c:=by unfold cellOf; rw [hc]
      rw [e]
      have e2 : (env.cells.lookup n).getD 0 = c:=by rw [hc]; rfl
      rw [e2]
      exact ih _
    · rw [if_neg hk,if_neg hk]
      exact ih _
theorem closure_ok {scope : Scope} {env : Env} (h : ∀ y ∈ scope.names,y.2 = .free → ∃ c,env.cells.lookup y.1 = some c) : closureFor scope env = pure (cloFrom env.cells scope.names []):=by
  simp only [closureFor]
  rw [closure_loop env _ (fun n k c=>rfl) scope.names [] h]
  rfl
theorem mem_lookup {α : Type} : ∀ {l : List (Str × α)} {n : Str} {c : α},(n,c) ∈ l → ∃ c',l.lookup n = some c'
  | (k,v) :: r,n,c,h=>by
    rw [List.lookup_cons]
    cases hb : n == k with
    | true=>exact ⟨_,rfl⟩
    | false =>
      rcases List.mem_cons.mp h with e | h
      · cases e; simp at hb
      · exact mem_lookup h
theorem cloFrom_mem {cells : List (Str × Addr)} : ∀ {names : List (Str × NameKind)} {acc : List (Str × Addr)} {n : Str} {c : Addr},(n,c) ∈ cloFrom cells names acc → (n,c) ∈ acc ∨ ((n,.free) ∈ names ∧ c = (cells.lookup n).getD 0)
  | [],_,_,_,h=>.inl h
  | (m,k) :: r,acc,n,c,h=>by
    unfold cloFrom at h
    split at h
    · rename_i hk
      have hk : k = .free:=by simpa using hk
      rcases cloFrom_mem h with h | ⟨h1,h2⟩
      · rcases List.mem_cons.mp h with e | h
        · cases e; exact .inr ⟨hk ▸ List.mem_cons_self,rfl⟩
        · exact .inl h
      · exact .inr ⟨List.mem_cons_of_mem _ h1,h2⟩
    · rcases cloFrom_mem h with h | ⟨h1,h2⟩
      · exact .inl h
      · exact .inr ⟨List.mem_cons_of_mem _ h1,h2⟩
theorem cloFrom_acc {cells : List (Str × Addr)} : ∀ {names : List (Str × NameKind)} {acc : List (Str × Addr)} {p : Str × Addr},p ∈ acc → p ∈ cloFrom cells names acc
  | [],_,_,h=>h
  | (m,k) :: r,acc,p,h=>by
    unfold cloFrom
    split
    · exact cloFrom_acc (List.mem_cons_of_mem _ h)
    · exact cloFrom_acc h
theorem cloFrom_has {cells : List (Str × Addr)} : ∀ {names : List (Str × NameKind)} {acc : List (Str × Addr)} {n : Str},(n,.free) ∈ names → (n,(cells.lookup n).getD 0) ∈ cloFrom cells names acc
  | (m,k) :: r,acc,n,h=>by
    unfold cloFrom
    rcases List.mem_cons.mp h with e | h
    · cases e
      exact cloFrom_acc List.mem_cons_self
    · split
      · exact cloFrom_has h
      · exact cloFrom_has h
theorem cells_mem : ∀ {names : List (Str × NameKind)} {h : Heap} {acc : List (Str × Addr)} {x : Str} {c : Addr},(x,c) ∈ cellsFrom h.objs.size names acc →
    (x,c) ∈ acc ∨ ((x,.cell) ∈ names ∧ h.objs.size ≤ c ∧ CellAt (pushCells h names) c none)
  | [],_,_,_,_,h=>.inl h
  | (n,k) :: r,h,acc,x,c,hm=>by
    unfold cellsFrom at hm
    unfold pushCells
    split at hm
    · rename_i hk
      rw [if_pos hk]
      have hk : k = .cell:=by simpa using hk
      rw [← Heap.size_push h { cls:=.type "cell",data:=.cell none }] at hm
      rcases cells_mem hm with hm | ⟨h1,h2,h3⟩
      · rcases List.mem_cons.mp hm with e | hm
        · cases e
          exact .inr ⟨hk ▸ List.mem_cons_self,Nat.le_refl _,_,pushCells_keeps r _ _ _ (Heap.get?_push_size _ rfl),rfl⟩
        · exact .inl hm
      · rw [Heap.size_push] at h2
        exact .inr ⟨List.mem_cons_of_mem _ h1,Nat.le_of_succ_le h2,h3⟩
    · rename_i hk
      rw [if_neg hk]
      rcases cells_mem hm with hm | ⟨h1,h2,h3⟩
      · exact .inl hm
      · exact .inr ⟨List.mem_cons_of_mem _ h1,h2,h3⟩
theorem cells_acc : ∀ {names : List (Str × NameKind)} {n : Nat} {acc : List (Str × Addr)} {p : Str × Addr},p ∈ acc → p ∈ cellsFrom n names acc
  | [],_,_,_,h=>h
  | (m,k) :: r,n,acc,p,h=>by
    unfold cellsFrom
    split
    · exact cells_acc (List.mem_cons_of_mem _ h)
    · exact cells_acc h
theorem cells_has : ∀ {names : List (Str × NameKind)} {n : Nat} {acc : List (Str × Addr)} {x : Str},(x,.cell) ∈ names → ∃ c,(x,c) ∈ cellsFrom n names acc
  | (m,k) :: r,n,acc,x,h=>by
    unfold cellsFrom
    rcases List.mem_cons.mp h with e | h
    · cases e
      exact ⟨n,cells_acc List.mem_cons_self⟩
    · split
      · exact cells_has h
      · exact cells_has h
theorem cells_inj : ∀ {names : List (Str × NameKind)} {h : Heap} {acc : List (Str × Addr)} {x y : Str} {c : Addr},(∀ p ∈ acc,p.2 < h.objs.size) → (∀ x y c,(x,c) ∈ acc → (y,c) ∈ acc → x = y) →
    (x,c) ∈ cellsFrom h.objs.size names acc → (y,c) ∈ cellsFrom h.objs.size names acc → x = y
  | [],_,_,_,_,_,_,hi,h1,h2=>hi _ _ _ h1 h2
  | (n,k) :: r,h,acc,x,y,c,hl,hi,h1,h2=>by
    unfold cellsFrom at h1 h2
    split at h1
    · rename_i hk
      rw [if_pos hk] at h2
      rw [← Heap.size_push h { cls:=.type "cell",data:=.cell none }] at h1 h2
      refine cells_inj (h:=h.push _) (fun p hp=>?_) (fun x y c a b=>?_) h1 h2
      · rw [Heap.size_push]
        rcases List.mem_cons.mp hp with rfl | hp
        · exact Nat.lt_succ_self _
        · exact Nat.lt_succ_of_lt (hl p hp)
      · rcases List.mem_cons.mp a with e | a <;> rcases List.mem_cons.mp b with e' | b
        · cases e; cases e'; rfl
        · cases e; exact absurd (hl _ b) (Nat.lt_irrefl _)
        · cases e'; exact absurd (hl _ a) (Nat.lt_irrefl _)
        · exact hi _ _ _ a b
    · rename_i hk
      rw [if_neg hk] at h2
      exact cells_inj hl hi h1 h2
theorem newEnv_comp {M : Model} {A : Around} {E : Value → Shared → Prop} {s : Shared} {scope : Scope} {globals : Addr} {closure : List (Str × Addr)} {qual : Str} {func : Option Addr} {code : Value} {around : Env} {builtins : Addr} {Q : Env → Shared → Prop}
    (h : Q (newEnv scope s.heap.objs.size globals (cellsFrom (s.heap.objs.size + 1) scope.names closure) qual func code (some around) builtins)
      { s with heap:=pushCells (s.heap.push { cls:=.type "dict",data:=.dict #[] }) scope.names }) :
    wpAny M A (newFunctionEnv scope globals closure [] qual func code (some around) builtins) Q E s:=by
  simp only [newFunctionEnv,Option.isSome_some,if_true]
  refine wpAny_bind (wpAny_alloc ?_)
  refine wpAny_bind (wpAny_layCells _ (fun n k c=>rfl) scope.names closure _ _ ?_)
  rw [show ({ s with heap:=s.heap.push { cls:=.type "dict",data:=.dict #[] } } : Shared).heap.objs.size = s.heap.objs.size + 1 from Heap.size_push ..]
  rw [List.forIn_nil]
  exact wpAny_bind (wpAny_pure (wpAny_pure h))
theorem lookup_relS {sc : Scope} : ∀ {names : List (Str × NameKind)} {x : Str} {k : NameKind},
    (names.map fun (n,k)=>if (k == NameKind.free && sc.kind == .function && sc.names.lookup n == some .cell) then (n,NameKind.cell) else (n,k)).lookup x = some k →
    ∃ k',names.lookup x = some k' ∧ (k = k' ∨ (k' = .free ∧ k = .cell))
  | [],_,_,h=>by simp at h
  | (n,k₀) :: r,x,k,h=>by
    have ih:=@lookup_relS sc r x k
    have h' : List.lookup x ((if (k₀ == NameKind.free && sc.kind == .function && sc.names.lookup n == some .cell) = true then (n,NameKind.cell) else (n,k₀)) :: (r.map _)) = some k:=h
    cases hx : x == n with
    | true =>
      simp only [List.lookup_cons,hx]
      by_cases hc : (k₀ == NameKind.free && sc.kind == .function && sc.names.lookup n == some .cell) = true
      · rw [if_pos hc] at h'
        simp only [List.lookup_cons,hx] at h'
        cases h'
        simp only [Bool.and_eq_true,beq_iff_eq] at hc
        exact ⟨k₀,rfl,.inr ⟨hc.1.1,rfl⟩⟩
      · rw [if_neg hc] at h'
        simp only [List.lookup_cons,hx] at h'
        cases h'
        exact ⟨_,rfl,.inl rfl⟩
    | false =>
      simp only [List.lookup_cons,hx]
      by_cases hc : (k₀ == NameKind.free && sc.kind == .function && sc.names.lookup n == some .cell) = true
      · rw [if_pos hc] at h'
        simp only [List.lookup_cons,hx] at h'
        exact ih h'
      · rw [if_neg hc] at h'
        simp only [List.lookup_cons,hx] at h'
        exact ih h'
structure BlkOk (N : List Str) (sc scope : Scope) (own : List (Str × Nat)) : Prop where
  kind : scope.kind = .function
  uniq : ∀ y ∈ scope.names,scope.names.lookup y.1 = some y.2
  ix : ∀ p ∈ own,N[p.2]? = some p.1
  free : ∀ y ∈ scope.names,y.2 = .free → sc.names.lookup y.1 = some .cell ∨ sc.names.lookup y.1 = some .free
  own : ∀ y ∈ scope.names,y.2 = .local ∨ y.2 = .cell → y.1 ∈ own.map (·.1) ∨ y.1 ∉ N
def wipe (σ : St) : List Nat → St
  | []=>σ
  | v :: vs=>(wipe σ vs).set v none
theorem wipe_length (σ : St) : ∀ vs : List Nat,(wipe σ vs).length = σ.length
  | []=>rfl
  | v :: vs=>by unfold wipe; rw [List.length_set,wipe_length σ vs]
theorem wipe_some {σ : St} {i : Nat} {x : V} : ∀ {vs : List Nat},(wipe σ vs)[i]? = some (some x) → σ[i]? = some (some x) ∧ i ∉ vs
  | [],h=>⟨h,by simp⟩
  | v :: vs,h=>by
    unfold wipe at h
    by_cases hi : v = i
    · subst hi
      by_cases hv : v < (wipe σ vs).length
      · rw [List.getElem?_set_self hv] at h; cases h
      · rw [List.getElem?_eq_none (by simpa using hv)] at h; cases h
    · rw [List.getElem?_set_ne hi] at h
      obtain ⟨h1,h2⟩:=wipe_some h
      exact ⟨h1,by simp only [List.mem_cons,not_or]; exact ⟨fun e=>hi e.symm,h2⟩⟩
abbrev Cx.blk (X : Cx) (s : Shared) (H : Hp) (scope : Scope) (cenv : Env) (fp : List Addr) : Cx:={ X with s_0:=s,H_0:=H,env:=cenv,outer:=X.stack,ex:=fp,fn:=fun x=>scope.names.lookup x == some .cell,pn:=[],xe:=fun _ _=>False }
section
variable {X : Cx} {pins : List (Addr × Obj)} {σ : St} {H : Hp} {s : Shared}
theorem block_start {scope : Scope} {own : List (Str × Nat)} {fp : List Addr} (I : Inv X pins σ H s) (ok : BlkOk X.N X.env.scope scope own) (hN : X.N.Nodup) (hfp : ∀ b ∈ fp,FpOk X pins H b ∧ b < s.heap.objs.size) :
    Inv (X.blk s H scope (compEnvC scope (cellsFrom (s.heap.objs.size + 1) scope.names (cloFrom X.env.cells scope.names [])) s.heap.objs.size X.env) fp) [] (wipe σ (own.map (·.2))) H { s with heap:=pushCells (s.heap.push { cls:=.type "dict",data:=.dict #[] }) scope.names }:=by
  have hfree : ∀ y ∈ scope.names,y.2 = .free → ∃ c,X.env.cells.lookup y.1 = some c:=fun y hy e=>by
    rcases ok.free y hy e with k | k
    · exact I.ok.has _ (.inl k)
    · exact I.ok.has _ (.inr k)
  generalize hcenv : compEnvC scope (cellsFrom (s.heap.objs.size + 1) scope.names (cloFrom X.env.cells scope.names [])) s.heap.objs.size X.env = cenv
  have kp : ∀ b o,s.heap.get? b = some o → (pushCells (s.heap.push { cls:=.type "dict",data:=.dict #[] }) scope.names).get? b = some o:=fun b o e=>pushCells_keeps _ _ _ _ (Heap.get?_push_of_some _ e)
  have hL : cenv.locals = s.heap.objs.size:=by rw [← hcenv]; rfl
  have hcl : cenv.cells = cellsFrom (s.heap.objs.size + 1) scope.names (cloFrom X.env.cells scope.names []):=by rw [← hcenv]; rfl
  have hsc : cenv.scope = relS scope X.env.scope:=by rw [← hcenv]; rfl
  rw [← Heap.size_push s.heap { cls:=.type "dict",data:=.dict #[] }] at hcl
  have cm : ∀ {y c},(y,c) ∈ cloFrom X.env.cells scope.names [] → X.env.cells.lookup y = some c ∧ c < s.heap.objs.size:=fun {y c} hm=>by
    rcases cloFrom_mem hm with hm | ⟨h1,rfl⟩
    · cases hm
    · obtain ⟨c,hc⟩:=hfree _ h1 rfl
      rw [hc]
      obtain ⟨w,z⟩:=I.cell _ _ hc
      exact ⟨rfl,z.lt⟩
  have mem : ∀ {y c},cenv.cells.lookup y = some c → (X.env.cells.lookup y = some c ∧ c < s.heap.objs.size) ∨ (s.heap.objs.size + 1 ≤ c ∧ CellAt (pushCells (s.heap.push { cls:=.type "dict",data:=.dict #[] }) scope.names) c none):=fun {y c} e=>by
    rw [hcl] at e
    rcases cells_mem (PySem.mem_of_lookup e) with hm | ⟨_,h2,h3⟩
    · exact .inl (cm hm)
    · rw [Heap.size_push] at h2; exact .inr ⟨h2,h3⟩
  have look : ∀ {y},scope.names.lookup y = some .free → ∃ c,cenv.cells.lookup y = some c ∧ X.env.cells.lookup y = some c:=fun {y} hl=>by
    have hy : (y,NameKind.free) ∈ scope.names:=PySem.mem_of_lookup hl
    obtain ⟨c',e'⟩:=mem_lookup (cells_acc (names:=scope.names) (n:=(s.heap.push { cls:=.type "dict",data:=.dict #[] }).objs.size) (cloFrom_has (cells:=X.env.cells) (acc:=[]) hy))
    rw [← hcl] at e'
    refine ⟨c',e',?_⟩
    rw [hcl] at e'
    rcases cells_mem (PySem.mem_of_lookup e') with hm | ⟨h1,_,_⟩
    · exact (cm hm).1
    · have:=ok.uniq _ h1
      rw [hl] at this; cases this
  have okB : (X.blk s H scope cenv fp).Ok:=by
    refine ⟨I.ok.mod,by show cenv.scope.kind = _; rw [hsc]; exact ok.kind,by show cenv.globals = _; rw [← hcenv]; exact I.ok.glob,by show cenv.builtins = _; rw [← hcenv]; exact I.ok.blt,by show s.heap.objs.size ≤ cenv.locals; rw [hL]; exact Nat.le_refl _,
      fun y z c e1 e2=>?_,fun y hy=>?_,fun y c z e=>?_,I.ok.hd,I.ok.frames,.inl rfl,fun b hb=>⟨?_,fun y c e z=>?_⟩,I.bs,Nat.le_trans I.ok.bsz I.sz,fun b o e hb=>?_,fun b hb z=>?_,I.stack,I.stkFree⟩
    · have e1 : cenv.cells.lookup y = some c:=e1
      have e2 : cenv.cells.lookup z = some c:=e2
      rw [hcl] at e1 e2
      refine cells_inj (fun p hp=>?_) (fun y z c a b=>I.ok.inj y z c (cm a).1 (cm b).1) (PySem.mem_of_lookup e1) (PySem.mem_of_lookup e2)
      rw [Heap.size_push]
      exact Nat.lt_succ_of_lt (cm (y:=p.1) (c:=p.2) hp).2
    · show ∃ c,cenv.cells.lookup y = some c
      have key : ∀ k,cenv.kindOf y = some k → (k = .cell ∨ k = .free) → ∃ c,cenv.cells.lookup y = some c:=fun k hk hk'=>by
        unfold Env.kindOf at hk
        rw [hsc] at hk
        obtain ⟨k',e,r⟩:=lookup_relS hk
        have : k' = .cell ∨ k' = .free:=by
          rcases r with rfl | ⟨rfl,_⟩
          · exact hk'
          · exact .inr rfl
        rcases this with rfl | rfl
        · obtain ⟨c,hm⟩:=cells_has (n:=(s.heap.push { cls:=.type "dict",data:=.dict #[] }).objs.size) (acc:=cloFrom X.env.cells scope.names []) (PySem.mem_of_lookup e)
          obtain ⟨c',e'⟩:=mem_lookup hm
          exact ⟨c',by rw [hcl]; exact e'⟩
        · obtain ⟨c,h1,_⟩:=look e
          exact ⟨c,h1⟩
      rcases hy with hy | hy
      · exact key _ hy (.inl rfl)
      · exact key _ hy (.inr rfl)
    · have z : (scope.names.lookup y == some NameKind.cell) = true:=z
      have z : scope.names.lookup y = some .cell:=by simpa using z
      have e : cenv.cells.lookup y = some c:=e
      rw [hcl] at e
      rcases cells_mem (PySem.mem_of_lookup e) with hm | ⟨_,h2,_⟩
      · rcases cloFrom_mem hm with hm | ⟨h1,_⟩
        · cases hm
        · have q:=ok.uniq _ h1
          rw [z] at q; cases q
      · rw [Heap.size_push] at h2
        exact Nat.le_of_succ_le h2
    · show b ≠ cenv.locals
      rw [hL]; exact Nat.ne_of_lt (hfp b hb).2
    · have e : cenv.cells.lookup y = some c:=e
      rcases mem e with ⟨h1,_⟩ | ⟨h1,_⟩
      · exact (hfp b hb).1.2.2.2.2.1 y c h1 z
      · have h2 : s.heap.objs.size + 1 ≤ b:=by rw [← z]; exact h1
        exact absurd (Nat.lt_of_lt_of_le (hfp b hb).2 (Nat.le_of_succ_le h2)) (Nat.lt_irrefl _)
    · rcases (hfp b hb).1.2.2.2.1 with z | z
      · exact I.ok.noex b o e z
      · exact absurd (Nat.lt_of_lt_of_le (Heap.lt_size e) (Nat.le_trans I.ok.bsz z)) (Nat.lt_irrefl _)
    · rcases List.mem_cons.mp (I.stkSub b z) with z | z
      · exact (hfp b hb).1.2.1 z
      · exact (hfp b hb).1.2.2.1 z
  refine ⟨okB,rfl,I.bare,Un.kept kp,⟨fun _=>none,?_,fun i y av e1 e2 e3=>?_⟩,fun y c e=>?_,?_,fun y c e=>?_,fun p hp=>?_,I.hok.kept kp,by rw [wipe_length]; exact I.len⟩
  · show Heap.Ns _ cenv.locals _
    rw [hL]
    exact Heap.Ns.keeps (Heap.Ns.new ..) fun b o e=>pushCells_keeps _ _ _ _ e
  · obtain ⟨e2,hne⟩:=wipe_some e2
    have hfr : scope.names.lookup y = some .free ∧ (cenv.kindOf y = some .cell ∨ cenv.kindOf y = some .free):=by
      have key : ∀ k,cenv.scope.names.lookup y = some k → k = .local ∨ k = .cell ∨ k = .free → scope.names.lookup y = some .free ∧ (cenv.kindOf y = some .cell ∨ cenv.kindOf y = some .free):=fun k hk hk'=>by
        have hk0:=hk
        rw [hsc] at hk
        obtain ⟨k',e,r⟩:=lookup_relS hk
        have no : ¬ (k' = .local ∨ k' = .cell):=fun hh=>by
          rcases ok.own _ (PySem.mem_of_lookup e) hh with e' | e'
          · obtain ⟨p,hp,hpy⟩:=List.mem_map.mp e'
            have e3:=ok.ix p hp
            have : p.1 = y:=hpy
            rw [this] at e3
            exact hne (List.mem_map.mpr ⟨p,hp,nodup_ix hN e3 e1⟩)
          · exact e' (List.mem_of_getElem? e1)
        rcases r with rfl | ⟨rfl,rfl⟩
        · rcases hk' with rfl | rfl | rfl
          · exact absurd (.inl rfl) no
          · exact absurd (.inr rfl) no
          · exact ⟨e,.inr hk0⟩
        · exact ⟨e,.inl hk0⟩
      have e3 : Vis cenv.scope y:=e3
      rcases e3 with e3 | e3 | e3
      · exact key _ e3 (.inl rfl)
      · exact key _ e3 (.inr (.inl rfl))
      · exact key _ e3 (.inr (.inr rfl))
    obtain ⟨m,hn,hl⟩:=I.loc
    have hvis : Vis X.env.scope y:=(ok.free _ (PySem.mem_of_lookup hfr.1) rfl).elim (fun k=>.inr (.inl k)) (fun k=>.inr (.inr k))
    obtain ⟨w,r,q⟩:=hl i y av e1 e2 hvis
    refine ⟨w,r,.inr ⟨hfr.2,?_⟩⟩
    obtain ⟨c,h1,h2⟩:=look hfr.1
    rcases q with ⟨k,_⟩ | ⟨_,c',e',z⟩
    · have k : X.env.scope.names.lookup y = some .local:=k
      rcases ok.free _ (PySem.mem_of_lookup hfr.1) rfl with k' | k' <;> rw [show X.env.scope.names.lookup y = _ from k'] at k <;> cases k
    · rw [h2] at e'; cases e'
      exact ⟨c,h1,z.keeps kp⟩
  · have e : cenv.cells.lookup y = some c:=e
    rcases mem e with ⟨h1,_⟩ | ⟨_,z⟩
    · obtain ⟨w,z⟩:=I.cell y c h1
      exact ⟨w,z.keeps kp⟩
    · exact ⟨_,z⟩
  · show H cenv.locals = none
    rw [hL]; exact I.hok.fresh (Nat.le_refl _)
  · have e : cenv.cells.lookup y = some c:=e
    rcases mem e with ⟨h1,_⟩ | ⟨h1,_⟩
    · exact I.freeC y c h1
    · exact I.hok.fresh (Nat.le_of_succ_le h1)
  · exact absurd (show p ∈ ([] : List (Addr × Obj)) ++ [] from hp) (by simp)
theorem app_ok {E : Value → Shared → Prop} {D : Addr} {xs : List V} {y : V} {v : Value} {Q : Value → Shared → Prop} (I : Inv X pins σ H s) (hD : H D = some (.lst xs)) (hz : xs.length < sizeLine) (r : RelV y v)
    (h : ∀ s',Inv X pins σ (upd H D (.lst (xs ++ [y]))) s' → Q .none s') : wpAny (model X.prog X.w) X.A (call (.builtin "list.append") [.ref D,v]) Q E s:=by
  obtain ⟨hz',its,n,ri,e⟩:=I.hok D _ hD
  have hl:=ri.length
  refine append_at (hsz:=by rw [List.size_toArray]; omega) e fun h' sb ho'=>?_
  refine h { s with heap:=h' } (I.write (t':=s.toks) (by rw [hD]; trivial) (.inl rfl) (fun b u hb q=>(sb.2 b hb).trans q) ⟨_,ho'⟩ ⟨by rw [List.length_append]; exact hz,its ++ [v],n + 1,ri.append (.cons r .nil),?_⟩)
  rw [ho']
  simp
def PTs (X : Cx) (ifs : List Expr) (t : TT) : Prop :=
  ∀ (pins : List (Addr × Obj)) (s : Shared) (σ : St) (H : Hp) (Q : Bool → Hp → Prop),Inv X pins σ H s → t σ H Q →
    wpAny (model X.prog X.w) X.A (forIn ifs true fun c r=>if r = true then do let ok ← isTrue c X.env (eval c X.env); pure (ForInStep.yield ok) else pure (ForInStep.yield r)) (TP X pins σ Q) X.xe s
def tYes : TT:=fun _ H Q=>Q true H
theorem pts_nil : PTs X [] tYes:=fun _ _ _ H _ I h=>wpAny_tests_nil ⟨H,I,h⟩
theorem pts_one {c : Expr} {t : TT} (h : PT X c t) : PTs X [c] t:=fun pins s σ H Q I hw=>wpAny_tests_one (h pins s σ H Q I hw)
end
theorem thnF {α : Type} {t : Sem α} {Q Q' : α → Shared → Prop} {M : Model} {A : Around} {E : Value → Shared → Prop} {s : Shared} (h : wpAny M A t Q (fun _ _=>False) s) (hQ : ∀ a s,Q a s → Q' a s) : wpAny M A t Q' E s:=wpAny_mono h hQ fun _ _ z=>False.elim z
theorem compLoop_any {prog : Program} {w : World} {A : Around} {R : Result → Shared → Prop} {s : Shared} {elt target iter : Expr} {ifs : List Expr} {scope : Scope} {pos : Pos} {it acc : Value} {env : Env} (I : Nat → Shared → Prop)
    (turn : ∀ n s,I n s → wpAny (model prog w) A (pyNext it) (fun r s₁=>match r with
      | none=>R (.ok .next) s₁
      | some v=>wpAny (model prog w) A (letOwnedTupleGo target it v) (fun _ s₁'=>wpAny (model prog w) A (assign target env v) (fun _ s₂ =>
          wpAny (model prog w) A (forIn ifs true fun c r=>if r = true then do let ok ← isTrue c env (eval c env); pure (ForInStep.yield ok) else pure (ForInStep.yield r)) (fun ok s₃ =>
            if ok = true then wpAny (model prog w) A (eval elt env) (fun x s₄ =>
              wpAny (model prog w) A (call (.builtin "list.append") [acc,x]) (fun _ s₅=>∃ m,m < n ∧ I m s₅) (notedBy (model prog w) A env fun e s'=>R (.error e) s') s₄) (notedBy (model prog w) A env fun e s'=>R (.error e) s') s₃
            else ∃ m,m < n ∧ I m s₃) (notedBy (model prog w) A env fun e s'=>R (.error e) s') s₂) (notedBy (model prog w) A env fun e s'=>R (.error e) s') s₁') (notedBy (model prog w) A env fun e s'=>R (.error e) s') s₁) (notedBy (model prog w) A env fun e s'=>R (.error e) s') s)
    (n : Nat) (h : I n s) :
    codeAny (model prog w) A (.compLoop (.ListComp elt [⟨target,iter,ifs,0⟩] scope pos) 0 it acc env) R s:=by
  refine codeAny_loop rfl I (fun n s hI=>?_) n h
  show wpAny _ A ((compTurn (.ListComp elt [⟨target,iter,ifs,0⟩] scope pos) 0 it acc env).onRaise (fun x=>do noteFrame x env; theTreesLotGoes x)) _ _ s
  refine wpAny_noted ?_
  rw [compTurn_list]
  refine wpAny_bind (wpAny_standAt (wpAny_bind (wpAny_mono (turn n s hI) (fun r s₁ h₁=>?_) fun _ _ h'=>h')))
  cases r with
  | none=>exact wpAny_pure h₁
  | some v =>
    refine wpAny_bind (wpAny_mono h₁ (fun _ s₁' h₁'=>?_) fun _ _ h'=>h')
    refine wpAny_bind (wpAny_mono h₁' (fun _ s₂ h₂=>wpAny_bind (wpAny_mono h₂ (fun ok s₃ h₃=>?_) fun _ _ h'=>h')) fun _ _ h'=>h')
    cases ok with
    | false=>exact wpAny_pure ⟨rfl,h₃⟩
    | true =>
      exact wpAny_bind (wpAny_bind (wpAny_mono h₃ (fun x s₄ h₄=>wpAny_bind (wpAny_mono h₄ (fun _ s₅ h₅=>wpAny_pure (wpAny_pure ⟨rfl,h₅⟩)) fun _ _ h'=>h')) fun _ _ h'=>h'))
section
variable {X : Cx}
def tLc (wi : TI) (g : TG) (tt : TT) (te : TE) (vs : List Nat) : TE:=fun σ H Q=>wi σ H fun J H1=>∀ D,H1 D = none → ∃ W : Nat → Nat → Hp → Prop,(∃ m,W 0 m (upd H1 D (.lst []))) ∧ ∀ i m H,W i m H →
  (J.stop i H ∧ Q (.ref D) H) ∨ (J.go i H ∧ ∃ Nx : Hp → Prop,(∀ H',Nx H' → ∃ m',m' < m ∧ W (i + 1) m' H') ∧ ∀ x H',J.yld i H x H' → g x (wipe σ vs) H' fun σ2 H2=>wipe σ2 vs = wipe σ vs ∧ tt σ2 H2 fun b H3 =>
    if b = true then te σ2 H3 fun y H4=>∃ acc,H4 D = some (.lst acc) ∧ acc.length < sizeLine ∧ Nx (upd H4 D (.lst (acc ++ [y]))) else Nx H3)
theorem lc_core {pins : List (Addr × Obj)} {s : Shared} {σ : St} {H : Hp} {Q : VK} {elt tg iter : Expr} {ifs : List Expr} {scope : Scope} {own : List (Str × Nat)} {pos pos' : Pos} {wi : TI} {g : TG} {tt : TT} {te : TE} {use : Option (Value → Sem Unit)} {Qf : Value → Shared → Prop}
    (hc : X.calm = true) (hN : X.N.Nodup) (I : Inv X pins σ H s) (hi : PI X tg iter wi) (ok : BlkOk X.N X.env.scope scope own)
    (hg : ∀ (s : Shared) (H : Hp) (C : Addr) (cl : List (Str × Addr)) (fp : List Addr),PG (X.blk s H scope (compEnvC scope cl C X.env) fp) tg g) (ht : ∀ (s : Shared) (H : Hp) (C : Addr) (cl : List (Str × Addr)) (fp : List Addr),PTs (X.blk s H scope (compEnvC scope cl C X.env) fp) ifs tt)
    (he : ∀ (s : Shared) (H : Hp) (C : Addr) (cl : List (Str × Addr)) (fp : List Addr),PE (X.blk s H scope (compEnvC scope cl C X.env) fp) elt te) (hs : ∀ x,foldedSetIterable iter X.env x = pure x)
    (h : tLc wi g tt te (own.map (·.2)) σ H Q)
    (hRR : ∀ D C s' m H',Inv X pins σ H' s' → Q (.ref D) H' → s'.heap.Ns C m → FpOk X pins H' C → compPost (model X.prog X.w) X.A X.xe use Qf (.ref D) C (.ok .next) s') :
    wpAny (model X.prog X.w) X.A (comprehension (.ListComp elt [⟨tg,iter,ifs,0⟩] scope pos) scope X.env pos' (newList []) false (eval iter X.env) use) Qf X.xe s:=by
  have hfree : ∀ y ∈ scope.names,y.2 = .free → ∃ c,X.env.cells.lookup y.1 = some c:=fun y hy e=>by
    rcases ok.free y hy e with k | k
    · exact I.ok.has _ (.inl k)
    · exact I.ok.has _ (.inr k)
  refine wpAny_comprehension_free (use:=use) rfl hs (closure_ok hfree) ok.kind (fun y hy e=>by rw [ok.uniq y hy,e])
    (thn (hi pins s σ H _ I h) fun xv s1 hx=>thn hx fun itv s2 h2=>?_)
  obtain ⟨it,fp,tn,J,H2,e,I2,T,st2,f2,q⟩:=h2
  subst e
  refine wpAny_newObj_type (newEnv_comp ?_) (by show 0 ≤ sizeLine; decide)
  generalize hD : s2.heap.objs.size = D
  have hDn : H2 D = none:=I2.hok.fresh (Nat.le_of_eq hD)
  obtain ⟨W,⟨m0,w0⟩,turn⟩:=q D hDn
  generalize hs3 : ({ s2 with heap:=s2.heap.push { cls:=.type "list",data:=.seq ([] : List Value).toArray } } : Shared) = s3
  have I3 : Inv X pins σ (upd H2 D (.lst [])) s3:=by
    rw [← hs3]
    refine I2.laid (t':=s2.toks) (fun b o e=>Heap.get?_push_of_some _ e) (Nat.le_of_eq hD) ⟨Nat.zero_le _,[],0,.nil,?_⟩
    rw [← hD]
    exact Heap.get?_push_size _ rfl
  have h3 : s3.heap = s2.heap.push { cls:=.type "list",data:=.seq ([] : List Value).toArray }:=by rw [← hs3]
  have sz : ∀ b ∈ fp,b < s2.heap.objs.size:=fun b hb=>by
    obtain ⟨o,e,_⟩:=T.obj _ _ st2 b hb
    exact Heap.lt_size e
  have f3 : ∀ b ∈ fp,FpOk X pins (upd H2 D (.lst [])) b ∧ b < s3.heap.objs.size:=fun b hb=>by
    have hlt:=sz b hb
    refine ⟨⟨?_,(f2 b hb).2⟩,by rw [h3,Heap.size_push]; exact Nat.lt_succ_of_lt hlt⟩
    rw [upd_ne (by rw [← hD]; exact Nat.ne_of_lt hlt)]
    exact (f2 b hb).1
  have st3 : tn 0 s3.heap:=T.keep _ _ _ st2 fun b _ o e=>by rw [h3]; exact Heap.get?_push_of_some _ e
  have I4:=block_start I3 ok hN f3
  have pg:=hg s3 (upd H2 D (.lst [])) s3.heap.objs.size (cellsFrom (s3.heap.objs.size + 1) scope.names (cloFrom X.env.cells scope.names [])) fp
  have pt:=ht s3 (upd H2 D (.lst [])) s3.heap.objs.size (cellsFrom (s3.heap.objs.size + 1) scope.names (cloFrom X.env.cells scope.names [])) fp
  have pe:=he s3 (upd H2 D (.lst [])) s3.heap.objs.size (cellsFrom (s3.heap.objs.size + 1) scope.names (cloFrom X.env.cells scope.names [])) fp
  show codeAny _ _ (.compStart (.ListComp elt [⟨tg,iter,ifs,0⟩] scope pos) 0 (.ref it) (.ref D) (compEnvC scope (cellsFrom (s3.heap.objs.size + 1) scope.names (cloFrom X.env.cells scope.names [])) s3.heap.objs.size X.env)) (compPost (model X.prog X.w) X.A X.xe use Qf (.ref D) s3.heap.objs.size) { s3 with heap:=pushCells (s3.heap.push { cls:=.type "dict",data:=.dict #[] }) scope.names }
  have nfp : ∀ b ∈ fp,(upd H2 D (.lst [])) b = none:=fun b hb=>(f3 b hb).1.1
  generalize hce : compEnvC scope (cellsFrom (s3.heap.objs.size + 1) scope.names (cloFrom X.env.cells scope.names [])) s3.heap.objs.size X.env = ce at I4 pg pt pe ⊢
  have cL : ce.locals = s3.heap.objs.size:=by subst hce; rfl
  generalize hH3 : upd H2 D (.lst []) = H3 at I3 I4 pg pt pe w0 nfp f3
  generalize hs4 : ({ s3 with heap:=pushCells (s3.heap.push { cls:=.type "dict",data:=.dict #[] }) scope.names } : Shared) = s4 at I4 ⊢
  have st4 : tn 0 s4.heap:=T.keep _ _ _ st3 fun b _ o e=>by rw [← hs4]; exact pushCells_keeps _ _ _ _ (Heap.get?_push_of_some _ e)
  have stat : ∀ {σ' : St} {H' : Hp} {s' : Shared},Inv (X.blk s3 H3 scope ce fp) [] σ' H' s' → (∀ b ∈ fp,H' b = none) → ∀ b ∈ fp,FpOk (X.blk s3 H3 scope ce fp) [] H' b:=fun {σ' H' s'} I' hn b hb =>
    ⟨hn b hb,(I'.ok.exf b hb).1,I'.ok.exfs b hb,.inl hb,fun x c e=>(I'.ok.exf b hb).2 x c e,fun p hp=>absurd (show p ∈ ([] : List (Addr × Obj)) ++ [] from hp) (by simp)⟩
  have loop : codeAny (model X.prog X.w) X.A (.compLoop (.ListComp elt [⟨tg,iter,ifs,0⟩] scope pos) 0 (.ref it) (.ref D) ce) (compPost (model X.prog X.w) X.A X.xe use Qf (.ref D) s3.heap.objs.size) s4:=by
    refine compLoop_any (fun n s'=>∃ i H',Inv (X.blk s3 H3 scope ce fp) [] (wipe σ (own.map (·.2))) H' s' ∧ tn i s'.heap ∧ (∀ b ∈ fp,H' b = none) ∧ W i n H') ?_ m0 ⟨0,H3,I4,st4,nfp,w0⟩
    rintro n s5 ⟨i,H5,I5,st5,n5,w5⟩
    rcases turn i n H5 w5 with ⟨stop,qq⟩ | ⟨go,Nx,hNx,step⟩
    · have td:=T.done (X.blk s3 H3 scope ce fp) rfl rfl rfl hc i [] s5 _ H5 (fun _ _=>False) I5 (stat I5 n5) st5 stop
      refine thnF td fun r s6 ⟨hr,I6⟩=>?_
      subst hr
      have I7 : Inv X pins σ H5 s6:=I3.call' (ch:=fp) I6.os I6.base I6.hok I6.bare fun b hb=>⟨(f3 b hb).1.2.2.2.1,(f3 b hb).1.2.1,(f3 b hb).1.2.2.2.2.1,(f3 b hb).1.2.2.2.2.2⟩
      have nC : H5 s3.heap.objs.size = none:=by
        have z : H5 ce.locals = none:=I6.free
        rw [cL] at z
        exact z
      obtain ⟨m,hn,_⟩:=I6.loc
      have hn : s6.heap.Ns ce.locals m:=hn
      rw [cL] at hn
      exact hRR D s3.heap.objs.size s6 m H5 I7 qq hn (I3.fpOk (Nat.le_refl _) nC)
    · have ti:=T.item (X.blk s3 H3 scope ce fp) rfl rfl rfl hc i [] s5 _ H5 (fun _ _=>False) I5 (stat I5 n5) st5 go
      refine thnF ti fun r s6 ⟨u,hr,h6⟩=>?_
      subst hr
      refine thnF h6 fun _ s7 ⟨x,H7,I7,r7,y7,st7,n7⟩=>?_
      have I7':=I7.pinned (stat I7 n7) (T.obj _ _ st7)
      refine thnF (pg _ s7 _ H7 x u _ I7' r7 (step x H7 y7)) fun _ s8 ⟨σ8,H8,I8,hw8,q8⟩=>?_
      refine thnF (pt _ s8 σ8 H8 _ I8 q8) fun b s9 ⟨H9,I9,q9⟩=>?_
      have fin : ∀ {s' : Shared} {H' : Hp},Inv (X.blk s3 H3 scope ce fp) ([] ++ pinsAt fp s7.heap) σ8 H' s' → Nx H' → ∃ m,m < n ∧ ∃ i H',Inv (X.blk s3 H3 scope ce fp) [] (wipe σ (own.map (·.2))) H' s' ∧ tn i s'.heap ∧ (∀ b ∈ fp,H' b = none) ∧ W i m H':=fun {s' H'} I' nx=>by
        obtain ⟨m',hm,w'⟩:=hNx H' nx
        have pin' : ∀ b ∈ fp,∀ o,s7.heap.get? b = some o → s'.heap.get? b = some o ∧ H' b = none:=fun b hb o e =>
          let z:=I'.pin (b,o) (List.mem_append_right _ (List.mem_append_right _ (mem_pinsAt hb e)))
          ⟨z.1,z.2.1⟩
        have hl : (wipe σ (own.map (·.2))).length = σ8.length:=by rw [← hw8,wipe_length]
        refine ⟨m',hm,i + 1,H',(I'.unpinned (pins:=[])).weak hl (fun j v e=>?_),T.keep _ _ _ st7 fun b hb o e=>(pin' b hb o e).1,fun b hb=>?_,w'⟩
        · rw [← hw8] at e
          exact (wipe_some e).1
        · obtain ⟨o,e,_⟩:=T.obj _ _ st7 b hb
          exact (pin' b hb o e).2
      cases b with
      | false =>
        simp only [Bool.false_eq_true,if_false] at q9 ⊢
        exact fin I9 q9
      | true =>
        simp only [if_true] at q9 ⊢
        refine thnF (pe _ s9 σ8 H9 _ I9 q9) fun z s10 ⟨yv,H10,I10,r10,acc,hD10,hz10,nx⟩=>?_
        exact app_ok (X:=X.blk s3 H3 scope ce fp) I10 hD10 hz10 r10 fun s11 I11=>fin I11 nx
  exact codeAny_compStart_list loop (T.self X.A 0 _ _ _ st4 loop)
theorem pe_lc {elt tg iter : Expr} {ifs : List Expr} {scope : Scope} {own : List (Str × Nat)} {pos : Pos} {wi : TI} {g : TG} {tt : TT} {te : TE} (hc : X.calm = true) (hN : X.N.Nodup) (hi : PI X tg iter wi) (ok : BlkOk X.N X.env.scope scope own)
    (hg : ∀ (s : Shared) (H : Hp) (C : Addr) (cl : List (Str × Addr)) (fp : List Addr),PG (X.blk s H scope (compEnvC scope cl C X.env) fp) tg g) (ht : ∀ (s : Shared) (H : Hp) (C : Addr) (cl : List (Str × Addr)) (fp : List Addr),PTs (X.blk s H scope (compEnvC scope cl C X.env) fp) ifs tt)
    (he : ∀ (s : Shared) (H : Hp) (C : Addr) (cl : List (Str × Addr)) (fp : List Addr),PE (X.blk s H scope (compEnvC scope cl C X.env) fp) elt te) (hs : ∀ x,foldedSetIterable iter X.env x = pure x:=by intro _; rfl) :
    PE X (.ListComp elt [⟨tg,iter,ifs,0⟩] scope pos) (tLc wi g tt te (own.map (·.2))):=by
  intro pins s σ H Q I h
  rw [eval_ListComp]
  refine lc_core hc hN I hi ok hg ht he hs h fun D C s' m H' I' q hn f=>⟨m,hn,fun h'' sb=>?_⟩
  obtain ⟨f0,f1,f2,f3,f4,f5⟩:=f
  exact ⟨.ref D,H',I'.turned (t':=s'.toks) (fun b o hb e=>(sb.2 b hb).trans e) f0 f1 f3 f4 f5,rfl,q⟩
theorem ps_setLc {i : Nat} {y : Str} {py : Pos} {elt tg iter : Expr} {ifs : List Expr} {scope : Scope} {own : List (Str × Nat)} {pos spos : Pos} {wi : TI} {g : TG} {tt : TT} {te : TE} (hc : X.calm = true) (hN : X.N.Nodup) (hy : X.N[i]? = some y) (hyl : X.env.scope.names.lookup y = some .local)
    (hsw : swapsWith (.ListComp elt [⟨tg,iter,ifs,0⟩] scope pos) (some (.Name y py)) spos.line X.env = pure true) (hi : PI X tg iter wi) (ok : BlkOk X.N X.env.scope scope own)
    (hg : ∀ (s : Shared) (H : Hp) (C : Addr) (cl : List (Str × Addr)) (fp : List Addr),PG (X.blk s H scope (compEnvC scope cl C X.env) fp) tg g) (ht : ∀ (s : Shared) (H : Hp) (C : Addr) (cl : List (Str × Addr)) (fp : List Addr),PTs (X.blk s H scope (compEnvC scope cl C X.env) fp) ifs tt)
    (he : ∀ (s : Shared) (H : Hp) (C : Addr) (cl : List (Str × Addr)) (fp : List Addr),PE (X.blk s H scope (compEnvC scope cl C X.env) fp) elt te) (hs : ∀ x,foldedSetIterable iter X.env x = pure x:=by intro _; rfl) :
    PS X (.Assign [.Name y py] (.ListComp elt [⟨tg,iter,ifs,0⟩] scope pos) spos) (tAsg (tLc wi g tt te (own.map (·.2))) (gName i)):=by
  intro pins s σ H D I h
  rw [exec_Assign_Name_used _ _ _ _ hsw]
  refine wpAny_bind (wpAny_standAt (wpAny_bind ?_))
  show wpAny _ X.A (do let _ ← comprehension (.ListComp elt [⟨tg,iter,ifs,0⟩] scope pos) scope X.env (firstIterPos [⟨tg,iter,ifs,0⟩] pos) (newList []) false (eval iter X.env) (some (assign (.Name y py) X.env))) _ _ s
  have h : tLc wi g tt te (own.map (·.2)) σ H (fun x H1=>gName i x σ H1 D.nx):=h
  refine wpAny_bind (thn (lc_core (Qf:=fun _ s'=>SP X pins D .next s') hc hN I hi ok hg ht he hs h fun L C s' m H' I' q hn f=>?_) fun _ s' hq=>wpAny_pure (wpAny_pure hq))
  show wpAny _ _ (assign (.Name y py) X.env (.ref L)) _ _ _
  refine wpAny_assign_Name (store_ok2 (v:=V.ref L) I' hN hy (.inl hyl) rfl (fun s2 I2 ⟨a,sb,ha⟩=>?_) (.inr hyl))
  obtain ⟨f0,f1,f2,f3,f4,f5⟩:=f
  have haC : C ≠ a:=by
    rcases ha with z | z
    · rw [z]; exact f1
    · exact fun e=>f4 y a z e.symm
  refine ⟨m,hn.sameBut sb haC,fun h3 sb3=>?_⟩
  exact ⟨_,H',I2.turned (t':=s2.toks) (fun b o hb e=>(sb3.2 b hb).trans e) f0 f1 f3 f4 f5,q⟩
end
end L2
namespace L2
open PySem PySem.Spec PyProof.Rows
section
variable {prog : Program} {w : World} {A : Around} {R : Result → Shared → Prop} {s : Shared} {elt t0 i0 t1 i1 : Expr} {ifs0 ifs1 : List Expr} {scope : Scope} {pos : Pos} {it acc : Value} {env : Env}
end
section
variable {X : Cx}
end
end L2
namespace L2
open PySem PySem.Spec PyProof.Rows
section
variable {κ : Type} [DecidableEq κ]
def valV (kvs : List (κ × V)) (k : κ) : Option V:=(kvs.find? fun kv=>decide (kv.1 = k)).map (·.2)
def putK (kvs : List (κ × V)) (k : κ) (v : V) : List (κ × V) :=
  if (kvs.any fun kv=>decide (kv.1 = k)) = true then kvs.map (fun kv=>if kv.1 = k then (kv.1,v) else kv) else kvs ++ [(k,v)]
def dropK (kvs : List (κ × V)) (k : κ) : List (κ × V):=kvs.filter fun kv=>decide (kv.1 ≠ k)
theorem valV_pos {p : κ × V} {r : List (κ × V)} {k : κ} (e : p.1 = k) : valV (p :: r) k = some p.2:=by simp [valV,List.find?_cons,e]
theorem valV_neg {p : κ × V} {r : List (κ × V)} {k : κ} (e : ¬ p.1 = k) : valV (p :: r) k = valV r k:=by simp [valV,List.find?_cons,e]
theorem valV_any (k : κ) : ∀ kvs : List (κ × V),(kvs.any fun kv=>decide (kv.1 = k)) = (valV kvs k).isSome
  | []=>rfl
  | p :: r=>by
    rw [List.any_cons]
    by_cases e : p.1 = k
    · simp only [valV_pos e,decide_eq_true e,Bool.true_or,Option.isSome_some]
    · rw [valV_neg e,decide_eq_false e,Bool.false_or]; exact valV_any k r
theorem length_putK (kvs : List (κ × V)) (k : κ) (v : V) : (putK kvs k v).length ≤ kvs.length + 1:=by
  unfold putK
  split
  · rw [List.length_map]; omega
  · rw [List.length_append,List.length_cons,List.length_nil]; omega
theorem putK_new {kvs : List (κ × V)} {k : κ} (v : V) (h : valV kvs k = none) : putK kvs k v = kvs ++ [(k,v)]:=by
  unfold putK
  rw [valV_any,h]
  exact if_neg (by decide)
theorem RelO.isSome_eq {o : Option V} {u : Option Value} (r : RelO o u) : o.isSome = u.isSome:=by
  cases o with
  | none=>cases u with
    | none=>rfl
    | some _=>exact (show False from r).elim
  | some _=>cases u with
    | none=>exact (show False from r).elim
    | some _=>rfl
theorem RelO.getD {o : Option V} {u : Option Value} {d : V} {d' : Value} (r : RelO o u) (rd : RelV d d') : RelV (o.getD d) (u.getD d'):=by
  cases o with
  | none=>cases u with
    | none=>exact rd
    | some _=>exact (show False from r).elim
  | some _=>cases u with
    | none=>exact (show False from r).elim
    | some _=>exact r
theorem KV.val {kvs : List (κ × V)} {vs : List (κ × Value)} (r : KV kvs vs) (k : κ) : RelO (valV kvs k) (valueAt vs k):=by
  unfold KV at r
  induction r with
  | nil=>exact True.intro
  | @cons p q ps qs h t ih =>
    obtain ⟨h1,h2⟩:=h
    by_cases e : p.1 = k
    · have e' : q.1 = k:=h1.symm.trans e
      have b : valueAt (q :: qs) k = some q.2:=by simp [valueAt,List.find?_cons,e']
      rw [valV_pos e,b]; exact h2
    · have e' : ¬ q.1 = k:=fun z=>e (h1.trans z)
      have b : valueAt (q :: qs) k = valueAt qs k:=by simp [valueAt,List.find?_cons,e']
      rw [valV_neg e,b]; exact ih
theorem KV.any {kvs : List (κ × V)} {vs : List (κ × Value)} (r : KV kvs vs) (k : κ) : (kvs.any fun kv=>decide (kv.1 = k)) = vs.any fun kv=>decide (kv.1 = k):=by
  unfold KV at r
  induction r with
  | nil=>rfl
  | cons h t ih=>rw [List.any_cons,List.any_cons,ih,h.1]
theorem KV.repl {kvs : List (κ × V)} {vs : List (κ × Value)} (r : KV kvs vs) (k : κ) {y : V} {u : Value} (ry : RelV y u) :
    KV (kvs.map fun kv=>if kv.1 = k then (kv.1,y) else kv) (vs.map fun kv=>if kv.1 = k then (kv.1,u) else kv):=by
  unfold KV at r ⊢
  induction r with
  | nil=>exact .nil
  | @cons p q ps qs h t ih =>
    rw [List.map_cons,List.map_cons]
    refine .cons ?_ ih
    obtain ⟨h1,h2⟩:=h
    by_cases e : p.1 = k
    · rw [if_pos e,if_pos (h1.symm.trans e)]; exact ⟨h1,ry⟩
    · rw [if_neg e,if_neg (fun z=>e (h1.trans z))]; exact ⟨h1,h2⟩
theorem KV.put {kvs : List (κ × V)} {vs : List (κ × Value)} (r : KV kvs vs) (k : κ) {y : V} {u : Value} (ry : RelV y u) : KV (putK kvs k y) (stored vs k u):=by
  unfold putK stored
  rw [r.any k]
  by_cases e : (vs.any fun kv=>decide (kv.1 = k)) = true
  · rw [if_pos e,if_pos e]; exact r.repl k ry
  · rw [if_neg e,if_neg e]; exact Paired.snoc r ⟨rfl,ry⟩
theorem KV.length {kvs : List (κ × V)} {vs : List (κ × Value)} (r : KV kvs vs) : kvs.length = vs.length:=Paired.length r
theorem dropK_le (kvs : List (κ × V)) (k : κ) : (dropK kvs k).length ≤ kvs.length:=List.length_filter_le _ _
end
theorem kV_is {P : Program} {w : World} {k : Key} {u : Value} (r : RelV (kV k) u) : (mixKind P w).is k u = true:=by
  cases k with
  | inl i=>obtain ⟨t,e⟩:=(show ∃ t,u = Value.int i t from r); subst e; exact mixKind_int P w i t
  | inr x=>obtain ⟨t,e⟩:=(show ∃ t,u = Value.str x t from r); subst e; exact mixKind_str P w x t
theorem items_are {P : Program} {w : World} : ∀ {ks : List Key} {us : List Value},Vals (ks.map kV) us → ItemsAre (mixKind P w) ks us
  | [],_,r=>by rw [List.map_nil] at r; cases r; exact .nil
  | k :: ks,_,r=>by
    rw [List.map_cons] at r
    cases r with
    | cons h t=>exact .cons (kV_is h) (items_are t)
abbrev KT (H : Hp) : List (List Key × V) → List (List Key × Addr × Value) → Prop:=Paired fun p q=>p.1 = q.1 ∧ H q.2.1 = some (.tup (p.1.map kV)) ∧ RelV p.2 q.2.2
theorem KT.val {H : Hp} {kvs : List (List Key × V)} {xs : List (List Key × Addr × Value)} (r : KT H kvs xs) (k : List Key) : RelO (valV kvs k) ((atKey xs k).map (·.2)):=by
  induction r with
  | nil=>exact True.intro
  | @cons p q ps qs h t ih =>
    obtain ⟨h1,_,h2⟩:=h
    by_cases e : p.1 = k
    · have e' : q.1 = k:=h1.symm.trans e
      have b : atKey (q :: qs) k = some q.2:=by simp [atKey,List.find?_cons,e']
      rw [valV_pos e,b]; exact h2
    · have e' : ¬ q.1 = k:=fun z=>e (h1.trans z)
      have b : atKey (q :: qs) k = atKey qs k:=by simp [atKey,List.find?_cons,e']
      rw [valV_neg e,b]; exact ih
theorem KT.repl {H : Hp} {kvs : List (List Key × V)} {xs : List (List Key × Addr × Value)} (r : KT H kvs xs) (k : List Key) {y : V} {u : Value} (ry : RelV y u) :
    KT H (kvs.map fun kv=>if kv.1 = k then (kv.1,y) else kv) (xs.map (putAt k u)):=by
  induction r with
  | nil=>exact .nil
  | @cons p q ps qs h t ih =>
    rw [List.map_cons,List.map_cons]
    refine .cons ?_ ih
    obtain ⟨h1,h2,h3⟩:=h
    unfold putAt
    by_cases e : p.1 = k
    · rw [if_pos e,if_pos (h1.symm.trans e)]; exact ⟨h1,h2,ry⟩
    · rw [if_neg e,if_neg (fun z=>e (h1.trans z))]; exact ⟨h1,h2,h3⟩
theorem KT.put {H : Hp} {kvs : List (List Key × V)} {xs : List (List Key × Addr × Value)} (r : KT H kvs xs) (k : List Key) {b : Addr} {y : V} {u : Value} (hb : H b = some (.tup (k.map kV))) (ry : RelV y u) :
    KT H (putK kvs k y) (storedH xs k b u):=by
  have e : (kvs.any fun kv=>decide (kv.1 = k)) = (atKey xs k).isSome:=by
    rw [valV_any,(r.val k).isSome_eq,Option.isSome_map]
  unfold putK storedH
  rw [e]
  by_cases q : (atKey xs k).isSome = true
  · rw [if_pos q,if_pos q]; exact r.repl k ry
  · rw [if_neg q,if_neg q]; exact Paired.snoc r ⟨rfl,hb,ry⟩
theorem KT.keeps {H H' : Hp} {kvs : List (List Key × V)} {xs : List (List Key × Addr × Value)} (r : KT H kvs xs) (ht : ∀ b ys,H b = some (.tup ys) → H' b = some (.tup ys)) : KT H' kvs xs :=
  Paired.mapP r fun _ _ z=>⟨z.1,ht _ _ z.2.1,z.2.2⟩
section
variable {P : Program} {w : World} {H : Hp} {h : Heap} {a : Addr}
theorem rd_of {u : HO} (ok : HOk P w H h) (e : Rd H a u) : ObjOk P w H h a u:=e.ok ok
theorem dk_rd {kvs : List (Key × V)} (ok : HOk P w H h) (e : Rd H a (.dK kvs)) : kvs.length ≤ sizeLine ∧ (a == sysModules) = false ∧ ∃ vs,KV kvs vs ∧ h.DictOf (mixKind P w) a vs :=
  show ObjOk P w H h a (.dK kvs) from rd_of ok e
theorem dk_of {kvs : List (Key × V)} (ok : HOk P w H h) (e : H a = some (.dK kvs)) : kvs.length ≤ sizeLine ∧ (a == sysModules) = false ∧ ∃ vs,KV kvs vs ∧ h.DictOf (mixKind P w) a vs:=dk_rd ok (.inl e)
theorem key_of {ks : List Key} (ok : HOk P w H h) (e : H a = some (.tup (ks.map kV))) : (tupleKind (mixKind P w)).is h ks a:=by
  obtain ⟨_,its,r,o,h1,h2,n,h3⟩:=(show ObjOk P w H h a (.tup (ks.map kV)) from ok a _ e)
  exact ⟨o,its.toArray,n,h1,h2,h3,by simpa using items_are r⟩
theorem dt_rd {kvs : List (List Key × V)} (ok : HOk P w H h) (e : Rd H a (.dT kvs)) : kvs.length ≤ sizeLine ∧ (a == sysModules) = false ∧
    ∃ xs,KT H kvs xs ∧ h.DictOfH (tupleKind (mixKind P w)) a xs:=by
  obtain ⟨z,y,xs,r,o,es,ep,h1,h2,h3,h4,h5⟩:=(show ObjOk P w H h a (.dT kvs) from rd_of ok e)
  refine ⟨z,y,xs,r,o,es,ep,h1,h2,h3,h4,fun x hx=>?_,h5⟩
  have all : ∀ {l : List (List Key × V)} {m : List (List Key × Addr × Value)},KT H l m → ∀ x ∈ m,(tupleKind (mixKind P w)).is h x.1 x.2.1:=by
    intro l m q
    induction q with
    | nil=>intro x hx; exact nomatch hx
    | @cons p q ps qs hq t ih =>
      intro x hx
      rcases List.mem_cons.mp hx with e | hx
      · subst e
        exact key_of ok (by rw [← hq.1]; exact hq.2.1)
      · exact ih x hx
  exact all r x hx
theorem dt_of {kvs : List (List Key × V)} (ok : HOk P w H h) (e : H a = some (.dT kvs)) : kvs.length ≤ sizeLine ∧ (a == sysModules) = false ∧
    ∃ xs,KT H kvs xs ∧ h.DictOfH (tupleKind (mixKind P w)) a xs:=dt_rd ok (.inl e)
end
def DGet (H : Hp) (a : Addr) (y : V) (r : Option V) : Prop :=
  (∃ kvs k,Rd H a (.dK kvs) ∧ y = kV k ∧ r = valV kvs k) ∨ ∃ kvs k b,Rd H a (.dT kvs) ∧ y = .ref b ∧ H b = some (.tup (k.map kV)) ∧ r = valV kvs k
def DPut (H : Hp) (a : Addr) (y v : V) (H' : Hp) : Prop :=
  (∃ kvs k,H a = some (.dK kvs) ∧ y = kV k ∧ kvs.length < sizeLine ∧ H' = upd H a (.dK (putK kvs k v))) ∨
  ∃ kvs k b,H a = some (.dT kvs) ∧ y = .ref b ∧ H b = some (.tup (k.map kV)) ∧ kvs.length < sizeLine ∧ H' = upd H a (.dT (putK kvs k v))
theorem DGet.t {H : Hp} {a b : Addr} {kvs : List (List Key × V)} {k : List Key} (e : H a = some (.dT kvs)) (eb : H b = some (.tup (k.map kV))) : DGet H a (.ref b) (valV kvs k):=.inr ⟨kvs,k,b,.inl e,rfl,eb,rfl⟩
theorem DPut.t {H : Hp} {a b : Addr} {kvs : List (List Key × V)} {k : List Key} {v : V} (e : H a = some (.dT kvs)) (eb : H b = some (.tup (k.map kV))) (hl : kvs.length < sizeLine) :
    DPut H a (.ref b) v (upd H a (.dT (putK kvs k v))):=.inr ⟨kvs,k,b,e,rfl,eb,hl,rfl⟩
section
variable {X : Cx} {pins : List (Addr × Obj)} {σ : St} {H : Hp} {s : Shared} {a : Addr} {y v : V} {u r : Value} {o : Option V} {A : Around} {E : Value → Shared → Prop}
theorem Inv.big (I : Inv X pins σ H s) : sysModules < s.heap.objs.size:=by
  have h : mainGlobals < s.heap.objs.size:=(I.mod.glob.keeps I.bk).lt
  exact Nat.lt_trans (by decide) h
theorem d_getItem {Q : Value → Shared → Prop} (hu : A.units + 1 < cLine) (I : Inv X pins σ H s) (g : DGet H a y (some v)) (ry : RelV y u) (h : ∀ w' s',Inv X pins σ H s' → RelV v w' → Q w' s') :
    wpAny (model X.prog X.w) A (getItem (.ref a) u) Q E s:=by
  rcases g with ⟨kvs,k,e,ey,l⟩ | ⟨kvs,k,b,e,ey,eb,l⟩
  · subst ey
    obtain ⟨z,hd,vs,rel,dd⟩:=dk_rd I.hok e
    obtain ⟨w',hw,rw'⟩:=RelO.some_of (v:=v) (o:=valueAt vs k) (by rw [l]; exact rel.val k)
    exact wpAny_getItem_of (kV_is ry) dd.mapOf hw (h w' _ (I.tok _) rw')
  · subst ey
    cases (show u = Value.ref b from ry)
    obtain ⟨z,hd,xs,rel,dd⟩:=dt_rd I.hok e
    obtain ⟨w',hw,rw'⟩:=RelO.some_of (v:=v) (o:=(atKey xs k).map (·.2)) (by rw [l]; exact rel.val k)
    obtain ⟨p,hp,hp2⟩:=Option.map_eq_some_iff.mp hw
    refine wpAny_getItem_heap (tupleKind_room_in1 hu) (key_of I.hok eb) dd hp ?_
    rw [hp2]
    exact h w' _ (I.tok _) rw'
theorem d_in {Q : Value → Shared → Prop} (hu : A.units + 1 < cLine) (I : Inv X pins σ H s) (g : DGet H a y o) (ry : RelV y u) (h : ∀ s',Inv X pins σ H s' → Q (.bool o.isSome) s') :
    wpAny (model X.prog X.w) A (compareOp .In u (.ref a)) Q E s:=by
  rcases g with ⟨kvs,k,e,ey,l⟩ | ⟨kvs,k,b,e,ey,eb,l⟩
  · subst ey
    obtain ⟨z,hd,vs,rel,dd⟩:=dk_rd I.hok e
    refine wpAny_in_of (kV_is ry) hd dd.mapOf ?_
    rw [← (rel.val k).isSome_eq,← l]
    exact h _ (I.tok _)
  · subst ey
    cases (show u = Value.ref b from ry)
    obtain ⟨z,hd,xs,rel,dd⟩:=dt_rd I.hok e
    refine wpAny_in_heap (tupleKind_room_in1 hu) (key_of I.hok eb) hd dd ?_
    have q:=(rel.val k).isSome_eq
    rw [Option.isSome_map] at q
    rw [← q,← l]
    exact h _ (I.tok _)
theorem d_write {h' : Heap} {t' : Nat} {ob : HO} (I : Inv X pins σ H s) (mu : Mut (H a)) (hs : Heap.SameBut a s.heap h') (he : ∃ q,h'.get? a = some q) (new : ObjOk X.prog X.w (upd H a ob) h' a ob) :
    Inv X pins σ (upd H a ob) { s with heap:=h',toks:=t' } :=
  I.write (x:=a) (e:=a) mu (.inl rfl) (fun b q hb z=>(hs.2 b hb).trans z) he new
theorem dk_new {P : Program} {w : World} {H' : Hp} {h' : Heap} {kvs : List (Key × V)} {vs : List (Key × Value)} (z : kvs.length ≤ sizeLine) (hd : (a == sysModules) = false) (rel : KV kvs vs) (dd : h'.DictOf (mixKind P w) a vs) :
    ObjOk P w H' h' a (.dK kvs):=⟨z,hd,vs,rel,dd⟩
theorem d_setItem {H' : Hp} {Q : Unit → Shared → Prop} (hu : A.units + 1 < cLine) (I : Inv X pins σ H s) (g : DPut H a y v H') (ry : RelV y u) (rv : RelV v r) (h : ∀ s',Inv X pins σ H' s' → Q () s') :
    wpAny (model X.prog X.w) A (setItem (.ref a) u r) Q E s:=by
  rcases g with ⟨kvs,k,e,ey,l,eH⟩ | ⟨kvs,k,b,e,ey,eb,l,eH⟩
  · subst ey eH
    obtain ⟨z,hd,vs,rel,dd⟩:=dk_of I.hok e
    have hz : vs.length ≤ sizeLine:=by rw [← rel.length]; exact z
    have hl : (putK kvs k v).length ≤ sizeLine:=by have:=length_putK kvs k v; omega
    refine wpAny_setItem_pairs (hsz:=hz) (kV_is ry) dd fun h' dd' hs=>h _ ?_
    have he : ∃ q,h'.get? a = some q:=let ⟨q,_,_,hq,_⟩:=dd'; ⟨q,hq⟩
    exact d_write I (by rw [e]; exact True.intro) hs he (dk_new hl hd (rel.put k rv) dd')
  · subst ey eH
    cases (show u = Value.ref b from ry)
    obtain ⟨z,hd,xs,rel,dd⟩:=dt_of I.hok e
    have hz : xs.length ≤ sizeLine:=by rw [← Paired.length rel]; exact z
    have hl : (putK kvs k v).length ≤ sizeLine:=by have:=length_putK kvs k v; omega
    refine wpAny_setItem_heap (hsz:=hz) (tupleKind_room_in1 hu) (key_of I.hok eb) dd fun h' dd' hs=>h _ ?_
    obtain ⟨q,es,ep,hq,h2,h3,h4,_,h5⟩:=dd'
    refine d_write I (by rw [e]; exact True.intro) hs ⟨q,hq⟩ ⟨hl,hd,_,(rel.put k eb rv).keeps fun c ys ec=>?_,q,es,ep,hq,h2,h3,h4,h5⟩
    rw [upd_ne (ne_of ec e (fun z=>nomatch z))]
    exact ec
end
section
variable {X : Cx} {pins : List (Addr × Obj)} {σ : St} {H : Hp} {s : Shared} {a : Addr} {kvs : List (Key × V)} {k : Key} {u : Value} {A : Around} {E : Value → Shared → Prop}
end
def NoSl (i : Expr) : Prop:=∀ ov iv,subscripted i false ov iv = operate [ov,iv] (getItem ov iv)
theorem subD_of {prog : Program} {w : World} {A : Around} {E : Value → Shared → Prop} {s : Shared} {env : Env} {value slice : Expr} {pos : Pos} {T id : String} {Q : Value → Shared → Prop}
    (hl : typeLookup (.type T) "__getitem__" = pure (some (.builtin id))) (hs : NoSl slice)
    (h : wpAny (model prog w) A (eval value env) (fun o s₁=>wpAny (model prog w) A (eval slice env) (fun i s₂=>s₂.TypeIs o T ∧ wpAny (model prog w) A (getItem o i) Q E s₂) E s₁) E s) :
    wpAny (model prog w) A (eval (.Subscript value slice pos) env) Q E s:=by
  refine Subscript_ (wpAny_mono h (fun o s₁ h₁=>wpAny_mono h₁ (fun i s₂ h₂=>?_) fun _ _ x=>x) fun _ _ x=>x)
  obtain ⟨hT,h₂⟩:=h₂
  unfold subscriptTail
  refine wpAny_bind ?_
  rw [getitemInPython_of_ne hT.not_modules]
  refine wpAny_bind (wpAny_specialOf hT hl ?_)
  have fin : wpAny (model prog w) A (subscripted slice false o i) (fun r s₃=>wpAny (model prog w) A (letTemporaryGo value o r >>= fun _=>pure r) Q E s₃) E s₂:=by
    rw [hs o i]
    exact wpAny_operating (wpAny_mono h₂ (fun r s₃ h₃=>wpAny_bind (wpAny_letTemporaryGo (wpAny_pure h₃))) fun _ _ x=>x)
  first
    | exact wpAny_pure (wpAny_bind fin)
    | exact wpAny_bind (wpAny_pure (wpAny_bind fin))
    | exact wpAny_bind fin
theorem dict_typeIs {X : Cx} {pins : List (Addr × Obj)} {σ : St} {H : Hp} {s : Shared} {a : Addr} {y : V} {o : Option V} (I : Inv X pins σ H s) (g : DGet H a y o) : s.TypeIs (.ref a) "dict":=by
  rcases g with ⟨kvs,k,e,_,_⟩ | ⟨kvs,k,b,e,_,_,_⟩
  · obtain ⟨_,_,vs,_,dd⟩:=dk_rd I.hok e
    exact dd.typeIs
  · obtain ⟨_,_,xs,_,dd⟩:=dt_rd I.hok e
    exact dd.typeIs
def tDGet (td ty : TE) : TE:=fun σ H Q=>td σ H fun x H1=>ty σ H1 fun y H2=>∃ a v,x = .ref a ∧ DGet H2 a y (some v) ∧ Q v H2
def tDIn (ty td : TE) : TE:=fun σ H Q=>ty σ H fun y H1=>td σ H1 fun x H2=>∃ a o,x = .ref a ∧ DGet H2 a y o ∧ Q (.bl o.isSome) H2
def sDPut (td ty tv : TE) : TS:=fun D σ H=>tv σ H fun v H1=>td σ H1 fun x H2=>ty σ H2 fun y H3=>∃ a H4,x = .ref a ∧ DPut H3 a y v H4 ∧ D.nx σ H4
section
variable {X : Cx} {o i e value : Expr} {pos pos' tpos : Pos} {td ty tv : TE}
theorem pe_dget (hu : X.A.units + 1 < cLine) (ho : PE X o td) (hi : PE X i ty) (hs : NoSl i) : PE X (.Subscript o i pos) (tDGet td ty):=by
  intro pins s σ H Q I h
  refine subD_of PySem.F.slot_dict_getitem.lookup hs (thn (ho pins s σ H _ I h) fun u s1 ⟨x,H1,I1,rx,q1⟩=>thn (hi pins s1 σ H1 _ I1 q1) fun iv s2 ⟨y,H2,I2,ry,a,v,ex,g,q2⟩=>?_)
  subst ex
  obtain rfl : u = Value.ref a:=rx
  exact ⟨dict_typeIs I2 g,d_getItem hu I2 g ry fun w' s3 I3 rw'=>⟨v,H2,I3,rw',q2⟩⟩
theorem pc_din (hu : X.A.units + 1 < cLine) (hi : PE X i ty) (ho : PE X o td) : PC X .In i o (tDIn ty td):=by
  intro pins s σ H Q I h
  refine thn (hi pins s σ H _ I h) fun iv s1 ⟨y,H1,I1,ry,q1⟩=>thn (ho pins s1 σ H1 _ I1 q1) fun u s2 ⟨x,H2,I2,rx,a,ov,ex,g,q2⟩=>?_
  subst ex
  obtain rfl : u = Value.ref a:=rx
  exact d_in hu I2 g ry fun s3 I3=>⟨.bl ov.isSome,H2,I3,rfl,q2⟩
theorem ps_dput (hu : X.A.units + 1 < cLine) (ho : PE X o td) (hi : PE X i ty) (hv : PE X value tv) (hs : swapsWith value (some (.Subscript o i pos')) pos.line X.env = pure false) :
    PS X (.Assign [.Subscript o i pos'] value pos) (sDPut td ty tv):=by
  intro pins s σ H D I h
  refine wpAny_Assign_Subscript (thn (hv pins s σ H _ I h) fun r s1 ⟨v,H1,I1,rv,q1⟩=>thn (ho pins s1 σ H1 _ I1 q1) fun u s2 ⟨x,H2,I2,rx,q2⟩=>thn (hi pins s2 σ H2 _ I2 q2) fun iv s3 ⟨y,H3,I3,ry,a,H4,ex,g,q3⟩=>?_) hs
  subst ex
  obtain rfl : u = Value.ref a:=rx
  exact d_setItem hu I3 g ry rv fun s4 I4=>⟨σ,H4,I4,q3⟩
end
theorem dt_empty {P : Program} {w : World} {H : Hp} (h : Heap) (hb : sysModules < h.objs.size) : ObjOk P w H (h.push { cls:=.type "dict",data:=.dict #[] }) h.objs.size (.dT []) :=
  ⟨Nat.zero_le _,beq_eq_false_iff_ne.mpr (Ne.symm (Nat.ne_of_lt hb)),[],.nil,_,#[],0,Heap.get?_push_size _ rfl,⟨rfl,rfl,rfl⟩,rfl,rfl,List.nodup_nil⟩
def tDNewT : TE:=fun _ H Q=>∀ p,H p = none → Q (.ref p) (upd H p (.dT []))
section
variable {X : Cx} {pos : Pos}
theorem pe_dnewT : PE X (.Dict [] [] pos) tDNewT:=fun pins s σ H Q I h =>
  wpAny_Dict_empty ⟨.ref s.heap.objs.size,_,I.laid (a:=s.heap.objs.size) (o:=.dT []) (t':=s.toks) (fun _ _ q=>Heap.get?_push_of_some _ q) (Nat.le_refl _) (dt_empty s.heap I.big),rfl,h _ (I.hok.fresh (Nat.le_refl _))⟩
end
def tPairs : List (TE × TE) → St → Hp → (List (V × V) → Hp → Prop) → Prop
  | [],_,H,Q=>Q [] H
  | (tk,tv) :: r,σ,H,Q=>tk σ H fun x H1=>tv σ H1 fun y H2=>tPairs r σ H2 fun ps H3=>Q ((x,y) :: ps) H3
abbrev VV : List (V × V) → List (Value × Value) → Prop:=Paired fun p q=>RelV p.1 q.1 ∧ RelV p.2 q.2
def PPs (X : Cx) (pos : Pos) (keys : List (Option Expr)) (values : List Expr) (trs : List (TE × TE)) : Prop :=
  ∀ (pins : List (Addr × Obj)) (s : Shared) (σ : St) (H : Hp) (Q : List (V × V) → Hp → Prop),Inv X pins σ H s → tPairs trs σ H Q →
    wpAny (model X.prog X.w) X.A (evalPairs (pairTrees keys values X.env pos)) (fun vs s'=>∃ ps H',Inv X pins σ H' s' ∧ VV ps vs ∧ Q ps H') X.xe s
theorem pps_nil {X : Cx} {pos : Pos} : PPs X pos [] [] []:=fun pins s σ H Q I h=>pairTrees_nil_walk ⟨[],H,I,.nil,h⟩
theorem pps_cons {X : Cx} {pos : Pos} {k v : Expr} {ks : List (Option Expr)} {vs : List Expr} {tk tv : TE} {trs : List (TE × TE)} (hk : PE X k tk) (hv : PE X v tv) (hr : PPs X pos ks vs trs) :
    PPs X pos (some k :: ks) (v :: vs) ((tk,tv) :: trs):=fun pins s σ H Q I h =>
  pairTrees_cons_walk (thn (hk pins s σ H _ I h) fun u s1 ⟨x,H1,I1,rx,q1⟩=>thn (hv pins s1 σ H1 _ I1 q1) fun w2 s2 ⟨y,H2,I2,ry,q2⟩ =>
    thn (hr pins s2 σ H2 _ I2 q2) fun ws s3 ⟨ps,H3,I3,rel,q3⟩=>⟨(x,y) :: ps,H3,I3,.cons ⟨rx,ry⟩ rel,q3⟩)
structure M1 (X : Cx) (o : Expr) (m : Str) (apos : Pos) (e : Expr) (cpos : Pos) : Prop where
  base : attributeBase o m X.env (eval o X.env) = eval o X.env
  few : ((backTo cpos (starEach [e] X.env)).all (fun x=>!x.1) && (backToKw cpos (keywordEach [] X.env)).all (fun x=>x.1.isSome)
    && decide (([e] : List Expr).length + ([] : List Keyword).length + (if ([] : List Keyword).isEmpty then 0 else 1) < 30)) = true
  line : (apos.endLine == cpos.line) = true
  trees : backTo cpos (starEach [e] X.env) = [(false,eval e X.env)]
structure M2 (X : Cx) (o : Expr) (m : Str) (apos : Pos) (e f : Expr) (cpos : Pos) : Prop where
  base : attributeBase o m X.env (eval o X.env) = eval o X.env
  few : ((backTo cpos (starEach [e,f] X.env)).all (fun x=>!x.1) && (backToKw cpos (keywordEach [] X.env)).all (fun x=>x.1.isSome)
    && decide (([e,f] : List Expr).length + ([] : List Keyword).length + (if ([] : List Keyword).isEmpty then 0 else 1) < 30)) = true
  line : (apos.endLine == cpos.line) = true
  trees : backTo cpos (starEach [e,f] X.env) = [(false,eval e X.env),(false,eval f X.env)]
def IsD (H : Hp) (a : Addr) : Prop:=(∃ kvs,Rd H a (.dK kvs)) ∨ ∃ kvs,Rd H a (.dT kvs)
theorem isD_at {X : Cx} {pins : List (Addr × Obj)} {σ : St} {H : Hp} {s : Shared} {a : Addr} (I : Inv X pins σ H s) (d : IsD H a) :
    s.TypeIs (.ref a) "dict" ∧ (∀ b,Value.ref a = .ref b → ∃ ob,s.heap.get? b = some ob ∧ ob.dict = none) ∧ (a == sysModules) = false:=by
  rcases d with ⟨kvs,e⟩ | ⟨kvs,e⟩
  · obtain ⟨_,hd,vs,_,dd⟩:=dk_rd I.hok e
    refine ⟨dd.typeIs,fun b q=>?_,hd⟩
    cases q
    obtain ⟨ob,_,_,h1,h2,_⟩:=dd
    exact ⟨ob,h1,h2.2.1⟩
  · obtain ⟨_,hd,xs,_,dd⟩:=dt_rd I.hok e
    refine ⟨dd.typeIs,fun b q=>?_,hd⟩
    cases q
    obtain ⟨ob,_,_,h1,h2,_⟩:=dd
    exact ⟨ob,h1,h2.2.1⟩
section
variable {X : Cx} {pins : List (Addr × Obj)} {σ : St} {H : Hp} {s : Shared} {a : Addr} {y d : V} {u r : Value} {o : Option V} {A : Around} {E : Value → Shared → Prop}
theorem d_get2 {Q : Value → Shared → Prop} (hu : A.units + 1 < cLine) (I : Inv X pins σ H s) (g : DGet H a y o) (ry : RelV y u) (rd : RelV d r) (h : ∀ w' s',Inv X pins σ H s' → RelV (o.getD d) w' → Q w' s') :
    wpAny (model X.prog X.w) A (call (.builtin "dict.get") [.ref a,u,r]) Q E s:=by
  rcases g with ⟨kvs,k,e,ey,l⟩ | ⟨kvs,k,b,e,ey,eb,l⟩
  · subst ey
    obtain ⟨z,hd,vs,rel,dd⟩:=dk_rd I.hok e
    refine call_meetsIn PySem.F.slot_dict_get dd.typeIs PySem.F.entry_dict_get (PySem.F.args_dict_get_3 _ _ _) (meets_dict_get_default (mixKind X.prog X.w) a (kV_is ry) hd r) ⟨_,dd.mapOf,h _ _ (I.tok _) ?_⟩
    rw [l]
    exact (rel.val k).getD rd
  · subst ey
    cases (show u = Value.ref b from ry)
    obtain ⟨z,hd,xs,rel,dd⟩:=dt_rd I.hok e
    refine call_meetsIn PySem.F.slot_dict_get dd.typeIs PySem.F.entry_dict_get (PySem.F.args_dict_get_3 _ _ _) (meetsH_dict_get_default (tupleKind (mixKind X.prog X.w)) a b hd r) ⟨tupleKind_room_in1 hu,k,xs,key_of I.hok eb,dd,h _ _ (I.tok _) ?_⟩
    rw [l]
    exact (rel.val k).getD rd
end
def tDGet2 (td ty tx : TE) : TE:=fun σ H Q=>td σ H fun x H1=>∃ a,x = .ref a ∧ IsD H1 a ∧ ty σ H1 fun y H2=>tx σ H2 fun z H3=>∃ o,DGet H3 a y o ∧ Q (o.getD z) H3
section
variable {X : Cx} {o e f : Expr} {apos cpos : Pos} {td ty tx : TE}
theorem pe_dget2 (hu : X.A.units + 1 < cLine) (ho : PE X o td) (he : PE X e ty) (hf : PE X f tx) (m : M2 X o "get" apos e f cpos) : PE X (.Call (.Attribute o "get" apos) [e,f] [] cpos) (tDGet2 td ty tx):=by
  intro pins s σ H Q I h
  refine wpAny_Call_method m.base m.few m.line PySem.F.plainAttrs_dict PySem.F.slot_dict_get PySem.F.type_dict_get (thn (ho pins s σ H _ I h) fun u s1 ⟨x,H1,I1,rx,a,ex,d,q1⟩=>?_)
  subst ex
  obtain rfl : u = Value.ref a:=rx
  obtain ⟨t1,t2,_⟩:=isD_at I1 d
  refine ⟨t1,t2,?_⟩
  rw [m.trees]
  refine Calls.callWith_builtin rfl (Calls.evalArgs_plain (Calls.spliced_cons (thn (he pins s1 σ H1 _ I1 q1) fun iv s2 ⟨y,H2,I2,ry,q2⟩ =>
    Calls.spliced_cons (thn (hf pins s2 σ H2 _ I2 q2) fun fv s3 ⟨z,H3,I3,rz,ov,g,q3⟩=>Calls.spliced_nil ?_))))
  exact d_get2 hu I3 g ry rz fun w' s4 I4 rw'=>⟨_,H3,I4,rw',q3⟩
end
section
variable {X : Cx} {pins : List (Addr × Obj)} {σ : St} {H : Hp} {s : Shared} {a : Addr} {kvs : List (Key × V)} {A : Around} {E : Value → Shared → Prop}
end
section
variable {X : Cx} {pins : List (Addr × Obj)} {σ : St} {H : Hp} {s : Shared} {a : Addr} {y : V} {u : Value} {A : Around} {E : Value → Shared → Prop}
end
end L2
namespace L2
open PySem PySem.Spec PyProof.Rows
section
variable {prog : Program} {w : World} {A : Around} {E : Value → Shared → Prop}
end
section
variable {X : Cx}
end
end L2
namespace L2
open PySem PySem.Spec PyProof.Rows
section
variable {X : Cx} {pins : List (Addr × Obj)} {σ : St} {H : Hp} {s : Shared} {h' : Heap}
theorem Inv.lock {d : Addr} {u : HO} (I : Inv X pins σ H s) (h : H d = some u) (mu : Mut (some u)) : ∃ od,Inv X pins σ (upd H d (.frz od u)) s:=by
  have x:=I.hok d u h
  have ex : ∃ od,s.heap.get? d = some od:=by
    cases u with
    | lst xs=>obtain ⟨_,_,_,_,e⟩:=x; exact ⟨_,e⟩
    | dK kvs=>obtain ⟨_,_,_,_,o,_,_,e,_⟩:=x; exact ⟨o,e⟩
    | dT kvs=>obtain ⟨_,_,_,_,o,_,_,e,_⟩:=x; exact ⟨o,e⟩
    | set S n=>obtain ⟨o,_,_,_,e,_⟩:=x; exact ⟨o,e⟩
    | ins C dx fs=>obtain ⟨_,_,_,e,_⟩:=x; exact ⟨_,e⟩
    | ext φ=>obtain ⟨_,⟨_,e⟩,_⟩:=x; exact ⟨_,e⟩
    | _=>exact False.elim mu
  obtain ⟨od,e⟩:=ex
  have new : ObjOk X.prog X.w (upd H d (.frz od u)) s.heap d (.frz od u):=by
    refine ⟨e,x.stay (fun b v _ q=>q) (fun b q=>?_) fun b xs q=>?_⟩
    · rw [upd_ne (fun z=>by rw [z,h] at q; cases q; exact mu)]; exact q
    · rw [upd_ne (fun z=>by rw [z,h] at q; cases q; exact mu)]; exact q
  exact ⟨od,I.write (x:=d) (e:=d) (t':=s.toks) (h':=s.heap) (by rw [h]; exact mu) (.inl rfl) (fun b v _ q=>q) ⟨od,e⟩ new⟩
theorem Inv.nofrz {d : Addr} {u : HO} (I : Inv X pins σ H s) (h : H d = some u) (mu : Mut (some u)) : ∀ o' u',X.H_0 d ≠ some (.frz o' u'):=fun o' u' e=>by
  have q:=I.base.frzs d o' u' e
  rw [h] at q
  cases q
  exact mu
theorem Inv.unlock {d : Addr} {od : Obj} {u : HO} (I : Inv X pins σ H s) (h : H d = some (.frz od u)) (hn : ∀ o' u',X.H_0 d ≠ some (.frz o' u')) : Inv X pins σ (upd H d u) s:=by
  have neH : ∀ b o,H b = some o → (∀ o' u',o ≠ .frz o' u') → b ≠ d:=fun b o e hne z=>by
    rw [z,h] at e
    cases e
    exact hne _ _ rfl
  have neN : ∀ b,H b = none → b ≠ d:=fun b e z=>by rw [z,h] at e; cases e
  refine ⟨I.ok,I.os,I.bare,⟨I.base.keep,I.base.slot,fun b o e n hx=>?_,I.base.there,fun b xs e=>?_,fun b o x e=>?_,fun b ps e=>?_⟩,I.loc,I.cell,?_,fun x c e=>?_,fun p hp=>?_,fun b o e=>?_,I.len⟩
  · rw [upd_ne (neN b (I.base.free b o e n hx))]; exact I.base.free b o e n hx
  · have q:=I.base.tups b xs e
    rw [upd_ne (neH b _ q (fun _ _ z=>nomatch z))]; exact q
  · have q:=I.base.frzs b o x e
    rw [upd_ne (fun z=>by rw [z] at e; exact hn _ _ e)]; exact q
  · obtain ⟨m,q⟩:=I.base.tbls b ps e
    exact ⟨m,by rw [upd_ne (neH b _ q (fun _ _ z=>nomatch z))]; exact q⟩
  · rw [upd_ne (neN _ I.free)]; exact I.free
  · rw [upd_ne (neN c (I.freeC x c e))]; exact I.freeC x c e
  · obtain ⟨e,n,r⟩:=I.pin p hp
    exact ⟨e,by rw [upd_ne (neN _ n)]; exact n,r⟩
  · by_cases hb : b = d
    · rw [hb,upd_same] at e
      cases e
      rw [hb]
      obtain ⟨_,x⟩:=I.hok d _ h
      exact x.stay (fun c v _ q=>q) (fun c q=>by rw [upd_ne (neH c _ q (fun _ _ z=>nomatch z))]; exact q) fun c xs q=>by rw [upd_ne (neH c _ q (fun _ _ z=>nomatch z))]; exact q
    · rw [upd_ne hb] at e
      exact (I.hok b o e).stay (fun c v _ q=>q) (fun c q=>by rw [upd_ne (neH c _ q (fun _ _ z=>nomatch z))]; exact q) fun c xs q=>by rw [upd_ne (neH c _ q (fun _ _ z=>nomatch z))]; exact q
end
def tLock (t : TS) : TS:=fun D σ H=>∃ d u,H d = some u ∧ Mut (some u) ∧ ∀ od,t ⟨fun σ' H'=>H' d = some (.frz od u) ∧ D.nx σ' (upd H' d u),fun v H'=>H' d = some (.frz od u) ∧ D.rt v (upd H' d u),fun σ' H'=>H' d = some (.frz od u) ∧ D.bk σ' (upd H' d u),fun σ' H'=>H' d = some (.frz od u) ∧ D.ct σ' (upd H' d u)⟩ σ (upd H d (.frz od u))
section
variable {X : Cx}
theorem ps_lock {st : Stmt} {t : TS} (h : PS X st t) : PS X st (tLock t):=by
  intro pins s σ H D I hw
  obtain ⟨d,u,hd,mu,hw⟩:=hw
  obtain ⟨od,I1⟩:=I.lock hd mu
  refine thn (h pins s σ _ _ I1 (hw od)) fun f s1 q=>?_
  cases f with
  | next=>obtain ⟨σ',H',I2,e,q⟩:=q; exact ⟨σ',_,I2.unlock e (I.nofrz hd mu),q⟩
  | brk=>obtain ⟨σ',H',I2,e,q⟩:=q; exact ⟨σ',_,I2.unlock e (I.nofrz hd mu),q⟩
  | cont=>obtain ⟨σ',H',I2,e,q⟩:=q; exact ⟨σ',_,I2.unlock e (I.nofrz hd mu),q⟩
  | ret v=>obtain ⟨x,σ',H',I2,r,e,q⟩:=q; exact ⟨x,σ',_,I2.unlock e (I.nofrz hd mu),r,q⟩
theorem pi_one {tg : Expr} {pins : List (Addr × Obj)} {σ : St} {H : Hp} {s : Shared} {R : It → Hp → Prop} {J : It} {tn : Nat → Heap → Prop} {tk : Nat} (I : Inv X pins σ H s) (o : Obj)
    (T : Turn X.prog X.w X.K tg J [s.heap.objs.size] s.heap.objs.size tn) (st : tn 0 (s.heap.push o)) (q : R J H) : PIE X pins σ tg R (.ref s.heap.objs.size) { s with heap:=s.heap.push o,toks:=tk }:=by
  refine ⟨s.heap.objs.size,[s.heap.objs.size],tn,J,H,rfl,I.kept fun b ob e=>Heap.get?_push_of_some _ e,T,st,fun b hb=>?_,q⟩
  have e : b = s.heap.objs.size:=by simpa using hb
  subst e
  exact I.fpOk (Nat.le_refl _) (I.hok.fresh (Nat.le_refl _))
end
def Itc (lo c : Int) (n : Nat) : It:=⟨fun i _=>i < n,fun i H x H'=>H' = H ∧ x = .int (lo + (i : Nat) * c),fun i _=>n ≤ i⟩
theorem turn_rangeC {P : Program} {w : World} {K : PySem.W.Frag} {tg : Expr} (it : Addr) (lo c : Int) (n : Nat) : Turn P w K tg (Itc lo c n) [it] it (fun i h=>IsRangeIter h it (lo + (i : Nat) * c) ((n : Int) - (i : Nat)) c) where
  mem:=by simp
  obj:=fun i h st b hb=>by
    have e : b = it:=by simpa using hb
    subst e
    exact ⟨_,st,fun v z=>nomatch z⟩
  keep:=fun i h h' st k=>k it (by simp) _ st
  item:=by
    intro X hP hw hK hc i pins s σ H E I hf st hg
    subst hP hw hK
    obtain ⟨f0,f1,f2,f3,f4,f5⟩:=hf it (by simp)
    have W:=Walks.range (prog:=X.prog) (w:=X.w) (I.ok.hd hc) it lo c n
    refine W.item i s _ _ hg st fun v h' tk hv st' kk=>?_
    obtain ⟨t,rfl⟩:=hv
    have I1 : Inv X pins σ H { s with heap:=h',toks:=tk }:=I.turned (fun b o hb e=>kk b o (by simpa using hb) e) f0 f1 f3 f4 f5
    exact ⟨_,rfl,go_of (s:={ s with heap:=h',toks:=tk }) (n:="range_iterator") st' rfl rfl (by decide) ⟨.int (lo + (i : Nat) * c),H,I1,⟨t,rfl⟩,⟨rfl,rfl⟩,st',fun b hb=>(hf b hb).1⟩⟩
  done:=by
    intro X hP hw hK hc i pins s σ H E I hf st hg
    subst hP hw hK
    obtain ⟨f0,f1,f2,f3,f4,f5⟩:=hf it (by simp)
    exact wpAny_pyNext_range_end (I.ok.hd hc) st (by have : n ≤ i:=hg; omega) fun h' eb=>⟨rfl,I.turned (t':=s.toks) (fun b o hb e=>eb b o hb e) f0 f1 f3 f4 f5⟩
  self:=fun A i s Q E st h=>wpAny_pyIter_rangeiter st h
def RgC (i j c : Int) (n : Nat) : Prop:=c ≠ 0 ∧ c.natAbs < 1073741824 ∧ Builtin.Range.small i j c = true ∧ Builtin.Range.rangeSize i j c = n
def iRng3 (ta : TA) : TI:=fun σ H R=>ta σ H fun vs H1=>∃ (i j c : Int) (n : Nat),vs = [.int i,.int j,.int c] ∧ RgC i j c n ∧ R (Itc i c n) H1
section
variable {X : Cx} {tg : Expr}
theorem pi_range3 {a b c : Expr} {ta : TA} {p pos : Pos} (hg : Gl X "range") (hm : X.mg "range" = none) (ha : PA X [a,b,c] ta)
    (hs : starEach [a,b,c] X.env = (false,eval a X.env) :: starEach [b,c] X.env:=by rfl) (hpl : (backTo pos (starEach [b,c] X.env)).any (·.1) = false:=by rfl) :
    PI X tg (.Call (.Name "range" p) [a,b,c] [] pos) (iRng3 ta):=by
  intro pins s σ H R I h
  refine Call_ (ld_blt I hg hm boot_range (PyProof.Rows.callWith_type1 (thn (ha pos pins s σ H _ I h) fun us s1 ⟨vs,H1,I1,r1,q1⟩=>?_) hs hpl))
  obtain ⟨i,j,k,n,e,⟨c0,c1,c2,c3⟩,q⟩:=q1
  subst e
  cases r1 with
  | cons r rr =>
    cases rr with
    | cons r' rr =>
      cases rr with
      | cons r'' rr =>
        cases rr
        obtain ⟨t,rfl⟩:=r
        obtain ⟨t',rfl⟩:=r'
        obtain ⟨t'',rfl⟩:=r''
        refine call_range_3 c0 ?_ (.inl (PyProof.noPylong_small c1))
        refine wpAny_pyIter_range (IsRange.new ..) c2 ?_
        have I2 : Inv X pins σ H1 { s1 with heap:=s1.heap.push { cls:=.type "range",data:=.fields #[.int i t,.int j t',.int k t''] } }:=I1.kept (t':=s1.toks) fun b o e=>Heap.get?_push_of_some _ e
        refine pi_one (tk:=s1.toks) I2 _ (turn_rangeC _ i k n) ?_ q
        have e1 : i + ((0 : Nat) : Int) * k = i:=by simp
        have e2 : (n : Int) - ((0 : Nat) : Int) = Builtin.Range.rangeSize i j k:=by rw [c3]; simp
        show IsRangeIter _ _ (i + ((0 : Nat) : Int) * k) ((n : Int) - ((0 : Nat) : Int)) k
        rw [e1,e2]
        exact Heap.get?_push_size _ rfl
end
theorem for_rangeC {lo c : Int} {n : Nat} {g : TG} {tb : TS} {D : Ends} {σ : St} {H : Hp} (Pv : Nat → St → Hp → Prop) (h0 : Pv 0 σ H)
    (hs : ∀ i σ H,i < n → Pv i σ H → g (.int (lo + (i : Nat) * c)) σ H fun σ2 H2=>tb { D with nx:=Pv (i + 1),ct:=Pv (i + 1),bk:=D.nx } σ2 H2) (hd : ∀ σ H,Pv n σ H → D.nx σ H) :
    ∃ W : Nat → Nat → St → Hp → Prop,(∃ m,W 0 m σ H) ∧ ∀ i m σ H,W i m σ H →
      ((Itc lo c n).stop i H ∧ D.nx σ H) ∨ ((Itc lo c n).go i H ∧ ∃ N : St → Hp → Prop,(∀ σ' H',N σ' H' → ∃ m',m' < m ∧ W (i + 1) m' σ' H') ∧ ∀ x H',(Itc lo c n).yld i H x H' → g x σ H' fun σ2 H2=>tb { D with nx:=N,ct:=N,bk:=D.nx } σ2 H2):=by
  refine ⟨fun i m σ H=>m = n - i ∧ i ≤ n ∧ Pv i σ H,⟨n,by simp,Nat.zero_le _,h0⟩,?_⟩
  rintro i m σ H ⟨rfl,hi,p⟩
  by_cases hlt : i < n
  · refine .inr ⟨hlt,Pv (i + 1),fun σ' H' p'=>⟨n - (i + 1),by omega,rfl,hlt,p'⟩,fun x H' y=>?_⟩
    obtain ⟨e,y⟩:=y
    subst e y
    exact hs i σ _ hlt p
  · have e : i = n:=by omega
    subst e
    exact .inl ⟨Nat.le_refl _,hd σ H p⟩
section
variable {X : Cx} {tg : Expr}
end
section
variable {prog : Program} {w : World} {A : Around} {E : Value → Shared → Prop} {s : Shared}
theorem iter_keys {d : Addr} {o : Obj} {es : Array DictEntry} {ep : Nat} {Q : Value → Shared → Prop} (hd : (d == sysModules) = false) (ho : s.heap.get? d = some o) (hc : o.ExactDict) (hdat : o.data = .dict es ep)
    (hQ : Q (.ref s.heap.objs.size) { s with heap:=s.heap.push { cls:=.type "dict_keyiterator",data:=.fields #[.ref d,.int 0 0,.int es.size 0,.int ep 0] } }) :
    wpAny (model prog w) A (pyIter (.ref d)) Q E s:=by
  have hT : s.TypeIs (.ref d) "dict":=⟨o,ho,hc.1⟩
  refine wpAny_pyIter_slot hT F.slot_dict_iter (wpAny_call_entry F.slot_dict_iter hT F.entry_dict_iter ?_ (F.args_dict_iter_1 _))
  unfold Builtin.«dict.__iter__»
  refine wpAny_bind ?_
  unfold Builtin.Dict.dictSlotNone
  refine wpAny_bind (wpAny_notOrdered_dict hT ?_)
  show wpAny _ _ (pure (Value.ref d)) _ _ s
  refine wpAny_pure ?_
  show wpAny _ _ (Builtin.Dict.showsAll d >>= _) _ _ s
  unfold Builtin.Dict.showsAll
  rw [if_neg (by rw [hd]; exact Bool.false_ne_true)]
  refine wpAny_bind (wpAny_pure ?_)
  refine wpAny_bind (wpAny_dictEntries ho hdat ?_)
  refine wpAny_bind (wpAny_dictEpoch ho hdat ?_)
  refine wpAny_bind (wpAny_newObj_type (wpAny_pure ⟨_,rfl,"dict_keyiterator",_,⟨_,Heap.get?_push_size _ rfl,rfl⟩,F.slot_dict_keyiterator_next.lookup,?_⟩))
  simpa [rawInt] using hQ
theorem next_key_item {it d : Addr} {i n ep : Nat} {od : Obj} {es : Array DictEntry} {en : DictEntry} {Q : Option Value → Shared → Prop} (hit : s.heap.IsKeyIter it d i n ep) (hod : s.heap.get? d = some od) (hdd : od.data = .dict es ep)
    (hsz : es.size = n) (hx : es[i]? = some en) (hQ : ∀ h',h'.IsKeyIter it d (i + 1) n ep → Heap.SameBut it s.heap h' → Q (some en.key) { s with heap:=h' }) : wpAny (model prog w) A (pyNext (.ref it)) Q E s:=by
  obtain ⟨o,ho,hc,hd⟩:=id hit
  unfold pyNext
  refine wpAny_bind (wpAny_attempt (wpAny_callSpecial?_slot (name:=Str.ofString "__next__") hit.typeIs F.slot_dict_keyiterator_next
    (wpAny_call_entry F.slot_dict_keyiterator_next hit.typeIs F.entry_dict_keyiterator_next ?_ (F.args_dict_keyiterator_next_1 _))))
  refine wpAny_bind (wpAny_pure ?_)
  refine wpAny_bind ?_
  refine wpAny_bind ?_
  first | refine wpAny_bind (wpAny_typeNameOfWhole_keyiter hit.typeIs (wpAny_pure ?_)) | refine wpAny_bind (wpAny_typeNameOf_keyiter hit.typeIs (wpAny_pure ?_))
  refine wpAny_bind (wpAny_fieldsOf ho hd ?_)
  have hown : Builtin.Dict_items.ownsTuple "dict_keyiterator" = false:=by decide
  simp only [hown,Bool.false_eq_true,if_false]
  show wpAny _ _ (if (Value.ref d == Value.none) = true then _ else _) _ _ s
  rw [if_neg (show ¬ ((Value.ref d == Value.none) = true) from Bool.false_ne_true)]
  refine wpAny_bind (wpAny_pure ?_)
  refine wpAny_bind (wpAny_dictEntries hod hdd ?_)
  rw [if_neg (by rw [hsz]; simp)]
  refine wpAny_bind (wpAny_pure ?_)
  refine wpAny_bind (wpAny_dictEpoch hod hdd ?_)
  rw [if_neg (by simp)]
  refine wpAny_pure ?_
  obtain ⟨hlt',hen⟩:=Array.getElem?_eq_some_iff.mp hx
  simp only [show ¬ ((i : Int) < 0) from by omega,if_false,Int.toNat_natCast,Array.getElem?_eq_getElem hlt']
  refine wpAny_bind ?_
  first | refine wpAny_bind (wpAny_typeNameOfWhole_keyiter hit.typeIs (wpAny_pure ?_)) | refine wpAny_bind (wpAny_typeNameOf_keyiter hit.typeIs (wpAny_pure ?_))
  refine wpAny_bind (wpAny_isOneOf_keyiter hit.typeIs ?_)
  show wpAny _ _ (setField (.ref it) 1 (rawInt ((i : Int) + 1)) >>= _) _ _ s
  refine wpAny_bind (wpAny_setField ho hd (by simp) ?_)
  have hit' : (s.heap.update it (Obj.mapFields (·.setIfInBounds 1 (rawInt ((i : Int) + 1))))).IsKeyIter it d (i + 1) n ep :=
    ⟨_,Heap.get?_update_self _ ho (Obj.isFreed_of_fields (Obj.data_mapFields hd _)),(Obj.cls_mapFields ..).trans hc,by rw [Obj.data_mapFields hd]; simp [rawInt]⟩
  refine wpAny_bind (wpAny_holding ?_)
  refine wpAny_bind (wpAny_isOneOf_keyiter (s:={ s with heap:=s.heap.update it (Obj.mapFields (·.setIfInBounds 1 (rawInt ((i : Int) + 1)))) }) hit'.typeIs ?_)
  show wpAny _ _ (pure es[i].key) _ _ _
  rw [hen]
  exact wpAny_pure (wpAny_pure ⟨_,rfl,wpAny_pure (hQ _ hit' (Heap.SameBut.update ..))⟩)
theorem next_key_end {it d : Addr} {i n ep : Nat} {od : Obj} {es : Array DictEntry} {Q : Option Value → Shared → Prop} (hh : A.handled = none) (hit : s.heap.IsKeyIter it d i n ep) (hod : s.heap.get? d = some od) (hdd : od.data = .dict es ep)
    (hsz : es.size = n) (hge : n ≤ i) (hQ : ∀ h',Heap.ExtBut it s.heap h' → Q none { s with heap:=h' }) : wpAny (model prog w) A (pyNext (.ref it)) Q E s:=by
  obtain ⟨o,ho,hc,hd⟩:=id hit
  unfold pyNext
  refine wpAny_bind (wpAny_attempt (wpAny_callSpecial?_slot (name:=Str.ofString "__next__") hit.typeIs F.slot_dict_keyiterator_next
    (wpAny_call_entry F.slot_dict_keyiterator_next hit.typeIs F.entry_dict_keyiterator_next ?_ (F.args_dict_keyiterator_next_1 _))))
  refine wpAny_bind (wpAny_pure ?_)
  refine wpAny_bind ?_
  refine wpAny_bind ?_
  first | refine wpAny_bind (wpAny_typeNameOfWhole_keyiter hit.typeIs (wpAny_pure ?_)) | refine wpAny_bind (wpAny_typeNameOf_keyiter hit.typeIs (wpAny_pure ?_))
  refine wpAny_bind (wpAny_fieldsOf ho hd ?_)
  have hown : Builtin.Dict_items.ownsTuple "dict_keyiterator" = false:=by decide
  simp only [hown,Bool.false_eq_true,if_false]
  show wpAny _ _ (if (Value.ref d == Value.none) = true then _ else _) _ _ s
  rw [if_neg (show ¬ ((Value.ref d == Value.none) = true) from Bool.false_ne_true)]
  refine wpAny_bind (wpAny_pure ?_)
  refine wpAny_bind (wpAny_dictEntries hod hdd ?_)
  rw [if_neg (by rw [hsz]; simp)]
  refine wpAny_bind (wpAny_pure ?_)
  refine wpAny_bind (wpAny_dictEpoch hod hdd ?_)
  rw [if_neg (by simp)]
  refine wpAny_pure ?_
  have hge' : es.size ≤ i:=by rw [hsz]; exact hge
  simp only [show ¬ ((i : Int) < 0) from by omega,if_false,Int.toNat_natCast,Array.getElem?_eq_none hge']
  refine wpAny_bind ?_
  first | refine wpAny_bind (wpAny_typeNameOfWhole_keyiter hit.typeIs (wpAny_pure ?_)) | refine wpAny_bind (wpAny_typeNameOf_keyiter hit.typeIs (wpAny_pure ?_))
  show wpAny _ _ (setField (.ref it) 0 .none >>= _) _ _ s
  refine wpAny_bind (wpAny_setField ho hd (by simp) ?_)
  show wpAny _ _ (newExc (.type "StopIteration") [] >>= _) _ _ _
  refine wpAny_bind ?_
  simp only [newExc,newTuple]
  refine wpAny_bind (wpAny_newObj_type ?_ (by size_fits))
  refine wpAny_bind (m:=firstArgMember _ _) (wpAny_of_eq (a:=Value.none) (by first | rfl | (simp only [firstArgMember]; rfl)) ?_)
  refine wpAny_newObj_type ?_ (by size_fits)
  simp only [raiseNew]
  refine wpAny_bind (wpAny_handled ?_)
  rw [show A.in1.handled = none from hh]
  refine wpAny_bind (wpAny_pure (wpAny_throw ?_))
  refine wpAny_bind (wpAny_isInstance (T:="StopIteration") (b:=true) ⟨_,Heap.get?_push_size _ rfl,rfl⟩ isSubtype_stop ?_)
  exact wpAny_pure (hQ _ (((Heap.SameBut.update ..).extBut.push _).push _))
end
theorem kv_get {κ : Type} {kvs : List (κ × V)} {vs : List (κ × Value)} (h : KV kvs vs) : ∀ {i : Nat} {k : κ} {v : V},kvs[i]? = some (k,v) → ∃ u,vs[i]? = some (k,u) ∧ RelV v u:=by
  unfold KV at h
  induction h with
  | nil=>intro i k v e; simp at e
  | @cons a b l₁ l₂ r t ih =>
    intro i k v e
    cases i with
    | zero =>
      simp only [List.getElem?_cons_zero,Option.some.injEq] at e
      subst e
      refine ⟨b.2,?_,r.2⟩
      simp only [List.getElem?_cons_zero]
      exact congrArg some (Prod.ext r.1.symm rfl)
    | succ j =>
      simp only [List.getElem?_cons_succ] at e ⊢
      exact ih e
theorem paired_get {α β : Type} {G : α → β → Prop} {l₁ : List α} {l₂ : List β} (h : Paired G l₁ l₂) : ∀ {i : Nat} {a : α},l₁[i]? = some a → ∃ b,l₂[i]? = some b ∧ G a b:=by
  induction h with
  | nil=>intro i a e; simp at e
  | @cons a b l₁ l₂ r t ih =>
    intro i a' e
    cases i with
    | zero =>
      simp only [List.getElem?_cons_zero,Option.some.injEq] at e
      subst e
      exact ⟨b,rfl,r⟩
    | succ j =>
      simp only [List.getElem?_cons_succ] at e ⊢
      exact ih e
theorem relV_key {k : Key} {u : Value} (h : keyIs k u = true) : RelV (kV k) u:=by
  rcases keyIs_shape h with ⟨i,t,rfl,rfl⟩ | ⟨x,t,rfl,rfl⟩
  · exact ⟨t,rfl⟩
  · exact ⟨t,rfl⟩
section
variable {X : Cx} {pins : List (Addr × Obj)} {σ : St} {H : Hp} {s : Shared} {d : Addr} {o : Obj}
theorem Inv.frzK {kvs : List (Key × V)} (I : Inv X pins σ H s) (h : H d = some (.frz o (.dK kvs))) :
    (d == sysModules) = false ∧ s.heap.get? d = some o ∧ o.ExactDict ∧ ∃ (es : Array DictEntry) (ep : Nat) (vs : List (Key × Value)),o.data = .dict es ep ∧ es.size = kvs.length ∧ KV kvs vs ∧ s.heap.DictAt (mixKind X.prog X.w) d vs ep:=by
  obtain ⟨hd,z,hs,vs,kv,o',es,ep,ho,hx,hdt,r⟩:=I.hok d _ h
  rw [hd] at ho
  cases ho
  refine ⟨hs,hd,hx,es,ep,vs,hdt,?_,kv,o,es,hd,hx,hdt,r⟩
  have l1:=r.2.1.length
  have l2 : kvs.length = vs.length:=Paired.length kv
  rw [Array.length_toList] at l1
  omega
theorem Inv.frzT {kvs : List (List Key × V)} (I : Inv X pins σ H s) (h : H d = some (.frz o (.dT kvs))) :
    (d == sysModules) = false ∧ s.heap.get? d = some o ∧ o.ExactDict ∧ ∃ (es : Array DictEntry) (ep : Nat),o.data = .dict es ep ∧ es.size = kvs.length ∧
      ∀ (i : Nat) (k : List Key) (v : V),kvs[i]? = some (k,v) → ∃ (en : DictEntry) (q : Addr),es[i]? = some en ∧ en.key = .ref q ∧ H q = some (.tup (k.map kV)):=by
  obtain ⟨hd,z,hs,xs,pr,o',es,ep,ho,hx,hdt,he,_⟩:=I.hok d _ h
  rw [hd] at ho
  cases ho
  refine ⟨hs,hd,hx,es,ep,hdt,?_,fun i k v e=>?_⟩
  · have l1 : es.size = xs.length:=size_of_entries he
    have l2 : kvs.length = xs.length:=Paired.length pr
    omega
  · obtain ⟨b,hb,e1,e2,_⟩:=paired_get pr e
    have q:=entry_at he i
    rw [hb] at q
    exact ⟨_,b.2.1,q,rfl,e2⟩
end
def Itk (d : Addr) (o : Obj) (kvs : List (Key × V)) : It :=
  ⟨fun i H=>H d = some (.frz o (.dK kvs)) ∧ i < kvs.length,fun i H x H'=>H' = H ∧ ∃ k v,kvs[i]? = some (k,v) ∧ x = kV k,fun i H=>H d = some (.frz o (.dK kvs)) ∧ kvs.length ≤ i⟩
def Itkt (d : Addr) (o : Obj) (kvs : List (List Key × V)) : It :=
  ⟨fun i H=>H d = some (.frz o (.dT kvs)) ∧ i < kvs.length,fun i H x H'=>H' = H ∧ ∃ (k : List Key) (v : V) (q : Addr),kvs[i]? = some (k,v) ∧ x = .ref q ∧ H q = some (.tup (k.map kV)),fun i H=>H d = some (.frz o (.dT kvs)) ∧ kvs.length ≤ i⟩
theorem dict_ep {o : Obj} {es es' : Array DictEntry} {ep ep' : Nat} (h : o.data = .dict es ep) (h' : o.data = .dict es' ep') : es' = es ∧ ep' = ep:=by
  rw [h] at h'
  cases h'
  exact ⟨rfl,rfl⟩
section
variable {P : Program} {w : World} {K : PySem.W.Frag} {tg : Expr} {d : Addr} {o : Obj} {es : Array DictEntry} {ep : Nat}
theorem turn_keys {kvs : List (Key × V)} (it : Addr) (hod : o.data = .dict es ep) : Turn P w K tg (Itk d o kvs) [it] it (fun i h=>h.IsKeyIter it d i kvs.length ep) where
  mem:=by simp
  obj:=fun i h st b hb=>by
    have e : b = it:=by simpa using hb
    subst e
    obtain ⟨oi,e,c,dd⟩:=st
    exact ⟨oi,e,fun v z=>by rw [dd] at z; cases z⟩
  keep:=fun i h h' st k=>st.at fun oi e=>k it (by simp) oi e
  item:=by
    intro X hP hw hK hc i pins s σ H E I hf st hg
    subst hP hw hK
    obtain ⟨hd,hi⟩:=hg
    obtain ⟨f0,f1,f2,f3,f4,f5⟩:=hf it (by simp)
    obtain ⟨hs,hgd,hx,es',ep',vs,hdt,hsz,kv,hm⟩:=I.frzK hd
    obtain ⟨rfl,rfl⟩:=dict_ep hod hdt
    obtain ⟨⟨k,v⟩,hkv⟩ : ∃ p,kvs[i]? = some p:=⟨kvs[i],List.getElem?_eq_getElem hi⟩
    obtain ⟨u,hu,ru⟩:=kv_get kv hkv
    have hl : kvs.length = vs.length:=Paired.length kv
    rw [hl] at st
    refine wpAny_pyNext_dict_item st hm hu fun key h' hkey st' sb=>?_
    have I1 : Inv X pins σ H { s with heap:=h' }:=I.turned (t':=s.toks) (fun b ob hb e=>(sb.2 b hb).trans e) f0 f1 f3 f4 f5
    obtain ⟨oi,e,c,dd⟩:=id st'
    refine ⟨key,rfl,go_of (s:={ s with heap:=h' }) e c dd (by decide) ⟨kV k,H,I1,relV_key (show keyIs k key = true from hkey),⟨rfl,k,v,hkv,rfl⟩,?_,fun b hb=>(hf b hb).1⟩⟩
    show h'.IsKeyIter it d (i + 1) kvs.length _
    rw [hl]
    exact st'
  done:=by
    intro X hP hw hK hc i pins s σ H E I hf st hg
    subst hP hw hK
    obtain ⟨hd,hi⟩:=hg
    obtain ⟨f0,f1,f2,f3,f4,f5⟩:=hf it (by simp)
    obtain ⟨hs,hgd,hx,es',ep',vs,hdt,hsz,kv,hm⟩:=I.frzK hd
    obtain ⟨rfl,rfl⟩:=dict_ep hod hdt
    exact next_key_end (I.ok.hd hc) st hgd hdt hsz hi fun h' eb=>⟨rfl,I.turned (t':=s.toks) (fun b ob hb e=>eb b ob hb e) f0 f1 f3 f4 f5⟩
  self:=fun A i s Q E st h=>wpAny_pyIter_keyiter st h
theorem turn_keysT {kvs : List (List Key × V)} (it : Addr) (hod : o.data = .dict es ep) : Turn P w K tg (Itkt d o kvs) [it] it (fun i h=>h.IsKeyIter it d i kvs.length ep) where
  mem:=by simp
  obj:=fun i h st b hb=>by
    have e : b = it:=by simpa using hb
    subst e
    obtain ⟨oi,e,c,dd⟩:=st
    exact ⟨oi,e,fun v z=>by rw [dd] at z; cases z⟩
  keep:=fun i h h' st k=>st.at fun oi e=>k it (by simp) oi e
  item:=by
    intro X hP hw hK hc i pins s σ H E I hf st hg
    subst hP hw hK
    obtain ⟨hd,hi⟩:=hg
    obtain ⟨f0,f1,f2,f3,f4,f5⟩:=hf it (by simp)
    obtain ⟨hs,hgd,hx,es',ep',hdt,hsz,ent⟩:=I.frzT hd
    obtain ⟨rfl,rfl⟩:=dict_ep hod hdt
    obtain ⟨⟨k,v⟩,hkv⟩ : ∃ p,kvs[i]? = some p:=⟨kvs[i],List.getElem?_eq_getElem hi⟩
    obtain ⟨en,q,hen,hkey,hq⟩:=ent i k v hkv
    refine next_key_item st hgd hdt hsz hen fun h' st' sb=>?_
    have I1 : Inv X pins σ H { s with heap:=h' }:=I.turned (t':=s.toks) (fun b ob hb e=>(sb.2 b hb).trans e) f0 f1 f3 f4 f5
    obtain ⟨oi,e,c,dd⟩:=id st'
    exact ⟨en.key,rfl,go_of (s:={ s with heap:=h' }) e c dd (by decide) ⟨.ref q,H,I1,hkey,⟨rfl,k,v,q,hkv,rfl,hq⟩,st',fun b hb=>(hf b hb).1⟩⟩
  done:=by
    intro X hP hw hK hc i pins s σ H E I hf st hg
    subst hP hw hK
    obtain ⟨hd,hi⟩:=hg
    obtain ⟨f0,f1,f2,f3,f4,f5⟩:=hf it (by simp)
    obtain ⟨hs,hgd,hx,es',ep',hdt,hsz,ent⟩:=I.frzT hd
    obtain ⟨rfl,rfl⟩:=dict_ep hod hdt
    exact next_key_end (I.ok.hd hc) st hgd hdt hsz hi fun h' eb=>⟨rfl,I.turned (t':=s.toks) (fun b ob hb e=>eb b ob hb e) f0 f1 f3 f4 f5⟩
  self:=fun A i s Q E st h=>by
    refine wpAny_pyIter_slot st.typeIs F.slot_dict_keyiterator_iter (wpAny_call_entry F.slot_dict_keyiterator_iter st.typeIs F.entry_dict_keyiterator_iter ?_ (F.args_dict_keyiterator_iter_1 _))
    show wpAny _ _ (ret (.ref it)) _ _ s
    exact wpAny_pure ⟨_,rfl,"dict_keyiterator",_,st.typeIs,F.slot_dict_keyiterator_next.lookup,h⟩
end
def iKeys (td : TE) : TI:=fun σ H R=>td σ H fun x H1=>∃ d o,x = .ref d ∧ ((∃ kvs,H1 d = some (.frz o (.dK kvs)) ∧ R (Itk d o kvs) H1) ∨ ∃ kvs,H1 d = some (.frz o (.dT kvs)) ∧ R (Itkt d o kvs) H1)
section
variable {X : Cx} {tg e : Expr} {td : TE} {apos cpos : Pos}
theorem pi_keys (he : PE X e td) : PI X tg e (iKeys td):=by
  intro pins s σ H R I h
  refine thn (he pins s σ H _ I h) fun u s1 ⟨x,H1,I1,rx,d,o,ex,q⟩=>?_
  subst ex
  obtain rfl : u = Value.ref d:=rx
  rcases q with ⟨kvs,hd,q⟩ | ⟨kvs,hd,q⟩
  · obtain ⟨hs,hgd,hx,es,ep,vs,hdt,hsz,kv,hm⟩:=I1.frzK hd
    refine iter_keys hs hgd hx hdt (pi_one (tk:=s1.toks) I1 _ (turn_keys _ hdt) ⟨_,Heap.get?_push_size _ rfl,rfl,?_⟩ q)
    rw [hsz] <;> rfl
  · obtain ⟨hs,hgd,hx,es,ep,hdt,hsz,ent⟩:=I1.frzT hd
    refine iter_keys hs hgd hx hdt (pi_one (tk:=s1.toks) I1 _ (turn_keysT _ hdt) ⟨_,Heap.get?_push_size _ rfl,rfl,?_⟩ q)
    rw [hsz] <;> rfl
end
end L2
section 
namespace Bits
open PySem PyProof.Rows
end Bits
end 
section 
namespace TL
open PySem PySem.Builtin PySem.Builtin.Str PySem.StrLaws
end TL
end 
namespace L2
open PySem PySem.Spec PyProof.Rows
section
variable {X : Cx} {pins : List (Addr × Obj)} {σ : St} {H : Hp} {s : Shared} {Q : VK}
end
section
variable {X : Cx}
end
section
variable {X : Cx} {o e : Expr} {to te : TE}
end
end L2
namespace L2
open PySem PySem.Spec PyProof.Rows
section
variable {X : Cx}
end
end L2
namespace Att
open PySem PySem.W PySem.Calls PyProof.Rows
section
variable {prog : Program} {w : World} {A : Around} {E : Value → Shared → Prop} {s : Shared} {K : Frag}
end
end Att
namespace L2
open PySem PySem.Spec PyProof.Rows
end L2
namespace L2
open PySem PySem.Spec PyProof.Rows
end L2
namespace L2
open PySem PySem.Spec PyProof.Rows
def inClass (s : Stmt) (j : Nat) : Stmt:=match s with
  | .ClassDef _ _ _ body _ _ _ _ _ _ _=>body.getD j (.Pass ⟨0,0,0,0⟩)
  | _=>.Pass ⟨0,0,0,0⟩
def defArgs (s : Stmt) : Arguments:=match s with
  | .FunctionDef _ a _ _ _ _ _ _ _ _=>a
  | _=>{ posonlyargs:=[],args:=[],vararg:=none,kwonlyargs:=[],kw_defaults:=[],kwarg:=none,defaults:=[] }
def defBody (s : Stmt) : List Stmt:=match s with
  | .FunctionDef _ _ b _ _ _ _ _ _ _=>b
  | _=>[]
def defScope (s : Stmt) : Scope:=match s with
  | .FunctionDef _ _ _ _ _ _ sc _ _ _=>sc
  | _=>{ kind:=.function,names:=[],isGenerator:=false,isCoroutine:=false }
abbrev CX0 : CXT:=fun _ _ _ _ _ _=>False
abbrev E0 : XK:=fun _ _ _=>False
theorem pass0 {X : Cx} : Passes CX0 X E0:=fun _ _ _ _ _ _ _ h=>h.elim
structure Fun (K : PySem.W.Frag) (x qual : Str) (st : Stmt) (f : Addr) (fd : FuncData) : Prop where
  ex : ∃ (oc : Value) (od : Option Addr) (kV doc pm : Value) (an : Option Addr) (cdv ct : Value) (osl : Array (Option Value)),
    fd = PySem.W.fnOf x qual (defArgs st) (defBody st) (defScope st) .none kV doc pm an cdv ct ∧ K.lookup f = some ⟨oc,od,.func fd,osl⟩ ∧ PySem.W.codeIn K cdv qual = true
  kp : PySem.W.keepIn K (.ref f) = true
section
variable {P : Program} {w : World} {K : PySem.W.Frag} {mg : Str → Option Value} {base : Heap}
theorem Fun.ok {x qual : Str} {st : Stmt} {f : Addr} {fd : FuncData} {N ps : List Str} {k : Nat} {sp : Sp} (F : Fun K x qual st f fd) (S : FnScope N ps (defScope st)) (len : ∀ vs H Q E,sp vs H Q E → vs.length = ps.length)
    (hbody : ∀ (cdv : Value) (A : Around) (outer : List Env) (s : Shared) (H : Hp) (vs : List V) (Q : VK) (E : XK),Room k (A.deeper (envOfC qual (defScope st) s.heap.objs.size f cdv)) → sp vs H Q E →
      ∃ t,PSs (cxOf CX0 P w K mg base N qual (defScope st) f cdv A outer s H E).nox (defBody st) t ∧ t { nx:=fun _ H'=>Q .non H',rt:=Q } (start N vs) H) : FnOk P w K mg base CX0 (k + 1) f fd ps sp:=by
  obtain ⟨oc,od,kV,doc,pm,an,cdv,ct,osl,rfl,lk,hcd⟩:=F.ex
  refine fn_of lk hcd S len fun A outer s H vs Q E hr hsp=>?_
  obtain ⟨t,h,q⟩:=hbody cdv A outer s H vs Q E hr hsp
  exact ⟨t,h.nox,q⟩
theorem Fun.binds {x qual : Str} {st : Stmt} {f : Addr} {fd : FuncData} {ps : List Str} (F : Fun K x qual st f fd)
    (h : ∀ (kV doc pm : Value) (an : Option Addr) (cdv ct : Value) (us : List Value),us.length = ps.length → bindArgs (PySem.W.fnOf x qual (defArgs st) (defBody st) (defScope st) .none kV doc pm an cdv ct) ⟨us,[]⟩ = pure (ps.zip us)) : Binds K fd ps []:=by
  obtain ⟨oc,od,kV,doc,pm,an,cdv,ct,osl,rfl,lk,hcd⟩:=F.ex
  exact .all (h kV doc pm an cdv ct)
theorem fun_mk {x qual : Str} {st : Stmt} {f : Addr} {oc : Value} {od an : Option Addr} {osl : Array (Option Value)} {kV doc pm cdv ct : Value} (l : K.lookup f = some ⟨oc,od,.func (PySem.W.fnOf x qual (defArgs st) (defBody st) (defScope st) .none kV doc pm an cdv ct),osl⟩)
    (c : PySem.W.codeIn K cdv qual = true) (k : PySem.W.keepIn K (.ref f) = true) : Fun K x qual st f (PySem.W.fnOf x qual (defArgs st) (defBody st) (defScope st) .none kV doc pm an cdv ct):=⟨⟨oc,od,kV,doc,pm,an,cdv,ct,osl,rfl,l,c⟩,k⟩
end
theorem hu_of {A : Around} {k : Nat} (hr : Room k A) : A.units + 1 < cLine:=Nat.lt_of_le_of_lt (Nat.add_le_add_left (by decide : 1 ≤ 64) _) hr.units
section
variable {X : Cx}
theorem pv (i : Nat) {x : Str} {pos : Pos} (hN : X.N[i]? = some x:=by rfl) (hv : Vis X.env.scope x:=by first | exact Or.inl rfl | exact Or.inr (Or.inl rfl) | exact Or.inr (Or.inr rfl)) (hd : (x == ("__debug__" : Str)) = false:=by decide)
    (hcd : (x == ("__classdict__" : Str)) = false:=by decide) : PE X (.Name x pos) (tVar i):=pe_var hN hv hd hcd
end
theorem iteF {A B : Prop} (h : B) : if false = true then A else B:=by
  rw [if_neg Bool.false_ne_true]
  exact h
theorem iteT {A B : Prop} (h : A) : if true = true then A else B:=by
  rw [if_pos rfl]
  exact h
def Same (H H' : Hp) : Prop:=∀ b o,H b = some o → H' b = some o
theorem Same.trans {H H1 H2 : Hp} (a : Same H H1) (b : Same H1 H2) : Same H H2:=fun c o h=>b c o (a c o h)
theorem Same.free {H H' : Hp} (e : Same H H') {l : Addr} (h : H' l = Option.none) : H l = Option.none:=by
  cases q : H l with
  | none=>rfl
  | some o =>
    rw [e l o q] at h
    cases h
theorem Same.seq {K : PySem.W.Frag} {H H' : Hp} {a : Addr} {xs : List V} (e : Same H H') (h : SqL K H a xs) : SqL K H' a xs:=by
  rcases h with (h | ⟨o,h⟩) | h
  · exact .inl (.inl (e _ _ h))
  · exact .inl (.inr ⟨o,e _ _ h⟩)
  · exact .inr h
section
variable {κ : Type} [DecidableEq κ]
end
theorem at_of {xs : List V} {z : Int} {j : Nat} {v : V} (e : z = (j : Int)) (h : xs[j]? = some v) : atI xs z = some v:=by
  rw [e]
  exact atI_nat h
theorem nd_ix {α : Type} {l : List α} (hN : l.Nodup) {i j : Nat} {x : α} (a : l[i]? = some x) (b : l[j]? = some x) : i = j:=by
  obtain ⟨h1,e1⟩:=List.getElem?_eq_some_iff.mp a
  obtain ⟨h2,e2⟩:=List.getElem?_eq_some_iff.mp b
  exact (List.getElem_inj hN).mp (e1.trans e2.symm)
theorem Same.made {H H1 : Hp} {x dx C : Addr} (nx : H x = Option.none) (nd : H dx = Option.none) (k : ∀ b o,(upd (upd H dx (.own x)) x (.ins C dx [])) b = some o → b ≠ x → H1 b = some o) : Same H H1:=fun b o e =>
  k b o (by rw [upd_ne (ne_of_none e nx),upd_ne (ne_of_none e nd)]; exact e) (ne_of_none e nx)
end L2
namespace L2
open PySem PySem.Spec PyProof.Rows
section
variable {prog : Program} {w : World} {A : Around} {E : Value → Shared → Prop} {s : Shared}
theorem kdl_any {d : Addr} {o : Obj} {es : Array DictEntry} {ep : Nat} (lo : (d == sysModules) = false) (hx : o.ExactDict) (hd : o.data = .dict es ep) :
    PySem.W.KdlSrc prog w "dict" d d es.size (fun i v=>∃ en,es[i]? = some en ∧ v = en.key) (fun h=>h.get? d = some o) where
  type:=fun s h=>⟨o,h,hx.1⟩
  there:=fun h q=>⟨Heap.lt_size q,Heap.lt_size q⟩
  keep:=fun h h' q k=>k d (.inl rfl) o q
  notList:=by decide
  notTuple:=by decide
  hint:=fun A E s Q q hq=>PySem.W.kdl_hint_dict ⟨o,q,hx.1⟩ hq
  iter:=fun A s hh q=>⟨_,fun i h=>h.IsKeyIter s.heap.objs.size d i es.size ep ∧ h.get? d = some o,fun E Q hq=>iter_keys lo q hx hd hq,
    { sub:=fun b hb=>by simp at hb; simp [hb]
      frame:=fun _ _ _ st hk=>⟨st.1.at fun o e=>hk _ (by simp) o e,hk d (by simp) o st.2⟩
      item:=fun i s' Q E hi st hQ=>by
        obtain ⟨en,he⟩ : ∃ p,es[i]? = some p:=⟨es[i],by simp [hi]⟩
        refine next_key_item st.1 st.2 hd rfl he fun h' hit' hs'=>?_
        exact hQ en.key h' s'.toks ⟨en,he,rfl⟩ ⟨hit',(hs'.2 d (Nat.ne_of_lt (Heap.lt_size q))).trans st.2⟩ fun b o hb e=>(hs'.2 b (fun h=>hb (by simp [h]))).trans e
      done:=fun s' Q E st hQ=>next_key_end hh st.1 st.2 hd rfl (Nat.le_refl _) fun h' he'=>hQ h' s'.toks fun b o hb e=>he' b o (fun h=>hb (by simp [h])) e
      self:=fun i s' Q E st hQ=>wpAny_pyIter_keyiter st.1 hQ },
    ⟨⟨_,Heap.get?_push_size _ rfl,rfl,rfl⟩,Heap.get?_push_of_some _ q⟩⟩
theorem collect_any {d : Addr} {o : Obj} {es : Array DictEntry} {ep : Nat} {Q : List Value → Shared → Prop} (hh : A.handled = none) (lo : (d == sysModules) = false) (ho : s.heap.get? d = some o) (hx : o.ExactDict) (hd : o.data = .dict es ep) (hn : es.size ≤ sizeLine)
    (hQ : ∀ h' tk,(∀ b o,s.heap.get? b = some o → h'.get? b = some o) → s.heap.objs.size < h'.objs.size → Q (es.toList.map (·.key)) { s with heap:=h',toks:=tk }) : wpAny (model prog w) A (collect (.ref d)) Q E s:=by
  have hlt : d < s.heap.objs.size:=Heap.lt_size ho
  unfold collect
  refine wpAny_bind (wpAny_runValue (codeAny_builtin F.entry_proto_collect ?_))
  rw [Around.under_plainId F.plain_proto_collect _]
  show wpAny _ A.in1 (newList [] >>= fun l=>again (.builtin "list.__iadd__" ⟨[l,.ref d],[]⟩)) _ _ s
  refine wpAny_bind (wpAny_newObj_type ?_)
  refine wpAny_pure ⟨plainId_quiet F.plain_list_iadd _,codeAny_builtin F.entry_list_iadd ?_⟩
  rw [Around.under_plainId F.plain_list_iadd _]
  have hS₁ : (s.heap.push { cls:=.type "list",data:=.seq ([] : List Value).toArray }).get? s.heap.objs.size = some { cls:=.type "list",data:=.seq ([] : List Value).toArray }:=Heap.get?_push_size _ rfl
  show wpAny _ A.in1 (Builtin.List.listExtendWith (.ref s.heap.objs.size) (.ref d) (.ref s.heap.objs.size)) _ _ _
  refine PySem.W.kdl_extend (R:=fun r s'=>match r with
    | .ok (.ret v)=>wpAny (model prog w) A (match v with
      | .ref a=>do
        match (← load a).data with
          | .seq xs _=>pure xs.toList
          | _=>unsupported "internal:collect"
      | _=>unsupported "internal:collect") Q E s'
    | .ok _=>False
    | .error e=>E e s') (s:={ s with heap:=s.heap.push { cls:=.type "list",data:=.seq ([] : List Value).toArray } }) (kdl_any lo hx hd) hh (Heap.get?_push_of_some _ ho) s.heap.objs.size (Nat.ne_of_gt hlt) (Nat.ne_of_gt hlt) (.ref s.heap.objs.size) 0 hS₁ (fun h' tk acc' c' hk hS' hacc=>?_) hn
  show wpAny _ A (load s.heap.objs.size >>= _) _ _ _
  refine wpAny_bind (wpAny_load hS' ?_)
  have e : acc'.toList = es.toList.map (·.key):=by
    refine List.ext_getElem? fun i=>?_
    have h1:=hacc.1
    by_cases hi : i < es.size
    · obtain ⟨v,hv⟩ : ∃ v,acc'[i]? = some v:=⟨acc'[i],by simp [h1,hi]⟩
      obtain ⟨en,he,rfl⟩:=hacc.2 i v hv
      rw [Array.getElem?_toList,hv,List.getElem?_map,Array.getElem?_toList,he]
      rfl
    · rw [List.getElem?_eq_none (by simpa [h1] using Nat.le_of_not_lt hi),List.getElem?_eq_none (by simpa using Nat.le_of_not_lt hi)]
  refine wpAny_pure ?_
  show Q acc'.toList _
  rw [e]
  exact hQ h' tk (fun b ob q=>hk b ob (Nat.ne_of_lt (Heap.lt_size q)) (Heap.get?_push_of_some _ q)) (Heap.lt_size hS')
theorem sorted_any {shape : Nat → Bool} {d : Addr} {o : Obj} {es : Array DictEntry} {ep : Nat} {fs : List Value} {Q : Value → Shared → Prop} (hh : A.handled = none) (lo : (d == sysModules) = false) (ho : s.heap.get? d = some o) (hx : o.ExactDict) (hd : o.data = .dict es ep) (hn : es.size ≤ sizeLine)
    (ht : TupsOf s.heap shape (es.toList.map (·.key)) fs) (hk : ∀ v,v ∈ es.toList.map (·.key) → ∃ l,PyProof.Rows.G.tupKeyC s.heap shape v = some l)
    (h : ∀ (h' : Heap) (tk : Nat) (p : Addr) (e : Nat) (out : List Value),(∀ b o,s.heap.get? b = some o → h'.get? b = some o) → s.heap.objs.size ≤ p → h'.get? p = some { cls:=.type "list",data:=.seq out.toArray e } → out.Perm (es.toList.map (·.key)) →
      (∀ (i j : Nat) (v u : Value),i ≤ j → out[i]? = some v → out[j]? = some u → ∀ k l,PyProof.Rows.G.tupKeyC s.heap shape v = some k → PyProof.Rows.G.tupKeyC s.heap shape u = some l → lexLt itemOrd l k = false) → Q (.ref p) { s with heap:=h',toks:=tk }) :
    wpAny (model prog w) A (call (.builtin "sorted") [.ref d]) Q E s:=by
  refine Calls.call_function_entry kind_sorted plain_sorted entry_sorted (args_sorted1 _) ?_
  unfold Builtin.«sorted»
  refine wpAny_bind (m:=checkCount "sorted" 1 1 _) (wpAny_pure ?_)
  refine wpAny_bind (collect_any (A:=A.in1) hh lo ho hx hd hn fun h1 tk kp hsz1=>?_)
  generalize hvs : es.toList.map (·.key) = vs at *
  have hL : vs.length ≤ sizeLine:=by rw [← hvs]; simpa using hn
  refine wpAny_bind (wpAny_newList ?_)
  have hoL : (h1.push (seqObj "list" vs.toArray 0)).get? h1.objs.size = some (seqObj "list" vs.toArray 0):=Heap.get?_push_size _ rfl
  have kt : PyProof.Rows.G.KeepsTups s.heap (h1.push (seqObj "list" vs.toArray 0)):=fun b o e _=>Heap.get?_push_of_some _ (kp b o e)
  have keq : ∀ v,v ∈ vs → PyProof.Rows.G.tupKeyC (h1.push (seqObj "list" vs.toArray 0)) shape v = PyProof.Rows.G.tupKeyC s.heap shape v:=fun v hv=>by
    obtain ⟨l,hl⟩:=hk v hv
    obtain ⟨a,ob,xs,n,rfl,e1,e2,e3,e4⟩:=PyProof.Rows.G.tupKeyC_some hl
    rw [hl]
    have e1':=kt a ob e1 e2
    unfold PyProof.Rows.G.tupKeyC
    have i1 : PyProof.Rows.G.isTupObj (h1.push (seqObj "list" vs.toArray 0)) (.ref a) = true:=by simp [PyProof.Rows.G.isTupObj,e1',e2]
    rw [if_pos i1]
    simp only [tupKey,e1',e3]
    exact e4
  refine wpAny_bind (wpAny_holding (wpAny_call_entry slot_list_sort ⟨_,hoL,rfl⟩ entry_list_sort (PyProof.Rows.G.list_sort_tups (shape:=shape) (fs:=fs) hoL (PyProof.Rows.G.TupsOf.keep kt ht) (fun v hv=>?_) hL fun st' a1 a2 a3=>⟨_,rfl,?_⟩) (args_list_sort _)))
  · obtain ⟨l,hl⟩:=hk v hv
    exact ⟨l,(keq v hv).trans hl⟩
  · obtain ⟨ep',he'⟩:=sortedHeap_at (vs:=vs) (out:=(arrOf st').map (·.2)) hoL
    have hp:=Array.perm_iff_toList_perm.mp a1
    rw [pairsOf_toList] at hp
    have hsame : ∀ q ∈ (arrOf st').toList,q.1 = q.2:=fun q hq=>by
      have:=hp.mem_iff.mp hq
      exact (mem_zip_self this).1
    have hperm : ((arrOf st').map (·.2)).toList.Perm vs:=by
      rw [Array.toList_map]
      refine (hp.map (·.2)).trans ?_
      have : (vs.zip vs).map (·.2) = vs:=by
        rw [List.map_snd_zip]
        exact Nat.le_refl _
      rw [this]
    refine wpAny_pure ⟨_,rfl,h _ tk h1.objs.size ep' ((arrOf st').map (·.2)).toList (fun b ob q=>?_) ?_ (by rw [Array.toArray_toList]; exact he') hperm ?_⟩
    · have q1:=kp b ob q
      have hb : b ≠ h1.objs.size:=Nat.ne_of_lt (Heap.lt_size q1)
      rw [sortedHeap_old hb (by rw [size_push']; exact Nat.lt_succ_of_lt (Heap.lt_size q1))]
      exact Heap.get?_push_of_some _ q1
    · exact Nat.le_of_lt hsz1
    · intro i j v u hij hv hu k l hk1 hl1
      have hlen : (arrOf st').size = vs.length:=by
        have:=hp.length_eq
        simpa using this
      have get : ∀ (i : Nat) (v : Value),((arrOf st').map (·.2)).toList[i]? = some v → i < vs.length ∧ (arrOf st')[i]? = some (v,v) ∧ v ∈ vs:=fun i v e=>by
        rw [Array.toList_map,List.getElem?_map] at e
        cases q : (arrOf st').toList[i]? with
        | none=>rw [q] at e; cases e
        | some z =>
          rw [q] at e
          have e' : z.2 = v:=Option.some.inj e
          have h1:=hsame z (List.mem_of_getElem? q)
          have hz : z = (v,v):=Prod.ext (h1.trans e') e'
          subst hz
          have hlt:=(List.getElem?_eq_some_iff.mp q).1
          refine ⟨by simpa [hlen] using hlt,by rw [← Array.getElem?_toList]; exact q,hperm.mem_iff.mp ?_⟩
          rw [Array.toList_map]
          exact List.mem_map.mpr ⟨(v,v),List.mem_of_getElem? q,rfl⟩
      obtain ⟨_,gi,mi⟩:=get i v hv
      obtain ⟨lj,gj,mj⟩:=get j u hu
      have:=a2 i j hij (by rw [pairsOf_size]; exact lj)
      unfold KeyOrd.kle KK at this
      rw [gi,gj] at this
      simp only at this
      have k1 : PyProof.Rows.G.tupKeyC (h1.push { cls:=.type "list",data:=.seq vs.toArray }) shape u = some l:=(keq u mj).trans hl1
      have k2 : PyProof.Rows.G.tupKeyC (h1.push { cls:=.type "list",data:=.seq vs.toArray }) shape v = some k:=(keq v mi).trans hk1
      rw [k1,k2] at this
      exact this
theorem len_any {d : Addr} {o : Obj} {es : Array DictEntry} {ep : Nat} {Q : Value → Shared → Prop} (lo : (d == sysModules) = false) (ho : s.heap.get? d = some o) (hx : o.ExactDict) (hd : o.data = .dict es ep) (hn : es.size ≤ sizeLine)
    (h : ∀ t tk,Q (.int es.size t) { s with toks:=tk }) : wpAny (model prog w) A (call (.builtin "len") [.ref d]) Q E s:=by
  have hT : s.TypeIs (.ref d) "dict":=⟨o,ho,hx.1⟩
  have hl:=line63
  refine Calls.call_function_entry kind_len plain_len entry_len (args_len1 _) ?_
  unfold Builtin.«len»
  refine wpAny_bind (m:=oneArg "len" _) (wpAny_pure ?_)
  refine wpAny_bind (m:=callSpecial? (.ref d) (Str.ofString "__len__")) (wpAny_callSpecial?_slot (name:=Str.ofString "__len__") hT F.slot_dict_len
    (wpAny_call_entry F.slot_dict_len hT F.entry_dict_len ?_ (F.args_dict_len_1 _)))
  show wpAny _ _ (dictSize d >>= _) _ _ s
  unfold dictSize
  refine wpAny_bind (wpAny_bind (wpAny_dictEntries ho hd (wpAny_pure ?_)))
  show wpAny _ _ (Builtin.Dict.pendingCount d >>= _) _ _ s
  refine wpAny_bind (wpAny_pendingCount_other lo ?_)
  refine wpAny_bind (wpAny_mkInt (wpAny_pure ⟨_,rfl,?_⟩))
  rw [Nat.add_zero]
  refine wpAny_bind (wpAny_holding (wpAny_pure ?_))
  refine wpAny_bind (wpAny_letGo ?_)
  show wpAny _ _ (if ((es.size : Nat) : Int) < 0 then _ else _) _ _ _
  rw [if_neg (by omega)]
  show wpAny _ _ (if ((es.size : Nat) : Int) ≥ 2 ^ 63 then _ else _) _ _ _
  rw [if_neg (by omega)]
  exact wpAny_bind (wpAny_mkInt (wpAny_pure ⟨_,rfl,h _ _⟩))
end
section
variable {X : Cx}
theorem Inv.dT {pins : List (Addr × Obj)} {σ : St} {H : Hp} {s : Shared} {d : Addr} {kvs : List (List Key × V)} (I : Inv X pins σ H s) (h : Rd H d (.dT kvs)) :
    (d == sysModules) = false ∧ kvs.length ≤ sizeLine ∧ ∃ (o : Obj) (es : Array DictEntry) (ep : Nat),s.heap.get? d = some o ∧ o.ExactDict ∧ o.data = .dict es ep ∧ es.size = kvs.length ∧
      ∀ (i : Nat) (k : List Key) (v : V),kvs[i]? = some (k,v) → ∃ (en : DictEntry) (q : Addr),es[i]? = some en ∧ en.key = .ref q ∧ H q = some (.tup (k.map kV)):=by
  obtain ⟨z,hs,xs,pr,o,es,ep,ho,hx,hdt,he,_⟩:=h.ok I.hok
  refine ⟨hs,z,o,es,ep,ho,hx,hdt,?_,fun i k v e=>?_⟩
  · have l1 : es.size = xs.length:=size_of_entries he
    have l2 : kvs.length = xs.length:=Paired.length pr
    omega
  · obtain ⟨b,hb,e1,e2,_⟩:=paired_get pr e
    have q:=entry_at he i
    rw [hb] at q
    exact ⟨_,b.2.1,q,rfl,e2⟩
theorem call_lenT : CallR X (.builtin "len") (fun xs H Q=>∃ a kvs,xs = [V.ref a] ∧ Rd H a (.dT kvs) ∧ Q (.int kvs.length) H):=by
  intro pins s σ H xs us Q I r h
  obtain ⟨a,kvs,rfl,ha,q⟩:=h
  obtain ⟨u,rfl,ru⟩:=vals1 r
  cases ru
  obtain ⟨lo,hz,o,es,ep,ho,hx,hd,hsz,_⟩:=I.dT ha
  refine len_any lo ho hx hd (by omega) fun t tk=>⟨.int kvs.length,H,I.tok _,⟨t,by rw [hsz]⟩,q⟩
def k2 (k : Int × Int) : List Key:=[.inl k.1,.inl k.2]
def Le2 (a b : Int × Int) : Prop:=a.1 < b.1 ∨ (a.1 = b.1 ∧ a.2 ≤ b.2)
def rSortedT : List V → Hp → VK → Prop:=fun vs H Q=>∃ (a : Addr) (ks : List ((Int × Int) × V)),vs = [V.ref a] ∧ Rd H a (.dT (ks.map fun k=>(k2 k.1,k.2))) ∧
  ∀ (ks' : List (Int × Int)) (as : List Addr) (p : Addr),ks'.Perm (ks.map (·.1)) → ks'.Pairwise Le2 → Paired (fun k a=>H a = some (.tup [.int k.1,.int k.2])) ks' as → H p = none → Q (.ref p) (upd H p (.lst (as.map V.ref)))
def keyOfH (H : Hp) : Value → Int × Int
  | .ref q=>match H q with
    | some (.tup [.int a,.int b])=>(a,b)
    | _=>(0,0)
  | _=>(0,0)
def addrOfV : Value → Addr
  | .ref q=>q
  | _=>0
theorem cr_sortedT (hc : X.calm = true) : CallR X (.builtin "sorted") rSortedT:=by
  intro pins s σ H vs us Q I r h
  obtain ⟨a,ks,rfl,hs,q⟩:=h
  obtain ⟨lo,hz,o,es,ep,ho,hx,hd,hsz,ent⟩:=I.dT hs
  rw [List.length_map] at hz hsz
  rw [Vals.ref1 r]
  have key : ∀ v ∈ es.toList.map (·.key),∃ (b : Addr) (k : Int × Int) (its : List Value) (t t' : Tok),v = .ref b ∧ H b = some (.tup [.int k.1,.int k.2]) ∧ IsTup s.heap b its.toArray ∧ its = [.int k.1 t,.int k.2 t'] ∧ k ∈ ks.map (·.1):=fun v hv=>by
    obtain ⟨en,hen,rfl⟩:=List.mem_map.mp hv
    obtain ⟨i,hi⟩:=List.getElem?_of_mem hen
    rw [Array.getElem?_toList] at hi
    have hlt:=(Array.getElem?_eq_some_iff.mp hi).1
    obtain ⟨p,hp⟩ : ∃ p,ks[i]? = some p:=⟨ks[i]'(by omega),List.getElem?_eq_getElem _⟩
    obtain ⟨en',b,h1,h2,h3⟩:=ent i (k2 p.1) p.2 (by rw [List.getElem?_map,hp]; rfl)
    rw [hi] at h1
    cases h1
    have h3' : H b = some (.tup [.int p.1.1,.int p.1.2]):=h3
    obtain ⟨_,its,rv,tp⟩:=I.hok b _ h3'
    obtain ⟨t,t',e⟩:=Vals.int2 rv
    exact ⟨b,p.1,its,t,t',h2,h3',tp,e,List.mem_map.mpr ⟨p,List.mem_of_getElem? hp,rfl⟩⟩
  have keyC : ∀ v ∈ es.toList.map (·.key),PyProof.Rows.G.tupKeyC s.heap (fun _=>false) v = some [Sum.inl (keyOfH H v).1,Sum.inl (keyOfH H v).2]:=fun v hv=>by
    obtain ⟨b,k,its,t,t',rfl,hb,⟨ob,e1,e2,n,e3⟩,rfl,_⟩:=key v hv
    unfold PyProof.Rows.G.tupKeyC
    have i1 : PyProof.Rows.G.isTupObj s.heap (.ref b) = true:=by simp [PyProof.Rows.G.isTupObj,e1,e2]
    rw [if_pos i1]
    simp only [tupKey,e1,e3]
    simp [tupItems,keyOfH,hb]
  have tups : ∀ l : List Value,(∀ v ∈ l,v ∈ es.toList.map (·.key)) → ∃ fs,TupsOf s.heap (fun _=>false) l fs:=fun l=>by
    induction l with
    | nil=>intro _; exact ⟨[],.nil⟩
    | cons v l ih =>
      intro hm
      obtain ⟨fs,hf⟩:=ih fun u hu=>hm u (List.mem_cons_of_mem _ hu)
      obtain ⟨b,k,its,t,t',rfl,hb,⟨ob,e1,e2,n,e3⟩,rfl,_⟩:=key v (hm v List.mem_cons_self)
      exact ⟨.int k.1 t :: fs,.cons ⟨b,ob,_,n,rfl,e1,e2,e3,by simp,fun _=>⟨_,_,rfl⟩,fun z=>by simp at z⟩ hf⟩
  obtain ⟨fs,hf⟩:=tups _ fun v hv=>hv
  refine sorted_any (I.ok.hd hc) lo ho hx hd (by omega) hf (fun v hv=>⟨_,keyC v hv⟩) fun h' tk p e out kp hp hob hperm hsort=>?_
  have hmem : ∀ v ∈ out,v ∈ es.toList.map (·.key):=fun v hv=>hperm.mem_iff.mp hv
  have hlen : out.length = ks.length:=by
    have:=hperm.length_eq
    simp at this
    omega
  have rel : Vals ((out.map addrOfV).map V.ref) out:=by
    have : ∀ l : List Value,(∀ v ∈ l,v ∈ es.toList.map (·.key)) → Vals ((l.map addrOfV).map V.ref) l:=fun l=>by
      induction l with
      | nil=>intro _; exact .nil
      | cons v l ih =>
        intro hm
        obtain ⟨b,k,its,t,t',rfl,_⟩:=key v (hm v List.mem_cons_self)
        exact .cons rfl (ih fun u hu=>hm u (List.mem_cons_of_mem _ hu))
    exact this out hmem
  refine ⟨.ref p,upd H p (.lst ((out.map addrOfV).map V.ref)),I.laid (t':=tk) kp hp ⟨by simp [hlen]; omega,out,e,rel,hob⟩,rfl,q (out.map (keyOfH H)) (out.map addrOfV) p ?_ ?_ ?_ (I.hok.fresh hp)⟩
  · refine (hperm.map (keyOfH H)).trans ?_
    have : (es.toList.map (·.key)).map (keyOfH H) = ks.map (·.1):=by
      refine List.ext_getElem? fun i=>?_
      rw [List.getElem?_map,List.getElem?_map,List.getElem?_map,Array.getElem?_toList]
      by_cases hi : i < ks.length
      · obtain ⟨p,hp⟩ : ∃ p,ks[i]? = some p:=⟨ks[i],List.getElem?_eq_getElem hi⟩
        obtain ⟨en,b,h1,h2,h3⟩:=ent i (k2 p.1) p.2 (by rw [List.getElem?_map,hp]; rfl)
        rw [h1,hp]
        have h3' : H b = some (.tup [.int p.1.1,.int p.1.2]):=h3
        simp [h2,keyOfH,h3']
      · rw [List.getElem?_eq_none (Nat.le_of_not_lt hi),Array.getElem?_eq_none (by omega)]
        rfl
    rw [this]
  · rw [List.pairwise_iff_getElem]
    intro i j hi hj hij
    rw [List.length_map] at hi hj
    have ei : out[i]? = some out[i]:=List.getElem?_eq_getElem hi
    have ej : out[j]? = some out[j]:=List.getElem?_eq_getElem hj
    have:=hsort i j _ _ (Nat.le_of_lt hij) ei ej _ _ (keyC _ (hmem _ (List.getElem_mem hi))) (keyC _ (hmem _ (List.getElem_mem hj)))
    rw [List.getElem_map,List.getElem_map]
    simp only [lex_cons,Bool.or_eq_false_iff,Bool.and_eq_false_iff,PyProof.Rows.lexLt,itemLt,decide_eq_false_iff_not,Bool.not_eq_false',decide_eq_true_eq] at this
    unfold Le2
    omega
  · have : ∀ l : List Value,(∀ v ∈ l,v ∈ es.toList.map (·.key)) → Paired (fun k a=>H a = some (.tup [.int k.1,.int k.2])) (l.map (keyOfH H)) (l.map addrOfV):=fun l=>by
      induction l with
      | nil=>intro _; exact .nil
      | cons v l ih =>
        intro hm
        obtain ⟨b,k,its,t,t',rfl,hb,_⟩:=key v (hm v List.mem_cons_self)
        refine .cons ?_ (ih fun u hu=>hm u (List.mem_cons_of_mem _ hu))
        show H b = some (.tup [.int (keyOfH H (.ref b)).1,.int (keyOfH H (.ref b)).2])
        rw [show keyOfH H (.ref b) = (k.1,k.2) by simp [keyOfH,hb]]
        exact hb
    exact this out hmem
def tDisp1T (tk tv : TE) : TE:=fun σ H Q=>∀ p,H p = none → tk σ (upd H p (.dT [])) fun x H1=>tv σ H1 fun y H2=>H2 p = some (.dT []) ∧ ∃ H3,DPut H2 p x y H3 ∧ Q (.ref p) H3
end
end L2
section
set_option maxHeartbeats 2000000
namespace L2
open PySem PySem.Spec PyProof.Rows
open PySem.W (WData Codec OpenSpec Well WellAll ReadsW ReadsAllW)
mutual
/-- x stands for the datum d,lists and tuples all the way -/
inductive Dw (K : PySem.W.Frag) (H : Hp) : V → WData → Prop
  | non : Dw K H .non .none
  | bl (b : Bool) : Dw K H (.bl b) (.bool b)
  | int (i : Int) : Dw K H (.int i) (.int i)
  | str (x : Str) : Dw K H (.str x) (.str x)
  | byt (b : Array UInt8) : Dw K H (.byt b) (.bytes b.toList)
  | lst {a : Addr} {xs : List V} {ds : List WData} : SqL K H a xs → DwAll K H xs ds → Dw K H (.ref a) (.list ds)
  | tup {a : Addr} {xs : List V} {ds : List WData} : SqT K H a xs → DwAll K H xs ds → Dw K H (.ref a) (.tuple ds)
inductive DwAll (K : PySem.W.Frag) (H : Hp) : List V → List WData → Prop
  | nil : DwAll K H [] []
  | cons {v : V} {vs : List V} {d : WData} {ds : List WData} : Dw K H v d → DwAll K H vs ds → DwAll K H (v :: vs) (d :: ds)
end
theorem dw_ints {K : PySem.W.Frag} {H : Hp} : ∀ ns : List Int,DwAll K H (ns.map V.int) (ns.map WData.int)
  | []=>.nil
  | n :: r=>.cons (.int n) (dw_ints r)
theorem ints_dw {K : PySem.W.Frag} {H : Hp} : ∀ (ns : List Int) (xs : List V),DwAll K H xs (ns.map WData.int) → xs = ns.map V.int
  | [],xs,h=>by
    cases h
    rfl
  | n :: r,xs,h=>by
    cases h with
    | cons h1 h2 =>
      cases h1
      rw [ints_dw r _ h2] <;> rfl
section
variable {P : Program} {w : World} {K : PySem.W.Frag} {H : Hp} {h : Heap} {R : PySem.W.WRecords} {cl : Str → Option Addr}
theorem sqL_at {a : Addr} {xs : List V} (hok : HOk P w H h) (KX : K.In h) (q : SqL K H a xs) : ∃ (its : List Value) (o : Obj) (n : Nat),Vals xs its ∧ h.get? a = some o ∧ o.cls = .type "list" ∧ o.data = .seq its.toArray n:=by
  rcases q with q | ⟨o,its,n,e,hc,_,hd,_,hv⟩
  · obtain ⟨_,its,n,hv,e⟩:=(show ObjOk P w H h a (.lst xs) from q.ok hok)
    exact ⟨its,_,n,hv,e,rfl,rfl⟩
  · exact ⟨its.toList,o,n,hv,KX _ _ e,hc,by simp [hd]⟩
theorem sqT_at {a : Addr} {xs : List V} (hok : HOk P w H h) (KX : K.In h) (q : SqT K H a xs) : ∃ (its : List Value) (o : Obj) (n : Nat),Vals xs its ∧ h.get? a = some o ∧ o.cls = .type "tuple" ∧ o.data = .seq its.toArray n:=by
  rcases q with q | ⟨o,its,n,e,hc,hd,_,hv⟩
  · obtain ⟨_,its,hv,o,e,hc,n,hd⟩:=(show ObjOk P w H h a (.tup xs) from q.ok hok)
    exact ⟨its,o,n,hv,e,hc,hd⟩
  · exact ⟨its.toList,o,n,hv,KX _ _ e,hc,by simp [hd]⟩
mutual
theorem Dw.reads (hok : HOk P w H h) (KX : K.In h) : ∀ (d : WData) (v : V) (u : Value),Dw K H v d → RelV v u → ∃ as,ReadsW R cl h u d as
  | .none,_,_,x,r=>by
    cases x
    cases r
    exact ⟨_,ReadsW.none⟩
  | .bool b,_,_,x,r=>by
    cases x
    cases r
    exact ⟨_,ReadsW.bool b⟩
  | .int i,_,_,x,r=>by
    cases x
    obtain ⟨t,rfl⟩:=r
    exact ⟨_,ReadsW.int i t⟩
  | .str s,_,_,x,r=>by
    cases x
    obtain ⟨t,rfl⟩:=r
    exact ⟨_,ReadsW.str s t⟩
  | .bytes b,_,_,x,r=>by
    cases x
    obtain ⟨t,rfl⟩:=r
    exact ⟨_,ReadsW.bytes _ t⟩
  | .list ds,_,_,x,r=>by
    cases x with
    | lst hs ha =>
      cases r
      obtain ⟨its,o,n,rv,ho,hc,hd⟩:=sqL_at hok KX hs
      obtain ⟨as,hr⟩:=Dw.readsAll hok KX ds _ its ha rv
      exact ⟨_,ReadsW.list ho hc hd hr⟩
  | .tuple ds,_,_,x,r=>by
    cases x with
    | tup hs ha =>
      cases r
      obtain ⟨its,o,n,rv,ho,hc,hd⟩:=sqT_at hok KX hs
      obtain ⟨as,hr⟩:=Dw.readsAll hok KX ds _ its ha rv
      exact ⟨_,ReadsW.tuple ho hc hd hr⟩
  | .float _,_,_,x,_=>by cases x
  | .dict _,_,_,x,_=>by cases x
  | .bytearray _,_,_,x,_=>by cases x
  | .set _,_,_,x,_=>by cases x
  | .frozenset _,_,_,x,_=>by cases x
  | .obj _ _,_,_,x,_=>by cases x
theorem Dw.readsAll (hok : HOk P w H h) (KX : K.In h) : ∀ (ds : List WData) (vs : List V) (us : List Value),DwAll K H vs ds → Vals vs us → ∃ as,ReadsAllW R cl h us ds as
  | [],_,_,x,r=>by
    cases x
    cases r
    exact ⟨_,ReadsAllW.nil⟩
  | d :: ds,_,_,x,r=>by
    cases x with
    | cons h1 h2 =>
      cases r with
      | cons r1 r2 =>
        obtain ⟨as,q1⟩:=Dw.reads hok KX d _ _ h1 r1
        obtain ⟨bs,q2⟩:=Dw.readsAll hok KX ds _ _ h2 r2
        exact ⟨_,ReadsAllW.cons q1 q2⟩
end
end
mutual
/-- data that a codec tells -/
def plW : WData → Bool
  | .none=>true
  | .bool _=>true
  | .int _=>true
  | .str _=>true
  | .bytes _=>true
  | .list xs=>plWs xs
  | .tuple xs=>plWs xs
  | _=>false
def plWs : List WData → Bool
  | []=>true
  | x :: r=>plW x && plWs r
end
theorem plWs_map {α : Type} {f : α → WData} (h : ∀ a,plW (f a) = true) : ∀ l : List α,plWs (l.map f) = true
  | []=>rfl
  | x :: r=>by
    show (plW (f x) && plWs (r.map f)) = true
    rw [h x,plWs_map h r] <;> rfl
theorem pl_enc : ∀ (c : Codec) (a : c.denote),plW (c.enc a) = true
  | .unit,_=>rfl
  | .bool,_=>rfl
  | .int _ _,_=>rfl
  | .nat _ _,_=>rfl
  | .u8,_=>rfl
  | .bytes _ _,_=>rfl
  | .text _ _ _ _,_=>rfl
  | .list _ _ c,a=>plWs_map (fun x=>pl_enc c x) a
  | .pair c d,a=>by
    show (plW (c.enc a.1) && (plW (d.enc a.2) && true)) = true
    rw [pl_enc c a.1,pl_enc d a.2] <;> rfl
  | .triple c d e,a=>by
    show (plW (c.enc a.1) && (plW (d.enc a.2.1) && (plW (e.enc a.2.2) && true))) = true
    rw [pl_enc c a.1,pl_enc d a.2.1,pl_enc e a.2.2] <;> rfl
  | .option c,none=>rfl
  | .option c,some x=>pl_enc c x
theorem pl_encAll : ∀ (cs : List Codec) (a : Codec.denoteAll cs),plWs (Codec.encAll cs a) = true
  | [],_=>rfl
  | c :: cs,a=>by
    show (plW (c.enc a.1) && plWs (Codec.encAll cs a.2)) = true
    rw [pl_enc c a.1,pl_encAll cs a.2] <;> rfl
theorem weight_mem : ∀ {xs : List WData} {d : WData},d ∈ xs → d.weight ≤ WData.weightAll xs
  | [],d,h=>absurd h (by simp)
  | x :: r,d,h=>by
    show d.weight ≤ x.weight + 1 + WData.weightAll r
    rcases List.mem_cons.mp h with e | m
    · rw [e]
      omega
    · have z:=weight_mem m
      omega
def toV : Value → V
  | .none=>.non
  | .bool b=>.bl b
  | .int i _=>.int i
  | .str x _=>.str x
  | .bytes b _=>.byt b
  | .ref a=>.ref a
  | _=>.non
def OkU (A : List Addr) : Value → Prop
  | .none=>True
  | .bool _=>True
  | .int _ _=>True
  | .str _ _=>True
  | .bytes _ _=>True
  | .ref a=>a ∈ A
  | _=>False
theorem OkU.mono {A B : List Addr} (h : ∀ a ∈ A,a ∈ B) : ∀ {u : Value},OkU A u → OkU B u:=fun {u} x=>by
  cases u with
  | ref a=>exact h a x
  | none=>trivial
  | bool b=>trivial
  | int i t=>trivial
  | str s t=>trivial
  | bytes b t=>trivial
  | _=>exact False.elim x
theorem relV_toV {A : List Addr} {u : Value} (x : OkU A u) : RelV (toV u) u:=by
  cases u with
  | ref a=>rfl
  | none=>rfl
  | bool b=>rfl
  | int i t=>exact ⟨t,rfl⟩
  | str s t=>exact ⟨t,rfl⟩
  | bytes b t=>exact ⟨t,rfl⟩
  | _=>exact False.elim x
theorem vals_toV {A : List Addr} : ∀ {vs : List Value},(∀ u ∈ vs,OkU A u) → Vals (vs.map toV) vs
  | [],_=>.nil
  | u :: r,h=>.cons (relV_toV (h u (List.mem_cons_self ..))) (vals_toV fun x hx=>h x (List.mem_cons_of_mem _ hx))
def ArgOb (h : Heap) (A : List Addr) (a : Addr) : Prop:=∃ vs : List Value,vs.length ≤ sizeLine ∧ (∀ u ∈ vs,OkU A u) ∧
  (h.get? a = some { cls:=.type "list",data:=.seq vs.toArray } ∨ h.get? a = some { cls:=.type "tuple",data:=.seq vs.toArray })
theorem ArgOb.mono {h : Heap} {A B : List Addr} {a : Addr} (k : ∀ a ∈ A,a ∈ B) (x : ArgOb h A a) : ArgOb h B a:=by
  obtain ⟨vs,h1,h2,h3⟩:=x
  exact ⟨vs,h1,fun u hu=>(h2 u hu).mono k,h3⟩
theorem wellAll_len {P : Params} {h : Heap} : ∀ {vs : List Value} {ds : List WData},WellAll P h vs ds → vs.length = ds.length
  | _,_,.nil=>rfl
  | _,_,.cons _ b=>by
    show _ + 1 = _ + 1
    rw [wellAll_len b]
theorem well_list {P : Params} {h : Heap} {v : Value} {ds : List WData} (x : Well P h v (.list ds)) : ∃ (a : Addr) (vs : List Value),v = .ref a ∧ h.get? a = some { cls:=.type "list",data:=.seq vs.toArray } ∧ WellAll P h vs ds:=by
  cases x with
  | list ho hall=>exact ⟨_,_,rfl,ho,hall⟩
theorem well_tuple {P : Params} {h : Heap} {v : Value} {ds : List WData} (x : Well P h v (.tuple ds)) : ∃ (a : Addr) (vs : List Value),v = .ref a ∧ h.get? a = some { cls:=.type "tuple",data:=.seq vs.toArray } ∧ WellAll P h vs ds:=by
  cases x with
  | tuple ho hall=>exact ⟨_,_,rfl,ho,hall⟩
theorem well_cons {P : Params} {h : Heap} {us : List Value} {d : WData} {ds : List WData} (x : WellAll P h us (d :: ds)) : ∃ (v : Value) (vs : List Value),us = v :: vs ∧ Well P h v d ∧ WellAll P h vs ds:=by
  cases x with
  | cons a b=>exact ⟨_,_,rfl,a,b⟩
theorem line_of {n : Nat} (h : n ≤ 1048576) : n ≤ sizeLine:=Nat.le_trans h (by decide)
section
variable {P : Params} {h : Heap}
mutual
theorem area_one : ∀ (d : WData) (v : Value),Well P h v d → plW d = true → d.weight ≤ 1048576 → ∃ A : List Addr,OkU A v ∧ ∀ a ∈ A,ArgOb h A a
  | .none,_,x,_,_=>by
    cases x
    exact ⟨[],trivial,fun a m=>absurd m (by simp)⟩
  | .bool b,_,x,_,_=>by
    cases x
    exact ⟨[],trivial,fun a m=>absurd m (by simp)⟩
  | .int i,_,x,_,_=>by
    cases x
    exact ⟨[],trivial,fun a m=>absurd m (by simp)⟩
  | .str s,_,x,_,_=>by
    cases x
    exact ⟨[],trivial,fun a m=>absurd m (by simp)⟩
  | .bytes b,_,x,_,_=>by
    cases x
    exact ⟨[],trivial,fun a m=>absurd m (by simp)⟩
  | .list ds,_,x,p,z=>by
    obtain ⟨a,vs,rfl,ho,hall⟩:=well_list x
    have z2 : WData.weightAll ds ≤ 1048576:=z
    obtain ⟨A,h1,h2⟩:=area_all ds _ hall p fun d hd=>Nat.le_trans (weight_mem hd) z2
    have k : ∀ b ∈ A,b ∈ a :: A:=fun b hb=>List.mem_cons_of_mem _ hb
    refine ⟨a :: A,List.mem_cons_self ..,fun b hb=>?_⟩
    rcases List.mem_cons.mp hb with e | m
    · rw [e]
      exact ⟨vs,line_of (by rw [wellAll_len hall]; exact Nat.le_trans (PySem.W.length_le_weightAllW ds) z2),fun u hu=>(h1 u hu).mono k,.inl ho⟩
    · exact (h2 b m).mono k
  | .tuple ds,_,x,p,z=>by
    obtain ⟨a,vs,rfl,ho,hall⟩:=well_tuple x
    have z2 : WData.weightAll ds ≤ 1048576:=z
    obtain ⟨A,h1,h2⟩:=area_all ds _ hall p fun d hd=>Nat.le_trans (weight_mem hd) z2
    have k : ∀ b ∈ A,b ∈ a :: A:=fun b hb=>List.mem_cons_of_mem _ hb
    refine ⟨a :: A,List.mem_cons_self ..,fun b hb=>?_⟩
    rcases List.mem_cons.mp hb with e | m
    · rw [e]
      exact ⟨vs,line_of (by rw [wellAll_len hall]; exact Nat.le_trans (PySem.W.length_le_weightAllW ds) z2),fun u hu=>(h1 u hu).mono k,.inr ho⟩
    · exact (h2 b m).mono k
  | .float _,_,_,p,_=>Bool.noConfusion (show false = true from p)
  | .dict _,_,_,p,_=>Bool.noConfusion (show false = true from p)
  | .bytearray _,_,_,p,_=>Bool.noConfusion (show false = true from p)
  | .set _,_,_,p,_=>Bool.noConfusion (show false = true from p)
  | .frozenset _,_,_,p,_=>Bool.noConfusion (show false = true from p)
  | .obj _ _,_,_,p,_=>Bool.noConfusion (show false = true from p)
theorem area_all : ∀ (ds : List WData) (vs : List Value),WellAll P h vs ds → plWs ds = true → (∀ d ∈ ds,d.weight ≤ 1048576) → ∃ A : List Addr,(∀ u ∈ vs,OkU A u) ∧ ∀ a ∈ A,ArgOb h A a
  | [],_,x,_,_=>by
    cases x
    exact ⟨[],fun u m=>absurd m (by simp),fun a m=>absurd m (by simp)⟩
  | d :: ds,_,x,p,z=>by
    obtain ⟨v,vs,rfl,x1,x2⟩:=well_cons x
    have q : plW d = true ∧ plWs ds = true:=Bool.and_eq_true_iff.mp p
    obtain ⟨A,a1,a2⟩:=area_one d v x1 q.1 (z d (List.mem_cons_self ..))
    obtain ⟨B,b1,b2⟩:=area_all ds vs x2 q.2 fun e he=>z e (List.mem_cons_of_mem _ he)
    have kA : ∀ b ∈ A,b ∈ A ++ B:=fun b hb=>List.mem_append.mpr (.inl hb)
    have kB : ∀ b ∈ B,b ∈ A ++ B:=fun b hb=>List.mem_append.mpr (.inr hb)
    refine ⟨A ++ B,fun u hu=>?_,fun b hb=>?_⟩
    · rcases List.mem_cons.mp hu with e | m
      · rw [e]
        exact a1.mono kA
      · exact (b1 u m).mono kB
    · rcases List.mem_append.mp hb with m | m
      · exact (a2 b m).mono kA
      · exact (b2 b m).mono kB
end
end
def hoOf (o : Obj) : Option HO:=match o.data with
  | .seq vs _=>if (o.cls == Value.type "list") = true then some (.frz o (.lst (vs.toList.map toV))) else some (.frz o (.tup (vs.toList.map toV)))
  | _=>none
def argH (K : PySem.W.Frag) (h : Heap) (A : List Addr) : Hp:=fun b=>if b ∈ A then (if (K.lookup b).isNone = true then (h.get? b).bind hoOf else none) else none
def OnlyF (H : Hp) : Prop:=∀ b,H b = none ∨ ∃ o u,H b = some (.frz o u)
theorem hoOf_lst (vs : List Value) : hoOf { cls:=.type "list",data:=.seq vs.toArray } = some (.frz { cls:=.type "list",data:=.seq vs.toArray } (.lst (vs.map toV))):=by
  show (if (Value.type "list" == Value.type "list") = true then some (HO.frz { cls:=.type "list",data:=.seq vs.toArray } (.lst (vs.toArray.toList.map toV))) else some (HO.frz { cls:=.type "list",data:=.seq vs.toArray } (.tup (vs.toArray.toList.map toV)))) = _
  rw [if_pos (beq_self_eq_true _)]
theorem hoOf_tup (vs : List Value) : hoOf { cls:=.type "tuple",data:=.seq vs.toArray } = some (.frz { cls:=.type "tuple",data:=.seq vs.toArray } (.tup (vs.map toV))):=by
  show (if (Value.type "tuple" == Value.type "list") = true then some (HO.frz { cls:=.type "tuple",data:=.seq vs.toArray } (.lst (vs.toArray.toList.map toV))) else some (HO.frz { cls:=.type "tuple",data:=.seq vs.toArray } (.tup (vs.toArray.toList.map toV)))) = _
  rw [if_neg (by decide)]
section
variable {P : Program} {w : World} {K : PySem.W.Frag} {h : Heap} {A : List Addr}
theorem argH_at {b : Addr} {o : Obj} (hb : b ∈ A) (hk : K.lookup b = none) (e : h.get? b = some o) : argH K h A b = hoOf o:=by
  unfold argH
  rw [if_pos hb,hk,if_pos (show (none : Option Obj).isNone = true from rfl),e] <;> rfl
theorem of_argH {b : Addr} {u : HO} (q : argH K h A b = some u) : b ∈ A ∧ K.lookup b = none:=by
  unfold argH at q
  by_cases hb : b ∈ A
  · rw [if_pos hb] at q
    cases hk : K.lookup b with
    | none=>exact ⟨hb,rfl⟩
    | some o =>
      rw [hk,if_neg (by simp)] at q
      cases q
  · rw [if_neg hb] at q
    cases q
theorem argH_is (ar : ∀ a ∈ A,ArgOb h A a) {b : Addr} {u : HO} (q : argH K h A b = some u) : K.lookup b = none ∧ ∃ vs : List Value,vs.length ≤ sizeLine ∧ (∀ u ∈ vs,OkU A u) ∧
    ((h.get? b = some { cls:=.type "list",data:=.seq vs.toArray } ∧ u = .frz { cls:=.type "list",data:=.seq vs.toArray } (.lst (vs.map toV))) ∨
     (h.get? b = some { cls:=.type "tuple",data:=.seq vs.toArray } ∧ u = .frz { cls:=.type "tuple",data:=.seq vs.toArray } (.tup (vs.map toV)))):=by
  obtain ⟨hb,hk⟩:=of_argH q
  obtain ⟨vs,h1,h2,h3⟩:=ar b hb
  refine ⟨hk,vs,h1,h2,?_⟩
  rcases h3 with e | e
  · rw [argH_at hb hk e,hoOf_lst] at q
    exact .inl ⟨e,(Option.some.inj q).symm⟩
  · rw [argH_at hb hk e,hoOf_tup] at q
    exact .inr ⟨e,(Option.some.inj q).symm⟩
theorem argH_only (ar : ∀ a ∈ A,ArgOb h A a) : OnlyF (argH K h A):=fun b=>by
  cases q : argH K h A b with
  | none=>exact .inl rfl
  | some u =>
    obtain ⟨_,vs,_,_,⟨_,e⟩ | ⟨_,e⟩⟩:=argH_is ar q
    · exact .inr ⟨_,_,by rw [e]⟩
    · exact .inr ⟨_,_,by rw [e]⟩
theorem argH_ok (ar : ∀ a ∈ A,ArgOb h A a) : HOk P w (argH K h A) h:=fun b u q=>by
  obtain ⟨_,vs,h1,h2,⟨e,rfl⟩ | ⟨e,rfl⟩⟩:=argH_is ar q
  · exact ⟨e,by rw [List.length_map]; exact h1,vs,_,vals_toV h2,e⟩
  · exact ⟨e,by rw [List.length_map]; exact h1,vs,vals_toV h2,_,e,rfl,_,rfl⟩
theorem seq_inj {c c' : Value} {vs us : List Value} (e : (some { cls:=c,data:=.seq vs.toArray } : Option Obj) = some { cls:=c',data:=.seq us.toArray }) : c = c' ∧ vs = us:=by
  have e1:=Option.some.inj e
  have e2 : c = c':=congrArg Obj.cls e1
  have e3 : Data.seq vs.toArray = Data.seq us.toArray:=congrArg Obj.data e1
  injection e3 with e4
  refine ⟨e2,?_⟩
  have e5:=congrArg Array.toList e4
  simpa using e5
theorem argL (KX : K.In h) (ar : ∀ a ∈ A,ArgOb h A a) {a : Addr} {vs : List Value} (ha : a ∈ A) (e : h.get? a = some { cls:=.type "list",data:=.seq vs.toArray }) : (∀ u ∈ vs,OkU A u) ∧ SqL K (argH K h A) a (vs.map toV):=by
  obtain ⟨us,h1,h2,h3⟩:=ar a ha
  have hu : us = vs:=by
    rcases h3 with q | q
    · rw [e] at q
      exact (seq_inj q).2.symm
    · rw [e] at q
      exact absurd (Value.type.inj (seq_inj q).1) (by decide)
  subst hu
  refine ⟨h2,?_⟩
  cases hk : K.lookup a with
  | none=>exact .inl (.inr ⟨_,by rw [argH_at ha hk e,hoOf_lst]⟩)
  | some o =>
    have e2:=KX a o hk
    rw [e] at e2
    obtain rfl:=Option.some.inj e2
    exact .inr ⟨_,us.toArray,_,hk,rfl,rfl,rfl,by rw [List.size_toArray]; exact h1,by simpa using vals_toV h2⟩
theorem argT (KX : K.In h) (ar : ∀ a ∈ A,ArgOb h A a) {a : Addr} {vs : List Value} (ha : a ∈ A) (e : h.get? a = some { cls:=.type "tuple",data:=.seq vs.toArray }) : (∀ u ∈ vs,OkU A u) ∧ SqT K (argH K h A) a (vs.map toV):=by
  obtain ⟨us,h1,h2,h3⟩:=ar a ha
  have hu : us = vs:=by
    rcases h3 with q | q
    · rw [e] at q
      exact absurd (Value.type.inj (seq_inj q).1) (by decide)
    · rw [e] at q
      exact (seq_inj q).2.symm
  subst hu
  refine ⟨h2,?_⟩
  cases hk : K.lookup a with
  | none=>exact .inl (.inr ⟨_,by rw [argH_at ha hk e,hoOf_tup]⟩)
  | some o =>
    have e2:=KX a o hk
    rw [e] at e2
    obtain rfl:=Option.some.inj e2
    exact .inr ⟨_,us.toArray,_,hk,rfl,rfl,by rw [List.size_toArray]; exact h1,by simpa using vals_toV h2⟩
mutual
theorem dw_one {Pm : Params} (KX : K.In h) (ar : ∀ a ∈ A,ArgOb h A a) : ∀ (d : WData) (v : Value),Well Pm h v d → plW d = true → OkU A v → Dw K (argH K h A) (toV v) d
  | .none,_,x,_,_=>by
    cases x
    exact .non
  | .bool b,_,x,_,_=>by
    cases x
    exact .bl b
  | .int i,_,x,_,_=>by
    cases x
    exact .int i
  | .str s,_,x,_,_=>by
    cases x
    exact .str s
  | .bytes b,_,x,_,_=>by
    cases x
    have z:=Dw.byt (K:=K) (H:=argH K h A) b.toArray
    exact z
  | .list ds,_,x,p,hu=>by
    obtain ⟨a,vs,rfl,ho,hall⟩:=well_list x
    obtain ⟨h2,hs⟩:=argL KX ar hu ho
    exact .lst hs (dw_all KX ar ds _ hall p h2)
  | .tuple ds,_,x,p,hu=>by
    obtain ⟨a,vs,rfl,ho,hall⟩:=well_tuple x
    obtain ⟨h2,hs⟩:=argT KX ar hu ho
    exact .tup hs (dw_all KX ar ds _ hall p h2)
  | .float _,_,_,p,_=>Bool.noConfusion (show false = true from p)
  | .dict _,_,_,p,_=>Bool.noConfusion (show false = true from p)
  | .bytearray _,_,_,p,_=>Bool.noConfusion (show false = true from p)
  | .set _,_,_,p,_=>Bool.noConfusion (show false = true from p)
  | .frozenset _,_,_,p,_=>Bool.noConfusion (show false = true from p)
  | .obj _ _,_,_,p,_=>Bool.noConfusion (show false = true from p)
theorem dw_all {Pm : Params} (KX : K.In h) (ar : ∀ a ∈ A,ArgOb h A a) : ∀ (ds : List WData) (vs : List Value),WellAll Pm h vs ds → plWs ds = true → (∀ u ∈ vs,OkU A u) → DwAll K (argH K h A) (vs.map toV) ds
  | [],_,x,_,_=>by
    cases x
    exact .nil
  | d :: ds,_,x,p,hu=>by
    obtain ⟨v,vs,rfl,x1,x2⟩:=well_cons x
    have q : plW d = true ∧ plWs ds = true:=Bool.and_eq_true_iff.mp p
    exact .cons (dw_one KX ar d v x1 q.1 (hu _ (List.mem_cons_self ..))) (dw_all KX ar ds vs x2 q.2 fun u m=>hu u (List.mem_cons_of_mem _ m))
end
end
theorem spec_call {P : Program} {w : World} {K : PySem.W.Frag} {mg mb : Str → Option Value} {CX : CXT} {k : Nat} {fa : Addr} {fd : FuncData} {ps : List Str} {sp : Sp} {s₁ : Shared} {vals : List Value} {ds : List WData} {R : PySem.W.WRecords} {cl : Str → Option Addr} {d0 : WData}
    (KX : K.In s₁.heap) (hns : s₁.heap.Ns mainGlobals mg) (hb : s₁.heap.Ns builtinsNs mb) (hbb : ∀ x : Str,x ≠ "__name__" → mb x = bootBuiltins x) (hlim : s₁.heap.NoLimit) (hg : s₁.gens = #[])
    (hwl : WellAll w.params s₁.heap vals ds) (hpl : plWs ds = true) (hwt : ∀ d ∈ ds,d.weight ≤ 1048576) (hr : Room k callerA)
    (F : ∀ base : Heap,K.In base → base.Ns mainGlobals mg → FnOk P w K mg base CX k fa fd ps sp) (hbind : ∀ (s : Shared) (us : List Value),us.length = ps.length → BindsTo s fd ⟨us,[]⟩ (ps.zip us)) (hlen : ds.length = ps.length)
    (hsp : ∀ (H : Hp) (xs : List V),OnlyF H → DwAll K H xs ds → sp xs H (fun v H'=>Dw K H' v d0) fun _ _ _=>False)
    (hCX : ∀ H e s',CX [] H s₁ (fun _ _ _=>False) e s' → False) :
    codeAny (model P w) callerA (.call (.ref fa) ⟨vals,[]⟩) (fun r s'=>∃ u as,r = .ok (.ret u) ∧ ReadsW R cl s'.heap u d0 as ∧ OldK s₁.heap s'.heap ∧ s'.os = s₁.os ∧ AllBare s'.gens) s₁:=by
  obtain ⟨A,ho,ar⟩:=area_all ds vals hwl hpl hwt
  have hO : OnlyF (argH K s₁.heap A):=argH_only ar
  have hok : HOk P w (argH K s₁.heap A) s₁.heap:=argH_ok ar
  have hS:=dw_all KX ar ds vals hwl hpl ho
  have hV:=vals_toV ho
  have hK : ∀ b u,argH K s₁.heap A b = some u → K.lookup b = none:=fun b u q=>(argH_is ar q).1
  have noA : ∀ {b : Addr} {o : Obj} {es : Array DictEntry} {ep : Nat},s₁.heap.get? b = some o → o.data = .dict es ep → argH K s₁.heap A b = none:=fun {b o es ep} e d=>by
    cases q : argH K s₁.heap A b with
    | none=>rfl
    | some u =>
      obtain ⟨_,vs,_,_,⟨e2,_⟩ | ⟨e2,_⟩⟩:=argH_is ar q
      · rw [e2] at e
        cases e
        have d' : Data.seq vs.toArray _ = Data.dict es ep:=d
        cases d'
      · rw [e2] at e
        cases e
        have d' : Data.seq vs.toArray _ = Data.dict es ep:=d
        cases d'
  generalize argH K s₁.heap A = H at hO hok hS hK noA
  have base_of : ∀ {b : Addr} {o : Obj},s₁.heap.get? b = some o → H b = none → (hidT s₁.heap H).get? b = some o:=fun e n=>hidT_get e n
  have nsK : ∀ {b : Addr} {m : Str → Option Value},s₁.heap.Ns b m → (hidT s₁.heap H).Ns b m:=fun {b m} ⟨o,es,ep,e,d,r⟩=>⟨o,es,ep,base_of e (noA e d),d,r⟩
  have nK : ∀ b o,K.lookup b = some o → H b = none:=fun b o e=>by
    cases q : H b with
    | none=>rfl
    | some u =>
      rw [hK b u q] at e
      cases e
  have hKb : K.In (hidT s₁.heap H):=fun b o e=>base_of (KX b o e) (nK b o e)
  have hM : Mod K mg (hidT s₁.heap H):=⟨hKb,nsK hns,⟨mb,nsK hb,hbb⟩,let ⟨mc,h1,h2⟩:=hlim; ⟨mc,nsK h1,h2⟩⟩
  have e0 : Env0 P w K mg (hidT s₁.heap H) callerA [] s₁ H:=⟨rfl,hM,fun b o e=>of_hidT e,Nat.le_of_eq (hidT_size _ _),trivial,fun b hb=>absurd (show b ∈ ([] : List Addr) from hb) (by simp),hok,.of_eq hg⟩
  have hl : vals.length = ps.length:=by rw [wellAll_len hwl]; exact hlen
  refine codeAny_mono ((F _ hKb (nsK hns)).run callerA [] s₁ H ⟨vals,[]⟩ vals (vals.map toV) _ _ hr e0 (hbind s₁ vals hl) hV (hsp H _ hO hS)) fun r s' x=>?_
  cases r with
  | error e=>exact (hCX H e s' x).elim
  | ok fl =>
    cases fl with
    | next=>exact False.elim x
    | brk=>exact False.elim x
    | cont=>exact False.elim x
    | ret u =>
      obtain ⟨v,H',os,bare,un,hok',r',q⟩:=x
      have kept : ∀ b o,s₁.heap.get? b = some o → s'.heap.get? b = some o:=fun b o e=>by
        cases q2 : H b with
        | none=>exact un.keep b o e q2 (by intro z; exact absurd (show b ∈ ([] : List Addr) from z) (by simp)) (by simp)
        | some u2 =>
          rcases hO b with z | ⟨ob,u3,z⟩
          · rw [q2] at z
            cases z
          · have z2:=un.frzs b ob _ z
            obtain ⟨e1,_⟩:=hok b _ z
            obtain ⟨e2,_⟩:=hok' b _ z2
            rw [e] at e1
            cases e1
            exact e2
      have KX' : K.In s'.heap:=fun b o e=>kept b o (KX b o e)
      obtain ⟨as,hrd⟩:=Dw.reads (R:=R) (cl:=cl) hok' KX' d0 v u q r'
      exact ⟨u,as,rfl,hrd,OldK.of_keep kept,os,bare⟩
theorem layable_weight {ds : List WData} (h : WData.layableAll ds = true) : ∀ d ∈ ds,d.weight ≤ 1048576:=fun d hd =>
  (PySem.W.layableW_iff.mp (List.all_eq_true.mp h d hd)).2.2
theorem encAll_len : ∀ (cs : List Codec) (a : Codec.denoteAll cs),(Codec.encAll cs a).length = cs.length
  | [],_=>rfl
  | c :: cs,a=>by
    show (Codec.encAll cs a.2).length + 1 = cs.length + 1
    rw [encAll_len cs a.2]
theorem walk_spec {r : OpenSpec} {k : Nat} {q : Program} {loose : List Str} {XP : (Str → Option Value) → Heap → Prop} {YP : World → Heap → Prop} {d : DefRec} {K : Params → PySem.W.Frag} {CX : World → CXT} {ps : List Str} {sp : World → Sp}
    (hwell : r.wellSaid = true) (hdf : d.params.defaults = []) (hlen : r.args.length = ps.length) (hr : Room k callerA)
    (hY : ∀ (w : World) (h : Heap),YP w h → (K w.params).In h)
    (F : ∀ (w : World) (mg : Str → Option Value) (fa : Addr) (h : Heap),YP w h → (K w.params).In h → h.Ns mainGlobals mg → mg d.name = some (.ref fa) →
      ∃ fd : FuncData,(∀ (s : Shared) (us : List Value),us.length = ps.length → BindsTo s fd ⟨us,[]⟩ (ps.zip us)) ∧
        ∀ base : Heap,(K w.params).In base → base.Ns mainGlobals mg → FnOk r.prog w (K w.params) mg base (CX w) k fa fd ps (sp w))
    (hsp : ∀ (w : World) (H : Hp) (xs : List V) (a : Codec.denoteAll r.args),OnlyF H → Codec.withinAll r.args a = true → Codec.app r.args r.asked a = true → DwAll (K w.params) H xs (Codec.encAll r.args a) →
      sp w xs H (fun v H'=>Dw (K w.params) H' v (r.ret.enc (Codec.app r.args r.f a))) fun _ _ _=>False)
    (hCX : ∀ (w : World) (H : Hp) (s : Shared) (e : Value) (s' : Shared),CX w [] H s (fun _ _ _=>False) e s' → False) :
    PySem.W.WalkOS q loose XP YP r d [] (fun f vs=>PySem.call f vs):=by
  intro w s_0 s₁ mg mb G Y fa o pm cd doc dV kV ho hd hcd hD hmg hg args vals as hpre hlay hrd hwl hlo
  obtain ⟨a,e1,e2⟩:=PySem.W.os_pre_some hpre
  obtain ⟨e3,hwi⟩:=Codec.encAll_of_decAll r.args args a e1
  subst e3
  have KX:=hY w _ Y
  obtain ⟨fd,hb,hF⟩:=F w mg fa _ Y KX G.T.g hmg
  refine PySem.W.enter_call (codeAny_mono (spec_call (R:=[]) (cl:=classAt s_0.heap) (d0:=r.ret.enc (Codec.app r.args r.f a)) KX G.T.g G.T.b G.T.builtins G.T.nolimit hg hwl (pl_encAll _ _) (layable_weight hlay) hr hF hb (by rw [encAll_len]; exact hlen)
    (fun H xs hO hS=>hsp w H xs a hO hwi e2 hS) fun H e s'=>hCX w H s₁ e s') fun r' s' hq=>?_)
  obtain ⟨u,as',rfl,h1,h2,h3,h4⟩:=hq
  exact ⟨.inl ⟨u,_,as',rfl,fun _=>rfl,h1,(OpenSpec.post_iff hwell hwi _ _).mpr rfl,fun z=>Bool.noConfusion (show false = true from z)⟩,h2,h3,h4⟩
theorem walk_specK {r : OpenSpec} {k : Nat} {q : Program} {loose : List Str} {XP : (Str → Option Value) → Heap → Prop} {YP : World → Heap → Prop} {d : DefRec} {K : Params → PySem.W.Frag} {CX : CXT} {ps : List Str} {sp : PySem.W.Frag → Sp}
    (hwell : r.wellSaid = true) (hdf : d.params.defaults = []) (hlen : r.args.length = ps.length) (hr : Room k callerA)
    (hY : ∀ (w : World) (h : Heap),YP w h → (K w.params).In h)
    (F : ∀ (w : World) (mg : Str → Option Value) (fa : Addr) (h : Heap),YP w h → (K w.params).In h → h.Ns mainGlobals mg → mg d.name = some (.ref fa) →
      ∃ fd : FuncData,(∀ (s : Shared) (us : List Value),us.length = ps.length → BindsTo s fd ⟨us,[]⟩ (ps.zip us)) ∧
        ∀ base : Heap,(K w.params).In base → base.Ns mainGlobals mg → FnOk r.prog w (K w.params) mg base CX k fa fd ps (sp (K w.params)))
    (hsp : ∀ (K : PySem.W.Frag) (H : Hp) (xs : List V) (a : Codec.denoteAll r.args),OnlyF H → Codec.withinAll r.args a = true → Codec.app r.args r.asked a = true → DwAll K H xs (Codec.encAll r.args a) →
      sp K xs H (fun v H'=>Dw K H' v (r.ret.enc (Codec.app r.args r.f a))) fun _ _ _=>False)
    (hCX : ∀ (H : Hp) (s : Shared) (e : Value) (s' : Shared),CX [] H s (fun _ _ _=>False) e s' → False) :
    PySem.W.WalkOS q loose XP YP r d [] (fun f vs=>PySem.call f vs) :=
  walk_spec (K:=K) (CX:=fun _=>CX) (sp:=fun w=>sp (K w.params)) hwell hdf hlen hr hY F (fun w H xs a h1 h2 h3 h4=>hsp (K w.params) H xs a h1 h2 h3 h4) fun _ H s e s'=>hCX H s e s'
end L2
end
namespace L2
open PySem PySem.Spec PyProof.Rows
section
variable {X : Cx}
theorem mul_small {i j : Int} {a b : Nat} (h1 : i.natAbs < 2 ^ a) (h2 : j.natAbs < 2 ^ b) (h : a + b ≤ 100000) : IntMulOk i j:=by
  unfold IntMulOk
  have e1:=PyProof.Rows.intBits_le h1
  have e2:=PyProof.Rows.intBits_le h2
  have : Builtin.Int.intTooBig (Builtin.Int.intBits i + Builtin.Int.intBits j) = false:=by
    unfold Builtin.Int.intTooBig
    refine decide_eq_false ?_
    have : (100000 : Nat) ≤ bitsLine:=by decide +kernel
    omega
  rw [this]
  simp
theorem op_mulB : OpR X (binaryOp .Mult) (rI (fun i j=>IntMulOk i j) fun i j=>.int (i * j)):=opI fun _ _ _ _ _ _ _ hc q=>mul_int q hc
theorem op_fdivB : OpR X (binaryOp .FloorDiv) (rI (fun _ j=>0 < j ∧ j.natAbs.log2 < 9000) fun i j=>.int (i / j)):=opI fun i j _ _ _ _ _ hc q=>by
  have h1 : (0 : Int) < j:=hc.1
  exact floordiv_int (by omega) (by rw [Int.fdiv_eq_ediv_of_nonneg i (by omega)]; exact q) (.inl (PyProof.noPylong_of_log2 hc.2))
def tCallV (X : Cx) (i : Nat) (t : TA) : TE:=fun σ H Q=>∃ (f : Addr) (k : Nat) (fd : FuncData) (ps : List Str) (sp : Sp),σ[i]? = some (some (.ref f)) ∧ FnOk X.prog X.w X.K X.mg X.base CX0 k f fd ps sp ∧ Room k X.A ∧ PySem.W.keepIn X.K (.ref f) = true ∧ Binds X.K fd ps [] ∧
  t σ H fun vs H1=>sp vs H1 Q E0
theorem pe_callV {i : Nat} {x : Str} {p pos : Pos} {e : Expr} {es : List Expr} {t : TA} (hN : X.N[i]? = some x) (hv : Vis X.env.scope x) (ha : PA X (e :: es) t) (hd : (x == ("__debug__" : Str)) = false:=by decide) (hcd : (x == ("__classdict__" : Str)) = false:=by decide)
    (he : starEach (e :: es) X.env = (false,eval e X.env) :: starEach es X.env:=by rfl) (hpl : (backTo pos (starEach es X.env)).any (·.1) = false:=by rfl) : PE X (.Call (.Name x p) (e :: es) [] pos) (tCallV X i t):=by
  intro pins s σ H Q I h
  obtain ⟨f,k,fd,ps,sp,e0,F,hr,hk,hb,h⟩:=h
  refine wpAny_Call_Name_kw (thn (pe_var (pos:=p) hN hv hd hcd pins s σ H (fun v H'=>v = .ref f ∧ H' = H) I ⟨_,e0,rfl,rfl⟩) fun u s1 ⟨x1,H1,I1,rx,ex,eH⟩=>?_)
  subst ex eH
  obtain rfl : u = Value.ref f:=rx
  refine PySem.W.callWith_K (h₀:=X.base) I1.ok.mod.kin hk (thn (ha pos pins s1 σ H1 _ I1 h) fun us s2 ⟨vs,H2,I2,r,q⟩=>⟨I2.kIn,?_⟩) he hpl
  exact run_fn (E:=E0) F hr hb .nil pass0 I2 r (by rw [List.append_nil]; exact q)
def KDict (K : PySem.W.Frag) (d : Addr) (l : List (Int × Tok × Addr)) : Prop:=(d == sysModules) = false ∧ (l.map (·.1)).Nodup ∧
  ∃ ep,K.lookup d = some ⟨.type "dict",none,.dict (l.map fun x=>(⟨hashInt x.1,.int x.1 x.2.1,.ref x.2.2⟩ : DictEntry)).toArray ep,#[]⟩
theorem KDict.of {K : PySem.W.Frag} {d : Addr} {l : List (Int × Tok × Addr)} {P : Program} {w : World} {h : Heap} (D : KDict K d l) (k : K.In h) : h.DictOf (intKind P w) d (l.map fun x=>(x.1,Value.ref x.2.2)):=by
  obtain ⟨_,nd,ep,e⟩:=D
  refine ⟨_,_,ep,k _ _ e,⟨rfl,rfl,rfl⟩,rfl,fun en hen=>?_,?_,?_⟩
  · simp only [List.mem_toArray] at hen
    obtain ⟨x,_,rfl⟩:=List.mem_map.mp hen
    exact ⟨x.1,by show Value.isInt x.1 (.int x.1 x.2.1) = true; simp [Value.isInt],rfl⟩
  · show Pairs _ (l.map _) _
    clear nd e
    induction l with
    | nil=>exact .nil
    | cons x l ih=>exact .cons (by show Value.isInt x.1 (.int x.1 x.2.1) = true; simp [Value.isInt]) rfl ih
  · rw [List.map_map]
    exact nd
theorem valueAt_l (l : List (Int × Tok × Addr)) (i : Int) : (valueAt (l.map fun x=>(x.1,Value.ref x.2.2)) i).isSome = decide (i ∈ l.map (·.1)):=by
  induction l with
  | nil=>rfl
  | cons x l ih =>
    unfold valueAt at ih ⊢
    rw [List.map_cons,List.find?_cons]
    by_cases q : x.1 = i
    · simp [q]
    · simp only [q,decide_false]
      rw [ih,List.map_cons]
      have : (i ∈ x.1 :: l.map (·.1)) = (i ∈ l.map (·.1)):=by
        rw [List.mem_cons]
        exact propext ⟨fun z=>z.elim (fun w=>absurd w.symm q) id,.inr⟩
      simp only [this]
theorem valueAt_mem {l : List (Int × Tok × Addr)} (nd : (l.map (·.1)).Nodup) {i : Int} {f : Addr} (h : (i,f) ∈ l.map fun x=>(x.1,x.2.2)) : valueAt (l.map fun x=>(x.1,Value.ref x.2.2)) i = some (.ref f):=by
  induction l with
  | nil=>simp at h
  | cons x l ih =>
    rw [List.map_cons,List.nodup_cons] at nd
    unfold valueAt at ih ⊢
    rw [List.map_cons,List.find?_cons]
    rw [List.map_cons,List.mem_cons] at h
    rcases h with h | h
    · obtain ⟨rfl,rfl⟩:=Prod.mk.inj h
      simp
    · have hm : i ∈ l.map (·.1):=by
        obtain ⟨y,hy,e⟩:=List.mem_map.mp h
        exact List.mem_map.mpr ⟨y,hy,(Prod.mk.inj e).1⟩
      have q : ¬ x.1 = i:=fun z=>nd.1 (z ▸ hm)
      simp only [q,decide_false]
      exact ih nd.2 h
def tKIn (l : List (Int × Tok × Addr)) (ty : TE) : TE:=fun σ H Q=>ty σ H fun y H1=>∃ i,y = .int i ∧ Q (.bl (decide (i ∈ l.map (·.1)))) H1
def tKGet (l : List (Int × Tok × Addr)) (ty : TE) : TE:=fun σ H Q=>ty σ H fun y H1=>∃ i f,y = .int i ∧ (i,f) ∈ l.map (fun x=>(x.1,x.2.2)) ∧ Q (.ref f) H1
theorem pc_kin {l : List (Int × Tok × Addr)} {d : Addr} {x : Str} {p : Pos} {e : Expr} {ty : TE} (D : KDict X.K d l) (hg : Gl X x) (hm : X.mg x = some (.ref d)) (he : PE X e ty) (hd : (x == ("__debug__" : Str)) = false:=by decide) : PC X .In e (.Name x p) (tKIn l ty):=by
  intro pins s σ H Q I h
  refine thn (he pins s σ H _ I h) fun iv s1 ⟨y,H1,I1,ry,i,ey,q1⟩=>ld_glob I1 hg hm ?_ hd
  subst ey
  obtain ⟨t,rfl⟩:=ry
  have dd:=D.of (P:=X.prog) (w:=X.w) I1.kIn
  refine wpAny_in_of (k:=i) (by show Value.isInt i (.int i t) = true; simp [Value.isInt]) D.1 dd.mapOf ?_
  exact ⟨.bl _,H1,I1.tok _,by rw [valueAt_l]; rfl,q1⟩
theorem pe_kget {l : List (Int × Tok × Addr)} {d : Addr} {x : Str} {p pos : Pos} {e : Expr} {ty : TE} (D : KDict X.K d l) (hg : Gl X x) (hm : X.mg x = some (.ref d)) (he : PE X e ty) (hs : NoSl e) (hd : (x == ("__debug__" : Str)) = false:=by decide) : PE X (.Subscript (.Name x p) e pos) (tKGet l ty):=by
  intro pins s σ H Q I h
  refine subD_of PySem.F.slot_dict_getitem.lookup hs (ld_glob I hg hm (thn (he pins s σ H _ I h) fun iv s1 ⟨y,H1,I1,ry,i,f,ey,hf,q1⟩=>?_) hd)
  subst ey
  obtain ⟨t,rfl⟩:=ry
  have dd:=D.of (P:=X.prog) (w:=X.w) I1.kIn
  exact ⟨dd.typeIs,wpAny_getItem_of (k:=i) (by show Value.isInt i (.int i t) = true; simp [Value.isInt]) dd.mapOf (valueAt_mem D.2.1 hf) ⟨.ref f,H1,I1.tok _,rfl,q1⟩⟩
end
section
variable {prog : Program} {w : World} {κ : Type} [DecidableEq κ] {knd : HeapKind prog w κ} {A : Around} {E : Value → Shared → Prop} {s : Shared} {d a : Addr} {k : κ} {xs : List (κ × Addr × Value)}
theorem erase_mapX {α β : Type} (g : α → β) : ∀ (l : List α) (i : Nat),(l.map g).eraseIdx i = (l.eraseIdx i).map g
  | [],i=>by simp
  | a :: l,0=>rfl
  | a :: l,i + 1=>by
    show g a :: (l.map g).eraseIdx i = g a :: (l.eraseIdx i).map g
    rw [erase_mapX g l i]
theorem erase_is : ∀ {xs : List (κ × Addr × Value)} {j : Nat} {k : κ} {p : Addr × Value},(xs.map (·.1)).Nodup → xs[j]? = some (k,p) → xs.eraseIdx j = xs.filter fun x=>decide (x.1 ≠ k)
  | [],j,k,p,_,h=>by simp at h
  | x :: xs,0,k,p,nd,h=>by
    rw [List.map_cons,List.nodup_cons] at nd
    have e : x = (k,p):=Option.some.inj h
    subst e
    rw [List.eraseIdx_zero,List.filter_cons,if_neg (by simp),List.tail_cons]
    refine (List.filter_eq_self.mpr fun y hy=>?_).symm
    refine decide_eq_true fun z=>nd.1 ?_
    rw [← z]
    exact List.mem_map.mpr ⟨y,hy,rfl⟩
  | x :: xs,j + 1,k,p,nd,h=>by
    rw [List.map_cons,List.nodup_cons] at nd
    have h' : xs[j]? = some (k,p):=h
    have hm : k ∈ xs.map (·.1):=List.mem_map.mpr ⟨(k,p),List.mem_of_getElem? h',rfl⟩
    rw [List.eraseIdx_cons_succ,List.filter_cons,if_pos (decide_eq_true (show x.1 ≠ k from fun z=>nd.1 (z ▸ hm))),erase_is nd.2 h']
theorem takeOut_heap {p : Addr × Value} {Q : Option DictEntry → Shared → Prop} (hu : knd.room A) (hkey : knd.is s.heap k a) (hm : s.heap.DictOfH knd d xs) (hp : atKey xs k = some p)
    (h : ∀ e h',e.val = p.2 → h'.DictOfH knd d (xs.filter fun x=>decide (x.1 ≠ k)) → Heap.SameBut d s.heap h' → Q (some e) { s with heap:=h',toks:=s.toks + knd.draws k }) (hsz : xs.length ≤ sizeLine) :
    wpAny (model prog w) A (Builtin.Dict.takeOut d (.ref a)) Q E s:=by
  obtain ⟨o,es,ep,ho,hc,hd,he,his,hn⟩:=hm
  have hes : es.size ≤ sizeLine:=by have:=size_of_entries he; omega
  unfold Builtin.Dict.takeOut
  try with_reducible refine wpAny_holding ?_
  refine wpAny_bind (knd.pyHash hu hkey ?_)
  refine wpAny_bind (wpAny_dictFind_heap (s:={ s with toks:=s.toks + knd.draws k }) hu hkey ho hd he his hn ?_ ?_)
  · intro hno
    rw [atKey_none_of_get hno] at hp
    cases hp
  · intro j p' hj
    have ep' : p' = p:=by
      rw [atKey_of_get hn hj] at hp
      exact Option.some.inj hp
    subst ep'
    refine wpAny_bind (wpAny_dictEntries (s:={ s with toks:=s.toks + knd.draws k }) ho hd ?_)
    have hx : es[j]? = some (entryOfKey knd (k,p')):=by rw [entry_at he j,hj]; rfl
    rw [hx]
    refine wpAny_bind (wpAny_updateDictKeys (hz:=hes) (s:={ s with toks:=s.toks + knd.draws k }) ho hd (wpAny_pure (h _ _ rfl ⟨_,_,ep + 1,Heap.get?_update_self _ ho (Obj.isFreed_of_dict (Obj.data_mapDictKeys hd _)),
      hc.mapDictKeys _,Obj.data_mapDictKeys hd _,?_,?_,?_⟩ (Heap.SameBut.update ..))))
    · rw [← erase_is hn hj]
      have hjs : j < es.size:=(Array.getElem?_eq_some_iff.mp hx).1
      rw [Array.eraseIdxIfInBounds,dif_pos hjs,Array.toList_eraseIdx,he,erase_mapX]
    · intro x hx
      exact knd.keeps (his x (List.mem_filter.mp hx).1) ho hd (Heap.SameBut.update ..)
    · exact List.Pairwise.map _ (fun _ _ h=>h) (List.Pairwise.filter _ (List.pairwise_map.mp hn))
theorem meetsH_dict_pop (knd : HeapKind prog w κ) (d a : Addr) :
    MeetsIn prog w (Builtin.«dict.pop» ⟨[.ref d,.ref a],[]⟩) (fun A R s=>knd.room A.in1 ∧ ∃ k xs p,knd.is s.heap k a ∧ s.heap.DictOfH knd d xs ∧ xs.length ≤ sizeLine ∧ atKey xs k = some p ∧
      ∀ h',h'.DictOfH knd d (xs.filter fun x=>decide (x.1 ≠ k)) → Heap.SameBut d s.heap h' → R (.ok (.ret p.2)) { s with heap:=h',toks:=s.toks + knd.draws k }) :=
  .of_wp fun A R s ⟨hu,k,xs,p,hkey,hm,hsz,hp,h⟩=>by
    unfold Builtin.«dict.pop»
    refine wpAny_bind ?_
    unfold Builtin.Dict.keyAndDefault
    refine wpAny_bind (wpAny_notOrdered_dict hm.typeIs ?_)
    show wpAny _ _ (pure (d,Value.ref a,none)) _ _ s
    refine wpAny_pure ?_
    obtain ⟨o,es,ep,ho,hc,hd,he,his,hn⟩:=id hm
    have ne : es.isEmpty = false:=by
      cases q : es.isEmpty with
      | false=>rfl
      | true =>
        have : es = #[]:=Array.isEmpty_iff.mp q
        subst this
        have : xs = []:=List.map_eq_nil_iff.mp he.symm
        subst this
        cases hp
    simp only [show (keyPart (Value.ref a)).isSome = false from rfl,Bool.false_eq_true,if_false]
    refine wpAny_bind (wpAny_dictEntries ho hd (wpAny_bind (wpAny_pure ?_)))
    rw [ne]
    simp only [Bool.false_eq_true,if_false]
    refine wpAny_bind (takeOut_heap hu hkey hm hp (fun e h' ev hm' hs'=>?_) hsz)
    simp only [Option.isNone_some,Bool.false_eq_true,if_false]
    exact wpAny_bind (wpAny_letGo (wpAny_pure ⟨e.val,rfl,by rw [ev]; exact h h' hm' hs'⟩))
end
theorem KT.drop {H : Hp} {kvs : List (List Key × V)} {xs : List (List Key × Addr × Value)} (r : KT H kvs xs) (k : List Key) : KT H (dropK kvs k) (xs.filter fun x=>decide (x.1 ≠ k)):=by
  unfold dropK
  induction r with
  | nil=>exact .nil
  | @cons p q ps qs h t ih =>
    obtain ⟨h1,h2⟩:=h
    rw [List.filter_cons,List.filter_cons]
    by_cases e : p.1 = k
    · have a : ¬ decide (p.1 ≠ k) = true:=by simp [e]
      have b : ¬ decide (q.1 ≠ k) = true:=by simp [h1.symm.trans e]
      rw [if_neg a,if_neg b]; exact ih
    · have e' : ¬ q.1 = k:=fun z=>e (h1.trans z)
      have a : decide (p.1 ≠ k) = true:=by simp [e]
      have b : decide (q.1 ≠ k) = true:=by simp [e']
      rw [if_pos a,if_pos b]; exact .cons ⟨h1,h2⟩ ih
section
variable {X : Cx} {o e : Expr} {apos cpos : Pos} {td ty : TE}
def tDPopT (td ty : TE) : TE:=fun σ H Q=>td σ H fun x H1=>∃ a,x = .ref a ∧ IsD H1 a ∧ ty σ H1 fun y H2=>∃ kvs k b v,H2 a = some (.dT kvs) ∧ y = .ref b ∧ H2 b = some (.tup (k.map kV)) ∧ valV kvs k = some v ∧ Q v (upd H2 a (.dT (dropK kvs k)))
theorem pe_dpopT (hu : X.A.units + 1 < cLine) (ho : PE X o td) (he : PE X e ty) (m : M1 X o "pop" apos e cpos) : PE X (.Call (.Attribute o "pop" apos) [e] [] cpos) (tDPopT td ty):=by
  intro pins s σ H Q I h
  refine wpAny_Call_method m.base m.few m.line PySem.F.plainAttrs_dict PySem.F.slot_dict_pop PySem.F.type_dict_pop (thn (ho pins s σ H _ I h) fun u s1 ⟨x,H1,I1,rx,a,ex,d,q1⟩=>?_)
  subst ex
  obtain rfl : u = Value.ref a:=rx
  obtain ⟨t1,t2,_⟩:=isD_at I1 d
  refine ⟨t1,t2,?_⟩
  rw [m.trees]
  refine Calls.callWith_builtin rfl (Calls.evalArgs_plain (Calls.spliced_cons (thn (he pins s1 σ H1 _ I1 q1) fun iv s2 ⟨y,H2,I2,ry,kvs,k,b,v,ea,ey,eb,l,q2⟩=>Calls.spliced_nil ?_)))
  subst ey
  obtain rfl : iv = Value.ref b:=ry
  obtain ⟨z,hd,xs,rel,dd⟩:=dt_of I2.hok ea
  have hz : xs.length ≤ sizeLine:=by rw [← Paired.length rel]; exact z
  obtain ⟨w',hw,rw'⟩:=RelO.some_of (v:=v) (o:=(atKey xs k).map (·.2)) (by rw [← l]; exact rel.val k)
  obtain ⟨p,hp,hp2⟩:=Option.map_eq_some_iff.mp hw
  subst hp2
  refine call_meetsIn PySem.F.slot_dict_pop dd.typeIs PySem.F.entry_dict_pop (PySem.F.args_dict_pop_2 _ _) (meetsH_dict_pop (tupleKind (mixKind X.prog X.w)) a b) ⟨tupleKind_room_in1 hu,k,xs,p,key_of I2.hok eb,dd,hz,hp,fun h' dd' hs=>⟨v,_,?_,rw',q2⟩⟩
  obtain ⟨q,es,ep,hq,h2,h3,h4,_,h5⟩:=dd'
  refine d_write I2 (by rw [ea]; exact True.intro) hs ⟨q,hq⟩ ⟨Nat.le_trans (dropK_le kvs k) z,hd,_,(rel.drop k).keeps fun c ys ec=>?_,q,es,ep,hq,h2,h3,h4,h5⟩
  rw [upd_ne (ne_of ec ea (fun z=>nomatch z))]
  exact ec
end
end L2
namespace L2
open PySem PySem.Spec PyProof.Rows
section
variable {X : Cx}
theorem pe_disp1T {k v : Expr} {tk tv : TE} {pos : Pos} (hu : X.A.units < cLine) (hk : PE X k tk) (hv : PE X v tv) : PE X (.Dict [some k] [v] pos) (tDisp1T tk tv):=by
  intro pins s σ H Q I q
  have hn:=I.hok.fresh (Nat.le_refl s.heap.objs.size)
  have I1:=I.laid (a:=s.heap.objs.size) (o:=.dT []) (h':=s.heap.push { cls:=.type "dict",data:=.dict #[] }) (t':=s.toks) (fun _ _ q=>Heap.get?_push_of_some _ q) (Nat.le_refl _) (dt_empty s.heap I.big)
  let Q0 : List (V × V) → Hp → Prop:=fun ps H2=>match ps with
    | [(x,y)]=>H2 s.heap.objs.size = some (.dT []) ∧ ∃ H3,DPut H2 s.heap.objs.size x y H3 ∧ Q (.ref s.heap.objs.size) H3
    | _=>False
  refine wpAny_Dict_any rfl rfl (by simp) (by show 1 ≤ 15; decide) (thn ((pps_cons hk hv pps_nil) pins _ σ _ Q0 I1 (q _ hn)) fun ws s2 ⟨ps,H2,I2,rel,z⟩=>?_)
  match ps,rel,z with
  | [(x,y)],rel,z =>
    cases rel with
    | @cons _ b _ bs h t =>
      cases t
      obtain ⟨u,w⟩:=b
      obtain ⟨rx,ry⟩:=h
      obtain ⟨e,H3,g,q3⟩:=z
      unfold storeAll
      rw [List.forIn_cons]
      rcases g with ⟨kvs,k,e',_⟩ | ⟨kvs,k,b,e',ey,eb,l,eH⟩
      · rw [e] at e'
        cases e'
      · rw [e] at e'
        cases e'
        subst eH
        subst ey
        cases (show u = Value.ref b from rx)
        obtain ⟨z,hd,xs,rel,dd⟩:=dt_of I2.hok e
        cases rel
        refine wpAny_bind (wpAny_bind (wpAny_dictSet_heap (hsz:=Nat.zero_le _) (knd:=tupleKind (mixKind X.prog X.w)) hu (key_of I2.hok eb) dd fun h' dd' hs=>wpAny_pure ?_))
        show wpAny _ _ (forIn ([] : List (Value × Value)) PUnit.unit _) _ _ _
        rw [List.forIn_nil]
        refine wpAny_pure ⟨.ref s.heap.objs.size,_,?_,rfl,q3⟩
        obtain ⟨q,es,ep,hq,h2,h3,h4,_,h5⟩:=dd'
        refine d_write I2 (by rw [e]; exact True.intro) hs ⟨q,hq⟩ ⟨by rw [sizeLine_eq]; show 1 ≤ _; omega,hd,_,(KT.put (k:=k) .nil eb ry).keeps fun c ys ec=>?_,q,es,ep,hq,h2,h3,h4,h5⟩
        rw [upd_ne (ne_of ec e (fun z=>nomatch z))]
        exact ec
  | [],_,z=>exact z.elim
  | _ :: _ :: _,_,z=>exact z.elim
def rngV (i : Int) (n : Nat) : List V:=(List.range n).map fun (k : Nat)=>V.int (i + (k : Int))
def tLRng (ta : TA) : TE:=fun σ H Q=>ta σ H fun vs H1=>∃ (i : Int) (n : Nat),vs = [.int i,.int (i + (n : Int))] ∧ -(2 ^ 60) ≤ i ∧ i < 2 ^ 60 ∧ n ≤ 1000 ∧ ∀ p,H1 p = none → Q (.ref p) (upd H1 p (.lst (rngV i n)))
theorem pe_lrange {a b : Expr} {ta : TA} {p pos p' pos' : Pos} (hg : Gl X "list") (hm : X.mg "list" = none) (hg' : Gl X "range") (hm' : X.mg "range" = none) (ha : PA X [a,b] ta)
    (hs : starEach [a,b] X.env = [(false,eval a X.env),(false,eval b X.env)]:=by rfl) (hs2 : starEach [b] X.env = [(false,eval b X.env)]:=by rfl)
    (hs3 : starEach [.Call (.Name "range" p) [a,b] [] pos] X.env = [(false,eval (.Call (.Name "range" p) [a,b] [] pos) X.env)]:=by rfl) (hcalm : X.calm = true:=by rfl) :
    PE X (.Call (.Name "list" p') [.Call (.Name "range" p) [a,b] [] pos] [] pos') (tLRng ta):=by
  intro pins s σ H Q I h
  refine wpAny_Call_Name_kw (ld_blt I hg hm boot_list ?_)
  refine PyProof.Rows.callWith_type1 ?_ (by rw [hs3]; rfl) rfl
  rw [hs3]
  refine Calls.spliced_cons (Call_ (ld_blt I hg' hm' boot_range (PyProof.Rows.callWith_type1 (thn (ha pos pins s σ H _ I h) fun us s1 ⟨vs,H1,I1,r1,q1⟩=>?_) (by rw [hs,hs2]) (by rw [hs2]; rfl))))
  obtain ⟨i,n,e,q1,q2,q3,q⟩:=q1
  subst e
  cases r1 with
  | cons r rr =>
    cases rr with
    | cons r' rr =>
      cases rr
      obtain ⟨t,rfl⟩:=r
      obtain ⟨t',rfl⟩:=r'
      refine call_range_2 (Calls.spliced_nil ?_)
      have I2 : Inv X pins σ H1 { s1 with heap:=s1.heap.push { cls:=.type "range",data:=.fields #[.int i t,.int (i + (n : Int)) t',.int 1 s1.toks] },toks:=s1.toks + 1 }:=I1.kept fun b o e=>Heap.get?_push_of_some _ e
      refine call_list_range (I.ok.hd hcalm) (IsRange.new ..) (small_one (by omega) (by omega) (by omega) (by omega)) (n:=n) (by rw [rangeSize_one]; split <;> omega) (by omega) fun h' tk acc' c' hk hS hit=>?_
      have hz : acc'.size = n:=hit.1
      have hv : Vals (rngV i n) acc'.toList:=by
        have : ∀ (m : Nat) (l : List Value) (f : Nat → Int),l.length = m → (∀ j v,l[j]? = some v → ∃ t,v = Value.int (f j) t) → Vals ((List.range m).map fun k=>V.int (f k)) l:=by
          intro m
          induction m with
          | zero=>intro l f hl _; rw [List.length_eq_zero_iff.mp hl]; exact .nil
          | succ m ih =>
            intro l f hl h
            cases l with
            | nil=>simp at hl
            | cons x l =>
              rw [List.range_succ_eq_map,List.map_cons,List.map_map]
              exact .cons (h 0 x rfl) (ih l (fun j=>f (j + 1)) (by simpa using hl) fun j v e=>h (j + 1) v e)
        refine this n acc'.toList (fun k=>i + (k : Int)) (by simpa using hz) fun j v e=>?_
        obtain ⟨t,e'⟩:=hit.2 j v (by rw [← Array.getElem?_toList]; exact e)
        exact ⟨t,by rw [e']; simp⟩
      have kp : ∀ b o,s1.heap.get? b = some o → h'.get? b = some o:=fun b o e=>hk b o (Heap.get?_push_of_some _ e)
      have hp : s1.heap.objs.size ≤ (s1.heap.push { cls:=.type "range",data:=.fields #[Value.int i t,Value.int (i + (n : Int)) t',Value.int 1 s1.toks] }).objs.size:=by show _ ≤ (s1.heap.objs.push _).size; rw [Array.size_push]; omega
      refine ⟨.ref _,_,I1.laid (t':=tk) kp hp (show ObjOk X.prog X.w _ h' _ (.lst (rngV i n)) from ⟨?_,acc'.toList,c',hv,by simpa using hS⟩),rfl,q _ (I1.hok.fresh hp)⟩
      unfold rngV
      rw [List.length_map,List.length_range,sizeLine_eq]
      omega
end
theorem for_keysT {d : Addr} {o : Obj} {kvs : List (List Key × V)} {g : TG} {tb : TS} {D : Ends} {σ : St} {H : Hp} (Pv : Nat → St → Hp → Prop) (h0 : Pv 0 σ H) (hl : ∀ i σ H,i ≤ kvs.length → Pv i σ H → H d = some (.frz o (.dT kvs)))
    (hs : ∀ i k v q σ H,kvs[i]? = some (k,v) → H q = some (.tup (k.map kV)) → Pv i σ H → g (.ref q) σ H fun σ2 H2=>tb { D with nx:=Pv (i + 1),ct:=Pv (i + 1),bk:=D.nx } σ2 H2) (hd : ∀ σ H,Pv kvs.length σ H → D.nx σ H) :
    ∃ W : Nat → Nat → St → Hp → Prop,(∃ m,W 0 m σ H) ∧ ∀ i m σ H,W i m σ H →
      ((Itkt d o kvs).stop i H ∧ D.nx σ H) ∨ ((Itkt d o kvs).go i H ∧ ∃ N : St → Hp → Prop,(∀ σ' H',N σ' H' → ∃ m',m' < m ∧ W (i + 1) m' σ' H') ∧ ∀ x H',(Itkt d o kvs).yld i H x H' → g x σ H' fun σ2 H2=>tb { D with nx:=N,ct:=N,bk:=D.nx } σ2 H2):=by
  refine ⟨fun i m σ H=>m = kvs.length - i ∧ i ≤ kvs.length ∧ Pv i σ H,⟨kvs.length,by simp,Nat.zero_le _,h0⟩,?_⟩
  rintro i m σ H ⟨rfl,hi,p⟩
  have q:=hl i σ H hi p
  by_cases hlt : i < kvs.length
  · refine .inr ⟨⟨q,hlt⟩,Pv (i + 1),fun σ' H' p'=>⟨kvs.length - (i + 1),by omega,rfl,hlt,p'⟩,fun x H' y=>?_⟩
    obtain ⟨e,k,v,r,e1,e2,e3⟩:=y
    subst e e2
    exact hs i k v r σ _ e1 e3 p
  · have e : i = kvs.length:=by omega
    subst e
    exact .inl ⟨⟨q,Nat.le_refl _⟩,hd σ H p⟩
end L2
namespace Fw
open Vbecai
theorem nodup_le {α : Type} [BEq α] [LawfulBEq α] : ∀ (l1 l2 : List α),l1.Nodup → (∀ x ∈ l1,x ∈ l2) → l1.length ≤ l2.length
  | [],_,_,_=>Nat.zero_le _
  | a :: l,l2,h,hs=>by
    have ha : a ∈ l2:=hs a (by simp)
    have hn:=List.nodup_cons.mp h
    have:=nodup_le l (l2.erase a) hn.2 (fun x hx=>by
      have hxa : x ≠ a:=fun e=>hn.1 (e ▸ hx)
      exact (List.mem_erase_of_ne hxa).mpr (hs x (by simp [hx])))
    rw [List.length_erase_of_mem ha] at this
    have hp : 0 < l2.length:=List.length_pos_of_mem ha
    simp only [List.length_cons]
    omega
theorem nodup_lt {α : Type} [BEq α] [LawfulBEq α] {l1 l2 : List α} {y : α} (h : l1.Nodup) (hs : ∀ x ∈ l1,x ∈ l2) (hy : y ∈ l2) (hn : y ∉ l1) : l1.length < l2.length:=by
  have:=nodup_le (y :: l1) l2 (List.nodup_cons.mpr ⟨hn,h⟩) (fun x hx=>by
    rcases List.mem_cons.mp hx with e | e
    · exact e ▸ hy
    · exact hs x e)
  exact this
structure WF (s : State) : Prop where
  n1 : 1 ≤ s.n
  n10 : s.n ≤ 10
  rng : ∀ x ∈ s.links,x.1 ≤ s.n ∧ 1 ≤ x.2.1 ∧ x.2.1 ≤ s.n ∧ x.1 ≠ x.2.1 ∧ 1 ≤ x.2.2 ∧ x.2.2 ≤ 1000
  srt : s.links.Pairwise fun a b=>lessLink a b = true
def Lk (s : State) (f e : Nat) : Prop:=∃ w,(f,e,w) ∈ s.links
theorem mem_kinds {s : State} {k : Nat} : k ∈ s.kinds ↔ 1 ≤ k ∧ k ≤ s.n:=by
  simp only [State.kinds,List.mem_map,List.mem_range]
  constructor
  · rintro ⟨i,h,rfl⟩; omega
  · intro h; exact ⟨k - 1,by omega,by omega⟩
theorem nodup_range (n : Nat) : (List.range n).Nodup:=List.nodup_range
theorem nodup_kinds {s : State} : s.kinds.Nodup:=by
  unfold State.kinds
  rw [List.nodup_iff_pairwise_ne,List.pairwise_map]
  exact (List.nodup_iff_pairwise_ne.mp List.nodup_range).imp (fun h e=>h (by omega))
theorem length_kinds {s : State} : s.kinds.length = s.n:=by simp [State.kinds]
theorem sorted_kinds {s : State} : s.kinds.Pairwise (· < ·):=by
  unfold State.kinds
  rw [List.pairwise_map]
  exact List.pairwise_lt_range.imp (fun h=>by omega)
theorem linked_iff {s : State} {f e : Nat} : linked s f e = true ↔ Lk s f e:=by
  unfold linked Lk
  rw [List.any_eq_true]
  constructor
  · rintro ⟨⟨a,b,w⟩,h,h2⟩
    simp at h2
    exact ⟨w,h2.1 ▸ h2.2 ▸ h⟩
  · rintro ⟨w,h⟩
    exact ⟨_,h,by simp⟩
theorem mem_foods {s : State} {f e w : Nat} : (f,w) ∈ foods s e ↔ (f,e,w) ∈ s.links:=by
  unfold foods
  simp only [List.mem_map,List.mem_filter]
  constructor
  · rintro ⟨⟨a,b,c⟩,⟨h,h2⟩,h3⟩
    simp at h2 h3
    rw [← h3.1,← h3.2,← h2]
    exact h
  · intro h
    exact ⟨(f,e,w),⟨h,by simp⟩,rfl⟩
theorem mem_widened {s : State} {gone l : List Nat} {e : Nat} : e ∈ widened s gone l ↔ e ∈ s.kinds ∧ e ∉ gone ∧ (e ∈ l ∨ ∃ f,Lk s f e ∧ (f = 0 ∨ f ∈ l)):=by
  unfold widened
  simp only [List.mem_filter,Bool.and_eq_true,Bool.or_eq_true,List.any_eq_true,Bool.not_eq_true',List.contains_eq_mem,decide_eq_false_iff_not,decide_eq_true_eq,beq_iff_eq]
  constructor
  · rintro ⟨h1,h2,h3⟩
    refine ⟨h1,h2,?_⟩
    rcases h3 with h | ⟨⟨f,w⟩,h,h'⟩
    · exact .inl h
    · exact .inr ⟨f,⟨w,mem_foods.mp h⟩,h'⟩
  · rintro ⟨h1,h2,h3⟩
    refine ⟨h1,h2,?_⟩
    rcases h3 with h | ⟨f,⟨w,hw⟩,h'⟩
    · exact .inl h
    · exact .inr ⟨(f,w),mem_foods.mpr hw,h'⟩
inductive Lv (s : State) (gone : List Nat) : Nat → Prop
  | sun {e : Nat} : e ∈ s.kinds → e ∉ gone → Lk s 0 e → Lv s gone e
  | step {f e : Nat} : Lv s gone f → e ∈ s.kinds → e ∉ gone → Lk s f e → Lv s gone e
theorem Lv.kind {s : State} {gone : List Nat} {e : Nat} (h : Lv s gone e) : e ∈ s.kinds ∧ e ∉ gone:=by
  cases h with
  | sun a b _=>exact ⟨a,b⟩
  | step _ a b _=>exact ⟨a,b⟩
theorem Lv.mono {s : State} {g g' : List Nat} {e : Nat} (h : Lv s g e) (hg : ∀ x ∈ g',x ∈ g) : Lv s g' e:=by
  induction h with
  | sun a b c=>exact .sun a (fun q=>b (hg _ q)) c
  | step _ a b c ih=>exact .step ih a (fun q=>b (hg _ q)) c
theorem rounds_sound {s : State} {gone : List Nat} : ∀ {m e : Nat},e ∈ rounds s gone m → Lv s gone e
  | 0,e,h=>by simp [rounds] at h
  | m + 1,e,h=>by
    obtain ⟨h1,h2,h3⟩:=mem_widened.mp (show e ∈ widened s gone (rounds s gone m) from h)
    rcases h3 with h3 | ⟨f,hf,h3⟩
    · exact rounds_sound h3
    · rcases h3 with rfl | h3
      · exact .sun h1 h2 hf
      · exact .step (rounds_sound h3) h1 h2 hf
theorem rounds_mono {s : State} {gone : List Nat} {m e : Nat} (h : e ∈ rounds s gone m) : e ∈ rounds s gone (m + 1):=by
  have:=(rounds_sound h).kind
  exact mem_widened.mpr ⟨this.1,this.2,.inl h⟩
theorem rounds_nodup {s : State} {gone : List Nat} : ∀ m : Nat,(rounds s gone m).Nodup
  | 0=>List.nodup_nil
  | _ + 1=>List.Pairwise.filter _ nodup_kinds
theorem rounds_sorted {s : State} {gone : List Nat} : ∀ m : Nat,(rounds s gone m).Pairwise (· < ·)
  | 0=>List.Pairwise.nil
  | _ + 1=>List.Pairwise.filter _ sorted_kinds
theorem rounds_closed {s : State} {gone : List Nat} {m : Nat} (h : ∀ e ∈ rounds s gone (m + 1),e ∈ rounds s gone m) {e : Nat} (he : Lv s gone e) : e ∈ rounds s gone m:=by
  induction he with
  | sun a b c=>exact h _ (mem_widened.mpr ⟨a,b,.inr ⟨0,c,.inl rfl⟩⟩)
  | step _ a b c ih=>exact h _ (mem_widened.mpr ⟨a,b,.inr ⟨_,c,.inr ih⟩⟩)
theorem rounds_full {s : State} {gone : List Nat} : ∀ m : Nat,(∀ e,Lv s gone e → e ∈ rounds s gone m) ∨ m ≤ (rounds s gone m).length
  | 0=>.inr (Nat.zero_le _)
  | m + 1=>by
    rcases rounds_full m with h | h
    · exact .inl fun e he=>rounds_mono (h e he)
    · by_cases c : ∀ e ∈ rounds s gone (m + 1),e ∈ rounds s gone m
      · exact .inl fun e he=>rounds_mono (rounds_closed c he)
      · refine .inr ?_
        have : ∃ e,e ∈ rounds s gone (m + 1) ∧ e ∉ rounds s gone m:=Classical.byContradiction fun q=>c fun e he=>Classical.byContradiction fun q2=>q ⟨e,he,q2⟩
        obtain ⟨e,h1,h2⟩:=this
        have:=nodup_lt (rounds_nodup m) (fun x hx=>rounds_mono hx) h1 h2
        omega
theorem rounds_n {s : State} {gone : List Nat} {e : Nat} (h : Lv s gone e) : e ∈ rounds s gone s.n:=by
  rcases rounds_full (s:=s) (gone:=gone) s.n with q | q
  · exact q e h
  · refine Classical.byContradiction fun c=>?_
    have:=nodup_lt (rounds_nodup s.n) (fun x hx=>(rounds_sound hx).kind.1) h.kind.1 c
    rw [length_kinds] at this
    omega
theorem mem_alive {s : State} {gone : List Nat} {e : Nat} : e ∈ alive s gone ↔ Lv s gone e:=⟨rounds_sound,rounds_n⟩
theorem alive_sorted {s : State} {gone : List Nat} : (alive s gone).Pairwise (· < ·):=rounds_sorted _
theorem sorted_ext : ∀ {l1 l2 : List Nat},l1.Pairwise (· < ·) → l2.Pairwise (· < ·) → (∀ x,x ∈ l1 ↔ x ∈ l2) → l1 = l2
  | [],[],_,_,_=>rfl
  | [],b :: l2,_,_,h=>by have:=(h b).mpr (by simp); simp at this
  | a :: l1,[],_,_,h=>by have:=(h a).mp (by simp); simp at this
  | a :: l1,b :: l2,h1,h2,h=>by
    have q1:=List.pairwise_cons.mp h1
    have q2:=List.pairwise_cons.mp h2
    have hab : a = b:=by
      have i1 : a ∈ b :: l2:=(h a).mp (by simp)
      have i2 : b ∈ a :: l1:=(h b).mpr (by simp)
      rcases List.mem_cons.mp i1 with e | e
      · exact e
      · rcases List.mem_cons.mp i2 with e' | e'
        · exact e'.symm
        · have:=q1.1 b e'; have:=q2.1 a e; omega
    subst hab
    have : l1 = l2:=sorted_ext q1.2 q2.2 fun x=>by
      constructor
      · intro hx
        rcases List.mem_cons.mp ((h x).mp (by simp [hx])) with e | e
        · have:=q1.1 x hx; omega
        · exact e
      · intro hx
        rcases List.mem_cons.mp ((h x).mpr (by simp [hx])) with e | e
        · have:=q2.1 x hx; omega
        · exact e
    rw [this]
theorem alive_filter {s : State} {gone : List Nat} (p : Nat → Bool) (h : ∀ e ∈ s.kinds,p e = true ↔ Lv s gone e) : s.kinds.filter p = alive s gone:=by
  refine sorted_ext (List.Pairwise.filter _ sorted_kinds) alive_sorted fun x=>?_
  rw [List.mem_filter,mem_alive]
  constructor
  · rintro ⟨a,b⟩; exact (h x a).mp b
  · intro q; exact ⟨q.kind.1,(h x q.kind.1).mpr q⟩
end Fw
namespace Fw
open Vbecai
def ind (b : Bool) : Int:=if b then 1 else 0
def netS (S : Nat → Bool) (u : List (Nat × Nat)) : Int:=(u.map fun a=>ind (S a.1) - ind (S a.2)).sum
theorem netS_cons (S : Nat → Bool) (x : Nat × Nat) (u : List (Nat × Nat)) : netS S (x :: u) = (ind (S x.1) - ind (S x.2)) + netS S u:=by
  simp [netS]
theorem filter_ne_self {z : Nat × Nat} : ∀ {u : List (Nat × Nat)},z ∉ u → u.filter (fun b=>b != z) = u
  | [],_=>rfl
  | y :: u,h=>by
    have h1 : y ≠ z:=fun e=>h (by simp [e])
    rw [List.filter_cons,if_pos (by simpa using h1),filter_ne_self (fun q=>h (by simp [q]))]
theorem netS_take (S : Nat → Bool) {z : Nat × Nat} : ∀ {u : List (Nat × Nat)},u.Nodup → z ∈ u → netS S u = netS S (u.filter fun b=>b != z) + (ind (S z.1) - ind (S z.2))
  | [],_,h=>by simp at h
  | y :: u,hn,h=>by
    have hn':=List.nodup_cons.mp hn
    by_cases e : y = z
    · subst e
      rw [List.filter_cons,if_neg (by simp),filter_ne_self hn'.1,netS_cons]
      omega
    · have hz : z ∈ u:=by
        rcases List.mem_cons.mp h with q | q
        · exact absurd q.symm e
        · exact q
      rw [List.filter_cons,if_pos (by simpa using e),netS_cons,netS_cons,netS_take S hn'.2 hz]
      omega
theorem mem_arcs {s : State} {k : Nat} {a : Nat × Nat} : a ∈ arcs s k ↔ (∃ v,v ∈ s.kinds ∧ v ≠ k ∧ a = (2 * v,2 * v + 1)) ∨ (∃ f e,Lk s f e ∧ f ≠ k ∧ a = (2 * f + 1,2 * e)):=by
  unfold arcs
  rw [List.mem_append,List.mem_map,List.mem_map]
  constructor
  · rintro (⟨v,h,rfl⟩ | ⟨⟨f,e,w⟩,h,rfl⟩)
    · rw [List.mem_filter] at h
      exact .inl ⟨v,h.1,by simpa using h.2,rfl⟩
    · rw [List.mem_filter] at h
      exact .inr ⟨f,e,⟨w,h.1⟩,by simpa using h.2,rfl⟩
  · rintro (⟨v,h,h2,rfl⟩ | ⟨f,e,⟨w,h⟩,h2,rfl⟩)
    · exact .inl ⟨v,List.mem_filter.mpr ⟨h,by simpa using h2⟩,rfl⟩
    · exact .inr ⟨(f,e,w),List.mem_filter.mpr ⟨h,by simpa using h2⟩,rfl⟩
theorem Lk.ne {s : State} (W : WF s) {f e : Nat} (h : Lk s f e) : f ≠ e ∧ f ≤ s.n ∧ e ∈ s.kinds:=by
  obtain ⟨w,h⟩:=h
  have:=W.rng _ h
  exact ⟨this.2.2.2.1,this.1,mem_kinds.mpr ⟨this.2.1,this.2.2.1⟩⟩
structure Flow (s : State) (k : Nat) (u : List (Nat × Nat)) (val : Int) : Prop where
  nd : u.Nodup
  sub : ∀ a ∈ u,a ∈ arcs s k
  net : ∀ S : Nat → Bool,S 1 = true → S (2 * k) = false → netS S u = val
theorem netS_le (S : Nat → Bool) : ∀ u : List (Nat × Nat),netS S u ≤ ((u.filter fun a=>S a.1 && !S a.2).length : Int)
  | []=>by simp [netS]
  | x :: u=>by
    have ih:=netS_le S u
    rw [netS_cons,List.filter_cons]
    cases h1 : S x.1 <;> cases h2 : S x.2 <;> simp [ind] <;> omega
theorem flow_le {s : State} {k : Nat} {u : List (Nat × Nat)} {val : Int} (F : Flow s k u val) (hk : k ∈ s.kinds) {C : List Nat} (hkC : k ∉ C) (hC : ¬ Lv s C k) : val ≤ (C.length : Int):=by
  classical
  let S : Nat → Bool:=fun x=>decide (x = 1 ∨ (∃ v,x = 2 * v ∧ ∃ f,Lk s f v ∧ f ≠ k ∧ (f = 0 ∨ Lv s C f)) ∨ (∃ v,x = 2 * v + 1 ∧ Lv s C v))
  have hS1 : S 1 = true:=decide_eq_true (.inl rfl)
  have hSk : S (2 * k) = false:=by
    refine decide_eq_false ?_
    rintro (h | ⟨v,h,f,h1,h2,h3⟩ | ⟨v,h,_⟩)
    · omega
    · obtain rfl : v = k:=by omega
      rcases h3 with rfl | h3
      · exact hC (.sun hk hkC h1)
      · exact hC (.step h3 hk hkC h1)
    · omega
  rw [← F.net S hS1 hSk]
  refine Int.le_trans (netS_le S u) ?_
  have:=nodup_le (u.filter fun a=>S a.1 && !S a.2) (C.map fun v=>(2 * v,2 * v + 1)) (List.Pairwise.filter _ F.nd) (fun a ha=>by
    rw [List.mem_filter,Bool.and_eq_true,Bool.not_eq_true'] at ha
    obtain ⟨h1,h2,h3⟩:=ha
    have h2:=of_decide_eq_true h2
    have h3:=of_decide_eq_false h3
    rcases mem_arcs.mp (F.sub a h1) with ⟨v,hv,hvk,rfl⟩ | ⟨f,e,hf,hfk,rfl⟩
    · refine List.mem_map.mpr ⟨v,?_,rfl⟩
      refine Classical.byContradiction fun hvC=>?_
      apply h3
      refine .inr (.inr ⟨v,rfl,?_⟩)
      rcases h2 with h2 | ⟨v',h2,f,q1,q2,q3⟩ | ⟨v',h2,_⟩
      · simp only at h2; omega
      · simp only at h2
        obtain rfl : v = v':=by omega
        rcases q3 with rfl | q3
        · exact .sun hv hvC q1
        · exact .step q3 hv hvC q1
      · simp only at h2; omega
    · exfalso
      apply h3
      refine .inr (.inl ⟨e,rfl,f,hf,hfk,?_⟩)
      rcases h2 with h2 | ⟨v',h2,_⟩ | ⟨v',h2,h4⟩
      · simp only at h2; exact .inl (by omega)
      · simp only at h2; omega
      · simp only at h2
        obtain rfl : f = v':=by omega
        exact .inr h4)
  rw [List.length_map] at this
  omega
theorem mem_open {all used : List (Nat × Nat)} {x : Nat × Nat} : x ∈ open_ all used ↔ (x ∈ all ∧ x ∉ used) ∨ (x.2,x.1) ∈ used:=by
  unfold open_
  rw [List.mem_append,List.mem_filter,List.mem_map]
  constructor
  · rintro (⟨a,b⟩ | ⟨y,a,rfl⟩)
    · exact .inl ⟨a,by simpa using b⟩
    · exact .inr a
  · rintro (⟨a,b⟩ | a)
    · exact .inl ⟨a,by simpa using b⟩
    · exact .inr ⟨_,a,rfl⟩
theorem netS_eq (S : Nat → Bool) : ∀ u : List (Nat × Nat),(∀ a ∈ u,S a.2 = true → S a.1 = true) → netS S u = ((u.filter fun a=>S a.1 && !S a.2).length : Int)
  | [],_=>by simp [netS]
  | x :: u,h=>by
    have ih:=netS_eq S u (fun a ha=>h a (by simp [ha]))
    have hx:=h x (by simp)
    rw [netS_cons,List.filter_cons]
    cases h1 : S x.1 <;> cases h2 : S x.2 <;> simp_all [ind] <;> omega
theorem flow_cut {s : State} (W : WF s) {k : Nat} {u : List (Nat × Nat)} {val : Int} (F : Flow s k u val) (hk : k ∈ s.kinds) (h0 : ¬ Lk s 0 k) (R : Nat → Bool) (hR1 : R 1 = true) (hRk : R (2 * k) = false)
    (hcl : ∀ a b,(a,b) ∈ open_ (arcs s k) u → R a = true → R b = true) : ∃ C : List Nat,(∀ v ∈ C,v ∈ s.kinds ∧ v ≠ k) ∧ (C.length : Int) = val ∧ ¬ Lv s C k:=by
  have hk1 : 1 ≤ k:=(mem_kinds.mp hk).1
  let L:=u.filter fun a=>R a.1 && !R a.2
  have hL : netS R u = (L.length : Int):=netS_eq R u fun a ha hb=>hcl a.2 a.1 (mem_open.mpr (.inr ha)) hb
  have hin : ∀ a b,(a,b) ∈ arcs s k → R a = true → R b = false → (a,b) ∈ L:=fun a b h1 h2 h3=>by
    refine List.mem_filter.mpr ⟨Classical.byContradiction fun q=>?_,by simp [h2,h3]⟩
    have:=hcl a b (mem_open.mpr (.inl ⟨h1,q⟩)) h2
    rw [h3] at this
    cases this
  let vx : Nat × Nat → Nat:=fun a=>if a.1 = 1 then a.2 / 2 else a.1 / 2
  refine ⟨L.map vx,?_,?_,?_⟩
  · intro v hv
    obtain ⟨a,ha,rfl⟩:=List.mem_map.mp hv
    rcases mem_arcs.mp (F.sub a (List.mem_filter.mp ha).1) with ⟨w,hw,hwk,rfl⟩ | ⟨f,e,hf,hfk,rfl⟩
    · have e1 : vx (2 * w,2 * w + 1) = w:=by
        simp only [vx]; rw [if_neg (by omega)]; omega
      rw [e1]
      exact ⟨hw,hwk⟩
    · by_cases q : f = 0
      · subst q
        have e1 : vx (2 * 0 + 1,2 * e) = e:=by simp [vx]
        rw [e1]
        exact ⟨(hf.ne W).2.2,fun z=>h0 (z ▸ hf)⟩
      · have e1 : vx (2 * f + 1,2 * e) = f:=by
          simp only [vx]; rw [if_neg (by omega)]; omega
        rw [e1]
        exact ⟨mem_kinds.mpr ⟨by omega,(hf.ne W).2.1⟩,hfk⟩
  · rw [List.length_map,← hL]
    exact F.net R hR1 hRk
  · have key : ∀ e,Lv s (L.map vx) e → R (2 * e) = true ∧ (e ≠ k → R (2 * e + 1) = true):=by
      have thru : ∀ e,e ∈ s.kinds → e ∉ L.map vx → R (2 * e) = true → e ≠ k → R (2 * e + 1) = true:=fun e he hn h1 hek=>by
        cases q : R (2 * e + 1) with
        | true=>rfl
        | false =>
          exfalso
          apply hn
          refine List.mem_map.mpr ⟨_,hin _ _ (mem_arcs.mpr (.inl ⟨e,he,hek,rfl⟩)) h1 q,?_⟩
          simp only [vx]; rw [if_neg (by omega)]; omega
      intro e he
      induction he with
      | @sun e h1 h2 h3 =>
        have : R (2 * e) = true:=by
          cases q : R (2 * e) with
          | true=>rfl
          | false =>
            exfalso
            apply h2
            refine List.mem_map.mpr ⟨_,hin 1 (2 * e) (mem_arcs.mpr (.inr ⟨0,e,h3,by omega,rfl⟩)) hR1 q,?_⟩
            simp [vx]
        exact ⟨this,thru e h1 h2 this⟩
      | @step f e hf h1 h2 h3 ih =>
        have hfk : f ≠ k:=fun z=>by
          rw [z,hRk] at ih
          cases ih.1
        have hf1 : 1 ≤ f:=(mem_kinds.mp hf.kind.1).1
        have : R (2 * e) = true:=by
          cases q : R (2 * e) with
          | true=>rfl
          | false =>
            exfalso
            apply hf.kind.2
            refine List.mem_map.mpr ⟨_,hin (2 * f + 1) (2 * e) (mem_arcs.mpr (.inr ⟨f,e,h3,hfk,rfl⟩)) (ih.2 hfk) q,?_⟩
            simp only [vx]; rw [if_neg (by omega)]; omega
        exact ⟨this,thru e h1 h2 this⟩
    intro h
    have:=(key k h).1
    rw [hRk] at this
    cases this
def grow1 (r : List (Nat × Nat)) (a : Nat × Nat) : List (Nat × Nat):=if seen r a.1 && !seen r a.2 then r ++ [(a.2,a.1)] else r
theorem seen_iff {l : List (Nat × Nat)} {v : Nat} : seen l v = true ↔ ∃ x ∈ l,x.1 = v:=by
  unfold seen
  rw [List.any_eq_true]
  constructor <;> rintro ⟨x,h,e⟩ <;> exact ⟨x,h,by simpa using e⟩
inductive Tree (ways : List (Nat × Nat)) : List (Nat × Nat) → Prop
  | root : Tree ways [(1,1)]
  | grow {l : List (Nat × Nat)} {a b : Nat} : Tree ways l → (a,b) ∈ ways → seen l a = true → seen l b = false → Tree ways (l ++ [(b,a)])
theorem Tree.fold {ways : List (Nat × Nat)} : ∀ {ws l : List (Nat × Nat)},(∀ x ∈ ws,x ∈ ways) → Tree ways l → Tree ways (ws.foldl grow1 l)
  | [],_,_,h=>h
  | x :: ws,l,hs,h=>by
    rw [List.foldl_cons]
    refine Tree.fold (fun y hy=>hs y (by simp [hy])) ?_
    unfold grow1
    by_cases q : (seen l x.1 && !seen l x.2) = true
    · rw [if_pos q]
      rw [Bool.and_eq_true,Bool.not_eq_true'] at q
      exact .grow h (hs x (by simp)) q.1 q.2
    · rw [if_neg q]
      exact h
theorem Tree.one {ways l : List (Nat × Nat)} (h : Tree ways l) : seen l 1 = true:=by
  induction h with
  | root=>rfl
  | grow _ _ _ _ ih =>
    rw [seen_iff] at ih ⊢
    obtain ⟨x,h,e⟩:=ih
    exact ⟨x,by simp [h],e⟩
theorem Tree.nodes {ways l : List (Nat × Nat)} (h : Tree ways l) : (l.map (·.1)).Nodup ∧ ∀ v ∈ l.map (·.1),v = 1 ∨ ∃ a,(a,v) ∈ ways:=by
  induction h with
  | root=>simp
  | @grow l a b _ h1 h2 h3 ih =>
    rw [List.map_append]
    constructor
    · rw [List.nodup_append]
      refine ⟨ih.1,by simp,fun x hx y hy=>?_⟩
      simp at hy
      subst hy
      intro e
      subst e
      rw [Bool.eq_false_iff] at h3
      apply h3
      rw [seen_iff]
      obtain ⟨z,hz,e⟩:=List.mem_map.mp hx
      exact ⟨z,hz,e⟩
    · intro v hv
      rcases List.mem_append.mp hv with q | q
      · exact ih.2 v q
      · simp at q
        subst q
        exact .inr ⟨_,h1⟩
theorem Tree.preds {ways l : List (Nat × Nat)} (h : Tree ways l) : ∀ x ∈ l,seen l x.2 = true:=by
  induction h with
  | root=>simp [seen]
  | @grow l a b _ h1 h2 h3 ih =>
    intro x hx
    have up : ∀ v,seen l v = true → seen (l ++ [(b,a)]) v = true:=fun v hv=>by
      rw [seen_iff] at hv ⊢
      obtain ⟨x,h,e⟩:=hv
      exact ⟨x,by simp [h],e⟩
    rcases List.mem_append.mp hx with q | q
    · exact up _ (ih x q)
    · simp at q
      subst q
      exact up _ h2
theorem fold_len : ∀ (ws l : List (Nat × Nat)),l.length ≤ (ws.foldl grow1 l).length ∧ ((ws.foldl grow1 l).length = l.length → ws.foldl grow1 l = l ∧ ∀ x ∈ ws,seen l x.1 = true → seen l x.2 = true)
  | [],l=>⟨Nat.le_refl _,fun _=>⟨rfl,by simp⟩⟩
  | x :: ws,l=>by
    rw [List.foldl_cons]
    have ih:=fold_len ws (grow1 l x)
    by_cases q : (seen l x.1 && !seen l x.2) = true
    · have e : grow1 l x = l ++ [(x.2,x.1)]:=by unfold grow1; rw [if_pos q]
      rw [e] at ih ⊢
      rw [List.length_append] at ih
      simp only [List.length_cons,List.length_nil] at ih
      exact ⟨by omega,fun z=>by omega⟩
    · have e : grow1 l x = l:=by unfold grow1; rw [if_neg q]
      rw [e] at ih ⊢
      refine ⟨ih.1,fun z=>⟨(ih.2 z).1,fun y hy=>?_⟩⟩
      rcases List.mem_cons.mp hy with rfl | hy
      · intro h1
        rw [Bool.and_eq_true,Bool.not_eq_true'] at q
        cases h2 : seen l y.2 with
        | true=>rfl
        | false=>exact absurd ⟨h1,h2⟩ q
      · exact (ih.2 z).2 y hy
theorem reached_succ (ways : List (Nat × Nat)) (n : Nat) (l : List (Nat × Nat)) : reached ways (n + 1) l = reached ways n (ways.foldl grow1 l):=rfl
theorem reached_stay {ways l : List (Nat × Nat)} (h : ways.foldl grow1 l = l) : ∀ n,reached ways n l = l
  | 0=>rfl
  | n + 1=>by rw [reached_succ,h,reached_stay h n]
theorem reached_tree {ways : List (Nat × Nat)} : ∀ (n : Nat) {l : List (Nat × Nat)},Tree ways l → Tree ways (reached ways n l)
  | 0,_,h=>h
  | n + 1,l,h=>by
    rw [reached_succ]
    exact reached_tree n (h.fold fun _ q=>q)
theorem reached_closed {ways : List (Nat × Nat)} {M : Nat} (hM : ∀ l,Tree ways l → l.length ≤ M) : ∀ (n : Nat) {l : List (Nat × Nat)},Tree ways l → M ≤ l.length + n →
    ∀ x ∈ ways,seen (reached ways n l) x.1 = true → seen (reached ways n l) x.2 = true
  | 0,l,h,hn,x,hx,h1=>by
    cases h2 : seen (reached ways 0 l) x.2 with
    | true=>rfl
    | false =>
      have:=hM _ (.grow (a:=x.1) (b:=x.2) h hx h1 h2)
      simp at this
      omega
  | n + 1,l,h,hn,x,hx,h1=>by
    have q:=fold_len ways l
    by_cases e : (ways.foldl grow1 l).length = l.length
    · rw [reached_stay (q.2 e).1] at h1 ⊢
      exact (q.2 e).2 x hx h1
    · rw [reached_succ] at h1 ⊢
      exact reached_closed hM n (h.fold fun _ q=>q) (by omega) x hx h1
inductive Pth (P : Nat × Nat → Prop) : Nat → List (Nat × Nat) → Prop
  | nil : Pth P 1 []
  | cons {a v : Nat} {p : List (Nat × Nat)} : Pth P a p → P (a,v) → v ≠ 1 → (∀ x ∈ p,x.2 ≠ v) → Pth P v ((a,v) :: p)
theorem find_app {l t : List (Nat × Nat)} {v : Nat} (h : seen l v = true) : (l ++ t).find? (fun x=>x.1 == v) = l.find? (fun x=>x.1 == v):=by
  rw [List.find?_append]
  cases q : l.find? (fun x=>x.1 == v) with
  | some x=>rfl
  | none =>
    rw [List.find?_eq_none] at q
    obtain ⟨x,hx,e⟩:=seen_iff.mp h
    exact absurd (by simpa using e) (q x hx)
theorem traced_app {l t : List (Nat × Nat)} (hp : ∀ x ∈ l,seen l x.2 = true) : ∀ (f v : Nat),seen l v = true → traced (l ++ t) f v = traced l f v
  | 0,_,_=>rfl
  | f + 1,v,h=>by
    unfold traced
    rw [find_app h]
    cases q : l.find? (fun x=>x.1 == v) with
    | none=>rfl
    | some x =>
      simp only
      rw [traced_app hp f x.2 (hp x (List.mem_of_find?_eq_some q))]
theorem traced_path {ways l : List (Nat × Nat)} (h : Tree ways l) : ∀ (v f : Nat),seen l v = true → l.length ≤ f → Pth (· ∈ ways) v (traced l f v) ∧ ∀ x ∈ traced l f v,seen l x.2 = true:=by
  induction h with
  | root =>
    intro v f h hf
    obtain ⟨x,hx,e⟩:=seen_iff.mp h
    simp at hx
    subst hx
    subst e
    match f,hf with
    | f + 1,_=>exact ⟨.nil,by simp [traced]⟩
  | @grow l a b ht h1 h2 h3 ih =>
    intro v f h hf
    have up : ∀ v,seen l v = true → seen (l ++ [(b,a)]) v = true:=fun v hv=>by
      rw [seen_iff] at hv ⊢
      obtain ⟨x,h,e⟩:=hv
      exact ⟨x,by simp [h],e⟩
    rw [List.length_append] at hf
    simp only [List.length_cons,List.length_nil] at hf
    by_cases q : seen l v = true
    · rw [traced_app ht.preds f v q]
      have:=ih v f q (by omega)
      exact ⟨this.1,fun x hx=>up _ (this.2 x hx)⟩
    · have hv : v = b:=by
        obtain ⟨x,hx,e⟩:=seen_iff.mp h
        rcases List.mem_append.mp hx with z | z
        · exact absurd (seen_iff.mpr ⟨x,z,e⟩) q
        · simp at z
          subst z
          exact e.symm
      subst hv
      match f,hf with
      | f + 1,hf =>
        have hab : a ≠ v:=fun e=>by rw [e,h3] at h2; cases h2
        have e1 : (l ++ [(v,a)]).find? (fun x=>x.1 == v) = some (v,a):=by
          rw [List.find?_append]
          have : l.find? (fun x=>x.1 == v) = none:=by
            rw [List.find?_eq_none]
            intro x hx e
            exact q (seen_iff.mpr ⟨x,hx,by simpa using e⟩)
          rw [this]
          simp
        have e2 : traced (l ++ [(v,a)]) (f + 1) v = (a,v) :: traced l f a:=by
          conv=>lhs; unfold traced
          rw [e1]
          simp only
          rw [if_neg hab,traced_app ht.preds f a h2]
        rw [e2]
        have r:=ih a f h2 (by omega)
        refine ⟨.cons r.1 h1 (fun e=>?_) (fun x hx e=>?_),fun x hx=>?_⟩
        · rw [e,ht.one] at h3; cases h3
        · have:=r.2 x hx
          rw [e,h3] at this
          cases this
        · rcases List.mem_cons.mp hx with rfl | hx
          · exact seen_iff.mpr ⟨(v,a),by simp,rfl⟩
          · exact up _ (r.2 x hx)
theorem Pth.imp {P Q : Nat × Nat → Prop} {v : Nat} {p : List (Nat × Nat)} (h : Pth P v p) (hi : ∀ x ∈ p,P x → Q x) : Pth Q v p:=by
  induction h with
  | nil=>exact .nil
  | cons _ h1 h2 h3 ih=>exact .cons (ih fun x hx=>hi x (by simp [hx])) (hi _ (by simp) h1) h2 h3
theorem Pth.src {P : Nat × Nat → Prop} {v w : Nat} {p : List (Nat × Nat)} (h : Pth P v p) (hw : w ≠ 1) (hv : v ≠ w) (ht : ∀ x ∈ p,x.2 ≠ w) : ∀ x ∈ p,x.1 ≠ w:=by
  induction h with
  | nil=>simp
  | @cons a v p hp h1 h2 h3 ih =>
    have ha : a ≠ w:=by
      cases hp with
      | nil=>exact fun e=>hw e.symm
      | @cons b _ p' _ _ _ _=>exact ht (b,a) (by simp)
    intro x hx
    rcases List.mem_cons.mp hx with rfl | hx
    · exact ha
    · exact ih ha (fun y hy=>ht y (by simp [hy])) x hx
def Res (A u : List (Nat × Nat)) (x : Nat × Nat) : Prop:=(x ∈ A ∧ x ∉ u ∧ (x.2,x.1) ∉ u) ∨ (x.2,x.1) ∈ u
def tog1 (u : List (Nat × Nat)) (a : Nat × Nat) : List (Nat × Nat):=if u.contains (a.2,a.1) then u.filter fun b=>b != (a.2,a.1) else a :: u
theorem toggled_ok {A : List (Nat × Nat)} : ∀ (p : List (Nat × Nat)) {v : Nat} {u : List (Nat × Nat)},Pth (Res A u) v p → u.Nodup → (∀ x ∈ u,x ∈ A) →
    (p.foldl tog1 u).Nodup ∧ (∀ x ∈ p.foldl tog1 u,x ∈ A) ∧ ∀ S : Nat → Bool,netS S (p.foldl tog1 u) = netS S u + ind (S 1) - ind (S v)
  | [],v,u,h,hn,hs=>by
    cases h
    exact ⟨hn,hs,fun S=>by simp⟩
  | x :: p,v,u,h,hn,hs=>by
    cases h with
    | @cons a v p hp h1 h2 h3 =>
      rw [List.foldl_cons]
      have hva : v ≠ a → ∀ x ∈ p,x.1 ≠ v:=fun q=>hp.src h2 (fun e=>q e.symm) h3
      by_cases c : (v,a) ∈ u
      · have e : tog1 u (a,v) = u.filter fun b=>b != (v,a):=by
          unfold tog1
          rw [if_pos (by simpa using c)]
        have hav : v ≠ a ∨ v = a:=by omega
        rcases hav with hav | hav
        · have m : ∀ z : Nat × Nat,(z.1 ≠ v ∧ z.2 ≠ v) → (z ∈ tog1 u (a,v) ↔ z ∈ u):=fun z hz=>by
            rw [e,List.mem_filter]
            constructor
            · exact fun q=>q.1
            · refine fun q=>⟨q,?_⟩
              simp only [bne_iff_ne,ne_eq]
              intro e
              rw [e] at hz
              exact hz.1 rfl
          have ih:=toggled_ok p (u:=tog1 u (a,v)) (hp.imp fun y hy q=>by
            have s1:=hva hav y hy
            have s2:=h3 y hy
            rcases q with ⟨q1,q2,q3⟩ | q
            · exact .inl ⟨q1,fun z=>q2 ((m _ ⟨s1,s2⟩).mp z),fun z=>q3 ((m (y.2,y.1) ⟨s2,s1⟩).mp z)⟩
            · exact .inr ((m (y.2,y.1) ⟨s2,s1⟩).mpr q)) (by rw [e]; exact List.Pairwise.filter _ hn) (by rw [e]; exact fun z hz=>hs z (List.mem_filter.mp hz).1)
          refine ⟨ih.1,ih.2.1,fun S=>?_⟩
          rw [ih.2.2 S,e]
          have:=netS_take S hn c
          simp only at this
          omega
        · exfalso
          subst hav
          cases hp with
          | nil=>exact h2 rfl
          | cons _ _ _ _=>exact h3 _ (List.mem_cons_self) rfl
      · have r : (a,v) ∈ A ∧ (a,v) ∉ u:=by
          rcases h1 with ⟨q1,q2,_⟩ | q
          · exact ⟨q1,q2⟩
          · exact absurd q c
        have e : tog1 u (a,v) = (a,v) :: u:=by
          unfold tog1
          rw [if_neg (by simpa using c)]
        have hav : v ≠ a ∨ v = a:=by omega
        rcases hav with hav | hav
        · have m : ∀ z : Nat × Nat,(z.1 ≠ v ∧ z.2 ≠ v) → (z ∈ tog1 u (a,v) ↔ z ∈ u):=fun z hz=>by
            rw [e,List.mem_cons]
            constructor
            · rintro (q | q)
              · rw [q] at hz; exact absurd rfl hz.2
              · exact q
            · exact .inr
          have ih:=toggled_ok p (u:=tog1 u (a,v)) (hp.imp fun y hy q=>by
            have s1:=hva hav y hy
            have s2:=h3 y hy
            rcases q with ⟨q1,q2,q3⟩ | q
            · exact .inl ⟨q1,fun z=>q2 ((m _ ⟨s1,s2⟩).mp z),fun z=>q3 ((m (y.2,y.1) ⟨s2,s1⟩).mp z)⟩
            · exact .inr ((m (y.2,y.1) ⟨s2,s1⟩).mpr q)) (by rw [e]; exact List.nodup_cons.mpr ⟨r.2,hn⟩) (by
              rw [e]
              intro z hz
              rcases List.mem_cons.mp hz with rfl | hz
              · exact r.1
              · exact hs z hz)
          refine ⟨ih.1,ih.2.1,fun S=>?_⟩
          rw [ih.2.2 S,e,netS_cons]
          simp only
          omega
        · exfalso
          subst hav
          cases hp with
          | nil=>exact h2 rfl
          | cons _ _ _ _=>exact h3 _ (List.mem_cons_self) rfl
theorem arcs_bound {s : State} (W : WF s) {k : Nat} {x : Nat × Nat} (h : x ∈ arcs s k) : x.1 < 2 * s.n + 2 ∧ x.2 < 2 * s.n + 2:=by
  rcases mem_arcs.mp h with ⟨v,hv,_,rfl⟩ | ⟨f,e,hf,_,rfl⟩
  · have:=mem_kinds.mp hv
    simp only; omega
  · have h1:=(hf.ne W).2.1
    have h2:=mem_kinds.mp (hf.ne W).2.2
    simp only; omega
theorem tree_bound {s : State} (W : WF s) {k : Nat} {u : List (Nat × Nat)} (hs : ∀ a ∈ u,a ∈ arcs s k) {l : List (Nat × Nat)} (h : Tree (open_ (arcs s k) u) l) : l.length ≤ 2 * s.n + 2:=by
  have q:=h.nodes
  have:=nodup_le (l.map (·.1)) (List.range (2 * s.n + 2)) q.1 (fun v hv=>by
    rw [List.mem_range]
    rcases q.2 v hv with rfl | ⟨a,ha⟩
    · omega
    · rcases mem_open.mp ha with ⟨z,_⟩ | z
      · exact (arcs_bound W z).2
      · exact (arcs_bound W (hs _ z)).1)
  rw [List.length_map,List.length_range] at this
  exact this
theorem flowing_is {s : State} (W : WF s) {k : Nat} (hk : k ∈ s.kinds) (h0 : ¬ Lk s 0 k) {C : List Nat} (hCk : k ∉ C) (hC : ¬ Lv s C k) (hmin : ∀ C' : List Nat,(∀ v ∈ C',v ∈ s.kinds ∧ v ≠ k) → ¬ Lv s C' k → C.length ≤ C'.length) :
    ∀ (f : Nat) (u : List (Nat × Nat)) (val : Nat),Flow s k u (val : Int) → C.length ≤ val + f → val + flowing s k f u = C.length
  | 0,u,val,F,hf=>by
    have:=flow_le F hk hCk hC
    simp only [flowing]
    omega
  | f + 1,u,val,F,hf=>by
    have hle:=flow_le F hk hCk hC
    unfold flowing
    simp only
    have ht:=reached_tree (ways:=open_ (arcs s k) u) (2 * s.n + 2) .root
    have hb:=tree_bound W F.sub ht
    by_cases q : seen (reached (open_ (arcs s k) u) (2 * s.n + 2) [(1,1)]) (2 * k) = true
    · rw [if_pos q]
      have hp:=(traced_path ht (2 * k) (2 * s.n + 3) q (by omega)).1
      have hp2 : Pth (Res (arcs s k) u) (2 * k) (traced (reached (open_ (arcs s k) u) (2 * s.n + 2) [(1,1)]) (2 * s.n + 3) (2 * k)):=hp.imp fun x _ hx=>by
        by_cases c : (x.2,x.1) ∈ u
        · exact .inr c
        · rcases mem_open.mp hx with z | z
          · exact .inl ⟨z.1,z.2,c⟩
          · exact absurd z c
      have ht2:=toggled_ok _ hp2 F.nd F.sub
      have F2 : Flow s k (toggled u (traced (reached (open_ (arcs s k) u) (2 * s.n + 2) [(1,1)]) (2 * s.n + 3) (2 * k))) ((val + 1 : Nat) : Int):=by
        refine ⟨ht2.1,ht2.2.1,fun S h1 h2=>?_⟩
        have:=ht2.2.2 S
        rw [h1,h2,F.net S h1 h2] at this
        simp only [ind] at this
        refine Eq.trans this ?_
        simp
      have:=flowing_is W hk h0 hCk hC hmin f _ (val + 1) F2 (by omega)
      omega
    · rw [if_neg q]
      have hcl:=reached_closed (M:=2 * s.n + 2) (fun l hl=>tree_bound W F.sub hl) (2 * s.n + 2) .root (by omega)
      obtain ⟨C',h1,h2,h3⟩:=flow_cut W F hk h0 (seen (reached (open_ (arcs s k) u) (2 * s.n + 2) [(1,1)])) ht.one (by simpa using q) (fun a b hab=>hcl (a,b) hab)
      have:=hmin C' h1 h3
      omega
end Fw
namespace Fw
open Vbecai
theorem chosen_zero (l : List Nat) : chosen 0 l = [[]]:=by cases l <;> rfl
theorem chosen_mem : ∀ {m : Nat} {l g : List Nat},g ∈ chosen m l → g.length = m ∧ g.Sublist l
  | 0,l,g,h=>by
    simp [chosen] at h
    subst h
    exact ⟨rfl,List.nil_sublist _⟩
  | m + 1,[],g,h=>by simp [chosen] at h
  | m + 1,a :: l,g,h=>by
    rw [chosen,List.mem_append,List.mem_map] at h
    rcases h with ⟨r,hr,rfl⟩ | h
    · have:=chosen_mem hr
      exact ⟨by rw [List.length_cons,this.1],this.2.cons_cons a⟩
    · have:=chosen_mem h
      exact ⟨this.1,this.2.cons a⟩
theorem mem_chosen {g l : List Nat} (h : g.Sublist l) : g ∈ chosen g.length l:=by
  induction h with
  | slnil=>simp [chosen]
  | @cons g l a h ih =>
    cases g with
    | nil=>simp [chosen]
    | cons b g=>exact List.mem_append.mpr (.inr ih)
  | @cons_cons g l a h ih=>exact List.mem_append.mpr (.inl (List.mem_map.mpr ⟨g,ih,rfl⟩))
theorem chosen_all : ∀ l : List Nat,chosen l.length l = [l]
  | []=>rfl
  | a :: l=>by
    have : chosen (l.length + 1) l = []:=by
      cases h : chosen (l.length + 1) l with
      | nil=>rfl
      | cons g r =>
        have:=chosen_mem (m:=l.length + 1) (l:=l) (g:=g) (by rw [h]; simp)
        have h2:=this.2.length_le
        omega
    show (chosen l.length l).map (fun r=>a :: r) ++ chosen (l.length + 1) l = [a :: l]
    rw [chosen_all l,this]
    rfl
def gtLast (r : List Nat) (k : Nat) : Bool:=match r.getLast? with
  | none=>true
  | some x=>decide (x < k)
def ext (K r : List Nat) : List (List Nat):=(K.filter (gtLast r)).map fun k=>r ++ [k]
def longer (rows : List (List Nat)) (K : List Nat) : List (List Nat):=rows.flatMap (ext K)
theorem gtLast_cons {a : Nat} {r : List Nat} (h : r ≠ []) : gtLast (a :: r) = gtLast r:=by
  funext k
  unfold gtLast
  cases r with
  | nil=>exact absurd rfl h
  | cons b r=>rw [List.getLast?_cons_cons]
theorem gtLast_some {r : List Nat} (h : r ≠ []) : ∃ x,x ∈ r ∧ gtLast r = fun k=>decide (x < k):=by
  cases q : r.getLast? with
  | none=>rw [List.getLast?_eq_none_iff] at q; exact absurd q h
  | some x=>exact ⟨x,List.mem_of_getLast? q,by funext k; unfold gtLast; rw [q]⟩
theorem flatMap_congr' {α β : Type} {f g : α → List β} : ∀ {l : List α},(∀ x ∈ l,f x = g x) → l.flatMap f = l.flatMap g
  | [],_=>rfl
  | x :: l,h=>by
    rw [List.flatMap_cons,List.flatMap_cons,h x (by simp),flatMap_congr' fun y hy=>h y (by simp [hy])]
theorem longer_pos : ∀ (l : List Nat) (m : Nat),l.Pairwise (· < ·) → longer (chosen (m + 1) l) l = chosen (m + 2) l
  | [],m,_=>rfl
  | a :: l,m,h=>by
    have hp:=List.pairwise_cons.mp h
    have e2 : ∀ (m : Nat),longer (chosen (m + 1) l) (a :: l) = longer (chosen (m + 1) l) l:=fun m=>by
      refine flatMap_congr' fun r hr=>?_
      have hr':=chosen_mem hr
      have hne : r ≠ []:=fun e=>by rw [e] at hr'; simp at hr'
      obtain ⟨x,hx,e⟩:=gtLast_some hne
      have hax : a < x:=hp.1 x (hr'.2.subset hx)
      unfold ext
      rw [e,List.filter_cons,if_neg (by simp; omega)]
    have e1 : longer ((chosen m l).map fun r=>a :: r) (a :: l) = (chosen (m + 1) l).map fun r=>a :: r:=by
      cases m with
      | zero =>
        rw [chosen_zero]
        unfold longer
        simp only [List.map_cons,List.map_nil,List.flatMap_cons,List.flatMap_nil,List.append_nil]
        have : ext (a :: l) [a] = l.map fun k=>[a] ++ [k]:=by
          unfold ext
          have e : gtLast [a] = fun k=>decide (a < k):=rfl
          rw [e,List.filter_cons,if_neg (by simp),List.filter_eq_self.mpr (fun b hb=>by simpa using hp.1 b hb)]
        rw [this]
        have c1 : ∀ l : List Nat,chosen 1 l = l.map fun k=>[k]:=fun l=>by
          induction l with
          | nil=>rfl
          | cons b l ih =>
            show (chosen 0 l).map (fun r=>b :: r) ++ chosen 1 l = _
            rw [ih]
            simp [chosen]
        rw [c1,List.map_map]
        rfl
      | succ m =>
        rw [← longer_pos l m hp.2]
        unfold longer
        rw [List.flatMap_map,List.map_flatMap]
        refine flatMap_congr' fun r hr=>?_
        have hr':=chosen_mem hr
        have hne : r ≠ []:=fun e=>by rw [e] at hr'; simp at hr'
        unfold ext
        rw [gtLast_cons hne]
        obtain ⟨x,hx,e⟩:=gtLast_some hne
        have hax : a < x:=hp.1 x (hr'.2.subset hx)
        rw [e,List.filter_cons,if_neg (by simp; omega),List.map_map]
        rfl
    show longer ((chosen m l).map (fun r=>a :: r) ++ chosen (m + 1) l) (a :: l) = (chosen (m + 1) l).map (fun r=>a :: r) ++ chosen (m + 2) l
    rw [show longer ((chosen m l).map (fun r=>a :: r) ++ chosen (m + 1) l) (a :: l) = longer ((chosen m l).map (fun r=>a :: r)) (a :: l) ++ longer (chosen (m + 1) l) (a :: l) from List.flatMap_append,
      e1,e2,longer_pos l m hp.2]
theorem longer_is {l : List Nat} (h : l.Pairwise (· < ·)) : ∀ m : Nat,longer (chosen m l) l = chosen (m + 1) l
  | 0=>by
    rw [chosen_zero]
    unfold longer
    simp only [List.flatMap_cons,List.flatMap_nil,List.append_nil]
    unfold ext
    rw [show l.filter (gtLast []) = l from List.filter_eq_self.mpr (fun b _=>rfl)]
    clear h
    induction l with
    | nil=>rfl
    | cons b l ih =>
      show _ = (chosen 0 l).map (fun r=>b :: r) ++ chosen 1 l
      rw [List.map_cons,ih]
      simp [chosen]
  | m + 1=>longer_pos l m h
def others (s : State) (k : Nat) : List Nat:=s.kinds.filter fun j=>j != k
theorem mem_others {s : State} {k j : Nat} : j ∈ others s k ↔ j ∈ s.kinds ∧ j ≠ k:=by
  unfold others
  rw [List.mem_filter]
  simp
theorem others_sorted {s : State} {k : Nat} : (others s k).Pairwise (· < ·):=List.Pairwise.filter _ sorted_kinds
theorem length_filter_ne {k : Nat} : ∀ {l : List Nat},l.Nodup → k ∈ l → (l.filter fun j=>j != k).length + 1 = l.length
  | [],_,h=>by simp at h
  | a :: l,hn,h=>by
    have hn':=List.nodup_cons.mp hn
    by_cases e : a = k
    · subst e
      rw [List.filter_cons,if_neg (by simp),List.filter_eq_self.mpr (fun b hb=>by
        simp only [bne_iff_ne,ne_eq]
        exact fun e=>hn'.1 (e ▸ hb))]
      rfl
    · have hk : k ∈ l:=by
        rcases List.mem_cons.mp h with q | q
        · exact absurd q.symm e
        · exact q
      rw [List.filter_cons,if_pos (by simpa using e)]
      simp only [List.length_cons]
      rw [length_filter_ne hn'.2 hk]
theorem length_others {s : State} {k : Nat} (h : k ∈ s.kinds) : (others s k).length + 1 = s.n:=by
  rw [← length_kinds]
  exact length_filter_ne nodup_kinds h
theorem downBy_skip {s : State} {k f m : Nat} (h : ∀ g ∈ chosen m (others s k),k ∈ alive s g) : downBy s k (f + 1) m = downBy s k f (m + 1):=by
  conv=>lhs; unfold downBy
  have : (chosen m (s.kinds.filter fun j=>j != k)).find? (fun g=>!(alive s g).contains k) = none:=by
    rw [List.find?_eq_none]
    intro g hg
    simpa using h g hg
  rw [this]
theorem least_at {s : State} {k : Nat} : ∀ {m : Nat},m ≤ s.n + 1 → (∀ j,j < m → ∀ g ∈ chosen j (others s k),k ∈ alive s g) → least s k = downBy s k (s.n + 1 - m) m
  | 0,_,_=>rfl
  | m + 1,hm,h=>by
    rw [least_at (m:=m) (by omega) (fun j hj=>h j (by omega))]
    have e : s.n + 1 - m = (s.n + 1 - (m + 1)) + 1:=by omega
    rw [e]
    exact downBy_skip (h m (by omega))
theorem least_hit {s : State} {k m : Nat} {g : List Nat} (hm : m ≤ s.n) (h : ∀ j,j < m → ∀ g ∈ chosen j (others s k),k ∈ alive s g) (hg : (chosen m (others s k)).find? (fun g=>!(alive s g).contains k) = some g) : least s k = some g:=by
  rw [least_at (m:=m) (by omega) h]
  have e : s.n + 1 - m = (s.n - m) + 1:=by omega
  rw [e]
  unfold downBy
  rw [show (chosen m (s.kinds.filter fun j=>j != k)).find? (fun g=>!(alive s g).contains k) = some g from hg]
theorem others_cut {s : State} {k : Nat} (W : WF s) (h0 : ¬ Lk s 0 k) : ¬ Lv s (others s k) k:=by
  have : ∀ e,Lv s (others s k) e → e = k → False:=by
    intro e he
    cases he with
    | sun a b c=>intro q; subst q; exact h0 c
    | @step f e hf a b c =>
      intro q
      have hfk : f ∈ s.kinds ∧ f ∉ others s k:=hf.kind
      have : f = k:=Classical.byContradiction fun z=>hfk.2 (mem_others.mpr ⟨hfk.1,z⟩)
      exact (c.ne W).1 (this.trans q.symm)
  exact fun h=>this k h rfl
theorem least_all {s : State} {k : Nat} (W : WF s) (hk : k ∈ s.kinds) (h0 : ¬ Lk s 0 k) (h : ∀ j,j < (others s k).length → ∀ g ∈ chosen j (others s k),k ∈ alive s g) : least s k = some (others s k):=by
  have hl:=length_others hk
  refine least_hit (m:=(others s k).length) (by omega) h ?_
  rw [chosen_all,List.find?_cons]
  have : (alive s (others s k)).contains k = false:=by
    rw [Bool.eq_false_iff]
    intro q
    rw [List.contains_eq_mem,decide_eq_true_eq,mem_alive] at q
    exact others_cut W h0 q
  rw [this]
  rfl
theorem downBy_some {s : State} {k : Nat} : ∀ {f m : Nat} {g : List Nat},downBy s k f m = some g → g ∈ chosen g.length (others s k) ∧ ¬ Lv s g k ∧ m ≤ g.length ∧ ∀ j,m ≤ j → j < g.length → ∀ g' ∈ chosen j (others s k),Lv s g' k
  | 0,_,_,h=>by simp [downBy] at h
  | f + 1,m,g,h=>by
    unfold downBy at h
    cases q : (chosen m (s.kinds.filter fun j=>j != k)).find? (fun g=>!(alive s g).contains k) with
    | some g' =>
      rw [q] at h
      simp only [Option.some.injEq] at h
      subst h
      have h1:=List.mem_of_find?_eq_some q
      have h2:=List.find?_some q
      have h3:=chosen_mem h1
      simp at h2
      rw [mem_alive] at h2
      refine ⟨by rw [h3.1]; exact h1,h2,by omega,fun j a b=>by omega⟩
    | none =>
      rw [q] at h
      simp only at h
      have ih:=downBy_some h
      refine ⟨ih.1,ih.2.1,by omega,fun j a b g' hg'=>?_⟩
      by_cases e : j = m
      · subst e
        rw [List.find?_eq_none] at q
        have:=q g' hg'
        simp at this
        exact mem_alive.mp this
      · exact ih.2.2.2 j (by omega) b g' hg'
theorem ways_least {s : State} (W : WF s) {k : Nat} (hk : k ∈ s.kinds) (h0 : ¬ Lk s 0 k) {g : List Nat} (h : least s k = some g) : ways s k = g.length:=by
  have q:=downBy_some h
  have hs:=(chosen_mem q.1).2
  have hkg : k ∉ g:=fun z=>(mem_others.mp (hs.subset z)).2 rfl
  have hmin : ∀ C' : List Nat,(∀ v ∈ C',v ∈ s.kinds ∧ v ≠ k) → ¬ Lv s C' k → g.length ≤ C'.length:=fun C' hC' hcut=>by
    refine Classical.byContradiction fun hlt=>?_
    let D:=(others s k).filter fun v=>C'.contains v
    have hD : D.Sublist (others s k):=List.filter_sublist
    have hDn : D.Nodup:=List.Pairwise.filter _ (List.Pairwise.filter _ nodup_kinds)
    have hDl : D.length ≤ C'.length:=nodup_le D C' hDn fun x hx=>by
      have:=(List.mem_filter.mp hx).2
      simpa using this
    have:=q.2.2.2 D.length (by omega) (by omega) D (mem_chosen hD)
    exact hcut (this.mono fun x hx=>List.mem_filter.mpr ⟨mem_others.mpr (hC' x hx),by simpa using hx⟩)
  have hgn : g.length ≤ s.n:=by
    have:=hs.length_le
    have:=length_others hk
    omega
  have:=flowing_is W hk h0 hkg q.2.1 hmin (s.n + 1) [] 0 ⟨List.nodup_nil,by simp,fun S _ _=>rfl⟩ (by omega)
  unfold ways
  omega
theorem lv_other {s : State} {j k : Nat} (h : Lv s [] k) (hj : ¬ Lv s [] j) : Lv s [j] k:=by
  induction h with
  | @sun e a b c=>exact .sun a (fun q=>by simp at q; subst q; exact hj (.sun a b c)) c
  | @step f e hf a b c ih=>exact .step ih a (fun q=>by simp at q; subst q; exact hj (.step hf a b c)) c
theorem needed_is {s : State} {k : Nat} (hk : Lv s [] k) : needed s k = (others s k).filter fun j=>!(alive s [j]).contains k:=by
  refine sorted_ext (List.Pairwise.filter _ alive_sorted) (List.Pairwise.filter _ others_sorted) fun x=>?_
  unfold needed falls
  rw [List.mem_filter,List.mem_filter,mem_alive,mem_others]
  simp only [Bool.and_eq_true,bne_iff_ne,ne_eq,List.contains_eq_mem,decide_eq_true_eq,List.mem_filter,mem_alive,Bool.not_eq_true',decide_eq_false_iff_not]
  constructor
  · rintro ⟨a,b,c,d⟩
    exact ⟨⟨a.kind.1,b⟩,d⟩
  · rintro ⟨⟨a,b⟩,d⟩
    exact ⟨Classical.byContradiction fun q=>d (lv_other hk q),b,hk,d⟩
theorem needed_lives {s : State} {k j : Nat} (h : j ∈ needed s k) : Lv s [] j:=by
  unfold needed at h
  exact mem_alive.mp (List.mem_filter.mp h).1
theorem filter_len {α : Type} (p : α → Bool) : ∀ l : List α,(l.filter p).length + (l.filter fun x=>!p x).length = l.length
  | []=>rfl
  | a :: l=>by
    have ih:=filter_len p l
    rw [List.filter_cons,List.filter_cons]
    cases p a <;> simp <;> omega
theorem fallen_is {s : State} {g : List Nat} : ((alive s []).filter fun e=>!(alive s g).contains e).length + (alive s g).length = (alive s []).length:=by
  have e : (alive s []).filter (fun e=>(alive s g).contains e) = alive s g:=by
    refine sorted_ext (List.Pairwise.filter _ alive_sorted) alive_sorted fun x=>?_
    rw [List.mem_filter]
    simp only [List.contains_eq_mem,decide_eq_true_eq,mem_alive]
    exact ⟨fun h=>h.2,fun h=>⟨h.mono (by simp),h⟩⟩
  have:=filter_len (fun e=>(alive s g).contains e) (alive s [])
  rw [e] at this
  omega
end Fw
namespace Fw
open Vbecai
def toF (r : Rat) : Frac:=(r.num,(r.den : Int))
theorem frac_is (a b : Int) : frac a b = toF ((a : Rat) / (b : Rat)):=by
  unfold frac toF
  rw [← Rat.divInt_eq_div,Rat.num_divInt,Rat.den_divInt]
  by_cases hb : b = 0
  · subst hb
    simp
  · rw [if_neg hb,if_neg hb]
    simp only
    have hg : Nat.gcd a.natAbs b.natAbs = b.gcd a:=by
      rw [Nat.gcd_comm]; rfl
    rw [hg]
    have hd : b.gcd a ∣ b.natAbs:=Nat.gcd_dvd_left _ _
    by_cases hn : b < 0
    · rw [if_pos hn,Int.sign_eq_neg_one_of_neg hn]
      refine Prod.ext ?_ ?_
      · simp
      · simp only [Int.natCast_ediv]
        rw [Int.ofNat_natAbs_of_nonpos (by omega)]
    · rw [if_neg hn,Int.sign_eq_one_of_pos (by omega)]
      refine Prod.ext ?_ ?_
      · simp
      · simp only [Int.natCast_ediv]
        rw [Int.natAbs_of_nonneg (by omega)]
theorem rat_is (r : Rat) : (r.num : Rat) / ((r.den : Int) : Rat) = r:=by
  rw [← Rat.divInt_eq_div]
  exact Rat.num_divInt_den r
theorem den_ne (r : Rat) : ((r.den : Int) : Rat) ≠ 0:=by
  have:=r.den_nz
  exact_mod_cast this
theorem minus_toF (a b : Rat) : minus (toF a) (toF b) = toF (a - b):=by
  unfold minus
  rw [frac_is]
  refine congrArg toF ?_
  simp only [toF]
  have h1:=rat_is a
  have h2:=rat_is b
  have n1:=den_ne a
  have n2:=den_ne b
  rw [Rat.intCast_sub,Rat.intCast_mul,Rat.intCast_mul,Rat.intCast_mul]
  generalize (a.num : Rat) = an at *
  generalize ((a.den : Int) : Rat) = ad at *
  generalize (b.num : Rat) = bn at *
  generalize ((b.den : Int) : Rat) = bd at *
  subst h1 h2
  grind
theorem times_toF (a b : Rat) : times (toF a) (toF b) = toF (a * b):=by
  unfold times
  rw [frac_is]
  refine congrArg toF ?_
  simp only [toF]
  have h1:=rat_is a
  have h2:=rat_is b
  rw [Rat.intCast_mul,Rat.intCast_mul]
  generalize (a.num : Rat) = an at *
  generalize ((a.den : Int) : Rat) = ad at *
  generalize (b.num : Rat) = bn at *
  generalize ((b.den : Int) : Rat) = bd at *
  subst h1 h2
  grind
theorem divide_toF (a b : Rat) : divide (toF a) (toF b) = toF (a / b):=by
  unfold divide
  rw [frac_is]
  refine congrArg toF ?_
  simp only [toF]
  have h1:=rat_is a
  have h2:=rat_is b
  rw [Rat.intCast_mul,Rat.intCast_mul]
  generalize (a.num : Rat) = an at *
  generalize ((a.den : Int) : Rat) = ad at *
  generalize (b.num : Rat) = bn at *
  generalize ((b.den : Int) : Rat) = bd at *
  subst h1 h2
  grind
theorem toF_zero : toF 0 = (0,1):=rfl
theorem toF_one : toF 1 = (1,1):=rfl
theorem toF_num_ne (r : Rat) : ((toF r).1 != 0) = decide (r ≠ 0):=by
  simp only [toF]
  have : r.num = 0 ↔ r = 0:=Rat.num_eq_zero
  by_cases h : r = 0
  · subst h; rfl
  · have h2 : r.num ≠ 0:=fun q=>h (this.mp q)
    simp [h,h2]
theorem getD_toF (r : List Rat) (i : Nat) : (r.map toF).getD i (0,1) = toF (r.getD i 0):=by
  simp only [List.getD_eq_getElem?_getD,List.getElem?_map]
  cases r[i]? <;> rfl
def clearedR (c : Nat) (u r : List Rat) : List Rat:=(List.range r.length).map fun i=>r.getD i 0 - r.getD c 0 * u.getD i 0
theorem cleared_toF (c : Nat) (u r : List Rat) : cleared c (u.map toF) (r.map toF) = (clearedR c u r).map toF:=by
  unfold cleared clearedR
  simp only [List.length_map,List.map_map]
  refine List.map_congr_left fun i _=>?_
  rw [getD_toF,getD_toF,getD_toF,times_toF,minus_toF]
  rfl
def solvingR (c : Nat) : Nat → List (List Rat) → List (List Rat) → List (List Rat)
  | 0,done,_=>done
  | f + 1,done,rest=>match rest.findIdx? fun r=>decide (r.getD c 0 ≠ 0) with
    | none=>done
    | some i =>
      let r:=rest.getD i []
      let u:=r.map fun x=>x / r.getD c 0
      solvingR (c + 1) f (done.map (clearedR c u) ++ [u]) ((rest.eraseIdx i).map (clearedR c u))
theorem findIdx_map {α β : Type} (g : α → β) (p : β → Bool) (q : α → Bool) (h : ∀ a,p (g a) = q a) : ∀ l : List α,(l.map g).findIdx? p = l.findIdx? q
  | []=>rfl
  | a :: l=>by
    rw [List.map_cons,List.findIdx?_cons,List.findIdx?_cons,h,findIdx_map g p q h l]
theorem erase_map {α β : Type} (g : α → β) : ∀ (l : List α) (i : Nat),(l.map g).eraseIdx i = (l.eraseIdx i).map g
  | [],_=>rfl
  | _ :: _,0=>rfl
  | a :: l,i + 1=>by
    show g a :: (l.map g).eraseIdx i = g a :: (l.eraseIdx i).map g
    rw [erase_map g l i]
theorem solving_toF : ∀ (f c : Nat) (done rest : List (List Rat)),solving c f (done.map (·.map toF)) (rest.map (·.map toF)) = (solvingR c f done rest).map (·.map toF)
  | 0,_,_,_=>rfl
  | f + 1,c,done,rest=>by
    unfold solving solvingR
    have hfi : (rest.map (fun x=>x.map toF)).findIdx? (fun r=>(r.getD c (0,1)).1 != 0) = rest.findIdx? fun r=>decide (r.getD c 0 ≠ 0) :=
      findIdx_map (fun x=>x.map toF) _ _ (fun r=>by simp only [getD_toF,toF_num_ne]) rest
    rw [hfi]
    cases q : rest.findIdx? fun r=>decide (r.getD c 0 ≠ 0) with
    | none=>rfl
    | some i =>
      simp only
      have hr : (rest.map (·.map toF)).getD i [] = (rest.getD i []).map toF:=by
        simp only [List.getD_eq_getElem?_getD,List.getElem?_map]
        cases rest[i]? <;> rfl
      rw [hr]
      have hu : (((rest.getD i []).map toF).map fun x=>divide x (((rest.getD i []).map toF).getD c (0,1))) = ((rest.getD i []).map fun x=>x / (rest.getD i []).getD c 0).map toF:=by
        rw [List.map_map,List.map_map]
        refine List.map_congr_left fun x _=>?_
        simp only [Function.comp,getD_toF,divide_toF]
      rw [hu,← solving_toF f (c + 1)]
      have hc : ∀ (u : List Rat) (l : List (List Rat)),(l.map fun x=>x.map toF).map (cleared c (u.map toF)) = (l.map (clearedR c u)).map fun x=>x.map toF:=fun u l=>by
        rw [List.map_map,List.map_map]
        refine List.map_congr_left fun x _=>?_
        simp only [Function.comp,cleared_toF]
      rw [hc,erase_map,hc,List.map_append]
      rfl
def sumTo : Nat → (Nat → Rat) → Rat
  | 0,_=>0
  | n + 1,g=>sumTo n g + g n
theorem sumTo_congr {g h : Nat → Rat} : ∀ {n : Nat},(∀ i,i < n → g i = h i) → sumTo n g = sumTo n h
  | 0,_=>rfl
  | n + 1,q=>by
    unfold sumTo
    rw [sumTo_congr (n:=n) fun i hi=>q i (by omega),q n (by omega)]
theorem sumTo_zero : ∀ {n : Nat} {g : Nat → Rat},(∀ i,i < n → g i = 0) → sumTo n g = 0
  | 0,_,_=>rfl
  | n + 1,g,q=>by
    unfold sumTo
    rw [sumTo_zero (n:=n) fun i hi=>q i (by omega),q n (by omega)]
    grind
theorem sumTo_lin (a : Rat) (g h : Nat → Rat) : ∀ n : Nat,sumTo n (fun i=>g i - a * h i) = sumTo n g - a * sumTo n h
  | 0=>by unfold sumTo; grind
  | n + 1=>by
    unfold sumTo
    rw [sumTo_lin a g h n]
    grind
theorem sumTo_mul (a : Rat) (g : Nat → Rat) : ∀ n : Nat,sumTo n (fun i=>a * g i) = a * sumTo n g
  | 0=>by unfold sumTo; grind
  | n + 1=>by
    unfold sumTo
    rw [sumTo_mul a g n]
    grind
theorem sumTo_add (g h : Nat → Rat) : ∀ n : Nat,sumTo n (fun i=>g i + h i) = sumTo n g + sumTo n h
  | 0=>by unfold sumTo; grind
  | n + 1=>by
    unfold sumTo
    rw [sumTo_add g h n]
    grind
theorem sumTo_one {g : Nat → Rat} {c : Nat} : ∀ {n : Nat},c < n → (∀ i,i < n → i ≠ c → g i = 0) → sumTo n g = g c
  | 0,h,_=>by omega
  | n + 1,h,q=>by
    unfold sumTo
    by_cases e : c = n
    · subst e
      rw [sumTo_zero fun i hi=>q i (by omega) (by omega)]
      grind
    · rw [sumTo_one (n:=n) (by omega) fun i hi=>q i (by omega),q n (by omega) (by omega)]
      grind
def dot (N : Nat) (r : List Rat) (y : Nat → Rat) : Rat:=sumTo N fun i=>r.getD i 0 * y i
theorem getD_map_range {g : Nat → Rat} {n i : Nat} (h : i < n) : ((List.range n).map g).getD i 0 = g i:=by
  simp [List.getD_eq_getElem?_getD,List.getElem?_map,List.getElem?_range h]
theorem clearedR_get {c i : Nat} {u r : List Rat} (h : i < r.length) : (clearedR c u r).getD i 0 = r.getD i 0 - r.getD c 0 * u.getD i 0:=getD_map_range h
theorem clearedR_len {c : Nat} {u r : List Rat} : (clearedR c u r).length = r.length:=by simp [clearedR]
theorem dot_cleared {N c : Nat} {u r : List Rat} (y : Nat → Rat) (h : r.length = N) : dot N (clearedR c u r) y = dot N r y - r.getD c 0 * dot N u y:=by
  unfold dot
  rw [← sumTo_lin]
  refine sumTo_congr fun i hi=>?_
  rw [clearedR_get (by omega)]
  grind
theorem map_div_get {r : List Rat} {a : Rat} {i : Nat} : (r.map fun x=>x / a).getD i 0 = r.getD i 0 / a:=by
  simp only [List.getD_eq_getElem?_getD,List.getElem?_map]
  cases r[i]? with
  | none=>simp only [Option.map_none,Option.getD_none]; grind
  | some x=>rfl
theorem dot_div {N : Nat} {r : List Rat} {a : Rat} (y : Nat → Rat) : dot N (r.map fun x=>x / a) y = dot N r y / a:=by
  unfold dot
  have : sumTo N (fun i=>(r.map fun x=>x / a).getD i 0 * y i) = sumTo N (fun i=>a⁻¹ * (r.getD i 0 * y i)):=sumTo_congr fun i _=>by
    rw [map_div_get]
    grind
  rw [this,sumTo_mul]
  grind
def Kills (N : Nat) (rows : List (List Rat)) (y : Nat → Rat) : Prop:=∀ r ∈ rows,dot N r y = 0
structure Elim (n : Nat) (orig : List (List Rat)) (c : Nat) (done rest : List (List Rat)) : Prop where
  dlen : done.length = c
  cnt : done.length + rest.length = n
  lens : ∀ r ∈ done ++ rest,r.length = n + 1
  dshape : ∀ i,i < c → ∀ j,j < c → (done.getD i []).getD j 0 = if i = j then 1 else 0
  rshape : ∀ r ∈ rest,∀ j,j < c → r.getD j 0 = 0
  same : ∀ y,Kills (n + 1) (done ++ rest) y ↔ Kills (n + 1) orig y
theorem getD_mem {l : List (List Rat)} {i : Nat} (h : i < l.length) : l.getD i [] ∈ l:=by
  simp only [List.getD_eq_getElem?_getD,List.getElem?_eq_getElem h,Option.getD_some]
  exact List.getElem_mem h
theorem mem_getD {l : List (List Rat)} {r : List Rat} (h : r ∈ l) : ∃ i,i < l.length ∧ l.getD i [] = r:=by
  obtain ⟨i,hi,e⟩:=List.getElem_of_mem h
  exact ⟨i,hi,by simp [List.getD_eq_getElem?_getD,List.getElem?_eq_getElem hi,e]⟩
theorem getD_append_map {done : List (List Rat)} {u : List Rat} {g : List Rat → List Rat} {c : Nat} (h : done.length = c) (i : Nat) :
    (done.map g ++ [u]).getD i [] = if i < c then g (done.getD i []) else if i = c then u else []:=by
  simp only [List.getD_eq_getElem?_getD]
  by_cases h1 : i < c
  · rw [if_pos h1,List.getElem?_append_left (by simpa [h] using h1),List.getElem?_map,List.getElem?_eq_getElem (by omega)]
    rfl
  · rw [if_neg h1,List.getElem?_append_right (by simpa [h] using Nat.le_of_not_lt h1)]
    by_cases h2 : i = c
    · subst h2; simp [h]
    · rw [if_neg h2]
      rw [List.getElem?_eq_none (by simp [h]; omega)]
      rfl
theorem mem_eraseIdx {α : Type} {l : List α} {i : Nat} (h : i < l.length) {x : α} : x ∈ l ↔ x = l[i] ∨ x ∈ l.eraseIdx i:=by
  constructor
  · intro hx
    obtain ⟨j,hj,e⟩:=List.getElem_of_mem hx
    by_cases q : j = i
    · subst q; exact .inl e.symm
    · right
      rw [List.mem_eraseIdx_iff_getElem]
      exact ⟨j,hj,q,e⟩
  · rintro (e | e)
    · rw [e]; exact List.getElem_mem h
    · exact List.mem_of_mem_eraseIdx e
def Only (n : Nat) (orig : List (List Rat)) : Prop:=∀ y : Nat → Rat,y n = 0 → Kills (n + 1) orig y → ∀ i,i < n → y i = 0
theorem Elim.pivot {n : Nat} {orig : List (List Rat)} {c : Nat} {done rest : List (List Rat)} (E : Elim n orig c done rest) (U : Only n orig) (hc : c < n) : ∃ i,rest.findIdx? (fun r=>decide (r.getD c 0 ≠ 0)) = some i:=by
  cases q : rest.findIdx? fun r=>decide (r.getD c 0 ≠ 0) with
  | some i=>exact ⟨i,rfl⟩
  | none =>
    exfalso
    rw [List.findIdx?_eq_none_iff] at q
    let y : Nat → Rat:=fun i=>if i < c then - (done.getD i []).getD c 0 else if i = c then 1 else 0
    have yn : y n = 0:=by simp only [y]; rw [if_neg (by omega),if_neg (by omega)]
    have hk : Kills (n + 1) (done ++ rest) y:=by
      intro r hr
      rcases List.mem_append.mp hr with hd | hd
      · obtain ⟨i,hi,rfl⟩:=mem_getD hd
        have hi' : i < c:=by have:=E.dlen; omega
        have e : dot (n + 1) (done.getD i []) y = sumTo (n + 1) (fun j=>(if j = i then - (done.getD i []).getD c 0 else 0) + (if j = c then (done.getD i []).getD c 0 else 0)):=sumTo_congr fun j hj=>by
          simp only [y]
          by_cases h1 : j < c
          · rw [if_pos h1,E.dshape i hi' j h1]
            by_cases h2 : i = j
            · subst h2; rw [if_pos rfl,if_pos rfl,if_neg (by omega)]; grind
            · rw [if_neg h2,if_neg (by omega),if_neg (by omega)]; grind
          · rw [if_neg h1,if_neg (show ¬ j = i by omega)]
            by_cases h2 : j = c
            · subst h2; rw [if_pos rfl,if_pos rfl]; grind
            · rw [if_neg h2,if_neg h2]; grind
        rw [e,sumTo_add,sumTo_one (c:=i) (by omega) (fun j _ h=>if_neg h),sumTo_one (c:=c) (by omega) (fun j _ h=>if_neg h),if_pos rfl,if_pos rfl]
        grind
      · refine sumTo_zero fun j hj=>?_
        simp only [y]
        by_cases h1 : j < c
        · rw [E.rshape r hd j h1]; grind
        · rw [if_neg h1]
          by_cases h2 : j = c
          · subst h2
            have:=q r hd
            simp at this
            simp only [List.getD_eq_getElem?_getD]
            rw [this]
            grind
          · rw [if_neg h2]; grind
    have:=U y yn ((E.same y).mp hk) c hc
    simp only [y] at this
    rw [if_neg (by omega)] at this
    simp at this
theorem Elim.step {n : Nat} {orig : List (List Rat)} {c : Nat} {done rest : List (List Rat)} (E : Elim n orig c done rest) {i : Nat} (q : rest.findIdx? (fun r=>decide (r.getD c 0 ≠ 0)) = some i) :
    Elim n orig (c + 1) (done.map (clearedR c ((rest.getD i []).map fun x=>x / (rest.getD i []).getD c 0)) ++ [(rest.getD i []).map fun x=>x / (rest.getD i []).getD c 0])
      ((rest.eraseIdx i).map (clearedR c ((rest.getD i []).map fun x=>x / (rest.getD i []).getD c 0))):=by
  rw [List.findIdx?_eq_some_iff_getElem] at q
  obtain ⟨hi,hp,_⟩:=q
  have er : rest.getD i [] = rest[i]:=by simp [List.getD_eq_getElem?_getD,List.getElem?_eq_getElem hi]
  rw [← er] at hp
  have hp:=of_decide_eq_true hp
  have hmem : rest.getD i [] ∈ rest:=getD_mem hi
  have hme:=fun (x : List Rat)=>mem_eraseIdx hi (x:=x)
  rw [← er] at hme
  generalize hr : rest.getD i [] = r at *
  have hrl : r.length = n + 1:=E.lens r (by simp [hmem])
  generalize hu : (r.map fun x=>x / r.getD c 0) = u
  have ul : u.length = n + 1:=by rw [← hu]; simpa using hrl
  have ug : ∀ j,u.getD j 0 = r.getD j 0 / r.getD c 0:=fun j=>by rw [← hu]; exact map_div_get
  have uc : u.getD c 0 = 1:=by rw [ug]; grind
  have uj : ∀ j,j < c → u.getD j 0 = 0:=fun j hj=>by rw [ug,E.rshape r hmem j hj]; grind
  have ud : ∀ y,dot (n + 1) u y = dot (n + 1) r y / r.getD c 0:=fun y=>by rw [← hu]; exact dot_div y
  have cl : ∀ (r' : List Rat),r'.length = n + 1 → c < n + 1 → (clearedR c u r').getD c 0 = 0:=fun r' hl hc=>by
    rw [clearedR_get (by omega),uc]; grind
  have hcn : c < n + 1:=by
    refine Classical.byContradiction fun z=>hp ?_
    simp [List.getD_eq_getElem?_getD,List.getElem?_eq_none (show r.length ≤ c by omega)]
  refine ⟨?_,?_,?_,?_,?_,?_⟩
  · simp [E.dlen]
  · have h1:=E.cnt
    have h2:=List.length_eraseIdx_of_lt hi
    simp only [List.length_append,List.length_map,List.length_cons,List.length_nil,h2]
    omega
  · intro x hx
    simp only [List.mem_append,List.mem_map,List.mem_singleton] at hx
    rcases hx with (⟨d,hd,rfl⟩ | rfl) | ⟨d,hd,rfl⟩
    · rw [clearedR_len]; exact E.lens d (by simp [hd])
    · exact ul
    · rw [clearedR_len]; exact E.lens d (by simp [List.mem_of_mem_eraseIdx hd])
  · intro a ha b hb
    rw [getD_append_map E.dlen]
    by_cases h1 : a < c
    · rw [if_pos h1]
      have hdl : (done.getD a []).length = n + 1:=E.lens _ (List.mem_append.mpr (.inl (getD_mem (by have:=E.dlen; omega))))
      by_cases h2 : b < c
      · rw [clearedR_get (by omega),uj b h2,E.dshape a h1 b h2]; grind
      · have : b = c:=by omega
        subst this
        rw [cl _ hdl hcn,if_neg (by omega)]
    · have : a = c:=by omega
      subst this
      rw [if_neg (by omega),if_pos rfl]
      by_cases h2 : b < a
      · rw [uj b h2,if_neg (by omega)]
      · have : b = a:=by omega
        subst this
        rw [uc,if_pos rfl]
  · intro x hx j hj
    obtain ⟨d,hd,rfl⟩:=List.mem_map.mp hx
    have hd':=List.mem_of_mem_eraseIdx hd
    have hdl : d.length = n + 1:=E.lens d (by simp [hd'])
    by_cases h2 : j < c
    · rw [clearedR_get (by omega),uj j h2,E.rshape d hd' j h2]; grind
    · have : j = c:=by omega
      subst this
      exact cl _ hdl hcn
  · intro y
    rw [← E.same y]
    constructor
    · intro h
      have hu0 : dot (n + 1) u y = 0:=h u (by simp)
      intro x hx
      have un : ∀ d,d.length = n + 1 → dot (n + 1) (clearedR c u d) y = 0 → dot (n + 1) d y = 0:=fun d hd h0=>by
        rw [dot_cleared y hd,hu0] at h0; grind
      rcases List.mem_append.mp hx with hd | hd
      · exact un x (E.lens x hx) (h _ (by simp only [List.mem_append,List.mem_map]; exact .inl (.inl ⟨x,hd,rfl⟩)))
      · rcases (hme x).mp hd with e | e
        · rw [e]
          rw [ud] at hu0
          grind
        · exact un x (E.lens x hx) (h _ (by simp only [List.mem_append,List.mem_map]; exact .inr ⟨x,e,rfl⟩))
    · intro h
      have hr0 : dot (n + 1) r y = 0:=h r (by simp [hmem])
      have hu0 : dot (n + 1) u y = 0:=by rw [ud,hr0]; grind
      intro x hx
      simp only [List.mem_append,List.mem_map,List.mem_singleton] at hx
      rcases hx with (⟨d,hd,rfl⟩ | rfl) | ⟨d,hd,rfl⟩
      · rw [dot_cleared y (E.lens d (by simp [hd])),hu0,h d (by simp [hd])]; grind
      · exact hu0
      · have hd':=List.mem_of_mem_eraseIdx hd
        rw [dot_cleared y (E.lens d (by simp [hd'])),hu0,h d (by simp [hd'])]; grind
theorem solvingR_is {n : Nat} {orig : List (List Rat)} (U : Only n orig) : ∀ (f c : Nat) (done rest : List (List Rat)),Elim n orig c done rest → c + f = n → ∃ rest',Elim n orig n (solvingR c f done rest) rest'
  | 0,c,done,rest,E,h=>by
    have : c = n:=by omega
    subst this
    exact ⟨rest,E⟩
  | f + 1,c,done,rest,E,h=>by
    obtain ⟨i,q⟩:=E.pivot U (by omega)
    unfold solvingR
    rw [q]
    exact solvingR_is U f (c + 1) _ _ (E.step q) (by omega)
def withM (n : Nat) (x : Nat → Rat) : Nat → Rat:=fun i=>if i = n then -1 else x i
theorem solved_is {n : Nat} {rows : List (List Rat)} (hl : ∀ r ∈ rows,r.length = n + 1) (U : Only n rows) (hn : rows.length = n) :
    ∃ X : List Rat,X.length = n ∧ solved n (rows.map (·.map toF)) = X.map toF ∧ (∀ x,Kills (n + 1) rows (withM n x) → ∀ i,i < n → X.getD i 0 = x i) ∧ Kills (n + 1) rows (withM n fun i=>X.getD i 0):=by
  have E0 : Elim n rows 0 [] rows:=⟨rfl,by simpa using hn,by simpa using hl,fun i h=>by omega,fun r _ j h=>by omega,fun y=>by simp⟩
  obtain ⟨rest',E⟩:=solvingR_is U n 0 [] rows E0 (by omega)
  let Dn:=solvingR 0 n [] rows
  have dl : Dn.length = n:=E.dlen
  let X:=Dn.map fun r=>r.getD n 0
  have xg : ∀ i,i < n → X.getD i 0 = (Dn.getD i []).getD n 0:=fun i hi=>by
    simp only [X,List.getD_eq_getElem?_getD,List.getElem?_map,List.getElem?_eq_getElem (show i < Dn.length by omega)]
    rfl
  have one : ∀ x i,i < n → dot (n + 1) (Dn.getD i []) (withM n x) = x i - (Dn.getD i []).getD n 0:=fun x i hi=>by
    unfold dot sumTo
    have e : sumTo n (fun j=>(Dn.getD i []).getD j 0 * withM n x j) = x i:=by
      rw [sumTo_one (c:=i) hi (fun j hj hji=>by rw [E.dshape i hi j hj,if_neg (fun z=>hji z.symm)]; grind),E.dshape i hi i hi,if_pos rfl]
      simp only [withM]
      rw [if_neg (by omega)]
      grind
    rw [e]
    simp only [withM,if_true]
    grind
  refine ⟨X,by simp [X,dl],?_,?_,?_⟩
  · unfold solved
    have:=solving_toF n 0 [] rows
    simp only [List.map_nil] at this
    rw [this,List.map_map,List.map_map]
    refine List.map_congr_left fun r _=>?_
    simp only [Function.comp,getD_toF]
  · intro x hx i hi
    have h1:=(E.same _).mpr hx (Dn.getD i []) (List.mem_append.mpr (.inl (getD_mem (show i < Dn.length by omega))))
    rw [one x i hi] at h1
    rw [xg i hi]
    grind
  · refine (E.same _).mp fun r hr=>?_
    have h0 : rest' = []:=by
      have h1:=E.cnt
      have h2:=E.dlen
      exact List.length_eq_zero_iff.mp (by omega)
    rw [h0,List.append_nil] at hr
    obtain ⟨i,hi,rfl⟩:=mem_getD hr
    have hi' : i < n:=by
      have h2:=E.dlen
      omega
    rw [one _ i hi',xg i hi']
    grind
end Fw
namespace Fw
open Vbecai
def wtl (l : List (Nat × Nat)) (f : Nat) : Nat:=match l with
  | []=>0
  | x :: l=>(if x.1 = f then x.2 else 0) + wtl l f
def tot (l : List (Nat × Nat)) : Nat:=match l with
  | []=>0
  | x :: l=>x.2 + tot l
def fsum (l : List (Nat × Nat)) (g : Nat → Rat) : Rat:=match l with
  | []=>0
  | x :: l=>(x.2 : Rat) * g x.1 + fsum l g
theorem foldl_tot : ∀ (l : List (Nat × Nat)) (a : Nat),l.foldl (fun a f=>a + f.2) a = a + tot l
  | [],a=>rfl
  | x :: l,a=>by
    rw [List.foldl_cons,foldl_tot l]
    simp only [tot]
    omega
theorem tot_filter (f : Nat) : ∀ l : List (Nat × Nat),tot (l.filter fun x=>x.1 == f) = wtl l f
  | []=>rfl
  | x :: l=>by
    rw [List.filter_cons]
    by_cases h : x.1 = f
    · rw [if_pos (by simpa using h)]
      simp only [tot,wtl]
      rw [if_pos h,tot_filter f l]
    · rw [if_neg (by simpa using h)]
      simp only [wtl]
      rw [if_neg h,tot_filter f l]
      omega
def W (s : State) (e : Nat) : Nat:=tot (foods s e)
theorem weightOf_is (s : State) (e : Nat) : weightOf s e = W s e:=by
  unfold weightOf W
  rw [foldl_tot]
  omega
def sh (s : State) (e f : Nat) : Rat:=(wtl (foods s e) f : Rat) / (W s e : Rat)
theorem share_is (s : State) (e f : Nat) : share s e f = toF (sh s e f):=by
  unfold share sh
  rw [frac_is,foldl_tot,tot_filter,weightOf_is,Nat.zero_add]
  rfl
theorem sum_shares (g : Nat → Rat) (h0 : g 0 = 0) (n : Nat) : ∀ l : List (Nat × Nat),(∀ x ∈ l,x.1 ≤ n) → sumTo n (fun i=>(wtl l (i + 1) : Rat) * g (i + 1)) = fsum l g
  | [],_=>by
    refine sumTo_zero fun i _=>?_
    simp only [wtl]
    grind
  | x :: l,h=>by
    have ih:=sum_shares g h0 n l (fun y hy=>h y (by simp [hy]))
    have hx:=h x (by simp)
    simp only [fsum]
    rw [← ih]
    have e : sumTo n (fun i=>(wtl (x :: l) (i + 1) : Rat) * g (i + 1)) = sumTo n (fun i=>(if x.1 = i + 1 then (x.2 : Rat) * g x.1 else 0) + (wtl l (i + 1) : Rat) * g (i + 1)):=sumTo_congr fun i _=>by
      simp only [wtl]
      by_cases q : x.1 = i + 1
      · rw [if_pos q,if_pos q,Rat.natCast_add,q]
        grind
      · rw [if_neg q,if_neg q,Nat.zero_add]
        grind
    rw [e,sumTo_add]
    congr 1
    by_cases q : x.1 = 0
    · rw [q,h0,sumTo_zero fun i _=>if_neg (by omega)]
      grind
    · rw [sumTo_one (c:=x.1 - 1) (by omega) fun i _ hi=>if_neg (by omega),if_pos (by omega)]
theorem foods_le {s : State} (F : WF s) {e : Nat} : ∀ x ∈ foods s e,x.1 ≤ s.n:=fun x hx=>(F.rng _ (mem_foods.mp hx)).1
theorem foods_pos {s : State} (F : WF s) {e : Nat} : ∀ x ∈ foods s e,1 ≤ x.2:=fun x hx=>(F.rng _ (mem_foods.mp hx)).2.2.2.2.1
theorem tot_pos : ∀ {l : List (Nat × Nat)} {x : Nat × Nat},x ∈ l → x.2 ≤ tot l
  | [],_,h=>by simp at h
  | y :: l,x,h=>by
    simp only [tot]
    rcases List.mem_cons.mp h with rfl | h
    · omega
    · have:=tot_pos h
      omega
theorem shares_foods {s : State} (F : WF s) (e : Nat) (g : Nat → Rat) (h0 : g 0 = 0) : sumTo s.n (fun i=>sh s e (i + 1) * g (i + 1)) = fsum (foods s e) g / (W s e : Rat):=by
  rw [← sum_shares g h0 s.n _ (foods_le F)]
  have : sumTo s.n (fun i=>sh s e (i + 1) * g (i + 1)) = sumTo s.n (fun i=>(W s e : Rat)⁻¹ * ((wtl (foods s e) (i + 1) : Rat) * g (i + 1))):=sumTo_congr fun i _=>by
    unfold sh
    grind
  rw [this,sumTo_mul]
  grind
theorem fsum_neg (g : Nat → Rat) : ∀ l : List (Nat × Nat),fsum l (fun x=>- g x) = - fsum l g
  | []=>by simp only [fsum]; grind
  | x :: l=>by simp only [fsum]; rw [fsum_neg g l]; grind
theorem fsum_le {g : Nat → Rat} {M : Rat} : ∀ {l : List (Nat × Nat)},(∀ x ∈ l,g x.1 ≤ M) → fsum l g ≤ (tot l : Rat) * M
  | [],_=>by simp only [fsum,tot]; grind
  | x :: l,h=>by
    have ih:=fsum_le (fun y hy=>h y (List.mem_cons_of_mem x hy))
    have hx:=h x (by simp)
    have hw : (0 : Rat) ≤ (x.2 : Rat):=Rat.natCast_nonneg
    simp only [fsum,tot]
    rw [Rat.natCast_add]
    have:=Rat.mul_le_mul_of_nonneg_left hx hw
    grind
theorem fsum_lt {g : Nat → Rat} {M : Rat} : ∀ {l : List (Nat × Nat)},(∀ x ∈ l,g x.1 ≤ M) → (∃ x ∈ l,1 ≤ x.2 ∧ g x.1 < M) → fsum l g < (tot l : Rat) * M
  | [],_,⟨x,hx,_⟩=>by simp at hx
  | x :: l,h,⟨y,hy,hy1,hy2⟩=>by
    have hx:=h x (by simp)
    have hw : (0 : Rat) ≤ (x.2 : Rat):=Rat.natCast_nonneg
    simp only [fsum,tot]
    rw [Rat.natCast_add]
    rcases List.mem_cons.mp hy with rfl | hy
    · have hl:=fsum_le (fun z hz=>h z (List.mem_cons_of_mem y hz))
      have hp : (0 : Rat) < (y.2 : Rat):=Rat.natCast_pos.mpr (by omega)
      have:=Rat.mul_lt_mul_of_pos_left hy2 hp
      grind
    · have ih:=fsum_lt (fun z hz=>h z (List.mem_cons_of_mem x hz)) ⟨y,hy,hy1,hy2⟩
      have:=Rat.mul_le_mul_of_nonneg_left hx hw
      grind
theorem has_max (g : Nat → Rat) : ∀ (l : List Nat),l ≠ [] → ∃ e ∈ l,∀ x ∈ l,g x ≤ g e
  | [],h=>absurd rfl h
  | [a],_=>⟨a,by simp,fun x hx=>by simp at hx; subst hx; grind⟩
  | a :: b :: l,_=>by
    obtain ⟨e,he,hm⟩:=has_max g (b :: l) (by simp)
    by_cases h : g e ≤ g a
    · refine ⟨a,by simp,fun x hx=>?_⟩
      rcases List.mem_cons.mp hx with rfl | hx
      · grind
      · have:=hm x hx
        grind
    · refine ⟨e,by simp [he],fun x hx=>?_⟩
      rcases List.mem_cons.mp hx with rfl | hx
      · grind
      · exact hm x hx
theorem mean_le {s : State} (F : WF s) (hl : ∀ e ∈ s.kinds,Lv s [] e) {g : Nat → Rat} (h0 : g 0 = 0) (hg : ∀ e ∈ s.kinds,g e = 0 ∨ (W s e : Rat) * g e = fsum (foods s e) g) : ∀ e ∈ s.kinds,g e ≤ 0:=by
  have hne : s.kinds ≠ []:=fun q=>by
    have h1:=length_kinds (s:=s)
    rw [q] at h1
    have:=F.n1
    simp at h1
    omega
  obtain ⟨m,hm,hmax⟩:=has_max g s.kinds hne
  refine fun e he=>Classical.byContradiction fun hc=>?_
  have hM : 0 < g m:=by have:=hmax e he; grind
  have key : ∀ e,Lv s [] e → g e < g m:=by
    have one : ∀ e f,e ∈ s.kinds → Lk s f e → g f < g m → g e < g m:=fun e f he ⟨w,hw⟩ hf=>by
      rcases hg e he with q | q
      · rw [q]; exact hM
      · have hfo : (f,w) ∈ foods s e:=mem_foods.mpr hw
        have hpos : 1 ≤ W s e:=Nat.le_trans (foods_pos F _ hfo) (tot_pos hfo)
        have hall : ∀ x ∈ foods s e,g x.1 ≤ g m:=fun x hx=>by
          by_cases z : x.1 = 0
          · rw [z,h0]; grind
          · exact hmax _ (mem_kinds.mpr ⟨by omega,foods_le F x hx⟩)
        have:=fsum_lt hall ⟨(f,w),hfo,foods_pos F _ hfo,hf⟩
        have hp : (0 : Rat) < (W s e : Rat):=Rat.natCast_pos.mpr (by omega)
        rw [← q] at this
        exact (Rat.mul_lt_mul_left hp).mp this
    intro e he
    induction he with
    | sun a b c=>exact one _ 0 a c (by rw [h0]; exact hM)
    | step _ a b c ih=>exact one _ _ a c ih
  have:=key m (hl m hm)
  grind
theorem mean_zero {s : State} (F : WF s) (hl : ∀ e ∈ s.kinds,Lv s [] e) {g : Nat → Rat} (h0 : g 0 = 0) (hg : ∀ e ∈ s.kinds,g e = 0 ∨ (W s e : Rat) * g e = fsum (foods s e) g) : ∀ e ∈ s.kinds,g e = 0:=by
  intro e he
  have h1:=mean_le F hl h0 hg e he
  have h2:=mean_le F hl (g:=fun x=>- g x) (by rw [h0]; grind) (fun e he=>by
    rcases hg e he with q | q
    · exact .inl (by rw [q]; grind)
    · exact .inr (by rw [fsum_neg,← q]; grind)) e he
  grind
def rowOf (s : State) (own : Bool) (e : Nat) (b : Rat) : List Rat:=(s.kinds.map fun f=>(if e = f then (1 : Rat) else 0) - (if own then 0 else sh s e f)) ++ [b]
theorem rowOf_len {s : State} {own : Bool} {e : Nat} {b : Rat} : (rowOf s own e b).length = s.n + 1:=by simp [rowOf,length_kinds]
theorem rowOf_get {s : State} {own : Bool} {e : Nat} {b : Rat} {i : Nat} (h : i < s.n) : (rowOf s own e b).getD i 0 = (if e = i + 1 then (1 : Rat) else 0) - (if own then 0 else sh s e (i + 1)):=by
  simp only [rowOf,List.getD_eq_getElem?_getD]
  rw [List.getElem?_append_left (by simpa [length_kinds] using h),List.getElem?_map]
  simp [State.kinds,List.getElem?_map,List.getElem?_range h]
theorem rowOf_last {s : State} {own : Bool} {e : Nat} {b : Rat} : (rowOf s own e b).getD s.n 0 = b:=by
  simp only [rowOf,List.getD_eq_getElem?_getD]
  rw [List.getElem?_append_right (by simp [length_kinds])]
  simp [length_kinds]
def up (y : Nat → Rat) : Nat → Rat:=fun e=>if e = 0 then 0 else y (e - 1)
theorem dot_row {s : State} (F : WF s) {own : Bool} {e : Nat} {b : Rat} (he : e ∈ s.kinds) (y : Nat → Rat) :
    dot (s.n + 1) (rowOf s own e b) y = up y e - (if own then 0 else fsum (foods s e) (up y) / (W s e : Rat)) + b * y s.n:=by
  have hk:=mem_kinds.mp he
  unfold dot sumTo
  simp only [rowOf_last]
  have e1 : sumTo s.n (fun i=>(rowOf s own e b).getD i 0 * y i) = sumTo s.n (fun i=>(if e = i + 1 then y i else 0) - (if own then 0 else 1) * (sh s e (i + 1) * up y (i + 1))):=sumTo_congr fun i hi=>by
    rw [rowOf_get hi]
    have : up y (i + 1) = y i:=by simp [up]
    rw [this]
    cases own <;> by_cases q : e = i + 1 <;> simp only [q,if_true,if_false,Bool.false_eq_true] <;> grind
  rw [e1,sumTo_lin,sumTo_one (c:=e - 1) (by omega) (fun i _ hi=>if_neg (by omega)),if_pos (by omega),shares_foods F e (up y) rfl]
  have : up y e = y (e - 1):=by simp only [up]; rw [if_neg (by omega)]
  rw [this]
  cases own <;> simp only [if_true,if_false,Bool.false_eq_true] <;> grind
theorem row_toF {s : State} {own : Bool} {e : Nat} {b : Rat} (hb : own = true) : (s.kinds.map fun f=>if e = f then ((1,1) : Frac) else (0,1)) ++ [toF b] = (rowOf s own e b).map toF:=by
  subst hb
  simp only [rowOf,List.map_append,List.map_map,List.map_cons,List.map_nil]
  congr 1
  refine List.map_congr_left fun f _=>?_
  simp only [Function.comp,if_true]
  by_cases h : e = f
  · rw [if_pos h,if_pos h,show (1 : Rat) - 0 = 1 by grind]; rfl
  · rw [if_neg h,if_neg h,show (0 : Rat) - 0 = 0 by grind]; rfl
theorem row_toF' {s : State} {e : Nat} {b : Rat} : (s.kinds.map fun f=>minus (if e = f then (1,1) else (0,1)) (share s e f)) ++ [toF b] = (rowOf s false e b).map toF:=by
  simp only [rowOf,List.map_append,List.map_map,List.map_cons,List.map_nil]
  congr 1
  refine List.map_congr_left fun f _=>?_
  simp only [Function.comp,Bool.false_eq_true,if_false]
  rw [share_is]
  by_cases h : e = f
  · rw [if_pos h,if_pos h,← toF_one,minus_toF]
  · rw [if_neg h,if_neg h,← toF_zero,minus_toF]
theorem all_live {s : State} (h : allLive s = true) : ∀ e ∈ s.kinds,Lv s [] e:=fun e he=>by
  unfold allLive at h
  rw [List.all_eq_true] at h
  have:=h e he
  unfold lives at this
  simp at this
  exact mem_alive.mp this
theorem W_pos {s : State} (F : WF s) {e : Nat} (h : Lv s [] e) : 1 ≤ W s e:=by
  cases h with
  | sun _ _ c=>obtain ⟨w,hw⟩:=c; have hf:=mem_foods.mpr hw; exact Nat.le_trans (foods_pos F _ hf) (tot_pos hf)
  | step _ _ _ c=>obtain ⟨w,hw⟩:=c; have hf:=mem_foods.mpr hw; exact Nat.le_trans (foods_pos F _ hf) (tot_pos hf)
theorem system_is {s : State} (F : WF s) (hl : ∀ e ∈ s.kinds,Lv s [] e) (own : Nat → Bool) (b : Nat → Rat) :
    ∃ X : List Rat,X.length = s.n ∧ solved s.n ((s.kinds.map fun e=>rowOf s (own e) e (b e)).map (·.map toF)) = X.map toF ∧
      (∀ g : Nat → Rat,g 0 = 0 → (∀ e ∈ s.kinds,g e = (if own e then 0 else fsum (foods s e) g / (W s e : Rat)) + b e) → ∀ e ∈ s.kinds,X.getD (e - 1) 0 = g e) ∧
      (∀ e ∈ s.kinds,up (fun i=>X.getD i 0) e = (if own e then 0 else fsum (foods s e) (up fun i=>X.getD i 0) / (W s e : Rat)) + b e):=by
  have hlen : ∀ r ∈ s.kinds.map (fun e=>rowOf s (own e) e (b e)),r.length = s.n + 1:=fun r hr=>by
    obtain ⟨e,_,rfl⟩:=List.mem_map.mp hr
    exact rowOf_len
  have U : Only s.n (s.kinds.map fun e=>rowOf s (own e) e (b e)):=fun y hy hk i hi=>by
    have:=mean_zero F hl (g:=up y) rfl (fun e he=>by
      have h1:=hk _ (List.mem_map.mpr ⟨e,he,rfl⟩)
      rw [dot_row F he,hy] at h1
      cases ho : own e with
      | true =>
        rw [ho] at h1
        simp only [if_true] at h1
        exact .inl (by grind)
      | false =>
        rw [ho] at h1
        simp only [Bool.false_eq_true,if_false] at h1
        right
        have hp : (W s e : Rat) ≠ 0:=by
          have : (0 : Rat) < (W s e : Rat):=Rat.natCast_pos.mpr (W_pos F (hl e he))
          grind
        grind) (i + 1) (mem_kinds.mpr ⟨by omega,by omega⟩)
    simpa [up] using this
  obtain ⟨X,h1,h2,h3,h4⟩:=solved_is hlen U (by simp [length_kinds])
  have upM : ∀ x : Nat → Rat,∀ e ∈ s.kinds,up (withM s.n x) e = up x e:=fun x e he=>by
    have:=mem_kinds.mp he
    simp only [up,withM]
    rw [if_neg (by omega),if_neg (by omega),if_neg (by omega)]
  have fs : ∀ x : Nat → Rat,∀ l : List (Nat × Nat),(∀ y ∈ l,y.1 ≤ s.n) → fsum l (up (withM s.n x)) = fsum l (up x):=fun x l=>by
    induction l with
    | nil=>intro _; rfl
    | cons y l ih =>
      intro hy
      simp only [fsum]
      rw [ih fun z hz=>hy z (by simp [hz])]
      have : up (withM s.n x) y.1 = up x y.1:=by
        by_cases z : y.1 = 0
        · simp [up,z]
        · exact upM x _ (mem_kinds.mpr ⟨by omega,hy y (by simp)⟩)
      rw [this]
  have sol : ∀ x : Nat → Rat,Kills (s.n + 1) (s.kinds.map fun e=>rowOf s (own e) e (b e)) (withM s.n x) ↔ ∀ e ∈ s.kinds,up x e = (if own e then 0 else fsum (foods s e) (up x) / (W s e : Rat)) + b e:=fun x=>by
    have d : ∀ e ∈ s.kinds,dot (s.n + 1) (rowOf s (own e) e (b e)) (withM s.n x) = up x e - (if own e then 0 else fsum (foods s e) (up x) / (W s e : Rat)) - b e:=fun e he=>by
      rw [dot_row F he,upM x e he,fs x _ (foods_le F)]
      have : withM s.n x s.n = -1:=by simp [withM]
      rw [this]
      grind
    constructor
    · intro h e he
      have:=h _ (List.mem_map.mpr ⟨e,he,rfl⟩)
      rw [d e he] at this
      grind
    · intro h r hr
      obtain ⟨e,he,rfl⟩:=List.mem_map.mp hr
      rw [d e he]
      have:=h e he
      grind
  refine ⟨X,h1,h2,?_,?_⟩
  · intro g g0 hg e he
    have hk:=mem_kinds.mp he
    have ug : up (fun i=>g (i + 1)) = g:=by
      funext e
      simp only [up]
      by_cases z : e = 0
      · rw [if_pos z,z,g0]
      · rw [if_neg z,show e - 1 + 1 = e by omega]
    have:=h3 (fun i=>g (i + 1)) ((sol _).mpr (by rw [ug]; exact hg)) (e - 1) (by omega)
    rw [this,show e - 1 + 1 = e by omega]
  · exact (sol _).mp h4
theorem levels_is {s : State} (F : WF s) (h : allLive s = true) :
    ∃ X : List Rat,X.length = s.n ∧ levels s = X.map toF ∧
      (∀ g : Nat → Rat,g 0 = 0 → (∀ e ∈ s.kinds,g e = fsum (foods s e) g / (W s e : Rat) + 1) → ∀ e ∈ s.kinds,X.getD (e - 1) 0 = g e) ∧
      (∀ e ∈ s.kinds,up (fun i=>X.getD i 0) e = fsum (foods s e) (up fun i=>X.getD i 0) / (W s e : Rat) + 1):=by
  obtain ⟨X,h1,h2,h3,h4⟩:=system_is F (all_live h) (fun _=>false) (fun _=>1)
  refine ⟨X,h1,?_,?_,?_⟩
  · rw [← h2]
    unfold levels
    congr 1
    rw [List.map_map]
    refine List.map_congr_left fun e _=>?_
    exact row_toF' (b:=1)
  · simpa using h3
  · simpa using h4
theorem through_is {s : State} (F : WF s) (h : allLive s = true) (j : Nat) :
    ∃ X : List Rat,X.length = s.n ∧ through s j = X.map toF ∧
      (∀ g : Nat → Rat,g 0 = 0 → (∀ e ∈ s.kinds,g e = if e = j then 1 else fsum (foods s e) g / (W s e : Rat)) → ∀ e ∈ s.kinds,X.getD (e - 1) 0 = g e) ∧
      (∀ e ∈ s.kinds,up (fun i=>X.getD i 0) e = if e = j then 1 else fsum (foods s e) (up fun i=>X.getD i 0) / (W s e : Rat)):=by
  obtain ⟨X,h1,h2,h3,h4⟩:=system_is F (all_live h) (fun e=>decide (e = j)) (fun e=>if e = j then 1 else 0)
  have eq : ∀ (g : Nat → Rat) e,(if decide (e = j) = true then (0 : Rat) else fsum (foods s e) g / (W s e : Rat)) + (if e = j then 1 else 0) = if e = j then 1 else fsum (foods s e) g / (W s e : Rat):=fun g e=>by
    by_cases z : e = j
    · simp only [z,decide_true,if_true]; grind
    · simp only [z,decide_false,if_false,Bool.false_eq_true]; grind
  refine ⟨X,h1,?_,fun g g0 hg=>h3 g g0 fun e he=>by rw [eq]; exact hg e he,fun e he=>by rw [← eq]; exact h4 e he⟩
  rw [← h2]
  unfold through
  congr 1
  rw [List.map_map]
  refine List.map_congr_left fun e _=>?_
  simp only [Function.comp]
  by_cases z : e = j
  · rw [if_pos z,if_pos z]
    exact row_toF (b:=1) (by simpa using z)
  · rw [if_neg z,if_neg z]
    have : decide (e = j) = false:=by simpa using z
    rw [this]
    exact row_toF' (b:=0)
end Fw
namespace Fw
open Vbecai
abbrev Link:=Nat × Nat × Nat
def Less (a b : Link) : Prop:=a.1 < b.1 ∨ (a.1 = b.1 ∧ a.2.1 < b.2.1)
theorem less_iff {a b : Link} : lessLink a b = true ↔ Less a b:=by
  unfold lessLink Less
  simp
theorem Less.trans {a b c : Link} (h : Less a b) (k : Less b c) : Less a c:=by
  unfold Less at *; omega
theorem Less.irr {a : Link} (h : Less a a) : False:=by
  unfold Less at h; omega
theorem putLink_perm (x : Link) : ∀ l : List Link,(putLink x l).Perm (x :: l)
  | []=>.refl _
  | y :: l=>by
    unfold putLink
    by_cases h : lessLink x y = true
    · rw [if_pos h]
    · rw [if_neg h]
      exact ((putLink_perm x l).cons y).trans (.swap x y l)
theorem putLink_sorted {x : Link} : ∀ {l : List Link},l.Pairwise (fun a b=>lessLink a b = true) → (∀ y ∈ l,¬ (y.1 = x.1 ∧ y.2.1 = x.2.1)) → (putLink x l).Pairwise fun a b=>lessLink a b = true
  | [],_,_=>by simp [putLink]
  | y :: l,h,hx=>by
    have hp:=List.pairwise_cons.mp h
    unfold putLink
    by_cases q : lessLink x y = true
    · rw [if_pos q]
      refine List.pairwise_cons.mpr ⟨fun z hz=>?_,h⟩
      rcases List.mem_cons.mp hz with rfl | hz
      · exact q
      · exact less_iff.mpr ((less_iff.mp q).trans (less_iff.mp (hp.1 z hz)))
    · rw [if_neg q]
      refine List.pairwise_cons.mpr ⟨fun z hz=>?_,putLink_sorted hp.2 fun z hz=>hx z (List.mem_cons_of_mem y hz)⟩
      rcases List.mem_cons.mp ((putLink_perm x l).mem_iff.mp hz) with rfl | hz
      · have h1:=hx y (by simp)
        have h2 : ¬ Less z y:=fun r=>q (less_iff.mpr r)
        refine less_iff.mpr ?_
        unfold Less at *
        omega
      · exact hp.1 z hz
theorem sorted_unique : ∀ {l : List Link},l.Pairwise (fun a b=>lessLink a b = true) → ∀ x ∈ l,∀ y ∈ l,x.1 = y.1 → x.2.1 = y.2.1 → x = y
  | [],_,x,hx,_,_,_,_=>by simp at hx
  | a :: l,h,x,hx,y,hy,e1,e2=>by
    have hp:=List.pairwise_cons.mp h
    rcases List.mem_cons.mp hx with rfl | hx' <;> rcases List.mem_cons.mp hy with rfl | hy'
    · rfl
    · have:=less_iff.mp (hp.1 y hy'); unfold Less at this; omega
    · have:=less_iff.mp (hp.1 x hx'); unfold Less at this; omega
    · exact sorted_unique hp.2 x hx' y hy' e1 e2
theorem put_fold_perm : ∀ (l m : List Link),(l.foldl (fun m x=>putLink x m) m).Perm (l ++ m)
  | [],_=>.refl _
  | x :: l,m=>by
    rw [List.foldl_cons]
    refine (put_fold_perm l (putLink x m)).trans ?_
    refine ((putLink_perm x m).append_left l).trans ?_
    exact List.perm_middle
theorem unlike_iff : ∀ {l : List Link},unlike l = true ↔ l.Pairwise fun a b=>¬ (a.1 = b.1 ∧ a.2.1 = b.2.1)
  | []=>by simp [unlike]
  | x :: l=>by
    unfold unlike
    rw [Bool.and_eq_true,unlike_iff,List.pairwise_cons]
    refine and_congr ?_ Iff.rfl
    rw [Bool.not_eq_true',Bool.eq_false_iff,ne_eq,List.any_eq_true]
    constructor
    · intro h y hy e
      exact h ⟨y,hy,by simp [e.1,e.2]⟩
    · rintro h ⟨y,hy,e⟩
      simp at e
      exact h y hy ⟨e.1.symm,e.2.symm⟩
theorem put_fold_sorted : ∀ {l m : List Link},l.Pairwise (fun a b=>¬ (a.1 = b.1 ∧ a.2.1 = b.2.1)) → m.Pairwise (fun a b=>lessLink a b = true) → (∀ x ∈ l,∀ y ∈ m,¬ (y.1 = x.1 ∧ y.2.1 = x.2.1)) →
    (l.foldl (fun m x=>putLink x m) m).Pairwise fun a b=>lessLink a b = true
  | [],_,_,hm,_=>hm
  | x :: l,m,hl,hm,h=>by
    rw [List.foldl_cons]
    have hp:=List.pairwise_cons.mp hl
    refine put_fold_sorted hp.2 (putLink_sorted hm (h x (by simp))) fun y hy z hz e=>?_
    rcases List.mem_cons.mp ((putLink_perm x m).mem_iff.mp hz) with rfl | hz
    · exact hp.1 y hy e
    · exact h y (by simp [hy]) z hz e
theorem web_wf {n : Nat} {l : List Link} (h1 : 1 ≤ n) (h10 : n ≤ 10) (hin : ∀ x ∈ l,x.1 ≤ n ∧ 1 ≤ x.2.1 ∧ x.2.1 ≤ n ∧ x.1 ≠ x.2.1 ∧ 1 ≤ x.2.2 ∧ x.2.2 ≤ 1000) (hu : unlike l = true) :
    WF { n:=n,links:=l.foldl (fun m x=>putLink x m) [] } ∧ (l.foldl (fun m x=>putLink x m) []).Perm l:=by
  have hp:=put_fold_perm l []
  rw [List.append_nil] at hp
  exact ⟨⟨h1,h10,fun x hx=>hin x (hp.mem_iff.mp hx),put_fold_sorted (unlike_iff.mp hu) .nil (by simp)⟩,hp⟩
theorem start_wf : WF start:=⟨by decide,by decide,by simp [start],by simp [start]⟩
theorem weight_wf {s : State} (F : WF s) {f e w : Nat} (hf : f ≤ s.n) (he : 1 ≤ e ∧ e ≤ s.n) (hfe : f ≠ e) (hw : w ≤ 1000) :
    WF { s with links:=if w = 0 then s.links.filter (fun x=>!(x.1 == f && x.2.1 == e)) else putLink (f,e,w) (s.links.filter fun x=>!(x.1 == f && x.2.1 == e)) }:=by
  have hs : (s.links.filter fun x=>!(x.1 == f && x.2.1 == e)).Pairwise fun a b=>lessLink a b = true:=List.Pairwise.filter _ F.srt
  refine ⟨F.n1,F.n10,fun x hx=>?_,?_⟩
  · by_cases h : w = 0
    · simp only [if_pos h] at hx
      exact F.rng x (List.mem_filter.mp hx).1
    · simp only [if_neg h] at hx
      rcases List.mem_cons.mp ((putLink_perm _ _).mem_iff.mp hx) with rfl | hx
      · exact ⟨hf,he.1,he.2,hfe,by simp only; omega,hw⟩
      · exact F.rng x (List.mem_filter.mp hx).1
  · by_cases h : w = 0
    · simp only [if_pos h]
      exact hs
    · simp only [if_neg h]
      refine putLink_sorted hs fun y hy=>?_
      have:=(List.mem_filter.mp hy).2
      simp at this
      exact fun q=>this.elim (fun z=>z q.1) (fun z=>z q.2)
theorem without_wf {s : State} (F : WF s) {k : Nat} (h : s.n ≠ 1) (hk : 1 ≤ k ∧ k ≤ s.n) : WF (without s k):=by
  refine ⟨?_,?_,fun x hx=>?_,?_⟩
  · have:=F.n1; simp only [without]; omega
  · have:=F.n10; simp only [without]; omega
  · simp only [without,List.mem_map,List.mem_filter] at hx
    obtain ⟨y,⟨hy,hy2⟩,rfl⟩:=hx
    have:=F.rng y hy
    simp at hy2
    simp only [without]
    split <;> split <;> omega
  · simp only [without]
    rw [List.pairwise_map]
    refine List.Pairwise.imp_of_mem (fun {a b} ha hb q=>?_) (List.Pairwise.filter _ F.srt)
    have h1:=(List.mem_filter.mp ha).2
    have h2:=(List.mem_filter.mp hb).2
    simp at h1 h2
    have:=less_iff.mp q
    refine less_iff.mpr ?_
    unfold Less at *
    simp only
    split <;> split <;> split <;> split <;> omega
inductive Rc (s : State) (k : Nat) : Nat → Prop
  | one {e : Nat} : Lk s k e → Rc s k e
  | more {f e : Nat} : Rc s k f → Lk s f e → Rc s k e
theorem Rc.kind {s : State} (F : WF s) {k e : Nat} (h : Rc s k e) : e ∈ s.kinds:=by
  cases h with
  | one a=>exact (a.ne F).2.2
  | more _ a=>exact (a.ne F).2.2
theorem mem_beyond0 {s : State} {k e : Nat} : e ∈ beyond s k 0 ↔ e ∈ s.kinds ∧ Lk s k e:=by
  simp only [beyond,List.mem_filter,linked_iff]
theorem mem_beyond {s : State} {k m e : Nat} : e ∈ beyond s k (m + 1) ↔ e ∈ s.kinds ∧ (e ∈ beyond s k m ∨ ∃ f ∈ beyond s k m,Lk s f e):=by
  simp only [beyond,List.mem_filter,Bool.or_eq_true,List.any_eq_true,linked_iff,List.contains_eq_mem,decide_eq_true_eq]
theorem beyond_sound {s : State} {k : Nat} : ∀ {m e : Nat},e ∈ beyond s k m → Rc s k e
  | 0,e,h=>.one (mem_beyond0.mp h).2
  | m + 1,e,h=>by
    rcases (mem_beyond.mp h).2 with q | ⟨f,q,r⟩
    · exact beyond_sound q
    · exact .more (beyond_sound q) r
theorem beyond_mono {s : State} (F : WF s) {k m e : Nat} (h : e ∈ beyond s k m) : e ∈ beyond s k (m + 1):=mem_beyond.mpr ⟨(beyond_sound h).kind F,.inl h⟩
theorem beyond_base {s : State} (F : WF s) {k e : Nat} (h : Lk s k e) : ∀ m,e ∈ beyond s k m
  | 0=>mem_beyond0.mpr ⟨(h.ne F).2.2,h⟩
  | m + 1=>beyond_mono F (beyond_base F h m)
theorem beyond_nodup {s : State} {k : Nat} : ∀ m,(beyond s k m).Nodup
  | 0=>List.Pairwise.filter _ nodup_kinds
  | _ + 1=>List.Pairwise.filter _ nodup_kinds
theorem beyond_closed {s : State} (F : WF s) {k m : Nat} (h : ∀ e ∈ beyond s k (m + 1),e ∈ beyond s k m) {e : Nat} (he : Rc s k e) : e ∈ beyond s k m:=by
  induction he with
  | one a=>exact beyond_base F a m
  | more _ a ih=>exact h _ (mem_beyond.mpr ⟨(a.ne F).2.2,.inr ⟨_,ih,a⟩⟩)
theorem beyond_full {s : State} (F : WF s) {k : Nat} : ∀ m,(∀ e,Rc s k e → e ∈ beyond s k m) ∨ m ≤ (beyond s k m).length
  | 0=>.inr (Nat.zero_le _)
  | m + 1=>by
    rcases beyond_full F (k:=k) m with h | h
    · exact .inl fun e he=>beyond_mono F (h e he)
    · by_cases c : ∀ e ∈ beyond s k (m + 1),e ∈ beyond s k m
      · exact .inl fun e he=>beyond_mono F (beyond_closed F c he)
      · refine .inr ?_
        have : ∃ e,e ∈ beyond s k (m + 1) ∧ e ∉ beyond s k m:=Classical.byContradiction fun q=>c fun e he=>Classical.byContradiction fun q2=>q ⟨e,he,q2⟩
        obtain ⟨e,h1,h2⟩:=this
        have:=nodup_lt (beyond_nodup m) (fun x hx=>beyond_mono F hx) h1 h2
        omega
theorem mem_after {s : State} (F : WF s) {k e : Nat} : e ∈ after_ s k ↔ Rc s k e:=by
  constructor
  · exact beyond_sound
  · intro h
    rcases beyond_full F (k:=k) s.n with q | q
    · exact q e h
    · refine Classical.byContradiction fun c=>?_
      have:=nodup_lt (beyond_nodup s.n) (fun x hx=>(beyond_sound hx).kind F) (h.kind F) c
      rw [length_kinds] at this
      omega
end Fw
namespace Fw
open Vbecai
inductive Form : List Int → List (List Int) → List Int → Prop
  | web (n : Int) (row t : List Int) : Form (0 :: n :: (row.length : Int) :: (row ++ t)) [[0,n],row] t
  | alive (row t : List Int) : Form (2 :: (row.length : Int) :: (row ++ t)) [[2],row] t
  | none (p : Int) (t : List Int) : p = 1 ∨ p = 9 ∨ p = 14 → Form (p :: t) [[p]] t
  | one (p k : Int) (t : List Int) : p = 3 ∨ p = 4 ∨ p = 5 ∨ p = 6 ∨ p = 7 ∨ p = 8 ∨ p = 10 ∨ p = 11 ∨ p = 12 ∨ p = 13 ∨ p = 15 → Form (p :: k :: t) [[p,k]] t
  | weight (f e w : Int) (t : List Int) : Form (16 :: f :: e :: w :: t) [[16,f,e,w]] t
theorem whole_id (c : List (List Int)) : PyVbecai.whole c = c:=by
  unfold PyVbecai.whole
  split <;> rfl
theorem row_some {l x t : List Int} (h : PyFlat.row l = some (x,t)) : l = (x.length : Int) :: (x ++ t):=by
  cases l with
  | nil=>simp [PyFlat.row] at h
  | cons n r =>
    unfold PyFlat.row at h
    simp only at h
    by_cases q : 0 ≤ n ∧ n.toNat ≤ r.length
    · rw [if_pos q] at h
      simp only [Option.some.injEq,Prod.mk.injEq] at h
      obtain ⟨rfl,rfl⟩:=h
      rw [List.take_append_drop,List.length_take,Nat.min_eq_left q.2]
      congr 1
      omega
    · rw [if_neg q] at h
      cases h
theorem rows_zero (r : List Int) : PyFlat.rows 0 r = some ([],r):=rfl
theorem rows_one {r t : List Int} {xs : List (List Int)} (h : PyFlat.rows 1 r = some (xs,t)) : ∃ x,xs = [x] ∧ r = (x.length : Int) :: (x ++ t):=by
  unfold PyFlat.rows at h
  cases q : PyFlat.row r with
  | none=>rw [q] at h; cases h
  | some y =>
    obtain ⟨x,u⟩:=y
    rw [q] at h
    simp only [PyFlat.rows,Option.some.injEq,Prod.mk.injEq] at h
    obtain ⟨rfl,rfl⟩:=h
    exact ⟨x,rfl,row_some q⟩
theorem call_shape {p : Int} {r t : List Int} {c : List (List Int)} (h : PyFlat.call PyVbecai.shape (p :: r) = some (c,t)) :
    ∃ n k xs,PyVbecai.shape p = some (n,k) ∧ n ≤ r.length ∧ PyFlat.rows k (r.drop n) = some (xs,t) ∧ c = (p :: r.take n) :: xs:=by
  unfold PyFlat.call at h
  simp only at h
  cases q : PyVbecai.shape p with
  | none=>rw [q] at h; cases h
  | some z =>
    obtain ⟨n,k⟩:=z
    rw [q] at h
    simp only at h
    by_cases w : r.length < n
    · rw [if_pos w] at h; cases h
    · rw [if_neg w] at h
      cases q2 : PyFlat.rows k (r.drop n) with
      | none=>rw [q2] at h; cases h
      | some y =>
        obtain ⟨xs,u⟩:=y
        rw [q2] at h
        simp only [Option.some.injEq,Prod.mk.injEq] at h
        obtain ⟨rfl,rfl⟩:=h
        exact ⟨n,k,xs,rfl,by omega,q2,rfl⟩
theorem shape_none {p : Int} (h : p = 1 ∨ p = 9 ∨ p = 14) : PyVbecai.shape p = some (0,0):=by
  rcases h with rfl | rfl | rfl <;> rfl
theorem shape_one {p : Int} (h : p = 3 ∨ p = 4 ∨ p = 5 ∨ p = 6 ∨ p = 7 ∨ p = 8 ∨ p = 10 ∨ p = 11 ∨ p = 12 ∨ p = 13 ∨ p = 15) : PyVbecai.shape p = some (1,0):=by
  rcases h with rfl | rfl | rfl | rfl | rfl | rfl | rfl | rfl | rfl | rfl | rfl <;> rfl
theorem shape_some {p : Int} {z : Nat × Nat} (h : PyVbecai.shape p = some z) : p = 0 ∨ p = 2 ∨ (p = 1 ∨ p = 9 ∨ p = 14) ∨ (p = 3 ∨ p = 4 ∨ p = 5 ∨ p = 6 ∨ p = 7 ∨ p = 8 ∨ p = 10 ∨ p = 11 ∨ p = 12 ∨ p = 13 ∨ p = 15) ∨ p = 16:=by
  refine Classical.byContradiction fun c=>?_
  have : PyVbecai.shape p = none:=by
    unfold PyVbecai.shape
    rw [if_neg (by omega),if_neg (by omega),if_neg (by omega),if_neg (by omega),if_neg (by omega),if_neg (by omega),if_neg (by omega),if_neg (by omega),if_neg (by omega),if_neg (by omega),
      if_neg (by omega),if_neg (by omega),if_neg (by omega),if_neg (by omega),if_neg (by omega),if_neg (by omega),if_neg (by omega)]
  rw [this] at h
  cases h
theorem form_of {l t : List Int} {c : List (List Int)} (h : PyFlat.call PyVbecai.shape l = some (c,t)) : Form l c t:=by
  cases l with
  | nil=>simp [PyFlat.call] at h
  | cons p r =>
    obtain ⟨n,k,xs,hs,hn,hr,rfl⟩:=call_shape h
    rcases shape_some hs with rfl | rfl | q | q | rfl
    · have : PyVbecai.shape 0 = some (1,1):=rfl
      rw [this] at hs
      simp only [Option.some.injEq,Prod.mk.injEq] at hs
      obtain ⟨rfl,rfl⟩:=hs
      obtain ⟨x,rfl,e⟩:=rows_one hr
      match r,hn,e with
      | a :: r,_,e =>
        simp only [List.drop_succ_cons,List.drop_zero] at e
        subst e
        exact .web a x t
    · have : PyVbecai.shape 2 = some (0,1):=rfl
      rw [this] at hs
      simp only [Option.some.injEq,Prod.mk.injEq] at hs
      obtain ⟨rfl,rfl⟩:=hs
      obtain ⟨x,rfl,e⟩:=rows_one hr
      simp only [List.drop_zero] at e
      subst e
      exact .alive x t
    · rw [shape_none q] at hs
      simp only [Option.some.injEq,Prod.mk.injEq] at hs
      obtain ⟨rfl,rfl⟩:=hs
      rw [rows_zero] at hr
      simp only [Option.some.injEq,Prod.mk.injEq,List.drop_zero] at hr
      obtain ⟨rfl,rfl⟩:=hr
      exact .none p r q
    · rw [shape_one q] at hs
      simp only [Option.some.injEq,Prod.mk.injEq] at hs
      obtain ⟨rfl,rfl⟩:=hs
      rw [rows_zero] at hr
      match r,hn,hr with
      | a :: r,_,hr =>
        simp only [Option.some.injEq,Prod.mk.injEq,List.drop_succ_cons,List.drop_zero] at hr
        obtain ⟨rfl,rfl⟩:=hr
        exact .one p a r q
    · have : PyVbecai.shape 16 = some (3,0):=rfl
      rw [this] at hs
      simp only [Option.some.injEq,Prod.mk.injEq] at hs
      obtain ⟨rfl,rfl⟩:=hs
      rw [rows_zero] at hr
      match r,hn,hr with
      | a :: b :: d :: r,_,hr =>
        simp only [Option.some.injEq,Prod.mk.injEq,List.drop_succ_cons,List.drop_zero] at hr
        obtain ⟨rfl,rfl⟩:=hr
        exact .weight a b d r
def Rest (l : List Int) (cs : List (List (List Int))) : Prop:=∃ f,PyFlat.calls PyVbecai.shape f l = some cs
theorem Rest.nil {cs : List (List (List Int))} (h : Rest [] cs) : cs = []:=by
  obtain ⟨f,h⟩:=h
  cases f <;> simp [PyFlat.calls] at h <;> exact h
theorem Rest.cons {l : List Int} {cs : List (List (List Int))} (h : Rest l cs) (hl : l ≠ []) : ∃ c t cs',cs = c :: cs' ∧ Form l c t ∧ Rest t cs':=by
  obtain ⟨f,h⟩:=h
  cases l with
  | nil=>exact absurd rfl hl
  | cons p r =>
    cases f with
    | zero=>simp [PyFlat.calls] at h
    | succ f =>
      unfold PyFlat.calls at h
      cases q : PyFlat.call PyVbecai.shape (p :: r) with
      | none=>rw [q] at h; cases h
      | some z =>
        obtain ⟨c,t⟩:=z
        rw [q] at h
        simp only at h
        cases q2 : PyFlat.calls PyVbecai.shape f t with
        | none=>rw [q2] at h; cases h
        | some cs' =>
          rw [q2] at h
          simp only [Option.some.injEq] at h
          exact ⟨c,t,cs',h.symm,form_of q,f,q2⟩
def ans (s : State) (cs : List (List (List Int))) : List Int:=PyFlat.told (PyFlat.played VbecaiNeutral.step s cs)
theorem ans_nil (s : State) : ans s [] = []:=rfl
theorem ans_cons (s : State) (c : List (List Int)) (cs : List (List (List Int))) : ans s (c :: cs) = ((Vbecai.step s c).2.length : Int) :: ((Vbecai.step s c).2 ++ ans (Vbecai.step s c).1 cs):=rfl
theorem answers_rest {l : List Int} (h : PyVbecai.answers_asked l = true) : ∃ cs,Rest l cs ∧ PyVbecai.answers l = ans start cs ∧ cs.length ≤ 400:=by
  unfold PyVbecai.answers_asked PyVbecai.calls at h
  unfold PyVbecai.answers PyVbecai.calls
  cases q : PyFlat.calls PyVbecai.shape l.length l with
  | none=>rw [q] at h; cases h
  | some cs =>
    have e : cs.map PyVbecai.whole = cs:=by
      rw [List.map_congr_left (g:=id) (fun c _=>whole_id c),List.map_id]
    rw [q] at h
    simp only [e,Bool.and_eq_true] at h ⊢
    refine ⟨cs,⟨_,q⟩,rfl,?_⟩
    have:=h.1
    unfold PyFlat.atMost at this
    simpa using this
theorem step_web (s : State) (n : Int) (l : List Int) : Vbecai.step s [[0,n],l] = if inRange s (.web n l) = false then (s,[-1]) else act s (.web n l):=rfl
theorem step_told (s : State) : Vbecai.step s [[1]] = act s .told:=rfl
theorem step_alive (s : State) (l : List Int) : Vbecai.step s [[2],l] = if inRange s (.alive l) = false then (s,[-1]) else act s (.alive l):=rfl
theorem step_falls (s : State) (k : Int) : Vbecai.step s [[3,k]] = if isKind s k = false then (s,[-1]) else act s (.falls k):=rfl
theorem step_needed (s : State) (k : Int) : Vbecai.step s [[4,k]] = if isKind s k = false then (s,[-1]) else act s (.needed k):=rfl
theorem step_nearest (s : State) (k : Int) : Vbecai.step s [[5,k]] = if isKind s k = false then (s,[-1]) else act s (.nearest k):=rfl
theorem step_least (s : State) (k : Int) : Vbecai.step s [[6,k]] = if isKind s k = false then (s,[-1]) else act s (.least k):=rfl
theorem step_ways (s : State) (k : Int) : Vbecai.step s [[7,k]] = if isKind s k = false then (s,[-1]) else act s (.ways k):=rfl
theorem step_worst (s : State) (k : Int) : Vbecai.step s [[8,k]] = if isKind s k = false then (s,[-1]) else act s (.worst k):=rfl
theorem step_levels (s : State) : Vbecai.step s [[9]] = act s .levels:=rfl
theorem step_through (s : State) (k : Int) : Vbecai.step s [[10,k]] = if isKind s k = false then (s,[-1]) else act s (.through k):=rfl
theorem step_chains (s : State) (m : Int) : Vbecai.step s [[11,m]] = if within m 1 60 = false then (s,[-1]) else act s (.chains m):=rfl
theorem step_shortest (s : State) (k : Int) : Vbecai.step s [[12,k]] = if isKind s k = false then (s,[-1]) else act s (.shortest k):=rfl
theorem step_together (s : State) (k : Int) : Vbecai.step s [[13,k]] = if isKind s k = false then (s,[-1]) else act s (.together k):=rfl
theorem step_order (s : State) : Vbecai.step s [[14]] = act s .order:=rfl
theorem step_remove (s : State) (k : Int) : Vbecai.step s [[15,k]] = if isKind s k = false then (s,[-1]) else act s (.remove k):=rfl
theorem step_weight (s : State) (f e w : Int) : Vbecai.step s [[16,f,e,w]] = if (within f 0 (s.n : Int) && (isKind s e && within w 0 1000)) = false then (s,[-1]) else act s (.weight f e w):=rfl
theorem isKind_iff {s : State} {k : Int} : isKind s k = true ↔ 1 ≤ k ∧ k ≤ s.n:=by
  unfold isKind within
  simp
end Fw
namespace Fw
open Vbecai
inductive Rg (s : State) (gone : List Nat) (st : Nat) : Nat → Prop
  | one {e : Nat} : e ∈ s.kinds → e ∉ gone → Lk s st e → Rg s gone st e
  | more {f e : Nat} : Rg s gone st f → e ∈ s.kinds → e ∉ gone → Lk s f e → Rg s gone st e
theorem Rg.kind {s : State} {gone : List Nat} {st e : Nat} (h : Rg s gone st e) : e ∈ s.kinds ∧ e ∉ gone:=by
  cases h with
  | one a b _=>exact ⟨a,b⟩
  | more _ a b _=>exact ⟨a,b⟩
def cntF (lv : List Bool) : Nat:=lv.countP fun b=>!b
theorem cntF_set : ∀ {lv : List Bool} {e : Nat},lv[e]? = some false → cntF (lv.set e true) + 1 = cntF lv
  | [],_,h=>by simp at h
  | b :: lv,0,h=>by
    simp at h
    subst h
    simp [cntF]
  | b :: lv,e + 1,h=>by
    have:=cntF_set (lv:=lv) (e:=e) (by simpa using h)
    simp only [cntF,List.set_cons_succ,List.countP_cons] at this ⊢
    omega
structure Good (s : State) (gone : List Nat) (st : Nat) (lv : List Bool) (wt : List Nat) : Prop where
  len : lv.length = s.n + 1
  zero : lv[0]? = some false
  snd : ∀ e : Nat,lv[e]? = some true → Rg s gone st e
  wtd : ∀ f ∈ wt,f = st ∨ lv[f]? = some true
  cls : ∀ f e : Nat,(f = st ∨ lv[f]? = some true) → f ∉ wt → Lk s f e → e ∉ gone → lv[e]? = some true
structure Half (s : State) (gone : List Nat) (st : Nat) (lv : List Bool) (wt : List Nat) (f0 : Nat) (done : List Nat) : Prop where
  len : lv.length = s.n + 1
  zero : lv[0]? = some false
  fed : f0 = st ∨ lv[f0]? = some true
  snd : ∀ e : Nat,lv[e]? = some true → Rg s gone st e
  wtd : ∀ f ∈ wt,f = st ∨ lv[f]? = some true
  cls : ∀ f e : Nat,f ≠ f0 → (f = st ∨ lv[f]? = some true) → f ∉ wt → Lk s f e → e ∉ gone → lv[e]? = some true
  own : ∀ e ∈ done,e ∉ gone → lv[e]? = some true
theorem good_start (s : State) (gone : List Nat) (st : Nat) : Good s gone st (List.replicate (s.n + 1) false) [st]:=by
  refine ⟨by simp,by simp,fun e h=>?_,by simp,fun f e h hn=>?_⟩
  · rw [List.getElem?_replicate] at h
    split at h <;> simp at h
  · rcases h with h | h
    · exact absurd (by simp [h]) hn
    · rw [List.getElem?_replicate] at h
      split at h <;> simp at h
theorem Good.pop {s : State} {gone : List Nat} {st : Nat} {lv : List Bool} {wt : List Nat} {f0 : Nat} (g : Good s gone st lv (wt ++ [f0])) : Half s gone st lv wt f0 [] :=
  ⟨g.len,g.zero,g.wtd f0 (by simp),g.snd,fun f hf=>g.wtd f (by simp [hf]),fun f e hf hl hn=>g.cls f e hl (by simp [hn,hf]),by simp⟩
theorem Half.skip {s : State} {gone : List Nat} {st : Nat} {lv : List Bool} {wt : List Nat} {f0 e : Nat} {done : List Nat} (g : Half s gone st lv wt f0 done) (h : lv[e]? = some true ∨ e ∈ gone) : Half s gone st lv wt f0 (done ++ [e]) :=
  ⟨g.len,g.zero,g.fed,g.snd,g.wtd,g.cls,fun x hx hg=>by
    rcases List.mem_append.mp hx with q | q
    · exact g.own x q hg
    · simp at q
      subst q
      rcases h with h | h
      · exact h
      · exact absurd h hg⟩
theorem set_true {lv : List Bool} {e x : Nat} (h : lv[x]? = some true) : (lv.set e true)[x]? = some true:=by
  rw [List.getElem?_set]
  split
  · rename_i q
    subst q
    have:=(List.getElem?_eq_some_iff.mp h).1
    rw [if_pos this]
  · exact h
theorem of_set {lv : List Bool} {e x : Nat} (h : (lv.set e true)[x]? = some true) : x = e ∨ lv[x]? = some true:=by
  rw [List.getElem?_set] at h
  split at h
  · rename_i q
    exact .inl q.symm
  · exact .inr h
theorem Half.mark {s : State} (F : WF s) {gone : List Nat} {st : Nat} {lv : List Bool} {wt : List Nat} {f0 e : Nat} {done : List Nat} (g : Half s gone st lv wt f0 done) (hl : Lk s f0 e) (hg : e ∉ gone) (h : lv[e]? = some false) :
    Half s gone st (lv.set e true) (wt ++ [e]) f0 (done ++ [e]):=by
  have he:=(hl.ne F).2.2
  have hk:=mem_kinds.mp he
  have hself : (lv.set e true)[e]? = some true:=by
    rw [List.getElem?_set_self (by rw [g.len]; omega)]
  have hlv : Rg s gone st e:=by
    rcases g.fed with q | q
    · exact .one he hg (q ▸ hl)
    · exact .more (g.snd f0 q) he hg hl
  refine ⟨by simpa using g.len,?_,?_,fun x hx=>?_,fun f hf=>?_,fun f x hf hlf hn hlk hxg=>?_,fun x hx hxg=>?_⟩
  · rw [List.getElem?_set_ne (by omega)]
    exact g.zero
  · rcases g.fed with q | q
    · exact .inl q
    · exact .inr (set_true q)
  · rcases of_set hx with rfl | q
    · exact hlv
    · exact g.snd x q
  · rcases List.mem_append.mp hf with q | q
    · rcases g.wtd f q with z | z
      · exact .inl z
      · exact .inr (set_true z)
    · simp at q
      subst q
      exact .inr hself
  · have hfe : f ≠ e:=fun q=>hn (by simp [q])
    refine set_true (g.cls f x hf ?_ (fun q=>hn (by simp [q])) hlk hxg)
    rcases hlf with q | q
    · exact .inl q
    · rcases of_set q with z | z
      · exact absurd z hfe
      · exact .inr z
  · rcases List.mem_append.mp hx with q | q
    · exact set_true (g.own x q hxg)
    · simp at q
      subst q
      exact hself
theorem Half.good {s : State} {gone : List Nat} {st : Nat} {lv : List Bool} {wt : List Nat} {f0 : Nat} {done : List Nat} (g : Half s gone st lv wt f0 done) (h : ∀ e,Lk s f0 e → e ∈ done) : Good s gone st lv wt :=
  ⟨g.len,g.zero,g.snd,g.wtd,fun f e hl hn hlk hg=>by
    by_cases q : f = f0
    · subst q
      exact g.own e (h e hlk) hg
    · exact g.cls f e q hl hn hlk hg⟩
theorem Good.all {s : State} {gone : List Nat} {st : Nat} {lv : List Bool} (g : Good s gone st lv []) {e : Nat} : lv[e]? = some true ↔ Rg s gone st e:=by
  constructor
  · exact g.snd e
  · intro h
    induction h with
    | one a b c=>exact g.cls st _ (.inl rfl) (by simp) c b
    | more _ a b c ih=>exact g.cls _ _ (.inr ih) (by simp) c b
open Classical in
noncomputable def reachL (s : State) (st : Nat) (gone : List Nat) : List Nat:=s.kinds.filter fun e=>decide (Rg s gone st e)
theorem mem_reachL {s : State} {st : Nat} {gone : List Nat} {e : Nat} : e ∈ reachL s st gone ↔ Rg s gone st e:=by
  unfold reachL
  simp only [List.mem_filter,decide_eq_true_eq]
  exact ⟨fun h=>h.2,fun h=>⟨h.kind.1,h⟩⟩
theorem Good.answer {s : State} {gone : List Nat} {st : Nat} {lv : List Bool} (g : Good s gone st lv []) : s.kinds.filter (fun e=>lv.getD e false) = reachL s st gone:=by
  refine List.filter_congr fun e he=>?_
  rw [Bool.eq_iff_iff,@decide_eq_true_iff _ (Classical.propDecidable _),← g.all]
  simp only [List.getD_eq_getElem?_getD]
  cases h : lv[e]? with
  | none=>simp
  | some b=>simp
theorem rg_lv {s : State} {gone : List Nat} {e : Nat} : Rg s gone 0 e ↔ Lv s gone e:=by
  constructor
  · intro h
    induction h with
    | one a b c=>exact .sun a b c
    | more _ a b c ih=>exact .step ih a b c
  · intro h
    induction h with
    | sun a b c=>exact .one a b c
    | step _ a b c ih=>exact .more ih a b c
theorem reach_alive {s : State} {gone : List Nat} : reachL s 0 gone = alive s gone:=alive_filter _ fun e _=>by rw [@decide_eq_true_iff _ (Classical.propDecidable _),rg_lv]
theorem rg_rc {s : State} (F : WF s) {k e : Nat} : Rg s [] k e ↔ Rc s k e:=by
  constructor
  · intro h
    induction h with
    | one a b c=>exact .one c
    | more _ a b c ih=>exact .more ih c
  · intro h
    induction h with
    | one c=>exact .one (c.ne F).2.2 (by simp) c
    | more _ c ih=>exact .more ih (c.ne F).2.2 (by simp) c
theorem reachL_sorted {s : State} {st : Nat} {gone : List Nat} : (reachL s st gone).Pairwise (· < ·):=List.Pairwise.filter _ sorted_kinds
theorem reachL_len {s : State} {st : Nat} {gone : List Nat} : (reachL s st gone).length ≤ s.n:=by
  unfold reachL
  refine Nat.le_trans (List.length_filter_le _ _) ?_
  rw [length_kinds]
  exact Nat.le_refl _
end Fw
namespace Fw
open Vbecai
abbrev T3:=Int × Int × Int
def tripAt (l : List Int) (i : Nat) : T3:=(l.getD (3 * i) 0,l.getD (3 * i + 1) 0,l.getD (3 * i + 2) 0)
def isLink (n : Int) (t : T3) : Prop:=0 ≤ t.1 ∧ t.1 ≤ n ∧ 1 ≤ t.2.1 ∧ t.2.1 ≤ n ∧ t.1 ≠ t.2.1 ∧ 1 ≤ t.2.2 ∧ t.2.2 ≤ 1000
instance (n : Int) (t : T3) : Decidable (isLink n t):=by unfold isLink; exact inferInstance
def natT (t : T3) : Link:=(t.1.toNat,t.2.1.toNat,t.2.2.toNat)
def linksTo (l : List Int) (m : Nat) : List Link:=(List.range m).map fun i=>natT (tripAt l i)
theorem linksTo_succ (l : List Int) (m : Nat) : linksTo l (m + 1) = linksTo l m ++ [natT (tripAt l m)]:=by
  unfold linksTo
  rw [List.range_succ,List.map_append]
  rfl
theorem linksTo_cons (a b c : Int) (l : List Int) (m : Nat) : linksTo (a :: b :: c :: l) (m + 1) = natT (a,b,c) :: linksTo l m:=by
  unfold linksTo
  rw [List.range_succ_eq_map,List.map_cons,List.map_map]
  congr 1
theorem triples_is : ∀ (m : Nat) (l : List Int),l.length = 3 * m → triples (nats l) = linksTo l m
  | 0,l,h=>by
    have : l = []:=List.length_eq_zero_iff.mp (by omega)
    subst this
    rfl
  | m + 1,a :: b :: c :: l,h=>by
    rw [linksTo_cons,← triples_is m l (by simp at h; omega)]
    rfl
  | m + 1,[],h=>by simp at h
  | m + 1,[_],h=>by simp at h; omega
  | m + 1,[_,_],h=>by simp at h; omega
theorem all_nonneg : ∀ (m : Nat) (l : List Int),l.length = 3 * m → ((∀ v ∈ l,0 ≤ v) ↔ ∀ i,i < m → 0 ≤ (tripAt l i).1 ∧ 0 ≤ (tripAt l i).2.1 ∧ 0 ≤ (tripAt l i).2.2)
  | 0,l,h=>by
    have : l = []:=List.length_eq_zero_iff.mp (by omega)
    subst this
    simp
  | m + 1,a :: b :: c :: l,h=>by
    have ih:=all_nonneg m l (by simp at h; omega)
    constructor
    · intro q i hi
      cases i with
      | zero=>exact ⟨q a (by simp),q b (by simp),q c (by simp)⟩
      | succ i=>exact ih.mp (fun v hv=>q v (by simp [hv])) i (by omega)
    · intro q v hv
      have h0:=q 0 (by omega)
      simp only [List.mem_cons] at hv
      rcases hv with rfl | rfl | rfl | hv
      · exact h0.1
      · exact h0.2.1
      · exact h0.2.2
      · exact ih.mpr (fun i hi=>q (i + 1) (by omega)) v hv
  | m + 1,[],h=>by simp at h
  | m + 1,[_],h=>by simp at h; omega
  | m + 1,[_,_],h=>by simp at h; omega
theorem linkIn_iff {n : Int} {t : T3} (h : 0 ≤ t.1 ∧ 0 ≤ t.2.1 ∧ 0 ≤ t.2.2) : linkIn n (natT t) = true ↔ isLink n t:=by
  obtain ⟨a,b,c⟩:=t
  unfold linkIn natT within isLink
  simp only [Bool.and_eq_true,decide_eq_true_eq,bne_iff_ne,ne_eq]
  simp only at h
  omega
abbrev Apart (l : List Link) : Prop:=l.Pairwise fun a b=>¬ (a.1 = b.1 ∧ a.2.1 = b.2.1)
theorem web_range {s : State} {n : Int} {l : List Int} {m : Nat} (hl : l.length = 3 * m) (hm : m ≤ 100) :
    inRange s (.web n l) = true ↔ (1 ≤ n ∧ n ≤ 10) ∧ (∀ i,i < m → isLink n (tripAt l i)) ∧ Apart (linksTo l m):=by
  have hn:=all_nonneg m l hl
  simp only [inRange,Bool.and_eq_true,within,decide_eq_true_eq,List.all_eq_true,triples_is m l hl,unlike_iff,beq_iff_eq]
  constructor
  · rintro ⟨h1,_,_,h4,h5,h6⟩
    refine ⟨h1,fun i hi=>?_,h6⟩
    exact (linkIn_iff (hn.mp h4 i hi)).mp (h5 _ (List.mem_map.mpr ⟨i,List.mem_range.mpr hi,rfl⟩))
  · rintro ⟨h1,h2,h3⟩
    have pos : ∀ i,i < m → 0 ≤ (tripAt l i).1 ∧ 0 ≤ (tripAt l i).2.1 ∧ 0 ≤ (tripAt l i).2.2:=fun i hi=>by
      have:=h2 i hi
      unfold isLink at this
      omega
    refine ⟨h1,by omega,by omega,hn.mpr pos,fun x hx=>?_,h3⟩
    obtain ⟨i,hi,rfl⟩:=List.mem_map.mp hx
    have hi:=List.mem_range.mp hi
    exact (linkIn_iff (pos i hi)).mpr (h2 i hi)
theorem web_bad {s : State} {n : Int} {l : List Int} (h : l.length % 3 ≠ 0 ∨ 300 < l.length) : inRange s (.web n l) = false:=by
  rw [Bool.eq_false_iff]
  intro q
  simp only [inRange,Bool.and_eq_true,decide_eq_true_eq,beq_iff_eq] at q
  omega
theorem web_badn {s : State} {n : Int} {l : List Int} (h : ¬ (1 ≤ n ∧ n ≤ 10)) : inRange s (.web n l) = false:=by
  rw [Bool.eq_false_iff]
  intro q
  simp only [inRange,Bool.and_eq_true,within,decide_eq_true_eq] at q
  exact h q.1
theorem web_state {n : Int} {l : List Int} {m : Nat} (hl : l.length = 3 * m) (h1 : 1 ≤ n ∧ n ≤ 10) (h2 : ∀ i,i < m → isLink n (tripAt l i)) (h3 : Apart (linksTo l m)) :
    WF { n:=n.toNat,links:=(triples (nats l)).foldl (fun m x=>putLink x m) [] } ∧ ((triples (nats l)).foldl (fun m x=>putLink x m) []).Perm (linksTo l m):=by
  rw [triples_is m l hl]
  refine web_wf (by omega) (by omega) (fun x hx=>?_) (unlike_iff.mpr h3)
  obtain ⟨i,hi,rfl⟩:=List.mem_map.mp hx
  have:=h2 i (List.mem_range.mp hi)
  unfold isLink at this
  simp only [natT]
  omega
theorem apart_snoc {l : List Link} {x : Link} (h : Apart l) (hx : ∀ y ∈ l,¬ (y.1 = x.1 ∧ y.2.1 = x.2.1)) : Apart (l ++ [x]):=by
  refine List.pairwise_append.mpr ⟨h,by simp,fun a ha b hb=>?_⟩
  simp at hb
  subst hb
  exact hx a ha
end Fw
namespace Fw
open Vbecai
def cnt (s : State) : Nat → Nat → Nat
  | 0,f=>if f = 0 then 1 else 0
  | m + 1,e=>((foods s e).map fun f=>cnt s m f.1).sum
theorem foldl_sum {α : Type} (g : α → Nat) : ∀ (l : List α) (a : Nat),l.foldl (fun a x=>a + g x) a = a + (l.map g).sum
  | [],a=>by simp
  | x :: l,a=>by
    rw [List.foldl_cons,foldl_sum g l,List.map_cons,List.sum_cons]
    omega
theorem cnt_zero {s : State} (F : WF s) (m : Nat) : cnt s (m + 1) 0 = 0:=by
  have : foods s 0 = []:=by
    cases h : foods s 0 with
    | nil=>rfl
    | cons x l =>
      have:=F.rng _ (mem_foods.mp (show (x.1,x.2) ∈ foods s 0 by rw [h]; simp))
      exact absurd this.2.1 (by simp)
  show ((foods s 0).map _).sum = 0
  rw [this]
  rfl
theorem foods_nodup {s : State} (F : WF s) (e : Nat) : ((foods s e).map (·.1)).Nodup:=by
  unfold foods
  rw [List.map_map]
  refine List.pairwise_map.mpr (List.Pairwise.imp_of_mem ?_ (List.Pairwise.filter _ F.srt))
  intro a c ha hc hl q
  have q1:=(List.mem_filter.mp ha).2
  have q2:=(List.mem_filter.mp hc).2
  simp only [beq_iff_eq] at q1 q2
  rcases less_iff.mp hl with w | w
  · exact absurd (show a.1 = c.1 from q) (by omega)
  · omega
theorem sum_ind {l : List Nat} (h : l.Nodup) : (l.map fun f=>if f = 0 then 1 else 0).sum = if 0 ∈ l then 1 else 0:=by
  induction l with
  | nil=>rfl
  | cons x l ih =>
    rw [List.nodup_cons] at h
    rw [List.map_cons,List.sum_cons,ih h.2]
    by_cases q : x = 0
    · subst q
      rw [if_pos rfl,if_neg h.1,if_pos (by simp)]
    · rw [if_neg q]
      have : (0 ∈ x :: l) ↔ 0 ∈ l:=by
        rw [List.mem_cons]
        exact ⟨fun z=>z.elim (fun w=>absurd w.symm q) id,.inr⟩
      by_cases w : 0 ∈ l
      · rw [if_pos w,if_pos (this.mpr w)]
      · rw [if_neg w,if_neg (fun z=>w (this.mp z))]
theorem cnt_one {s : State} (F : WF s) (e : Nat) : cnt s 1 e = if linked s 0 e then 1 else 0:=by
  show ((foods s e).map fun f=>if f.1 = 0 then 1 else 0).sum = _
  have : (foods s e).map (fun f=>if f.1 = 0 then 1 else 0) = ((foods s e).map (·.1)).map fun f=>if f = 0 then 1 else 0:=by rw [List.map_map]; rfl
  rw [this,sum_ind (foods_nodup F e)]
  have : 0 ∈ (foods s e).map (·.1) ↔ linked s 0 e = true:=by
    rw [linked_iff,List.mem_map]
    constructor
    · rintro ⟨⟨f,w⟩,h,rfl⟩
      exact ⟨w,mem_foods.mp h⟩
    · rintro ⟨w,h⟩
      exact ⟨(0,w),mem_foods.mpr h,rfl⟩
  by_cases q : 0 ∈ (foods s e).map (·.1)
  · rw [if_pos q,if_pos (this.mp q)]
  · rw [if_neg q,if_neg (fun z=>q (this.mpr z))]
theorem sum_filter {α : Type} (p : α → Bool) (g : α → Nat) : ∀ l : List α,(∀ x ∈ l,p x = false → g x = 0) → ((l.filter p).map g).sum = (l.map g).sum
  | [],_=>rfl
  | x :: l,h=>by
    have ih:=sum_filter p g l fun y hy=>h y (by simp [hy])
    rw [List.filter_cons,List.map_cons,List.sum_cons]
    cases q : p x with
    | true=>rw [if_pos rfl,List.map_cons,List.sum_cons,ih]
    | false=>rw [if_neg Bool.false_ne_true,ih,h x (by simp) q]; omega
theorem getD_kinds {s : State} (g : Nat → Nat) {f : Nat} (h1 : 1 ≤ f) (h2 : f ≤ s.n) : (s.kinds.map g).getD (f - 1) 0 = g f:=by
  unfold State.kinds
  rw [List.map_map,List.getD_eq_getElem?_getD,List.getElem?_map,List.getElem?_range (by omega)]
  show g (f - 1 + 1) = _
  rw [show f - 1 + 1 = f by omega]
theorem chains_is {s : State} (F : WF s) : ∀ m,chains s (m + 1) = s.kinds.map (cnt s (m + 1))
  | 0=>by
    show (s.kinds.map fun e=>if linked s 0 e then 1 else 0) = _
    exact List.map_congr_left fun e _=>(cnt_one F e).symm
  | m + 1=>by
    show (s.kinds.map fun e=>((foods s e).filter fun f=>f.1 != 0).foldl (fun a f=>a + (chains s (m + 1)).getD (f.1 - 1) 0) 0) = _
    refine List.map_congr_left fun e _=>?_
    rw [foldl_sum,chains_is F m]
    show 0 + _ = ((foods s e).map fun f=>cnt s (m + 1) f.1).sum
    rw [← sum_filter (fun f=>f.1 != 0) (fun f=>cnt s (m + 1) f.1) (foods s e) fun x _ hx=>by
      have : x.1 = 0:=by simpa using hx
      rw [this,cnt_zero F]]
    rw [Nat.zero_add]
    congr 1
    refine List.map_congr_left fun f hf=>?_
    obtain ⟨hf1,hf2⟩:=List.mem_filter.mp hf
    have hf2 : f.1 ≠ 0:=by simpa using hf2
    exact getD_kinds _ (by omega) (foods_le F f hf1)
theorem sum_pos {α : Type} (g : α → Nat) : ∀ l : List α,0 < (l.map g).sum ↔ ∃ x ∈ l,0 < g x
  | []=>by simp
  | x :: l=>by
    rw [List.map_cons,List.sum_cons]
    have ih:=sum_pos g l
    constructor
    · intro h
      by_cases q : 0 < g x
      · exact ⟨x,by simp,q⟩
      · obtain ⟨y,hy,z⟩:=ih.mp (by omega)
        exact ⟨y,by simp [hy],z⟩
    · rintro ⟨y,hy,z⟩
      rcases List.mem_cons.mp hy with rfl | hy
      · omega
      · have:=ih.mpr ⟨y,hy,z⟩
        omega
theorem cnt_pos {s : State} {m e : Nat} : 0 < cnt s (m + 1) e ↔ ∃ f,Lk s f e ∧ 0 < cnt s m f:=by
  show 0 < ((foods s e).map fun f=>cnt s m f.1).sum ↔ _
  rw [sum_pos]
  constructor
  · rintro ⟨⟨f,w⟩,h,z⟩
    exact ⟨f,⟨w,mem_foods.mp h⟩,z⟩
  · rintro ⟨f,⟨w,h⟩,z⟩
    exact ⟨(f,w),mem_foods.mpr h,z⟩
theorem cnt0_pos {s : State} {f : Nat} : 0 < cnt s 0 f ↔ f = 0:=by
  show 0 < (if f = 0 then 1 else 0) ↔ _
  split <;> simp_all
theorem mem_rounds {s : State} (F : WF s) : ∀ {m e : Nat},e ∈ rounds s [] m ↔ ∃ j,1 ≤ j ∧ j ≤ m ∧ 0 < cnt s j e
  | 0,e=>by
    simp only [rounds]
    constructor
    · intro h; simp at h
    · rintro ⟨j,a,b,_⟩; omega
  | m + 1,e=>by
    show e ∈ widened s [] (rounds s [] m) ↔ _
    rw [mem_widened]
    constructor
    · rintro ⟨_,_,h | ⟨f,hf,h⟩⟩
      · obtain ⟨j,a,b,c⟩:=(mem_rounds F).mp h
        exact ⟨j,a,by omega,c⟩
      · rcases h with rfl | h
        · exact ⟨1,by omega,by omega,cnt_pos.mpr ⟨0,hf,cnt0_pos.mpr rfl⟩⟩
        · obtain ⟨j,a,b,c⟩:=(mem_rounds F).mp h
          exact ⟨j + 1,by omega,by omega,cnt_pos.mpr ⟨f,hf,c⟩⟩
    · rintro ⟨j,a,b,c⟩
      obtain ⟨i,rfl⟩ : ∃ i,j = i + 1:=⟨j - 1,by omega⟩
      obtain ⟨f,hf,hc⟩:=cnt_pos.mp c
      refine ⟨(hf.ne F).2.2,by simp,.inr ⟨f,hf,?_⟩⟩
      by_cases q : i = 0
      · subst q
        exact .inl (cnt0_pos.mp hc)
      · exact .inr ((mem_rounds F).mpr ⟨i,by omega,by omega,hc⟩)
theorem find_least {p : Nat → Bool} {n m : Nat} (hm : m < n) (hp : p m = true) (h : ∀ j,j < m → p j = false) : (List.range n).find? p = some m:=by
  rw [List.range_eq_range',List.find?_range'_eq_some]
  exact ⟨hp,by simp; omega,fun j hj hjm=>by simp [h j hjm]⟩
theorem shortest_at {s : State} (F : WF s) {k m : Nat} (h1 : 1 ≤ m) (h2 : m ≤ s.n) (hc : 0 < cnt s m k) (hn : ∀ j,1 ≤ j → j < m → cnt s j k = 0) : shortest s k = m:=by
  unfold shortest
  have hp : (rounds s [] m).contains k = true:=by
    simpa using (mem_rounds F).mpr ⟨m,h1,Nat.le_refl _,hc⟩
  rw [find_least (p:=fun m=>(rounds s [] m).contains k) (n:=s.n + 1) (m:=m) (by omega) hp fun j hj=>?_]
  · rfl
  · cases q : (rounds s [] j).contains k with
    | false=>rfl
    | true =>
      have : k ∈ rounds s [] j:=by simpa using q
      obtain ⟨i,a,b,c⟩:=(mem_rounds F).mp this
      have:=hn i a (by omega)
      omega
theorem shortest_none {s : State} (F : WF s) {k : Nat} (hn : ∀ j,1 ≤ j → j ≤ s.n → cnt s j k = 0) : shortest s k = 0:=by
  unfold shortest
  have : (List.range (s.n + 1)).find? (fun m=>(rounds s [] m).contains k) = none:=by
    rw [List.find?_eq_none]
    intro m hm q
    have hm:=List.mem_range.mp hm
    have : k ∈ rounds s [] m:=by simpa using q
    obtain ⟨i,a,b,c⟩:=(mem_rounds F).mp this
    have:=hn i a (by omega)
    omega
  rw [this]
  rfl
def canList (s : State) (l : List Nat) (e : Nat) : Bool:=!l.contains e && (foods s e).all fun f=>f.1 == 0 || l.contains f.1
theorem listing_none {s : State} {l : List Nat} (h : s.kinds.find? (canList s l) = none) : ∀ m,listing s m l = l
  | 0=>rfl
  | m + 1=>by
    show (match s.kinds.find? (canList s l) with | none=>l | some e=>listing s m (l ++ [e])) = l
    rw [h]
theorem listing_some {s : State} {l : List Nat} {e m : Nat} (h : s.kinds.find? (canList s l) = some e) : listing s (m + 1) l = listing s m (l ++ [e]):=by
  show (match s.kinds.find? (canList s l) with | none=>l | some e=>listing s m (l ++ [e])) = _
  rw [h]
structure Listed (s : State) (l : List Nat) : Prop where
  nd : l.Nodup
  sub : ∀ x ∈ l,x ∈ s.kinds
  eq : listing s (s.n - l.length) l = order s
theorem Listed.start (s : State) : Listed s []:=⟨by simp,by simp,rfl⟩
theorem Listed.len {s : State} {l : List Nat} (h : Listed s l) : l.length ≤ s.n:=by
  have:=nodup_le l s.kinds h.nd h.sub
  rwa [length_kinds] at this
theorem Listed.more {s : State} {l : List Nat} {e : Nat} (h : Listed s l) (he : s.kinds.find? (canList s l) = some e) : Listed s (l ++ [e]):=by
  have hm:=List.mem_of_find?_eq_some he
  have hp:=List.find?_some he
  have hn : e ∉ l:=by
    unfold canList at hp
    simp at hp
    exact hp.1
  have lt : l.length < s.n:=by
    have:=nodup_lt h.nd h.sub hm hn
    rwa [length_kinds] at this
  refine ⟨?_,fun x hx=>?_,?_⟩
  · rw [List.nodup_append]
    refine ⟨h.nd,by simp,fun a ha b hb=>?_⟩
    simp at hb
    subst hb
    exact fun z=>hn (z ▸ ha)
  · rcases List.mem_append.mp hx with q | q
    · exact h.sub x q
    · simp at q
      subst q
      exact hm
  · have:=h.eq
    rw [show s.n - l.length = (s.n - (l ++ [e]).length) + 1 by simp; omega,listing_some he] at this
    exact this
theorem Listed.done {s : State} {l : List Nat} (h : Listed s l) (he : s.kinds.find? (canList s l) = none) : l = order s:=by
  rw [← h.eq,listing_none he]
end Fw
namespace Fw
abbrev RowQ:=Nat → Rat
def expand (c : Nat) (F : List RowQ → Rat) : List RowQ → Rat
  | []=>0
  | r :: rs=>r c * F rs - expand c (fun q=>F (r :: q)) rs
def det : List Nat → List RowQ → Rat
  | [],_=>1
  | c :: cs,rows=>expand c (det cs) rows
theorem expand_zero {c : Nat} : ∀ (rows : List RowQ) {F : List RowQ → Rat},(∀ q,F q = 0) → expand c F rows = 0
  | [],_,_=>rfl
  | r :: rs,F,h=>by
    unfold expand
    rw [h,expand_zero rs fun q=>h _]
    grind
theorem expand_congr {c : Nat} : ∀ (rows : List RowQ) {F G : List RowQ → Rat},(∀ q,q.length + 1 = rows.length → F q = G q) → expand c F rows = expand c G rows
  | [],_,_,_=>rfl
  | r :: rs,F,G,h=>by
    unfold expand
    rw [h rs rfl,expand_congr rs fun q hq=>h (r :: q) (by simpa using hq)]
theorem expand_lin {c : Nat} (a : Rat) : ∀ (rows : List RowQ) {F G M : List RowQ → Rat},(∀ q,M q = a * F q + G q) → expand c M rows = a * expand c F rows + expand c G rows
  | [],_,_,_,_=>by unfold expand; grind
  | r :: rs,F,G,M,h=>by
    unfold expand
    rw [h,expand_lin a rs (F:=fun q=>F (r :: q)) (G:=fun q=>G (r :: q)) (M:=fun q=>M (r :: q)) fun q=>h _]
    grind
def Lin (F : List RowQ → Rat) : Prop:=∀ (pre post : List RowQ) (a : Rat) (r s t : RowQ),(∀ c,t c = a * r c + s c) → F (pre ++ t :: post) = a * F (pre ++ r :: post) + F (pre ++ s :: post)
theorem expand_Lin {c : Nat} : ∀ (pre : List RowQ) {F : List RowQ → Rat},Lin F → ∀ (post : List RowQ) (a : Rat) (r s t : RowQ),(∀ c,t c = a * r c + s c) →
    expand c F (pre ++ t :: post) = a * expand c F (pre ++ r :: post) + expand c F (pre ++ s :: post)
  | [],F,L,post,a,r,s,t,h=>by
    simp only [List.nil_append,expand]
    rw [h c,expand_lin a post (F:=fun q=>F (r :: q)) (G:=fun q=>F (s :: q)) (M:=fun q=>F (t :: q)) fun q=>L [] q a r s t h]
    grind
  | p :: pre,F,L,post,a,r,s,t,h=>by
    simp only [List.cons_append,expand]
    rw [L pre post a r s t h,expand_Lin pre (F:=fun q=>F (p :: q)) (fun pre' post' a' r' s' t' h'=>L (p :: pre') post' a' r' s' t' h') post a r s t h]
    grind
theorem det_Lin : ∀ cs : List Nat,Lin fun rows=>if rows.length = cs.length then det cs rows else 0
  | []=>fun pre post a r s t h=>by
    have e : ∀ x : RowQ,(if (pre ++ x :: post).length = ([] : List Nat).length then det [] (pre ++ x :: post) else 0) = 0:=fun x=>if_neg (by simp)
    simp only [e]
    grind
  | c :: cs=>fun pre post a r s t h=>by
    by_cases q : (pre ++ t :: post).length = (c :: cs).length
    · have e : ∀ x : RowQ,(if (pre ++ x :: post).length = (c :: cs).length then det (c :: cs) (pre ++ x :: post) else 0) = expand c (fun rows=>if rows.length = cs.length then det cs rows else 0) (pre ++ x :: post):=fun x=>by
        have q' : (pre ++ x :: post).length = (c :: cs).length:=by simpa using q
        rw [if_pos q']
        show expand c (det cs) _ = _
        refine expand_congr _ fun w hw=>?_
        rw [if_pos (by simp only [List.length_cons] at q'; omega)]
      simp only [e]
      exact expand_Lin pre (det_Lin cs) post a r s t h
    · have e : ∀ x : RowQ,(if (pre ++ x :: post).length = (c :: cs).length then det (c :: cs) (pre ++ x :: post) else 0) = 0:=fun x=>if_neg (by simpa using q)
      simp only [e]
      grind
def Alt (F : List RowQ → Rat) : Prop:=∀ (pre post : List RowQ) (r : RowQ),F (pre ++ r :: r :: post) = 0
theorem expand_Alt {c : Nat} : ∀ (pre : List RowQ) {F : List RowQ → Rat},Alt F → ∀ (post : List RowQ) (r : RowQ),expand c F (pre ++ r :: r :: post) = 0
  | [],F,L,post,r=>by
    simp only [List.nil_append,expand]
    rw [expand_zero post (F:=fun q=>F (r :: r :: q)) fun q=>L [] q r]
    grind
  | p :: pre,F,L,post,r=>by
    simp only [List.cons_append,expand]
    rw [L pre post r,expand_Alt pre (F:=fun q=>F (p :: q)) (fun pre' post' r'=>L (p :: pre') post' r') post r]
    grind
theorem det_Alt : ∀ cs : List Nat,Alt fun rows=>if rows.length = cs.length then det cs rows else 0
  | []=>fun pre post r=>if_neg (by simp)
  | c :: cs=>fun pre post r=>by
    by_cases q : (pre ++ r :: r :: post).length = (c :: cs).length
    · have e : (if (pre ++ r :: r :: post).length = (c :: cs).length then det (c :: cs) (pre ++ r :: r :: post) else 0) = expand c (fun rows=>if rows.length = cs.length then det cs rows else 0) (pre ++ r :: r :: post):=by
        rw [if_pos q]
        show expand c (det cs) _ = _
        refine expand_congr _ fun w hw=>?_
        rw [if_pos (by simp only [List.length_cons] at q; omega)]
      show (if _ then _ else _) = _
      rw [e]
      exact expand_Alt pre (det_Alt cs) post r
    · exact if_neg q
section
variable {cs : List Nat}
theorem det_lin {pre post : List RowQ} {a : Rat} {r s t : RowQ} (h : ∀ c,t c = a * r c + s c) (hl : pre.length + post.length + 1 = cs.length) : det cs (pre ++ t :: post) = a * det cs (pre ++ r :: post) + det cs (pre ++ s :: post):=by
  have:=det_Lin cs pre post a r s t h
  simp only [List.length_append,List.length_cons] at this
  rw [if_pos (by omega),if_pos (by omega),if_pos (by omega)] at this
  exact this
theorem det_alt {pre post : List RowQ} {r : RowQ} (hl : pre.length + post.length + 2 = cs.length) : det cs (pre ++ r :: r :: post) = 0:=by
  have:=det_Alt cs pre post r
  simp only [List.length_append,List.length_cons] at this
  rw [if_pos (by omega)] at this
  exact this
theorem det_swap {pre post : List RowQ} {r s : RowQ} (hl : pre.length + post.length + 2 = cs.length) : det cs (pre ++ r :: s :: post) = - det cs (pre ++ s :: r :: post):=by
  let t : RowQ:=fun c=>1 * r c + s c
  have h0 : det cs (pre ++ t :: t :: post) = 0:=det_alt hl
  have h1 : det cs (pre ++ t :: (t :: post)) = 1 * det cs (pre ++ r :: (t :: post)) + det cs (pre ++ s :: (t :: post)):=det_lin (fun _=>rfl) (by simp only [List.length_cons]; omega)
  have h2 : ∀ x : RowQ,det cs ((pre ++ [x]) ++ t :: post) = 1 * det cs ((pre ++ [x]) ++ r :: post) + det cs ((pre ++ [x]) ++ s :: post):=fun x=>det_lin (fun _=>rfl) (by simp only [List.length_append,List.length_cons,List.length_nil]; omega)
  have h3:=h2 r
  have h4:=h2 s
  simp only [List.append_assoc,List.cons_append,List.nil_append] at h3 h4
  have h5 : det cs (pre ++ r :: r :: post) = 0:=det_alt hl
  have h6 : det cs (pre ++ s :: s :: post) = 0:=det_alt hl
  grind
theorem det_twice {r : RowQ} {post : List RowQ} : ∀ (mid pre : List RowQ),pre.length + mid.length + post.length + 2 = cs.length → det cs (pre ++ r :: (mid ++ r :: post)) = 0
  | [],pre,hl=>det_alt (by simpa using hl)
  | m :: mid,pre,hl=>by
    have h1 : det cs (pre ++ r :: m :: (mid ++ r :: post)) = - det cs (pre ++ m :: r :: (mid ++ r :: post)):=det_swap (by simp only [List.length_append,List.length_cons] at hl ⊢; omega)
    have h2:=det_twice (r:=r) (post:=post) mid (pre ++ [m]) (by simp only [List.length_append,List.length_cons,List.length_nil] at hl ⊢; omega)
    simp only [List.append_assoc,List.cons_append,List.nil_append] at h1 h2 ⊢
    rw [h1,h2]
    grind
end
theorem det_rows_congr {cs : List Nat} {pre post : List RowQ} {r s : RowQ} (h : ∀ c ∈ cs,r c = s c) (hl : pre.length + post.length + 1 = cs.length) : det cs (pre ++ r :: post) = det cs (pre ++ s :: post):=by
  have gen : ∀ (cs : List Nat) (pre post : List RowQ),(∀ c ∈ cs,r c = s c) → det cs (pre ++ r :: post) = det cs (pre ++ s :: post):=by
    intro cs
    induction cs with
    | nil=>intros; rfl
    | cons c cs ih =>
      intro pre post h
      have hc : ∀ x ∈ cs,r x = s x:=fun x hx=>h x (by simp [hx])
      have key : ∀ (pre0 pre : List RowQ) (F : List RowQ → Rat),(∀ pre post,F (pre ++ r :: post) = F (pre ++ s :: post)) → expand c F (pre ++ r :: post) = expand c F (pre ++ s :: post):=by
        intro _ pre
        induction pre with
        | nil =>
          intro F hF
          simp only [List.nil_append,expand]
          rw [h c (by simp)]
          congr 1
          exact expand_congr post fun q _=>hF [] q
        | cons p pre ih2 =>
          intro F hF
          simp only [List.cons_append,expand]
          rw [hF pre post,ih2 (fun q=>F (p :: q)) fun pre' post'=>hF (p :: pre') post']
      exact key [] pre (det cs) fun pre post=>ih pre post hc
  exact gen cs pre post h
theorem expand_last {c : Nat} {r : RowQ} (h : r c = 0) : ∀ (rows : List RowQ) (F : List RowQ → Rat),expand c F (rows ++ [r]) = expand c (fun q=>F (q ++ [r])) rows
  | [],F=>by
    simp only [List.nil_append,expand]
    rw [h]
    grind
  | p :: rows,F=>by
    simp only [List.cons_append,expand]
    rw [expand_last h rows]
theorem det_corner {r : RowQ} {c' : Nat} : ∀ (cs : List Nat) (rows : List RowQ),(∀ c ∈ cs,r c = 0) → rows.length = cs.length → det (cs ++ [c']) (rows ++ [r]) = det cs rows * r c'
  | [],rows,_,hl=>by
    have : rows = []:=List.length_eq_zero_iff.mp hl
    subst this
    simp only [List.nil_append,det,expand]
    grind
  | c :: cs,rows,h,hl=>by
    simp only [List.cons_append,det]
    rw [expand_last (h c (by simp))]
    have e : ∀ (rows : List RowQ) (F G : List RowQ → Rat) (x : Rat),(∀ q,q.length + 1 = rows.length → F q = G q * x) → expand c F rows = expand c G rows * x:=by
      intro rows
      induction rows with
      | nil=>intro F G x _; unfold expand; grind
      | cons p rows ih =>
        intro F G x hF
        unfold expand
        rw [hF rows rfl,ih (fun q=>F (p :: q)) (fun q=>G (p :: q)) x fun q hq=>hF (p :: q) (by simpa using hq)]
        grind
    exact e rows _ _ _ fun q hq=>det_corner cs q (fun x hx=>h x (by simp [hx])) (by simp only [List.length_cons] at hl; omega)
def IsI (r : Rat) : Prop:=∃ z : Int,r = (z : Rat)
theorem IsI.add {a b : Rat} (h : IsI a) (k : IsI b) : IsI (a + b):=by obtain ⟨x,rfl⟩:=h; obtain ⟨y,rfl⟩:=k; exact ⟨x + y,by simp⟩
theorem IsI.sub {a b : Rat} (h : IsI a) (k : IsI b) : IsI (a - b):=by obtain ⟨x,rfl⟩:=h; obtain ⟨y,rfl⟩:=k; exact ⟨x - y,by simp⟩
theorem IsI.mul {a b : Rat} (h : IsI a) (k : IsI b) : IsI (a * b):=by obtain ⟨x,rfl⟩:=h; obtain ⟨y,rfl⟩:=k; exact ⟨x * y,by simp⟩
theorem IsI.zero : IsI 0:=⟨0,rfl⟩
theorem IsI.one : IsI 1:=⟨1,rfl⟩
theorem det_int : ∀ (cs : List Nat) (rows : List RowQ),(∀ r ∈ rows,∀ c,IsI (r c)) → IsI (det cs rows)
  | [],_,_=>IsI.one
  | c :: cs,rows,h=>by
    have e : ∀ (rows : List RowQ) (F : List RowQ → Rat),(∀ r ∈ rows,∀ c,IsI (r c)) → (∀ q,(∀ r ∈ q,∀ c,IsI (r c)) → IsI (F q)) → IsI (expand c F rows):=by
      intro rows
      induction rows with
      | nil=>intro F _ _; exact IsI.zero
      | cons p rows ih =>
        intro F hr hF
        unfold expand
        exact (((hr p (by simp)) c).mul (hF rows fun r m=>hr r (by simp [m]))).sub (ih (fun q=>F (p :: q)) (fun r m=>hr r (by simp [m])) fun q hq=>hF (p :: q) fun r m=>by
          rcases List.mem_cons.mp m with rfl | m
          · exact hr r (by simp)
          · exact hq r m)
    exact e rows _ h fun q hq=>det_int cs q hq
end Fw
namespace Fw
theorem sumTo_0 (g : Nat → Rat) : sumTo 0 g = 0:=rfl
theorem sumTo_succ (n : Nat) (g : Nat → Rat) : sumTo (n + 1) g = sumTo n g + g n:=rfl
theorem sumTo_swap (g : Nat → Nat → Rat) : ∀ a b : Nat,sumTo a (fun i=>sumTo b (g i)) = sumTo b fun j=>sumTo a fun i=>g i j
  | 0,b=>by
    exact (sumTo_zero (n:=b) fun i _=>rfl).symm
  | a + 1,b=>by
    show sumTo a _ + sumTo b (g a) = sumTo b fun j=>sumTo a (fun i=>g i j) + g a j
    rw [sumTo_swap g a b,← sumTo_add]
theorem sumTo_mulR (a : Rat) (g : Nat → Rat) (n : Nat) : sumTo n (fun i=>g i * a) = sumTo n g * a:=by
  have : sumTo n (fun i=>g i * a) = sumTo n (fun i=>a * g i):=sumTo_congr fun i _=>by grind
  rw [this,sumTo_mul]
  grind
theorem sumTo_cut {g : Nat → Rat} {k i : Nat} : ∀ {n : Nat},k ≤ n → (∀ l,k ≤ l → l < n → l ≠ i → g l = 0) → sumTo n g = sumTo k g + if k ≤ i ∧ i < n then g i else 0
  | 0,hk,_=>by
    have : k = 0:=by omega
    subst this
    rw [if_neg (by omega)]
    grind
  | n + 1,hk,h=>by
    by_cases e : k = n + 1
    · subst e
      rw [if_neg (by omega)]
      grind
    · have ih:=sumTo_cut (g:=g) (k:=k) (i:=i) (n:=n) (by omega) fun l a b c=>h l a (by omega) c
      rw [sumTo_succ,ih]
      by_cases q : i = n
      · subst q
        rw [if_neg (by omega),if_pos (by omega)]
        grind
      · rw [h n (by omega) (by omega) (fun z=>q z.symm)]
        by_cases w : k ≤ i ∧ i < n
        · rw [if_pos w,if_pos (by omega)]
          grind
        · rw [if_neg w,if_neg (by omega)]
          grind
theorem IsI.sum {g : Nat → Rat} : ∀ {n : Nat},(∀ i,i < n → IsI (g i)) → IsI (sumTo n g)
  | 0,_=>IsI.zero
  | n + 1,h=>(IsI.sum (n:=n) fun i hi=>h i (by omega)).add (h n (by omega))
theorem det_sum {cs : List Nat} {pre post : List RowQ} (hl : pre.length + post.length + 1 = cs.length) {B : Nat → RowQ} {a : Nat → Rat} {s : RowQ} : ∀ (m : Nat) (t : RowQ),(∀ c,t c = sumTo m (fun l=>a l * B l c) + s c) →
    det cs (pre ++ t :: post) = sumTo m (fun l=>a l * det cs (pre ++ B l :: post)) + det cs (pre ++ s :: post)
  | 0,t,h=>by
    have : t = s:=funext fun c=>by rw [h c,sumTo_0]; grind
    rw [this,sumTo_0]
    grind
  | m + 1,t,h=>by
    have h1 : det cs (pre ++ t :: post) = a m * det cs (pre ++ B m :: post) + det cs (pre ++ (fun c=>sumTo m (fun l=>a l * B l c) + s c) :: post):=det_lin (fun c=>by rw [h c]; show sumTo m _ + _ + _ = _; grind) hl
    rw [h1,det_sum hl m _ fun c=>rfl]
    show _ = sumTo m _ + _ + _
    grind
theorem range'_split {a l m : Nat} (h1 : a ≤ l) (h2 : l < a + m) : List.range' a m = List.range' a (l - a) ++ l :: List.range' (l + 1) (a + m - 1 - l):=by
  have e1 : m = (l - a) + (a + m - l):=by omega
  have e2 : a + m - l = (a + m - 1 - l) + 1:=by omega
  conv=>lhs; rw [e1]
  rw [← List.range'_append_1,e2,List.range'_succ,show a + (l - a) = l by omega]
section
variable {A : Nat → RowQ} {k : Nat}
def rep (A : Nat → RowQ) (k m : Nat) (x : RowQ) : List RowQ:=(List.range' 0 m).map A ++ x :: (List.range' (m + 1) (k - 1 - m)).map A
theorem rep_self {m : Nat} (h : m < k) : rep A k m (A m) = (List.range k).map A:=by
  unfold rep
  rw [List.range_eq_range',range'_split (a:=0) (l:=m) (m:=k) (by omega) (by omega),List.map_append,List.map_cons]
  simp
theorem rep_len {m : Nat} (h : m < k) : ((List.range' 0 m).map A).length + ((List.range' (m + 1) (k - 1 - m)).map A).length + 1 = (List.range k).length:=by
  simp
  omega
theorem rep_twice {l m : Nat} (hl : l < k) (hm : m < k) (h : l ≠ m) : det (List.range k) (rep A k m (A l)) = 0:=by
  unfold rep
  rcases Nat.lt_or_gt_of_ne h with q | q
  · have e : (List.range' 0 m).map A = (List.range' 0 l).map A ++ A l :: (List.range' (l + 1) (m - 1 - l)).map A:=by
      rw [range'_split (a:=0) (l:=l) (m:=m) (by omega) (by omega),List.map_append,List.map_cons]
      simp
    rw [e,List.append_assoc,List.cons_append]
    refine det_twice _ _ ?_
    simp
    omega
  · have e : (List.range' (m + 1) (k - 1 - m)).map A = (List.range' (m + 1) (l - (m + 1))).map A ++ A l :: (List.range' (l + 1) (m + 1 + (k - 1 - m) - 1 - l)).map A:=by
      rw [range'_split (a:=m + 1) (l:=l) (m:=k - 1 - m) (by omega) (by omega),List.map_append,List.map_cons]
    rw [e]
    refine det_twice _ _ ?_
    simp
    omega
def unitQ (j : Nat) : RowQ:=fun c=>if c = j then 1 else 0
def adj (A : Nat → RowQ) (k j m : Nat) : Rat:=det (List.range k) (rep A k m (unitQ j))
theorem adj_is {l m : Nat} (hl : l < k) (hm : m < k) : sumTo k (fun j=>A l j * adj A k j m) = if l = m then det (List.range k) ((List.range k).map A) else 0:=by
  have h1 : det (List.range k) (rep A k m (A l)) = sumTo k (fun j=>A l j * adj A k j m):=by
    have e : det (List.range k) (rep A k m (A l)) = det (List.range k) (rep A k m fun c=>sumTo k (fun j=>A l j * unitQ j c) + 0):=det_rows_congr (fun c hc=>by
      have hc:=List.mem_range.mp hc
      rw [sumTo_one (c:=c) hc fun i _ hi=>by unfold unitQ; rw [if_neg fun z=>hi z.symm]; grind]
      unfold unitQ
      rw [if_pos rfl]
      grind) (rep_len hm)
    rw [e]
    unfold rep
    rw [det_sum (rep_len hm) (s:=fun _=>0) k _ fun c=>rfl]
    have z : det (List.range k) ((List.range' 0 m).map A ++ (fun _=>(0 : Rat)) :: (List.range' (m + 1) (k - 1 - m)).map A) = 0:=by
      have:=det_lin (cs:=List.range k) (pre:=(List.range' 0 m).map A) (post:=(List.range' (m + 1) (k - 1 - m)).map A) (a:=-1) (r:=fun _=>0) (s:=fun _=>0) (t:=fun _=>0) (fun c=>by grind) (rep_len hm)
      grind
    rw [z]
    show sumTo k (fun j=>A l j * adj A k j m) + 0 = _
    grind
  rw [← h1]
  by_cases q : l = m
  · subst q
    rw [if_pos rfl,rep_self hl]
  · rw [if_neg q]
    exact rep_twice hl hm q
theorem adj_int (hA : ∀ l,l < k → ∀ c,IsI (A l c)) {j m : Nat} (hm : m < k) : IsI (adj A k j m):=by
  refine det_int _ _ fun r hr c=>?_
  unfold rep at hr
  rcases List.mem_append.mp hr with h | h
  · obtain ⟨l,hl,rfl⟩:=List.mem_map.mp h
    simp at hl
    exact hA l (by omega) c
  · rcases List.mem_cons.mp h with rfl | h
    · unfold unitQ
      split
      · exact IsI.one
      · exact IsI.zero
    · obtain ⟨l,hl,rfl⟩:=List.mem_map.mp h
      simp at hl
      exact hA l (by omega) c
end
structure Stage (n : Nat) (A : Nat → RowQ) (k : Nat) (M z : Nat → RowQ) (d : Rat) : Prop where
  comb : ∀ i,i < n → ∀ c,M i c = sumTo n fun l=>z i l * A l c
  zs : ∀ i,i < n → ∀ l,l < n → k ≤ l → z i l = if l = i then d else 0
  ms : ∀ i,i < n → ∀ j,j < k → M i j = if i = j then d else 0
  dd : d = det (List.range k) ((List.range k).map A)
def next (M : Nat → RowQ) (k : Nat) (d : Rat) (f : Nat → RowQ) : Nat → RowQ:=fun i c=>if i = k then f k c else (M k k * f i c - M i k * f k c) / d
theorem Stage.start (n : Nat) (A : Nat → RowQ) : Stage n A 0 A (fun i l=>if l = i then 1 else 0) 1 where
  comb:=fun i hi c=>by
    rw [sumTo_one (c:=i) hi fun l _ h=>by rw [if_neg h]; grind]
    rw [if_pos rfl]
    grind
  zs:=fun i _ l _ _=>rfl
  ms:=fun i _ j h=>by omega
  dd:=rfl
section
variable {n k : Nat} {A M z : Nat → RowQ} {d : Rat}
theorem Stage.step (S : Stage n A k M z d) (hk : k < n) (hd : d ≠ 0) : Stage n A (k + 1) (next M k d M) (next M k d z) (M k k) where
  comb:=fun i hi c=>by
    unfold next
    by_cases q : i = k
    · simp only [if_pos q]
      exact S.comb k hk c
    · simp only [if_neg q]
      rw [S.comb i hi c,S.comb k hk c]
      have : ∀ l,(M k k * z i l - M i k * z k l) / d * A l c = (M k k / d) * (z i l * A l c) - (M i k / d) * (z k l * A l c):=fun l=>by grind
      rw [sumTo_congr fun l _=>this l,sumTo_lin (M i k / d) (fun l=>M k k / d * (z i l * A l c)),sumTo_mul]
      grind
  zs:=fun i hi l hl hkl=>by
    unfold next
    have h1:=S.zs k hk l hl (by omega)
    rw [if_neg (by omega)] at h1
    by_cases q : i = k
    · simp only [if_pos q]
      rw [h1,if_neg (by omega)]
    · simp only [if_neg q]
      rw [h1,S.zs i hi l hl (by omega)]
      split <;> grind
  ms:=fun i hi j hj=>by
    unfold next
    by_cases q : i = k
    · simp only [if_pos q]
      by_cases w : j = k
      · rw [w,if_pos q]
      · rw [S.ms k hk j (by omega),if_neg (fun e=>w e.symm),if_neg (by omega)]
    · simp only [if_neg q]
      by_cases w : j = k
      · subst w
        rw [if_neg q]
        grind
      · rw [S.ms k hk j (by omega),if_neg (fun e=>w e.symm),S.ms i hi j (by omega)]
        split <;> grind
  dd:=by
    have h0 : ((List.range k).map A).length + ([] : List RowQ).length + 1 = (List.range (k + 1)).length:=by simp
    have h1 : det (List.range (k + 1)) ((List.range k).map A ++ [M k]) = d * M k k:=by
      rw [List.range_succ,det_corner (List.range k) _ (fun c hc=>by rw [S.ms k hk c (List.mem_range.mp hc),if_neg (by have:=List.mem_range.mp hc; omega)]) (by simp),← S.dd]
    have h2 : det (List.range (k + 1)) ((List.range k).map A ++ [M k]) = d * det (List.range (k + 1)) ((List.range (k + 1)).map A):=by
      have e : ∀ c,M k c = sumTo k (fun l=>z k l * A l c) + d * A k c:=fun c=>by
        rw [S.comb k hk c,sumTo_cut (k:=k) (i:=k) (Nat.le_of_lt hk) fun l a b q=>by rw [S.zs k hk l b a,if_neg q]; grind]
        rw [if_pos ⟨Nat.le_refl _,hk⟩,S.zs k hk k hk (Nat.le_refl _),if_pos rfl]
      rw [det_sum h0 (a:=fun l=>z k l) (B:=A) (s:=fun c=>d * A k c) k _ e]
      have zero : ∀ l,l < k → det (List.range (k + 1)) ((List.range k).map A ++ [A l]) = 0:=fun l hl=>by
        have:=rep_twice (A:=A) (k:=k + 1) (l:=l) (m:=k) (by omega) (by omega) (by omega)
        unfold rep at this
        simpa [List.range_eq_range'] using this
      rw [sumTo_zero fun l hl=>by rw [zero l hl]; grind]
      have hz : det (List.range (k + 1)) ((List.range k).map A ++ [fun _=>(0 : Rat)]) = 0:=by
        have:=det_lin (cs:=List.range (k + 1)) (pre:=(List.range k).map A) (post:=[]) (a:=-1) (r:=fun _=>0) (s:=fun _=>0) (t:=fun _=>0) (fun c=>by grind) h0
        grind
      have hl:=det_lin (cs:=List.range (k + 1)) (pre:=(List.range k).map A) (post:=[]) (a:=d) (r:=A k) (s:=fun _=>0) (t:=fun c=>d * A k c) (fun c=>by grind) h0
      rw [hl,hz]
      have er : (List.range (k + 1)).map A = (List.range k).map A ++ [A k]:=by rw [List.range_succ,List.map_append]; rfl
      rw [er]
      grind
    rw [h1] at h2
    grind
theorem Stage.int (S : Stage n A k M z d) (hk : k ≤ n) (hd : d ≠ 0) (hA : ∀ l,l < n → ∀ c,IsI (A l c)) : IsI d ∧ ∀ i,i < n → ∀ c,IsI (M i c):=by
  have hA' : ∀ l,l < k → ∀ c,IsI (A l c):=fun l hl=>hA l (by omega)
  have di : IsI d:=by
    rw [S.dd]
    refine det_int _ _ fun r hr c=>?_
    obtain ⟨l,hl,rfl⟩:=List.mem_map.mp hr
    exact hA' l (List.mem_range.mp hl) c
  refine ⟨di,?_⟩
  have zi : ∀ i,i < n → ∀ m,m < n → IsI (z i m):=fun i hi m hm=>by
    by_cases q : k ≤ m
    · rw [S.zs i hi m hm q]
      split
      · exact di
      · exact IsI.zero
    · have hmk : m < k:=by omega
      have row : ∀ j,j < k → sumTo k (fun l=>z i l * A l j) = (if i = j then d else 0) - (if k ≤ i then d * A i j else 0):=fun j hj=>by
        have h1:=S.comb i hi j
        rw [S.ms i hi j hj,sumTo_cut (k:=k) (i:=i) hk fun l a b q=>by rw [S.zs i hi l b a,if_neg q]; grind] at h1
        by_cases w : k ≤ i
        · rw [if_pos (show k ≤ i ∧ i < n from ⟨w,hi⟩),S.zs i hi i hi w,if_pos (show i = i from rfl)] at h1
          rw [if_pos w]
          grind
        · rw [if_neg (show ¬ (k ≤ i ∧ i < n) from fun e=>w e.1)] at h1
          rw [if_neg w]
          grind
      have h1 : sumTo k (fun j=>sumTo k (fun l=>z i l * A l j) * adj A k j m) = z i m * d:=by
        have e : ∀ j,j < k → sumTo k (fun l=>z i l * A l j) * adj A k j m = sumTo k (fun l=>z i l * (A l j * adj A k j m)):=fun j _=>by
          rw [← sumTo_mulR]
          exact sumTo_congr fun l _=>by grind
        rw [sumTo_congr e,sumTo_swap]
        have e2 : ∀ l,l < k → sumTo k (fun j=>z i l * (A l j * adj A k j m)) = if l = m then z i l * d else 0:=fun l hl=>by
          rw [sumTo_mul,adj_is hl hmk,← S.dd]
          split <;> grind
        rw [sumTo_congr e2,sumTo_one (c:=m) hmk fun l _ h=>if_neg h,if_pos rfl]
      rw [sumTo_congr fun j hj=>by rw [row j hj]] at h1
      by_cases w : k ≤ i
      · have e : sumTo k (fun j=>((if i = j then d else 0) - (if k ≤ i then d * A i j else 0)) * adj A k j m) = d * sumTo k (fun j=>-1 * (A i j * adj A k j m)):=by
          rw [← sumTo_mul]
          refine sumTo_congr fun j hj=>?_
          rw [if_neg (by omega),if_pos w]
          grind
        rw [e] at h1
        have : z i m = sumTo k (fun j=>-1 * (A i j * adj A k j m)):=by grind
        rw [this]
        exact IsI.sum fun j hj=>(show IsI (-1) from ⟨-1,rfl⟩).mul ((hA i hi j).mul (adj_int hA' hmk))
      · have e : sumTo k (fun j=>((if i = j then d else 0) - (if k ≤ i then d * A i j else 0)) * adj A k j m) = d * adj A k i m:=by
          rw [sumTo_one (c:=i) (by omega) fun j hj h=>by rw [if_neg (fun z=>h z.symm),if_neg w]; grind]
          rw [if_pos rfl,if_neg w]
          grind
        rw [e] at h1
        have : z i m = adj A k i m:=by grind
        rw [this]
        exact adj_int hA' hmk
  intro i hi c
  rw [S.comb i hi c]
  exact IsI.sum fun l hl=>(zi i hi l hl).mul (hA l hl c)
end
end Fw
namespace Fw
open Vbecai
abbrev MatZ:=Nat → Nat → Int
def toQ (M : MatZ) : Nat → RowQ:=fun i c=>(M i c : Rat)
def nextZ (M : MatZ) (k : Nat) (d : Int) : MatZ:=fun i c=>if i = k then M i c else (M k k * M i c - M i k * M k c) / d
def bitsAt : Nat → Nat
  | 0=>14
  | k + 1=>2 * bitsAt k + 1
structure StI (n : Nat) (A : MatZ) (k : Nat) (M : MatZ) (d : Int) : Prop where
  st : ∃ z,Stage n (toQ A) k (toQ M) z (d : Rat)
  pos : 0 < d
  off : ∀ i,i < n → ∀ j,j < n → i ≠ j → M i j ≤ 0
  rhs : ∀ i,i < n → 0 ≤ M i n
  sum : ∀ i,i < n → 0 ≤ sumTo n (toQ M i)
  bnd : ∀ i,i < n → ∀ c,c ≤ n → (M i c).natAbs < 2 ^ bitsAt k
  dbn : d.natAbs < 2 ^ bitsAt k
def Sol (n : Nat) (A : MatZ) : Prop:=∀ k,k < n → ∃ x : Nat → Rat,∀ l,l < n → sumTo n (fun j=>toQ A l j * x j) = if l = k then 1 else 0
theorem sum_nonpos {g : Nat → Rat} : ∀ {n : Nat},(∀ j,j < n → g j ≤ 0) → sumTo n g ≤ 0
  | 0,_=>by rw [sumTo_0]; grind
  | n + 1,h=>by
    rw [sumTo_succ]
    have:=sum_nonpos (n:=n) fun j hj=>h j (by omega)
    have:=h n (by omega)
    grind
theorem sum_all_zero {g : Nat → Rat} : ∀ {n : Nat},(∀ j,j < n → g j ≤ 0) → 0 ≤ sumTo n g → ∀ j,j < n → g j = 0
  | 0,_,_,j,hj=>by omega
  | n + 1,h,h0,j,hj=>by
    rw [sumTo_succ] at h0
    have h1:=sum_nonpos (n:=n) fun j hj=>h j (by omega)
    have h2:=h n (by omega)
    by_cases q : j = n
    · subst q
      grind
    · exact sum_all_zero (n:=n) (fun j hj=>h j (by omega)) (by grind) j (by omega)
theorem StI.start {n : Nat} {A : MatZ} (off : ∀ i,i < n → ∀ j,j < n → i ≠ j → A i j ≤ 0) (rhs : ∀ i,i < n → 0 ≤ A i n) (sum : ∀ i,i < n → 0 ≤ sumTo n (toQ A i)) (bnd : ∀ i,i < n → ∀ c,c ≤ n → (A i c).natAbs < 2 ^ 14) : StI n A 0 A 1 where
  st:=⟨_,by
    have:=Stage.start n (toQ A)
    simpa using this⟩
  pos:=by decide
  off:=off
  rhs:=rhs
  sum:=sum
  bnd:=bnd
  dbn:=by decide
section
variable {n k : Nat} {A M : MatZ} {d : Int}
theorem castNe (h : 0 < d) : (d : Rat) ≠ 0:=by
  have : (0 : Rat) < (d : Rat):=Rat.intCast_pos.mpr h
  grind
theorem StI.pivot (S : StI n A k M d) (hk : k < n) (X : Sol n A) : 0 < M k k:=by
  by_cases h : 0 < M k k
  · exact h
  · exfalso
    obtain ⟨z,st⟩:=S.st
    have le : ∀ j,j < n → toQ M k j ≤ 0:=fun j hj=>by
      show ((M k j : Int) : Rat) ≤ 0
      have : M k j ≤ 0:=by
        by_cases q : k = j
        · subst q; omega
        · exact S.off k hk j hj q
      exact_mod_cast this
    have zero:=sum_all_zero le (S.sum k hk)
    obtain ⟨x,hx⟩:=X k hk
    have h1 : sumTo n (fun j=>toQ M k j * x j) = 0:=sumTo_zero fun j hj=>by rw [zero j hj]; grind
    have h2 : sumTo n (fun j=>toQ M k j * x j) = (d : Rat):=by
      have e : ∀ j,j < n → toQ M k j * x j = sumTo n (fun l=>z k l * (toQ A l j * x j)):=fun j _=>by
        rw [st.comb k hk j,← sumTo_mulR]
        exact sumTo_congr fun l _=>by grind
      rw [sumTo_congr e,sumTo_swap,sumTo_congr fun l hl=>by rw [sumTo_mul,hx l hl]]
      rw [sumTo_one (c:=k) hk fun l _ q=>by rw [if_neg q]; grind]
      rw [if_pos rfl,st.zs k hk k hk (Nat.le_refl _),if_pos rfl]
      grind
    have:=castNe S.pos
    grind
theorem nextZ_cast (S : StI n A k M d) (hk : k < n) (hp : 0 < M k k) : (∀ i,i < n → ∀ c,toQ (nextZ M k d) i c = next (toQ M) k (d : Rat) (toQ M) i c) ∧ ∀ i,i < n → i ≠ k → ∀ c,nextZ M k d i c * d = M k k * M i c - M i k * M k c:=by
  obtain ⟨z,st⟩:=S.st
  have hd:=castNe S.pos
  have st':=st.step hk hd
  have hp' : ((M k k : Int) : Rat) ≠ 0:=castNe hp
  have int:=(st'.int (by omega) hp' fun l _ c=>⟨A l c,rfl⟩).2
  have key : ∀ i,i < n → i ≠ k → ∀ c,nextZ M k d i c * d = M k k * M i c - M i k * M k c:=fun i hi q c=>by
    obtain ⟨m,hm⟩:=int i hi c
    unfold next at hm
    rw [if_neg q] at hm
    have h1 : ((M k k * M i c - M i k * M k c : Int) : Rat) = ((m * d : Int) : Rat):=by
      simp only [Rat.intCast_sub,Rat.intCast_mul]
      unfold toQ at hm
      grind
    have h2 : M k k * M i c - M i k * M k c = m * d:=Rat.intCast_inj.mp h1
    unfold nextZ
    rw [if_neg q,h2,Int.mul_ediv_cancel _ (by have:=S.pos; omega)]
  refine ⟨fun i hi c=>?_,key⟩
  unfold next
  by_cases q : i = k
  · subst q
    rw [if_pos rfl]
    unfold toQ nextZ
    rw [if_pos rfl]
  · rw [if_neg q]
    have h1 : ((nextZ M k d i c * d : Int) : Rat) = ((M k k * M i c - M i k * M k c : Int) : Rat):=by rw [key i hi q c]
    simp only [Rat.intCast_sub,Rat.intCast_mul] at h1
    unfold toQ
    grind
theorem StI.step (S : StI n A k M d) (hk : k < n) (X : Sol n A) : StI n A (k + 1) (nextZ M k d) (M k k):=by
  have hp:=S.pivot hk X
  obtain ⟨hc,key⟩:=nextZ_cast S hk hp
  obtain ⟨z,st⟩:=S.st
  have hd:=castNe S.pos
  have hd0:=S.pos
  have hdq : (0 : Rat) < (d : Rat):=Rat.intCast_pos.mpr hd0
  have st':=st.step hk hd
  have sgn : ∀ a b : Int,a ≤ 0 → b ≤ 0 → 0 ≤ a * b:=fun a b h1 h2=>by
    have:=Int.mul_nonneg (a:=-a) (b:=-b) (by omega) (by omega)
    rwa [Int.neg_mul_neg] at this
  have sgm : ∀ a b : Int,a ≤ 0 → 0 ≤ b → a * b ≤ 0:=fun a b h1 h2=>Int.mul_nonpos_of_nonpos_of_nonneg h1 h2
  refine ⟨⟨next (toQ M) k (d : Rat) z,⟨fun i hi c=>?_,fun i hi l hl h=>?_,fun i hi j hj=>?_,st'.dd⟩⟩,hp,fun i hi j hj q=>?_,fun i hi=>?_,fun i hi=>?_,fun i hi c hcn=>?_,?_⟩
  · rw [hc i hi c]; exact st'.comb i hi c
  · exact st'.zs i hi l hl h
  · rw [hc i hi j]; exact st'.ms i hi j hj
  · by_cases e : i = k
    · subst e
      unfold nextZ
      rw [if_pos rfl]
      exact S.off i hi j hj q
    · have h1:=key i hi e j
      by_cases w : j = k
      · subst w
        have : nextZ M j d i j * d = 0:=by rw [h1,Int.mul_comm (M i j)]; omega
        rcases Int.mul_eq_zero.mp this with z | z
        · omega
        · omega
      · have h2 : M k k * M i j ≤ 0:=by rw [Int.mul_comm]; exact sgm _ _ (S.off i hi j hj q) (by omega)
        have h3:=sgn _ _ (S.off i hi k hk e) (S.off k hk j hj fun z=>w z.symm)
        refine Int.not_lt.mp fun z=>?_
        have:=Int.mul_pos z hd0
        omega
  · by_cases e : i = k
    · subst e
      unfold nextZ
      rw [if_pos rfl]
      exact S.rhs i hi
    · have h1:=key i hi e n
      have h2 : 0 ≤ M k k * M i n:=Int.mul_nonneg (by omega) (S.rhs i hi)
      have h3:=sgm _ _ (S.off i hi k hk e) (S.rhs k hk)
      refine Int.not_lt.mp fun z=>?_
      have:=Int.mul_neg_of_neg_of_pos z hd0
      omega
  · by_cases e : i = k
    · have : sumTo n (toQ (nextZ M k d) i) = sumTo n (toQ M i):=sumTo_congr fun j _=>by unfold toQ nextZ; rw [if_pos e]
      rw [this]
      exact S.sum i hi
    · have h1 : sumTo n (toQ (nextZ M k d) i) = (toQ M k k / d) * sumTo n (toQ M i) - (toQ M i k / d) * sumTo n (toQ M k):=by
        rw [← sumTo_mul (toQ M k k / d),← sumTo_lin]
        refine sumTo_congr fun j _=>?_
        rw [hc i hi j]
        unfold next
        rw [if_neg e]
        grind
      rw [h1]
      have a1 : (0 : Rat) ≤ toQ M k k / d:=by
        have : (0 : Rat) < toQ M k k:=Rat.intCast_pos.mpr hp
        rw [Rat.div_def]
        exact Rat.mul_nonneg (by grind) (by have:=Rat.inv_pos.mpr hdq; grind)
      have a2 : (0 : Rat) ≤ -(toQ M i k / d):=by
        have : toQ M i k ≤ 0:=by
          show ((M i k : Int) : Rat) ≤ 0
          exact_mod_cast S.off i hi k hk e
        have h3 : (0 : Rat) ≤ (-toQ M i k) * (d : Rat)⁻¹:=Rat.mul_nonneg (by grind) (by have:=Rat.inv_pos.mpr hdq; grind)
        rw [Rat.div_def]
        grind
      have b1:=Rat.mul_nonneg a1 (S.sum i hi)
      have b2:=Rat.mul_nonneg a2 (S.sum k hk)
      grind
  · show _ < 2 ^ (2 * bitsAt k + 1)
    have B : ∀ {x y : Int},x.natAbs < 2 ^ bitsAt k → y.natAbs < 2 ^ bitsAt k → (x * y).natAbs < 2 ^ (2 * bitsAt k):=fun {x y} h1 h2=>by
      rw [Int.natAbs_mul,Nat.two_mul,Nat.pow_add]
      exact Nat.mul_lt_mul'' h1 h2
    have pw : 2 ^ (2 * bitsAt k + 1) = 2 * 2 ^ (2 * bitsAt k):=by rw [Nat.pow_succ,Nat.mul_comm]
    rw [pw]
    by_cases e : i = k
    · unfold nextZ
      rw [if_pos e]
      have:=S.bnd i hi c hcn
      have : 2 ^ bitsAt k ≤ 2 ^ (2 * bitsAt k):=Nat.pow_le_pow_right (by decide) (by omega)
      omega
    · have h1:=congrArg Int.natAbs (key i hi e c)
      rw [Int.natAbs_mul] at h1
      have h2:=B (S.bnd k hk k (by omega)) (S.bnd i hi c hcn)
      have h3:=B (S.bnd i hi k (by omega)) (S.bnd k hk c hcn)
      have h4 : (nextZ M k d i c).natAbs ≤ (nextZ M k d i c).natAbs * d.natAbs:=Nat.le_mul_of_pos_right _ (by omega)
      omega
  · have:=S.bnd k hk k (by omega)
    have : 2 ^ bitsAt k ≤ 2 ^ bitsAt (k + 1):=Nat.pow_le_pow_right (by decide) (by show bitsAt k ≤ 2 * bitsAt k + 1; omega)
    omega
theorem StI.done (S : StI n A n M d) {x : Nat → Rat} (hx : ∀ l,l < n → sumTo n (fun j=>toQ A l j * x j) = toQ A l n) : ∀ i,i < n → (M i n : Rat) = (d : Rat) * x i:=fun i hi=>by
  obtain ⟨z,st⟩:=S.st
  have h1 : sumTo n (fun j=>toQ M i j * x j) = (M i n : Rat):=by
    have e : ∀ j,j < n → toQ M i j * x j = sumTo n (fun l=>z i l * (toQ A l j * x j)):=fun j _=>by
      rw [st.comb i hi j,← sumTo_mulR]
      exact sumTo_congr fun l _=>by grind
    rw [sumTo_congr e,sumTo_swap,sumTo_congr fun l hl=>by rw [sumTo_mul,hx l hl]]
    exact (st.comb i hi n).symm
  rw [← h1,sumTo_one (c:=i) hi fun j hj q=>by rw [st.ms i hi j hj,if_neg fun z=>q z.symm]; grind]
  rw [st.ms i hi i hi,if_pos rfl]
end
def elimZ (A : MatZ) : Nat → MatZ × Int
  | 0=>(A,1)
  | k + 1=>(nextZ (elimZ A k).1 k (elimZ A k).2,(elimZ A k).1 k k)
theorem elim_is {n : Nat} {A : MatZ} (S : StI n A 0 A 1) (X : Sol n A) : ∀ k,k ≤ n → StI n A k (elimZ A k).1 (elimZ A k).2
  | 0,_=>S
  | k + 1,h=>(elim_is S X k (by omega)).step (by omega) X
def coef (s : State) (own : Nat → Bool) (b : Nat → Int) : MatZ:=fun i c=>if c = s.n then b i else if own (i + 1) then (if c = i then 1 else 0) else (if c = i then (W s (i + 1) : Int) else 0) - (wtl (foods s (i + 1)) (c + 1) : Int)
theorem wtl_le_tot (f : Nat) : ∀ l : List (Nat × Nat),wtl l f ≤ tot l
  | []=>Nat.le_refl _
  | x :: l=>by
    have:=wtl_le_tot f l
    simp only [wtl,tot]
    split <;> omega
theorem wtl_self {s : State} (F : WF s) (e : Nat) : wtl (foods s e) e = 0:=by
  have : ∀ l : List (Nat × Nat),(∀ x ∈ l,x.1 ≠ e) → wtl l e = 0:=by
    intro l
    induction l with
    | nil=>intro _; rfl
    | cons x l ih =>
      intro h
      simp only [wtl]
      rw [if_neg (h x (by simp)),ih fun y hy=>h y (by simp [hy])]
  exact this _ fun x hx=>(F.rng _ (mem_foods.mp hx)).2.2.2.1
section
variable {s : State} {own : Nat → Bool} {b : Nat → Int}
theorem coef_dot (F : WF s) {i : Nat} (hi : i < s.n) (x : Nat → Rat) : sumTo s.n (fun j=>toQ (coef s own b) i j * x j) = if own (i + 1) then x i else (W s (i + 1) : Rat) * x i - fsum (foods s (i + 1)) (up x):=by
  have e0 : ∀ j,j < s.n → toQ (coef s own b) i j = ((if own (i + 1) then (if j = i then 1 else 0) else (if j = i then (W s (i + 1) : Int) else 0) - (wtl (foods s (i + 1)) (j + 1) : Int) : Int) : Rat):=fun j hj=>by
    unfold toQ coef
    rw [if_neg (by omega)]
  rw [sumTo_congr fun j hj=>by rw [e0 j hj]]
  by_cases o : own (i + 1) = true
  · rw [if_pos o]
    rw [sumTo_one (c:=i) hi fun j _ q=>by rw [if_pos o,if_neg q]; simp,if_pos o,if_pos rfl]
    simp
  · rw [if_neg o]
    have e1 : ∀ j,j < s.n → ((if own (i + 1) = true then (if j = i then 1 else 0) else (if j = i then (W s (i + 1) : Int) else 0) - (wtl (foods s (i + 1)) (j + 1) : Int) : Int) : Rat) * x j = (if j = i then (W s (i + 1) : Rat) * x i else 0) - 1 * ((wtl (foods s (i + 1)) (j + 1) : Rat) * up x (j + 1)):=fun j _=>by
      rw [if_neg o]
      have : up x (j + 1) = x j:=by simp [up]
      rw [this]
      by_cases q : j = i
      · subst q
        simp only [if_true,Rat.intCast_sub,Rat.intCast_natCast]
        grind
      · simp only [if_neg q,Rat.intCast_sub,Rat.intCast_natCast]
        simp
        grind
    rw [sumTo_congr e1,sumTo_lin,sum_shares (up x) rfl s.n _ (foods_le F)]
    rw [sumTo_one (c:=i) hi fun j _ q=>if_neg q,if_pos rfl]
    grind
theorem tot_le {s : State} (F : WF s) (e : Nat) : W s e ≤ 10000:=by
  have h1 : ∀ l : List (Nat × Nat),(∀ x ∈ l,x.2 ≤ 1000) → tot l ≤ 1000 * l.length:=by
    intro l
    induction l with
    | nil=>intro _; exact Nat.le_refl _
    | cons x l ih =>
      intro h
      have:=ih fun y hy=>h y (by simp [hy])
      have:=h x (by simp)
      simp only [tot,List.length_cons]
      omega
  have h2:=h1 (foods s e) fun x hx=>(F.rng _ (mem_foods.mp hx)).2.2.2.2.2
  have h3 : (foods s e).length ≤ 10:=by
    have nd : ((foods s e).map (·.1)).Nodup:=by
      unfold foods
      rw [List.map_map]
      have hs : (s.links.filter fun x=>x.2.1 == e).Pairwise fun a b=>lessLink a b = true:=List.Pairwise.filter _ F.srt
      refine List.pairwise_map.mpr (List.Pairwise.imp_of_mem ?_ hs)
      intro a c ha hc hl q
      have q1:=(List.mem_filter.mp ha).2
      have q2:=(List.mem_filter.mp hc).2
      simp only [beq_iff_eq] at q1 q2
      rcases less_iff.mp hl with w | w
      · exact absurd (show a.1 = c.1 from q) (by omega)
      · omega
    have:=nodup_le ((foods s e).map (·.1)) ((List.range (s.n + 1)).filter fun j=>j != e) nd (fun f hf=>by
      obtain ⟨y,hy,rfl⟩:=List.mem_map.mp hf
      have:=F.rng _ (mem_foods.mp hy)
      simp only [List.mem_filter,List.mem_range,bne_iff_ne]
      exact ⟨by omega,this.2.2.2.1⟩)
    rw [List.length_map] at this
    by_cases q : e ∈ List.range (s.n + 1)
    · have h4:=length_filter_ne (k:=e) (nodup_range (s.n + 1)) q
      rw [List.length_range] at h4
      have:=F.n10
      omega
    · cases hf : foods s e with
      | nil=>simp
      | cons y l =>
        have hy : y ∈ foods s e:=by rw [hf]; simp
        have:=F.rng _ (mem_foods.mp (show (y.1,y.2) ∈ foods s e from hy))
        exact absurd (List.mem_range.mpr (Nat.lt_succ_of_le (show e ≤ s.n from this.2.2.1))) q
  unfold W
  omega
theorem coef_start (F : WF s) (hb0 : ∀ i,i < s.n → 0 ≤ b i) (hb1 : ∀ i,i < s.n → b i ≤ 10000) : StI s.n (coef s own b) 0 (coef s own b) 1:=by
  refine .start (fun i hi j hj q=>?_) (fun i hi=>?_) (fun i hi=>?_) (fun i hi c hc=>?_)
  · unfold coef
    rw [if_neg (by omega)]
    split
    · rw [if_neg (fun z=>q z.symm)]; omega
    · rw [if_neg (fun z=>q z.symm)]; omega
  · unfold coef
    rw [if_pos rfl]
    exact hb0 i hi
  · have h:=coef_dot (own:=own) (b:=b) F hi fun _=>1
    have e : sumTo s.n (toQ (coef s own b) i) = sumTo s.n (fun j=>toQ (coef s own b) i j * 1):=sumTo_congr fun j _=>by grind
    rw [e,h]
    split
    · grind
    · have:=fsum_le (g:=up fun _=>1) (M:=1) (l:=foods s (i + 1)) fun x _=>by unfold up; split <;> grind
      unfold W
      grind
  · have h1:=tot_le F (i + 1)
    have h2:=wtl_le_tot (c + 1) (foods s (i + 1))
    have h3 : wtl (foods s (i + 1)) (c + 1) ≤ W s (i + 1):=h2
    show _ < 16384
    unfold coef
    split
    · have:=hb0 i hi; have:=hb1 i hi; omega
    · split
      · split <;> decide
      · split <;> omega
theorem coef_sol (F : WF s) (hl : ∀ e ∈ s.kinds,Lv s [] e) : Sol s.n (coef s own b):=fun k hk=>by
  obtain ⟨X,h1,h2,h3,h4⟩:=system_is F hl own fun e=>if e = k + 1 then (if own e then 1 else 1 / (W s e : Rat)) else 0
  refine ⟨fun i=>X.getD i 0,fun l hl'=>?_⟩
  rw [coef_dot F hl']
  have hm : l + 1 ∈ s.kinds:=mem_kinds.mpr ⟨by omega,by omega⟩
  have h5:=h4 (l + 1) hm
  have hw : (W s (l + 1) : Rat) ≠ 0:=by
    have : (0 : Rat) < (W s (l + 1) : Rat):=Rat.natCast_pos.mpr (W_pos F (hl _ hm))
    grind
  have hu : up (fun i=>X.getD i 0) (l + 1) = X.getD l 0:=by simp [up]
  rw [hu] at h5
  by_cases o : own (l + 1) = true
  · rw [if_pos o]
    rw [if_pos o,if_pos o] at h5
    by_cases q : l = k
    · subst q
      rw [if_pos rfl] at h5 ⊢
      grind
    · rw [if_neg q]
      rw [if_neg (by omega)] at h5
      grind
  · rw [if_neg o]
    rw [if_neg o,if_neg o] at h5
    by_cases q : l = k
    · subst q
      rw [if_pos rfl] at h5 ⊢
      grind
    · rw [if_neg q]
      rw [if_neg (by omega)] at h5
      grind
end
end Fw
namespace Fw
open Vbecai
theorem flat_of {n : Nat} {X : List Rat} {M : MatZ} {d : Int} (hl : X.length = n) (hd : 0 < d) (h : ∀ i,i < n → (M i n : Rat) = (d : Rat) * X.getD i 0) :
    shown (X.map toF) = (List.range n).flatMap fun i=>[(frac (M i n) d).1,(frac (M i n) d).2]:=by
  have e : X.map toF = (List.range n).map fun i=>frac (M i n) d:=by
    refine List.ext_getElem? fun i=>?_
    rw [List.getElem?_map,List.getElem?_map]
    by_cases q : i < n
    · rw [List.getElem?_range q,List.getElem?_eq_getElem (by omega)]
      simp only [Option.map_some]
      congr 1
      rw [frac_is,h i q,List.getD_eq_getElem?_getD,List.getElem?_eq_getElem (by omega)]
      congr 1
      have:=castNe hd
      simp only [Option.getD_some]
      grind
    · rw [List.getElem?_eq_none (by omega),List.getElem?_eq_none (by simp; omega)]
      rfl
  unfold shown
  rw [e,List.flatMap_map]
def levB (s : State) : Nat → Int:=fun i=>(W s (i + 1) : Int)
def thrB (j : Nat) : Nat → Int:=fun i=>if i + 1 = j then 1 else 0
def levA (s : State) : MatZ:=coef s (fun _=>false) (levB s)
def thrA (s : State) (j : Nat) : MatZ:=coef s (fun e=>decide (e = j)) (thrB j)
def outOf (n : Nat) (A : MatZ) : List Int:=(List.range n).flatMap fun i=>[(frac ((elimZ A n).1 i n) (elimZ A n).2).1,(frac ((elimZ A n).1 i n) (elimZ A n).2).2]
section
variable {s : State}
theorem lev_start (F : WF s) : StI s.n (levA s) 0 (levA s) 1:=coef_start F (fun i _=>by unfold levB; omega) (fun i _=>by unfold levB; have:=tot_le F (i + 1); omega)
theorem thr_start (F : WF s) (j : Nat) : StI s.n (thrA s j) 0 (thrA s j) 1:=coef_start F (fun i _=>by unfold thrB; split <;> omega) (fun i _=>by unfold thrB; split <;> omega)
theorem lev_sol (F : WF s) (h : allLive s = true) : Sol s.n (levA s):=coef_sol F (all_live h)
theorem thr_sol (F : WF s) (h : allLive s = true) (j : Nat) : Sol s.n (thrA s j):=coef_sol F (all_live h)
theorem levels_out (F : WF s) (h : allLive s = true) : shown (levels s) = outOf s.n (levA s):=by
  obtain ⟨X,h1,h2,_,h4⟩:=levels_is F h
  have S:=elim_is (lev_start F) (lev_sol F h) s.n (Nat.le_refl _)
  rw [h2]
  refine flat_of h1 S.pos (S.done fun l hl=>?_)
  unfold levA
  rw [coef_dot F hl]
  have hm : l + 1 ∈ s.kinds:=mem_kinds.mpr ⟨by omega,by omega⟩
  have h5:=h4 (l + 1) hm
  have hu : up (fun i=>X.getD i 0) (l + 1) = X.getD l 0:=by simp [up]
  have hw : (W s (l + 1) : Rat) ≠ 0:=by
    have : (0 : Rat) < (W s (l + 1) : Rat):=Rat.natCast_pos.mpr (W_pos F (all_live h _ hm))
    grind
  rw [hu] at h5
  have e : toQ (coef s (fun _=>false) (levB s)) l s.n = (W s (l + 1) : Rat):=by
    unfold toQ coef levB
    rw [if_pos rfl,Rat.intCast_natCast]
  rw [e,if_neg (by simp)]
  grind
theorem through_out (F : WF s) (h : allLive s = true) (j : Nat) : shown (through s j) = outOf s.n (thrA s j):=by
  obtain ⟨X,h1,h2,_,h4⟩:=through_is F h j
  have S:=elim_is (thr_start F j) (thr_sol F h j) s.n (Nat.le_refl _)
  rw [h2]
  refine flat_of h1 S.pos (S.done fun l hl=>?_)
  unfold thrA
  rw [coef_dot F hl]
  have hm : l + 1 ∈ s.kinds:=mem_kinds.mpr ⟨by omega,by omega⟩
  have h5:=h4 (l + 1) hm
  have hu : up (fun i=>X.getD i 0) (l + 1) = X.getD l 0:=by simp [up]
  have hw : (W s (l + 1) : Rat) ≠ 0:=by
    have : (0 : Rat) < (W s (l + 1) : Rat):=Rat.natCast_pos.mpr (W_pos F (all_live h _ hm))
    grind
  rw [hu] at h5
  have e : toQ (coef s (fun e=>decide (e = j)) (thrB j)) l s.n = if l + 1 = j then 1 else 0:=by
    unfold toQ coef thrB
    rw [if_pos rfl]
    split <;> rfl
  rw [e]
  by_cases q : l + 1 = j
  · rw [if_pos q] at h5 ⊢
    rw [if_pos (by simpa using q)]
    exact h5
  · rw [if_neg q] at h5 ⊢
    rw [if_neg (by simpa using q)]
    grind
end
theorem frac_pos {a b : Int} (hb : 0 < b) : frac a b = (a / ((Nat.gcd a.natAbs b.natAbs : Nat) : Int),b / ((Nat.gcd a.natAbs b.natAbs : Nat) : Int)):=by
  unfold frac
  rw [if_neg (by omega)]
  simp only
  rw [if_neg (by omega)]
theorem gcd_bound {a b : Nat} (hb : 0 < b) : Nat.gcd a b ≤ b ∧ 0 < Nat.gcd a b:=⟨Nat.gcd_le_right _ hb,Nat.gcd_pos_of_pos_right _ hb⟩
theorem bitsAt_le : ∀ k,k ≤ 9 → bitsAt k ≤ 7679
  | 0,_ | 1,_ | 2,_ | 3,_ | 4,_ | 5,_ | 6,_ | 7,_ | 8,_ | 9,_=>by decide
  | k + 10,h=>by omega
theorem log_small {x : Int} {k : Nat} (h : x.natAbs < 2 ^ k) (hk : k ≤ 9000) (h0 : x ≠ 0) : x.natAbs.log2 < 9000 :=
  Nat.lt_of_lt_of_le ((Nat.log2_lt (by omega)).mpr h) hk
end Fw
set_option maxHeartbeats 4000000
namespace FwD
open PySem PySem.Spec PyProof.Rows L2 Fw
open Vbecai (State)
def top (i : Nat) : Stmt:=PySem.Challenge.pw_foodwebs_s01_answers.main.body.getD i (.Pass ⟨0,0,0,0⟩)
structure Def (K : PySem.W.Frag) (mg : Str → Option Value) (x : Str) (st : Stmt) (ps : List Str) (f : Addr) (fd : FuncData) : Prop where
  fn : Fun K x x st f fd
  mgf : mg x = some (.ref f)
  bd : Binds K fd ps []
structure MDef (K : PySem.W.Frag) (C : Addr) (m q : Str) (st : Stmt) (ps : List Str) (f : Addr) (fd : FuncData) : Prop where
  fn : Fun K m q st f fd
  mt : Meth K C m f
  bd : Binds K fd ps []
structure Txt (K : PySem.W.Frag) (mg : Str → Option Value) (CP CR : Addr) : Prop where
  len : mg "len" = none
  range : mg "range" = none
  sorted : mg "sorted" = none
  all : mg "all" = none
  list : mg "list" = none
  sum : mg "sum" = none
  sun : ∃ t,mg "SUN" = some (.int 0 t)
  mKinds : ∃ t,mg "MOST_KINDS" = some (.int 10 t)
  mLinks : ∃ t,mg "MOST_LINK_NUMBERS" = some (.int 300 t)
  mWeight : ∃ t,mg "MOST_WEIGHT" = some (.int 1000 t)
  lChain : ∃ t,mg "LONGEST_CHAIN" = some (.int 60 t)
  cWeb : ∃ t,mg "WEB" = some (.int 0 t)
  cAlive : ∃ t,mg "ALIVE" = some (.int 2 t)
  cWeight : ∃ t,mg "WEIGHT" = some (.int 16 t)
  r0 : ∃ t,mg "NOT_REFUSED" = some (.int 0 t)
  r1 : ∃ t,mg "NOT_IN_RANGE" = some (.int (-1) t)
  r5 : ∃ t,mg "DOES_NOT_LIVE" = some (.int (-5) t)
  r6 : ∃ t,mg "EATS_OF_SUN" = some (.int (-6) t)
  r7 : ∃ t,mg "NOT_ALL_LIVE" = some (.int (-7) t)
  r8 : ∃ t,mg "LAST_KIND" = some (.int (-8) t)
  r9 : ∃ t,mg "FOOD_IS_EATER" = some (.int (-9) t)
  clP : Cls K CP
  nPn : NoAttr K CP "n"
  nPw : NoAttr K CP "weights"
  clR : Cls K CR
  nRc : NoAttr K CR "calls"
  nRp : NoAttr K CR "place"
theorem blk {N : List Str} {sc scope : Scope} {own : List (Str × Nat)} (h : scope.kind = .function ∧ (∀ y ∈ scope.names,scope.names.lookup y.1 = some y.2) ∧ (∀ p ∈ own,N[p.2]? = some p.1) ∧
    (∀ y ∈ scope.names,y.2 = .free → sc.names.lookup y.1 = some .cell ∨ sc.names.lookup y.1 = some .free) ∧ (∀ y ∈ scope.names,y.2 = .local ∨ y.2 = .cell → y.1 ∈ own.map (·.1) ∨ y.1 ∉ N)) : BlkOk N sc scope own:=⟨h.1,h.2.1,h.2.2.1,h.2.2.2.1,h.2.2.2.2⟩
abbrev nv (k : Nat) : V:=.int (k : Int)
def ns (l : List Nat) : List V:=l.map nv
theorem ns_len (l : List Nat) : (ns l).length = l.length:=List.length_map _
theorem ns_get {l : List Nat} {i : Nat} {x : V} (h : (ns l)[i]? = some x) : ∃ k,l[i]? = some k ∧ x = nv k:=by
  unfold ns at h
  rw [List.getElem?_map] at h
  cases q : l[i]? with
  | none=>rw [q] at h; cases h
  | some k=>rw [q] at h; exact ⟨k,rfl,(Option.some.inj h).symm⟩
theorem ns_at {l : List Nat} {i k : Nat} (h : l[i]? = some k) : (ns l)[i]? = some (nv k):=by
  unfold ns
  rw [List.getElem?_map,h]
  rfl
theorem ns_flat (l : List Nat) : (ns l).all flatV = true:=by
  unfold ns
  rw [List.all_map,List.all_eq_true]
  exact fun x _=>rfl
theorem ns_in (k : Nat) : ∀ l : List Nat,inV (nv k) (ns l) = l.contains k
  | []=>rfl
  | a :: l=>by
    have ih:=ns_in k l
    unfold inV ns at ih ⊢
    rw [List.map_cons,List.any_cons,ih,List.contains_cons]
    congr 1
    show ((a : Int) == (k : Int)) = (k == a)
    rw [Bool.eq_iff_iff]
    simp
    omega
theorem ns_snoc (l : List Nat) (k : Nat) : ns (l ++ [k]) = ns l ++ [nv k]:=by
  unfold ns
  rw [List.map_append]
  rfl
theorem ns_ints (l : List Nat) : ns l = (Vbecai.ints l).map V.int:=by
  unfold ns Vbecai.ints
  rw [List.map_map]
  rfl
theorem filter_snoc {α : Type} (p : α → Bool) (l : List α) (x : α) : (l ++ [x]).filter p = if p x = true then l.filter p ++ [x] else l.filter p:=by
  rw [List.filter_append,List.filter_cons]
  split <;> simp
theorem take_snoc {α : Type} {l : List α} {i : Nat} {x : α} (h : l[i]? = some x) : l.take (i + 1) = l.take i ++ [x]:=by
  rw [List.take_add_one,h]
  rfl
theorem rng_ns (n : Nat) : rngV 1 n = ns ((List.range n).map fun i=>i + 1):=by
  unfold rngV ns
  rw [List.map_map]
  refine List.map_congr_left fun k _=>?_
  show V.int _ = V.int _
  congr 1
  show (1 : Int) + (k : Int) = ((k + 1 : Nat) : Int)
  omega
theorem Same.refl {H : Hp} : Same H H:=fun _ _ h=>h
theorem Same.upd {H : Hp} {p : Addr} {o : HO} (h : H p = none) : Same H (upd H p o):=fun b ob e=>by
  rw [upd_ne (ne_of_none e h)]
  exact e
theorem Same.upd' {H H1 : Hp} {p : Addr} {o : HO} (k : Same H H1) (h : H p = none) : Same H (L2.upd H1 p o):=fun b ob e=>by
  rw [upd_ne (ne_of_none e h)]
  exact k b ob e
def EatAt (H : Hp) (E : Addr) (s : State) : Prop :=
  ∃ as : List Addr,H E = some (.lst (as.map V.ref)) ∧ as.length = s.n + 1 ∧ ∀ (i : Nat) (a : Addr),as[i]? = some a → ∃ l : List Nat,H a = some (.lst (ns l)) ∧ ∀ e,e ∈ l ↔ Lk s i e
theorem EatAt.same {H H' : Hp} {E : Addr} {s : State} (h : EatAt H E s) (k : Same H H') : EatAt H' E s:=by
  obtain ⟨as,h1,h2,h3⟩:=h
  refine ⟨as,k _ _ h1,h2,fun i a e=>?_⟩
  obtain ⟨l,q1,q2⟩:=h3 i a e
  exact ⟨l,k _ _ q1,q2⟩
theorem lc_range {lo : Int} {n : Nat} {g : TG} {tt : TT} {te : TE} {vs : List Nat} {σ : L2.St} {H1 : Hp} {Q : VK} {D : Addr} (Pv : Nat → List V → Hp → Prop) (h0 : Pv 0 [] (upd H1 D (.lst [])))
    (hs : ∀ i acc H,i < n → H D = some (.lst acc) → Pv i acc H → g (.int (lo + i)) (wipe σ vs) H fun σ2 H2=>wipe σ2 vs = wipe σ vs ∧ tt σ2 H2 fun b H3 =>
      if b = true then te σ2 H3 fun y H4=>∃ acc,H4 D = some (.lst acc) ∧ acc.length < sizeLine ∧ ∃ acc',upd H4 D (.lst (acc ++ [y])) D = some (.lst acc') ∧ Pv (i + 1) acc' (upd H4 D (.lst (acc ++ [y]))) else ∃ acc',H3 D = some (.lst acc') ∧ Pv (i + 1) acc' H3)
    (hd : ∀ acc H,H D = some (.lst acc) → Pv n acc H → Q (.ref D) H) :
    ∃ W : Nat → Nat → Hp → Prop,(∃ m,W 0 m (upd H1 D (.lst []))) ∧ ∀ i m H,W i m H →
      ((Itr lo n).stop i H ∧ Q (.ref D) H) ∨ ((Itr lo n).go i H ∧ ∃ Nx : Hp → Prop,(∀ H',Nx H' → ∃ m',m' < m ∧ W (i + 1) m' H') ∧ ∀ x H',(Itr lo n).yld i H x H' → g x (wipe σ vs) H' fun σ2 H2=>wipe σ2 vs = wipe σ vs ∧ tt σ2 H2 fun b H3 =>
        if b = true then te σ2 H3 fun y H4=>∃ acc,H4 D = some (.lst acc) ∧ acc.length < sizeLine ∧ Nx (upd H4 D (.lst (acc ++ [y]))) else Nx H3):=by
  refine ⟨fun i m H=>m = n - i ∧ i ≤ n ∧ ∃ acc,H D = some (.lst acc) ∧ Pv i acc H,⟨n,by simp,Nat.zero_le _,[],upd_same,h0⟩,?_⟩
  rintro i m H ⟨rfl,hi,acc,hD,p⟩
  by_cases hlt : i < n
  · refine .inr ⟨hlt,fun H'=>∃ acc',H' D = some (.lst acc') ∧ Pv (i + 1) acc' H',fun H' ⟨acc',a,b⟩=>⟨n - (i + 1),by omega,rfl,hlt,acc',a,b⟩,fun x H' y=>?_⟩
    obtain ⟨e,y⟩:=y
    subst e y
    exact hs i acc _ hlt hD p
  · have e : i = n:=by omega
    subst e
    exact .inl ⟨Nat.le_refl _,hd acc H hD p⟩
theorem lc_list {K : PySem.W.Frag} {a : Addr} {xs : List V} {g : TG} {tt : TT} {te : TE} {vs : List Nat} {σ : L2.St} {H1 : Hp} {Q : VK} {D : Addr} (Pv : Nat → List V → Hp → Prop) (h0 : Pv 0 [] (upd H1 D (.lst [])))
    (hl : ∀ i acc H,Pv i acc H → SqL K H a xs)
    (hs : ∀ i x acc H,xs[i]? = some x → H D = some (.lst acc) → Pv i acc H → g x (wipe σ vs) H fun σ2 H2=>wipe σ2 vs = wipe σ vs ∧ tt σ2 H2 fun b H3 =>
      if b = true then te σ2 H3 fun y H4=>∃ acc,H4 D = some (.lst acc) ∧ acc.length < sizeLine ∧ ∃ acc',upd H4 D (.lst (acc ++ [y])) D = some (.lst acc') ∧ Pv (i + 1) acc' (upd H4 D (.lst (acc ++ [y]))) else ∃ acc',H3 D = some (.lst acc') ∧ Pv (i + 1) acc' H3)
    (hd : ∀ acc H,H D = some (.lst acc) → Pv xs.length acc H → Q (.ref D) H) :
    ∃ W : Nat → Nat → Hp → Prop,(∃ m,W 0 m (upd H1 D (.lst []))) ∧ ∀ i m H,W i m H →
      ((Itl K a).stop i H ∧ Q (.ref D) H) ∨ ((Itl K a).go i H ∧ ∃ Nx : Hp → Prop,(∀ H',Nx H' → ∃ m',m' < m ∧ W (i + 1) m' H') ∧ ∀ x H',(Itl K a).yld i H x H' → g x (wipe σ vs) H' fun σ2 H2=>wipe σ2 vs = wipe σ vs ∧ tt σ2 H2 fun b H3 =>
        if b = true then te σ2 H3 fun y H4=>∃ acc,H4 D = some (.lst acc) ∧ acc.length < sizeLine ∧ Nx (upd H4 D (.lst (acc ++ [y]))) else Nx H3):=by
  refine ⟨fun i m H=>m = xs.length - i ∧ i ≤ xs.length ∧ ∃ acc,H D = some (.lst acc) ∧ Pv i acc H,⟨xs.length,by simp,Nat.zero_le _,[],upd_same,h0⟩,?_⟩
  rintro i m H ⟨rfl,hi,acc,hD,p⟩
  have q:=hl i acc H p
  by_cases hlt : i < xs.length
  · refine .inr ⟨⟨xs,xs[i],q,by simp [hlt]⟩,fun H'=>∃ acc',H' D = some (.lst acc') ∧ Pv (i + 1) acc' H',fun H' ⟨acc',a,b⟩=>⟨xs.length - (i + 1),by omega,rfl,hlt,acc',a,b⟩,fun x H' y=>?_⟩
    obtain ⟨e,y⟩:=y
    subst e
    exact hs i x acc _ (y xs q) hD p
  · have e : i = xs.length:=by omega
    subst e
    exact .inl ⟨⟨xs,q,Nat.le_refl _⟩,hd acc H hD p⟩
theorem lc_listP {K : PySem.W.Frag} {a : Addr} {xs : List V} {g : TG} {tt : TT} {te : TE} {vs : List Nat} {σ : L2.St} {H1 : Hp} {Q : VK} {D : Addr} (f : V → List V) (hD : H1 D = none) (hx : SqL K H1 a xs) (hlen : xs.length < sizeLine)
    (hs : ∀ (i : Nat) (x : V) (H : Hp) (C1 : V → Hp → Prop) (C0 : Hp → Prop),xs[i]? = some x → Same H1 H → (∀ y H4,Same H H4 → f x = [y] → C1 y H4) → (∀ H3,Same H H3 → f x = [] → C0 H3) →
      g x (wipe σ vs) H fun σ2 H2=>wipe σ2 vs = wipe σ vs ∧ tt σ2 H2 fun b H3=>if b = true then te σ2 H3 C1 else C0 H3)
    (hd : ∀ H',Same H1 H' → H' D = some (.lst (xs.flatMap f)) → Q (.ref D) H') :
    ∃ W : Nat → Nat → Hp → Prop,(∃ m,W 0 m (upd H1 D (.lst []))) ∧ ∀ i m H,W i m H →
      ((Itl K a).stop i H ∧ Q (.ref D) H) ∨ ((Itl K a).go i H ∧ ∃ Nx : Hp → Prop,(∀ H',Nx H' → ∃ m',m' < m ∧ W (i + 1) m' H') ∧ ∀ x H',(Itl K a).yld i H x H' → g x (wipe σ vs) H' fun σ2 H2=>wipe σ2 vs = wipe σ vs ∧ tt σ2 H2 fun b H3 =>
        if b = true then te σ2 H3 fun y H4=>∃ acc,H4 D = some (.lst acc) ∧ acc.length < sizeLine ∧ Nx (upd H4 D (.lst (acc ++ [y]))) else Nx H3):=by
  refine lc_list (K:=K) (a:=a) (xs:=xs) (Q:=Q) (fun i acc H=>acc = (xs.take i).flatMap f ∧ Same H1 H ∧ acc.length ≤ i) ⟨rfl,Same.upd hD,Nat.le_refl _⟩ (fun i acc H ⟨_,q,_⟩=>q.seq hx) (fun i x acc H hi hDH ⟨ea,hS,hal⟩=>?_) (fun acc H hDH ⟨ea,hS,_⟩=>?_)
  · have et:=take_snoc hi
    have il : i < xs.length:=(List.getElem?_eq_some_iff.mp hi).1
    refine hs i x H _ _ hi hS (fun y H4 h4 hf=>⟨acc,h4 _ _ hDH,by omega,_,upd_same,?_,?_,?_⟩) (fun H3 h3 hf=>⟨acc,h3 _ _ hDH,?_,hS.trans h3,by omega⟩)
    · rw [et,List.flatMap_append,ea]
      simp [hf]
    · exact Same.upd' (hS.trans h4) hD
    · rw [List.length_append]
      show acc.length + 1 ≤ i + 1
      omega
    · rw [et,List.flatMap_append,← ea]
      simp [hf]
  · rw [List.take_length] at ea
    exact hd H hS (by rw [hDH,ea])
theorem lc_rangeP {lo : Int} {n : Nat} {g : TG} {tt : TT} {te : TE} {vs : List Nat} {σ : L2.St} {H1 : Hp} {Q : VK} {D : Addr} (f : Nat → List V) (hD : H1 D = none) (hlen : n < sizeLine)
    (hs : ∀ (i : Nat) (H : Hp) (C1 : V → Hp → Prop) (C0 : Hp → Prop),i < n → Same H1 H → (∀ y H4,Same H H4 → f i = [y] → C1 y H4) → (∀ H3,Same H H3 → f i = [] → C0 H3) →
      g (.int (lo + i)) (wipe σ vs) H fun σ2 H2=>wipe σ2 vs = wipe σ vs ∧ tt σ2 H2 fun b H3=>if b = true then te σ2 H3 C1 else C0 H3)
    (hd : ∀ H',Same H1 H' → H' D = some (.lst ((List.range n).flatMap f)) → Q (.ref D) H') :
    ∃ W : Nat → Nat → Hp → Prop,(∃ m,W 0 m (upd H1 D (.lst []))) ∧ ∀ i m H,W i m H →
      ((Itr lo n).stop i H ∧ Q (.ref D) H) ∨ ((Itr lo n).go i H ∧ ∃ Nx : Hp → Prop,(∀ H',Nx H' → ∃ m',m' < m ∧ W (i + 1) m' H') ∧ ∀ x H',(Itr lo n).yld i H x H' → g x (wipe σ vs) H' fun σ2 H2=>wipe σ2 vs = wipe σ vs ∧ tt σ2 H2 fun b H3 =>
        if b = true then te σ2 H3 fun y H4=>∃ acc,H4 D = some (.lst acc) ∧ acc.length < sizeLine ∧ Nx (upd H4 D (.lst (acc ++ [y]))) else Nx H3):=by
  refine lc_range (Q:=Q) (fun i acc H=>acc = (List.range i).flatMap f ∧ Same H1 H ∧ acc.length ≤ i) ⟨rfl,Same.upd hD,Nat.le_refl _⟩ (fun i acc H hi hDH ⟨ea,hS,hal⟩=>?_) (fun acc H hDH ⟨ea,hS,_⟩=>?_)
  · refine hs i H _ _ hi hS (fun y H4 h4 hf=>⟨acc,h4 _ _ hDH,by omega,_,upd_same,?_,?_,?_⟩) (fun H3 h3 hf=>⟨acc,h3 _ _ hDH,?_,hS.trans h3,by omega⟩)
    · rw [List.range_succ,List.flatMap_append,ea]
      simp [hf]
    · exact Same.upd' (hS.trans h4) hD
    · rw [List.length_append]
      show acc.length + 1 ≤ i + 1
      omega
    · rw [List.range_succ,List.flatMap_append,← ea]
      simp [hf]
  · exact hd H hS (by rw [hDH,ea])
theorem flat_filter {α : Type} (p : α → Bool) (g : α → V) (l : List α) : l.flatMap (fun x=>if p x = true then [g x] else []) = (l.filter p).map g:=by
  induction l with
  | nil=>rfl
  | cons x l ih =>
    rw [List.flatMap_cons,ih,List.filter_cons]
    split <;> simp
def pf (n : Nat) (W : Addr) : List (Str × V):=putF "weights" (.ref W) (putF "n" (.int (n : Int)) [])
theorem pf_n (n : Nat) (W : Addr) : (pf n W).lookup ("n" : Str) = some (.int (n : Int)):=by
  unfold pf
  rw [lookup_putF,if_neg (by decide +kernel),lookup_putF,if_pos rfl]
theorem pf_w (n : Nat) (W : Addr) : (pf n W).lookup ("weights" : Str) = some (.ref W):=by
  unfold pf
  rw [lookup_putF,if_pos rfl]
theorem pf_is (n : Nat) (W : Addr) : pf n W = [(("n" : Str),V.int (n : Int)),("weights",.ref W)]:=by
  show putF "weights" (.ref W) [(("n" : Str),V.int (n : Int))] = _
  show (if ("n" : Str) = "weights" then _ else _) = _
  rw [if_neg (by decide +kernel)]
  rfl
theorem pf_putN (n m : Nat) (W : Addr) : putF "n" (.int (m : Int)) (pf n W) = pf m W:=by
  rw [pf_is,pf_is]
  show (if ("n" : Str) = "n" then _ else _) = _
  rw [if_pos rfl]
theorem pf_putW (n : Nat) (W W' : Addr) : putF "weights" (.ref W') (pf n W) = pf n W':=by
  rw [pf_is,pf_is]
  show (if ("n" : Str) = "weights" then _ else _) = _
  rw [if_neg (by decide +kernel)]
  show _ :: (if ("weights" : Str) = "weights" then _ else _) = _
  rw [if_pos rfl]
theorem pf_len (n : Nat) (W : Addr) : (pf n W).length < 1000:=by
  rw [pf_is]
  show 2 < 1000
  decide
abbrev kF (f e : Nat) : List Key:=k2 ((f : Int),(e : Int))
def kvL (l : List Link) : List (List Key × V):=l.map fun x=>(kF x.1 x.2.1,V.int (x.2.2 : Int))
theorem kF_inj {f e f' e' : Nat} (h : kF f e = kF f' e') : f = f' ∧ e = e':=by
  unfold kF k2 at h
  simp at h
  omega
structure PondAt (C : Addr) (H : Hp) (p W : Addr) (s : State) : Prop where
  ins : ∃ dx,H p = some (.ins C dx (pf s.n W))
  wts : ∃ l : List Link,l.Perm s.links ∧ H W = some (.dT (kvL l))
theorem PondAt.same {C : Addr} {H H' : Hp} {p W : Addr} {s : State} (h : PondAt C H p W s) (k : Same H H') : PondAt C H' p W s:=by
  obtain ⟨⟨dx,h1⟩,l,h2,h3⟩:=h
  exact ⟨⟨dx,k _ _ h1⟩,l,h2,k _ _ h3⟩
theorem PondAt.ne {C : Addr} {H : Hp} {p W : Addr} {s : State} (h : PondAt C H p W s) : p ≠ W:=by
  obtain ⟨⟨dx,h1⟩,l,h2,h3⟩:=h
  exact ne_of h1 h3 (by intro z; cases z)
theorem kvL_some : ∀ {l : List Link},(∀ x ∈ l,∀ y ∈ l,x.1 = y.1 → x.2.1 = y.2.1 → x = y) → ∀ {f e w : Nat},(f,e,w) ∈ l → valV (kvL l) (kF f e) = some (.int (w : Int))
  | [],_,f,e,w,h=>by simp at h
  | x :: l,hu,f,e,w,h=>by
    show valV ((kF x.1 x.2.1,V.int (x.2.2 : Int)) :: kvL l) _ = _
    by_cases q : kF x.1 x.2.1 = kF f e
    · rw [valV_pos q]
      obtain ⟨q1,q2⟩:=kF_inj q
      have:=hu x (by simp) (f,e,w) h q1 q2
      rw [this]
    · rw [valV_neg q]
      refine kvL_some (fun x hx y hy=>hu x (by simp [hx]) y (by simp [hy])) ?_
      rcases List.mem_cons.mp h with z | z
      · exact absurd (by rw [← z]) q
      · exact z
theorem kvL_none : ∀ {l : List Link} {f e : Nat},(∀ x ∈ l,¬ (x.1 = f ∧ x.2.1 = e)) → valV (kvL l) (kF f e) = none
  | [],f,e,h=>rfl
  | x :: l,f,e,h=>by
    show valV ((kF x.1 x.2.1,V.int (x.2.2 : Int)) :: kvL l) _ = _
    rw [valV_neg fun z=>h x (by simp) (kF_inj z)]
    exact kvL_none fun y hy=>h y (by simp [hy])
section
variable {s : State} {l : List Link}
theorem perm_uniq (F : WF s) (h : l.Perm s.links) : ∀ x ∈ l,∀ y ∈ l,x.1 = y.1 → x.2.1 = y.2.1 → x = y:=fun x hx y hy=>sorted_unique F.srt x (h.mem_iff.mp hx) y (h.mem_iff.mp hy)
theorem wtl_mem {f w : Nat} : ∀ {l : List (Nat × Nat)},(l.map (·.1)).Nodup → (f,w) ∈ l → wtl l f = w
  | [],_,h=>by simp at h
  | x :: l,hn,h=>by
    rw [List.map_cons,List.nodup_cons] at hn
    simp only [wtl]
    rcases List.mem_cons.mp h with z | z
    · subst z
      have : wtl l f = 0:=by
        have : ∀ l : List (Nat × Nat),f ∉ l.map (·.1) → wtl l f = 0:=by
          intro l
          induction l with
          | nil=>intro _; rfl
          | cons y l ih =>
            intro h
            rw [List.map_cons,List.mem_cons] at h
            simp only [wtl]
            rw [if_neg (fun z=>h (.inl z.symm)),ih fun z=>h (.inr z)]
        exact this l hn.1
      rw [if_pos rfl,this]
      rfl
    · have : x.1 ≠ f:=fun q=>hn.1 (q ▸ List.mem_map.mpr ⟨(f,w),z,rfl⟩)
      rw [if_neg this,wtl_mem hn.2 z]
      omega
theorem wtl_not {f e : Nat} (h : ¬ Lk s f e) : wtl (Vbecai.foods s e) f = 0:=by
  have : ∀ l : List (Nat × Nat),(∀ x ∈ l,x.1 ≠ f) → wtl l f = 0:=by
    intro l
    induction l with
    | nil=>intro _; rfl
    | cons y l ih =>
      intro h
      simp only [wtl]
      rw [if_neg (h y (by simp)),ih fun z hz=>h z (by simp [hz])]
  exact this _ fun x hx q=>h ⟨x.2,by rw [← q]; exact mem_foods.mp hx⟩
theorem wts_val (F : WF s) (h : l.Perm s.links) (f e : Nat) : (Lk s f e ∧ valV (kvL l) (kF f e) = some (.int (wtl (Vbecai.foods s e) f : Nat))) ∨ (¬ Lk s f e ∧ valV (kvL l) (kF f e) = none):=by
  by_cases q : Lk s f e
  · obtain ⟨w,hw⟩:=q
    refine .inl ⟨⟨w,hw⟩,?_⟩
    rw [kvL_some (perm_uniq F h) (h.mem_iff.mpr hw),wtl_mem (foods_nodup F e) (mem_foods.mpr hw)]
  · exact .inr ⟨q,kvL_none fun x hx ⟨z1,z2⟩=>q ⟨x.2.2,by rw [← z1,← z2]; exact h.mem_iff.mp hx⟩⟩
theorem kvL_len (h : l.Perm s.links) : (kvL l).length = s.links.length:=by
  unfold kvL
  rw [List.length_map,h.length_eq]
theorem links_few (F : WF s) : s.links.length ≤ 110:=by
  have h1:=nodup_le (s.links.map fun x=>11 * x.1 + x.2.1) (List.range 121) (List.pairwise_map.mpr (List.Pairwise.imp_of_mem (fun {a b} ha hb hl q=>by
    have ra:=F.rng a ha
    have rb:=F.rng b hb
    have:=F.n10
    have hl:=less_iff.mp hl
    unfold Less at hl
    omega) F.srt)) (fun k hk=>by
    obtain ⟨x,hx,rfl⟩:=List.mem_map.mp hk
    have:=F.rng x hx
    have:=F.n10
    simp only [List.mem_range]
    omega)
  have h2:=nodup_le (s.links.map fun x=>10 * x.1 + (x.2.1 - 1)) (List.range 110) (List.pairwise_map.mpr (List.Pairwise.imp_of_mem (fun {a b} ha hb hl q=>by
    have ra:=F.rng a ha
    have rb:=F.rng b hb
    have:=F.n10
    have hl:=less_iff.mp hl
    unfold Less at hl
    omega) F.srt)) (fun k hk=>by
    obtain ⟨x,hx,rfl⟩:=List.mem_map.mp hk
    have:=F.rng x hx
    have:=F.n10
    simp only [List.mem_range]
    omega)
  rw [List.length_map,List.length_range] at h2
  exact h2
end
theorem yesT {σ : L2.St} {H : Hp} {Q : Bool → Hp → Prop} (h : Q true H) : tYes σ H Q:=h
section
variable {K : PySem.W.Frag} {mg : Str → Option Value} {CP CR p W : Addr} {s : State} {H : Hp} {Q : V → Prop}
theorem rdN (T : Txt K mg CP CR) (h : PondAt CP H p W s) (q : Q (.int (s.n : Int))) : ∃ a C dx fs v,V.ref p = .ref a ∧ H a = some (.ins C dx fs) ∧ Cls K C ∧ NoAttr K C "n" ∧ fs.lookup ("n" : Str) = some v ∧ Q v:=by
  obtain ⟨⟨dx,h1⟩,_⟩:=h
  exact ⟨p,CP,dx,_,_,rfl,h1,T.clP,T.nPn,pf_n _ _,q⟩
theorem rdW (T : Txt K mg CP CR) (h : PondAt CP H p W s) (q : Q (.ref W)) : ∃ a C dx fs v,V.ref p = .ref a ∧ H a = some (.ins C dx fs) ∧ Cls K C ∧ NoAttr K C "weights" ∧ fs.lookup ("weights" : Str) = some v ∧ Q v:=by
  obtain ⟨⟨dx,h1⟩,_⟩:=h
  exact ⟨p,CP,dx,_,_,rfl,h1,T.clP,T.nPw,pf_w _ _,q⟩
end
end FwD
namespace FwD
open PySem PySem.Spec PyProof.Rows L2 Fw
open Vbecai (State alive)
abbrev sReached : Stmt:=top 7
def tIxT (K : PySem.W.Frag) (i j : Nat) : TT:=fun σ H Q=>tOp (rIxL K) (tVar i) (tVar j) σ H fun x H'=>∃ k,TruV K x H' k ∧ Q k H'
def spReached (K : PySem.W.Frag) : Sp:=fun vs H Q _=>∃ (E g : Addr) (s : State) (z : Nat) (gone : List Nat),vs = [.ref E,nv z,.ref g] ∧ WF s ∧ z ≤ s.n ∧ EatAt H E s ∧ SqL K H g (ns gone) ∧
  ∀ (H' : Hp) (p : Addr),Same H H' → H p = none → H' p = some (.lst (ns (reachL s z gone))) → Q (.ref p) H'
section
variable {P : Program} {w : World} {K : PySem.W.Frag} {mg : Str → Option Value} {base : Heap} {CP CR : Addr}
abbrev nLiv : List Str:=["eaters","start","gone","found","waiting","food","eater","kind"]
theorem scLiv : FnScope nLiv ["eaters","start","gone"] (defScope sReached):=⟨rfl,rfl,rfl,by decide +kernel,rfl,by decide +kernel,by decide +kernel⟩
theorem cntF_replicate (m : Nat) : cntF (List.replicate m false) = m:=by
  unfold cntF
  rw [List.countP_replicate]
  simp
theorem map_bl_get {lv : List Bool} {e : Nat} {b : Bool} (h : lv[e]? = some b) : (lv.map V.bl)[e]? = some (.bl b):=by rw [List.getElem?_map,h]; rfl
theorem ok_reached {f : Addr} {fd : FuncData} (D : Def K mg "reached" sReached ["eaters","start","gone"] f fd) (T : Txt K mg CP CR) : FnOk P w K mg base CX0 1 f fd ["eaters","start","gone"] (spReached K):=by
  refine D.fn.ok scLiv (fun vs H Q E h=>?_) (fun cdv A outer s H vs Q E hr h=>?_)
  · obtain ⟨Ea,g,st,z,gone,rfl,_⟩:=h
    rfl
  · obtain ⟨Ea,g,st,z,gone,rfl,hW,hz,⟨as,hE1,hE2,hE3⟩,hg,k⟩:=h
    have hn1:=hW.n1
    have hn10:=hW.n10
    have hlen : (as.map V.ref).length = st.n + 1:=by rw [List.length_map]; exact hE2
    have hsl : sizeLine = 16777216:=sizeLine_eq
    refine ⟨_,pss_cons (ps_set (i:=3) scLiv.nd rfl (Or.inr rfl) (pe_op op_rep (pe_lst (pa_cons pe_bl pa_nil)) (pe_callB call_len_seq (by rfl) T.len PySem.boot_len (pa_cons (pv 0) pa_nil))))
      (pss_cons (ps_set (i:=4) scLiv.nd rfl (Or.inl rfl) (pe_lst (pa_cons (pv 1) pa_nil)))
      (pss_cons (ps_while PassesOwn.never (pt_truth (pv 4) (fun _=>rfl))
        (pss_cons (ps_set (i:=5) scLiv.nd rfl (Or.inl rfl) (pe_bm0 PySem.F.plainAttrs_list PySem.F.slot_list_pop PySem.F.type_list_pop mt_pop (pv 4)))
        (pss_one (ps_for PassesOwn.never rfl (pi_list (pe_ix ix_list (pv 0) (pv 5) (fun _ _=>rfl))) (pg_name (i:=6) scLiv.nd rfl (Or.inl rfl))
          (pss_one (ps_if (PW.pt (pw_and (pt_not (pt_truth (pe_ix ix_list (pv 3) (pv 6) (fun _ _=>rfl)) (fun _=>rfl))) (pw_and1 (pt_cmpR op_notIn_seq (pv 6) (pv 2) (by with_unfolding_all rfl)))))
            (pss_cons (ps_asg pe_bl (pg_sub (pv 3) (pv 6) set_list)) (pss_one (ps_expr (pe_bm PySem.F.plainAttrs_list PySem.F.slot_list_append PySem.F.type_list_append mt_append (pv 4) (pa_cons (pv 6) pa_nil)))))
            pss_nil))))))
      (pss_one (ps_ret (pe_lc (own:=[("kind",7)]) (tt:=tIxT K 3 7) rfl scLiv.nd (pi_range2 (by rfl) T.range (pa_cons pe_int (pa_cons (pe_callB call_len_seq (by rfl) T.len PySem.boot_len (pa_cons (pv 0) pa_nil)) pa_nil)))
        (blk (N:=nLiv) (sc:=defScope sReached) (by decide +kernel))
        (fun _ _ _ _ _=>pg_name (i:=7) scLiv.nd rfl (Or.inl rfl)) (fun _ _ _ _ _=>pts_one (pt_truth (pe_ix ix_list (pv 3) (pv 7) (fun _ _=>rfl)) (fun _=>rfl))) (fun _ _ _ _ _=>pv 7)))))),?_⟩
    refine ⟨(by show 1 ≤ sizeLine; decide),fun l hl=>?_⟩
    have s1 : Same H (upd H l (.lst [.bl false])):=Same.upd hl
    refine ⟨_,rfl,Ea,as.map V.ref,rfl,.inl (SqL.of (s1 _ _ hE1)),l,_,[.bl false],rfl,rfl,upd_same,by rw [hlen]; omega,by rw [hlen]; omega,by rw [hlen]; show 1 * _ ≤ _; omega,fun L hL=>?_⟩
    have hL0 : H L = none:=s1.free hL
    have eL : (List.replicate ((as.map V.ref).length : Int).toNat [V.bl false]).flatten = (List.replicate (st.n + 1) false).map V.bl:=by
      rw [hlen]
      show (List.replicate (st.n + 1) [V.bl false]).flatten = _
      generalize st.n + 1 = m
      induction m with
      | zero=>rfl
      | succ m ih=>rw [List.replicate_succ,List.flatten_cons,ih,List.replicate_succ]; rfl
    rw [eL]
    have s2 : Same H (upd (upd H l (.lst [.bl false])) L (.lst ((List.replicate (st.n + 1) false).map V.bl))):=Same.upd' s1 hL0
    have hL2 : upd (upd H l (.lst [.bl false])) L (.lst ((List.replicate (st.n + 1) false).map V.bl)) L = some (.lst ((List.replicate (st.n + 1) false).map V.bl)):=upd_same
    generalize upd (upd H l (.lst [.bl false])) L (.lst ((List.replicate (st.n + 1) false).map V.bl)) = H2 at s2 hL2 ⊢
    refine ⟨_,rfl,(by show 1 ≤ sizeLine; decide),fun Wt hWt=>?_⟩
    have hWt0 : H Wt = none:=s2.free hWt
    have hLW : L ≠ Wt:=ne_of_none hL2 hWt
    have s3 : Same H (upd H2 Wt (.lst [nv z])):=Same.upd' s2 hWt0
    have hL3 : upd H2 Wt (.lst [nv z]) L = some (.lst ((List.replicate (st.n + 1) false).map V.bl)):=by rw [upd_ne hLW]; exact hL2
    refine ⟨fun m σ H'=>∃ (lv : List Bool) (wt : List Nat) (v4 v5 : Option V),σ = [some (.ref Ea),some (nv z),some (.ref g),some (.ref L),some (.ref Wt),v4,v5,none] ∧ H' L = some (.lst (lv.map V.bl)) ∧ H' Wt = some (.lst (ns wt)) ∧ Same H H' ∧ Good st gone z lv wt ∧ m = 2 * cntF lv + wt.length ∧ m ≤ 30,
      ⟨_,List.replicate (st.n + 1) false,[z],none,none,rfl,hL3,upd_same,s3,good_start st gone z,rfl,by rw [cntF_replicate]; show 2 * (st.n + 1) + 1 ≤ 30; omega⟩,?_⟩
    rintro m σ H' ⟨lv,wt,v4,v5,rfl,hL',hW',hs,hG,rfl,hm30⟩
    refine ⟨_,rfl,!(ns wt).isEmpty,.inl ⟨_,SqL.of hW',rfl⟩,?_⟩
    rcases List.eq_nil_or_concat wt with rfl | ⟨wt0,f0,rfl⟩
    · -- return [kind for ..]
      refine iteF ?_
      refine ⟨_,rfl,Ea,as.map V.ref,rfl,.inl (SqL.of (hs _ _ hE1)),1,_,rfl,⟨by decide,by decide,by rw [hlen]; omega,by rw [hlen]; omega⟩,fun Dl hDl=>?_⟩
      have hLD : L ≠ Dl:=ne_of_none hL' hDl
      have hD0 : H Dl = none:=hs.free hDl
      have en : (((as.map V.ref).length : Int) - 1).toNat = st.n:=by rw [hlen]; omega
      rw [en]
      refine lc_range (lo:=1) (n:=st.n) (g:=gName 7) (tt:=tIxT K 3 7) (te:=tVar 7) (vs:=[7]) (σ:=[some (.ref Ea),some (nv z),some (.ref g),some (.ref L),some (.ref Wt),v4,v5,none]) (Q:=Q) (fun i acc H2=>acc = ns (((List.range i).map fun j=>j + 1).filter fun e=>lv.getD e false) ∧ H2 L = some (.lst (lv.map V.bl)) ∧ Same H H2) ⟨rfl,by rw [upd_ne hLD]; exact hL',Same.upd' hs hD0⟩ (fun i acc H2 hi hD ⟨ea,h1,h2⟩=>?_) (fun acc H2 hD ⟨ea,h1,h2⟩=>?_)
      · refine ⟨rfl,?_⟩
        obtain ⟨b,hb⟩ : ∃ b,lv[i + 1]? = some b:=⟨_,List.getElem?_eq_getElem (by rw [hG.len]; omega)⟩
        refine ⟨_,rfl,_,rfl,L,_,_,.bl b,rfl,rfl,SqL.of h1,at_of (j:=i + 1) (by omega) (map_bl_get hb),b,rfl,?_⟩
        have eb : lv.getD (i + 1) false = b:=by rw [List.getD_eq_getElem?_getD,hb]; rfl
        have er : (List.range (i + 1)).map (fun j=>j + 1) = (List.range i).map (fun j=>j + 1) ++ [i + 1]:=by rw [List.range_succ,List.map_append]; rfl
        have hal : acc.length ≤ i:=by
          rw [ea,ns_len]
          refine Nat.le_trans (List.length_filter_le _ _) ?_
          rw [List.length_map,List.length_range]
          exact Nat.le_refl _
        cases b with
        | true =>
          refine iteT ⟨_,rfl,acc,hD,by omega,_,upd_same,?_,by rw [upd_ne hLD]; exact h1,Same.upd' h2 hD0⟩
          rw [er,List.filter_append,List.filter_cons,if_pos (by rw [eb]),List.filter_nil,ea]
          unfold ns
          rw [List.map_append]
          show _ ++ [V.int (1 + (i : Int))] = _ ++ [V.int ((i + 1 : Nat) : Int)]
          rw [show (1 + (i : Int)) = ((i + 1 : Nat) : Int) by omega]
        | false =>
          refine iteF ⟨acc,hD,?_,h1,h2⟩
          rw [er,List.filter_append,List.filter_cons,if_neg (by rw [eb]; exact Bool.false_ne_true),List.filter_nil,List.append_nil]
          exact ea
      · have ek : ((List.range st.n).map fun j=>j + 1).filter (fun e=>lv.getD e false) = reachL st z gone:=hG.answer
        rw [ek] at ea
        refine k H2 Dl h2 hD0 ?_
        rw [hD,ea]
    · -- food = waiting.pop()
      rw [List.concat_eq_append] at hW' hG hm30 ⊢
      have ne : (!(ns (wt0 ++ [f0])).isEmpty) = true:=by simp [ns]
      rw [ne]
      refine iteT ⟨fun σ' H''=>∃ m',m' < 2 * cntF lv + (wt0 ++ [f0]).length ∧ ∃ (lv : List Bool) (wt : List Nat) (v4 v5 : Option V),σ' = [some (.ref Ea),some (nv z),some (.ref g),some (.ref L),some (.ref Wt),v4,v5,none] ∧ H'' L = some (.lst (lv.map V.bl)) ∧ H'' Wt = some (.lst (ns wt)) ∧ Same H H'' ∧ Good st gone z lv wt ∧ m' = 2 * cntF lv + wt.length ∧ m' ≤ 30,fun σ' H'' h=>h,?_⟩
      have e1 : (ns (wt0 ++ [f0]))[(ns (wt0 ++ [f0])).length - 1]? = some (nv f0):=by simp [ns]
      have e2 : (ns (wt0 ++ [f0])).dropLast = ns wt0:=by simp [ns]
      refine ⟨_,rfl,.inl ⟨rfl,_,SqL.of hW'⟩,Wt,_,nv f0,rfl,rfl,hW',e1,?_⟩
      rw [e2]
      have hH0:=hG.pop
      have hf0 : f0 < as.length:=by
        rw [hE2]
        rcases hH0.fed with q | q
        · omega
        · have:=(List.getElem?_eq_some_iff.mp q).1
          rw [hG.len] at this
          exact this
      obtain ⟨a0,ha0⟩ : ∃ a0,as[f0]? = some a0:=⟨_,List.getElem?_eq_getElem hf0⟩
      obtain ⟨l0,hl0,hlk⟩:=hE3 f0 a0 ha0
      have s4 : Same H (upd H' Wt (.lst (ns wt0))):=Same.upd' hs hWt0
      have hL4 : upd H' Wt (.lst (ns wt0)) L = some (.lst (lv.map V.bl)):=by rw [upd_ne hLW]; exact hL'
      refine ⟨_,rfl,_,rfl,Ea,as.map V.ref,_,.ref a0,rfl,rfl,SqL.of (s4 _ _ hE1),atI_nat (by rw [List.getElem?_map,ha0]; rfl),a0,rfl,⟨_,SqL.of (s4 _ _ hl0)⟩,
        for_list (K:=K) (a:=a0) (xs:=ns l0) (fun i σ H''=>∃ (lv' : List Bool) (wt' : List Nat) (v5 : Option V),σ = [some (.ref Ea),some (nv z),some (.ref g),some (.ref L),some (.ref Wt),some (nv f0),v5,none] ∧ H'' L = some (.lst (lv'.map V.bl)) ∧ H'' Wt = some (.lst (ns wt')) ∧ Same H H'' ∧ Half st gone z lv' wt' f0 (l0.take i) ∧ 2 * cntF lv' + wt'.length < 2 * cntF lv + (wt0 ++ [f0]).length)
          ⟨lv,wt0,v5,rfl,hL4,upd_same,s4,hH0,by rw [List.length_append]; simp⟩ (fun i σ H'' _ ⟨_,_,_,_,_,_,q,_⟩=>SqL.of (q _ _ hl0)) ?_ ?_⟩
      · rintro i x σ H'' hi ⟨lv',wt',v5',rfl,g1,g2,g3,g4,g5⟩
        obtain ⟨e,he,rfl⟩:=ns_get hi
        have hle : Lk st f0 e:=(hlk e).mp (List.mem_of_getElem? he)
        have hke:=mem_kinds.mp (hle.ne hW).2.2
        have et : l0.take (i + 1) = l0.take i ++ [e]:=by
          rw [List.take_add_one,he]
          rfl
        obtain ⟨b,hb⟩ : ∃ b,lv'[e]? = some b:=⟨_,List.getElem?_eq_getElem (by rw [g4.len]; omega)⟩
        refine ⟨_,rfl,_,rfl,L,_,_,.bl b,rfl,rfl,SqL.of g1,atI_nat (map_bl_get hb),b,rfl,?_⟩
        cases b with
        | true=>exact iteF (iteF ⟨lv',wt',_,rfl,g1,g2,g3,by rw [et]; exact g4.skip (.inl hb),g5⟩)
        | false =>
          refine iteT ⟨_,rfl,_,rfl,g,_,rfl,.inl (g3.seq hg),rfl,ns_flat gone,_,rfl,?_⟩
          rw [ns_in]
          cases hgc : gone.contains e with
          | true=>exact iteF ⟨lv',wt',_,rfl,g1,g2,g3,by rw [et]; exact g4.skip (.inr (by simpa using hgc)),g5⟩
          | false =>
            have hgn : e ∉ gone:=by simpa using hgc
            have hG2:=g4.mark hW hle hgn hb
            have hcs:=cntF_set hb
            have hixn : ixN (lv'.map V.bl).length (e : Int) = some e:=by
              unfold ixN
              rw [List.length_map,g4.len,if_pos (by omega),if_pos (by omega)]
              rfl
            refine iteT ⟨_,rfl,_,rfl,L,_,_,e,rfl,rfl,g1,hixn,?_⟩
            have g2' : upd H'' L (.lst ((lv'.map V.bl).set e (.bl true))) Wt = some (.lst (ns wt')):=by rw [upd_ne hLW.symm]; exact g2
            refine ⟨_,rfl,.inl ⟨rfl,_,SqL.of g2'⟩,_,rfl,Wt,_,_,rfl,rfl,g2',?_,?_⟩
            · rw [ns_len]
              omega
            · refine ⟨lv'.set e true,wt' ++ [e],_,rfl,?_,?_,?_,by rw [et]; exact hG2,?_⟩
              · rw [upd_ne hLW,upd_same,List.map_set]
              · rw [upd_same]
                unfold ns
                rw [List.map_append]
                rfl
              · exact Same.upd' (Same.upd' g3 hL0) hWt0
              · rw [List.length_append]
                show _ + (_ + 1) < _
                omega
      · rintro σ H'' ⟨lv',wt',v5',rfl,g1,g2,g3,g4,g5⟩
        rw [ns_len,List.take_length] at g4
        exact ⟨_,g5,lv',wt',_,_,rfl,g1,g2,g3,g4.good fun e he=>(hlk e).mpr he,rfl,by omega⟩
end
end FwD
namespace FwD
open PySem PySem.Spec PyProof.Rows L2 Fw
open Vbecai (State alive)
abbrev sLiving : Stmt:=top 8
abbrev sNeeds : Stmt:=top 9
abbrev sLonger : Stmt:=top 10
abbrev sCut : Stmt:=top 11
abbrev sCounted : Stmt:=top 37
def Callee (P : Program) (w : World) (K : PySem.W.Frag) (mg : Str → Option Value) (base : Heap) (x : Str) (k : Nat) (ps : List Str) (sp : Sp) : Prop :=
  ∃ (f : Addr) (fd : FuncData),mg x = some (.ref f) ∧ PySem.W.keepIn K (.ref f) = true ∧ Binds K fd ps [] ∧ FnOk P w K mg base CX0 k f fd ps sp
theorem Def.callee {P : Program} {w : World} {K : PySem.W.Frag} {mg : Str → Option Value} {base : Heap} {x : Str} {st : Stmt} {ps : List Str} {f : Addr} {fd : FuncData} {k : Nat} {sp : Sp} (D : Def K mg x st ps f fd) (G : FnOk P w K mg base CX0 k f fd ps sp) : Callee P w K mg base x k ps sp :=
  ⟨f,fd,D.mgf,D.fn.kp,D.bd,G⟩
section
variable {P : Program} {w : World} {K : PySem.W.Frag} {mg : Str → Option Value} {base : Heap} {CP CR : Addr}
def spCounted : Sp:=fun vs H Q _=>∃ (a : Addr) (l : List V),vs = [.ref a] ∧ H a = some (.lst l) ∧ l.length < sizeLine ∧
  ∀ (H' : Hp) (p : Addr),Same H H' → H p = none → H' p = some (.lst (.int l.length :: l)) → Q (.ref p) H'
theorem scCnt : FnScope ["kinds"] ["kinds"] (defScope sCounted):=⟨rfl,rfl,rfl,by decide +kernel,rfl,by decide +kernel,by decide +kernel⟩
theorem ok_counted {f : Addr} {fd : FuncData} (D : Def K mg "counted" sCounted ["kinds"] f fd) (T : Txt K mg CP CR) : FnOk P w K mg base CX0 1 f fd ["kinds"] spCounted:=by
  refine D.fn.ok scCnt (fun vs H Q E h=>?_) (fun cdv A outer s H vs Q E hr h=>?_)
  · obtain ⟨a,l,rfl,_⟩:=h
    rfl
  · obtain ⟨a,l,rfl,ha,hl,k⟩:=h
    refine ⟨_,pss_one (ps_ret (pe_op op_cat (pe_lst (pa_cons (pe_callB call_len_seq (by rfl) T.len PySem.boot_len (pa_cons (pv 0) pa_nil)) pa_nil)) (pv 0))),?_⟩
    refine ⟨_,rfl,a,l,rfl,.inl (SqL.of ha),(by show 1 ≤ sizeLine; decide),fun p hp=>?_⟩
    have s1:=Same.upd (o:=.lst [.int l.length]) hp
    refine ⟨_,rfl,p,a,_,_,rfl,rfl,upd_same,s1 _ _ ha,(by show 1 + l.length ≤ sizeLine; omega),fun q hq=>?_⟩
    exact k _ q (Same.upd' s1 (s1.free hq)) (s1.free hq) upd_same
def spLiving (K : PySem.W.Frag) : Sp:=fun vs H Q _=>∃ (E g : Addr) (s : State) (gone : List Nat),vs = [.ref E,.ref g] ∧ WF s ∧ EatAt H E s ∧ SqL K H g (ns gone) ∧
  ∀ (H' : Hp) (p : Addr),Same H H' → H p = none → H' p = some (.lst (ns (alive s gone))) → Q (.ref p) H'
theorem scLiving : FnScope ["eaters","gone"] ["eaters","gone"] (defScope sLiving):=⟨rfl,rfl,rfl,by decide +kernel,rfl,by decide +kernel,by decide +kernel⟩
theorem ok_living {f : Addr} {fd : FuncData} (D : Def K mg "living" sLiving ["eaters","gone"] f fd) (T : Txt K mg CP CR) (CR' : Callee P w K mg base "reached" 1 ["eaters","start","gone"] (spReached K)) : FnOk P w K mg base CX0 2 f fd ["eaters","gone"] (spLiving K):=by
  obtain ⟨tS,hsun⟩:=T.sun
  obtain ⟨fR,fdR,mR,kR,bR,GR⟩:=CR'
  refine D.fn.ok scLiving (fun vs H Q E h=>?_) (fun cdv A outer s H vs Q E hr h=>?_)
  · obtain ⟨Ea,g,st,gone,rfl,_⟩:=h
    rfl
  · obtain ⟨Ea,g,st,gone,rfl,hW,hE,hg,k⟩:=h
    refine ⟨_,pss_one (ps_ret (pe_call GR hr (by rfl) mR kR bR .nil pass0 (pa_cons (pv 0) (pa_cons (pe_glob (v:=.int 0) (by rfl) hsun ⟨_,rfl⟩) (pa_cons (pv 1) pa_nil))))),?_⟩
    refine ⟨_,rfl,_,rfl,Ea,g,st,0,gone,rfl,hW,Nat.zero_le _,hE,hg,fun H' p h1 h2 h3=>?_⟩
    exact k H' p h1 h2 (by rw [h3,reach_alive])
def spNeeds : Sp:=fun vs H Q _=>∃ (Ea : Addr) (s : State) (k : Nat),vs = [.ref Ea,nv k] ∧ WF s ∧ EatAt H Ea s ∧
  ∀ (H' : Hp) (p : Addr),Same H H' → H p = none → H' p = some (.lst (ns ((others s k).filter fun j=>!(alive s [j]).contains k))) → Q (.ref p) H'
abbrev nNeeds : List Str:=["eaters","k","others","kind","j"]
theorem scNeeds : FnScope nNeeds ["eaters","k"] (defScope sNeeds):=⟨rfl,rfl,rfl,by decide +kernel,rfl,by decide +kernel,by decide +kernel⟩
theorem range1_snoc (i : Nat) : (List.range (i + 1)).map (fun j=>j + 1) = (List.range i).map (fun j=>j + 1) ++ [i + 1]:=by rw [List.range_succ,List.map_append]; rfl
theorem others_bound {s : State} (F : WF s) {k : Nat} : (others s k).length ≤ 10:=by
  have h1 : (others s k).length ≤ s.kinds.length:=List.length_filter_le _ _
  rw [length_kinds] at h1
  have:=F.n10
  omega
def tNotInC (K : PySem.W.Frag) (i : Nat) (te : TE) : TT:=tTest (tOp (rIn K true) (tVar i) te)
theorem ok_needs {f : Addr} {fd : FuncData} (D : Def K mg "needs" sNeeds ["eaters","k"] f fd) (T : Txt K mg CP CR) (CL : Callee P w K mg base "living" 2 ["eaters","gone"] (spLiving K)) : FnOk P w K mg base CX0 3 f fd ["eaters","k"] spNeeds:=by
  obtain ⟨fL,fdL,mL,kL,bL,GL⟩:=CL
  refine D.fn.ok scNeeds (fun vs H Q E h=>?_) (fun cdv A outer s H vs Q E hr h=>?_)
  · obtain ⟨Ea,st,kk,rfl,_⟩:=h
    rfl
  · obtain ⟨Ea,st,kk,rfl,hW,hE,k⟩:=h
    have hn10:=hW.n10
    have hE':=hE
    obtain ⟨as,hE1,hE2,hE3⟩:=hE'
    have hlen : (as.map V.ref).length = st.n + 1:=by rw [List.length_map]; exact hE2
    have hsl : sizeLine = 16777216:=sizeLine_eq
    refine ⟨_,pss_cons (ps_setLc (i:=2) (own:=[("kind",3)]) rfl scNeeds.nd rfl rfl rfl (pi_range2 (by rfl) T.range (pa_cons pe_int (pa_cons (pe_callB call_len_seq (by rfl) T.len PySem.boot_len (pa_cons (pv 0) pa_nil)) pa_nil)))
        (blk (N:=nNeeds) (sc:=defScope sNeeds) (by decide +kernel))
        (fun _ _ _ _ _=>pg_name (i:=3) scNeeds.nd rfl (Or.inl rfl)) (fun _ _ _ _ _=>pts_one (pt_cmpR op_ne (pv 3) (pv 1) (nomark _))) (fun _ _ _ _ _=>pv 3))
      (pss_one (ps_ret (pe_lc (own:=[("j",4)]) (tt:=tNotInC K 1 (tCall (spLiving K) [] E0 (tCons (tVar 0) (tCons (tLst (tCons (tVar 4) tNil)) tNil)))) rfl scNeeds.nd (pi_list (pv 2)) (blk (N:=nNeeds) (sc:=defScope sNeeds) (by decide +kernel))
        (fun _ _ _ _ _=>pg_name (i:=4) scNeeds.nd rfl (Or.inl rfl))
        (fun _ _ _ _ _=>pts_one (pt_cmpR op_notIn_seq (pv 1) (pe_call GL hr (by rfl) mL kL bL .nil pass0 (pa_cons (pv 0) (pa_cons (pe_lst (pa_cons (pv 4) pa_nil)) pa_nil))) (by with_unfolding_all rfl)))
        (fun _ _ _ _ _=>pv 4)))),?_⟩
    refine ⟨_,rfl,Ea,as.map V.ref,rfl,.inl (SqL.of hE1),1,_,rfl,⟨by decide,by decide,by rw [hlen]; omega,by rw [hlen]; omega⟩,fun O hO=>?_⟩
    have en : (((as.map V.ref).length : Int) - 1).toNat = st.n:=by rw [hlen]; omega
    rw [en]
    refine lc_range (lo:=1) (n:=st.n) (g:=gName 3) (tt:=tTest (tOp rNe (tVar 3) (tVar 1))) (te:=tVar 3) (vs:=[3]) (σ:=[some (.ref Ea),some (nv kk),none,none,none]) (Q:=fun x H1=>gName 2 x [some (.ref Ea),some (nv kk),none,none,none] H1 _) (fun i acc H2=>acc = ns (((List.range i).map fun j=>j + 1).filter fun j=>j != kk) ∧ Same H H2) ⟨rfl,Same.upd hO⟩ (fun i acc H2 hi hD ⟨ea,h2⟩=>?_) (fun acc H2 hD ⟨ea,h2⟩=>?_)
    · refine ⟨rfl,_,rfl,_,rfl,rfl,_,rfl,?_⟩
      have hal : acc.length ≤ i:=by
        rw [ea,ns_len]
        refine Nat.le_trans (List.length_filter_le _ _) ?_
        rw [List.length_map,List.length_range]
        exact Nat.le_refl _
      have e1 : (1 + (i : Int)) = ((i + 1 : Nat) : Int):=by omega
      rw [range1_snoc,filter_snoc]
      by_cases q : i + 1 = kk
      · have : decide (V.int (1 + (i : Int)) = nv kk) = true:=by rw [e1,q]; exact decide_eq_true rfl
        rw [this]
        refine iteF ⟨acc,hD,?_,h2⟩
        rw [if_neg (by simpa using q)]
        exact ea
      · have : decide (V.int (1 + (i : Int)) = nv kk) = false:=by
          rw [e1]
          refine decide_eq_false fun z=>q ?_
          have:=V.int.inj z
          omega
        rw [this]
        refine iteT ⟨_,rfl,acc,hD,by omega,_,upd_same,?_,Same.upd' h2 hO⟩
        rw [if_pos (by simpa using q),ns_snoc,← ea,e1]
    · have eo : ((List.range st.n).map fun j=>j + 1).filter (fun j=>j != kk) = others st kk:=rfl
      rw [eo] at ea
      subst ea
      have ob:=others_bound hW (k:=kk)
      refine ⟨_,rfl,O,rfl,⟨_,SqL.of hD⟩,fun R hR=>?_⟩
      have hR0 : H R = none:=h2.free hR
      refine lc_list (K:=K) (a:=O) (xs:=ns (others st kk)) (g:=gName 4) (tt:=tNotInC K 1 (tCall (spLiving K) [] E0 (tCons (tVar 0) (tCons (tLst (tCons (tVar 4) tNil)) tNil)))) (te:=tVar 4) (vs:=[4]) (σ:=[some (.ref Ea),some (nv kk),some (.ref O),none,none]) (Q:=Q) (fun i acc H3=>acc = ns (((others st kk).take i).filter fun j=>!(alive st [j]).contains kk) ∧ Same H2 H3) ⟨rfl,Same.upd hR⟩ (fun i acc H3 ⟨_,q⟩=>SqL.of (q _ _ hD)) (fun i x acc H3 hi hR3 ⟨ea,h3⟩=>?_) (fun acc H3 hR3 ⟨ea,h3⟩=>?_)
      · obtain ⟨j,hj,rfl⟩:=ns_get hi
        refine ⟨rfl,_,rfl,_,rfl,_,rfl,(by show 1 ≤ sizeLine; decide),fun g hg=>?_⟩
        have s3 : Same H H3:=h2.trans h3
        have s4 : Same H (upd H3 g (.lst [nv j])):=Same.upd' s3 (s3.free hg)
        refine ⟨Ea,g,st,[j],rfl,hW,hE.same s4,SqL.of upd_same,fun H5 p s5 hp hp5=>?_⟩
        refine ⟨p,_,rfl,.inl (SqL.of hp5),rfl,ns_flat _,_,rfl,?_⟩
        rw [ns_in]
        have s35 : Same H3 H5:=(Same.upd hg).trans s5
        have et : (others st kk).take (i + 1) = (others st kk).take i ++ [j]:=by
          rw [List.take_add_one,hj]
          rfl
        have hal : acc.length ≤ 10:=by
          rw [ea,ns_len]
          refine Nat.le_trans (List.length_filter_le _ _) ?_
          rw [List.length_take]
          omega
        rw [et,filter_snoc]
        cases hc : (alive st [j]).contains kk with
        | true =>
          refine iteF ⟨acc,s35 _ _ hR3,?_,h3.trans s35⟩
          exact ea
        | false =>
          have hR5:=s35 _ _ hR3
          refine iteT ⟨_,rfl,acc,hR5,by omega,_,upd_same,?_,?_⟩
          · show _ = ns (_ ++ [j])
            rw [ns_snoc,← ea]
          · exact Same.upd' (h3.trans s35) hR
      · rw [ns_len,List.take_length] at ea
        subst ea
        exact k H3 R (h2.trans h3) hR0 hR3
end
end FwD
namespace FwD
open PySem PySem.Spec PyProof.Rows L2 Fw
open Vbecai (State alive chosen least)
def RowsAt (H : Hp) (R : Addr) (rs : List (List Nat)) : Prop:=∃ as : List Addr,H R = some (.lst (as.map V.ref)) ∧ Paired (fun a r=>H a = some (.lst (ns r))) as rs
theorem RowsAt.same {H H' : Hp} {R : Addr} {rs : List (List Nat)} (h : RowsAt H R rs) (k : Same H H') : RowsAt H' R rs:=by
  obtain ⟨as,h1,h2⟩:=h
  exact ⟨as,k _ _ h1,Paired.mono (fun a r e=>k _ _ e) h2⟩
theorem longer_len (ks : List Nat) : ∀ rs : List (List Nat),(longer rs ks).length ≤ rs.length * ks.length
  | []=>by simp [longer]
  | r :: rs=>by
    have ih:=longer_len ks rs
    unfold longer at ih ⊢
    rw [List.flatMap_cons,List.length_append,List.length_cons,Nat.succ_mul]
    have : (ext ks r).length ≤ ks.length:=by
      unfold ext
      rw [List.length_map]
      exact List.length_filter_le _ _
    omega
theorem longer_snoc (rs : List (List Nat)) (r ks : List Nat) : longer (rs ++ [r]) ks = longer rs ks ++ ext ks r:=by
  unfold longer
  rw [List.flatMap_append]
  simp
def spLonger (K : PySem.W.Frag) : Sp:=fun vs H Q _=>∃ (R kd : Addr) (rs : List (List Nat)) (ks : List Nat),vs = [.ref R,.ref kd] ∧ RowsAt H R rs ∧ SqL K H kd (ns ks) ∧ rs.length * ks.length ≤ 20000 ∧ (∀ r ∈ rs,r.length ≤ 100) ∧
  ∀ (H' : Hp) (p : Addr),Same H H' → H p = none → RowsAt H' p (longer rs ks) → Q (.ref p) H'
section
variable {P : Program} {w : World} {K : PySem.W.Frag} {mg : Str → Option Value} {base : Heap} {CP CR : Addr}
theorem scLonger : FnScope ["rows","kinds","longer","row","kind"] ["rows","kinds"] (defScope sLonger):=⟨rfl,rfl,rfl,by decide +kernel,rfl,by decide +kernel,by decide +kernel⟩
theorem ref_get {as : List Addr} {i : Nat} {x : V} (h : (as.map V.ref)[i]? = some x) : ∃ a,as[i]? = some a ∧ x = .ref a:=by
  rw [List.getElem?_map] at h
  cases q : as[i]? with
  | none=>rw [q] at h; cases h
  | some a=>rw [q] at h; exact ⟨a,rfl,(Option.some.inj h).symm⟩
theorem at_last (l : List Nat) (x : Nat) : atI (ns (l ++ [x])) (-1) = some (nv x):=by
  unfold atI ixN
  rw [if_neg (by decide),if_pos (by rw [ns_len,List.length_append]; show -((l.length + 1 : Nat) : Int) ≤ -1; omega)]
  show (ns (l ++ [x]))[(-1 + ((ns (l ++ [x])).length : Int)).toNat]? = _
  have e : (-1 + ((ns (l ++ [x])).length : Int)).toNat = l.length:=by rw [ns_len,List.length_append]; show (-1 + ((l.length + 1 : Nat) : Int)).toNat = _; omega
  rw [e]
  simp [ns]
abbrev tPut (K : PySem.W.Frag) : TS:=tDrop (tBM K "list" rAppend (tVar 2) (tCons (tOp rCat (tVar 3) (tLst (tCons (tVar 4) tNil))) tNil))
theorem put_row {D : Ends} {R kd L a : Addr} {e : Nat} {r : List Nat} {bs : List Addr} {H : Hp} (hL : H L = some (.lst (bs.map V.ref))) (ha : H a = some (.lst (ns r))) (hb : bs.length ≤ 20000) (hr : r.length ≤ 100)
    (k : ∀ (H' : Hp) (z : Addr),z ≠ L → H' L = some (.lst ((bs ++ [z]).map V.ref)) → H' z = some (.lst (ns (r ++ [e]))) → (∀ b o,H b = some o → b ≠ L → H' b = some o) → D.nx [some (.ref R),some (.ref kd),some (.ref L),some (.ref a),some (nv e)] H') :
    tPut K D [some (.ref R),some (.ref kd),some (.ref L),some (.ref a),some (nv e)] H:=by
  have hsl : sizeLine = 16777216:=sizeLine_eq
  refine ⟨_,rfl,.inl ⟨rfl,_,SqL.of hL⟩,_,rfl,_,rfl,(by show 1 ≤ sizeLine; decide),fun q hq=>?_⟩
  have s3 : Same H (upd H q (.lst [nv e])):=Same.upd hq
  refine ⟨a,q,_,_,rfl,rfl,s3 _ _ ha,upd_same,(by rw [ns_len]; show r.length + 1 ≤ sizeLine; omega),fun z hz=>?_⟩
  have s4 : Same H (upd (upd H q (.lst [nv e])) z (.lst (ns r ++ [nv e]))):=Same.upd' s3 (s3.free hz)
  have hzL : z ≠ L:=fun w=>by rw [w,s3 _ _ hL] at hz; cases hz
  refine ⟨L,_,_,rfl,rfl,s4 _ _ hL,(by rw [List.length_map]; omega),?_⟩
  refine k _ z hzL ?_ ?_ fun b o hb hbL=>?_
  · rw [upd_same,List.map_append]
    rfl
  · rw [upd_ne hzL,upd_same,ns_snoc]
  · rw [upd_ne hbL]
    exact s4 _ _ hb
theorem ok_longer {f : Addr} {fd : FuncData} (D : Def K mg "one_longer" sLonger ["rows","kinds"] f fd) (T : Txt K mg CP CR) : FnOk P w K mg base CX0 1 f fd ["rows","kinds"] (spLonger K):=by
  refine D.fn.ok scLonger (fun vs H Q E h=>?_) (fun cdv A outer s H vs Q E hr h=>?_)
  · obtain ⟨R,kd,rs,ks,rfl,_⟩:=h
    rfl
  · obtain ⟨R,kd,rs,ks,rfl,⟨as,hR,hP⟩,hkd,hb,hrl,k⟩:=h
    have hsl : sizeLine = 16777216:=sizeLine_eq
    have hal : as.length = rs.length:=Paired.length hP
    refine ⟨_,pss_cons (ps_set (i:=2) scLonger.nd rfl (Or.inl rfl) (pe_lst pa_nil))
      (pss_cons (ps_for PassesOwn.never rfl (pi_list (pv 0)) (pg_name (i:=3) scLonger.nd rfl (Or.inl rfl))
        (pss_one (ps_for PassesOwn.never rfl (pi_list (pv 1)) (pg_name (i:=4) scLonger.nd rfl (Or.inl rfl))
          (pss_one (ps_if (PW.pt (pw_or (pt_not (pt_truth (pv 3) (fun _=>rfl))) (pw_or1 (pt_cmpR op_gt (pv 4) (pe_ix ix_list (pv 3) (pe_un un_neg pe_int) (fun _ _=>rfl)) (nomark _)))))
            (pss_one (ps_expr (pe_bm PySem.F.plainAttrs_list PySem.F.slot_list_append PySem.F.type_list_append mt_append (pv 2) (pa_cons (pe_op op_cat (pv 3) (pe_lst (pa_cons (pv 4) pa_nil))) pa_nil))))
            pss_nil)))))
      (pss_one (ps_ret (pv 2)))),?_⟩
    refine ⟨Nat.zero_le _,fun L hL=>?_⟩
    have s1 : Same H (upd H L (.lst [])):=Same.upd hL
    refine ⟨_,rfl,R,rfl,⟨_,SqL.of (s1 _ _ hR)⟩,for_list (K:=K) (a:=R) (xs:=as.map V.ref) (fun i σ H'=>∃ (v3 v4 : Option V) (bs : List Addr),σ = [some (.ref R),some (.ref kd),some (.ref L),v3,v4] ∧ Same H H' ∧ H' L = some (.lst (bs.map V.ref)) ∧ Paired (fun b r=>b ≠ L ∧ H' b = some (.lst (ns r))) bs (longer (rs.take i) ks))
      ⟨none,none,[],rfl,s1,upd_same,.nil⟩ (fun i σ H' _ ⟨_,_,_,_,q,_⟩=>SqL.of (q _ _ hR)) ?_ ?_⟩
    · rintro i x σ H' hi ⟨v3,v4,bs,rfl,hs,hL',hbs⟩
      obtain ⟨a,ha,rfl⟩:=ref_get hi
      obtain ⟨r,hr',hra⟩:=paired_get hP ha
      have hrl':=hrl r (List.mem_of_getElem? hr')
      have hir : i < rs.length:=(List.getElem?_eq_some_iff.mp hr').1
      have et : rs.take (i + 1) = rs.take i ++ [r]:=by
        rw [List.take_add_one,hr']
        rfl
      refine ⟨_,rfl,kd,rfl,⟨_,hs.seq hkd⟩,for_list (K:=K) (a:=kd) (xs:=ns ks) (fun j σ H'=>∃ (v4 : Option V) (bs : List Addr),σ = [some (.ref R),some (.ref kd),some (.ref L),some (.ref a),v4] ∧ Same H H' ∧ H' L = some (.lst (bs.map V.ref)) ∧ Paired (fun b r=>b ≠ L ∧ H' b = some (.lst (ns r))) bs (longer (rs.take i) ks ++ ext (ks.take j) r))
        ⟨v4,bs,rfl,hs,hL',by simpa [ext] using hbs⟩ (fun j σ H' _ ⟨_,_,_,q,_⟩=>q.seq hkd) ?_ ?_⟩
      · rintro j x σ H2 hj ⟨v4',bs',rfl,hs2,hL2,hbs2⟩
        obtain ⟨e,he,rfl⟩:=ns_get hj
        have etk : ks.take (j + 1) = ks.take j ++ [e]:=by
          rw [List.take_add_one,he]
          rfl
        have hra2:=hs2 _ _ hra
        have ex : ext (ks.take (j + 1)) r = if gtLast r e = true then ext (ks.take j) r ++ [r ++ [e]] else ext (ks.take j) r:=by
          unfold ext
          rw [etk,filter_snoc]
          split
          · rw [List.map_append]; rfl
          · rfl
        have hblen : bs'.length ≤ 20000:=by
          have h1 : bs'.length = _:=Paired.length hbs2
          rw [List.length_append] at h1
          have h2:=longer_len ks (rs.take i)
          have h3 : (ext (ks.take j) r).length ≤ ks.length:=by
            unfold ext
            rw [List.length_map]
            refine Nat.le_trans (List.length_filter_le _ _) ?_
            rw [List.length_take]
            exact Nat.min_le_right _ _
          have h4 : (rs.take i).length * ks.length + ks.length = (i + 1) * ks.length:=by
            rw [List.length_take,Nat.min_eq_left (Nat.le_of_lt hir),Nat.succ_mul]
          have h5 : (i + 1) * ks.length ≤ rs.length * ks.length:=Nat.mul_le_mul_right _ hir
          omega
        have next : gtLast r e = true → ∀ (H' : Hp) (z : Addr),z ≠ L → H' L = some (.lst ((bs' ++ [z]).map V.ref)) → H' z = some (.lst (ns (r ++ [e]))) → (∀ b o,H2 b = some o → b ≠ L → H' b = some o) →
            ∃ (v4 : Option V) (bs : List Addr),[some (V.ref R),some (.ref kd),some (.ref L),some (.ref a),some (nv e)] = [some (.ref R),some (.ref kd),some (.ref L),some (.ref a),v4] ∧ Same H H' ∧ H' L = some (.lst (bs.map V.ref)) ∧ Paired (fun b r=>b ≠ L ∧ H' b = some (.lst (ns r))) bs (longer (rs.take i) ks ++ ext (ks.take (j + 1)) r):=fun hgt H' z hzL h1 h2 h3=>by
          refine ⟨_,bs' ++ [z],rfl,fun b o q=>h3 b o (hs2 b o q) (ne_of_none q hL),h1,?_⟩
          rw [ex,if_pos hgt,← List.append_assoc]
          exact Paired.snoc (Paired.mono (fun b r' ⟨b1,b2⟩=>⟨b1,h3 _ _ b2 b1⟩) hbs2) ⟨hzL,h2⟩
        refine ⟨_,rfl,!(ns r).isEmpty,.inl ⟨_,SqL.of hra2,rfl⟩,?_⟩
        rcases List.eq_nil_or_concat r with q | ⟨r0,x0,q⟩
        · have e1 : (!(ns r).isEmpty) = false:=by rw [q]; rfl
          have e2 : gtLast r e = true:=by rw [q]; rfl
          rw [e1]
          exact iteT (iteT (put_row hL2 hra2 hblen hrl' (next e2)))
        · rw [List.concat_eq_append] at q
          have e1 : (!(ns r).isEmpty) = true:=by rw [q]; simp [ns]
          rw [e1]
          have e2 : gtLast r e = decide (x0 < e):=by rw [q]; simp [gtLast]
          refine iteF ⟨_,rfl,_,rfl,1,rfl,a,ns r,_,nv x0,rfl,rfl,SqL.of hra2,by rw [q]; exact at_last r0 x0,_,_,rfl,rfl,_,rfl,?_⟩
          have e3 : decide ((x0 : Int) < (e : Int)) = gtLast r e:=by
            rw [e2,decide_eq_decide]
            omega
          rw [e3]
          cases hgt : gtLast r e with
          | true=>exact iteT (put_row hL2 hra2 hblen hrl' (next hgt))
          | false =>
            refine iteF ⟨_,bs',rfl,hs2,hL2,?_⟩
            rw [ex,if_neg (by rw [hgt]; exact Bool.false_ne_true)]
            exact hbs2
      · rintro σ H2 ⟨v4',bs',rfl,hs2,hL2,hbs2⟩
        rw [ns_len,List.take_length] at hbs2
        refine ⟨_,_,bs',rfl,hs2,hL2,?_⟩
        rw [et,longer_snoc]
        exact hbs2
    · rintro σ H' ⟨v3,v4,bs,rfl,hs,hL',hbs⟩
      rw [List.length_map,hal,List.take_length] at hbs
      exact ⟨_,rfl,k H' L hs hL ⟨bs,hL',Paired.mono (fun b r h=>h.2) hbs⟩⟩
end
end FwD
namespace FwD
open PySem PySem.Spec PyProof.Rows L2 Fw
open Vbecai (State alive chosen least)
theorem nv_one (i : Nat) : nv (i + 1) = V.int (1 + (i : Int)):=by
  show V.int _ = V.int _
  congr 1
  omega
theorem chosen_len : ∀ (m : Nat) (l : List Nat),(chosen m l).length ≤ 2 ^ l.length
  | 0,l=>by rw [chosen_zero]; exact Nat.one_le_two_pow
  | m + 1,[]=>by simp [chosen]
  | m + 1,a :: l=>by
    have h1:=chosen_len m l
    have h2:=chosen_len (m + 1) l
    simp only [chosen,List.length_append,List.length_map,List.length_cons,Nat.pow_succ]
    omega
theorem two_pow_bound {n : Nat} (h : n ≤ 10) : 2 ^ n ≤ 1024:=Nat.pow_le_pow_right (by decide) h (n:=2)
theorem others_flat (s : State) (k : Nat) : (List.range s.n).flatMap (fun i=>if (i + 1 != k) = true then [nv (i + 1)] else []) = ns (others s k):=by
  rw [flat_filter (fun i=>i + 1 != k) (fun i=>nv (i + 1))]
  unfold others State.kinds ns
  rw [List.filter_map,List.map_map]
  rfl
theorem rd_ne {i k : Nat} {a b : V} (ha : a = .int (1 + (i : Int))) (hb : b = nv k) : decide (a = b) = !(i + 1 != k):=by
  subst ha hb
  by_cases q : i + 1 = k
  · rw [decide_eq_true (by subst q; show V.int _ = V.int _; congr 1; omega)]
    simp [q]
  · rw [decide_eq_false (fun z=>q (by have:=V.int.inj z; omega))]
    simp [q]
def spCut : Sp:=fun vs H Q _=>∃ (Ea : Addr) (s : State) (k : Nat) (g : List Nat),vs = [.ref Ea,nv k] ∧ WF s ∧ EatAt H Ea s ∧ k ∈ s.kinds ∧ Lv s [] k ∧ ¬ Lk s 0 k ∧ least s k = some g ∧
  ∀ (H' : Hp) (p : Addr),Same H H' → H' p = some (.lst (ns g)) → Q (.ref p) H'
section
variable {P : Program} {w : World} {K : PySem.W.Frag} {mg : Str → Option Value} {base : Heap} {CP CR : Addr}
abbrev nCut : List Str:=["eaters","k","others","rows","size","row","kind"]
theorem scCut : FnScope nCut ["eaters","k"] (defScope sCut):=⟨rfl,rfl,rfl,by decide +kernel,rfl,by decide +kernel,by decide +kernel⟩
theorem ok_cut {f : Addr} {fd : FuncData} (D : Def K mg "smallest_cut" sCut ["eaters","k"] f fd) (T : Txt K mg CP CR) (CL : Callee P w K mg base "living" 2 ["eaters","gone"] (spLiving K)) (CO : Callee P w K mg base "one_longer" 1 ["rows","kinds"] (spLonger K)) :
    FnOk P w K mg base CX0 3 f fd ["eaters","k"] spCut:=by
  obtain ⟨fL,fdL,mL,kL,bL,GL⟩:=CL
  obtain ⟨fO,fdO,mO,kO,bO,GO⟩:=CO
  refine D.fn.ok scCut (fun vs H Q E h=>?_) (fun cdv A outer s H vs Q E hr h=>?_)
  · obtain ⟨Ea,st,kk,g,rfl,_⟩:=h
    rfl
  · obtain ⟨Ea,st,kk,g,rfl,hW,hE,hkk,hlv,hls,hg,k⟩:=h
    have hn10:=hW.n10
    have hn1:=hW.n1
    have hE':=hE
    obtain ⟨as,hE1,hE2,hE3⟩:=hE'
    have hlen : (as.map V.ref).length = st.n + 1:=by rw [List.length_map]; exact hE2
    have hsl : sizeLine = 16777216:=sizeLine_eq
    have hol:=length_others hkk
    refine ⟨_,pss_cons (ps_setLc (i:=2) (own:=[("kind",6)]) rfl scCut.nd rfl rfl rfl (pi_range2 (by rfl) T.range (pa_cons pe_int (pa_cons (pe_callB call_len_seq (by rfl) T.len PySem.boot_len (pa_cons (pv 0) pa_nil)) pa_nil)))
        (blk (N:=nCut) (sc:=defScope sCut) (by decide +kernel))
        (fun _ _ _ _ _=>pg_name (i:=6) scCut.nd rfl (Or.inl rfl)) (fun _ _ _ _ _=>pts_one (pt_cmpR op_ne (pv 6) (pv 1) (nomark _))) (fun _ _ _ _ _=>pv 6))
      (pss_cons (ps_set (i:=3) scCut.nd rfl (Or.inl rfl) (pe_lst (pa_cons (pe_lst pa_nil) pa_nil)))
      (pss_cons (ps_for PassesOwn.never rfl (pi_range2 (by rfl) T.range (pa_cons pe_int (pa_cons (pe_callB call_len_seq (by rfl) T.len PySem.boot_len (pa_cons (pv 2) pa_nil)) pa_nil))) (pg_name (i:=4) scCut.nd rfl (Or.inl rfl))
        (pss_cons (ps_set (i:=3) scCut.nd rfl (Or.inl rfl) (pe_call GO (hr.mono (by decide)) (by rfl) mO kO bO .nil pass0 (pa_cons (pv 3) (pa_cons (pv 2) pa_nil))))
        (pss_one (ps_for PassesOwn.never rfl (pi_list (pv 3)) (pg_name (i:=5) scCut.nd rfl (Or.inl rfl))
          (pss_one (ps_if (pt_cmpR op_notIn_seq (pv 1) (pe_call GL hr (by rfl) mL kL bL .nil pass0 (pa_cons (pv 0) (pa_cons (pv 5) pa_nil))) (by with_unfolding_all rfl))
            (pss_one (ps_ret (pv 5))) pss_nil))))))
      (pss_one (ps_ret (pv 2))))),?_⟩
    refine ⟨_,rfl,Ea,as.map V.ref,rfl,.inl (SqL.of hE1),1,_,rfl,⟨by decide,by decide,by rw [hlen]; omega,by rw [hlen]; omega⟩,fun O hO=>?_⟩
    have en : (((as.map V.ref).length : Int) - 1).toNat = st.n:=by rw [hlen]; omega
    rw [en]
    refine lc_rangeP (lo:=1) (n:=st.n) (σ:=[some (.ref Ea),some (nv kk),none,none,none,none,none]) (Q:=fun x H1=>gName 2 x [some (.ref Ea),some (nv kk),none,none,none,none,none] H1 _) (fun i=>if (i + 1 != kk) = true then [nv (i + 1)] else []) hO (by omega) (fun i H2 C1 C0 hi h2 k1 k0=>?_) (fun H2 h2 hO2=>?_)
    · refine ⟨rfl,_,rfl,_,rfl,rfl,_,rfl,?_⟩
      rw [rd_ne rfl rfl]
      cases q : (i + 1 != kk) with
      | true=>exact iteT ⟨_,rfl,k1 _ _ Same.refl (by rw [q,if_pos rfl]; rw [nv_one])⟩
      | false=>exact iteF (k0 _ Same.refl (by rw [q,if_neg Bool.false_ne_true]))
    rw [others_flat] at hO2
    refine ⟨Nat.zero_le _,fun L0 hL0=>⟨(by show 1 ≤ sizeLine; decide),fun R0 hR0=>?_⟩⟩
    have s1 : Same H2 (upd H2 L0 (.lst [])):=Same.upd hL0
    have s2 : Same H2 (upd (upd H2 L0 (.lst [])) R0 (.lst [.ref L0])):=Same.upd' s1 (s1.free hR0)
    have hR1 : RowsAt (upd (upd H2 L0 (.lst [])) R0 (.lst [.ref L0])) R0 (chosen 0 (others st kk)):=by
      rw [chosen_zero]
      refine ⟨[L0],upd_same,.cons ?_ .nil⟩
      rw [upd_ne (ne_of_none upd_same hR0),upd_same]
      rfl
    generalize upd (upd H2 L0 (.lst [])) R0 (.lst [.ref L0]) = H3 at s2 hR1 ⊢
    have s3 : Same H H3:=h2.trans s2
    refine ⟨_,rfl,O,ns (others st kk),rfl,.inl (SqL.of (s2 _ _ hO2)),1,_,rfl,⟨by decide,by decide,by rw [ns_len]; omega,by rw [ns_len]; omega⟩,
      for_range (lo:=1) (n:=(((ns (others st kk)).length : Int) - 1).toNat) (fun i σ H'=>∃ (R : Addr) (v4 v5 : Option V),σ = [some (.ref Ea),some (nv kk),some (.ref O),some (.ref R),v4,v5,none] ∧ Same H2 H' ∧ RowsAt H' R (chosen i (others st kk)) ∧ ∀ j,j ≤ i → ∀ g ∈ chosen j (others st kk),kk ∈ alive st g)
        ⟨R0,none,none,rfl,s2,hR1,fun j hj g hg=>?_⟩ ?_ ?_⟩
    · have : j = 0:=by omega
      subst this
      rw [chosen_zero] at hg
      simp at hg
      subst hg
      exact mem_alive.mpr hlv
    · rintro i σ H' hi ⟨R,v4,v5,rfl,hs,hR,hall⟩
      rw [ns_len] at hi
      refine ⟨_,rfl,_,rfl,R,O,_,others st kk,rfl,hR,SqL.of (hs _ _ hO2),?_,?_,fun H4 R4 s4 hR4 hRows=>?_⟩
      · have h1:=chosen_len i (others st kk)
        have h3:=two_pow_bound (n:=(others st kk).length) (by omega)
        calc (chosen i (others st kk)).length * (others st kk).length ≤ 1024 * 10:=Nat.mul_le_mul (by omega) (by omega)
          _ ≤ 20000:=by decide
      · intro r hr
        have:=(chosen_mem hr).1
        omega
      · rw [longer_is others_sorted] at hRows
        have hs4 : Same H2 H4:=hs.trans s4
        obtain ⟨rs,hRs,hP⟩:=hRows
        refine ⟨_,rfl,R4,rfl,⟨_,SqL.of hRs⟩,for_list (K:=K) (a:=R4) (xs:=rs.map V.ref) (fun t σ H'=>∃ v5 : Option V,σ = [some (.ref Ea),some (nv kk),some (.ref O),some (.ref R4),some (.int (1 + (i : Int))),v5,none] ∧ Same H4 H' ∧ ∀ g ∈ (chosen (i + 1) (others st kk)).take t,kk ∈ alive st g)
          ⟨v5,rfl,Same.refl,by simp⟩ (fun t σ H' _ ⟨_,_,q,_⟩=>SqL.of (q _ _ hRs)) ?_ ?_⟩
        · rintro t x σ H5 ht ⟨v5',rfl,h5,hpre⟩
          obtain ⟨a,ha,rfl⟩:=ref_get ht
          obtain ⟨r,hr',hra⟩:=paired_get hP ha
          have hra5:=h5 _ _ hra
          refine ⟨_,rfl,_,rfl,_,rfl,Ea,a,st,r,rfl,hW,hE.same ((h2.trans hs4).trans h5),SqL.of hra5,fun H6 p h6 hp hp6=>?_⟩
          refine ⟨p,_,rfl,.inl (SqL.of hp6),rfl,ns_flat _,_,rfl,?_⟩
          rw [ns_in]
          cases hc : (alive st r).contains kk with
          | true =>
            refine iteF ⟨_,rfl,h5.trans h6,fun g hg=>?_⟩
            rw [take_snoc hr'] at hg
            rcases List.mem_append.mp hg with z | z
            · exact hpre g z
            · simp at z
              subst z
              simpa using hc
          | false =>
            refine iteT ⟨_,rfl,?_⟩
            have hfind : (chosen (i + 1) (others st kk)).find? (fun g=>!(alive st g).contains kk) = some r:=by
              rw [List.find?_eq_some_iff_getElem]
              refine ⟨by rw [hc]; rfl,t,(List.getElem?_eq_some_iff.mp hr').1,(List.getElem?_eq_some_iff.mp hr').2,fun j hj=>?_⟩
              have:=hpre ((chosen (i + 1) (others st kk))[j]'(by have:=(List.getElem?_eq_some_iff.mp hr').1; omega)) (by
                rw [List.mem_take_iff_getElem]
                exact ⟨j,by have:=(List.getElem?_eq_some_iff.mp hr').1; omega,rfl⟩)
              simpa using this
            have:=least_hit (s:=st) (k:=kk) (m:=i + 1) (by omega) (fun j hj=>hall j (by omega)) hfind
            rw [hg] at this
            cases this
            exact k H6 a (((h2.trans hs4).trans h5).trans h6) (h6 _ _ hra5)
        · rintro σ H5 ⟨v5',rfl,h5,hpre⟩
          have hl : rs.length = (chosen (i + 1) (others st kk)).length:=Paired.length hP
          rw [List.length_map,hl,List.take_length] at hpre
          refine ⟨R4,_,_,rfl,hs4.trans h5,(RowsAt.same (⟨rs,hRs,hP⟩ : RowsAt H4 R4 _) h5),fun j hj g' hg'=>?_⟩
          by_cases q : j = i + 1
          · subst q
            exact hpre g' hg'
          · exact hall j (by omega) g' hg'
    · rintro σ H' ⟨R,v4,v5,rfl,hs,hR,hall⟩
      refine ⟨_,rfl,k H' O (h2.trans hs) ?_⟩
      rw [ns_len] at hall
      have:=least_all hW hkk hls fun j hj=>hall j (by omega)
      rw [hg] at this
      cases this
      exact hs _ _ hO2
end
end FwD
namespace FwD
open PySem PySem.Spec PyProof.Rows L2 Fw
open Vbecai (State alive chosen least)
theorem paired_get' {α β : Type} {G : α → β → Prop} {l₁ : List α} {l₂ : List β} (h : Paired G l₁ l₂) : ∀ {i : Nat} {b : β},l₂[i]? = some b → ∃ a,l₁[i]? = some a ∧ G a b:=by
  induction h with
  | nil=>intro i b e; simp at e
  | @cons x y xs ys hxy t ih =>
    intro i b e
    cases i with
    | zero=>exact ⟨x,rfl,by have : y = b:=Option.some.inj e; rw [← this]; exact hxy⟩
    | succ i=>exact ih e
abbrev pairZ (x : Link) : Int × Int:=((x.1 : Int),(x.2.1 : Int))
theorem le2_eq : ∀ {l1 l2 : List (Int × Int)},l1.Perm l2 → l1.Pairwise Le2 → l2.Pairwise Le2 → l1 = l2
  | [],l2,h,_,_=>(List.nil_perm.mp h).symm
  | a :: l1,[],h,_,_=>absurd h.length_eq (by simp)
  | a :: l1,b :: l2,h,h1,h2=>by
    have hab : a = b:=by
      rw [List.pairwise_cons] at h1 h2
      have ha : a ∈ b :: l2:=h.mem_iff.mp (by simp)
      have hb : b ∈ a :: l1:=h.mem_iff.mpr (by simp)
      rcases List.mem_cons.mp ha with q | q
      · exact q
      · rcases List.mem_cons.mp hb with r | r
        · exact r.symm
        · have x1:=h1.1 b r
          have x2:=h2.1 a q
          unfold Le2 at x1 x2
          exact Prod.ext (by omega) (by omega)
    subst hab
    rw [List.pairwise_cons] at h1 h2
    rw [le2_eq (h.cons_inv) h1.2 h2.2]
theorem sorted_keys {s : State} (F : WF s) {l : List Link} (hp : l.Perm s.links) {ks : List (Int × Int)} (h1 : ks.Perm (l.map pairZ)) (h2 : ks.Pairwise Le2) : ks = s.links.map pairZ :=
  le2_eq (h1.trans (hp.map _)) h2 (List.pairwise_map.mpr (F.srt.imp fun {a b} q=>by
    have:=less_iff.mp q
    unfold Less at this
    unfold Le2
    simp only
    omega))
theorem kvL_ks (l : List Link) : kvL l = (l.map fun x=>(pairZ x,V.int (x.2.2 : Int))).map fun k=>(k2 k.1,k.2):=by
  unfold kvL
  rw [List.map_map]
  rfl
theorem rd_sorted {s : State} (F : WF s) {σ : L2.St} {H : Hp} {W : Addr} {l : List Link} {Q : VK} (hl : l.Perm s.links) (hW : H W = some (.dT (kvL l)))
    (k : ∀ (as : List Addr) (p : Addr),Paired (fun x a=>H a = some (.tup [.int (x.1 : Int),.int (x.2.1 : Int)])) s.links as → H p = none → Q (.ref p) (upd H p (.lst (as.map V.ref)))) : tNil σ H fun xs H2=>rSortedT (V.ref W :: xs) H2 Q:=by
  refine ⟨W,l.map fun x=>(pairZ x,V.int (x.2.2 : Int)),rfl,.inl (by rw [hW,kvL_ks]),fun ks as p h1 h2 h3 h4=>?_⟩
  rw [List.map_map] at h1
  have e:=sorted_keys F hl h1 h2
  subst e
  refine k as p ?_ h4
  have gen : ∀ (m : List Link) (as : List Addr),Paired (fun (k : Int × Int) a=>H a = some (.tup [.int k.1,.int k.2])) (m.map pairZ) as → Paired (fun (x : Link) a=>H a = some (.tup [.int (x.1 : Int),.int (x.2.1 : Int)])) m as:=by
    intro m
    induction m with
    | nil=>intro as h; cases h; exact .nil
    | cons x m ih =>
      intro as h
      cases h with
      | cons a b=>exact .cons a (ih _ b)
  exact gen _ _ h3
abbrev sEaters : Stmt:=top 29
def eatT (s : State) (t i : Nat) : List Nat:=((s.links.take t).filter fun x=>x.1 == i).map (·.2.1)
theorem eatT_snoc {s : State} {t i : Nat} {x : Link} (h : s.links[t]? = some x) : eatT s (t + 1) i = if x.1 = i then eatT s t i ++ [x.2.1] else eatT s t i:=by
  unfold eatT
  rw [take_snoc h,filter_snoc]
  by_cases q : x.1 = i
  · rw [if_pos (by simpa using q),if_pos q,List.map_append]
    rfl
  · rw [if_neg (by simpa using q),if_neg q]
theorem eatT_all {s : State} {i e : Nat} : e ∈ eatT s s.links.length i ↔ Lk s i e:=by
  unfold eatT
  rw [List.take_length,List.mem_map]
  constructor
  · rintro ⟨x,hx,rfl⟩
    obtain ⟨h1,h2⟩:=List.mem_filter.mp hx
    have h2 : x.1 = i:=by simpa using h2
    exact ⟨x.2.2,by rw [← h2]; exact h1⟩
  · rintro ⟨w,hw⟩
    exact ⟨(i,e,w),List.mem_filter.mpr ⟨hw,by simp⟩,rfl⟩
theorem eatT_len {s : State} (F : WF s) {t i : Nat} : (eatT s t i).length ≤ 110:=by
  unfold eatT
  rw [List.length_map]
  refine Nat.le_trans (List.length_filter_le _ _) ?_
  rw [List.length_take]
  have:=links_few F
  omega
def spEaters (C : Addr) : Sp:=fun vs H Q _=>∃ (p W : Addr) (s : State),vs = [.ref p] ∧ WF s ∧ PondAt C H p W s ∧ ∀ (H' : Hp) (E : Addr),Same H H' → H E = none → EatAt H' E s → Q (.ref E) H'
section
variable {P : Program} {w : World} {K : PySem.W.Frag} {mg : Str → Option Value} {base : Heap} {CP CR : Addr}
abbrev nEat : List Str:=["pond","eaters","link","food"]
theorem scEat : FnScope nEat ["pond"] (defScope sEaters):=⟨rfl,rfl,rfl,by decide +kernel,rfl,by decide +kernel,by decide +kernel⟩
theorem ok_eaters {f : Addr} {fd : FuncData} (D : Def K mg "eaters_by_food" sEaters ["pond"] f fd) (T : Txt K mg CP CR) : FnOk P w K mg base CX0 1 f fd ["pond"] (spEaters CP):=by
  refine D.fn.ok scEat (fun vs H Q E h=>?_) (fun cdv A outer s H vs Q E hr h=>?_)
  · obtain ⟨p,W,st,rfl,_⟩:=h
    rfl
  · obtain ⟨p,W,st,rfl,hF,hP,k⟩:=h
    have hn10:=hF.n10
    have hsl : sizeLine = 16777216:=sizeLine_eq
    refine ⟨_,pss_cons (ps_setLc (i:=1) (own:=[("food",3)]) rfl scEat.nd rfl rfl rfl (pi_range1 (by rfl) T.range (pa_cons (pe_op op_add (pe_fld (pv 0) rfl) pe_int) pa_nil))
        (blk (N:=nEat) (sc:=defScope sEaters) (by decide +kernel))
        (fun _ _ _ _ _=>pg_name (i:=3) scEat.nd rfl (Or.inl rfl)) (fun _ _ _ _ _=>pts_nil) (fun _ _ _ _ _=>pe_lst pa_nil))
      (pss_cons (ps_for PassesOwn.never rfl (pi_list (pe_callB (cr_sortedT rfl) (by rfl) T.sorted boot_sorted (pa_cons (pe_fld (pv 0) rfl) pa_nil))) (pg_name (i:=2) scEat.nd rfl (Or.inl rfl))
        (pss_one (ps_expr (pe_bm PySem.F.plainAttrs_list PySem.F.slot_list_append PySem.F.type_list_append mt_append (pe_ix ix_list (pv 1) (pe_ix ix_tup (pv 2) pe_int (fun _ _=>rfl)) (fun _ _=>rfl)) (pa_cons (pe_ix ix_tup (pv 2) pe_int (fun _ _=>rfl)) pa_nil)))))
      (pss_one (ps_ret (pv 1)))),?_⟩
    refine ⟨_,rfl,rdN T hP ⟨_,_,rfl,rfl,(st.n : Int) + 1,rfl,by omega,by omega,fun L hL=>?_⟩⟩
    rw [show ((st.n : Int) + 1).toNat = st.n + 1 by omega]
    refine lc_range (lo:=0) (n:=st.n + 1) (σ:=[some (.ref p),none,none,none]) (Q:=fun x H1=>gName 1 x [some (.ref p),none,none,none] H1 _) (fun i acc H2=>∃ as : List Addr,acc = as.map V.ref ∧ as.length = i ∧ as.Nodup ∧ (∀ a ∈ as,H2 a = some (.lst []) ∧ a ≠ L ∧ H a = none) ∧ Same H H2)
      ⟨[],rfl,rfl,by simp,by simp,Same.upd hL⟩ (fun i acc H2 hi hD ⟨as,ea,e1,e2,e3,h2⟩=>?_) (fun acc H2 hD ⟨as,ea,e1,e2,e3,h2⟩=>?_)
    · refine ⟨rfl,yesT (iteT ⟨Nat.zero_le _,fun q hq=>?_⟩)⟩
      have hqL : q ≠ L:=fun z=>by rw [z,hD] at hq; cases hq
      have hqa : q ∉ as:=fun z=>by rw [(e3 q z).1] at hq; cases hq
      refine ⟨acc,by rw [upd_ne hqL.symm]; exact hD,by rw [ea,List.length_map]; omega,_,upd_same,as ++ [q],?_,by simp [e1],?_,fun a ha=>?_,?_⟩
      · rw [ea,List.map_append]
        rfl
      · rw [List.nodup_append]
        refine ⟨e2,by simp,fun a ha b hb=>?_⟩
        simp at hb
        subst hb
        exact fun z=>hqa (z ▸ ha)
      · rcases List.mem_append.mp ha with z | z
        · obtain ⟨z1,z2,z3⟩:=e3 a z
          exact ⟨by rw [upd_ne z2,upd_ne (fun w=>hqa (by rw [← w]; exact z))]; exact z1,z2,z3⟩
        · simp at z
          subst z
          exact ⟨by rw [upd_ne hqL,upd_same],hqL,h2.free hq⟩
      · exact Same.upd' (Same.upd' h2 (h2.free hq)) hL
    · -- for link in sorted(pond.weights)
      subst ea
      have hP2:=hP.same h2
      obtain ⟨l,hl,hlW⟩:=hP2.wts
      refine ⟨_,rfl,rdW T hP2 ?_⟩
      refine rd_sorted hF hl hlW fun ts S hts hS=>?_
      have hS0 : H S = none:=h2.free hS
      have s3 : Same H2 (upd H2 S (.lst (ts.map V.ref))):=Same.upd hS
      have asS : ∀ a ∈ as,a ≠ S:=fun a ha z=>by rw [← z,(e3 a ha).1] at hS; cases hS
      refine ⟨S,rfl,⟨_,SqL.of upd_same⟩,for_list (K:=K) (a:=S) (xs:=ts.map V.ref) (fun t σ H'=>∃ v2 : Option V,σ = [some (.ref p),some (.ref L),v2,none] ∧ Same H H' ∧ H' L = some (.lst (as.map V.ref)) ∧ H' S = some (.lst (ts.map V.ref)) ∧ (∀ b xs,H2 b = some (.tup xs) → H' b = some (.tup xs)) ∧ ∀ i a,as[i]? = some a → H' a = some (.lst (ns (eatT st t i))))
        ⟨none,rfl,h2.trans s3,s3 _ _ hD,upd_same,fun b xs q=>s3 _ _ q,fun i a ha=>?_⟩ (fun t σ H' _ ⟨_,_,_,_,q,_⟩=>SqL.of q) ?_ ?_⟩
      · rw [upd_ne (asS a (List.mem_of_getElem? ha)),(e3 a (List.mem_of_getElem? ha)).1]
        rfl
      · rintro t x σ H' ht ⟨v2,rfl,hs,hL',hS',htup,hall⟩
        obtain ⟨b,hb,rfl⟩:=ref_get ht
        obtain ⟨y,hy,hby⟩:=paired_get' hts hb
        have hrng:=hF.rng y (List.mem_of_getElem? hy)
        have hb':=htup _ _ hby
        obtain ⟨a0,ha0⟩ : ∃ a0,as[y.1]? = some a0:=⟨_,List.getElem?_eq_getElem (by omega)⟩
        have ha0':=hall _ _ ha0
        have hm0:=List.mem_of_getElem? ha0
        refine ⟨_,rfl,_,rfl,b,_,_,.int (y.1 : Int),rfl,rfl,SqT.of hb',rfl,L,_,_,.ref a0,rfl,rfl,SqL.of hL',atI_nat (by rw [List.getElem?_map,ha0]; rfl),.inl ⟨rfl,_,SqL.of ha0'⟩,_,rfl,b,_,_,.int (y.2.1 : Int),rfl,rfl,SqT.of hb',rfl,a0,_,_,rfl,rfl,ha0',?_,?_⟩
        · rw [ns_len]
          have:=eatT_len hF (t:=t) (i:=y.1)
          omega
        · have haL : L ≠ a0:=fun z=>(e3 a0 hm0).2.1 z.symm
          refine ⟨_,rfl,Same.upd' hs (e3 a0 hm0).2.2,by rw [upd_ne haL]; exact hL',by rw [upd_ne (fun z=>asS a0 hm0 z.symm)]; exact hS',fun b xs q=>?_,fun i a ha=>?_⟩
          · have q':=htup b xs q
            rw [upd_ne (fun z=>by rw [z,ha0'] at q'; cases q')]
            exact q'
          · rw [eatT_snoc hy]
            by_cases q : y.1 = i
            · subst q
              have : a = a0:=Option.some.inj (ha.symm.trans ha0)
              subst this
              rw [if_pos rfl,upd_same,ns_snoc]
            · rw [if_neg q,upd_ne (fun z=>q (nd_ix e2 (by rw [← z]; exact ha) ha0).symm)]
              exact hall i a ha
      · rintro σ H' ⟨v2,rfl,hs,hL',hS',htup,hall⟩
        have htl : ts.length = st.links.length:=(Paired.length hts).symm
        rw [List.length_map,htl] at hall
        exact ⟨_,rfl,k H' L hs hL ⟨as,hL',e1,fun i a ha=>⟨_,hall i a ha,fun e=>eatT_all⟩⟩⟩
end
end FwD
namespace FwD
open PySem PySem.Spec PyProof.Rows L2 Fw
open Vbecai (State alive chosen least foods linked lives allLive isKind)
theorem iteD {c A B : Prop} [Decidable c] (h1 : c → A) (h2 : ¬ c → B) : if decide c = true then A else B:=by
  by_cases h : c
  · rw [if_pos (decide_eq_true h)]; exact h1 h
  · rw [if_neg (by rw [decide_eq_false h]; exact Bool.false_ne_true)]; exact h2 h
theorem iteB {b : Bool} {A B : Prop} (h1 : b = true → A) (h2 : b = false → B) : if b = true then A else B:=by
  cases b with
  | true=>exact iteT (h1 rfl)
  | false=>exact iteF (h2 rfl)
def foodsU (s : State) (e : Nat) : List Nat:=(List.range (s.n + 1)).filter fun f=>linked s f e
theorem foods_up {s : State} (F : WF s) (e : Nat) : ((foods s e).map (·.1)).Pairwise (· < ·):=by
  unfold foods
  rw [List.map_map]
  refine List.pairwise_map.mpr (List.Pairwise.imp_of_mem ?_ (List.Pairwise.filter _ F.srt))
  intro a c ha hc hl
  have q1:=(List.mem_filter.mp ha).2
  have q2:=(List.mem_filter.mp hc).2
  simp only [beq_iff_eq] at q1 q2
  show a.1 < c.1
  rcases less_iff.mp hl with w | w
  · exact w
  · omega
theorem foodsU_is {s : State} (F : WF s) (e : Nat) : foodsU s e = (foods s e).map (·.1):=by
  refine sorted_ext (List.Pairwise.filter _ List.pairwise_lt_range) (foods_up F e) fun f=>?_
  unfold foodsU
  rw [List.mem_filter,linked_iff,List.mem_range,List.mem_map]
  constructor
  · rintro ⟨_,w,hw⟩
    exact ⟨(f,w),mem_foods.mpr hw,rfl⟩
  · rintro ⟨⟨f',w⟩,h,rfl⟩
    have:=foods_le F _ h
    exact ⟨Nat.lt_succ_of_le this,w,mem_foods.mp h⟩
theorem foodsU_sum {s : State} (F : WF s) (e : Nat) : (((foodsU s e).map fun f=>((wtl (foods s e) f : Nat) : Int)).sum : Int) = (W s e : Nat):=by
  rw [foodsU_is F]
  have h1 : ((foods s e).map (·.1)).map (fun f=>((wtl (foods s e) f : Nat) : Int)) = (foods s e).map fun x=>((x.2 : Nat) : Int):=by
    rw [List.map_map]
    refine List.map_congr_left fun x hx=>?_
    show ((wtl (foods s e) x.1 : Nat) : Int) = _
    rw [wtl_mem (foods_nodup F e) hx]
  rw [h1]
  unfold W
  have : ∀ l : List (Nat × Nat),(l.map fun x=>((x.2 : Nat) : Int)).sum = ((tot l : Nat) : Int):=by
    intro l
    induction l with
    | nil=>rfl
    | cons x l ih =>
      rw [List.map_cons,List.sum_cons,ih]
      simp only [tot]
      omega
  exact this _
theorem foodsU_len {s : State} (F : WF s) (e : Nat) : (foodsU s e).length ≤ 11:=by
  unfold foodsU
  refine Nat.le_trans (List.length_filter_le _ _) ?_
  rw [List.length_range]
  have:=F.n10
  omega
theorem mem_foodsU {s : State} {e f : Nat} : f ∈ foodsU s e → Lk s f e:=fun h=>linked_iff.mp (List.mem_filter.mp h).2
theorem allLive_is {s : State} (F : WF s) : allLive s = decide ((alive s []).length = s.n):=by
  rw [Bool.eq_iff_iff,decide_eq_true_iff]
  constructor
  · intro h
    have : alive s [] = s.kinds:=sorted_ext alive_sorted sorted_kinds fun e=>⟨fun q=>(mem_alive.mp q).kind.1,fun q=>mem_alive.mpr (all_live h e q)⟩
    rw [this,length_kinds]
  · intro h
    unfold allLive
    rw [List.all_eq_true]
    intro e he
    unfold lives
    rw [List.contains_eq_mem,decide_eq_true_iff]
    refine Classical.byContradiction fun c=>?_
    have:=nodup_lt (l1:=alive s []) (l2:=s.kinds) (rounds_nodup _) (fun x hx=>(mem_alive.mp hx).kind.1) he c
    rw [length_kinds] at this
    omega
abbrev sKinds : Stmt:=top 30
abbrev sFoods : Stmt:=top 31
abbrev sTotal : Stmt:=top 32
abbrev sIsKind : Stmt:=top 38
abbrev sRefL : Stmt:=top 39
abbrev sRefF : Stmt:=top 40
abbrev sAllLive : Stmt:=top 41
def spKinds (C : Addr) : Sp:=fun vs H Q _=>∃ (p W : Addr) (s : State),vs = [.ref p] ∧ WF s ∧ PondAt C H p W s ∧ ∀ (H' : Hp) (q : Addr),Same H H' → H q = none → H' q = some (.lst (ns s.kinds)) → Q (.ref q) H'
def spFoods (C : Addr) : Sp:=fun vs H Q _=>∃ (p W : Addr) (s : State) (e : Nat),vs = [.ref p,nv e] ∧ WF s ∧ PondAt C H p W s ∧ ∀ (H' : Hp) (q : Addr),Same H H' → H q = none → H' q = some (.lst (ns (foodsU s e))) → Q (.ref q) H'
def spTotal (C : Addr) : Sp:=fun vs H Q _=>∃ (p W : Addr) (s : State) (e : Nat),vs = [.ref p,nv e] ∧ WF s ∧ PondAt C H p W s ∧ ∀ (H' : Hp),Same H H' → Q (nv (Fw.W s e)) H'
def spIsKind (C : Addr) : Sp:=fun vs H Q _=>∃ (p W : Addr) (s : State) (k : Int),vs = [.ref p,.int k] ∧ PondAt C H p W s ∧ Q (.bl (isKind s k)) H
def refL (s : State) (k : Int) : Int:=if isKind s k = false then -1 else if lives s k.toNat = false then -5 else 0
def spRefL (C : Addr) : Sp:=fun vs H Q _=>∃ (p W : Addr) (s : State) (k : Int),vs = [.ref p,.int k] ∧ WF s ∧ PondAt C H p W s ∧ ∀ (H' : Hp),Same H H' → Q (.int (refL s k)) H'
def refF (s : State) (k : Int) : Int:=if refL s k = 0 ∧ linked s 0 k.toNat = true then -6 else refL s k
def spRefF (C : Addr) : Sp:=fun vs H Q _=>∃ (p W : Addr) (s : State) (k : Int),vs = [.ref p,.int k] ∧ WF s ∧ PondAt C H p W s ∧ ∀ (H' : Hp),Same H H' → Q (.int (refF s k)) H'
def spAllLive (C : Addr) : Sp:=fun vs H Q _=>∃ (p W : Addr) (s : State),vs = [.ref p] ∧ WF s ∧ PondAt C H p W s ∧ ∀ (H' : Hp),Same H H' → Q (.bl (allLive s)) H'
section
variable {P : Program} {w : World} {K : PySem.W.Frag} {mg : Str → Option Value} {base : Heap} {CP CR : Addr}
theorem scKinds : FnScope ["pond"] ["pond"] (defScope sKinds):=⟨rfl,rfl,rfl,by decide +kernel,rfl,by decide +kernel,by decide +kernel⟩
theorem ok_kinds {f : Addr} {fd : FuncData} (D : Def K mg "kinds_of" sKinds ["pond"] f fd) (T : Txt K mg CP CR) : FnOk P w K mg base CX0 1 f fd ["pond"] (spKinds CP):=by
  refine D.fn.ok scKinds (fun vs H Q E h=>?_) (fun cdv A outer s H vs Q E hr h=>?_)
  · obtain ⟨p,W,st,rfl,_⟩:=h
    rfl
  · obtain ⟨p,W,st,rfl,hF,hP,k⟩:=h
    have hn10:=hF.n10
    refine ⟨_,pss_one (ps_ret (pe_lrange (by rfl) T.list (by rfl) T.range (pa_cons pe_int (pa_cons (pe_op op_add (pe_fld (pv 0) rfl) pe_int) pa_nil)))),?_⟩
    refine ⟨_,rfl,rdN T hP ⟨_,_,rfl,rfl,1,st.n,by show [V.int 1,V.int ((st.n : Int) + 1)] = _; rw [Int.add_comm],by decide,by decide,by omega,fun q hq=>?_⟩⟩
    refine k _ q (Same.upd hq) hq ?_
    rw [upd_same,rng_ns]
    rfl
abbrev nFoods : List Str:=["pond","eater","food"]
theorem scFoods : FnScope nFoods ["pond","eater"] (defScope sFoods):=⟨rfl,rfl,rfl,by decide +kernel,rfl,by decide +kernel,by decide +kernel⟩
theorem ok_foods {f : Addr} {fd : FuncData} (D : Def K mg "foods_of" sFoods ["pond","eater"] f fd) (T : Txt K mg CP CR) : FnOk P w K mg base CX0 1 f fd ["pond","eater"] (spFoods CP):=by
  refine D.fn.ok scFoods (fun vs H Q E h=>?_) (fun cdv A outer s H vs Q E hr h=>?_)
  · obtain ⟨p,W,st,e,rfl,_⟩:=h
    rfl
  · obtain ⟨p,W,st,e,rfl,hF,hP,k⟩:=h
    have hn10:=hF.n10
    have hsl : sizeLine = 16777216:=sizeLine_eq
    have hu:=hu_of hr
    refine ⟨_,pss_one (ps_ret (pe_lc (own:=[("food",2)]) (tt:=tB (tDIn (tTup (tCons (tVar 2) (tCons (tVar 1) tNil))) (tFld K (tVar 0) "weights"))) rfl scFoods.nd (pi_range1 (by rfl) T.range (pa_cons (pe_op op_add (pe_fld (pv 0) rfl) pe_int) pa_nil))
        (blk (N:=nFoods) (sc:=defScope sFoods) (by decide +kernel))
        (fun _ _ _ _ _=>pg_name (i:=2) scFoods.nd rfl (Or.inl rfl)) (fun _ _ _ _ _=>pts_one (pt_cmp (pc_din hu (pe_tup (pa_cons (pv 2) (pa_cons (pv 1) pa_nil))) (pe_fld (pv 0) (by rfl))) (by with_unfolding_all rfl))) (fun _ _ _ _ _=>pv 2))),?_⟩
    refine ⟨_,rfl,rdN T hP ⟨_,_,rfl,rfl,(st.n : Int) + 1,rfl,by omega,by omega,fun L hL=>?_⟩⟩
    rw [show ((st.n : Int) + 1).toNat = st.n + 1 by omega]
    refine lc_rangeP (lo:=0) (n:=st.n + 1) (σ:=[some (.ref p),some (nv e),none]) (Q:=Q) (fun i=>if linked st i e = true then [nv i] else []) hL (by omega) (fun i H2 C1 C0 hi h2 k1 k0=>?_) (fun H2 h2 hL2=>?_)
    · refine ⟨rfl,_,rfl,_,rfl,(by show 2 ≤ sizeLine; decide),fun t ht=>?_⟩
      have s3 : Same H2 (upd H2 t (.tup [.int (0 + (i : Int)),nv e])):=Same.upd ht
      have hP3:=(hP.same h2).same s3
      obtain ⟨l,hl,hlW⟩:=hP3.wts
      have eb : upd H2 t (.tup [.int (0 + (i : Int)),nv e]) t = some (.tup ((kF i e).map kV)):=by
        rw [upd_same]
        show some (HO.tup [V.int (0 + (i : Int)),nv e]) = some (HO.tup [V.int (i : Int),V.int (e : Int)])
        rw [Int.zero_add]
      refine ⟨_,rfl,rdW T hP3 ⟨W,_,rfl,DGet.t hlW eb,_,rfl,?_⟩⟩
      rcases wts_val hF hl i e with ⟨q,hv⟩ | ⟨q,hv⟩
      · rw [hv]
        refine iteT ⟨_,rfl,k1 _ _ s3 ?_⟩
        rw [if_pos (linked_iff.mpr q),Int.zero_add]
      · rw [hv]
        refine iteF (k0 _ s3 ?_)
        rw [if_neg (fun z=>q (linked_iff.mp z))]
    · refine k H2 L h2 hL ?_
      rw [hL2,flat_filter (fun i=>linked st i e) nv]
      rfl
abbrev nTotal : List Str:=["pond","eater","food"]
theorem scTotal : FnScope nTotal ["pond","eater"] (defScope sTotal):=⟨rfl,rfl,rfl,by decide +kernel,rfl,by decide +kernel,by decide +kernel⟩
theorem ok_total {f : Addr} {fd : FuncData} (D : Def K mg "total_weight" sTotal ["pond","eater"] f fd) (T : Txt K mg CP CR) (CF : Callee P w K mg base "foods_of" 1 ["pond","eater"] (spFoods CP)) : FnOk P w K mg base CX0 2 f fd ["pond","eater"] (spTotal CP):=by
  obtain ⟨fF,fdF,mF,kF',bF,GF⟩:=CF
  refine D.fn.ok scTotal (fun vs H Q E h=>?_) (fun cdv A outer s H vs Q E hr h=>?_)
  · obtain ⟨p,W,st,e,rfl,_⟩:=h
    rfl
  · obtain ⟨p,W,st,e,rfl,hF,hP,k⟩:=h
    have hsl : sizeLine = 16777216:=sizeLine_eq
    have hu:=hu_of hr
    have hfl:=foodsU_len hF e
    refine ⟨_,pss_one (ps_ret (pe_callB (cr_sum rfl) (by rfl) T.sum boot_sum (pa_cons (pe_lc (own:=[("food",2)]) (te:=tDGet (tFld K (tVar 0) "weights") (tTup (tCons (tVar 2) (tCons (tVar 1) tNil)))) rfl scTotal.nd (pi_list (pe_call GF hr (by rfl) mF kF' bF .nil pass0 (pa_cons (pv 0) (pa_cons (pv 1) pa_nil))))
        (blk (N:=nTotal) (sc:=defScope sTotal) (by decide +kernel))
        (fun _ _ _ _ _=>pg_name (i:=2) scTotal.nd rfl (Or.inl rfl)) (fun _ _ _ _ _=>pts_nil) (fun _ _ _ _ _=>pe_dget hu (pe_fld (pv 0) (by rfl)) (pe_tup (pa_cons (pv 2) (pa_cons (pv 1) pa_nil))) (fun _ _=>rfl))) pa_nil))),?_⟩
    refine ⟨_,rfl,_,rfl,p,W,st,e,rfl,hF,hP,fun H1 q h1 hq hq1=>⟨q,rfl,⟨_,SqL.of hq1⟩,fun L hL=>?_⟩⟩
    refine lc_listP (K:=K) (a:=q) (xs:=ns (foodsU st e)) (σ:=[some (.ref p),some (nv e),none]) (Q:=fun x H1=>rSum K [x] H1 Q) (fun x=>match x with | .int i=>[V.int ((wtl (foods st e) i.toNat : Nat) : Int)] | _=>[]) hL (SqL.of hq1) (by rw [ns_len]; omega) (fun i x H2 C1 C0 hi h2 k1 k0=>?_) (fun H2 h2 hL2=>?_)
    · obtain ⟨f0,hf0,rfl⟩:=ns_get hi
      have hlk:=mem_foodsU (List.mem_of_getElem? hf0)
      have hP2:=(hP.same h1).same h2
      refine ⟨rfl,yesT (iteT ⟨_,rfl,rdW T hP2 ⟨_,rfl,_,rfl,(by show 2 ≤ sizeLine; decide),fun t ht=>?_⟩⟩)⟩
      have s3 : Same H2 (upd H2 t (.tup [nv f0,nv e])):=Same.upd ht
      obtain ⟨l,hl,hlW⟩:=(hP2.same s3).wts
      have eb : upd H2 t (.tup [nv f0,nv e]) t = some (.tup ((kF f0 e).map kV)):=upd_same
      have g:=DGet.t hlW eb
      rcases wts_val hF hl f0 e with ⟨z,hv⟩ | ⟨z,hv⟩
      · rw [hv] at g
        exact ⟨W,_,rfl,g,k1 _ _ s3 rfl⟩
      · exact absurd hlk z
    · refine ⟨L,(foodsU st e).map fun f=>((wtl (foods st e) f : Nat) : Int),rfl,SqL.of ?_,?_⟩
      · rw [hL2]
        congr 2
        unfold ns
        rw [List.flatMap_map,List.map_map]
        show _ = (foodsU st e).map fun f=>V.int ((wtl (foods st e) f : Nat) : Int)
        generalize foodsU st e = l
        induction l with
        | nil=>rfl
        | cons x l ih =>
          rw [List.flatMap_cons,List.map_cons,ih]
          rfl
      · rw [foodsU_sum hF]
        exact k H2 (h1.trans h2)
theorem scIsKind : FnScope ["pond","k"] ["pond","k"] (defScope sIsKind):=⟨rfl,rfl,rfl,by decide +kernel,rfl,by decide +kernel,by decide +kernel⟩
theorem ok_isKind {f : Addr} {fd : FuncData} (D : Def K mg "is_kind" sIsKind ["pond","k"] f fd) (T : Txt K mg CP CR) : FnOk P w K mg base CX0 1 f fd ["pond","k"] (spIsKind CP):=by
  refine D.fn.ok scIsKind (fun vs H Q E h=>?_) (fun cdv A outer s H vs Q E hr h=>?_)
  · obtain ⟨p,W,st,k,rfl,_⟩:=h
    rfl
  · obtain ⟨p,W,st,kk,rfl,hP,k⟩:=h
    refine ⟨_,pss_one (ps_ret (pe_chain op_le op_le pe_int (pv 1) (pe_fld (pv 0) rfl))),?_⟩
    refine ⟨_,rfl,_,_,rfl,rfl,_,rfl,iteD (fun h1=>?_) (fun h1=>?_)⟩
    · refine ⟨_,rfl,rdN T hP ⟨_,_,rfl,rfl,?_⟩⟩
      have : isKind st kk = decide (kk ≤ (st.n : Int)):=by
        unfold isKind Vbecai.within
        rw [decide_eq_true h1]
        rfl
      rw [this] at k
      exact k
    · have : isKind st kk = false:=by
        unfold isKind Vbecai.within
        rw [decide_eq_false h1]
        rfl
      rw [this] at k
      exact k
theorem scAllLive : FnScope ["pond"] ["pond"] (defScope sAllLive):=⟨rfl,rfl,rfl,by decide +kernel,rfl,by decide +kernel,by decide +kernel⟩
theorem ok_allLive {f : Addr} {fd : FuncData} (D : Def K mg "all_live" sAllLive ["pond"] f fd) (T : Txt K mg CP CR) (CL : Callee P w K mg base "living" 2 ["eaters","gone"] (spLiving K)) (CE : Callee P w K mg base "eaters_by_food" 1 ["pond"] (spEaters CP)) :
    FnOk P w K mg base CX0 3 f fd ["pond"] (spAllLive CP):=by
  obtain ⟨fL,fdL,mL,kL,bL,GL⟩:=CL
  obtain ⟨fE,fdE,mE,kE,bE,GE⟩:=CE
  refine D.fn.ok scAllLive (fun vs H Q E h=>?_) (fun cdv A outer s H vs Q E hr h=>?_)
  · obtain ⟨p,W,st,rfl,_⟩:=h
    rfl
  · obtain ⟨p,W,st,rfl,hF,hP,k⟩:=h
    refine ⟨_,pss_one (ps_ret (pe_cmpR op_eq (pe_callB call_len_seq (by rfl) T.len PySem.boot_len (pa_cons (pe_call GL hr (by rfl) mL kL bL .nil pass0 (pa_cons (pe_call GE (hr.mono (by decide)) (by rfl) mE kE bE .nil pass0 (pa_cons (pv 0) pa_nil)) (pa_cons (pe_lst pa_nil) pa_nil))) pa_nil)) (pe_fld (pv 0) rfl) (nomark _))),?_⟩
    refine ⟨_,rfl,p,W,st,rfl,hF,hP,fun H1 Ea h1 hEa hE=>⟨Nat.zero_le _,fun g hg=>?_⟩⟩
    have s2 : Same H (upd H1 g (.lst [])):=Same.upd' h1 (h1.free hg)
    refine ⟨Ea,g,st,[],rfl,hF,hE.same (Same.upd hg),SqL.of upd_same,fun H2 q h2 hq hq2=>?_⟩
    refine ⟨q,_,rfl,.inl (SqL.of hq2),_,rfl,rdN T (hP.same (s2.trans h2)) ⟨rfl,?_⟩⟩
    have:=k H2 (s2.trans h2)
    rw [allLive_is hF] at this
    rw [ns_len]
    have e : decide (V.int ((alive st []).length : Int) = V.int (st.n : Int)) = decide ((alive st []).length = st.n):=by
      rw [decide_eq_decide]
      exact ⟨fun z=>by have:=V.int.inj z; omega,fun z=>by rw [z]⟩
    rw [e]
    exact this
theorem scRefL : FnScope ["pond","k"] ["pond","k"] (defScope sRefL):=⟨rfl,rfl,rfl,by decide +kernel,rfl,by decide +kernel,by decide +kernel⟩
theorem ok_refL {f : Addr} {fd : FuncData} (D : Def K mg "refusal_unless_living" sRefL ["pond","k"] f fd) (T : Txt K mg CP CR) (CK : Callee P w K mg base "is_kind" 1 ["pond","k"] (spIsKind CP)) (CL : Callee P w K mg base "living" 2 ["eaters","gone"] (spLiving K)) (CE : Callee P w K mg base "eaters_by_food" 1 ["pond"] (spEaters CP)) :
    FnOk P w K mg base CX0 3 f fd ["pond","k"] (spRefL CP):=by
  obtain ⟨fK,fdK,mK,kK,bK,GK⟩:=CK
  obtain ⟨fL,fdL,mL,kL,bL,GL⟩:=CL
  obtain ⟨fE,fdE,mE,kE,bE,GE⟩:=CE
  obtain ⟨t0,h0⟩:=T.r0
  obtain ⟨t1,h1'⟩:=T.r1
  obtain ⟨t5,h5⟩:=T.r5
  refine D.fn.ok scRefL (fun vs H Q E h=>?_) (fun cdv A outer s H vs Q E hr h=>?_)
  · obtain ⟨p,W,st,kk,rfl,_⟩:=h
    rfl
  · obtain ⟨p,W,st,kk,rfl,hF,hP,k⟩:=h
    refine ⟨_,pss_cons (ps_if (pt_not (pt_val (pe_call GK (hr.mono (by decide)) (by rfl) mK kK bK .nil pass0 (pa_cons (pv 0) (pa_cons (pv 1) pa_nil))))) (pss_one (ps_ret (pe_glob (v:=.int (-1)) (by rfl) h1' ⟨_,rfl⟩))) pss_nil)
      (pss_cons (ps_if (pt_cmpR op_notIn_seq (pv 1) (pe_call GL hr (by rfl) mL kL bL .nil pass0 (pa_cons (pe_call GE (hr.mono (by decide)) (by rfl) mE kE bE .nil pass0 (pa_cons (pv 0) pa_nil)) (pa_cons (pe_lst pa_nil) pa_nil))) (by with_unfolding_all rfl)) (pss_one (ps_ret (pe_glob (v:=.int (-5)) (by rfl) h5 ⟨_,rfl⟩))) pss_nil)
      (pss_one (ps_ret (pe_glob (v:=.int 0) (by rfl) h0 ⟨_,rfl⟩)))),?_⟩
    refine ⟨_,rfl,_,rfl,p,W,st,kk,rfl,hP,_,rfl,?_⟩
    cases hk : isKind st kk with
    | false =>
      refine iteT ?_
      have:=k H Same.refl
      unfold refL at this
      rw [hk,if_pos rfl] at this
      exact this
    | true =>
      refine iteF ?_
      refine ⟨_,rfl,_,rfl,p,W,st,rfl,hF,hP,fun H1 Ea h1 hEa hE=>⟨Nat.zero_le _,fun g hg=>?_⟩⟩
      have s2 : Same H (upd H1 g (.lst [])):=Same.upd' h1 (h1.free hg)
      refine ⟨Ea,g,st,[],rfl,hF,hE.same (Same.upd hg),SqL.of upd_same,fun H2 q h2 hq hq2=>?_⟩
      have hkk:=isKind_iff.mp hk
      obtain ⟨kn,rfl⟩ : ∃ kn : Nat,kk = (kn : Int):=⟨kk.toNat,by omega⟩
      refine ⟨q,_,rfl,.inl (SqL.of hq2),rfl,ns_flat _,_,rfl,?_⟩
      have hin : inV (V.int (kn : Int)) (ns (alive st [])) = (alive st []).contains kn:=ns_in kn _
      rw [hin]
      have:=k H2 (s2.trans h2)
      unfold refL lives at this
      rw [hk,if_neg (by simp),Int.toNat_natCast] at this
      cases hc : (alive st []).contains kn with
      | true =>
        rw [hc,if_neg (by simp)] at this
        exact iteF this
      | false =>
        rw [hc,if_pos rfl] at this
        exact iteT this
theorem scRefF : FnScope ["pond","k","refusal"] ["pond","k"] (defScope sRefF):=⟨rfl,rfl,rfl,by decide +kernel,rfl,by decide +kernel,by decide +kernel⟩
theorem refL_zero {s : State} {k : Int} (h : refL s k = 0) : isKind s k = true ∧ lives s k.toNat = true:=by
  unfold refL at h
  split at h
  · omega
  · split at h
    · omega
    · rename_i a b
      exact ⟨by simpa using a,by simpa using b⟩
theorem ok_refF {f : Addr} {fd : FuncData} (D : Def K mg "refusal_unless_fed_by_kinds" sRefF ["pond","k"] f fd) (T : Txt K mg CP CR) (CL : Callee P w K mg base "refusal_unless_living" 3 ["pond","k"] (spRefL CP)) :
    FnOk P w K mg base CX0 4 f fd ["pond","k"] (spRefF CP):=by
  obtain ⟨fL,fdL,mL,kL,bL,GL⟩:=CL
  obtain ⟨t0,h0⟩:=T.r0
  obtain ⟨t6,h6⟩:=T.r6
  obtain ⟨tS,hsun⟩:=T.sun
  refine D.fn.ok scRefF (fun vs H Q E h=>?_) (fun cdv A outer s H vs Q E hr h=>?_)
  · obtain ⟨p,W,st,kk,rfl,_⟩:=h
    rfl
  · obtain ⟨p,W,st,kk,rfl,hF,hP,k⟩:=h
    have hu:=hu_of hr
    refine ⟨_,pss_cons (ps_set (i:=2) scRefF.nd rfl (Or.inl rfl) (pe_call GL hr (by rfl) mL kL bL .nil pass0 (pa_cons (pv 0) (pa_cons (pv 1) pa_nil))))
      (pss_cons (ps_if (PW.pt (pw_and (pt_cmpR op_eq (pv 2) (pe_glob (v:=.int 0) (by rfl) h0 ⟨_,rfl⟩) (nomark _)) (pw_and1 (pt_cmp (pc_din hu (pe_tup (pa_cons (pe_glob (v:=.int 0) (by rfl) hsun ⟨_,rfl⟩) (pa_cons (pv 1) pa_nil))) (pe_fld (pv 0) rfl)) (by with_unfolding_all rfl))))) (pss_one (ps_ret (pe_glob (v:=.int (-6)) (by rfl) h6 ⟨_,rfl⟩))) pss_nil)
      (pss_one (ps_ret (pv 2)))),?_⟩
    refine ⟨_,rfl,_,rfl,p,W,st,kk,rfl,hF,hP,fun H1 h1=>⟨_,rfl,rfl,_,rfl,iteD (fun hz=>?_) (fun hz=>?_)⟩⟩
    · have hz' : refL st kk = 0:=V.int.inj hz
      obtain ⟨hk,hlv⟩:=refL_zero hz'
      have hkk:=isKind_iff.mp hk
      obtain ⟨kn,rfl⟩ : ∃ kn : Nat,kk = (kn : Int):=⟨kk.toNat,by omega⟩
      refine ⟨_,rfl,(by show 2 ≤ sizeLine; decide),fun t ht=>?_⟩
      have s2 : Same H (upd H1 t (.tup [.int 0,.int (kn : Int)])):=Same.upd' h1 (h1.free ht)
      have hP2:=hP.same s2
      obtain ⟨l,hl,hlW⟩:=hP2.wts
      have eb : upd H1 t (.tup [.int 0,.int (kn : Int)]) t = some (.tup ((kF 0 kn).map kV)):=upd_same
      refine ⟨_,rfl,rdW T hP2 ⟨W,_,rfl,DGet.t hlW eb,_,rfl,?_⟩⟩
      have kq:=k _ s2
      unfold refF at kq
      rw [Int.toNat_natCast] at kq
      rcases wts_val hF hl 0 kn with ⟨q,hv⟩ | ⟨q,hv⟩
      · rw [hv]
        rw [if_pos ⟨hz',linked_iff.mpr q⟩] at kq
        exact iteT kq
      · rw [hv]
        rw [if_neg (fun z=>q (linked_iff.mp z.2))] at kq
        exact iteF ⟨_,rfl,kq⟩
    · have kq:=k _ h1
      unfold refF at kq
      rw [if_neg (fun z=>hz (by rw [z.1]))] at kq
      exact iteF ⟨_,rfl,kq⟩
end
end FwD
namespace L2
open PySem PySem.Spec PyProof.Rows
def rGetN (K : PySem.W.Frag) : V → V → Hp → VK → Prop:=fun x y H Q=>∃ (p : Addr) (xs : List V) (i : Nat) (v : V),x = .ref p ∧ y = .int (i : Int) ∧ SqL K H p xs ∧ xs[i]? = some v ∧ Q v H
theorem get_listN {X : Cx} : PGet X (rGetN X.K):=by
  intro pins s σ H o i ov iv Q I ro ri h
  obtain ⟨p,xs,j,v,rfl,rfl,hq,he,q⟩:=h
  cases ro
  obtain ⟨t,rfl⟩:=ri
  obtain ⟨its,r,pl,hz⟩:=I.list hq
  obtain ⟨w,ew,rw'⟩:=r.get he
  have hl:=r.length
  have hn:=line63
  have hj:=(List.getElem?_eq_some_iff.mp he).1
  exact wpAny_getItem_list pl.isList (by omega) (by omega) (by simpa using ew) ⟨v,H,I,rw',q⟩
end L2
namespace FwD
open PySem PySem.Spec PyProof.Rows L2 Fw
open Vbecai (State alive chosen least foods linked lives allLive isKind)
def OutP (C : Addr) (H : Hp) (p W : Addr) (a : State × List Int) (Q : VK) : Prop:=∀ (H' : Hp) (q W' : Addr),PondAt C H' p W' a.1 → (∀ b o,H b = some o → b ≠ p → b ≠ W → H' b = some o) → H q = none → H' q = some (.lst (a.2.map V.int)) → Q (.ref q) H'
theorem OutP.pure {C : Addr} {H : Hp} {p W : Addr} {s : State} {ans : List Int} {a : State × List Int} {Q : VK} (k : OutP C H p W a Q) (e : a = (s,ans)) (hP : PondAt C H p W s) {H' : Hp} {q : Addr} (h : Same H H') (hq : H q = none) (hq' : H' q = some (.lst (ans.map V.int))) : Q (.ref q) H':=by
  subst e
  exact k H' q W (hP.same h) (fun b o e _ _=>h b o e) hq hq'
def spC0 (c : Int) (C : Addr) : Sp:=fun vs H Q _=>∃ (p W : Addr) (s : State),vs = [.ref p] ∧ WF s ∧ PondAt C H p W s ∧ OutP C H p W (Vbecai.step s [[c]]) Q
def spC1 (c : Int) (C : Addr) : Sp:=fun vs H Q _=>∃ (p W : Addr) (s : State) (k : Int),vs = [.ref p,.int k] ∧ WF s ∧ PondAt C H p W s ∧ OutP C H p W (Vbecai.step s [[c,k]]) Q
abbrev sMore : Stmt:=top 34
abbrev sNoLink : Stmt:=top 35
abbrev sChains : Stmt:=top 55
abbrev sShortest : Stmt:=top 56
theorem perm_sum {l1 l2 : List Nat} (h : l1.Perm l2) : l1.sum = l2.sum:=by
  induction h with
  | nil=>rfl
  | cons x _ ih=>rw [List.sum_cons,List.sum_cons,ih]
  | swap x y l=>simp only [List.sum_cons]; omega
  | trans _ _ ih1 ih2=>rw [ih1,ih2]
def sumT (l : List Link) (g : Nat → Nat) (t e : Nat) : Nat:=(((l.take t).filter fun x=>x.2.1 == e).map fun x=>g x.1).sum
theorem sumT_snoc {l : List Link} {g : Nat → Nat} {t e : Nat} {x : Link} (h : l[t]? = some x) : sumT l g (t + 1) e = if x.2.1 = e then sumT l g t e + g x.1 else sumT l g t e:=by
  unfold sumT
  rw [take_snoc h,filter_snoc]
  by_cases q : x.2.1 = e
  · rw [if_pos (by simpa using q),if_pos q,List.map_append,List.sum_append]
    simp
  · rw [if_neg (by simpa using q),if_neg q]
theorem sumT_all {s : State} {l : List Link} (h : l.Perm s.links) (g : Nat → Nat) (e : Nat) : sumT l g l.length e = ((foods s e).map fun f=>g f.1).sum:=by
  unfold sumT foods
  rw [List.take_length,List.map_map]
  exact perm_sum ((h.filter _).map _)
def overK (n : Nat) (g : Nat → Nat) : List Nat:=(List.range (n + 1)).map g
theorem overK_len (n : Nat) (g : Nat → Nat) : (overK n g).length = n + 1:=by simp [overK]
theorem overK_get {n : Nat} {g : Nat → Nat} {i : Nat} (h : i ≤ n) : (overK n g)[i]? = some (g i):=by
  unfold overK
  rw [List.getElem?_map,List.getElem?_range (by omega)]
  rfl
theorem overK_set {n : Nat} {g : Nat → Nat} {i v : Nat} : (overK n g).set i v = overK n fun j=>if j = i then v else g j:=by
  refine List.ext_getElem? fun j=>?_
  rw [List.getElem?_set]
  by_cases q : i = j
  · subst q
    rw [if_pos rfl]
    by_cases hj : i ≤ n
    · rw [if_pos (by rw [overK_len]; omega),overK_get hj,if_pos rfl]
    · rw [if_neg (by rw [overK_len]; omega),List.getElem?_eq_none (by rw [overK_len]; omega)]
  · rw [if_neg q]
    by_cases hj : j ≤ n
    · rw [overK_get hj,overK_get hj,if_neg (fun z=>q z.symm)]
    · rw [List.getElem?_eq_none (by rw [overK_len]; omega),List.getElem?_eq_none (by rw [overK_len]; omega)]
theorem overK_congr {n : Nat} {g h : Nat → Nat} (q : ∀ i,i ≤ n → g i = h i) : overK n g = overK n h:=List.map_congr_left fun i hi=>q i (by have:=List.mem_range.mp hi; omega)
def spMore (C : Addr) : Sp:=fun vs H Q _=>∃ (p W c : Addr) (s : State) (m : Nat),vs = [.ref p,.ref c] ∧ WF s ∧ PondAt C H p W s ∧ H c = some (.lst (ns (overK s.n (cnt s m)))) ∧ ∀ (H' : Hp) (q : Addr),Same H H' → H q = none → H' q = some (.lst (ns (overK s.n (cnt s (m + 1))))) → Q (.ref q) H'
def spNoLink (C : Addr) : Sp:=fun vs H Q _=>∃ (p W : Addr) (s : State),vs = [.ref p] ∧ WF s ∧ PondAt C H p W s ∧ ∀ (H' : Hp) (q : Addr),Same H H' → H q = none → H' q = some (.lst (ns (overK s.n (cnt s 0)))) → Q (.ref q) H'
theorem rep_zero (n : Nat) (v : V) : (List.replicate n [v]).flatten = List.replicate n v:=by
  induction n with
  | zero=>rfl
  | succ n ih=>rw [List.replicate_succ,List.flatten_cons,ih,List.replicate_succ]; rfl
theorem ns_rep (n k : Nat) : List.replicate n (nv k) = ns (List.replicate n k):=by unfold ns; rw [List.map_replicate]
theorem rep_overK (n : Nat) : List.replicate (n + 1) 0 = overK n fun _=>0:=by
  unfold overK
  rw [List.map_const',List.length_range]
theorem ns_set (l : List Nat) (i v : Nat) : (ns l).set i (nv v) = ns (l.set i v):=by unfold ns; rw [List.map_set]
section
variable {P : Program} {w : World} {K : PySem.W.Frag} {mg : Str → Option Value} {base : Heap} {CP CR : Addr}
theorem rdWi (T : Txt K mg CP CR) {p W dx : Addr} {n : Nat} {H : Hp} {Q : V → Prop} (h1 : H p = some (.ins CP dx (pf n W))) (q : Q (.ref W)) : ∃ a C dx fs v,V.ref p = .ref a ∧ H a = some (.ins C dx fs) ∧ Cls K C ∧ NoAttr K C "weights" ∧ fs.lookup ("weights" : Str) = some v ∧ Q v :=
  ⟨p,CP,dx,_,_,rfl,h1,T.clP,T.nPw,pf_w _ _,q⟩
abbrev nMore : List Str:=["pond","counts","longer","link"]
theorem scMore : FnScope nMore ["pond","counts"] (defScope sMore):=⟨rfl,rfl,rfl,by decide +kernel,rfl,by decide +kernel,by decide +kernel⟩
theorem ok_more {f : Addr} {fd : FuncData} (D : Def K mg "one_link_more" sMore ["pond","counts"] f fd) (T : Txt K mg CP CR) : FnOk P w K mg base CX0 1 f fd ["pond","counts"] (spMore CP):=by
  refine D.fn.ok scMore (fun vs H Q E h=>?_) (fun cdv A outer s H vs Q E hr h=>?_)
  · obtain ⟨p,W,c,st,m,rfl,_⟩:=h
    rfl
  · obtain ⟨p,W,c,st,m,rfl,hF,hP,hc,k⟩:=h
    have hn10:=hF.n10
    have hsl : sizeLine = 16777216:=sizeLine_eq
    refine ⟨_,pss_cons (ps_set (i:=2) scMore.nd rfl (Or.inl rfl) (pe_op op_rep (pe_lst (pa_cons pe_int pa_nil)) (pe_callB call_len_seq (by rfl) T.len PySem.boot_len (pa_cons (pv 1) pa_nil))))
      (pss_cons (ps_lock (ps_for PassesOwn.never rfl (pi_keys (pe_fld (pv 0) rfl)) (pg_name (i:=3) scMore.nd rfl (Or.inl rfl))
        (pss_one (ps_augS (pv 2) (pe_ix ix_tup (pv 3) pe_int (fun _ _=>rfl)) get_listN (pe_ix ix_list (pv 1) (pe_ix ix_tup (pv 3) pe_int (fun _ _=>rfl)) (fun _ _=>rfl)) ip_add set_list))))
      (pss_one (ps_ret (pv 2)))),?_⟩
    refine ⟨(by show 1 ≤ sizeLine; decide),fun l0 hl0=>?_⟩
    have s1 : Same H (upd H l0 (.lst [.int 0])):=Same.upd hl0
    refine ⟨_,rfl,c,_,rfl,.inl (SqL.of (s1 _ _ hc)),l0,_,[.int 0],rfl,rfl,upd_same,?_,?_,?_,fun L hL=>?_⟩
    · rw [ns_len,overK_len]; omega
    · rw [ns_len,overK_len]; omega
    · rw [ns_len,overK_len]; show 1 * _ ≤ _; omega
    have hL0 : H L = none:=s1.free hL
    have e0 : (List.replicate (((ns (overK st.n (cnt st m))).length : Int).toNat) [V.int 0]).flatten = ns (overK st.n fun _=>0):=by
      rw [Int.toNat_natCast,ns_len,overK_len,rep_zero]
      show List.replicate _ (nv 0) = _
      rw [ns_rep,rep_overK]
    rw [e0]
    have s2 : Same H (upd (upd H l0 (.lst [.int 0])) L (.lst (ns (overK st.n fun _=>0)))):=Same.upd' s1 hL0
    have hL2 : upd (upd H l0 (.lst [.int 0])) L (.lst (ns (overK st.n fun _=>0))) L = some (.lst (ns (overK st.n fun _=>0))):=upd_same
    generalize upd (upd H l0 (.lst [.int 0])) L (.lst (ns (overK st.n fun _=>0))) = H2 at s2 hL2 ⊢
    have hP2:=hP.same s2
    obtain ⟨⟨dx,hins⟩,l,hl,hW⟩:=hP2
    have npW : p ≠ W:=ne_of hins hW (by intro z; cases z)
    have nLW : L ≠ W:=ne_of hL2 hW (by intro z; cases z)
    refine ⟨W,.dT (kvL l),hW,True.intro,fun od=>?_⟩
    refine ⟨_,rfl,rdWi T (H:=upd H2 W (.frz od (.dT (kvL l)))) (dx:=dx) (n:=st.n) (by rw [upd_ne npW]; exact hins) ⟨W,od,rfl,.inr ⟨kvL l,upd_same,?_⟩⟩⟩
    have hcW : upd H2 W (.frz od (.dT (kvL l))) c = some (.lst (ns (overK st.n (cnt st m)))):=by rw [upd_ne (ne_of (s2 _ _ hc) hW (by intro q; cases q))]; exact s2 _ _ hc
    refine for_keysT (d:=W) (o:=od) (kvs:=kvL l) (fun t σ H'=>∃ v3 : Option V,σ = [some (.ref p),some (.ref c),some (.ref L),v3] ∧ H' W = some (.frz od (.dT (kvL l))) ∧ H' L = some (.lst (ns (overK st.n (sumT l (cnt st m) t)))) ∧ (∀ b o,H2 b = some o → b ≠ L → b ≠ W → H' b = some o) ∧ H' c = some (.lst (ns (overK st.n (cnt st m)))))
      ⟨none,rfl,upd_same,by rw [upd_ne nLW]; exact hL2,fun b o e _ hb=>by rw [upd_ne hb]; exact e,hcW⟩ (fun t σ H' _ ⟨_,_,q,_⟩=>q) ?_ ?_
    · rintro t kk v q σ H' ht hq ⟨v3,rfl,hW',hL',hk',hc'⟩
      unfold kvL at ht
      rw [List.getElem?_map] at ht
      obtain ⟨x,hx,hxe⟩ : ∃ x,l[t]? = some x ∧ (kF x.1 x.2.1,V.int (x.2.2 : Int)) = (kk,v):=by
        cases hx : l[t]? with
        | none=>rw [hx] at ht; cases ht
        | some x=>rw [hx] at ht; exact ⟨x,rfl,Option.some.inj ht⟩
      obtain ⟨rfl,rfl⟩:=Prod.mk.inj hxe
      have hrng:=hF.rng x (hl.mem_iff.mp (List.mem_of_getElem? hx))
      have hq' : H' q = some (.tup [.int (x.1 : Int),.int (x.2.1 : Int)]):=hq
      refine ⟨_,rfl,_,rfl,q,_,_,.int (x.2.1 : Int),rfl,rfl,SqT.of hq',rfl,L,_,x.2.1,_,rfl,rfl,SqL.of hL',ns_at (overK_get (by omega)),_,rfl,_,rfl,q,_,_,.int (x.1 : Int),rfl,rfl,SqT.of hq',rfl,c,_,_,_,rfl,rfl,SqL.of hc',atI_nat (ns_at (overK_get (by omega))),_,_,rfl,rfl,L,_,_,x.2.1,rfl,rfl,hL',?_,?_⟩
      · unfold ixN
        rw [ns_len,overK_len,if_pos (by omega),if_pos (by omega)]
        rfl
      · have nLq : L ≠ q:=ne_of hL' hq' (by intro z; cases z)
        refine ⟨_,rfl,by rw [upd_ne nLW.symm]; exact hW',?_,fun b o e hb hbW=>by rw [upd_ne hb]; exact hk' b o e hb hbW,?_⟩
        · rw [upd_same]
          congr 2
          have e1 : V.int (((sumT l (cnt st m) t x.2.1 : Nat) : Int) + ((cnt st m x.1 : Nat) : Int)) = nv (sumT l (cnt st m) t x.2.1 + cnt st m x.1):=by
            show V.int _ = V.int _
            congr 1
          rw [e1,ns_set,overK_set]
          congr 1
          refine overK_congr fun i hi=>?_
          rw [sumT_snoc hx]
          by_cases z : x.2.1 = i
          · rw [if_pos z,if_pos z.symm,z]
          · rw [if_neg z,if_neg (fun w=>z w.symm)]
        · rw [upd_ne (ne_of_none hc hL0)]
          exact hc'
    · rintro σ H' ⟨v3,rfl,hW',hL',hk',hc'⟩
      refine ⟨hW',_,rfl,k _ L ?_ hL0 ?_⟩
      · intro b o e
        by_cases hbW : b = W
        · subst hbW
          rw [upd_same]
          have:=s2 _ _ e
          rw [hW] at this
          exact this
        · rw [upd_ne hbW]
          exact hk' b o (s2 _ _ e) (ne_of_none e hL0) hbW
      · rw [upd_ne nLW,hL']
        congr 2
        rw [show (kvL l).length = l.length by unfold kvL; rw [List.length_map]]
        congr 1
        exact overK_congr fun i _=>sumT_all hl _ i
end
end FwD
namespace FwD
open PySem PySem.Spec PyProof.Rows L2 Fw
open Vbecai (State alive chosen least foods linked lives allLive isKind within)
section
variable {P : Program} {w : World} {K : PySem.W.Frag} {mg : Str → Option Value} {base : Heap} {CP CR : Addr}
theorem scNoLink : FnScope ["pond"] ["pond"] (defScope sNoLink):=⟨rfl,rfl,rfl,by decide +kernel,rfl,by decide +kernel,by decide +kernel⟩
theorem overK_zero (s : State) : nv 1 :: ns (List.replicate s.n 0) = ns (overK s.n (cnt s 0)):=by
  show ns (1 :: List.replicate s.n 0) = _
  congr 1
  unfold overK
  rw [List.range_succ_eq_map,List.map_cons,List.map_map]
  congr 1
  refine (List.eq_replicate_iff.mpr ⟨by simp,fun b hb=>?_⟩).symm
  obtain ⟨i,_,rfl⟩:=List.mem_map.mp hb
  show (if i + 1 = 0 then 1 else 0) = 0
  rw [if_neg (by omega)]
theorem ok_noLink {f : Addr} {fd : FuncData} (D : Def K mg "chains_of_no_link" sNoLink ["pond"] f fd) (T : Txt K mg CP CR) : FnOk P w K mg base CX0 1 f fd ["pond"] (spNoLink CP):=by
  refine D.fn.ok scNoLink (fun vs H Q E h=>?_) (fun cdv A outer s H vs Q E hr h=>?_)
  · obtain ⟨p,W,st,rfl,_⟩:=h
    rfl
  · obtain ⟨p,W,st,rfl,hF,hP,k⟩:=h
    have hn10:=hF.n10
    have hsl : sizeLine = 16777216:=sizeLine_eq
    refine ⟨_,pss_one (ps_ret (pe_op op_cat (pe_lst (pa_cons pe_int pa_nil)) (pe_op op_rep (pe_lst (pa_cons pe_int pa_nil)) (pe_fld (pv 0) rfl)))),?_⟩
    refine ⟨(by show 1 ≤ sizeLine; decide),fun a ha=>⟨(by show 1 ≤ sizeLine; decide),fun b hb=>?_⟩⟩
    have s1 : Same H (upd H a (.lst [.int 1])):=Same.upd ha
    have s2 : Same H (upd (upd H a (.lst [.int 1])) b (.lst [.int 0])):=Same.upd' s1 (s1.free hb)
    have hab : a ≠ b:=ne_of_none upd_same hb
    refine ⟨_,rfl,rdN T (hP.same s2) ⟨b,_,[.int 0],rfl,rfl,upd_same,by omega,by omega,(by show 1 * _ ≤ _; omega),fun c hc=>?_⟩⟩
    have s3:=Same.upd' (o:=.lst (List.replicate (st.n : Int).toNat [V.int 0]).flatten) s2 (s2.free hc)
    have hca : a ≠ c:=fun z=>by rw [← z,upd_ne hab,upd_same] at hc; cases hc
    refine ⟨a,c,[.int 1],_,rfl,rfl,by rw [upd_ne hca,upd_ne hab,upd_same],upd_same,?_,fun q hq=>?_⟩
    · rw [Int.toNat_natCast,rep_zero,List.length_replicate]
      show 1 + st.n ≤ _
      omega
    · refine k _ q (Same.upd' s3 (s3.free hq)) (s3.free hq) ?_
      rw [upd_same,Int.toNat_natCast,rep_zero]
      show some (HO.lst (nv 1 :: List.replicate st.n (nv 0))) = _
      rw [ns_rep,overK_zero]
abbrev nChains : List Str:=["pond","m","counts","link"]
theorem scChains : FnScope nChains ["pond","m"] (defScope sChains):=⟨rfl,rfl,rfl,by decide +kernel,rfl,by decide +kernel,by decide +kernel⟩
theorem within_iff {n lo hi : Int} : within n lo hi = true ↔ lo ≤ n ∧ n ≤ hi:=by
  unfold within
  rw [Bool.and_eq_true,decide_eq_true_iff,decide_eq_true_iff]
theorem within_ff {n lo hi : Int} (h : ¬ (lo ≤ n ∧ n ≤ hi)) : within n lo hi = false:=by
  cases q : within n lo hi with
  | false=>rfl
  | true=>exact absurd (within_iff.mp q) h
theorem overK_tail (s : State) (g : Nat → Nat) : (ns (overK s.n g)).drop 1 = ns (s.kinds.map g):=by
  unfold overK ns State.kinds
  rw [List.range_succ_eq_map]
  simp only [List.map_cons,List.map_map,List.drop_succ_cons,List.drop_zero]
  try rfl
theorem cut1 (xs : List V) : cutV xs (some 1) none = xs.drop 1:=by
  unfold cutV
  show (xs.drop (HT.sIx xs.length 0 (some ((1 : Nat) : Int)))).take (xs.length - HT.sIx xs.length 0 (some ((1 : Nat) : Int))) = _
  rw [HT.sIx_nat]
  cases xs with
  | nil=>rfl
  | cons x xs =>
    rw [List.length_cons,show min 1 (xs.length + 1) = 1 by omega]
    simp
theorem kinds_counted (s : State) (g : Nat → Nat) : V.int (s.n : Int) :: ns (s.kinds.map g) = (Vbecai.counted (s.kinds.map g)).map V.int:=by
  unfold Vbecai.counted
  rw [List.map_cons,List.length_map,length_kinds,ns_ints]
theorem ok_chains {f : Addr} {fd : FuncData} (D : Def K mg "chains" sChains ["pond","m"] f fd) (T : Txt K mg CP CR) (CN : Callee P w K mg base "chains_of_no_link" 1 ["pond"] (spNoLink CP)) (CM : Callee P w K mg base "one_link_more" 1 ["pond","counts"] (spMore CP)) :
    FnOk P w K mg base CX0 2 f fd ["pond","m"] (spC1 11 CP):=by
  obtain ⟨fN,fdN,mN,kN,bN,GN⟩:=CN
  obtain ⟨fM,fdM,mM,kM,bM,GM⟩:=CM
  obtain ⟨t1,h1'⟩:=T.r1
  obtain ⟨t6,h6'⟩:=T.lChain
  refine D.fn.ok scChains (fun vs H Q E h=>?_) (fun cdv A outer s H vs Q E hr h=>?_)
  · obtain ⟨p,W,st,kk,rfl,_⟩:=h
    rfl
  · obtain ⟨p,W,st,kk,rfl,hF,hP,k⟩:=h
    have hn10:=hF.n10
    have hsl : sizeLine = 16777216:=sizeLine_eq
    rw [step_chains] at k
    refine ⟨_,pss_cons (ps_if (pt_not (pt_chain op_le op_le pe_int (pv 1) (pe_glob (v:=.int 60) (by rfl) h6' ⟨_,rfl⟩))) (pss_one (ps_ret (pe_lst (pa_cons (pe_glob (v:=.int (-1)) (by rfl) h1' ⟨_,rfl⟩) pa_nil)))) pss_nil)
      (pss_cons (ps_set (i:=2) scChains.nd rfl (Or.inl rfl) (pe_call GN hr (by rfl) mN kN bN .nil pass0 (pa_cons (pv 0) pa_nil)))
      (pss_cons (ps_for PassesOwn.never rfl (pi_range1 (by rfl) T.range (pa_cons (pv 1) pa_nil)) (pg_name (i:=3) scChains.nd rfl (Or.inl rfl))
        (pss_one (ps_set (i:=2) scChains.nd rfl (Or.inl rfl) (pe_call GM hr (by rfl) mM kM bM .nil pass0 (pa_cons (pv 0) (pa_cons (pv 2) pa_nil))))))
      (pss_one (ps_ret (pe_op op_cat (pe_lst (pa_cons (pe_fld (pv 0) rfl) pa_nil)) (pe_slice sl_list (pv 2) (po_some pe_int) po_none)))))),?_⟩
    have bad : ¬ (1 ≤ kk ∧ kk ≤ 60) → ∀ q,H q = none → Q (.ref q) (upd H q (.lst [.int (-1)])):=fun hb q hq=>by
      rw [within_ff hb,if_pos rfl] at k
      exact k.pure rfl hP (Same.upd hq) hq upd_same
    refine ⟨_,rfl,_,_,rfl,rfl,_,rfl,iteD (fun h1=>?_) (fun h1=>?_)⟩
    rotate_left
    · exact ⟨_,rfl,iteT ⟨(by show 1 ≤ sizeLine; decide),fun q hq=>bad (fun z=>h1 z.1) q hq⟩⟩
    refine ⟨_,_,rfl,rfl,_,rfl,?_⟩
    by_cases h2 : kk ≤ 60
    rotate_left
    · rw [decide_eq_false h2]
      exact iteT ⟨(by show 1 ≤ sizeLine; decide),fun q hq=>bad (fun z=>h2 z.2) q hq⟩
    rw [decide_eq_true h2]
    refine iteF ⟨_,rfl,p,W,st,rfl,hF,hP,fun H1 c h3 hc hc1=>?_⟩
    obtain ⟨m,rfl⟩ : ∃ m : Nat,kk = (m : Int):=⟨kk.toNat,by omega⟩
    rw [within_iff.mpr ⟨h1,h2⟩,if_neg (by simp)] at k
    refine ⟨_,rfl,_,rfl,by omega,by omega,?_⟩
    rw [Int.toNat_natCast]
    refine for_range (lo:=0) (n:=m) (fun i σ H'=>∃ (c : Addr) (v3 : Option V),σ = [some (.ref p),some (.int (m : Int)),some (.ref c),v3] ∧ Same H H' ∧ H' c = some (.lst (ns (overK st.n (cnt st i)))))
      ⟨c,none,rfl,h3,hc1⟩ ?_ ?_
    · rintro i σ H' hi ⟨c',v3,rfl,hs,hc'⟩
      exact ⟨_,rfl,_,rfl,p,W,c',st,i,rfl,hF,hP.same hs,hc',fun H2 q h2 hq hq2=>⟨q,_,rfl,hs.trans h2,hq2⟩⟩
    · rintro σ H' ⟨c',v3,rfl,hs,hc'⟩
      refine ⟨_,rfl,rdN T (hP.same hs) ⟨(by show 1 ≤ sizeLine; decide),fun a ha=>?_⟩⟩
      have s4:=Same.upd' (o:=.lst [.int (st.n : Int)]) hs (hs.free ha)
      refine ⟨_,rfl,1,rfl,c',_,rfl,SqL.of (by rw [upd_ne (ne_of_none hc' ha)]; exact hc'),fun b hb=>?_⟩
      have s5:=Same.upd' (o:=.lst (cutV (ns (overK st.n (cnt st m))) (some 1) none)) s4 (s4.free hb)
      have hab : a ≠ b:=ne_of_none upd_same hb
      refine ⟨a,b,_,_,rfl,rfl,by rw [upd_ne hab,upd_same],upd_same,?_,fun q hq=>?_⟩
      · rw [cut1,overK_tail,ns_len,List.length_map,length_kinds]
        show 1 + st.n ≤ _
        omega
      · refine k.pure rfl hP (Same.upd' s5 (s5.free hq)) (s5.free hq) ?_
        rw [upd_same,cut1,overK_tail]
        show some (HO.lst (V.int (st.n : Int) :: ns (st.kinds.map (cnt st m)))) = _
        rw [kinds_counted]
        obtain ⟨j,rfl⟩ : ∃ j,m = j + 1:=⟨m - 1,by omega⟩
        rw [Int.toNat_natCast,chains_is hF]
abbrev nShort : List Str:=["pond","k","counts","length"]
theorem scShort : FnScope nShort ["pond","k"] (defScope sShortest):=⟨rfl,rfl,rfl,by decide +kernel,rfl,by decide +kernel,by decide +kernel⟩
theorem ok_shortest {f : Addr} {fd : FuncData} (D : Def K mg "shortest" sShortest ["pond","k"] f fd) (T : Txt K mg CP CR) (CK : Callee P w K mg base "is_kind" 1 ["pond","k"] (spIsKind CP)) (CN : Callee P w K mg base "chains_of_no_link" 1 ["pond"] (spNoLink CP)) (CM : Callee P w K mg base "one_link_more" 1 ["pond","counts"] (spMore CP)) :
    FnOk P w K mg base CX0 2 f fd ["pond","k"] (spC1 12 CP):=by
  obtain ⟨fK,fdK,mK,kK,bK,GK⟩:=CK
  obtain ⟨fN,fdN,mN,kN,bN,GN⟩:=CN
  obtain ⟨fM,fdM,mM,kM,bM,GM⟩:=CM
  obtain ⟨t1,h1'⟩:=T.r1
  refine D.fn.ok scShort (fun vs H Q E h=>?_) (fun cdv A outer s H vs Q E hr h=>?_)
  · obtain ⟨p,W,st,kk,rfl,_⟩:=h
    rfl
  · obtain ⟨p,W,st,kk,rfl,hF,hP,k⟩:=h
    have hn10:=hF.n10
    rw [step_shortest] at k
    refine ⟨_,pss_cons (ps_if (pt_not (pt_val (pe_call GK hr (by rfl) mK kK bK .nil pass0 (pa_cons (pv 0) (pa_cons (pv 1) pa_nil))))) (pss_one (ps_ret (pe_lst (pa_cons (pe_glob (v:=.int (-1)) (by rfl) h1' ⟨_,rfl⟩) pa_nil)))) pss_nil)
      (pss_cons (ps_set (i:=2) scShort.nd rfl (Or.inl rfl) (pe_call GN hr (by rfl) mN kN bN .nil pass0 (pa_cons (pv 0) pa_nil)))
      (pss_cons (ps_for PassesOwn.never rfl (pi_range2 (by rfl) T.range (pa_cons pe_int (pa_cons (pe_op op_add (pe_fld (pv 0) rfl) pe_int) pa_nil))) (pg_name (i:=3) scShort.nd rfl (Or.inl rfl))
        (pss_cons (ps_set (i:=2) scShort.nd rfl (Or.inl rfl) (pe_call GM hr (by rfl) mM kM bM .nil pass0 (pa_cons (pv 0) (pa_cons (pv 2) pa_nil))))
        (pss_one (ps_if (pt_cmpR op_gt (pe_ix ix_list (pv 2) (pv 1) (fun _ _=>rfl)) pe_int (nomark _)) (pss_one (ps_ret (pe_lst (pa_cons (pv 3) pa_nil)))) pss_nil))))
      (pss_one (ps_ret (pe_lst (pa_cons pe_int pa_nil)))))),?_⟩
    refine ⟨_,rfl,_,rfl,p,W,st,kk,rfl,hP,_,rfl,?_⟩
    cases hk : isKind st kk with
    | false =>
      rw [hk,if_pos rfl] at k
      exact iteT ⟨(by show 1 ≤ sizeLine; decide),fun q hq=>k.pure rfl hP (Same.upd hq) hq upd_same⟩
    | true =>
      rw [hk,if_neg (by simp)] at k
      have hkk:=isKind_iff.mp hk
      obtain ⟨kn,rfl⟩ : ∃ kn : Nat,kk = (kn : Int):=⟨kk.toNat,by omega⟩
      refine iteF ⟨_,rfl,p,W,st,rfl,hF,hP,fun H1 c h3 hc hc1=>?_⟩
      refine ⟨_,rfl,rdN T (hP.same h3) ⟨_,_,rfl,rfl,1,(st.n : Int) + 1,rfl,⟨by decide,by decide,by omega,by omega⟩,?_⟩⟩
      rw [show ((st.n : Int) + 1 - 1).toNat = st.n by omega]
      refine for_range (lo:=1) (n:=st.n) (fun i σ H'=>∃ (c : Addr) (v3 : Option V),σ = [some (.ref p),some (.int (kn : Int)),some (.ref c),v3] ∧ Same H H' ∧ H' c = some (.lst (ns (overK st.n (cnt st i)))) ∧ ∀ j,1 ≤ j → j ≤ i → cnt st j kn = 0)
        ⟨c,none,rfl,h3,hc1,fun j a b=>by omega⟩ ?_ ?_
      · rintro i σ H' hi ⟨c',v3,rfl,hs,hc',hno⟩
        refine ⟨_,rfl,_,rfl,p,W,c',st,i,rfl,hF,hP.same hs,hc',fun H2 q h2 hq hq2=>?_⟩
        refine ⟨_,rfl,_,rfl,q,_,_,_,rfl,rfl,SqL.of hq2,atI_nat (ns_at (overK_get (by omega))),_,_,rfl,rfl,_,rfl,?_⟩
        by_cases z : 0 < cnt st (i + 1) kn
        · rw [decide_eq_true (show (0 : Int) < ((cnt st (i + 1) kn : Nat) : Int) by omega)]
          refine iteT ⟨_,rfl,(by show 1 ≤ sizeLine; decide),fun r hr'=>?_⟩
          have s3:=Same.upd' (o:=.lst [.int (1 + (i : Int))]) (hs.trans h2) ((hs.trans h2).free hr')
          refine k.pure rfl hP s3 ((hs.trans h2).free hr') ?_
          rw [upd_same,Int.toNat_natCast,shortest_at hF (m:=i + 1) (by omega) (by omega) z fun j a b=>hno j a (by omega)]
          show some (HO.lst [V.int (1 + (i : Int))]) = some (HO.lst [V.int ((i + 1 : Nat) : Int)])
          rw [show (1 : Int) + (i : Int) = ((i + 1 : Nat) : Int) by omega]
        · rw [decide_eq_false (show ¬ (0 : Int) < ((cnt st (i + 1) kn : Nat) : Int) by omega)]
          refine iteF ⟨q,_,rfl,hs.trans h2,hq2,fun j a b=>?_⟩
          by_cases e : j = i + 1
          · subst e; omega
          · exact hno j a (by omega)
      · rintro σ H' ⟨c',v3,rfl,hs,hc',hno⟩
        refine ⟨(by show 1 ≤ sizeLine; decide),fun r hr'=>?_⟩
        refine k.pure rfl hP (Same.upd' hs (hs.free hr')) (hs.free hr') ?_
        rw [upd_same,Int.toNat_natCast,shortest_none hF hno]
        rfl
end
end FwD
namespace FwD
open PySem PySem.Spec PyProof.Rows L2 Fw
open Vbecai (State alive chosen least foods linked lives allLive isKind within)
abbrev sListable : Stmt:=top 36
abbrev sOrder : Stmt:=top 58
abbrev sTogether : Stmt:=top 57
def stAt (s : Stmt) (j : Nat) : Stmt:=(defBody s).getD j (.Pass ⟨0,0,0,0⟩)
def lcScope (s : Stmt) : Scope:=match s with
  | .Return (some (.ListComp _ _ sc _)) _=>sc
  | _=>{ kind:=.function,names:=[],isGenerator:=false,isCoroutine:=false }
theorem lookup_relabel_free {env : Env} : ∀ {names : List (Str × NameKind)} {x : Str},(names.lookup x = some .cell ∨ names.lookup x = some .free) →
    (names.map fun (n,k)=>if (k == NameKind.free && env.scope.kind == .function && env.kindOf n == some .cell) then (n,NameKind.cell) else (n,k)).lookup x = some .cell ∨
    (names.map fun (n,k)=>if (k == NameKind.free && env.scope.kind == .function && env.kindOf n == some .cell) then (n,NameKind.cell) else (n,k)).lookup x = some .free
  | [],_,h=>by simp at h
  | (n,k) :: r,x,h=>by
    have ih:=@lookup_relabel_free env r x
    show List.lookup x ((if (k == NameKind.free && env.scope.kind == .function && env.kindOf n == some .cell) = true then (n,NameKind.cell) else (n,k)) :: _) = _ ∨ List.lookup x ((if (k == NameKind.free && env.scope.kind == .function && env.kindOf n == some .cell) = true then (n,NameKind.cell) else (n,k)) :: _) = _
    cases hx : x == n with
    | true =>
      simp only [List.lookup_cons,hx] at h
      by_cases hc : (k == NameKind.free && env.scope.kind == .function && env.kindOf n == some .cell) = true
      · rw [if_pos hc]
        simp [List.lookup_cons,hx]
      · rw [if_neg hc]
        simp only [List.lookup_cons,hx]
        exact h
    | false =>
      simp only [List.lookup_cons,hx] at h
      by_cases hc : (k == NameKind.free && env.scope.kind == .function && env.kindOf n == some .cell) = true
      · rw [if_pos hc]; simp only [List.lookup_cons,hx]; exact ih h
      · rw [if_neg hc]; simp only [List.lookup_cons,hx]; exact ih h
theorem blk2 {N : List Str} {sc scope : Scope} {own : List (Str × Nat)} {env : Env} (h : scope.kind = .function ∧ (∀ y ∈ scope.names,scope.names.lookup y.1 = some y.2) ∧ (∀ p ∈ own,N[p.2]? = some p.1) ∧
    (∀ y ∈ scope.names,y.2 = .free → sc.names.lookup y.1 = some .cell ∨ sc.names.lookup y.1 = some .free) ∧ (∀ y ∈ scope.names,y.2 = .local ∨ y.2 = .cell → y.1 ∈ own.map (·.1) ∨ y.1 ∉ N)) : BlkOk N (relabel sc env) scope own:=⟨h.1,h.2.1,h.2.2.1,fun y hy hf=>lookup_relabel_free (h.2.2.2.1 y hy hf),h.2.2.2.2⟩
theorem contains_sun {l : List Nat} {k : Nat} (h : k ≠ 0) : (0 :: l).contains k = l.contains k:=by
  rw [List.contains_cons]
  simp [h]
theorem canList_all {s : State} (F : WF s) (l : List Nat) (e : Nat) : ((foods s e).all fun f=>f.1 == 0 || l.contains f.1) = (foodsU s e).all fun f=>(0 :: l).contains f:=by
  rw [foodsU_is F,List.all_map]
  simp only [Function.comp_def,List.contains_cons]
def spListable (C : Addr) : Sp:=fun vs H Q _=>∃ (p W a : Addr) (s : State) (l : List Nat),vs = [.ref p,.ref a] ∧ WF s ∧ PondAt C H p W s ∧ H a = some (.lst (ns (0 :: l))) ∧ ∀ (H' : Hp) (q : Addr),Same H H' → H q = none → H' q = some (.lst (ns (s.kinds.filter (canList s l)))) → Q (.ref q) H'
theorem bools_all (f : Nat → Bool) (l : List Nat) : ((l.map f).all id) = l.all f:=by
  rw [List.all_map]
  rfl
theorem flat_map {α : Type} (g : α → V) (l : List α) : l.flatMap (fun x=>[g x]) = l.map g:=by
  induction l with
  | nil=>rfl
  | cons x l ih=>rw [List.flatMap_cons,ih]; rfl
theorem ns_flatMap (g : V → List V) (l : List Nat) : (ns l).flatMap g = l.flatMap fun k=>g (nv k):=by
  unfold ns
  rw [List.flatMap_map]
section
variable {P : Program} {w : World} {K : PySem.W.Frag} {mg : Str → Option Value} {base : Heap} {CP CR : Addr}
abbrev nList : List Str:=["pond","listed","rest","kind","food"]
theorem scList : FnScope nList ["pond","listed"] (defScope sListable):=⟨rfl,rfl,rfl,by decide +kernel,rfl,by decide +kernel,by decide +kernel⟩
theorem ok_listable {f : Addr} {fd : FuncData} (D : Def K mg "listable" sListable ["pond","listed"] f fd) (T : Txt K mg CP CR) (CK : Callee P w K mg base "kinds_of" 1 ["pond"] (spKinds CP)) (CF : Callee P w K mg base "foods_of" 1 ["pond","eater"] (spFoods CP)) :
    FnOk P w K mg base CX0 2 f fd ["pond","listed"] (spListable CP):=by
  obtain ⟨fK,fdK,mK,kK,bK,GK⟩:=CK
  obtain ⟨fF,fdF,mF,kF',bF,GF⟩:=CF
  refine D.fn.ok scList (fun vs H Q E h=>?_) (fun cdv A outer s H vs Q E hr h=>?_)
  · obtain ⟨p,W,a,st,l,rfl,_⟩:=h
    rfl
  · obtain ⟨p,W,a,st,l,rfl,hF,hP,ha,k⟩:=h
    have hn10:=hF.n10
    have hsl : sizeLine = 16777216:=sizeLine_eq
    have hkl : st.kinds.length = st.n:=length_kinds
    refine ⟨_,pss_cons (ps_setLc (i:=2) (own:=[("kind",3)]) (tt:=tTest (tOp (rIn K true) (tVar 3) (tVar 1))) rfl scList.nd rfl rfl rfl (pi_list (pe_call GK hr (by rfl) mK kK bK .nil pass0 (pa_cons (pv 0) pa_nil)))
        (blk (N:=nList) (sc:=defScope sListable) (by decide +kernel))
        (fun _ _ _ _ _=>pg_name (i:=3) scList.nd rfl (Or.inl rfl)) (fun _ _ _ _ _=>pts_one (pt_cmpR op_notIn_seq (pv 3) (pv 1) (by with_unfolding_all rfl))) (fun _ _ _ _ _=>pv 3))
      (pss_one (ps_ret (pe_lc (own:=[("kind",3)]) (tt:=tB (tCB (rAll K) (tCons (tLc (iList K (tCall (spFoods CP) [] E0 (tCons (tVar 0) (tCons (tVar 3) tNil)))) (gName 4) tYes (tOp (rIn K false) (tVar 4) (tVar 1)) [4]) tNil))) rfl scList.nd (pi_list (pv 2))
        (blk (N:=nList) (sc:=defScope sListable) (by decide +kernel))
        (fun _ _ _ _ _=>pg_name (i:=3) scList.nd rfl (Or.inl rfl))
        (fun _ _ _ _ _=>pts_one (pt_val (pe_callB (cr_all rfl) (by rfl) T.all boot_all (pa_cons (pe_lc (own:=[("food",4)]) (te:=tOp (rIn K false) (tVar 4) (tVar 1)) rfl scList.nd (pi_list (pe_call GF hr (by rfl) mF kF' bF .nil pass0 (pa_cons (pv 0) (pa_cons (pv 3) pa_nil))))
          (blk2 (N:=nList) (sc:=lcScope (stAt sListable 1)) (by decide +kernel))
          (fun _ _ _ _ _=>pg_name (i:=4) scList.nd rfl (Or.inl rfl)) (fun _ _ _ _ _=>pts_nil) (fun _ _ _ _ _=>pe_cmpR op_in_seq (pv 4) (pv 1) (by with_unfolding_all rfl))) pa_nil))))
        (fun _ _ _ _ _=>pv 3)))),?_⟩
    refine ⟨_,rfl,p,W,st,rfl,hF,hP,fun H1 q h1 hq hq1=>⟨q,rfl,⟨_,SqL.of hq1⟩,fun R hR=>?_⟩⟩
    refine lc_listP (K:=K) (a:=q) (xs:=ns st.kinds) (σ:=[some (.ref p),some (.ref a),none,none,none]) (Q:=fun x H1=>gName 2 x [some (.ref p),some (.ref a),none,none,none] H1 _) (fun x=>if (!inV x (ns (0 :: l))) = true then [x] else []) hR (SqL.of hq1) (by rw [ns_len]; omega) (fun i x H2 C1 C0 hi h2 k1 k0=>?_) (fun H2 h2 hR2=>?_)
    · obtain ⟨e,he,rfl⟩:=ns_get hi
      refine ⟨rfl,_,rfl,_,rfl,a,_,rfl,.inl (SqL.of (h2 _ _ (h1 _ _ ha))),rfl,ns_flat _,_,rfl,?_⟩
      exact iteB (fun z=>⟨_,rfl,k1 _ _ Same.refl (if_pos z)⟩) fun z=>k0 _ Same.refl (if_neg (by simpa using z))
    have hR3 : H2 R = some (.lst (ns (st.kinds.filter fun e=>!l.contains e))):=by
      rw [hR2,ns_flatMap]
      have : (st.kinds.flatMap fun k=>if (!inV (nv k) (ns (0 :: l))) = true then [nv k] else []) = st.kinds.flatMap fun k=>if (!l.contains k) = true then [nv k] else []:=flatMap_congr' fun e he=>by
        rw [ns_in,contains_sun (by have:=mem_kinds.mp he; omega)]
      rw [this,flat_filter]
      rfl
    have hs2 : Same H H2:=h1.trans h2
    refine ⟨_,rfl,R,rfl,⟨_,SqL.of hR3⟩,fun Z hZ=>?_⟩
    have hrl : (st.kinds.filter fun e=>!l.contains e).length ≤ 10:=by
      refine Nat.le_trans (List.length_filter_le _ _) ?_
      omega
    refine lc_listP (K:=K) (a:=R) (xs:=ns (st.kinds.filter fun e=>!l.contains e)) (σ:=[some (.ref p),some (.ref a),some (.ref R),none,none]) (Q:=Q) (fun x=>match x with | .int i=>if ((foodsU st i.toNat).all fun f=>(0 :: l).contains f) = true then [V.int i] else [] | _=>[]) hZ (SqL.of hR3) (by rw [ns_len]; omega) (fun i x H3 C1 C0 hi h3 k1 k0=>?_) (fun H3 h3 hZ3=>?_)
    · obtain ⟨e,he,rfl⟩:=ns_get hi
      have s3 : Same H H3:=hs2.trans h3
      have hfl:=foodsU_len hF e
      refine ⟨rfl,_,rfl,_,rfl,p,W,st,e,rfl,hF,hP.same s3,fun H4 q4 h4 hq4 hq44=>⟨q4,rfl,⟨_,SqL.of hq44⟩,fun B hB=>?_⟩⟩
      refine lc_listP (K:=K) (a:=q4) (xs:=ns (foodsU st e)) (σ:=[some (.ref p),some (.ref a),some (.ref R),some (nv e),none]) (Q:=fun x H1=>rAll K [x] H1 fun z H'=>∃ c,z = V.bl c ∧ if c = true then tVar 3 [some (.ref p),some (.ref a),some (.ref R),some (nv e),none] H' C1 else C0 H') (fun x=>[V.bl (inV x (ns (0 :: l)))]) hB (SqL.of hq44) (by rw [ns_len]; omega) (fun i x H5 D1 D0 hi5 h5 d1 d0=>?_) (fun H5 h5 hB5=>?_)
      · obtain ⟨f0,hf0,rfl⟩:=ns_get hi5
        exact ⟨rfl,yesT (iteT ⟨_,rfl,_,rfl,a,_,rfl,.inl (SqL.of (h5 _ _ (h4 _ _ (s3 _ _ ha)))),rfl,ns_flat _,d1 _ _ Same.refl rfl⟩)⟩
      · refine ⟨B,(foodsU st e).map fun f=>(0 :: l).contains f,rfl,SqL.of ?_,?_⟩
        · rw [hB5,ns_flatMap,flat_map,List.map_map]
          congr 2
          refine List.map_congr_left fun x _=>?_
          rw [ns_in]
          rfl
        · rw [bools_all]
          refine ⟨_,rfl,?_⟩
          have s35 : Same H3 H5:=h4.trans h5
          exact iteB (fun z=>⟨_,rfl,k1 _ _ s35 (if_pos z)⟩) fun z=>k0 _ s35 (if_neg (by simpa using z))
    · refine k H3 Z (hs2.trans h3) (hs2.free hZ) ?_
      rw [hZ3,ns_flatMap]
      have : ((st.kinds.filter fun e=>!l.contains e).flatMap fun k=>(fun x : V=>match x with | .int i=>if ((foodsU st i.toNat).all fun f=>(0 :: l).contains f) = true then [V.int i] else [] | _=>[]) (nv k)) = (st.kinds.filter fun e=>!l.contains e).flatMap fun k=>if ((foodsU st k).all fun f=>(0 :: l).contains f) = true then [nv k] else []:=rfl
      rw [this,flat_filter (fun k=>(foodsU st k).all fun f=>(0 :: l).contains f) nv,List.filter_filter]
      have e2 : (st.kinds.filter fun e=>((foodsU st e).all fun f=>(0 :: l).contains f) && !l.contains e) = st.kinds.filter (canList st l):=List.filter_congr fun e _=>by
        unfold canList
        rw [canList_all hF,Bool.and_comm]
      rw [e2]
      rfl
abbrev nOrder : List Str:=["pond","listed","ready"]
theorem scOrder : FnScope nOrder ["pond"] (defScope sOrder):=⟨rfl,rfl,rfl,by decide +kernel,rfl,by decide +kernel,by decide +kernel⟩
theorem ok_order {f : Addr} {fd : FuncData} (D : Def K mg "order" sOrder ["pond"] f fd) (T : Txt K mg CP CR) (CL : Callee P w K mg base "listable" 2 ["pond","listed"] (spListable CP)) (CC : Callee P w K mg base "counted" 1 ["kinds"] spCounted) :
    FnOk P w K mg base CX0 3 f fd ["pond"] (spC0 14 CP):=by
  obtain ⟨fL,fdL,mL,kL,bL,GL⟩:=CL
  obtain ⟨fC,fdC,mC,kC,bC,GC⟩:=CC
  obtain ⟨tS,hsun⟩:=T.sun
  refine D.fn.ok scOrder (fun vs H Q E h=>?_) (fun cdv A outer s H vs Q E hr h=>?_)
  · obtain ⟨p,W,st,rfl,_⟩:=h
    rfl
  · obtain ⟨p,W,st,rfl,hF,hP,k⟩:=h
    have hn10:=hF.n10
    have hsl : sizeLine = 16777216:=sizeLine_eq
    rw [step_order] at k
    refine ⟨_,pss_cons (ps_set (i:=1) scOrder.nd rfl (Or.inl rfl) (pe_lst (pa_cons (pe_glob (v:=.int 0) (by rfl) hsun ⟨_,rfl⟩) pa_nil)))
      (pss_cons (ps_set (i:=2) scOrder.nd rfl (Or.inl rfl) (pe_call GL hr (by rfl) mL kL bL .nil pass0 (pa_cons (pv 0) (pa_cons (pv 1) pa_nil))))
      (pss_cons (ps_while PassesOwn.never (pt_truth (pv 2) (fun _=>rfl))
        (pss_cons (ps_expr (pe_bm PySem.F.plainAttrs_list PySem.F.slot_list_append PySem.F.type_list_append mt_append (pv 1) (pa_cons (pe_ix ix_list (pv 2) pe_int (fun _ _=>rfl)) pa_nil)))
        (pss_one (ps_set (i:=2) scOrder.nd rfl (Or.inl rfl) (pe_call GL hr (by rfl) mL kL bL .nil pass0 (pa_cons (pv 0) (pa_cons (pv 1) pa_nil)))))))
      (pss_one (ps_ret (pe_call GC (hr.mono (by decide)) (by rfl) mC kC bC .nil pass0 (pa_cons (pe_slice sl_list (pv 1) (po_some pe_int) po_none) pa_nil)))))),?_⟩
    refine ⟨(by show 1 ≤ sizeLine; decide),fun L hL=>?_⟩
    have s1 : Same H (upd H L (.lst [.int 0])):=Same.upd hL
    refine ⟨_,rfl,_,rfl,p,W,L,st,[],rfl,hF,hP.same s1,upd_same,fun H1 R h1 hR hR1=>?_⟩
    refine ⟨fun m σ H'=>∃ (l : List Nat) (R : Addr),σ = [some (.ref p),some (.ref L),some (.ref R)] ∧ Same H H' ∧ H' L = some (.lst (ns (0 :: l))) ∧ H' R = some (.lst (ns (st.kinds.filter (canList st l)))) ∧ Listed st l ∧ m = st.n - l.length,
      ⟨_,[],R,rfl,s1.trans h1,h1 _ _ upd_same,hR1,Listed.start st,rfl⟩,?_⟩
    rintro m σ H' ⟨l,R',rfl,hs,hL',hR',hl,rfl⟩
    refine ⟨_,rfl,!(ns (st.kinds.filter (canList st l))).isEmpty,.inl ⟨_,SqL.of hR',rfl⟩,?_⟩
    have hll:=hl.len
    cases hfl : st.kinds.filter (canList st l) with
    | nil =>
      have hnone : st.kinds.find? (canList st l) = none:=by
        rw [List.find?_eq_none]
        intro x hx q
        have : x ∈ st.kinds.filter (canList st l):=List.mem_filter.mpr ⟨hx,q⟩
        rw [hfl] at this
        simp at this
      refine iteF ⟨_,rfl,1,rfl,L,_,rfl,SqL.of hL',fun b hb=>?_⟩
      have s3:=Same.upd' (o:=.lst (cutV (ns (0 :: l)) (some 1) none)) hs (hs.free hb)
      refine ⟨b,cutV (ns (0 :: l)) (some 1) none,rfl,upd_same,?_,fun H3 q h3 hq hq3=>?_⟩
      · rw [cut1]
        show (ns l).length < _
        rw [ns_len]
        omega
      · refine k.pure rfl hP (s3.trans h3) (s3.free hq) ?_
        rw [hq3,cut1]
        show some (HO.lst (V.int ((ns l).length : Int) :: ns l)) = _
        rw [← hl.done hnone,ns_len,ns_ints]
        rfl
    | cons e rest =>
      have hsome : st.kinds.find? (canList st l) = some e:=by
        have : st.kinds.find? (canList st l) = (st.kinds.filter (canList st l)).head?:=by rw [List.head?_filter]
        rw [this,hfl]
        rfl
      have hl2:=hl.more hsome
      have hll2:=hl2.len
      rw [List.length_append] at hll2
      have hll2 : l.length + 1 ≤ st.n:=hll2
      rw [hfl] at hR'
      refine iteT ⟨fun σ' H''=>∃ m',m' < st.n - l.length ∧ ∃ (l : List Nat) (R : Addr),σ' = [some (.ref p),some (.ref L),some (.ref R)] ∧ Same H H'' ∧ H'' L = some (.lst (ns (0 :: l))) ∧ H'' R = some (.lst (ns (st.kinds.filter (canList st l)))) ∧ Listed st l ∧ m' = st.n - l.length,fun σ' H'' h=>h,?_⟩
      refine ⟨_,rfl,.inl ⟨rfl,_,SqL.of hL'⟩,_,rfl,R',_,_,nv e,rfl,rfl,SqL.of hR',atI_nat (j:=0) rfl,L,_,_,rfl,rfl,hL',?_,?_⟩
      · rw [ns_len]
        show l.length + 1 < _
        omega
      · have s3:=Same.upd' (o:=.lst (ns (0 :: l) ++ [nv e])) hs hL
        have e0 : ns (0 :: l) ++ [nv e] = ns (0 :: (l ++ [e])):=by
          rw [← ns_snoc]
          rfl
        rw [e0] at s3 ⊢
        refine ⟨_,rfl,_,rfl,p,W,L,st,l ++ [e],rfl,hF,hP.same s3,upd_same,fun H4 q h4 hq hq4=>?_⟩
        exact ⟨st.n - (l ++ [e]).length,by rw [List.length_append]; show st.n - (l.length + 1) < _; omega,l ++ [e],q,rfl,s3.trans h4,h4 _ _ upd_same,hq4,hl2,rfl⟩
end
end FwD
namespace FwD
open PySem PySem.Spec PyProof.Rows L2 Fw
open Vbecai (State alive chosen least foods linked lives allLive isKind within)
abbrev sFalls : Stmt:=top 47
abbrev sNeeded : Stmt:=top 48
abbrev sNearest : Stmt:=top 49
theorem le_eq : ∀ {l1 l2 : List Int},l1.Perm l2 → l1.Pairwise (· ≤ ·) → l2.Pairwise (· ≤ ·) → l1 = l2
  | [],l2,h,_,_=>(List.nil_perm.mp h).symm
  | a :: l1,[],h,_,_=>absurd h.length_eq (by simp)
  | a :: l1,b :: l2,h,h1,h2=>by
    have hab : a = b:=by
      rw [List.pairwise_cons] at h1 h2
      have ha : a ∈ b :: l2:=h.mem_iff.mp (by simp)
      have hb : b ∈ a :: l1:=h.mem_iff.mpr (by simp)
      rcases List.mem_cons.mp ha with q | q
      · exact q
      · rcases List.mem_cons.mp hb with r | r
        · exact r.symm
        · have x1:=h1.1 b r
          have x2:=h2.1 a q
          omega
    subst hab
    rw [List.pairwise_cons] at h1 h2
    rw [le_eq (h.cons_inv) h1.2 h2.2]
theorem nodup_perm {α : Type} [BEq α] [LawfulBEq α] {l1 l2 : List α} (h1 : l1.Nodup) (h2 : l2.Nodup) (h : ∀ x,x ∈ l1 ↔ x ∈ l2) : l1.Perm l2:=by
  induction l1 generalizing l2 with
  | nil =>
    cases l2 with
    | nil=>exact .nil
    | cons y l2=>exact absurd ((h y).mpr (by simp)) (by simp)
  | cons x l1 ih =>
    rw [List.nodup_cons] at h1
    have hx : x ∈ l2:=(h x).mp (by simp)
    refine (List.Perm.cons x (ih h1.2 (h2.erase x) fun y=>?_)).trans (List.perm_cons_erase hx).symm
    rw [h2.mem_erase_iff]
    constructor
    · intro hy
      exact ⟨fun z=>h1.1 (z ▸ hy),(h y).mp (by simp [hy])⟩
    · rintro ⟨a,b⟩
      rcases List.mem_cons.mp ((h y).mpr b) with z | z
      · exact absurd z a
      · exact z
open Classical in
noncomputable def ringOf (s : State) (k : Nat) : List Nat:=(reachL s k []).filter fun e=>decide (e ≠ k ∧ Rg s [] e k)
theorem ring_together {s : State} (F : WF s) {k : Nat} (hk : k ∈ s.kinds) : (ringOf s k ++ [k]).Perm (Vbecai.together s k):=by
  have hm : ∀ e,e ∈ ringOf s k ↔ Rg s [] k e ∧ e ≠ k ∧ Rg s [] e k:=fun e=>by
    unfold ringOf
    simp only [List.mem_filter,mem_reachL,decide_eq_true_eq]
  refine nodup_perm ?_ ?_ fun e=>?_
  · rw [List.nodup_append]
    refine ⟨List.Pairwise.filter _ (reachL_sorted.imp fun h=>Nat.ne_of_lt h),by simp,fun a ha b hb=>?_⟩
    simp at hb
    subst hb
    exact ((hm a).mp ha).2.1
  · unfold Vbecai.together
    exact List.Pairwise.filter _ nodup_kinds
  · rw [List.mem_append,List.mem_singleton,hm]
    unfold Vbecai.together
    simp only [List.mem_filter,Bool.or_eq_true,Bool.and_eq_true,beq_iff_eq,List.contains_eq_mem,decide_eq_true_eq,mem_after F]
    constructor
    · rintro (⟨a,b,c⟩ | rfl)
      · exact ⟨a.kind.1,.inr ⟨(rg_rc F).mp a,(rg_rc F).mp c⟩⟩
      · exact ⟨hk,.inl rfl⟩
    · rintro ⟨a,rfl | ⟨b,c⟩⟩
      · exact .inr rfl
      · by_cases z : e = k
        · exact .inr z
        · exact .inl ⟨(rg_rc F).mpr b,z,(rg_rc F).mpr c⟩
theorem together_sorted {s : State} {k : Nat} : ((Vbecai.together s k).map fun n : Nat=>(n : Int)).Pairwise (· ≤ ·):=by
  unfold Vbecai.together
  refine List.pairwise_map.mpr ((List.Pairwise.filter _ sorted_kinds).imp fun {a b} h=>?_)
  omega
theorem ns_map (l : List Nat) : ns l = (l.map fun n : Nat=>(n : Int)).map V.int:=ns_ints l
theorem counted_ns (l : List Nat) : V.int ((ns l).length : Int) :: ns l = (Vbecai.counted l).map V.int:=by
  unfold Vbecai.counted
  rw [ns_len,List.map_cons,← ns_ints]
theorem dec_nv {a b : Nat} : decide (nv a = nv b) = decide (a = b):=by
  rw [decide_eq_decide]
  exact ⟨fun z=>by have:=V.int.inj z; omega,fun z=>by rw [z]⟩
section
variable {P : Program} {w : World} {K : PySem.W.Frag} {mg : Str → Option Value} {base : Heap} {CP CR : Addr}
abbrev nTog : List Str:=["pond","k","eaters","behind","ring","kind"]
theorem scTog : FnScope nTog ["pond","k"] (defScope sTogether):=⟨rfl,rfl,rfl,by decide +kernel,rfl,by decide +kernel,by decide +kernel⟩
open Classical in
theorem ok_together {f : Addr} {fd : FuncData} (D : Def K mg "together" sTogether ["pond","k"] f fd) (T : Txt K mg CP CR) (CK : Callee P w K mg base "is_kind" 1 ["pond","k"] (spIsKind CP)) (CE : Callee P w K mg base "eaters_by_food" 1 ["pond"] (spEaters CP)) (CR' : Callee P w K mg base "reached" 1 ["eaters","start","gone"] (spReached K)) (CC : Callee P w K mg base "counted" 1 ["kinds"] spCounted) :
    FnOk P w K mg base CX0 2 f fd ["pond","k"] (spC1 13 CP):=by
  obtain ⟨fK,fdK,mK,kK,bK,GK⟩:=CK
  obtain ⟨fE,fdE,mE,kE,bE,GE⟩:=CE
  obtain ⟨fR,fdR,mR,kR,bR,GR⟩:=CR'
  obtain ⟨fC,fdC,mC,kC,bC,GC⟩:=CC
  obtain ⟨t1,h1'⟩:=T.r1
  refine D.fn.ok scTog (fun vs H Q E h=>?_) (fun cdv A outer s H vs Q E hr h=>?_)
  · obtain ⟨p,W,st,kk,rfl,_⟩:=h
    rfl
  · obtain ⟨p,W,st,kk,rfl,hF,hP,k⟩:=h
    have hn10:=hF.n10
    have hsl : sizeLine = 16777216:=sizeLine_eq
    rw [step_together] at k
    refine ⟨_,pss_cons (ps_if (pt_not (pt_val (pe_call GK hr (by rfl) mK kK bK .nil pass0 (pa_cons (pv 0) (pa_cons (pv 1) pa_nil))))) (pss_one (ps_ret (pe_lst (pa_cons (pe_glob (v:=.int (-1)) (by rfl) h1' ⟨_,rfl⟩) pa_nil)))) pss_nil)
      (pss_cons (ps_set (i:=2) scTog.nd rfl (Or.inr rfl) (pe_call GE hr (by rfl) mE kE bE .nil pass0 (pa_cons (pv 0) pa_nil)))
      (pss_cons (ps_set (i:=3) scTog.nd rfl (Or.inl rfl) (pe_call GR hr (by rfl) mR kR bR .nil pass0 (pa_cons (pv 2) (pa_cons (pv 1) (pa_cons (pe_lst pa_nil) pa_nil)))))
      (pss_cons (ps_setLc (i:=4) (own:=[("kind",5)]) (tt:=tAnd (tTest (tOp rNe (tVar 5) (tVar 1))) (tTest (tOp (rIn K false) (tVar 1) (tCall (spReached K) [] E0 (tCons (tVar 2) (tCons (tVar 5) (tCons (tLst tNil) tNil))))))) rfl scTog.nd rfl rfl rfl (pi_list (pv 3))
        (blk (N:=nTog) (sc:=defScope sTogether) (by decide +kernel))
        (fun _ _ _ _ _=>pg_name (i:=5) scTog.nd rfl (Or.inl rfl))
        (fun _ _ _ _ _=>pts_one (PW.pt (pw_and (pt_cmpR op_ne (pv 5) (pv 1) (nomark _)) (pw_and1 (pt_cmpR op_in_seq (pv 1) (pe_call GR hr (by rfl) mR kR bR .nil pass0 (pa_cons (pv 2) (pa_cons (pv 5) (pa_cons (pe_lst pa_nil) pa_nil)))) (by with_unfolding_all rfl))))))
        (fun _ _ _ _ _=>pv 5))
      (pss_one (ps_ret (pe_call GC hr (by rfl) mC kC bC .nil pass0 (pa_cons (pe_callB cr_sorted (by rfl) T.sorted boot_sorted (pa_cons (pe_op op_cat (pv 4) (pe_lst (pa_cons (pv 1) pa_nil))) pa_nil)) pa_nil))))))),?_⟩
    refine ⟨_,rfl,_,rfl,p,W,st,kk,rfl,hP,_,rfl,?_⟩
    cases hk : isKind st kk with
    | false =>
      rw [hk,if_pos rfl] at k
      exact iteT ⟨(by show 1 ≤ sizeLine; decide),fun q hq=>k.pure rfl hP (Same.upd hq) hq upd_same⟩
    | true =>
      rw [hk,if_neg (by simp)] at k
      have hkk:=isKind_iff.mp hk
      obtain ⟨kn,rfl⟩ : ∃ kn : Nat,kk = (kn : Int):=⟨kk.toNat,by omega⟩
      have hmk : kn ∈ st.kinds:=mem_kinds.mpr ⟨by omega,by omega⟩
      refine iteF ⟨_,rfl,p,W,st,rfl,hF,hP,fun H1 Ea h1 hEa hE=>?_⟩
      refine ⟨_,rfl,_,rfl,Nat.zero_le _,fun g hg=>?_⟩
      have s2 : Same H1 (upd H1 g (.lst [])):=Same.upd hg
      refine ⟨Ea,g,st,kn,[],rfl,hF,by omega,hE.same s2,SqL.of upd_same,fun H2 B h2 hB hB2=>?_⟩
      have s12 : Same H1 H2:=s2.trans h2
      have hbl:=reachL_len (s:=st) (st:=kn) (gone:=[])
      refine ⟨_,rfl,B,rfl,⟨_,SqL.of hB2⟩,fun R hR=>?_⟩
      refine lc_listP (K:=K) (a:=B) (xs:=ns (reachL st kn [])) (σ:=[some (.ref p),some (nv kn),some (.ref Ea),some (.ref B),none,none]) (Q:=fun x H1=>gName 4 x [some (.ref p),some (nv kn),some (.ref Ea),some (.ref B),none,none] H1 _) (fun x=>match x with | .int i=>if decide (i.toNat ≠ kn ∧ Rg st [] i.toNat kn) = true then [V.int i] else [] | _=>[]) hR (SqL.of hB2) (by rw [ns_len]; omega) (fun i x H3 C1 C0 hi h3 k1 k0=>?_) (fun H3 h3 hR3=>?_)
      · obtain ⟨e,he,rfl⟩:=ns_get hi
        have heR:=mem_reachL.mp (List.mem_of_getElem? he)
        have heK:=mem_kinds.mp heR.kind.1
        refine ⟨rfl,_,rfl,_,rfl,rfl,_,rfl,?_⟩
        rw [dec_nv]
        by_cases hek : e = kn
        · rw [decide_eq_true hek]
          refine iteF (iteF (k0 _ Same.refl ?_))
          show (if decide ((e : Int).toNat ≠ kn ∧ _) = true then _ else _) = _
          rw [if_neg (by simp [hek])]
        · rw [decide_eq_false hek]
          refine iteT ⟨_,rfl,_,rfl,_,rfl,Nat.zero_le _,fun g' hg'=>?_⟩
          have s4 : Same H3 (upd H3 g' (.lst [])):=Same.upd hg'
          refine ⟨Ea,g',st,e,[],rfl,hF,by omega,hE.same ((s12.trans h3).trans s4),SqL.of upd_same,fun H5 B5 h5 hB5 hB55=>?_⟩
          refine ⟨B5,_,rfl,.inl (SqL.of hB55),rfl,ns_flat _,_,rfl,?_⟩
          have s35 : Same H3 H5:=s4.trans h5
          have hin : inV (V.int (kn : Int)) (ns (reachL st e [])) = (reachL st e []).contains kn:=ns_in kn _
          show if (if false = true then !inV (V.int (kn : Int)) (ns (reachL st e [])) else inV (V.int (kn : Int)) (ns (reachL st e []))) = true then _ else _
          rw [if_neg Bool.false_ne_true,hin]
          refine iteB (fun z=>⟨_,rfl,k1 _ _ s35 ?_⟩) fun z=>k0 _ s35 ?_
          · have hz : Rg st [] e kn:=mem_reachL.mp (by simpa using z)
            show (if decide ((e : Int).toNat ≠ kn ∧ Rg st [] (e : Int).toNat kn) = true then _ else _) = _
            rw [if_pos (by rw [Int.toNat_natCast]; exact decide_eq_true ⟨hek,hz⟩)]
          · have hz : ¬ Rg st [] e kn:=fun w=>by
              have:=mem_reachL.mpr w
              rw [List.contains_eq_mem,decide_eq_false_iff_not] at z
              exact z this
            show (if decide ((e : Int).toNat ≠ kn ∧ Rg st [] (e : Int).toNat kn) = true then _ else _) = _
            rw [if_neg (by rw [Int.toNat_natCast]; intro w; exact hz (of_decide_eq_true w).2)]
      · have hR4 : H3 R = some (.lst (ns (ringOf st kn))):=by
          rw [hR3,ns_flatMap]
          have : ((reachL st kn []).flatMap fun k=>(fun x : V=>match x with | .int i=>if decide (i.toNat ≠ kn ∧ Rg st [] i.toNat kn) = true then [V.int i] else [] | _=>[]) (nv k)) = (reachL st kn []).flatMap fun k=>if decide (k ≠ kn ∧ Rg st [] k kn) = true then [nv k] else []:=rfl
          rw [this,flat_filter (fun k=>decide (k ≠ kn ∧ Rg st [] k kn)) nv]
          rfl
        have hrl : (ringOf st kn).length ≤ 10:=by
          unfold ringOf
          refine Nat.le_trans (List.length_filter_le _ _) ?_
          omega
        have s3 : Same H H3:=h1.trans (s12.trans h3)
        refine ⟨_,rfl,_,rfl,(by show 1 ≤ sizeLine; decide),fun a ha=>?_⟩
        have s5:=Same.upd' (o:=.lst [.int (kn : Int)]) s3 (s3.free ha)
        refine ⟨R,a,_,_,rfl,rfl,by rw [upd_ne (ne_of_none hR4 ha)]; exact hR4,upd_same,?_,fun b hb=>?_⟩
        · rw [ns_len]
          show (ringOf st kn).length + 1 ≤ _
          omega
        have s6:=Same.upd' (o:=.lst (ns (ringOf st kn) ++ [.int (kn : Int)])) s5 (s5.free hb)
        have e6 : ns (ringOf st kn) ++ [V.int (kn : Int)] = ((ringOf st kn ++ [kn]).map fun n : Nat=>(n : Int)).map V.int:=by
          rw [← ns_map,ns_snoc]
        refine ⟨b,(ringOf st kn ++ [kn]).map fun n : Nat=>(n : Int),rfl,SqL.of (by rw [upd_same,e6]),?_,fun ns' c hp hsrt hc=>?_⟩
        · rw [List.length_map,List.length_append]
          show (ringOf st kn).length + 1 < 64
          omega
        have en : ns' = (Vbecai.together st kn).map fun n : Nat=>(n : Int):=le_eq (hp.trans ((ring_together hF hmk).map _)) hsrt together_sorted
        subst en
        have s7:=Same.upd' (o:=.lst (((Vbecai.together st kn).map fun n : Nat=>(n : Int)).map V.int)) s6 (s6.free hc)
        refine ⟨c,_,rfl,upd_same,?_,fun H8 q h8 hq hq8=>?_⟩
        · rw [List.length_map,List.length_map]
          have : (Vbecai.together st kn).length ≤ st.kinds.length:=List.length_filter_le _ _
          rw [length_kinds] at this
          omega
        · refine k.pure rfl hP (s7.trans h8) (s7.free hq) ?_
          rw [hq8,← ns_map,counted_ns]
          rfl
abbrev nFalls : List Str:=["pond","k","eaters","still","kind"]
theorem scFalls : FnScope nFalls ["pond","k"] (defScope sFalls):=⟨rfl,rfl,rfl,by decide +kernel,rfl,by decide +kernel,by decide +kernel⟩
theorem alive_len {s : State} {g : List Nat} (F : WF s) : (alive s g).length ≤ 10:=by
  have:=nodup_le (alive s g) s.kinds (rounds_nodup _) fun e he=>(mem_alive.mp he).kind.1
  rw [length_kinds] at this
  have:=F.n10
  omega
theorem ok_falls {f : Addr} {fd : FuncData} (D : Def K mg "falls" sFalls ["pond","k"] f fd) (T : Txt K mg CP CR) (CK : Callee P w K mg base "is_kind" 1 ["pond","k"] (spIsKind CP)) (CE : Callee P w K mg base "eaters_by_food" 1 ["pond"] (spEaters CP)) (CL : Callee P w K mg base "living" 2 ["eaters","gone"] (spLiving K)) (CC : Callee P w K mg base "counted" 1 ["kinds"] spCounted) :
    FnOk P w K mg base CX0 3 f fd ["pond","k"] (spC1 3 CP):=by
  obtain ⟨fK,fdK,mK,kK,bK,GK⟩:=CK
  obtain ⟨fE,fdE,mE,kE,bE,GE⟩:=CE
  obtain ⟨fL,fdL,mL,kL,bL,GL⟩:=CL
  obtain ⟨fC,fdC,mC,kC,bC,GC⟩:=CC
  obtain ⟨t1,h1'⟩:=T.r1
  refine D.fn.ok scFalls (fun vs H Q E h=>?_) (fun cdv A outer s H vs Q E hr h=>?_)
  · obtain ⟨p,W,st,kk,rfl,_⟩:=h
    rfl
  · obtain ⟨p,W,st,kk,rfl,hF,hP,k⟩:=h
    have hn10:=hF.n10
    have hsl : sizeLine = 16777216:=sizeLine_eq
    have hr1:=hr.mono (j:=1) (by decide)
    rw [step_falls] at k
    refine ⟨_,pss_cons (ps_if (pt_not (pt_val (pe_call GK hr1 (by rfl) mK kK bK .nil pass0 (pa_cons (pv 0) (pa_cons (pv 1) pa_nil))))) (pss_one (ps_ret (pe_lst (pa_cons (pe_glob (v:=.int (-1)) (by rfl) h1' ⟨_,rfl⟩) pa_nil)))) pss_nil)
      (pss_cons (ps_set (i:=2) scFalls.nd rfl (Or.inl rfl) (pe_call GE hr1 (by rfl) mE kE bE .nil pass0 (pa_cons (pv 0) pa_nil)))
      (pss_cons (ps_set (i:=3) scFalls.nd rfl (Or.inr rfl) (pe_call GL hr (by rfl) mL kL bL .nil pass0 (pa_cons (pv 2) (pa_cons (pe_lst (pa_cons (pv 1) pa_nil)) pa_nil))))
      (pss_one (ps_ret (pe_call GC hr1 (by rfl) mC kC bC .nil pass0 (pa_cons (pe_lc (own:=[("kind",4)]) (tt:=tTest (tOp (rIn K true) (tVar 4) (tVar 3))) rfl scFalls.nd (pi_list (pe_call GL hr (by rfl) mL kL bL .nil pass0 (pa_cons (pv 2) (pa_cons (pe_lst pa_nil) pa_nil))))
        (blk (N:=nFalls) (sc:=defScope sFalls) (by decide +kernel))
        (fun _ _ _ _ _=>pg_name (i:=4) scFalls.nd rfl (Or.inl rfl)) (fun _ _ _ _ _=>pts_one (pt_cmpR op_notIn_seq (pv 4) (pv 3) (by with_unfolding_all rfl))) (fun _ _ _ _ _=>pv 4)) pa_nil)))))),?_⟩
    refine ⟨_,rfl,_,rfl,p,W,st,kk,rfl,hP,_,rfl,?_⟩
    cases hk : isKind st kk with
    | false =>
      rw [hk,if_pos rfl] at k
      exact iteT ⟨(by show 1 ≤ sizeLine; decide),fun q hq=>k.pure rfl hP (Same.upd hq) hq upd_same⟩
    | true =>
      rw [hk,if_neg (by simp)] at k
      have hkk:=isKind_iff.mp hk
      obtain ⟨kn,rfl⟩ : ∃ kn : Nat,kk = (kn : Int):=⟨kk.toNat,by omega⟩
      refine iteF ⟨_,rfl,p,W,st,rfl,hF,hP,fun H1 Ea h1 hEa hE=>?_⟩
      refine ⟨_,rfl,_,rfl,(by show 1 ≤ sizeLine; decide),fun g hg=>?_⟩
      have s2 : Same H1 (upd H1 g (.lst [.int (kn : Int)])):=Same.upd hg
      refine ⟨Ea,g,st,[kn],rfl,hF,hE.same s2,SqL.of upd_same,fun H2 B h2 hB hB2=>?_⟩
      have s12 : Same H1 H2:=s2.trans h2
      refine ⟨_,rfl,Nat.zero_le _,fun g2 hg2=>?_⟩
      have s3 : Same H2 (upd H2 g2 (.lst [])):=Same.upd hg2
      refine ⟨Ea,g2,st,[],rfl,hF,hE.same (s12.trans s3),SqL.of upd_same,fun H4 Z h4 hZ hZ4=>?_⟩
      have s14 : Same H1 H4:=s12.trans (s3.trans h4)
      have hal:=alive_len (g:=[]) hF
      refine ⟨Z,rfl,⟨_,SqL.of hZ4⟩,fun R hR=>?_⟩
      have hB4 : H4 B = some (.lst (ns (alive st [kn]))):=h4 _ _ (s3 _ _ hB2)
      refine lc_listP (K:=K) (a:=Z) (xs:=ns (alive st [])) (σ:=[some (.ref p),some (nv kn),some (.ref Ea),some (.ref B),none]) (Q:=fun x H1=>spCounted ([x] ++ []) H1 Q E0) (fun x=>if (!inV x (ns (alive st [kn]))) = true then [x] else []) hR (SqL.of hZ4) (by rw [ns_len]; omega) (fun i x H5 C1 C0 hi h5 k1 k0=>?_) (fun H5 h5 hR5=>?_)
      · obtain ⟨e,he,rfl⟩:=ns_get hi
        refine ⟨rfl,_,rfl,_,rfl,B,_,rfl,.inl (SqL.of (h5 _ _ hB4)),rfl,ns_flat _,_,rfl,?_⟩
        exact iteB (fun z=>⟨_,rfl,k1 _ _ Same.refl (if_pos z)⟩) fun z=>k0 _ Same.refl (if_neg (by simpa using z))
      · have hR6 : H5 R = some (.lst (ns (Vbecai.falls st kn))):=by
          rw [hR5,ns_flatMap]
          have : ((alive st []).flatMap fun k=>if (!inV (nv k) (ns (alive st [kn]))) = true then [nv k] else []) = (alive st []).flatMap fun k=>if (!(alive st [kn]).contains k) = true then [nv k] else []:=flatMap_congr' fun e _=>by rw [ns_in]
          rw [this,flat_filter]
          rfl
        have hfl : (Vbecai.falls st kn).length ≤ 10:=by
          unfold Vbecai.falls
          exact Nat.le_trans (List.length_filter_le _ _) hal
        have s15 : Same H H5:=(h1.trans s14).trans h5
        refine ⟨R,_,rfl,hR6,by rw [ns_len]; omega,fun H7 q h7 hq hq7=>?_⟩
        refine k.pure rfl hP (s15.trans h7) (s15.free hq) ?_
        rw [hq7,counted_ns]
        rfl
theorem scNeeded : FnScope ["pond","k","refusal"] ["pond","k"] (defScope sNeeded):=⟨rfl,rfl,rfl,by decide +kernel,rfl,by decide +kernel,by decide +kernel⟩
theorem refL_bad {s : State} {k : Int} {c : State × List Int} {a : State × List Int} (h : refL s k ≠ 0) (ha : a = if isKind s k = false then (s,[-1]) else if lives s k.toNat = false then (s,[-5]) else c) : a = (s,[refL s k]):=by
  rw [ha]
  unfold refL at h ⊢
  by_cases h1 : isKind s k = false
  · rw [if_pos h1,if_pos h1]
  · rw [if_neg h1,if_neg h1]
    by_cases h2 : lives s k.toNat = false
    · rw [if_pos h2,if_pos h2]
    · rw [if_neg h1,if_neg h2] at h
      exact absurd rfl h
theorem ok_needed {f : Addr} {fd : FuncData} (D : Def K mg "needed" sNeeded ["pond","k"] f fd) (T : Txt K mg CP CR) (CF : Callee P w K mg base "refusal_unless_living" 3 ["pond","k"] (spRefL CP)) (CE : Callee P w K mg base "eaters_by_food" 1 ["pond"] (spEaters CP)) (CN : Callee P w K mg base "needs" 3 ["eaters","k"] spNeeds) (CC : Callee P w K mg base "counted" 1 ["kinds"] spCounted) :
    FnOk P w K mg base CX0 4 f fd ["pond","k"] (spC1 4 CP):=by
  obtain ⟨fF,fdF,mF,kF',bF,GF⟩:=CF
  obtain ⟨fE,fdE,mE,kE,bE,GE⟩:=CE
  obtain ⟨fN,fdN,mN,kN,bN,GN⟩:=CN
  obtain ⟨fC,fdC,mC,kC,bC,GC⟩:=CC
  obtain ⟨t0,h0'⟩:=T.r0
  refine D.fn.ok scNeeded (fun vs H Q E h=>?_) (fun cdv A outer s H vs Q E hr h=>?_)
  · obtain ⟨p,W,st,kk,rfl,_⟩:=h
    rfl
  · obtain ⟨p,W,st,kk,rfl,hF,hP,k⟩:=h
    have hn10:=hF.n10
    have hsl : sizeLine = 16777216:=sizeLine_eq
    have hr1:=hr.mono (j:=1) (by decide)
    rw [step_needed] at k
    refine ⟨_,pss_cons (ps_set (i:=2) scNeeded.nd rfl (Or.inl rfl) (pe_call GF hr (by rfl) mF kF' bF .nil pass0 (pa_cons (pv 0) (pa_cons (pv 1) pa_nil))))
      (pss_cons (ps_if (pt_cmpR op_ne (pv 2) (pe_glob (v:=.int 0) (by rfl) h0' ⟨_,rfl⟩) (nomark _)) (pss_one (ps_ret (pe_lst (pa_cons (pv 2) pa_nil)))) pss_nil)
      (pss_one (ps_ret (pe_call GC hr1 (by rfl) mC kC bC .nil pass0 (pa_cons (pe_call GN hr (by rfl) mN kN bN .nil pass0 (pa_cons (pe_call GE hr1 (by rfl) mE kE bE .nil pass0 (pa_cons (pv 0) pa_nil)) (pa_cons (pv 1) pa_nil))) pa_nil))))),?_⟩
    refine ⟨_,rfl,_,rfl,p,W,st,kk,rfl,hF,hP,fun H1 h1=>⟨_,rfl,rfl,_,rfl,?_⟩⟩
    by_cases hz : refL st kk = 0
    · rw [decide_eq_true (show V.int (refL st kk) = V.int 0 by rw [hz])]
      obtain ⟨hk,hlv⟩:=refL_zero hz
      have hkk:=isKind_iff.mp hk
      obtain ⟨kn,rfl⟩ : ∃ kn : Nat,kk = (kn : Int):=⟨kk.toNat,by omega⟩
      have hlk : Lv st [] kn:=by
        unfold lives at hlv
        exact mem_alive.mp (by simpa using hlv)
      refine iteF ⟨_,rfl,p,W,st,rfl,hF,hP.same h1,fun H2 Ea h2 hEa hE=>?_⟩
      refine ⟨_,rfl,Ea,st,kn,rfl,hF,hE,fun H3 B h3 hB hB3=>?_⟩
      have s3 : Same H H3:=(h1.trans h2).trans h3
      rw [← needed_is hlk] at hB3
      have hnl : (Vbecai.needed st kn).length ≤ 10:=by
        unfold Vbecai.needed
        exact Nat.le_trans (List.length_filter_le _ _) (alive_len hF)
      refine ⟨B,_,rfl,hB3,by rw [ns_len]; omega,fun H4 q h4 hq hq4=>?_⟩
      rw [hk,if_neg (by simp)] at k
      have e : Vbecai.act st (.needed (kn : Int)) = (st,Vbecai.counted (Vbecai.needed st kn)):=by
        show (if lives st (kn : Int).toNat = false then _ else _) = _
        rw [hlv,if_neg (by simp)]
        rfl
      refine k.pure e hP (s3.trans h4) (s3.free hq) ?_
      rw [hq4,counted_ns]
    · rw [decide_eq_false (fun z=>hz (V.int.inj z))]
      refine iteT ⟨_,rfl,(by show 1 ≤ sizeLine; decide),fun q hq=>?_⟩
      exact k.pure (refL_bad (c:=(st,Vbecai.counted (Vbecai.needed st kk.toNat))) hz rfl) hP (Same.upd' h1 (h1.free hq)) (h1.free hq) upd_same
end
end FwD
namespace FwD
open PySem PySem.Spec PyProof.Rows L2 Fw
open Vbecai (State alive chosen least foods linked lives allLive isKind within)
abbrev sTold : Stmt:=top 45
abbrev sAliveC : Stmt:=top 46
abbrev sLeast : Stmt:=top 50
abbrev sWays : Stmt:=top 51
abbrev sWorst : Stmt:=top 52
theorem lc_listR {K : PySem.W.Frag} {a : Addr} {xs : List V} {g : TG} {tt : TT} {te : TE} {vs : List Nat} {σ : L2.St} {H1 : Hp} {R : Hp → Prop} {D : Addr} (f : V → List V) (hD : H1 D = none) (hx : SqL K H1 a xs) (hlen : xs.length < sizeLine)
    (hs : ∀ (i : Nat) (x : V) (H : Hp) (C1 : V → Hp → Prop) (C0 : Hp → Prop),xs[i]? = some x → Same H1 H → (∀ y H4,Same H H4 → f x = [y] → C1 y H4) → (∀ H3,Same H H3 → f x = [] → C0 H3) →
      g x (wipe σ vs) H fun σ2 H2=>wipe σ2 vs = wipe σ vs ∧ tt σ2 H2 fun b H3=>if b = true then te σ2 H3 C1 else C0 H3)
    (hd : ∀ H',Same H1 H' → H' D = some (.lst (xs.flatMap f)) → R H') :
    ∃ W : Nat → Nat → Hp → Prop,(∃ m,W 0 m (upd H1 D (.lst []))) ∧ ∀ i m H,W i m H →
      ((Itl K a).stop i H ∧ R H) ∨ ((Itl K a).go i H ∧ ∃ Nx : Hp → Prop,(∀ H',Nx H' → ∃ m',m' < m ∧ W (i + 1) m' H') ∧ ∀ x H',(Itl K a).yld i H x H' → g x (wipe σ vs) H' fun σ2 H2=>wipe σ2 vs = wipe σ vs ∧ tt σ2 H2 fun b H3 =>
        if b = true then te σ2 H3 fun y H4=>∃ acc,H4 D = some (.lst acc) ∧ acc.length < sizeLine ∧ Nx (upd H4 D (.lst (acc ++ [y]))) else Nx H3) :=
  lc_listP (Q:=fun _ H=>R H) f hD hx hlen hs hd
theorem least_some {s : State} {k : Nat} (F : WF s) (hk : k ∈ s.kinds) (h0 : ¬ Lk s 0 k) : ∃ g,least s k = some g:=by
  have hol:=length_others hk
  have gen : ∀ m,m ≤ (others s k).length → (∀ j,j < m → ∀ g ∈ chosen j (others s k),k ∈ alive s g) ∨ ∃ g,least s k = some g:=by
    intro m
    induction m with
    | zero=>intro _; exact .inl fun j hj=>by omega
    | succ m ih =>
      intro hm
      rcases ih (by omega) with h | h
      · cases q : (chosen m (others s k)).find? (fun g=>!(alive s g).contains k) with
        | some g=>exact .inr ⟨g,least_hit (by omega) h q⟩
        | none =>
          refine .inl fun j hj g hg=>?_
          by_cases e : j = m
          · subst e
            have:=List.find?_eq_none.mp q g hg
            simpa using this
          · exact h j (by omega) g hg
      · exact .inr h
  rcases gen _ (Nat.le_refl _) with h | h
  · exact ⟨_,least_all F hk h0 h⟩
  · exact h
theorem least_len {s : State} {k : Nat} {g : List Nat} (h : least s k = some g) : g.length ≤ (others s k).length:=by
  have:=(downBy_some h).1
  exact (chosen_mem this).2.length_le
theorem refF_bad {s : State} {k : Int} {c : State × List Int} {a : State × List Int} (h : refF s k ≠ 0) (ha : a = if isKind s k = false then (s,[-1]) else if lives s k.toNat = false then (s,[-5]) else if linked s 0 k.toNat = true then (s,[-6]) else c) : a = (s,[refF s k]):=by
  rw [ha]
  unfold refF refL at h ⊢
  by_cases h1 : isKind s k = false
  · simp [h1]
  · by_cases h2 : lives s k.toNat = false
    · simp [h1,h2]
    · by_cases h3 : linked s 0 k.toNat = true
      · simp [h1,h2,h3]
      · simp [h1,h2,h3] at h
theorem refF_zero {s : State} {k : Int} (h : refF s k = 0) : isKind s k = true ∧ lives s k.toNat = true ∧ linked s 0 k.toNat = false:=by
  unfold refF at h
  split at h
  · omega
  · rename_i q
    obtain ⟨a,b⟩:=refL_zero h
    refine ⟨a,b,?_⟩
    cases z : linked s 0 k.toNat with
    | false=>rfl
    | true=>exact absurd ⟨h,z⟩ q
section
variable {P : Program} {w : World} {K : PySem.W.Frag} {mg : Str → Option Value} {base : Heap} {CP CR : Addr}
theorem scLeast : FnScope ["pond","k","refusal"] ["pond","k"] (defScope sLeast):=⟨rfl,rfl,rfl,by decide +kernel,rfl,by decide +kernel,by decide +kernel⟩
theorem ok_least {f : Addr} {fd : FuncData} (D : Def K mg "least" sLeast ["pond","k"] f fd) (T : Txt K mg CP CR) (CF : Callee P w K mg base "refusal_unless_fed_by_kinds" 4 ["pond","k"] (spRefF CP)) (CE : Callee P w K mg base "eaters_by_food" 1 ["pond"] (spEaters CP)) (CN : Callee P w K mg base "smallest_cut" 3 ["eaters","k"] spCut) (CC : Callee P w K mg base "counted" 1 ["kinds"] spCounted) :
    FnOk P w K mg base CX0 5 f fd ["pond","k"] (spC1 6 CP):=by
  obtain ⟨fF,fdF,mF,kF',bF,GF⟩:=CF
  obtain ⟨fE,fdE,mE,kE,bE,GE⟩:=CE
  obtain ⟨fN,fdN,mN,kN,bN,GN⟩:=CN
  obtain ⟨fC,fdC,mC,kC,bC,GC⟩:=CC
  obtain ⟨t0,h0'⟩:=T.r0
  refine D.fn.ok scLeast (fun vs H Q E h=>?_) (fun cdv A outer s H vs Q E hr h=>?_)
  · obtain ⟨p,W,st,kk,rfl,_⟩:=h
    rfl
  · obtain ⟨p,W,st,kk,rfl,hF,hP,k⟩:=h
    have hn10:=hF.n10
    have hsl : sizeLine = 16777216:=sizeLine_eq
    have hr1:=hr.mono (j:=1) (by decide)
    have hr3:=hr.mono (j:=3) (by decide)
    rw [step_least] at k
    refine ⟨_,pss_cons (ps_set (i:=2) scLeast.nd rfl (Or.inl rfl) (pe_call GF hr (by rfl) mF kF' bF .nil pass0 (pa_cons (pv 0) (pa_cons (pv 1) pa_nil))))
      (pss_cons (ps_if (pt_cmpR op_ne (pv 2) (pe_glob (v:=.int 0) (by rfl) h0' ⟨_,rfl⟩) (nomark _)) (pss_one (ps_ret (pe_lst (pa_cons (pv 2) pa_nil)))) pss_nil)
      (pss_one (ps_ret (pe_call GC hr1 (by rfl) mC kC bC .nil pass0 (pa_cons (pe_call GN hr3 (by rfl) mN kN bN .nil pass0 (pa_cons (pe_call GE hr1 (by rfl) mE kE bE .nil pass0 (pa_cons (pv 0) pa_nil)) (pa_cons (pv 1) pa_nil))) pa_nil))))),?_⟩
    refine ⟨_,rfl,_,rfl,p,W,st,kk,rfl,hF,hP,fun H1 h1=>⟨_,rfl,rfl,_,rfl,?_⟩⟩
    by_cases hz : refF st kk = 0
    · rw [decide_eq_true (show V.int (refF st kk) = V.int 0 by rw [hz])]
      obtain ⟨hk,hlv,hln⟩:=refF_zero hz
      have hkk:=isKind_iff.mp hk
      obtain ⟨kn,rfl⟩ : ∃ kn : Nat,kk = (kn : Int):=⟨kk.toNat,by omega⟩
      rw [Int.toNat_natCast] at hlv hln
      have hlk : Lv st [] kn:=by
        unfold lives at hlv
        exact mem_alive.mp (by simpa using hlv)
      have hn0 : ¬ Lk st 0 kn:=fun z=>by rw [linked_iff.mpr z] at hln; cases hln
      have hmk : kn ∈ st.kinds:=mem_kinds.mpr ⟨by omega,by omega⟩
      obtain ⟨g,hg⟩:=least_some hF hmk hn0
      have hgl:=least_len hg
      have hol:=length_others hmk
      refine iteF ⟨_,rfl,p,W,st,rfl,hF,hP.same h1,fun H2 Ea h2 hEa hE=>?_⟩
      refine ⟨_,rfl,Ea,st,kn,g,rfl,hF,hE,hmk,hlk,hn0,hg,fun H3 B h3 hB3=>?_⟩
      have s3 : Same H H3:=(h1.trans h2).trans h3
      refine ⟨B,_,rfl,hB3,by rw [ns_len]; omega,fun H4 q h4 hq hq4=>?_⟩
      rw [hk,if_neg (by simp)] at k
      have e : Vbecai.act st (.least (kn : Int)) = (st,Vbecai.counted g):=by
        show (if lives st (kn : Int).toNat = false then _ else if linked st 0 (kn : Int).toNat = true then _ else match least st (kn : Int).toNat with | none=>_ | some l=>_) = _
        rw [Int.toNat_natCast,hlv,if_neg (by simp),hln,if_neg (by simp),hg]
      refine k.pure e hP (s3.trans h4) (s3.free hq) ?_
      rw [hq4,counted_ns]
    · rw [decide_eq_false (fun z=>hz (V.int.inj z))]
      refine iteT ⟨_,rfl,(by show 1 ≤ sizeLine; decide),fun q hq=>?_⟩
      exact k.pure (refF_bad hz rfl) hP (Same.upd' h1 (h1.free hq)) (h1.free hq) upd_same
theorem scWays : FnScope ["pond","k","refusal"] ["pond","k"] (defScope sWays):=⟨rfl,rfl,rfl,by decide +kernel,rfl,by decide +kernel,by decide +kernel⟩
theorem ok_ways {f : Addr} {fd : FuncData} (D : Def K mg "ways" sWays ["pond","k"] f fd) (T : Txt K mg CP CR) (CF : Callee P w K mg base "refusal_unless_fed_by_kinds" 4 ["pond","k"] (spRefF CP)) (CE : Callee P w K mg base "eaters_by_food" 1 ["pond"] (spEaters CP)) (CN : Callee P w K mg base "smallest_cut" 3 ["eaters","k"] spCut) :
    FnOk P w K mg base CX0 5 f fd ["pond","k"] (spC1 7 CP):=by
  obtain ⟨fF,fdF,mF,kF',bF,GF⟩:=CF
  obtain ⟨fE,fdE,mE,kE,bE,GE⟩:=CE
  obtain ⟨fN,fdN,mN,kN,bN,GN⟩:=CN
  obtain ⟨t0,h0'⟩:=T.r0
  refine D.fn.ok scWays (fun vs H Q E h=>?_) (fun cdv A outer s H vs Q E hr h=>?_)
  · obtain ⟨p,W,st,kk,rfl,_⟩:=h
    rfl
  · obtain ⟨p,W,st,kk,rfl,hF,hP,k⟩:=h
    have hn10:=hF.n10
    have hr1:=hr.mono (j:=1) (by decide)
    have hr3:=hr.mono (j:=3) (by decide)
    rw [step_ways] at k
    refine ⟨_,pss_cons (ps_set (i:=2) scWays.nd rfl (Or.inl rfl) (pe_call GF hr (by rfl) mF kF' bF .nil pass0 (pa_cons (pv 0) (pa_cons (pv 1) pa_nil))))
      (pss_cons (ps_if (pt_cmpR op_ne (pv 2) (pe_glob (v:=.int 0) (by rfl) h0' ⟨_,rfl⟩) (nomark _)) (pss_one (ps_ret (pe_lst (pa_cons (pv 2) pa_nil)))) pss_nil)
      (pss_one (ps_ret (pe_lst (pa_cons (pe_callB call_len_seq (by rfl) T.len PySem.boot_len (pa_cons (pe_call GN hr3 (by rfl) mN kN bN .nil pass0 (pa_cons (pe_call GE hr1 (by rfl) mE kE bE .nil pass0 (pa_cons (pv 0) pa_nil)) (pa_cons (pv 1) pa_nil))) pa_nil)) pa_nil))))),?_⟩
    refine ⟨_,rfl,_,rfl,p,W,st,kk,rfl,hF,hP,fun H1 h1=>⟨_,rfl,rfl,_,rfl,?_⟩⟩
    by_cases hz : refF st kk = 0
    · rw [decide_eq_true (show V.int (refF st kk) = V.int 0 by rw [hz])]
      obtain ⟨hk,hlv,hln⟩:=refF_zero hz
      have hkk:=isKind_iff.mp hk
      obtain ⟨kn,rfl⟩ : ∃ kn : Nat,kk = (kn : Int):=⟨kk.toNat,by omega⟩
      rw [Int.toNat_natCast] at hlv hln
      have hlk : Lv st [] kn:=by
        unfold lives at hlv
        exact mem_alive.mp (by simpa using hlv)
      have hn0 : ¬ Lk st 0 kn:=fun z=>by rw [linked_iff.mpr z] at hln; cases hln
      have hmk : kn ∈ st.kinds:=mem_kinds.mpr ⟨by omega,by omega⟩
      obtain ⟨g,hg⟩:=least_some hF hmk hn0
      refine iteF ⟨_,rfl,p,W,st,rfl,hF,hP.same h1,fun H2 Ea h2 hEa hE=>?_⟩
      refine ⟨_,rfl,Ea,st,kn,g,rfl,hF,hE,hmk,hlk,hn0,hg,fun H3 B h3 hB3=>?_⟩
      have s3 : Same H H3:=(h1.trans h2).trans h3
      refine ⟨B,_,rfl,.inl (SqL.of hB3),(by show 1 ≤ sizeLine; decide),fun q hq=>?_⟩
      rw [hk,if_neg (by simp)] at k
      have e : Vbecai.act st (.ways (kn : Int)) = (st,[(Vbecai.ways st kn : Int)]):=by
        show (if lives st (kn : Int).toNat = false then _ else if linked st 0 (kn : Int).toNat = true then _ else _) = _
        rw [Int.toNat_natCast,hlv,if_neg (by simp),hln,if_neg (by simp)]
      refine k.pure e hP (Same.upd' s3 (s3.free hq)) (s3.free hq) ?_
      rw [upd_same,ways_least hF hmk hn0 hg,ns_len]
      rfl
    · rw [decide_eq_false (fun z=>hz (V.int.inj z))]
      refine iteT ⟨_,rfl,(by show 1 ≤ sizeLine; decide),fun q hq=>?_⟩
      exact k.pure (refF_bad hz rfl) hP (Same.upd' h1 (h1.free hq)) (h1.free hq) upd_same
abbrev nNear : List Str:=["pond","k","refusal","eaters","candidates","j","below","other"]
theorem scNear : FnScope nNear ["pond","k"] (defScope sNearest):=⟨rfl,rfl,rfl,by decide +kernel,rfl,by decide +kernel,by decide +kernel⟩
theorem all_filter (l : List Nat) (j : Nat) (p : Nat → Bool) : ((l.filter fun i=>i != j).all p) = l.all fun i=>i == j || p i:=by
  induction l with
  | nil=>rfl
  | cons x l ih =>
    rw [List.filter_cons,List.all_cons,← ih]
    by_cases q : x = j
    · rw [if_neg (by simpa using q)]
      simp [q]
    · rw [if_pos (by simpa using q),List.all_cons,show (x == j) = false by simpa using q]
      rfl
theorem ok_nearest {f : Addr} {fd : FuncData} (D : Def K mg "nearest" sNearest ["pond","k"] f fd) (T : Txt K mg CP CR) (CF : Callee P w K mg base "refusal_unless_living" 3 ["pond","k"] (spRefL CP)) (CE : Callee P w K mg base "eaters_by_food" 1 ["pond"] (spEaters CP)) (CN : Callee P w K mg base "needs" 3 ["eaters","k"] spNeeds) :
    FnOk P w K mg base CX0 4 f fd ["pond","k"] (spC1 5 CP):=by
  obtain ⟨fF,fdF,mF,kF',bF,GF⟩:=CF
  obtain ⟨fE,fdE,mE,kE,bE,GE⟩:=CE
  obtain ⟨fN,fdN,mN,kN,bN,GN⟩:=CN
  obtain ⟨t0,h0'⟩:=T.r0
  refine D.fn.ok scNear (fun vs H Q E h=>?_) (fun cdv A outer s H vs Q E hr h=>?_)
  · obtain ⟨p,W,st,kk,rfl,_⟩:=h
    rfl
  · obtain ⟨p,W,st,kk,rfl,hF,hP,k⟩:=h
    have hn10:=hF.n10
    have hsl : sizeLine = 16777216:=sizeLine_eq
    have hr1:=hr.mono (j:=1) (by decide)
    rw [step_nearest] at k
    refine ⟨_,pss_cons (ps_set (i:=2) scNear.nd rfl (Or.inl rfl) (pe_call GF hr (by rfl) mF kF' bF .nil pass0 (pa_cons (pv 0) (pa_cons (pv 1) pa_nil))))
      (pss_cons (ps_if (pt_cmpR op_ne (pv 2) (pe_glob (v:=.int 0) (by rfl) h0' ⟨_,rfl⟩) (nomark _)) (pss_one (ps_ret (pe_lst (pa_cons (pv 2) pa_nil)))) pss_nil)
      (pss_cons (ps_set (i:=3) scNear.nd rfl (Or.inl rfl) (pe_call GE hr1 (by rfl) mE kE bE .nil pass0 (pa_cons (pv 0) pa_nil)))
      (pss_cons (ps_set (i:=4) scNear.nd rfl (Or.inl rfl) (pe_call GN hr (by rfl) mN kN bN .nil pass0 (pa_cons (pv 3) (pa_cons (pv 1) pa_nil))))
      (pss_cons (ps_for PassesOwn.never rfl (pi_list (pv 4)) (pg_name (i:=5) scNear.nd rfl (Or.inr rfl))
        (pss_cons (ps_set (i:=6) scNear.nd rfl (Or.inr rfl) (pe_call GN hr (by rfl) mN kN bN .nil pass0 (pa_cons (pv 3) (pa_cons (pv 5) pa_nil))))
        (pss_one (ps_if (pt_val (pe_callB (cr_all rfl) (by rfl) T.all boot_all (pa_cons (pe_lc (own:=[("other",7)]) (te:=tOp (rIn K false) (tVar 7) (tVar 6)) rfl scNear.nd (pi_list (pv 4))
          (blk (N:=nNear) (sc:=defScope sNearest) (by decide +kernel))
          (fun _ _ _ _ _=>pg_name (i:=7) scNear.nd rfl (Or.inl rfl)) (fun _ _ _ _ _=>pts_one (pt_cmpR op_ne (pv 7) (pv 5) (nomark _))) (fun _ _ _ _ _=>pe_cmpR op_in_seq (pv 7) (pv 6) (by with_unfolding_all rfl))) pa_nil)))
          (pss_one (ps_ret (pe_lst (pa_cons (pv 5) pa_nil)))) pss_nil))))
      (pss_one (ps_ret (pe_lst (pa_cons pe_int pa_nil)))))))),?_⟩
    refine ⟨_,rfl,_,rfl,p,W,st,kk,rfl,hF,hP,fun H1 h1=>⟨_,rfl,rfl,_,rfl,?_⟩⟩
    by_cases hz : refL st kk = 0
    · rw [decide_eq_true (show V.int (refL st kk) = V.int 0 by rw [hz])]
      obtain ⟨hk,hlv⟩:=refL_zero hz
      have hkk:=isKind_iff.mp hk
      obtain ⟨kn,rfl⟩ : ∃ kn : Nat,kk = (kn : Int):=⟨kk.toNat,by omega⟩
      rw [Int.toNat_natCast] at hlv
      have hlk : Lv st [] kn:=by
        unfold lives at hlv
        exact mem_alive.mp (by simpa using hlv)
      rw [hk,if_neg (by simp)] at k
      have e : Vbecai.act st (.nearest (kn : Int)) = (st,[(Vbecai.nearest st kn : Int)]):=by
        show (if lives st (kn : Int).toNat = false then _ else _) = _
        rw [Int.toNat_natCast,hlv,if_neg (by simp)]
      refine iteF ⟨_,rfl,p,W,st,rfl,hF,hP.same h1,fun H2 Ea h2 hEa hE=>?_⟩
      refine ⟨_,rfl,_,rfl,Ea,st,kn,rfl,hF,hE,fun H3 B h3 hB hB3=>?_⟩
      have s3 : Same H H3:=(h1.trans h2).trans h3
      have hE3:=hE.same h3
      rw [← needed_is hlk] at hB3
      have hnl : (Vbecai.needed st kn).length ≤ 10:=by
        unfold Vbecai.needed
        exact Nat.le_trans (List.length_filter_le _ _) (alive_len hF)
      let good : Nat → Bool:=fun j=>(Vbecai.needed st kn).all fun i=>i == j || (Vbecai.needed st j).contains i
      refine ⟨_,rfl,B,rfl,⟨_,SqL.of hB3⟩,for_list (K:=K) (a:=B) (xs:=ns (Vbecai.needed st kn)) (fun t σ H'=>∃ v5 v6 : Option V,σ = [some (.ref p),some (nv kn),some (.int (refL st (kn : Int))),some (.ref Ea),some (.ref B),v5,v6,none] ∧ Same H3 H' ∧ ∀ j ∈ (Vbecai.needed st kn).take t,good j = false)
        ⟨none,none,rfl,Same.refl,by simp⟩ (fun t σ H' _ ⟨_,_,_,q,_⟩=>SqL.of (q _ _ hB3)) ?_ ?_⟩
      · rintro t x σ H4 ht ⟨v5,v6,rfl,h4,hno⟩
        obtain ⟨j,hj,rfl⟩:=ns_get ht
        have hjl : Lv st [] j:=needed_lives (List.mem_of_getElem? hj)
        refine ⟨_,rfl,_,rfl,Ea,st,j,rfl,hF,hE3.same h4,fun H5 Z h5 hZ hZ5=>?_⟩
        rw [← needed_is hjl] at hZ5
        have s35 : Same H3 H5:=h4.trans h5
        refine ⟨_,rfl,B,rfl,⟨_,SqL.of (s35 _ _ hB3)⟩,fun Y hY=>?_⟩
        refine lc_listR (K:=K) (a:=B) (xs:=ns (Vbecai.needed st kn)) (σ:=[some (.ref p),some (nv kn),some (.int (refL st (kn : Int))),some (.ref Ea),some (.ref B),some (nv j),some (.ref Z),none]) (fun x=>if (!decide (x = nv j)) = true then [V.bl (inV x (ns (Vbecai.needed st j)))] else []) hY (SqL.of (s35 _ _ hB3)) (by rw [ns_len]; omega) (fun i x H6 C1 C0 hi h6 k1 k0=>?_) (fun H6 h6 hY6=>?_)
        · obtain ⟨o,ho,rfl⟩:=ns_get hi
          refine ⟨rfl,_,rfl,_,rfl,rfl,_,rfl,?_⟩
          exact iteB (fun z=>⟨_,rfl,_,rfl,Z,_,rfl,.inl (SqL.of (h6 _ _ hZ5)),rfl,ns_flat _,k1 _ _ Same.refl (if_pos z)⟩) fun z=>k0 _ Same.refl (if_neg (by simpa using z))
        · refine ⟨Y,((Vbecai.needed st kn).filter fun i=>i != j).map fun i=>(Vbecai.needed st j).contains i,rfl,SqL.of ?_,?_⟩
          · rw [hY6,ns_flatMap]
            have : ((Vbecai.needed st kn).flatMap fun k=>if (!decide (nv k = nv j)) = true then [V.bl (inV (nv k) (ns (Vbecai.needed st j)))] else []) = (Vbecai.needed st kn).flatMap fun k=>if (k != j) = true then [V.bl ((Vbecai.needed st j).contains k)] else []:=flatMap_congr' fun i _=>by
              rw [ns_in,dec_nv]
              by_cases q : i = j <;> simp [q]
            rw [this,flat_filter (fun k=>k != j) fun k=>V.bl ((Vbecai.needed st j).contains k),List.map_map]
            rfl
          · rw [bools_all,all_filter]
            have s36 : Same H3 H6:=s35.trans h6
            refine ⟨_,rfl,iteB (fun z=>?_) fun z=>?_⟩
            · refine ⟨_,rfl,(by show 1 ≤ sizeLine; decide),fun q hq=>?_⟩
              have s6 : Same H H6:=s3.trans s36
              refine k.pure e hP (Same.upd' s6 (s6.free hq)) (s6.free hq) ?_
              rw [upd_same]
              have hf : (Vbecai.needed st kn).find? good = some j:=by
                rw [List.find?_eq_some_iff_getElem]
                refine ⟨z,t,(List.getElem?_eq_some_iff.mp hj).1,(List.getElem?_eq_some_iff.mp hj).2,fun i hi=>?_⟩
                have:=hno ((Vbecai.needed st kn)[i]'(by have:=(List.getElem?_eq_some_iff.mp hj).1; omega)) (by
                  rw [List.mem_take_iff_getElem]
                  exact ⟨i,by have:=(List.getElem?_eq_some_iff.mp hj).1; omega,rfl⟩)
                rw [this]
                rfl
              have : Vbecai.nearest st kn = j:=by
                show ((Vbecai.needed st kn).find? good).getD 0 = j
                rw [hf]
                rfl
              rw [this]
              rfl
            · refine ⟨_,_,rfl,s36,fun i hi=>?_⟩
              rw [take_snoc hj] at hi
              rcases List.mem_append.mp hi with y | y
              · exact hno i y
              · simp at y
                subst y
                exact z
      · rintro σ H4 ⟨v5,v6,rfl,h4,hno⟩
        rw [ns_len,List.take_length] at hno
        refine ⟨(by show 1 ≤ sizeLine; decide),fun q hq=>?_⟩
        have s4 : Same H H4:=s3.trans h4
        refine k.pure e hP (Same.upd' s4 (s4.free hq)) (s4.free hq) ?_
        rw [upd_same]
        have hf : (Vbecai.needed st kn).find? good = none:=by
          rw [List.find?_eq_none]
          intro x hx
          rw [hno x hx]
          simp
        have : Vbecai.nearest st kn = 0:=by
          show ((Vbecai.needed st kn).find? good).getD 0 = 0
          rw [hf]
          rfl
        rw [this]
        rfl
    · rw [decide_eq_false (fun z=>hz (V.int.inj z))]
      refine iteT ⟨_,rfl,(by show 1 ≤ sizeLine; decide),fun q hq=>?_⟩
      exact k.pure (refL_bad hz rfl) hP (Same.upd' h1 (h1.free hq)) (h1.free hq) upd_same
end
end FwD
namespace FwD
open PySem PySem.Spec PyProof.Rows L2 Fw
open Vbecai (State alive chosen least foods linked lives allLive isKind within)
def fallen (s : State) (g : List Nat) : Nat:=((alive s []).filter fun e=>!(alive s g).contains e).length
def wStep (s : State) (b : Nat × List Nat) (g : List Nat) : Nat × List Nat:=if b.2.isEmpty = true ∨ b.1 < fallen s g then (fallen s g,g) else b
theorem worst_is (s : State) (m : Nat) : Vbecai.worst s m = (chosen m s.kinds).foldl (wStep s) (0,[]):=rfl
structure Wst (s : State) (rs : List (List Nat)) (t : Nat) (most : Int) (fst : List Nat) : Prop where
  zero : t = 0 → most = -1 ∧ fst = []
  more : t ≠ 0 → ((rs.take t).foldl (wStep s) (0,[])) = (most.toNat,fst) ∧ 0 ≤ most ∧ fst ≠ []
theorem Wst.take {s : State} {rs : List (List Nat)} {t : Nat} {most : Int} {fst r : List Nat} (h : Wst s rs t most fst) (hr : rs[t]? = some r) (hne : r ≠ []) (hlt : most < (fallen s r : Int)) : Wst s rs (t + 1) (fallen s r : Int) r where
  zero:=fun z=>by omega
  more:=fun _=>by
    refine ⟨?_,by omega,hne⟩
    rw [take_snoc hr,List.foldl_append]
    show wStep s _ r = _
    by_cases q : t = 0
    · subst q
      show wStep s (0,[]) r = _
      unfold wStep
      rw [if_pos (.inl rfl),Int.toNat_natCast]
    · obtain ⟨e,h0,hn⟩:=h.more q
      rw [e]
      unfold wStep
      rw [if_pos (.inr (by show most.toNat < _; omega)),Int.toNat_natCast]
theorem Wst.stay {s : State} {rs : List (List Nat)} {t : Nat} {most : Int} {fst r : List Nat} (h : Wst s rs t most fst) (hr : rs[t]? = some r) (hge : ¬ most < (fallen s r : Int)) : Wst s rs (t + 1) most fst where
  zero:=fun z=>by omega
  more:=fun _=>by
    by_cases q : t = 0
    · have:=(h.zero q).1
      omega
    · obtain ⟨e,h0,hn⟩:=h.more q
      refine ⟨?_,h0,hn⟩
      rw [take_snoc hr,List.foldl_append]
      show wStep s _ r = _
      rw [e]
      unfold wStep
      rw [if_neg]
      rintro (z | z)
      · exact hn (List.isEmpty_iff.mp z)
      · have z : most.toNat < fallen s r:=z
        omega
section
variable {P : Program} {w : World} {K : PySem.W.Frag} {mg : Str → Option Value} {base : Heap} {CP CR : Addr}
abbrev nWorst : List Str:=["pond","m","rows","size","eaters","before","most","first","row","fallen"]
theorem scWorst : FnScope nWorst ["pond","m"] (defScope sWorst):=⟨rfl,rfl,rfl,by decide +kernel,rfl,by decide +kernel,by decide +kernel⟩
theorem step_worst' (s : State) (k : Int) : Vbecai.step s [[8,k]] = if within k 1 (s.n : Int) = false then (s,[-1]) else Vbecai.act s (.worst k):=rfl
theorem ok_worst {f : Addr} {fd : FuncData} (D : Def K mg "worst" sWorst ["pond","m"] f fd) (T : Txt K mg CP CR) (CO : Callee P w K mg base "one_longer" 1 ["rows","kinds"] (spLonger K)) (CK : Callee P w K mg base "kinds_of" 1 ["pond"] (spKinds CP)) (CE : Callee P w K mg base "eaters_by_food" 1 ["pond"] (spEaters CP)) (CL : Callee P w K mg base "living" 2 ["eaters","gone"] (spLiving K)) :
    FnOk P w K mg base CX0 3 f fd ["pond","m"] (spC1 8 CP):=by
  obtain ⟨fO,fdO,mO,kO,bO,GO⟩:=CO
  obtain ⟨fK,fdK,mK,kK,bK,GK⟩:=CK
  obtain ⟨fE,fdE,mE,kE,bE,GE⟩:=CE
  obtain ⟨fL,fdL,mL,kL,bL,GL⟩:=CL
  obtain ⟨t1,h1'⟩:=T.r1
  refine D.fn.ok scWorst (fun vs H Q E h=>?_) (fun cdv A outer s H vs Q E hr h=>?_)
  · obtain ⟨p,W,st,kk,rfl,_⟩:=h
    rfl
  · obtain ⟨p,W,st,kk,rfl,hF,hP,k⟩:=h
    have hn10:=hF.n10
    have hsl : sizeLine = 16777216:=sizeLine_eq
    have hr1:=hr.mono (j:=1) (by decide)
    rw [step_worst'] at k
    refine ⟨_,pss_cons (ps_if (pt_not (pt_chain op_le op_le pe_int (pv 1) (pe_fld (pv 0) rfl))) (pss_one (ps_ret (pe_lst (pa_cons (pe_glob (v:=.int (-1)) (by rfl) h1' ⟨_,rfl⟩) pa_nil)))) pss_nil)
      (pss_cons (ps_set (i:=2) scWorst.nd rfl (Or.inl rfl) (pe_lst (pa_cons (pe_lst pa_nil) pa_nil)))
      (pss_cons (ps_for PassesOwn.never rfl (pi_range1 (by rfl) T.range (pa_cons (pv 1) pa_nil)) (pg_name (i:=3) scWorst.nd rfl (Or.inl rfl))
        (pss_one (ps_set (i:=2) scWorst.nd rfl (Or.inl rfl) (pe_call GO hr1 (by rfl) mO kO bO .nil pass0 (pa_cons (pv 2) (pa_cons (pe_call GK hr1 (by rfl) mK kK bK .nil pass0 (pa_cons (pv 0) pa_nil)) pa_nil))))))
      (pss_cons (ps_set (i:=4) scWorst.nd rfl (Or.inl rfl) (pe_call GE hr1 (by rfl) mE kE bE .nil pass0 (pa_cons (pv 0) pa_nil)))
      (pss_cons (ps_set (i:=5) scWorst.nd rfl (Or.inl rfl) (pe_callB call_len_seq (by rfl) T.len PySem.boot_len (pa_cons (pe_call GL hr (by rfl) mL kL bL .nil pass0 (pa_cons (pv 4) (pa_cons (pe_lst pa_nil) pa_nil))) pa_nil)))
      (pss_cons (ps_set (i:=6) scWorst.nd rfl (Or.inl rfl) (pe_un un_neg pe_int))
      (pss_cons (ps_set (i:=7) scWorst.nd rfl (Or.inl rfl) (pe_lst pa_nil))
      (pss_cons (ps_for PassesOwn.never rfl (pi_list (pv 2)) (pg_name (i:=8) scWorst.nd rfl (Or.inl rfl))
        (pss_cons (ps_set (i:=9) scWorst.nd rfl (Or.inl rfl) (pe_op op_sub (pv 5) (pe_callB call_len_seq (by rfl) T.len PySem.boot_len (pa_cons (pe_call GL hr (by rfl) mL kL bL .nil pass0 (pa_cons (pv 4) (pa_cons (pv 8) pa_nil))) pa_nil))))
        (pss_one (ps_if (pt_cmpR op_gt (pv 9) (pv 6) (nomark _))
          (pss_cons (ps_set (i:=6) scWorst.nd rfl (Or.inl rfl) (pv 9)) (pss_one (ps_set (i:=7) scWorst.nd rfl (Or.inl rfl) (pv 8)))) pss_nil))))
      (pss_one (ps_ret (pe_op op_cat (pe_lst (pa_cons (pv 6) pa_nil)) (pv 7))))))))))),?_⟩
    have bad : ¬ (1 ≤ kk ∧ kk ≤ (st.n : Int)) → ∀ q,H q = none → Q (.ref q) (upd H q (.lst [.int (-1)])):=fun hb q hq=>by
      rw [within_ff hb,if_pos rfl] at k
      exact k.pure rfl hP (Same.upd hq) hq upd_same
    refine ⟨_,rfl,_,_,rfl,rfl,_,rfl,iteD (fun h1=>?_) (fun h1=>?_)⟩
    rotate_left
    · exact ⟨_,rfl,iteT ⟨(by show 1 ≤ sizeLine; decide),fun q hq=>bad (fun z=>h1 z.1) q hq⟩⟩
    refine ⟨_,rfl,rdN T hP ⟨_,_,rfl,rfl,_,rfl,?_⟩⟩
    by_cases h2 : kk ≤ (st.n : Int)
    rotate_left
    · rw [decide_eq_false h2]
      exact iteT ⟨(by show 1 ≤ sizeLine; decide),fun q hq=>bad (fun z=>h2 z.2) q hq⟩
    rw [decide_eq_true h2]
    rw [within_iff.mpr ⟨h1,h2⟩,if_neg (by simp)] at k
    obtain ⟨m,rfl⟩ : ∃ m : Nat,kk = (m : Int):=⟨kk.toNat,by omega⟩
    refine iteF ⟨Nat.zero_le _,fun L0 hL0=>⟨(by show 1 ≤ sizeLine; decide),fun R0 hR0=>?_⟩⟩
    have s1 : Same H (upd H L0 (.lst [])):=Same.upd hL0
    have s2 : Same H (upd (upd H L0 (.lst [])) R0 (.lst [.ref L0])):=Same.upd' s1 (s1.free hR0)
    have hR1 : RowsAt (upd (upd H L0 (.lst [])) R0 (.lst [.ref L0])) R0 (chosen 0 st.kinds):=by
      rw [chosen_zero]
      refine ⟨[L0],upd_same,.cons ?_ .nil⟩
      rw [upd_ne (ne_of_none upd_same hR0),upd_same]
      rfl
    generalize upd (upd H L0 (.lst [])) R0 (.lst [.ref L0]) = H3 at s2 hR1 ⊢
    have hkl : st.kinds.length = st.n:=length_kinds
    refine ⟨_,rfl,_,rfl,by omega,by omega,?_⟩
    rw [Int.toNat_natCast]
    refine for_range (lo:=0) (n:=m) (fun i σ H'=>∃ (R : Addr) (v3 : Option V),σ = [some (.ref p),some (nv m),some (.ref R),v3,none,none,none,none,none,none] ∧ Same H H' ∧ RowsAt H' R (chosen i st.kinds))
      ⟨R0,none,rfl,s2,hR1⟩ ?_ ?_
    · rintro i σ H' hi ⟨R,v3,rfl,hs,hR⟩
      refine ⟨_,rfl,_,rfl,p,W,st,rfl,hF,hP.same hs,fun H4 q h4 hq hq4=>?_⟩
      refine ⟨R,q,_,st.kinds,rfl,hR.same h4,SqL.of hq4,?_,?_,fun H5 R5 s5 hR5 hRows=>?_⟩
      · have h1:=chosen_len i st.kinds
        have h3:=two_pow_bound (n:=st.kinds.length) (by omega)
        calc (chosen i st.kinds).length * st.kinds.length ≤ 1024 * 10:=Nat.mul_le_mul (by omega) (by omega)
          _ ≤ 20000:=by decide
      · intro r hr
        have:=(chosen_mem hr).1
        omega
      · rw [longer_is sorted_kinds] at hRows
        exact ⟨R5,_,rfl,(hs.trans h4).trans s5,hRows⟩
    · rintro σ H4 ⟨R,v3,rfl,hs,hR⟩
      refine ⟨_,rfl,p,W,st,rfl,hF,hP.same hs,fun H5 Ea h5 hEa hE=>?_⟩
      refine ⟨_,rfl,Nat.zero_le _,fun g hg=>?_⟩
      have s6 : Same H5 (upd H5 g (.lst [])):=Same.upd hg
      refine ⟨Ea,g,st,[],rfl,hF,hE.same s6,SqL.of upd_same,fun H7 B h7 hB hB7=>?_⟩
      refine ⟨B,_,rfl,.inl (SqL.of hB7),1,rfl,Nat.zero_le _,fun Fr hFr=>?_⟩
      have s57 : Same H5 H7:=s6.trans h7
      have s8 : Same H7 (upd H7 Fr (.lst [])):=Same.upd hFr
      have s58 : Same H5 (upd H7 Fr (.lst [])):=s57.trans s8
      obtain ⟨rs,hRs,hPd⟩:=(hR.same h5).same s58
      have hE8:=hE.same s58
      have sH8 : Same H (upd H7 Fr (.lst [])):=(hs.trans h5).trans s58
      have hFr8 : upd H7 Fr (.lst []) Fr = some (.lst (ns [])):=upd_same
      generalize upd H7 Fr (.lst []) = H8 at hRs hPd hE8 sH8 hFr8 ⊢
      rw [ns_len]
      refine ⟨_,rfl,R,rfl,⟨_,SqL.of hRs⟩,for_list (K:=K) (a:=R) (xs:=rs.map V.ref) (fun t σ H'=>∃ (most : Int) (Fa : Addr) (fst : List Nat) (v8 v9 : Option V),σ = [some (.ref p),some (nv m),some (.ref R),v3,some (.ref Ea),some (nv (alive st []).length),some (.int most),some (.ref Fa),v8,v9] ∧ Same H8 H' ∧ H' Fa = some (.lst (ns fst)) ∧ Wst st (chosen m st.kinds) t most fst)
        ⟨-1,Fr,[],none,none,rfl,Same.refl,hFr8,⟨fun _=>⟨rfl,rfl⟩,fun z=>absurd rfl z⟩⟩ (fun t σ H' _ ⟨_,_,_,_,_,_,q,_⟩=>SqL.of (q _ _ hRs)) ?_ ?_⟩
      · rintro t x σ H9 ht ⟨most,Fa,fst,v8,v9,rfl,h9,hFa,hW⟩
        obtain ⟨a,ha,rfl⟩:=ref_get ht
        obtain ⟨r,hr',hra⟩:=paired_get hPd ha
        have hra9:=h9 _ _ hra
        have hrl : r.length = m:=(chosen_mem (List.mem_of_getElem? hr')).1
        refine ⟨_,rfl,_,rfl,_,rfl,Ea,a,st,r,rfl,hF,hE8.same h9,SqL.of hra9,fun Ha B' h10 hB' hB10=>?_⟩
        refine ⟨B',_,rfl,.inl (SqL.of hB10),_,_,rfl,rfl,_,rfl,_,rfl,_,_,rfl,rfl,_,rfl,?_⟩
        rw [ns_len]
        have hfal : ((alive st []).length : Int) - ((alive st r).length : Int) = (fallen st r : Int):=by
          have:=fallen_is (s:=st) (g:=r)
          unfold fallen
          omega
        rw [hfal]
        refine iteD (fun z=>?_) (fun z=>?_)
        · exact ⟨_,rfl,_,rfl,((alive st []).length : Int) - ((alive st r).length : Int),a,r,_,_,rfl,h9.trans h10,h10 _ _ hra9,by rw [hfal]; exact hW.take hr' (fun y=>by rw [y] at hrl; have : m = 0:=hrl.symm; omega) z⟩
        · exact ⟨most,Fa,fst,_,_,rfl,h9.trans h10,h10 _ _ hFa,hW.stay hr' z⟩
      · rintro σ H9 ⟨most,Fa,fst,v8,v9,rfl,h9,hFa,hW⟩
        have hl : rs.length = (chosen m st.kinds).length:=Paired.length hPd
        rw [List.length_map,hl] at hW
        have hne : (chosen m st.kinds).length ≠ 0:=fun z=>by
          have hm : st.kinds.take m ∈ chosen (st.kinds.take m).length st.kinds:=mem_chosen (List.take_sublist _ _)
          rw [List.length_take,hkl,show min m st.n = m by omega] at hm
          rw [List.length_eq_zero_iff.mp z] at hm
          simp at hm
        obtain ⟨e,h0,hn⟩:=hW.more hne
        rw [List.take_length,← worst_is] at e
        refine ⟨_,rfl,(by show 1 ≤ sizeLine; decide),fun a ha=>⟨_,rfl,?_⟩⟩
        have sH9:=sH8.trans h9
        have s10:=Same.upd' (o:=.lst [.int most]) sH9 (sH9.free ha)
        have hfl : fst.length ≤ 10:=by
          have : (Vbecai.worst st m).2.length ≤ 10:=by
            have gen : ∀ (l : List (List Nat)) (b : Nat × List Nat),(∀ g ∈ l,g.length ≤ 10) → b.2.length ≤ 10 → (l.foldl (wStep st) b).2.length ≤ 10:=by
              intro l
              induction l with
              | nil=>intro b _ h; exact h
              | cons g l ih =>
                intro b hl hb
                rw [List.foldl_cons]
                refine ih _ (fun x hx=>hl x (by simp [hx])) ?_
                unfold wStep
                split
                · exact hl g (by simp)
                · exact hb
            rw [worst_is]
            exact gen _ _ (fun g hg=>by have:=(chosen_mem hg).1; omega) (by simp)
          rw [e] at this
          exact this
        refine ⟨a,Fa,_,_,rfl,rfl,upd_same,by rw [upd_ne (ne_of_none hFa ha)]; exact hFa,?_,fun q hq=>?_⟩
        · rw [ns_len]
          show 1 + fst.length ≤ _
          omega
        · refine k.pure rfl hP (Same.upd' s10 (s10.free hq)) (s10.free hq) ?_
          rw [upd_same]
          show some (HO.lst (V.int most :: ns fst)) = some (HO.lst ((((Vbecai.worst st (m : Int).toNat).1 : Int) :: Vbecai.ints (Vbecai.worst st (m : Int).toNat).2).map V.int))
          rw [Int.toNat_natCast,e,List.map_cons,← ns_ints]
          show _ = some (HO.lst (V.int ((most.toNat : Nat) : Int) :: ns fst))
          rw [show ((most.toNat : Nat) : Int) = most by omega]
abbrev nTold : List Str:=["pond","answer","link"]
theorem scTold : FnScope nTold ["pond"] (defScope sTold):=⟨rfl,rfl,rfl,by decide +kernel,rfl,by decide +kernel,by decide +kernel⟩
def toldT (s : State) (t : Nat) : List Int:=(s.n : Int) :: (s.links.length : Int) :: (s.links.take t).flatMap fun x=>[(x.1 : Int),(x.2.1 : Int),(x.2.2 : Int)]
theorem toldT_snoc {s : State} {t : Nat} {x : Link} (h : s.links[t]? = some x) : toldT s (t + 1) = toldT s t ++ [(x.1 : Int),(x.2.1 : Int),(x.2.2 : Int)]:=by
  unfold toldT
  rw [take_snoc h,List.flatMap_append]
  simp
theorem toldT_len (s : State) (t : Nat) (h : t ≤ s.links.length) : (toldT s t).length = 2 + 3 * t:=by
  have gen : ∀ l : List Link,(l.flatMap fun x=>[(x.1 : Int),(x.2.1 : Int),(x.2.2 : Int)]).length = 3 * l.length:=by
    intro l
    induction l with
    | nil=>rfl
    | cons x l ih =>
      rw [List.flatMap_cons,List.length_append,ih]
      show 3 + _ = 3 * (l.length + 1)
      omega
  unfold toldT
  rw [List.length_cons,List.length_cons,gen,List.length_take]
  omega
theorem ok_told {f : Addr} {fd : FuncData} (D : Def K mg "told" sTold ["pond"] f fd) (T : Txt K mg CP CR) : FnOk P w K mg base CX0 1 f fd ["pond"] (spC0 1 CP):=by
  refine D.fn.ok scTold (fun vs H Q E h=>?_) (fun cdv A outer s H vs Q E hr h=>?_)
  · obtain ⟨p,W,st,rfl,_⟩:=h
    rfl
  · obtain ⟨p,W,st,rfl,hF,hP,k⟩:=h
    have hsl : sizeLine = 16777216:=sizeLine_eq
    have hlf:=links_few hF
    have hu:=hu_of hr
    rw [step_told] at k
    refine ⟨_,pss_cons (ps_set (i:=1) scTold.nd rfl (Or.inl rfl) (pe_lst (pa_cons (pe_fld (pv 0) rfl) (pa_cons (pe_callB call_lenT (by rfl) T.len PySem.boot_len (pa_cons (pe_fld (pv 0) rfl) pa_nil)) pa_nil))))
      (pss_cons (ps_for PassesOwn.never rfl (pi_list (pe_callB (cr_sortedT rfl) (by rfl) T.sorted boot_sorted (pa_cons (pe_fld (pv 0) rfl) pa_nil))) (pg_name (i:=2) scTold.nd rfl (Or.inl rfl))
        (pss_one (ps_expr (pe_bm PySem.F.plainAttrs_list PySem.F.slot_list_extend PySem.F.type_list_extend mt_extend (pv 1) (pa_cons (pe_lst (pa_cons (pe_ix ix_tup (pv 2) pe_int (fun _ _=>rfl)) (pa_cons (pe_ix ix_tup (pv 2) pe_int (fun _ _=>rfl)) (pa_cons (pe_dget hu (pe_fld (pv 0) rfl) (pv 2) (fun _ _=>rfl)) pa_nil)))) pa_nil)))))
      (pss_one (ps_ret (pv 1)))),?_⟩
    obtain ⟨l0,hl0,hW0⟩:=hP.wts
    refine ⟨_,rfl,rdN T hP ⟨_,rfl,rdW T hP ⟨W,_,rfl,.inl hW0,(by show 2 ≤ sizeLine; decide),fun L hL=>?_⟩⟩⟩
    rw [kvL_len hl0]
    have s1 : Same H (upd H L (.lst [.int (st.n : Int),.int (st.links.length : Int)])):=Same.upd hL
    have hL1 : upd H L (.lst [.int (st.n : Int),.int (st.links.length : Int)]) L = some (.lst ((toldT st 0).map V.int)):=upd_same
    generalize upd H L (.lst [.int (st.n : Int),.int (st.links.length : Int)]) = H1 at s1 hL1 ⊢
    have hP1:=hP.same s1
    obtain ⟨l,hl,hlW⟩:=hP1.wts
    refine ⟨_,rfl,rdW T hP1 ?_⟩
    refine rd_sorted hF hl hlW fun ts S hts hS=>?_
    have s2 : Same H1 (upd H1 S (.lst (ts.map V.ref))):=Same.upd hS
    have nLS : L ≠ S:=ne_of_none hL1 hS
    refine ⟨S,rfl,⟨_,SqL.of upd_same⟩,for_list (K:=K) (a:=S) (xs:=ts.map V.ref) (fun t σ H'=>∃ v2 : Option V,σ = [some (.ref p),some (.ref L),v2] ∧ H' L = some (.lst ((toldT st t).map V.int)) ∧ H' S = some (.lst (ts.map V.ref)) ∧ ∀ b o,H1 b = some o → b ≠ L → H' b = some o)
      ⟨none,rfl,by rw [upd_ne nLS]; exact hL1,upd_same,fun b o e _=>s2 _ _ e⟩ (fun t σ H' _ ⟨_,_,_,q,_⟩=>SqL.of q) ?_ ?_⟩
    · rintro t x σ H' ht ⟨v2,rfl,hL',hS',hk'⟩
      obtain ⟨b,hb,rfl⟩:=ref_get ht
      obtain ⟨y,hy,hby⟩:=paired_get' hts hb
      have hb':=hk' _ _ hby (ne_of hby hL1 (by intro z; cases z))
      have htl : t < st.links.length:=(List.getElem?_eq_some_iff.mp hy).1
      have hlk : Lk st y.1 y.2.1:=⟨y.2.2,List.mem_of_getElem? hy⟩
      have s01 : ∀ b o,H b = some o → H' b = some o:=fun b o e=>hk' b o (s1 b o e) (ne_of_none e hL)
      have hP':=hP.same s01
      obtain ⟨l',hl',hlW'⟩:=hP'.wts
      have eb : H' b = some (.tup ((kF y.1 y.2.1).map kV)):=hb'
      have hg:=DGet.t hlW' eb
      have hw : wtl (foods st y.2.1) y.1 = y.2.2:=wtl_mem (foods_nodup hF _) (mem_foods.mpr (List.mem_of_getElem? hy))
      rcases wts_val hF hl' y.1 y.2.1 with ⟨_,hv⟩ | ⟨q,_⟩
      · rw [hv,hw] at hg
        refine ⟨_,rfl,.inl ⟨rfl,_,SqL.of hL'⟩,_,rfl,b,_,_,.int (y.1 : Int),rfl,rfl,SqT.of hb',rfl,_,rfl,b,_,_,.int (y.2.1 : Int),rfl,rfl,SqT.of hb',rfl,_,rfl,rdW T hP' ⟨_,rfl,W,_,rfl,hg,(by show 3 ≤ sizeLine; decide),fun z hz=>?_⟩⟩
        have hzL : L ≠ z:=ne_of_none hL' hz
        refine ⟨L,z,_,_,rfl,rfl,by rw [upd_ne hzL]; exact hL',upd_same,?_,?_⟩
        · rw [List.length_map,toldT_len st t (by omega)]
          show _ + 3 ≤ _
          omega
        · have hzS : S ≠ z:=ne_of_none hS' hz
          refine ⟨_,rfl,?_,?_,fun b o e hb=>?_⟩
          · rw [upd_same,toldT_snoc hy,List.map_append]
            rfl
          · rw [upd_ne nLS.symm,upd_ne hzS]
            exact hS'
          · have:=hk' b o e hb
            rw [upd_ne hb,upd_ne (ne_of_none this hz)]
            exact this
      · exact absurd hlk q
    · rintro σ H' ⟨v2,rfl,hL',hS',hk'⟩
      have htl : ts.length = st.links.length:=(Paired.length hts).symm
      rw [List.length_map,htl] at hL'
      refine ⟨_,rfl,k.pure rfl hP (fun b o e=>hk' b o (s1 b o e) (ne_of_none e hL)) hL ?_⟩
      rw [hL']
      unfold toldT
      rw [List.take_length]
end
end FwD
namespace FwD
open PySem PySem.Spec PyProof.Rows L2 Fw
open Vbecai (State alive chosen least foods linked lives allLive isKind within nats)
abbrev sIsLink : Stmt:=top 42
abbrev sWeights : Stmt:=top 43
abbrev sWeb : Stmt:=top 44
def spAliveC (C : Addr) : Sp:=fun vs H Q _=>∃ (p W a : Addr) (s : State) (l : List Int),vs = [.ref p,.ref a] ∧ WF s ∧ PondAt C H p W s ∧ H a = some (.lst (l.map V.int)) ∧ OutP C H p W (Vbecai.step s [[2],l]) Q
theorem nats_ns {l : List Int} (h : ∀ x ∈ l,0 ≤ x) : l.map V.int = ns (nats l):=by
  unfold ns nats
  rw [List.map_map]
  refine List.map_congr_left fun x hx=>?_
  show V.int x = V.int ((x.toNat : Nat) : Int)
  rw [Int.toNat_of_nonneg (h x hx)]
section
variable {P : Program} {w : World} {K : PySem.W.Frag} {mg : Str → Option Value} {base : Heap} {CP CR : Addr}
abbrev nAliveC : List Str:=["pond","kinds","kind"]
theorem scAliveC : FnScope nAliveC ["pond","kinds"] (defScope sAliveC):=⟨rfl,rfl,rfl,by decide +kernel,rfl,by decide +kernel,by decide +kernel⟩
theorem ok_aliveC {f : Addr} {fd : FuncData} (D : Def K mg "alive" sAliveC ["pond","kinds"] f fd) (T : Txt K mg CP CR) (CK : Callee P w K mg base "is_kind" 1 ["pond","k"] (spIsKind CP)) (CE : Callee P w K mg base "eaters_by_food" 1 ["pond"] (spEaters CP)) (CL : Callee P w K mg base "living" 2 ["eaters","gone"] (spLiving K)) (CC : Callee P w K mg base "counted" 1 ["kinds"] spCounted) :
    FnOk P w K mg base CX0 3 f fd ["pond","kinds"] (spAliveC CP):=by
  obtain ⟨fK,fdK,mK,kK,bK,GK⟩:=CK
  obtain ⟨fE,fdE,mE,kE,bE,GE⟩:=CE
  obtain ⟨fL,fdL,mL,kL,bL,GL⟩:=CL
  obtain ⟨fC,fdC,mC,kC,bC,GC⟩:=CC
  obtain ⟨t1,h1'⟩:=T.r1
  obtain ⟨t10,h10'⟩:=T.mKinds
  refine D.fn.ok scAliveC (fun vs H Q E h=>?_) (fun cdv A outer s H vs Q E hr h=>?_)
  · obtain ⟨p,W,a,st,l,rfl,_⟩:=h
    rfl
  · obtain ⟨p,W,a,st,l,rfl,hF,hP,ha,k⟩:=h
    have hn10:=hF.n10
    have hsl : sizeLine = 16777216:=sizeLine_eq
    have hr1:=hr.mono (j:=1) (by decide)
    rw [step_alive] at k
    refine ⟨_,pss_cons (ps_if (PW.pt (pw_or (pt_cmpR op_gt (pe_callB call_len_seq (by rfl) T.len PySem.boot_len (pa_cons (pv 1) pa_nil)) (pe_glob (v:=.int 10) (by rfl) h10' ⟨_,rfl⟩) (nomark _))
        (pw_or1 (pt_not (pt_val (pe_callB (cr_all rfl) (by rfl) T.all boot_all (pa_cons (pe_lc (own:=[("kind",2)]) (te:=tCall (spIsKind CP) [] E0 (tCons (tVar 0) (tCons (tVar 2) tNil))) rfl scAliveC.nd (pi_list (pv 1))
          (blk (N:=nAliveC) (sc:=defScope sAliveC) (by decide +kernel))
          (fun _ _ _ _ _=>pg_name (i:=2) scAliveC.nd rfl (Or.inl rfl)) (fun _ _ _ _ _=>pts_nil) (fun _ _ _ _ _=>pe_call GK hr1 (by rfl) mK kK bK .nil pass0 (pa_cons (pv 0) (pa_cons (pv 2) pa_nil)))) pa_nil)))))))
        (pss_one (ps_ret (pe_lst (pa_cons (pe_glob (v:=.int (-1)) (by rfl) h1' ⟨_,rfl⟩) pa_nil)))) pss_nil)
      (pss_one (ps_ret (pe_call GC hr1 (by rfl) mC kC bC .nil pass0 (pa_cons (pe_call GL hr (by rfl) mL kL bL .nil pass0 (pa_cons (pe_call GE hr1 (by rfl) mE kE bE .nil pass0 (pa_cons (pv 0) pa_nil)) (pa_cons (pv 1) pa_nil))) pa_nil)))),?_⟩
    have bad : ∀ H1,Same H H1 → Vbecai.inRange st (.alive l) = false → ∀ q,H1 q = none → Q (.ref q) (upd H1 q (.lst [.int (-1)])):=fun H1 h1 hb q hq=>by
      rw [hb,if_pos rfl] at k
      exact k.pure rfl hP (Same.upd' h1 (h1.free hq)) (h1.free hq) upd_same
    refine ⟨_,rfl,a,_,rfl,.inl (SqL.of ha),_,_,rfl,rfl,_,rfl,?_⟩
    rw [List.length_map]
    refine iteD (fun hlt=>?_) (fun hlt=>?_)
    · refine iteT ⟨(by show 1 ≤ sizeLine; decide),fun q hq=>bad H Same.refl ?_ q hq⟩
      show (decide (l.length ≤ 10) && _) = false
      rw [decide_eq_false (by omega)]
      rfl
    · refine ⟨_,rfl,a,rfl,⟨_,SqL.of ha⟩,fun Z hZ=>?_⟩
      refine lc_listR (K:=K) (a:=a) (xs:=l.map V.int) (σ:=[some (.ref p),some (.ref a),none]) (fun x=>match x with | .int i=>[V.bl (isKind st i)] | _=>[]) hZ (SqL.of ha) (by rw [List.length_map]; omega) (fun i x H1 C1 C0 hi h1 k1 k0=>?_) (fun H1 h1 hZ1=>?_)
      · rw [List.getElem?_map] at hi
        obtain ⟨z,hz,rfl⟩ : ∃ z,l[i]? = some z ∧ V.int z = x:=by
          cases hz : l[i]? with
          | none=>rw [hz] at hi; cases hi
          | some z=>rw [hz] at hi; exact ⟨z,rfl,Option.some.inj hi⟩
        exact ⟨rfl,yesT (iteT ⟨_,rfl,_,rfl,p,W,st,z,rfl,hP.same h1,k1 _ _ Same.refl rfl⟩)⟩
      · have hZ2 : H1 Z = some (.lst ((l.map fun i=>isKind st i).map V.bl)):=by
          rw [hZ1,List.flatMap_map]
          have : (l.flatMap fun a=>(fun x : V=>match x with | .int i=>[V.bl (isKind st i)] | _=>[]) (V.int a)) = l.flatMap fun a=>[V.bl (isKind st a)]:=rfl
          rw [this,flat_map,List.map_map]
          rfl
        have eall : ((l.map fun i=>isKind st i).all id) = l.all fun i=>isKind st i:=by
          rw [List.all_map]
          rfl
        refine ⟨Z,l.map fun i=>isKind st i,rfl,SqL.of hZ2,_,rfl,?_⟩
        rw [eall]
        have hin : Vbecai.inRange st (.alive l) = l.all fun i=>isKind st i:=by
          show (decide (l.length ≤ 10) && l.all fun i=>isKind st i) = _
          rw [decide_eq_true (by omega)]
          rfl
        cases hall : l.all fun i=>isKind st i with
        | false=>exact iteT ⟨(by show 1 ≤ sizeLine; decide),fun q hq=>bad H1 h1 (by rw [hin,hall]) q hq⟩
        | true =>
          rw [hin,hall,if_neg (by simp)] at k
          have hnn : ∀ x ∈ l,0 ≤ x:=fun x hx=>by
            have:=isKind_iff.mp (List.all_eq_true.mp hall x hx)
            omega
          refine iteF ⟨_,rfl,p,W,st,rfl,hF,hP.same h1,fun H2 Ea h2 hEa hE=>?_⟩
          refine ⟨_,rfl,Ea,a,st,nats l,rfl,hF,hE,SqL.of (by rw [h2 _ _ (h1 _ _ ha),nats_ns hnn]),fun H3 B h3 hB hB3=>?_⟩
          have s3 : Same H H3:=(h1.trans h2).trans h3
          have hal:=alive_len (g:=nats l) hF
          refine ⟨B,_,rfl,hB3,by rw [ns_len]; omega,fun H4 q h4 hq hq4=>?_⟩
          refine k.pure rfl hP (s3.trans h4) (s3.free hq) ?_
          rw [hq4,counted_ns]
def spIsLink : Sp:=fun vs H Q _=>∃ (n f e x : Int),vs = [.int n,.int f,.int e,.int x] ∧ ∀ b : Bool,(b = true ↔ isLink n (f,e,x)) → Q (.bl b) H
abbrev nIsLink : List Str:=["n","food","eater","weight"]
theorem scIsLink : FnScope nIsLink nIsLink (defScope sIsLink):=⟨rfl,rfl,rfl,by decide +kernel,rfl,by decide +kernel,by decide +kernel⟩
theorem ok_isLink {f : Addr} {fd : FuncData} (D : Def K mg "is_link" sIsLink nIsLink f fd) (T : Txt K mg CP CR) : FnOk P w K mg base CX0 1 f fd nIsLink spIsLink:=by
  obtain ⟨tw,hw'⟩:=T.mWeight
  refine D.fn.ok scIsLink (fun vs H Q E h=>?_) (fun cdv A outer s H vs Q E hr h=>?_)
  · obtain ⟨n,f,e,x,rfl,_⟩:=h
    rfl
  · obtain ⟨n,f,e,x,rfl,k⟩:=h
    refine ⟨_,pss_cons (ps_if (PW.pt (pw_or (pt_not (pt_chain op_le op_le pe_int (pv 1) (pv 0))) (pw_or1 (pt_not (pt_chain op_le op_le pe_int (pv 2) (pv 0)))))) (pss_one (ps_ret pe_bl)) pss_nil)
      (pss_one (ps_ret (pe_and (pe_cmpR op_ne (pv 1) (pv 2) (nomark _)) (pe_one (pe_chain op_le op_le pe_int (pv 3) (pe_glob (v:=.int 1000) (by rfl) hw' ⟨_,rfl⟩)))))),?_⟩
    unfold isLink at k
    have bad : ¬ (0 ≤ f ∧ f ≤ n ∧ 1 ≤ e ∧ e ≤ n) → Q (.bl false) H:=fun hb=>k false ⟨(nomatch ·),fun z=>absurd ⟨z.1,z.2.1,z.2.2.1,z.2.2.2.1⟩ hb⟩
    refine ⟨_,rfl,_,_,rfl,rfl,_,rfl,iteD (fun a1=>?_) (fun a1=>?_)⟩
    rotate_left
    · exact ⟨_,rfl,iteT (iteT (bad fun z=>a1 z.1))⟩
    refine ⟨_,rfl,_,_,rfl,rfl,_,rfl,?_⟩
    by_cases a2 : f ≤ n
    rotate_left
    · rw [decide_eq_false a2]
      exact iteT (iteT (bad fun z=>a2 z.2.1))
    rw [decide_eq_true a2]
    refine iteF ⟨_,rfl,_,_,rfl,rfl,_,rfl,iteD (fun a3=>?_) (fun a3=>?_)⟩
    rotate_left
    · exact ⟨_,rfl,iteT (bad fun z=>a3 z.2.2.1)⟩
    refine ⟨_,rfl,_,_,rfl,rfl,_,rfl,?_⟩
    by_cases a4 : e ≤ n
    rotate_left
    · rw [decide_eq_false a4]
      exact iteT (bad fun z=>a4 z.2.2.2)
    rw [decide_eq_true a4]
    refine iteF ⟨_,rfl,_,rfl,rfl,_,rfl,?_⟩
    by_cases a5 : f = e
    · rw [decide_eq_true (by rw [a5])]
      exact iteF (k false ⟨(nomatch ·),fun z=>absurd a5 z.2.2.2.2.1⟩)
    · rw [decide_eq_false (fun z=>a5 (V.int.inj z))]
      refine iteT ⟨_,rfl,_,_,rfl,rfl,_,rfl,iteD (fun a6=>?_) (fun a6=>?_)⟩
      · refine ⟨_,_,rfl,rfl,k (decide (x ≤ 1000)) ?_⟩
        rw [decide_eq_true_iff]
        exact ⟨fun z=>⟨a1,a2,a3,a4,a5,a6,z⟩,fun z=>z.2.2.2.2.2.2⟩
      · exact k false ⟨(nomatch ·),fun z=>absurd z.2.2.2.2.2.1 a6⟩
def spWeights : Sp:=fun vs H Q _=>∃ (n : Int) (a : Addr) (l : List Int),vs = [.int n,.ref a] ∧ H a = some (.lst (l.map V.int)) ∧
  (∀ H',Same H H' → (∀ s,Vbecai.inRange s (.web n l) = false) → Q .non H') ∧
  (∀ (H' : Hp) (d : Addr) (m : Nat),Same H H' → H d = none → l.length = 3 * m → m ≤ 100 → (∀ i,i < m → isLink n (tripAt l i)) → Apart (linksTo l m) → H' d = some (.dT (kvL (linksTo l m))) → Q (.ref d) H')
abbrev nWts : List Str:=["n","links","weights","place","food","eater","weight"]
theorem scWts : FnScope nWts ["n","links"] (defScope sWeights):=⟨rfl,rfl,rfl,by decide +kernel,rfl,by decide +kernel,by decide +kernel⟩
theorem rg3_all : ∀ m : Fin 101,Builtin.Range.small 0 ((3 * m.val : Nat) : Int) 3 = true ∧ Builtin.Range.rangeSize 0 ((3 * m.val : Nat) : Int) 3 = (m.val : Int):=by decide +kernel
theorem rg3 {m : Nat} (h : m ≤ 100) : RgC 0 ((3 * m : Nat) : Int) 3 m:=⟨by decide,by decide,(rg3_all ⟨m,by omega⟩).1,(rg3_all ⟨m,by omega⟩).2⟩
theorem getD_at {l : List Int} {j : Nat} (h : j < l.length) : (l.map V.int)[j]? = some (.int (l.getD j 0)):=by
  rw [List.getElem?_map,List.getD_eq_getElem?_getD,List.getElem?_eq_getElem h]
  rfl
theorem apart_uniq {l : List Link} (h : Fw.Apart l) : ∀ x ∈ l,∀ y ∈ l,x.1 = y.1 → x.2.1 = y.2.1 → x = y:=by
  induction l with
  | nil=>intro x hx; simp at hx
  | cons z l ih =>
    rw [Fw.Apart,List.pairwise_cons] at h
    intro x hx y hy e1 e2
    rcases List.mem_cons.mp hx with hxz | hx'
    · rcases List.mem_cons.mp hy with hyz | hy'
      · rw [hxz,hyz]
      · exact absurd ⟨by rw [← hxz]; exact e1,by rw [← hxz]; exact e2⟩ (h.1 y hy')
    · rcases List.mem_cons.mp hy with hyz | hy'
      · exact absurd ⟨by rw [← hyz]; exact e1.symm,by rw [← hyz]; exact e2.symm⟩ (h.1 x hx')
      · exact ih h.2 x hx' y hy' e1 e2
theorem linksTo_prefix (l : List Int) {i m : Nat} (h : i ≤ m) : ∃ r,linksTo l m = linksTo l i ++ r:=by
  unfold linksTo
  refine ⟨(List.range' i (m - i)).map fun i=>natT (tripAt l i),?_⟩
  rw [← List.map_append,List.range_eq_range',List.range_eq_range']
  congr 1
  have:=List.range'_append_1 (s:=0) (m:=i) (n:=m - i)
  rw [Nat.zero_add,show i + (m - i) = m by omega] at this
  exact this.symm
theorem ok_weights {f : Addr} {fd : FuncData} (D : Def K mg "weights_of" sWeights ["n","links"] f fd) (T : Txt K mg CP CR) (CI : Callee P w K mg base "is_link" 1 nIsLink spIsLink) : FnOk P w K mg base CX0 2 f fd ["n","links"] spWeights:=by
  obtain ⟨fI,fdI,mI,kI,bI,GI⟩:=CI
  obtain ⟨tl,hl'⟩:=T.mLinks
  refine D.fn.ok scWts (fun vs H Q E h=>?_) (fun cdv A outer s H vs Q E hr h=>?_)
  · obtain ⟨n,a,l,rfl,_⟩:=h
    rfl
  · obtain ⟨n,a,l,rfl,ha,kN,kD⟩:=h
    have hsl : sizeLine = 16777216:=sizeLine_eq
    have hu:=hu_of hr
    refine ⟨_,pss_cons (ps_if (PW.pt (pw_or (pt_cmpR op_gt (pe_callB call_len_seq (by rfl) T.len PySem.boot_len (pa_cons (pv 1) pa_nil)) (pe_glob (v:=.int 300) (by rfl) hl' ⟨_,rfl⟩) (nomark _))
        (pw_or1 (pt_cmpR op_ne (pe_op op_mod (pe_callB call_len_seq (by rfl) T.len PySem.boot_len (pa_cons (pv 1) pa_nil)) pe_int) pe_int (nomark _))))) (pss_one (ps_ret pe_non)) pss_nil)
      (pss_cons (ps_set (i:=2) scWts.nd rfl (Or.inl rfl) pe_dnewT)
      (pss_cons (ps_for PassesOwn.never rfl (pi_range3 (by rfl) T.range (pa_cons pe_int (pa_cons (pe_callB call_len_seq (by rfl) T.len PySem.boot_len (pa_cons (pv 1) pa_nil)) (pa_cons pe_int pa_nil)))) (pg_name (i:=3) scWts.nd rfl (Or.inl rfl))
        (pss_cons (ps_set (i:=4) scWts.nd rfl (Or.inl rfl) (pe_ix ix_list (pv 1) (pv 3) (fun _ _=>rfl)))
        (pss_cons (ps_set (i:=5) scWts.nd rfl (Or.inl rfl) (pe_ix ix_list (pv 1) (pe_op op_add (pv 3) pe_int) (fun _ _=>rfl)))
        (pss_cons (ps_set (i:=6) scWts.nd rfl (Or.inl rfl) (pe_ix ix_list (pv 1) (pe_op op_add (pv 3) pe_int) (fun _ _=>rfl)))
        (pss_cons (ps_if (PW.pt (pw_or (pt_not (pt_val (pe_call GI hr (by rfl) mI kI bI .nil pass0 (pa_cons (pv 0) (pa_cons (pv 4) (pa_cons (pv 5) (pa_cons (pv 6) pa_nil)))))))
            (pw_or1 (pt_cmp (pc_din hu (pe_tup (pa_cons (pv 4) (pa_cons (pv 5) pa_nil))) (pv 2)) (by with_unfolding_all rfl))))) (pss_one (ps_ret pe_non)) pss_nil)
          (pss_one (ps_dput hu (pv 2) (pe_tup (pa_cons (pv 4) (pa_cons (pv 5) pa_nil))) (pv 6) rfl)))))))
      (pss_one (ps_ret (pv 2))))),?_⟩
    refine ⟨_,rfl,a,_,rfl,.inl (SqL.of ha),_,_,rfl,rfl,_,rfl,?_⟩
    rw [List.length_map]
    refine iteD (fun hlt=>?_) (fun hlt=>?_)
    · exact iteT (kN H Same.refl fun s=>web_bad (.inr (by omega)))
    refine ⟨_,rfl,a,_,rfl,.inl (SqL.of ha),_,_,rfl,rfl,(by show (0 : Int) < 3; decide),rfl,_,rfl,?_⟩
    rw [List.length_map]
    by_cases hm3 : l.length % 3 = 0
    rotate_left
    · rw [decide_eq_false (fun z=>hm3 (by have:=V.int.inj z; omega))]
      exact iteT (kN H Same.refl fun s=>web_bad (.inl hm3))
    obtain ⟨m,hm⟩ : ∃ m,l.length = 3 * m:=⟨l.length / 3,by omega⟩
    have hm100 : m ≤ 100:=by omega
    rw [decide_eq_true (by show V.int ((l.length : Int) % 3) = V.int 0; congr 1; omega)]
    refine iteF (fun d hd=>?_)
    have s1 : Same H (upd H d (.dT [])):=Same.upd hd
    refine ⟨_,rfl,a,_,rfl,.inl (SqL.of (s1 _ _ ha)),0,_,3,m,rfl,by rw [List.length_map,hm]; exact rg3 hm100,?_⟩
    refine for_rangeC (lo:=0) (c:=3) (n:=m) (fun i σ H'=>∃ (v3 v4 v5 v6 : Option V),σ = [some (.int n),some (.ref a),some (.ref d),v3,v4,v5,v6] ∧ Same H H' ∧ H' d = some (.dT (kvL (linksTo l i))) ∧ (∀ j,j < i → isLink n (tripAt l j)) ∧ Apart (linksTo l i))
      ⟨none,none,none,none,rfl,s1,upd_same,fun j hj=>by omega,.nil⟩ ?_ ?_
    · rintro i σ H' hi ⟨v3,v4,v5,v6,rfl,hs,hd',hlk,hap⟩
      have ha':=hs _ _ ha
      refine ⟨_,rfl,_,rfl,a,_,_,_,rfl,rfl,SqL.of ha',at_of (j:=3 * i) (by omega) (getD_at (by omega)),?_⟩
      refine ⟨_,rfl,_,rfl,_,_,rfl,rfl,a,_,_,_,rfl,rfl,SqL.of ha',at_of (j:=3 * i + 1) (by omega) (getD_at (by omega)),?_⟩
      refine ⟨_,rfl,_,rfl,_,_,rfl,rfl,a,_,_,_,rfl,rfl,SqL.of ha',at_of (j:=3 * i + 2) (by omega) (getD_at (by omega)),?_⟩
      refine ⟨_,rfl,_,rfl,_,rfl,_,rfl,n,_,_,_,rfl,fun b hb=>⟨_,rfl,?_⟩⟩
      have eb : (l.getD (3 * i) 0,l.getD (3 * i + 1) 0,l.getD (3 * i + 2) 0) = tripAt l i:=rfl
      rw [eb] at hb
      cases b with
      | false =>
        refine iteT (iteT (kN H' hs fun s=>?_))
        have hno : ¬ isLink n (tripAt l i):=fun z=>by have:=hb.mpr z; cases this
        cases q : Vbecai.inRange s (.web n l) with
        | false=>rfl
        | true=>exact absurd ((web_range hm hm100).mp q).2.1 (fun z=>hno (z i hi))
      | true =>
        have hyes:=hb.mp rfl
        have hyes':=hyes
        unfold isLink at hyes'
        refine iteF ⟨_,rfl,_,rfl,(by show 2 ≤ sizeLine; decide),fun t ht=>?_⟩
        have s2 : Same H' (upd H' t (.tup [.int (l.getD (3 * i) 0),.int (l.getD (3 * i + 1) 0)])):=Same.upd ht
        obtain ⟨fn,hfn⟩ : ∃ fn : Nat,l.getD (3 * i) 0 = (fn : Int):=⟨(l.getD (3 * i) 0).toNat,by have : (tripAt l i).1 = l.getD (3 * i) 0:=rfl; omega⟩
        obtain ⟨en,hen⟩ : ∃ en : Nat,l.getD (3 * i + 1) 0 = (en : Int):=⟨(l.getD (3 * i + 1) 0).toNat,by have : (tripAt l i).2.1 = l.getD (3 * i + 1) 0:=rfl; omega⟩
        obtain ⟨wn,hwn⟩ : ∃ wn : Nat,l.getD (3 * i + 2) 0 = (wn : Int):=⟨(l.getD (3 * i + 2) 0).toNat,by have : (tripAt l i).2.2 = l.getD (3 * i + 2) 0:=rfl; omega⟩
        have hx : natT (tripAt l i) = (fn,en,wn):=by
          show ((l.getD (3 * i) 0).toNat,(l.getD (3 * i + 1) 0).toNat,(l.getD (3 * i + 2) 0).toNat) = _
          rw [hfn,hen,hwn]
          rfl
        have et : upd H' t (.tup [.int (l.getD (3 * i) 0),.int (l.getD (3 * i + 1) 0)]) t = some (.tup ((kF fn en).map kV)):=by
          rw [upd_same,hfn,hen]
          rfl
        refine ⟨_,rfl,d,_,rfl,DGet.t (s2 _ _ hd') et,_,rfl,?_⟩
        by_cases hdup : ∃ y ∈ linksTo l i,y.1 = fn ∧ y.2.1 = en
        · obtain ⟨y,hy,e1,e2⟩:=hdup
          have hv : valV (kvL (linksTo l i)) (kF fn en) = some (.int (y.2.2 : Int)):=kvL_some (apart_uniq hap) (by rw [← e1,← e2]; exact hy)
          rw [hv]
          refine iteT (kN _ (hs.trans s2) fun s=>?_)
          cases q : Vbecai.inRange s (.web n l) with
          | false=>rfl
          | true =>
            have hA:=((web_range hm hm100).mp q).2.2
            obtain ⟨r,hr'⟩:=linksTo_prefix l (show i + 1 ≤ m by omega)
            rw [hr',linksTo_succ,hx] at hA
            have:=(List.pairwise_append.mp (List.pairwise_append.mp hA).1).2.2 y hy (fn,en,wn) (by simp)
            exact absurd ⟨e1,e2⟩ this
        · have hv : valV (kvL (linksTo l i)) (kF fn en) = none:=kvL_none fun y hy z=>hdup ⟨y,hy,z⟩
          rw [hv]
          refine iteF ⟨_,rfl,_,rfl,_,rfl,_,rfl,(by show 2 ≤ sizeLine; decide),fun t2 ht2=>?_⟩
          have s3:=Same.upd' (o:=.tup [.int (l.getD (3 * i) 0),.int (l.getD (3 * i + 1) 0)]) s2 (s2.free ht2)
          have hd3:=s3 _ _ hd'
          have et2 : upd (upd H' t (.tup [.int (l.getD (3 * i) 0),.int (l.getD (3 * i + 1) 0)])) t2 (.tup [.int (l.getD (3 * i) 0),.int (l.getD (3 * i + 1) 0)]) t2 = some (.tup ((kF fn en).map kV)):=by
            rw [upd_same,hfn,hen]
            rfl
          have hkl : (kvL (linksTo l i)).length = i:=by
            unfold kvL linksTo
            simp
          refine ⟨d,_,rfl,DPut.t hd3 et2 (by rw [hkl]; omega),?_⟩
          refine ⟨_,_,_,_,rfl,Same.upd' (hs.trans s3) hd,?_,fun j hj=>?_,?_⟩
          · rw [upd_same,putK_new _ hv,linksTo_succ,hx,hwn]
            unfold kvL
            rw [List.map_append]
            rfl
          · by_cases e : j = i
            · rw [e]; exact hyes
            · exact hlk j (by omega)
          · rw [linksTo_succ,hx]
            exact apart_snoc hap fun y hy z=>hdup ⟨y,hy,z⟩
    · rintro σ H' ⟨v3,v4,v5,v6,rfl,hs,hd',hlk,hap⟩
      exact ⟨_,rfl,kD H' d m hs hd hm hm100 hlk hap hd'⟩
def spWeb (C : Addr) : Sp:=fun vs H Q _=>∃ (p W a : Addr) (s : State) (n : Int) (l : List Int),vs = [.ref p,.int n,.ref a] ∧ WF s ∧ PondAt C H p W s ∧ H a = some (.lst (l.map V.int)) ∧ OutP C H p W (Vbecai.step s [[0,n],l]) Q
abbrev nWeb : List Str:=["pond","n","links","weights"]
theorem scWeb : FnScope nWeb ["pond","n","links"] (defScope sWeb):=⟨rfl,rfl,rfl,by decide +kernel,rfl,by decide +kernel,by decide +kernel⟩
theorem ok_web {f : Addr} {fd : FuncData} (D : Def K mg "web" sWeb ["pond","n","links"] f fd) (T : Txt K mg CP CR) (CI : Callee P w K mg base "weights_of" 2 ["n","links"] spWeights) : FnOk P w K mg base CX0 3 f fd ["pond","n","links"] (spWeb CP):=by
  obtain ⟨fI,fdI,mI,kI,bI,GI⟩:=CI
  obtain ⟨t1,h1'⟩:=T.r1
  obtain ⟨t10,h10'⟩:=T.mKinds
  refine D.fn.ok scWeb (fun vs H Q E h=>?_) (fun cdv A outer s H vs Q E hr h=>?_)
  · obtain ⟨p,W,a,st,n,l,rfl,_⟩:=h
    rfl
  · obtain ⟨p,W,a,st,n,l,rfl,hF,hP,ha,k⟩:=h
    rw [step_web] at k
    refine ⟨_,pss_cons (ps_if (pt_not (pt_chain op_le op_le pe_int (pv 1) (pe_glob (v:=.int 10) (by rfl) h10' ⟨_,rfl⟩))) (pss_one (ps_ret (pe_lst (pa_cons (pe_glob (v:=.int (-1)) (by rfl) h1' ⟨_,rfl⟩) pa_nil)))) pss_nil)
      (pss_cons (ps_set (i:=3) scWeb.nd rfl (Or.inl rfl) (pe_call GI hr (by rfl) mI kI bI .nil pass0 (pa_cons (pv 1) (pa_cons (pv 2) pa_nil))))
      (pss_cons (ps_if (pt_cmp (pc_isN (pv 3)) rfl) (pss_one (ps_ret (pe_lst (pa_cons (pe_glob (v:=.int (-1)) (by rfl) h1' ⟨_,rfl⟩) pa_nil)))) pss_nil)
      (pss_cons (ps_fld (pv 0) (pv 1) rfl)
      (pss_cons (ps_fld (pv 0) (pv 3) rfl)
      (pss_one (ps_ret (pe_lst (pa_cons pe_int pa_nil)))))))),?_⟩
    have bad : ∀ H1,Same H H1 → Vbecai.inRange st (.web n l) = false → ∀ q,H1 q = none → Q (.ref q) (upd H1 q (.lst [.int (-1)])):=fun H1 h1 hb q hq=>by
      rw [hb,if_pos rfl] at k
      exact k.pure rfl hP (Same.upd' h1 (h1.free hq)) (h1.free hq) upd_same
    refine ⟨_,rfl,_,_,rfl,rfl,_,rfl,iteD (fun a1=>?_) (fun a1=>?_)⟩
    rotate_left
    · exact ⟨_,rfl,iteT ⟨(by show 1 ≤ sizeLine; decide),fun q hq=>bad H Same.refl (web_badn fun z=>a1 z.1) q hq⟩⟩
    refine ⟨_,_,rfl,rfl,_,rfl,?_⟩
    by_cases a2 : n ≤ 10
    rotate_left
    · rw [decide_eq_false a2]
      exact iteT ⟨(by show 1 ≤ sizeLine; decide),fun q hq=>bad H Same.refl (web_badn fun z=>a2 z.2) q hq⟩
    rw [decide_eq_true a2]
    refine iteF ⟨_,rfl,_,rfl,n,a,l,rfl,ha,fun H1 h1 hb=>?_,fun H1 d m h1 hd hm hm100 hlk hap hd1=>?_⟩
    · exact ⟨_,rfl,_,rfl,iteT ⟨(by show 1 ≤ sizeLine; decide),fun q hq=>bad H1 h1 (hb st) q hq⟩⟩
    · have hin : Vbecai.inRange st (.web n l) = true:=(web_range hm hm100).mpr ⟨⟨a1,a2⟩,hlk,hap⟩
      rw [hin,if_neg (by simp)] at k
      obtain ⟨hwf,hperm⟩:=web_state hm ⟨a1,a2⟩ hlk hap
      obtain ⟨⟨dx,hins⟩,_⟩:=hP.same h1
      have npd : p ≠ d:=ne_of hins hd1 (by intro z; cases z)
      obtain ⟨nn,rfl⟩ : ∃ nn : Nat,n = (nn : Int):=⟨n.toNat,by omega⟩
      refine ⟨_,rfl,_,rfl,iteF ⟨_,rfl,_,rfl,p,CP,dx,_,rfl,hins,T.clP,T.nPn,pf_len _ _,?_⟩⟩
      rw [pf_putN]
      refine ⟨_,rfl,_,rfl,p,CP,dx,_,rfl,upd_same,T.clP,T.nPw,pf_len _ _,?_⟩
      rw [pf_putW]
      refine ⟨(by show 1 ≤ sizeLine; decide),fun q hq=>?_⟩
      have hqp : p ≠ q:=ne_of_none upd_same hq
      have hq1 : H1 q = none:=by
        rw [upd_ne hqp.symm,upd_ne hqp.symm] at hq
        exact hq
      have hdq : d ≠ q:=ne_of_none hd1 hq1
      refine k _ q d ⟨⟨dx,?_⟩,linksTo l m,hperm.symm,?_⟩ (fun b o e hbp hbW=>?_) (h1.free hq1) upd_same
      · rw [upd_ne hqp,upd_same]
        rfl
      · rw [upd_ne hdq,upd_ne npd.symm,upd_ne npd.symm]
        exact hd1
      · have:=h1 b o e
        rw [upd_ne (ne_of_none this hq1),upd_ne hbp,upd_ne hbp]
        exact this
end
end FwD
namespace FwD
open PySem PySem.Spec PyProof.Rows L2 Fw
open Vbecai (State alive chosen least foods linked lives allLive isKind within nats)
abbrev sCW : Stmt:=top 59
abbrev sRemove : Stmt:=top 60
abbrev sWeigh : Stmt:=top 61
def lessI (k i : Nat) : Nat:=if k < i then i - 1 else i
def keepK (k : Nat) (x : Link) : Bool:=x.1 != k && x.2.1 != k
def renK (k : Nat) (x : Link) : Link:=(lessI k x.1,lessI k x.2.1,x.2.2)
theorem without_links (s : State) (k : Nat) : (Vbecai.without s k).links = (s.links.filter (keepK k)).map (renK k):=rfl
def keptT (l : List Link) (k t : Nat) : List Link:=((l.take t).filter (keepK k)).map (renK k)
theorem keptT_snoc {l : List Link} {k t : Nat} {x : Link} (h : l[t]? = some x) : keptT l k (t + 1) = if keepK k x = true then keptT l k t ++ [renK k x] else keptT l k t:=by
  unfold keptT
  rw [take_snoc h,filter_snoc]
  split
  · rw [List.map_append]
    rfl
  · rfl
theorem lessI_inj {k a b : Nat} (ha : a ≠ k) (hb : b ≠ k) (h : lessI k a = lessI k b) : a = b:=by
  unfold lessI at h
  split at h <;> split at h <;> omega
theorem keptT_new {l : List Link} {k t : Nat} {x : Link} (hu : ∀ x ∈ l,∀ y ∈ l,x.1 = y.1 → x.2.1 = y.2.1 → x = y) (hn : l.Nodup) (h : l[t]? = some x) (hk : keepK k x = true) : valV (kvL (keptT l k t)) (kF (lessI k x.1) (lessI k x.2.1)) = none:=by
  refine kvL_none fun y hy ⟨e1,e2⟩=>?_
  unfold keptT at hy
  obtain ⟨z,hz,rfl⟩:=List.mem_map.mp hy
  obtain ⟨hz1,hz2⟩:=List.mem_filter.mp hz
  unfold keepK at hk hz2
  simp only [Bool.and_eq_true,bne_iff_ne,ne_eq] at hk hz2
  have a1:=lessI_inj hz2.1 hk.1 e1
  have a2:=lessI_inj hz2.2 hk.2 e2
  have hzl : z ∈ l:=List.mem_of_mem_take hz1
  have:=hu z hzl x (List.mem_of_getElem? h) a1 a2
  subst this
  obtain ⟨j,hj,hjz⟩:=List.mem_take_iff_getElem.mp hz1
  have ht:=(List.getElem?_eq_some_iff.mp h)
  obtain ⟨ht1,ht2⟩:=ht
  have:=(List.getElem_inj hn).mp (hjz.trans ht2.symm)
  omega
theorem keptT_len (l : List Link) (k t : Nat) : (keptT l k t).length ≤ l.length:=by
  unfold keptT
  rw [List.length_map]
  refine Nat.le_trans (List.length_filter_le _ _) ?_
  rw [List.length_take]
  omega
def spCW : Sp:=fun vs H Q _=>∃ (k x : Nat),vs = [nv k,nv x] ∧ (k ≠ x) ∧ Q (nv (lessI k x)) H
theorem links_nodup {s : State} (F : WF s) : s.links.Nodup:=F.srt.imp fun {a b} h z=>by
  subst z
  exact Less.irr (less_iff.mp h)
section
variable {P : Program} {w : World} {K : PySem.W.Frag} {mg : Str → Option Value} {base : Heap} {CP CR : Addr}
theorem scCW : FnScope ["k","kind"] ["k","kind"] (defScope sCW):=⟨rfl,rfl,rfl,by decide +kernel,rfl,by decide +kernel,by decide +kernel⟩
theorem ok_cw {f : Addr} {fd : FuncData} (D : Def K mg "called_without" sCW ["k","kind"] f fd) (T : Txt K mg CP CR) : FnOk P w K mg base CX0 1 f fd ["k","kind"] spCW:=by
  refine D.fn.ok scCW (fun vs H Q E h=>?_) (fun cdv A outer s H vs Q E hr h=>?_)
  · obtain ⟨k,x,rfl,_⟩:=h
    rfl
  · obtain ⟨kk,x,rfl,hne,k⟩:=h
    refine ⟨_,pss_one (ps_ret (pe_ifExp (pt_cmpR op_gt (pv 1) (pv 0) (nomark _)) (pe_op op_sub (pv 1) pe_int) (pv 1))),?_⟩
    refine ⟨_,rfl,_,rfl,_,_,rfl,rfl,_,rfl,iteD (fun h=>?_) (fun h=>?_)⟩
    · refine ⟨_,rfl,_,_,rfl,rfl,?_⟩
      have e : lessI kk x = x - 1:=if_pos (by omega)
      rw [e] at k
      show Q (V.int ((x : Int) - 1)) H
      rw [show (x : Int) - 1 = ((x - 1 : Nat) : Int) by omega]
      exact k
    · have e : lessI kk x = x:=if_neg (by omega)
      rw [e] at k
      exact ⟨_,rfl,k⟩
abbrev nRem : List Str:=["pond","k","kept","link"]
theorem scRem : FnScope nRem ["pond","k"] (defScope sRemove):=⟨rfl,rfl,rfl,by decide +kernel,rfl,by decide +kernel,by decide +kernel⟩
theorem ok_remove {f : Addr} {fd : FuncData} (D : Def K mg "remove" sRemove ["pond","k"] f fd) (T : Txt K mg CP CR) (CK : Callee P w K mg base "is_kind" 1 ["pond","k"] (spIsKind CP)) (CW : Callee P w K mg base "called_without" 1 ["k","kind"] spCW) :
    FnOk P w K mg base CX0 2 f fd ["pond","k"] (spC1 15 CP):=by
  obtain ⟨fK,fdK,mK,kK,bK,GK⟩:=CK
  obtain ⟨fW,fdW,mW,kW,bW,GW⟩:=CW
  obtain ⟨t1,h1'⟩:=T.r1
  obtain ⟨t8,h8'⟩:=T.r8
  refine D.fn.ok scRem (fun vs H Q E h=>?_) (fun cdv A outer s H vs Q E hr h=>?_)
  · obtain ⟨p,W,st,kk,rfl,_⟩:=h
    rfl
  · obtain ⟨p,W,st,kk,rfl,hF,hP,k⟩:=h
    have hn10:=hF.n10
    have hn1:=hF.n1
    have hsl : sizeLine = 16777216:=sizeLine_eq
    have hu:=hu_of hr
    have hlf:=links_few hF
    rw [step_remove] at k
    refine ⟨_,pss_cons (ps_if (pt_not (pt_val (pe_call GK hr (by rfl) mK kK bK .nil pass0 (pa_cons (pv 0) (pa_cons (pv 1) pa_nil))))) (pss_one (ps_ret (pe_lst (pa_cons (pe_glob (v:=.int (-1)) (by rfl) h1' ⟨_,rfl⟩) pa_nil)))) pss_nil)
      (pss_cons (ps_if (pt_cmpR op_eq (pe_fld (pv 0) rfl) pe_int (nomark _)) (pss_one (ps_ret (pe_lst (pa_cons (pe_glob (v:=.int (-8)) (by rfl) h8' ⟨_,rfl⟩) pa_nil)))) pss_nil)
      (pss_cons (ps_set (i:=2) scRem.nd rfl (Or.inl rfl) pe_dnewT)
      (pss_cons (ps_lock (ps_for PassesOwn.never rfl (pi_keys (pe_fld (pv 0) rfl)) (pg_name (i:=3) scRem.nd rfl (Or.inl rfl))
        (pss_one (ps_if (pt_cmpR op_notIn_seq (pv 1) (pv 3) (by with_unfolding_all rfl))
          (pss_one (ps_dput hu (pv 2) (pe_tup (pa_cons (pe_call GW hr (by rfl) mW kW bW .nil pass0 (pa_cons (pv 1) (pa_cons (pe_ix ix_tup (pv 3) pe_int (fun _ _=>rfl)) pa_nil))) (pa_cons (pe_call GW hr (by rfl) mW kW bW .nil pass0 (pa_cons (pv 1) (pa_cons (pe_ix ix_tup (pv 3) pe_int (fun _ _=>rfl)) pa_nil))) pa_nil))) (pe_dget hu (pe_fld (pv 0) rfl) (pv 3) (fun _ _=>rfl)) rfl)) pss_nil))))
      (pss_cons (ps_fldaug (pv 0) pe_int in_sub)
      (pss_cons (ps_fld (pv 0) (pv 2) rfl)
      (pss_one (ps_ret (pe_lst (pa_cons (pe_fld (pv 0) rfl) pa_nil))))))))),?_⟩
    refine ⟨_,rfl,_,rfl,p,W,st,kk,rfl,hP,_,rfl,?_⟩
    cases hk : isKind st kk with
    | false =>
      rw [hk,if_pos rfl] at k
      exact iteT ⟨(by show 1 ≤ sizeLine; decide),fun q hq=>k.pure rfl hP (Same.upd hq) hq upd_same⟩
    | true =>
      rw [hk,if_neg (by simp)] at k
      have hkk:=isKind_iff.mp hk
      obtain ⟨kn,rfl⟩ : ∃ kn : Nat,kk = (kn : Int):=⟨kk.toNat,by omega⟩
      refine iteF ⟨_,rfl,rdN T hP ⟨rfl,_,rfl,?_⟩⟩
      by_cases h1 : st.n = 1
      · rw [decide_eq_true (by rw [h1]; rfl)]
        have e : Vbecai.act st (.remove (kn : Int)) = (st,[-8]):=if_pos h1
        exact iteT ⟨(by show 1 ≤ sizeLine; decide),fun q hq=>k.pure e hP (Same.upd hq) hq upd_same⟩
      rw [decide_eq_false (fun z=>h1 (by have:=V.int.inj z; omega))]
      have e : Vbecai.act st (.remove (kn : Int)) = (Vbecai.without st kn,[(st.n : Int) - 1]):=by
        show (if st.n = 1 then _ else _) = _
        rw [if_neg h1]
        rfl
      rw [e] at k
      refine iteF fun d hd=>?_
      have s1 : Same H (upd H d (.dT [])):=Same.upd hd
      have hP1:=hP.same s1
      obtain ⟨⟨dx,hins⟩,l,hl,hW⟩:=hP1
      have npW : p ≠ W:=ne_of hins hW (by intro z; cases z)
      have ndW : d ≠ W:=fun z=>by
        have:=hP.wts
        obtain ⟨_,_,q⟩:=this
        rw [← z,hd] at q
        cases q
      have npd : p ≠ d:=fun z=>by
        obtain ⟨⟨_,q⟩,_⟩:=hP
        rw [z,hd] at q
        cases q
      have hnd : l.Nodup:=hl.nodup_iff.mpr (links_nodup hF)
      have huq:=perm_uniq hF hl
      have hll : l.length = st.links.length:=hl.length_eq
      refine ⟨W,.dT (kvL l),hW,True.intro,fun od=>?_⟩
      refine ⟨_,rfl,rdWi T (H:=upd (upd H d (.dT [])) W (.frz od (.dT (kvL l)))) (dx:=dx) (n:=st.n) (by rw [upd_ne npW]; exact hins) ⟨W,od,rfl,.inr ⟨kvL l,upd_same,?_⟩⟩⟩
      refine for_keysT (d:=W) (o:=od) (kvs:=kvL l) (fun t σ H'=>∃ v3 : Option V,σ = [some (.ref p),some (nv kn),some (.ref d),v3] ∧ H' W = some (.frz od (.dT (kvL l))) ∧ H' d = some (.dT (kvL (keptT l kn t))) ∧ (∀ b o,H b = some o → b ≠ W → H' b = some o))
        ⟨none,rfl,upd_same,by rw [upd_ne ndW,upd_same]; rfl,fun b o q hb=>by rw [upd_ne hb]; exact s1 _ _ q⟩ (fun t σ H' _ ⟨_,_,q,_⟩=>q) ?_ ?_
      · rintro t kk' v q σ H' ht hq ⟨v3,rfl,hW',hd',hk'⟩
        unfold kvL at ht
        rw [List.getElem?_map] at ht
        obtain ⟨x,hx,hxe⟩ : ∃ x,l[t]? = some x ∧ (kF x.1 x.2.1,V.int (x.2.2 : Int)) = (kk',v):=by
          cases hx : l[t]? with
          | none=>rw [hx] at ht; cases ht
          | some x=>rw [hx] at ht; exact ⟨x,rfl,Option.some.inj ht⟩
        obtain ⟨rfl,rfl⟩:=Prod.mk.inj hxe
        have hq' : H' q = some (.tup [.int (x.1 : Int),.int (x.2.1 : Int)]):=hq
        refine ⟨_,rfl,_,rfl,q,_,rfl,.inr (SqT.of hq'),rfl,rfl,_,rfl,?_⟩
        have hin : (!inV (V.int (kn : Int)) [V.int (x.1 : Int),V.int (x.2.1 : Int)]) = keepK kn x:=by
          have:=ns_in kn [x.1,x.2.1]
          show (!inV (nv kn) (ns [x.1,x.2.1])) = _
          rw [this]
          unfold keepK
          simp only [List.contains_cons,List.contains_nil,Bool.or_false,Bool.not_or]
          rw [show (x.1 != kn) = !(x.1 == kn) from rfl,show (x.2.1 != kn) = !(x.2.1 == kn) from rfl,Bool.beq_comm (a:=kn),Bool.beq_comm (a:=kn)]
        show if (if true = true then !inV (V.int (kn : Int)) [V.int (x.1 : Int),V.int (x.2.1 : Int)] else inV (V.int (kn : Int)) [V.int (x.1 : Int),V.int (x.2.1 : Int)]) = true then _ else _
        rw [if_pos rfl,hin]
        refine iteB (fun hkeep=>?_) (fun hkeep=>?_)
        · have hkx:=hkeep
          unfold keepK at hkx
          simp only [Bool.and_eq_true,bne_iff_ne,ne_eq] at hkx
          obtain ⟨⟨dx',hins0⟩,_⟩:=id hP
          have hins':=hk' p _ hins0 npW
          have hg : DGet H' W (.ref q) (some (.int (x.2.2 : Int))):=.inr ⟨kvL l,kF x.1 x.2.1,q,.inr ⟨od,hW'⟩,rfl,hq,(kvL_some huq (List.mem_of_getElem? hx)).symm⟩
          refine ⟨_,rfl,rdWi T hins' ⟨_,rfl,W,_,rfl,hg,_,rfl,_,rfl,_,rfl,q,_,_,.int (x.1 : Int),rfl,rfl,SqT.of hq',rfl,kn,x.1,rfl,fun z=>hkx.1 z.symm,_,rfl,_,rfl,q,_,_,.int (x.2.1 : Int),rfl,rfl,SqT.of hq',rfl,kn,x.2.1,rfl,fun z=>hkx.2 z.symm,(by show 2 ≤ sizeLine; decide),fun u hu'=>?_⟩⟩
          have s2 : Same H' (upd H' u (.tup [nv (lessI kn x.1),nv (lessI kn x.2.1)])):=Same.upd hu'
          refine ⟨d,_,rfl,DPut.t (s2 _ _ hd') (k:=kF (lessI kn x.1) (lessI kn x.2.1)) upd_same ?_,?_⟩
          · have:=keptT_len l kn t
            unfold kvL
            rw [List.length_map]
            omega
          · refine ⟨_,rfl,?_,?_,fun b o q' hb=>?_⟩
            · rw [upd_ne ndW.symm]
              exact s2 _ _ hW'
            · rw [upd_same,putK_new _ (keptT_new huq hnd hx hkeep),keptT_snoc hx,if_pos hkeep]
              unfold kvL
              rw [List.map_append]
              rfl
            · have hbd : b ≠ d:=ne_of_none q' hd
              rw [upd_ne hbd]
              exact s2 _ _ (hk' b o q' hb)
        · exact ⟨_,rfl,hW',by rw [keptT_snoc hx,if_neg (by rw [hkeep]; exact Bool.false_ne_true)]; exact hd',hk'⟩
      · rintro σ H' ⟨v3,rfl,hW',hd',hk'⟩
        rw [show (kvL l).length = l.length by unfold kvL; rw [List.length_map]] at hd'
        refine ⟨hW',?_⟩
        obtain ⟨⟨dx',hins0⟩,_⟩:=hP
        have hins':=hk' p _ hins0 npW
        have hinsU : upd H' W (.dT (kvL l)) p = some (.ins CP dx' (pf st.n W)):=by rw [upd_ne npW]; exact hins'
        refine ⟨_,rfl,p,CP,dx',_,_,rfl,hinsU,T.clP,T.nPn,pf_n _ _,_,_,rfl,rfl,dx',_,hinsU,pf_len _ _,?_⟩
        rw [show (st.n : Int) - 1 = ((st.n - 1 : Nat) : Int) by omega,pf_putN]
        refine ⟨_,rfl,_,rfl,p,CP,dx',_,rfl,upd_same,T.clP,T.nPw,pf_len _ _,?_⟩
        rw [pf_putW]
        refine ⟨_,rfl,p,CP,dx',_,_,rfl,upd_same,T.clP,T.nPn,pf_n _ _,(by show 1 ≤ sizeLine; decide),fun q hq=>?_⟩
        have hqp : p ≠ q:=ne_of_none upd_same hq
        have hq2 : upd H' W (.dT (kvL l)) q = none:=by
          rw [upd_ne hqp.symm,upd_ne hqp.symm] at hq
          exact hq
        have hqW : q ≠ W:=fun z=>by rw [z,upd_same] at hq2; cases hq2
        have hq3 : H' q = none:=by rw [upd_ne hqW] at hq2; exact hq2
        have hq0 : H q = none:=by
          cases hh : H q with
          | none=>rfl
          | some o=>rw [hk' q o hh hqW] at hq3; cases hq3
        have hdq : d ≠ q:=ne_of_none hd' hq3
        refine k _ q d ⟨⟨dx',?_⟩,keptT l kn l.length,?_,?_⟩ (fun b o q' hbp hbW=>?_) hq0 ?_
        · rw [upd_ne hqp,upd_same]
          rfl
        · rw [without_links]
          unfold keptT
          rw [List.take_length]
          exact (hl.filter _).map _
        · rw [upd_ne hdq,upd_ne npd.symm,upd_ne npd.symm,upd_ne ndW]
          exact hd'
        · have:=hk' b o q' hbW
          rw [upd_ne (ne_of_none this hq3),upd_ne hbp,upd_ne hbp,upd_ne hbW]
          exact this
        · rw [upd_same]
          show some (HO.lst [V.int ((st.n - 1 : Nat) : Int)]) = some (HO.lst [V.int ((st.n : Int) - 1)])
          rw [show (st.n : Int) - 1 = ((st.n - 1 : Nat) : Int) by omega]
end
end FwD
namespace FwD
open PySem PySem.Spec PyProof.Rows L2 Fw
open Vbecai (State alive chosen least foods linked lives allLive isKind within nats putLink)
def notKey (f e : Nat) (x : Link) : Bool:=!(x.1 == f && x.2.1 == e)
theorem notKey_iff {f e : Nat} {x : Link} : notKey f e x = true ↔ ¬ (x.1 = f ∧ x.2.1 = e):=by
  unfold notKey
  rw [Bool.not_eq_true',Bool.and_eq_false_iff,beq_eq_false_iff_ne,beq_eq_false_iff_ne]
  constructor
  · rintro (a | a) ⟨b,c⟩
    · exact a b
    · exact a c
  · intro h
    by_cases q : x.1 = f
    · exact .inr fun z=>h ⟨q,z⟩
    · exact .inl q
theorem drop_kvL (l : List Link) (f e : Nat) : dropK (kvL l) (kF f e) = kvL (l.filter (notKey f e)):=by
  unfold dropK kvL
  rw [List.filter_map]
  congr 1
  refine List.filter_congr fun x _=>?_
  show decide (kF x.1 x.2.1 ≠ kF f e) = notKey f e x
  rw [Bool.eq_iff_iff,decide_eq_true_iff,notKey_iff]
  constructor
  · intro h z
    exact h (by rw [z.1,z.2])
  · intro h z
    exact h (kF_inj z)
def replK (f e x : Nat) (y : Link) : Link:=if y.1 = f ∧ y.2.1 = e then (f,e,x) else y
theorem put_kvL (l : List Link) (f e x : Nat) (h : ∃ y ∈ l,y.1 = f ∧ y.2.1 = e) : putK (kvL l) (kF f e) (.int (x : Int)) = kvL (l.map (replK f e x)):=by
  unfold putK
  have ha : ((kvL l).any fun kv=>decide (kv.1 = kF f e)) = true:=by
    obtain ⟨y,hy,e1,e2⟩:=h
    rw [List.any_eq_true]
    exact ⟨(kF y.1 y.2.1,V.int (y.2.2 : Int)),List.mem_map.mpr ⟨y,hy,rfl⟩,decide_eq_true (by rw [e1,e2])⟩
  rw [if_pos ha]
  unfold kvL
  rw [List.map_map,List.map_map]
  refine List.map_congr_left fun y _=>?_
  show (if kF y.1 y.2.1 = kF f e then (kF y.1 y.2.1,V.int (x : Int)) else _) = (kF (replK f e x y).1 (replK f e x y).2.1,V.int ((replK f e x y).2.2 : Int))
  unfold replK
  by_cases q : y.1 = f ∧ y.2.1 = e
  · rw [if_pos (by rw [q.1,q.2]),if_pos q,q.1,q.2]
  · rw [if_neg (fun z=>q (kF_inj z)),if_neg q]
theorem repl_perm {f e x : Nat} : ∀ {l : List Link},(∀ a ∈ l,∀ b ∈ l,a.1 = b.1 → a.2.1 = b.2.1 → a = b) → l.Nodup → (∃ y ∈ l,y.1 = f ∧ y.2.1 = e) → (l.map (replK f e x)).Perm ((f,e,x) :: l.filter (notKey f e))
  | [],_,_,h=>by obtain ⟨y,hy,_⟩:=h; simp at hy
  | z :: l,hu,hn,h=>by
    rw [List.nodup_cons] at hn
    by_cases q : z.1 = f ∧ z.2.1 = e
    · have hno : ∀ y ∈ l,¬ (y.1 = f ∧ y.2.1 = e):=fun y hy w=>hn.1 (by
        have:=hu z (by simp) y (by simp [hy]) (q.1.trans w.1.symm) (q.2.trans w.2.symm)
        rw [this]
        exact hy)
      have e1 : l.map (replK f e x) = l:=by
        conv=>rhs; rw [← List.map_id l]
        refine List.map_congr_left fun y hy=>?_
        unfold replK
        rw [if_neg (hno y hy)]
        rfl
      have e2 : l.filter (notKey f e) = l:=List.filter_eq_self.mpr fun y hy=>notKey_iff.mpr (hno y hy)
      rw [List.map_cons,List.filter_cons,if_neg (fun w=>(notKey_iff.mp w) q),e1,e2]
      unfold replK
      rw [if_pos q]
    · have ih:=repl_perm (x:=x) (fun a ha b hb=>hu a (by simp [ha]) b (by simp [hb])) hn.2 (by
        obtain ⟨y,hy,w⟩:=h
        rcases List.mem_cons.mp hy with r | r
        · exact absurd (r ▸ w) q
        · exact ⟨y,r,w⟩)
      rw [List.map_cons,List.filter_cons,if_pos (notKey_iff.mpr q)]
      have : replK f e x z = z:=if_neg q
      rw [this]
      exact (ih.cons z).trans (List.Perm.swap _ _ _)
theorem put_state {s : State} (F : WF s) {l : List Link} (hl : l.Perm s.links) (f e x : Nat) : ∃ l',putK (kvL l) (kF f e) (.int (x : Int)) = kvL l' ∧ l'.Perm (putLink (f,e,x) (s.links.filter (notKey f e))):=by
  by_cases h : ∃ y ∈ l,y.1 = f ∧ y.2.1 = e
  · refine ⟨_,put_kvL l f e x h,(repl_perm (perm_uniq F hl) (hl.nodup_iff.mpr (links_nodup F)) h).trans ?_⟩
    exact ((hl.filter _).cons _).trans (putLink_perm _ _).symm
  · have hno : ∀ y ∈ l,¬ (y.1 = f ∧ y.2.1 = e):=fun y hy w=>h ⟨y,hy,w⟩
    refine ⟨l ++ [(f,e,x)],?_,?_⟩
    · rw [putK_new _ (kvL_none hno)]
      unfold kvL
      rw [List.map_append]
      rfl
    · have e2 : l.filter (notKey f e) = l:=List.filter_eq_self.mpr fun y hy=>notKey_iff.mpr (hno y hy)
      refine (List.perm_append_comm (l₁:=l) (l₂:=[(f,e,x)])).trans ?_
      show ((f,e,x) :: l).Perm _
      refine List.Perm.trans ?_ (putLink_perm _ _).symm
      refine List.Perm.cons _ ?_
      have:=hl.filter (notKey f e)
      rwa [e2] at this
def spWeigh (C : Addr) : Sp:=fun vs H Q _=>∃ (p W : Addr) (s : State) (f e x : Int),vs = [.ref p,.int f,.int e,.int x] ∧ WF s ∧ PondAt C H p W s ∧ OutP C H p W (Vbecai.step s [[16,f,e,x]]) Q
section
variable {P : Program} {w : World} {K : PySem.W.Frag} {mg : Str → Option Value} {base : Heap} {CP CR : Addr}
abbrev nWgh : List Str:=["pond","f","e","w","before"]
theorem scWgh : FnScope nWgh ["pond","f","e","w"] (defScope sWeigh):=⟨rfl,rfl,rfl,by decide +kernel,rfl,by decide +kernel,by decide +kernel⟩
theorem ok_weigh {f : Addr} {fd : FuncData} (D : Def K mg "weigh" sWeigh ["pond","f","e","w"] f fd) (T : Txt K mg CP CR) (CK : Callee P w K mg base "is_kind" 1 ["pond","k"] (spIsKind CP)) : FnOk P w K mg base CX0 2 f fd ["pond","f","e","w"] (spWeigh CP):=by
  obtain ⟨fK,fdK,mK,kK,bK,GK⟩:=CK
  obtain ⟨t1,h1'⟩:=T.r1
  obtain ⟨t9,h9'⟩:=T.r9
  obtain ⟨tw,hw'⟩:=T.mWeight
  refine D.fn.ok scWgh (fun vs H Q E h=>?_) (fun cdv A outer s H vs Q E hr h=>?_)
  · obtain ⟨p,W,st,f,e,x,rfl,_⟩:=h
    rfl
  · obtain ⟨p,W,st,f,e,x,rfl,hF,hP,k⟩:=h
    have hsl : sizeLine = 16777216:=sizeLine_eq
    have hu:=hu_of hr
    have hlf:=links_few hF
    rw [step_weight] at k
    refine ⟨_,pss_cons (ps_if (PW.pt (pw_or (pt_not (pt_chain op_le op_le pe_int (pv 1) (pe_fld (pv 0) rfl))) (pw_or (pt_not (pt_val (pe_call GK hr (by rfl) mK kK bK .nil pass0 (pa_cons (pv 0) (pa_cons (pv 2) pa_nil))))) (pw_or1 (pt_not (pt_chain op_le op_le pe_int (pv 3) (pe_glob (v:=.int 1000) (by rfl) hw' ⟨_,rfl⟩)))))))
        (pss_one (ps_ret (pe_lst (pa_cons (pe_glob (v:=.int (-1)) (by rfl) h1' ⟨_,rfl⟩) pa_nil)))) pss_nil)
      (pss_cons (ps_if (pt_cmpR op_eq (pv 1) (pv 2) (nomark _)) (pss_one (ps_ret (pe_lst (pa_cons (pe_glob (v:=.int (-9)) (by rfl) h9' ⟨_,rfl⟩) pa_nil)))) pss_nil)
      (pss_cons (ps_set (i:=4) scWgh.nd rfl (Or.inl rfl) (pe_ifExp (pt_cmp (pc_din hu (pe_tup (pa_cons (pv 1) (pa_cons (pv 2) pa_nil))) (pe_fld (pv 0) rfl)) (by with_unfolding_all rfl)) pe_int pe_int))
      (pss_cons (ps_if (pt_cmpR op_gt (pv 3) pe_int (nomark _))
        (pss_one (ps_dput hu (pe_fld (pv 0) rfl) (pe_tup (pa_cons (pv 1) (pa_cons (pv 2) pa_nil))) (pv 3) rfl))
        (pss_one (ps_if (pt_cmpR op_eq (pv 4) pe_int (nomark _)) (pss_one (ps_expr (pe_dpopT hu (pe_fld (pv 0) rfl) (pe_tup (pa_cons (pv 1) (pa_cons (pv 2) pa_nil))) ⟨rfl,rfl,rfl,rfl⟩))) pss_nil)))
      (pss_one (ps_ret (pe_lst (pa_cons (pv 4) pa_nil))))))),?_⟩
    have bad : ¬ ((0 ≤ f ∧ f ≤ (st.n : Int)) ∧ isKind st e = true ∧ (0 ≤ x ∧ x ≤ 1000)) → ∀ q,H q = none → Q (.ref q) (upd H q (.lst [.int (-1)])):=fun hb q hq=>by
      have : (within f 0 (st.n : Int) && (isKind st e && within x 0 1000)) = false:=by
        cases z : (within f 0 (st.n : Int) && (isKind st e && within x 0 1000)) with
        | false=>rfl
        | true =>
          rw [Bool.and_eq_true,Bool.and_eq_true,within_iff,within_iff] at z
          exact absurd ⟨z.1,z.2.1,z.2.2⟩ hb
      rw [this,if_pos rfl] at k
      exact k.pure rfl hP (Same.upd hq) hq upd_same
    refine ⟨_,rfl,_,_,rfl,rfl,_,rfl,iteD (fun a1=>?_) (fun a1=>?_)⟩
    rotate_left
    · exact ⟨_,rfl,iteT (iteT ⟨(by show 1 ≤ sizeLine; decide),fun q hq=>bad (fun z=>a1 z.1.1) q hq⟩)⟩
    refine ⟨_,rfl,rdN T hP ⟨_,_,rfl,rfl,_,rfl,?_⟩⟩
    by_cases a2 : f ≤ (st.n : Int)
    rotate_left
    · rw [decide_eq_false a2]
      exact iteT (iteT ⟨(by show 1 ≤ sizeLine; decide),fun q hq=>bad (fun z=>a2 z.1.2) q hq⟩)
    rw [decide_eq_true a2]
    refine iteF ⟨_,rfl,_,rfl,p,W,st,e,rfl,hP,_,rfl,?_⟩
    cases a3 : isKind st e with
    | false=>exact iteT (iteT ⟨(by show 1 ≤ sizeLine; decide),fun q hq=>bad (fun z=>by rw [z.2.1] at a3; cases a3) q hq⟩)
    | true =>
    refine iteF ⟨_,rfl,_,_,rfl,rfl,_,rfl,iteD (fun a4=>?_) (fun a4=>?_)⟩
    rotate_left
    · exact ⟨_,rfl,iteT ⟨(by show 1 ≤ sizeLine; decide),fun q hq=>bad (fun z=>a4 z.2.2.1) q hq⟩⟩
    refine ⟨_,_,rfl,rfl,_,rfl,?_⟩
    by_cases a5 : x ≤ 1000
    rotate_left
    · rw [decide_eq_false a5]
      exact iteT ⟨(by show 1 ≤ sizeLine; decide),fun q hq=>bad (fun z=>a5 z.2.2.2) q hq⟩
    rw [decide_eq_true a5]
    have hok : (within f 0 (st.n : Int) && (isKind st e && within x 0 1000)) = true:=by
      rw [Bool.and_eq_true,Bool.and_eq_true,within_iff,within_iff]
      exact ⟨⟨a1,a2⟩,a3,a4,a5⟩
    rw [hok,if_neg (by simp)] at k
    have hek:=isKind_iff.mp a3
    obtain ⟨fn,rfl⟩ : ∃ fn : Nat,f = (fn : Int):=⟨f.toNat,by omega⟩
    obtain ⟨en,rfl⟩ : ∃ en : Nat,e = (en : Int):=⟨e.toNat,by omega⟩
    obtain ⟨xn,rfl⟩ : ∃ xn : Nat,x = (xn : Int):=⟨x.toNat,by omega⟩
    refine iteF ⟨_,rfl,_,rfl,rfl,_,rfl,?_⟩
    by_cases a6 : fn = en
    · rw [decide_eq_true (by rw [a6])]
      have e9 : Vbecai.act st (.weight (fn : Int) (en : Int) (xn : Int)) = (st,[-9]):=if_pos (by rw [a6])
      exact iteT ⟨(by show 1 ≤ sizeLine; decide),fun q hq=>k.pure e9 hP (Same.upd hq) hq upd_same⟩
    rw [decide_eq_false (fun z=>a6 (by have:=V.int.inj z; omega))]
    have e0 : Vbecai.act st (.weight (fn : Int) (en : Int) (xn : Int)) = ({ st with links:=if xn = 0 then st.links.filter (notKey fn en) else putLink (fn,en,xn) (st.links.filter (notKey fn en)) },[(if linked st fn en then 1 else 0)]):=by
      show (if (fn : Int) = (en : Int) then _ else _) = _
      rw [if_neg (by omega)]
      simp only [Int.toNat_natCast]
      by_cases z : xn = 0
      · rw [if_pos (by omega),if_pos z]
        rfl
      · rw [if_neg (by omega),if_neg z]
        rfl
    rw [e0] at k
    refine iteF ⟨_,rfl,_,rfl,(by show 2 ≤ sizeLine; decide),fun t ht=>?_⟩
    have s1 : Same H (upd H t (.tup [.int (fn : Int),.int (en : Int)])):=Same.upd ht
    have et : upd H t (.tup [.int (fn : Int),.int (en : Int)]) t = some (.tup ((kF fn en).map kV)):=upd_same
    have hP1:=hP.same s1
    generalize upd H t (.tup [.int (fn : Int),.int (en : Int)]) = H1 at s1 et hP1 ⊢
    obtain ⟨l,hl,hW⟩:=id hP1.wts
    have hkl:=kvL_len hl
    have npW:=hP1.ne
    refine ⟨_,rfl,rdW T hP1 ⟨W,_,rfl,DGet.t hW et,_,rfl,?_⟩⟩
    have fin : ∀ (bv : Int),bv = (if linked st fn en then 1 else 0) → ∀ (H2 : Hp) (l2 : List Link),l2.Perm (if xn = 0 then st.links.filter (notKey fn en) else putLink (fn,en,xn) (st.links.filter (notKey fn en))) → H2 W = some (.dT (kvL l2)) → (∀ b o,H b = some o → b ≠ W → H2 b = some o) → ∀ q,H2 q = none → Q (.ref q) (upd H2 q (.lst [.int bv])):=fun bv hbv H2 l2 hp2 hW2 hk2 q hq=>by
      obtain ⟨⟨dx,hins⟩,_⟩:=id hP
      have hpq:=hk2 p _ hins npW
      have hqp : p ≠ q:=ne_of_none hpq hq
      have hqW : W ≠ q:=ne_of_none hW2 hq
      have hq0 : H q = none:=by
        cases hh : H q with
        | none=>rfl
        | some o=>rw [hk2 q o hh hqW.symm] at hq; cases hq
      refine k _ q W ⟨⟨dx,by rw [upd_ne hqp]; exact hpq⟩,l2,hp2,by rw [upd_ne hqW]; exact hW2⟩ (fun b o q' hbp hbW=>?_) hq0 ?_
      · have:=hk2 b o q' hbW
        rw [upd_ne (ne_of_none this hq)]
        exact this
      · rw [upd_same,hbv]
        rfl
    rcases wts_val hF hl fn en with ⟨hlk,hv⟩ | ⟨hlk,hv⟩
    · have hlb : (if linked st fn en = true then (1 : Int) else 0) = 1:=if_pos (linked_iff.mpr hlk)
      rw [hv]
      refine iteT ⟨_,rfl,_,_,rfl,rfl,_,rfl,iteD (fun a7=>?_) (fun a7=>?_)⟩
      · refine ⟨_,rfl,_,rfl,rdW T hP1 ⟨_,rfl,_,rfl,(by show 2 ≤ sizeLine; decide),fun u hu'=>?_⟩⟩
        have s2 : Same H1 (upd H1 u (.tup [.int (fn : Int),.int (en : Int)])):=Same.upd hu'
        obtain ⟨l2,hput,hp2⟩:=put_state hF hl fn en xn
        refine ⟨W,_,rfl,DPut.t (s2 _ _ hW) (k:=kF fn en) upd_same (by rw [hkl]; omega),?_⟩
        refine ⟨_,rfl,(by show 1 ≤ sizeLine; decide),fun q hq=>?_⟩
        refine fin 1 hlb.symm _ l2 (by rw [if_neg (by omega)]; exact hp2) (by rw [upd_same,hput]) (fun b o q' hb=>?_) q hq
        rw [upd_ne hb]
        exact s2 _ _ (s1 _ _ q')
      · refine ⟨_,rfl,rfl,_,rfl,?_⟩
        rw [decide_eq_true rfl]
        refine iteT ⟨_,rfl,rdW T hP1 ⟨W,rfl,.inr ⟨_,.inl hW⟩,_,rfl,_,rfl,(by show 2 ≤ sizeLine; decide),fun u hu'=>?_⟩⟩
        have s2 : Same H1 (upd H1 u (.tup [.int (fn : Int),.int (en : Int)])):=Same.upd hu'
        refine ⟨kvL l,kF fn en,u,_,s2 _ _ hW,rfl,upd_same,hv,?_⟩
        refine ⟨_,rfl,(by show 1 ≤ sizeLine; decide),fun q hq=>?_⟩
        refine fin 1 hlb.symm _ (l.filter (notKey fn en)) (by rw [if_pos (by omega)]; exact hl.filter _) (by rw [upd_same,drop_kvL]) (fun b o q' hb=>?_) q hq
        rw [upd_ne hb]
        exact s2 _ _ (s1 _ _ q')
    · have hlb : (if linked st fn en = true then (1 : Int) else 0) = 0:=if_neg (fun z=>hlk (linked_iff.mp z))
      rw [hv]
      refine iteF ⟨_,rfl,_,_,rfl,rfl,_,rfl,iteD (fun a7=>?_) (fun a7=>?_)⟩
      · refine ⟨_,rfl,_,rfl,rdW T hP1 ⟨_,rfl,_,rfl,(by show 2 ≤ sizeLine; decide),fun u hu'=>?_⟩⟩
        have s2 : Same H1 (upd H1 u (.tup [.int (fn : Int),.int (en : Int)])):=Same.upd hu'
        obtain ⟨l2,hput,hp2⟩:=put_state hF hl fn en xn
        refine ⟨W,_,rfl,DPut.t (s2 _ _ hW) (k:=kF fn en) upd_same (by rw [hkl]; omega),?_⟩
        refine ⟨_,rfl,(by show 1 ≤ sizeLine; decide),fun q hq=>?_⟩
        refine fin 0 hlb.symm _ l2 (by rw [if_neg (by omega)]; exact hp2) (by rw [upd_same,hput]) (fun b o q' hb=>?_) q hq
        rw [upd_ne hb]
        exact s2 _ _ (s1 _ _ q')
      · refine ⟨_,rfl,rfl,_,rfl,?_⟩
        rw [decide_eq_false (fun z=>by have:=V.int.inj z; omega)]
        refine iteF ⟨_,rfl,(by show 1 ≤ sizeLine; decide),fun q hq=>?_⟩
        refine fin 0 hlb.symm _ l ?_ hW (fun b o q' hb=>s1 _ _ q') q hq
        rw [if_pos (by omega)]
        have : st.links.filter (notKey fn en) = st.links:=List.filter_eq_self.mpr fun y hy=>notKey_iff.mpr fun z=>hlk ⟨y.2.2,by rw [← z.1,← z.2]; exact hy⟩
        rw [this]
        exact hl
end
end FwD
namespace FwD
open PySem PySem.Spec PyProof.Rows L2 Fw
open Vbecai (State frac)
abbrev sWP : Stmt:=top 1
abbrev sCleared : Stmt:=top 2
abbrev sLow : Stmt:=top 3
abbrev sSolved : Stmt:=top 4
def rowZ (n : Nat) (f : Nat → Int) : List V:=(List.range (n + 1)).map fun c=>V.int (f c)
theorem rowZ_len (n : Nat) (f : Nat → Int) : (rowZ n f).length = n + 1:=by simp [rowZ]
theorem rowZ_get {n c : Nat} {f : Nat → Int} (h : c ≤ n) : (rowZ n f)[c]? = some (.int (f c)):=by
  unfold rowZ
  rw [List.getElem?_map,List.getElem?_range (by omega)]
  rfl
theorem rowZ_congr {n : Nat} {f g : Nat → Int} (h : ∀ c,c ≤ n → f c = g c) : rowZ n f = rowZ n g:=List.map_congr_left fun c hc=>by rw [h c (by have:=List.mem_range.mp hc; omega)]
theorem rowZ_last (n : Nat) (f : Nat → Int) : atI (rowZ n f) (-1) = some (.int (f n)):=by
  unfold atI ixN
  rw [if_neg (by decide),if_pos (by rw [rowZ_len]; omega)]
  show (rowZ n f)[(-1 + ((rowZ n f).length : Int)).toNat]? = _
  rw [rowZ_len,show (-1 + ((n + 1 : Nat) : Int)).toNat = n by omega]
  exact rowZ_get (Nat.le_refl _)
def MatAt (H : Hp) (R : Addr) (n : Nat) (M : MatZ) : Prop:=∃ as : List Addr,H R = some (.lst (as.map V.ref)) ∧ as.length = n ∧ ∀ i a,as[i]? = some a → H a = some (.lst (rowZ n (M i)))
theorem MatAt.same {H H' : Hp} {R : Addr} {n : Nat} {M : MatZ} (h : MatAt H R n M) (k : Same H H') : MatAt H' R n M:=by
  obtain ⟨as,h1,h2,h3⟩:=h
  exact ⟨as,k _ _ h1,h2,fun i a e=>k _ _ (h3 i a e)⟩
theorem MatAt.congr {H : Hp} {R : Addr} {n : Nat} {M N : MatZ} (h : MatAt H R n M) (q : ∀ i,i < n → ∀ c,c ≤ n → M i c = N i c) : MatAt H R n N:=by
  obtain ⟨as,h1,h2,h3⟩:=h
  refine ⟨as,h1,h2,fun i a e=>?_⟩
  rw [h3 i a e,rowZ_congr (q i (by have:=(List.getElem?_eq_some_iff.mp e).1; omega))]
def wpZ (f g : Nat → Int) (place : Nat) (d : Int) : Nat → Int:=fun c=>(g place * f c - f place * g c) / d
def spWP : Sp:=fun vs H Q _=>∃ (r q : Addr) (n place b : Nat) (d : Int) (f g : Nat → Int),vs = [.ref r,.ref q,nv place,.int d] ∧ H r = some (.lst (rowZ n f)) ∧ H q = some (.lst (rowZ n g)) ∧ n ≤ 10 ∧ place ≤ n ∧ 0 < d ∧ d.natAbs.log2 < 9000 ∧ b ≤ 10000 ∧
  (∀ c,c ≤ n → (f c).natAbs < 2 ^ b ∧ (g c).natAbs < 2 ^ b) ∧ ∀ (H' : Hp) (o : Addr),Same H H' → H o = none → H' o = some (.lst (rowZ n (wpZ f g place d))) → Q (.ref o) H'
def spCleared : Sp:=fun vs H Q _=>∃ (R : Addr) (n place b : Nat) (d : Int) (M : MatZ),vs = [.ref R,nv place,.int d] ∧ MatAt H R n M ∧ n ≤ 10 ∧ place < n ∧ 0 < d ∧ d.natAbs.log2 < 9000 ∧ b ≤ 10000 ∧
  (∀ i,i < n → ∀ c,c ≤ n → (M i c).natAbs < 2 ^ b) ∧ ∀ (H' : Hp) (o : Addr),Same H H' → MatAt H' o n (nextZ M place d) → Q (.ref o) H'
def spLow : Sp:=fun vs H Q _=>∃ (a b : Nat),vs = [nv a,nv b] ∧ 0 < b ∧ b.log2 < 9000 ∧ ∀ (H' : Hp) (o : Addr),Same H H' → H o = none → H' o = some (.lst [.int (frac (a : Int) (b : Int)).1,.int (frac (a : Int) (b : Int)).2]) → Q (.ref o) H'
def spSolved : Sp:=fun vs H Q _=>∃ (R : Addr) (n : Nat) (A : MatZ),vs = [.ref R] ∧ MatAt H R n A ∧ 1 ≤ n ∧ n ≤ 10 ∧ StI n A 0 A 1 ∧ Sol n A ∧ ∀ (H' : Hp) (o : Addr),Same H H' → H o = none → H' o = some (.lst ((outOf n A).map V.int)) → Q (.ref o) H'
section
variable {P : Program} {w : World} {K : PySem.W.Frag} {mg : Str → Option Value} {base : Heap} {CP CR : Addr}
abbrev nWP : List Str:=["row","pivot_row","place","divisor","pivot","factor","i"]
theorem scWP : FnScope nWP ["row","pivot_row","place","divisor"] (defScope sWP):=⟨rfl,rfl,rfl,by decide +kernel,rfl,by decide +kernel,by decide +kernel⟩
theorem ok_wp {f : Addr} {fd : FuncData} (D : Def K mg "without_place" sWP ["row","pivot_row","place","divisor"] f fd) (T : Txt K mg CP CR) : FnOk P w K mg base CX0 1 f fd ["row","pivot_row","place","divisor"] spWP:=by
  refine D.fn.ok scWP (fun vs H Q E h=>?_) (fun cdv A outer s H vs Q E hr h=>?_)
  · obtain ⟨r,q,n,place,b,d,f,g,rfl,_⟩:=h
    rfl
  · obtain ⟨r,q,n,place,b,d,f,g,rfl,hr',hq,hn,hpl,hd0,hd1,hb,hbd,k⟩:=h
    have hsl : sizeLine = 16777216:=sizeLine_eq
    refine ⟨_,pss_cons (ps_set (i:=4) scWP.nd rfl (Or.inr rfl) (pe_ix ix_list (pv 1) (pv 2) (fun _ _=>rfl)))
      (pss_cons (ps_set (i:=5) scWP.nd rfl (Or.inr rfl) (pe_ix ix_list (pv 0) (pv 2) (fun _ _=>rfl)))
      (pss_one (ps_ret (pe_lc (own:=[("i",6)]) (te:=tOp (rI (fun _ j=>0 < j ∧ j.natAbs.log2 < 9000) fun i j=>.int (i / j)) (tOp (rI0 fun i j=>.int (i - j)) (tOp (rI (fun i j=>IntMulOk i j) fun i j=>.int (i * j)) (tVar 4) (tOp (rIxL K) (tVar 0) (tVar 6))) (tOp (rI (fun i j=>IntMulOk i j) fun i j=>.int (i * j)) (tVar 5) (tOp (rIxL K) (tVar 1) (tVar 6)))) (tVar 3))
        rfl scWP.nd (pi_range1 (by rfl) T.range (pa_cons (pe_callB call_len_seq (by rfl) T.len PySem.boot_len (pa_cons (pv 0) pa_nil)) pa_nil))
        (blk (N:=nWP) (sc:=defScope sWP) (by decide +kernel))
        (fun _ _ _ _ _=>pg_name (i:=6) scWP.nd rfl (Or.inl rfl)) (fun _ _ _ _ _=>pts_nil)
        (fun _ _ _ _ _=>pe_op op_fdivB (pe_op op_sub (pe_op op_mulB (pv 4) (pe_ix ix_list (pv 0) (pv 6) (fun _ _=>rfl))) (pe_op op_mulB (pv 5) (pe_ix ix_list (pv 1) (pv 6) (fun _ _=>rfl)))) (pv 3)))))),?_⟩
    refine ⟨_,rfl,_,rfl,q,_,_,_,rfl,rfl,SqL.of hq,atI_nat (rowZ_get hpl),?_⟩
    refine ⟨_,rfl,_,rfl,r,_,_,_,rfl,rfl,SqL.of hr',atI_nat (rowZ_get hpl),?_⟩
    refine ⟨_,rfl,r,_,rfl,.inl (SqL.of hr'),_,rfl,by rw [rowZ_len]; omega,by rw [rowZ_len]; omega,fun L hL=>?_⟩
    rw [rowZ_len,Int.toNat_natCast]
    refine lc_rangeP (lo:=0) (n:=n + 1) (σ:=[some (.ref r),some (.ref q),some (nv place),some (.int d),some (.int (g place)),some (.int (f place)),none]) (Q:=Q) (fun i=>[V.int (wpZ f g place d i)]) hL (by omega) (fun i H2 C1 C0 hi h2 k1 k0=>?_) (fun H2 h2 hL2=>?_)
    · have hi' : i ≤ n:=by omega
      refine ⟨rfl,yesT (iteT ⟨_,rfl,_,rfl,_,rfl,r,_,_,_,rfl,rfl,SqL.of (h2 _ _ hr'),at_of (j:=i) (by omega) (rowZ_get hi'),_,_,rfl,rfl,mul_small (hbd place hpl).2 (hbd i hi').1 (by omega),?_⟩)⟩
      refine ⟨_,rfl,_,rfl,_,rfl,q,_,_,_,rfl,rfl,SqL.of (h2 _ _ hq),at_of (j:=i) (by omega) (rowZ_get hi'),_,_,rfl,rfl,mul_small (hbd place hpl).1 (hbd i hi').2 (by omega),?_⟩
      exact ⟨_,_,rfl,rfl,_,rfl,_,_,rfl,rfl,⟨hd0,hd1⟩,k1 _ _ Same.refl rfl⟩
    · refine k H2 L h2 hL ?_
      rw [hL2,flat_map]
      rfl
abbrev nClr : List Str:=["rows","place","divisor","pivot_row","i"]
theorem scClr : FnScope nClr ["rows","place","divisor"] (defScope sCleared):=⟨rfl,rfl,rfl,by decide +kernel,rfl,by decide +kernel,by decide +kernel⟩
theorem ok_cleared {f : Addr} {fd : FuncData} (D : Def K mg "cleared" sCleared ["rows","place","divisor"] f fd) (T : Txt K mg CP CR) (CW : Callee P w K mg base "without_place" 1 ["row","pivot_row","place","divisor"] spWP) : FnOk P w K mg base CX0 2 f fd ["rows","place","divisor"] spCleared:=by
  obtain ⟨fW,fdW,mW,kW,bW,GW⟩:=CW
  refine D.fn.ok scClr (fun vs H Q E h=>?_) (fun cdv A outer s H vs Q E hr h=>?_)
  · obtain ⟨R,n,place,b,d,M,rfl,_⟩:=h
    rfl
  · obtain ⟨R,n,place,b,d,M,rfl,⟨as,hR,hal,hrow⟩,hn,hpl,hd0,hd1,hb,hbd,k⟩:=h
    have hsl : sizeLine = 16777216:=sizeLine_eq
    refine ⟨_,pss_cons (ps_set (i:=3) scClr.nd rfl (Or.inr rfl) (pe_ix ix_list (pv 0) (pv 1) (fun _ _=>rfl)))
      (pss_one (ps_ret (pe_lc (own:=[("i",4)]) (te:=tIf (tTest (tOp rEq (tVar 4) (tVar 1))) (tOp (rIxL K) (tVar 0) (tVar 4)) (tCall spWP [] E0 (tCons (tOp (rIxL K) (tVar 0) (tVar 4)) (tCons (tVar 3) (tCons (tVar 1) (tCons (tVar 2) tNil))))))
        rfl scClr.nd (pi_range1 (by rfl) T.range (pa_cons (pe_callB call_len_seq (by rfl) T.len PySem.boot_len (pa_cons (pv 0) pa_nil)) pa_nil))
        (blk (N:=nClr) (sc:=defScope sCleared) (by decide +kernel))
        (fun _ _ _ _ _=>pg_name (i:=4) scClr.nd rfl (Or.inl rfl)) (fun _ _ _ _ _=>pts_nil)
        (fun _ _ _ _ _=>pe_ifExp (pt_cmpR op_eq (pv 4) (pv 1) (nomark _)) (pe_ix ix_list (pv 0) (pv 4) (fun _ _=>rfl)) (pe_call GW hr (by rfl) mW kW bW .nil pass0 (pa_cons (pe_ix ix_list (pv 0) (pv 4) (fun _ _=>rfl)) (pa_cons (pv 3) (pa_cons (pv 1) (pa_cons (pv 2) pa_nil))))))))),?_⟩
    obtain ⟨ap,hap⟩ : ∃ ap,as[place]? = some ap:=⟨_,List.getElem?_eq_getElem (by omega)⟩
    have hprow:=hrow place ap hap
    refine ⟨_,rfl,_,rfl,R,_,_,.ref ap,rfl,rfl,SqL.of hR,atI_nat (by rw [List.getElem?_map,hap]; rfl),?_⟩
    refine ⟨_,rfl,R,_,rfl,.inl (SqL.of hR),_,rfl,by rw [List.length_map]; omega,by rw [List.length_map]; omega,fun L hL=>?_⟩
    rw [List.length_map,hal,Int.toNat_natCast]
    refine lc_range (lo:=0) (n:=n) (σ:=[some (.ref R),some (nv place),some (.int d),some (.ref ap),none]) (Q:=Q) (fun i acc H2=>∃ bs : List Addr,acc = bs.map V.ref ∧ bs.length = i ∧ (∀ j a,bs[j]? = some a → a ≠ L ∧ H2 a = some (.lst (rowZ n (nextZ M place d j)))) ∧ Same H H2)
      ⟨[],rfl,rfl,fun j a e=>by simp at e,Same.upd hL⟩ (fun i acc H2 hi hD ⟨bs,ea,e1,e3,h2⟩=>?_) (fun acc H2 hD ⟨bs,ea,e1,e3,h2⟩=>?_)
    · obtain ⟨ai,hai⟩ : ∃ ai,as[i]? = some ai:=⟨_,List.getElem?_eq_getElem (by omega)⟩
      have hirow:=hrow i ai hai
      have add : ∀ (a : Addr) (H4 : Hp),a ≠ L → Same H2 H4 → H4 a = some (.lst (rowZ n (nextZ M place d i))) → ∃ acc,H4 L = some (.lst acc) ∧ acc.length < sizeLine ∧ ∃ acc',upd H4 L (.lst (acc ++ [.ref a])) L = some (.lst acc') ∧ ∃ bs : List Addr,acc' = bs.map V.ref ∧ bs.length = i + 1 ∧ (∀ j a',bs[j]? = some a' → a' ≠ L ∧ upd H4 L (.lst (acc ++ [.ref a])) a' = some (.lst (rowZ n (nextZ M place d j)))) ∧ Same H (upd H4 L (.lst (acc ++ [.ref a]))):=fun a H4 haL h4 ha=>by
        refine ⟨acc,h4 _ _ hD,by rw [ea,List.length_map]; omega,_,upd_same,bs ++ [a],by rw [ea,List.map_append]; rfl,by simp [e1],fun j a' e=>?_,Same.upd' (h2.trans h4) hL⟩
        by_cases q : j < bs.length
        · rw [List.getElem?_append_left q] at e
          obtain ⟨x1,x2⟩:=e3 j a' e
          exact ⟨x1,by rw [upd_ne x1]; exact h4 _ _ x2⟩
        · have hj : j = i:=by
            have:=(List.getElem?_eq_some_iff.mp e).1
            rw [List.length_append] at this
            have : j < bs.length + 1:=this
            omega
          subst hj
          rw [List.getElem?_append_right (by omega),e1,Nat.sub_self] at e
          have : a = a':=Option.some.inj e
          subst this
          exact ⟨haL,by rw [upd_ne haL]; exact ha⟩
      refine ⟨rfl,yesT (iteT ⟨_,rfl,_,rfl,rfl,_,rfl,?_⟩)⟩
      have edec : decide (V.int (0 + (i : Int)) = nv place) = decide (i = place):=by
        rw [decide_eq_decide]
        exact ⟨fun z=>by have:=V.int.inj z; omega,fun z=>by rw [z]; show V.int _ = V.int _; congr 1; omega⟩
      rw [edec]
      refine iteD (fun hip=>?_) (fun hip=>?_)
      · refine ⟨_,rfl,_,rfl,R,_,_,.ref ai,rfl,rfl,SqL.of (h2 _ _ hR),at_of (j:=i) (by omega) (by rw [List.getElem?_map,hai]; rfl),?_⟩
        refine add ai H2 (ne_of_none hirow hL) Same.refl ?_
        rw [h2 _ _ hirow,rowZ_congr fun c _=>?_]
        unfold nextZ
        rw [if_pos hip]
      · refine ⟨_,rfl,_,rfl,R,_,_,.ref ai,rfl,rfl,SqL.of (h2 _ _ hR),at_of (j:=i) (by omega) (by rw [List.getElem?_map,hai]; rfl),_,rfl,_,rfl,_,rfl,?_⟩
        refine ⟨ai,ap,n,place,b,d,M i,M place,rfl,h2 _ _ hirow,h2 _ _ hprow,hn,by omega,hd0,hd1,hb,fun c hc=>⟨hbd i hi c hc,hbd place hpl c hc⟩,fun H4 o h4 ho ho4=>?_⟩
        refine add o H4 (fun z=>by rw [z,hD] at ho; cases ho) h4 ?_
        rw [ho4,rowZ_congr fun c _=>?_]
        unfold nextZ wpZ
        rw [if_neg hip]
    · exact k H2 L h2 ⟨bs,by rw [hD,ea],e1,fun j a e=>(e3 j a e).2⟩
abbrev nLow : List Str:=["numerator","denominator","divisor","rest","smaller"]
theorem scLow : FnScope nLow ["numerator","denominator"] (defScope sLow):=⟨rfl,rfl,rfl,by decide +kernel,rfl,by decide +kernel,by decide +kernel⟩
theorem ok_low {f : Addr} {fd : FuncData} (D : Def K mg "lowest_terms" sLow ["numerator","denominator"] f fd) (T : Txt K mg CP CR) : FnOk P w K mg base CX0 1 f fd ["numerator","denominator"] spLow:=by
  refine D.fn.ok scLow (fun vs H Q E h=>?_) (fun cdv A outer s H vs Q E hr h=>?_)
  · obtain ⟨a,b,rfl,_⟩:=h
    rfl
  · obtain ⟨a,b,rfl,hb0,hb1,k⟩:=h
    refine ⟨_,pss_cons (ps_set (i:=2) scLow.nd rfl (Or.inl rfl) (pv 1))
      (pss_cons (ps_set (i:=3) scLow.nd rfl (Or.inl rfl) (pv 0))
      (pss_cons (ps_while PassesOwn.never (pt_cmpR op_ne (pv 3) pe_int (nomark _))
        (pss_cons (ps_set (i:=4) scLow.nd rfl (Or.inl rfl) (pe_op op_mod (pv 2) (pv 3)))
        (pss_cons (ps_set (i:=2) scLow.nd rfl (Or.inl rfl) (pv 3))
        (pss_one (ps_set (i:=3) scLow.nd rfl (Or.inl rfl) (pv 4))))))
      (pss_one (ps_ret (pe_lst (pa_cons (pe_op op_fdivB (pv 0) (pv 2)) (pa_cons (pe_op op_fdivB (pv 1) (pv 2)) pa_nil))))))),?_⟩
    refine ⟨_,rfl,_,rfl,fun m σ H'=>H' = H ∧ ∃ (x y : Nat) (v4 : Option V),σ = [some (nv a),some (nv b),some (nv x),some (nv y),v4] ∧ 0 < x ∧ Nat.gcd x y = Nat.gcd a b ∧ m = y,
      ⟨_,rfl,b,a,none,rfl,hb0,Nat.gcd_comm _ _,rfl⟩,?_⟩
    rintro m σ H' ⟨rfl,x,y,v4,rfl,hx,hg,rfl⟩
    refine ⟨_,rfl,rfl,_,rfl,?_⟩
    by_cases hy : m = 0
    · subst hy
      rw [decide_eq_true (show nv 0 = V.int 0 from rfl)]
      rw [Nat.gcd_zero_right] at hg
      have hgb:=gcd_bound (a:=a) hb0
      have hlog : ((x : Nat) : Int).natAbs.log2 < 9000:=by
        rw [Int.natAbs_natCast,hg]
        have h1 : Nat.gcd a b < 2 ^ 9000:=Nat.lt_of_le_of_lt hgb.1 ((Nat.log2_lt (by omega)).mp hb1)
        exact (Nat.log2_lt (by omega)).mpr h1
      refine iteF ⟨_,rfl,_,rfl,_,_,rfl,rfl,⟨by omega,hlog⟩,_,rfl,_,rfl,_,_,rfl,rfl,⟨by omega,hlog⟩,(by show 2 ≤ sizeLine; decide),fun o ho=>?_⟩
      refine k _ o (Same.upd ho) ho ?_
      rw [upd_same,frac_pos (by omega),Int.natAbs_natCast,Int.natAbs_natCast,hg]
    · rw [decide_eq_false (fun z=>hy (by have:=V.int.inj z; omega))]
      refine iteT ⟨fun σ' H''=>∃ m',m' < m ∧ H'' = H' ∧ ∃ (x y : Nat) (v4 : Option V),σ' = [some (nv a),some (nv b),some (nv x),some (nv y),v4] ∧ 0 < x ∧ Nat.gcd x y = Nat.gcd a b ∧ m' = y,fun σ' H'' h=>?_,?_⟩
      · obtain ⟨m',h1,h2,h3⟩:=h
        exact ⟨m',h1,h2,h3⟩
      · refine ⟨_,rfl,_,rfl,_,_,rfl,rfl,(by show (0 : Int) < (m : Int); omega),_,rfl,_,rfl,?_⟩
        refine ⟨x % m,Nat.mod_lt _ (by omega),rfl,m,x % m,some (nv (x % m)),?_,by omega,?_,rfl⟩
        · show [some (nv a),some (nv b),some (nv m),some (V.int ((x : Int) % (m : Int))),some (V.int ((x : Int) % (m : Int)))] = _
          rw [show (x : Int) % (m : Int) = ((x % m : Nat) : Int) from (Int.natCast_emod x m).symm]
        · rw [← hg,Nat.gcd_comm m,← Nat.gcd_rec,Nat.gcd_comm]
end
end FwD
namespace FwD
open PySem PySem.Spec PyProof.Rows L2 Fw
open Vbecai (State frac foods allLive isKind)
abbrev sEq : Stmt:=top 33
abbrev sLevels : Stmt:=top 53
abbrev sThrough : Stmt:=top 54
def outT (n : Nat) (A : MatZ) (t : Nat) : List Int:=(List.range t).flatMap fun i=>[(frac ((elimZ A n).1 i n) (elimZ A n).2).1,(frac ((elimZ A n).1 i n) (elimZ A n).2).2]
theorem outT_succ (n : Nat) (A : MatZ) (t : Nat) : outT n A (t + 1) = outT n A t ++ [(frac ((elimZ A n).1 t n) (elimZ A n).2).1,(frac ((elimZ A n).1 t n) (elimZ A n).2).2]:=by
  unfold outT
  rw [List.range_succ,List.flatMap_append]
  simp
theorem outT_len (n : Nat) (A : MatZ) : ∀ t,(outT n A t).length = 2 * t
  | 0=>rfl
  | t + 1=>by
    rw [outT_succ,List.length_append,outT_len n A t]
    show 2 * t + 2 = _
    omega
theorem logs {n : Nat} {A : MatZ} (h10 : n ≤ 10) (S : StI n A 0 A 1) (X : Sol n A) {k : Nat} (hk : k ≤ n) : (elimZ A k).2.natAbs.log2 < 9000:=by
  cases k with
  | zero=>show (1 : Int).natAbs.log2 < 9000; decide
  | succ k =>
    have h1:=elim_is S X k (by omega)
    have h2:=h1.bnd k (by omega) k (by omega)
    have h3:=(elim_is S X (k + 1) hk).pos
    exact log_small (x:=(elimZ A (k + 1)).2) (k:=bitsAt k) h2 (by have:=bitsAt_le k (by omega); omega) (by omega)
section
variable {P : Program} {w : World} {K : PySem.W.Frag} {mg : Str → Option Value} {base : Heap} {CP CR : Addr}
abbrev nSolved : List Str:=["equations","rows","divisor","place","fractions","row"]
theorem scSolved : FnScope nSolved ["equations"] (defScope sSolved):=⟨rfl,rfl,rfl,by decide +kernel,rfl,by decide +kernel,by decide +kernel⟩
theorem ok_solved {f : Addr} {fd : FuncData} (D : Def K mg "solved" sSolved ["equations"] f fd) (T : Txt K mg CP CR) (CC : Callee P w K mg base "cleared" 2 ["rows","place","divisor"] spCleared) (CL : Callee P w K mg base "lowest_terms" 1 ["numerator","denominator"] spLow) :
    FnOk P w K mg base CX0 3 f fd ["equations"] spSolved:=by
  obtain ⟨fC,fdC,mC,kC,bC,GC⟩:=CC
  obtain ⟨fL,fdL,mL,kL,bL,GL⟩:=CL
  refine D.fn.ok scSolved (fun vs H Q E h=>?_) (fun cdv A' outer s H vs Q E hr h=>?_)
  · obtain ⟨R,n,A,rfl,_⟩:=h
    rfl
  · obtain ⟨R,n,A,rfl,hM,hn1,hn10,hS,hX,k⟩:=h
    have hsl : sizeLine = 16777216:=sizeLine_eq
    obtain ⟨as,hR,hal,hrow⟩:=id hM
    refine ⟨_,pss_cons (ps_set (i:=1) scSolved.nd rfl (Or.inl rfl) (pv 0))
      (pss_cons (ps_set (i:=2) scSolved.nd rfl (Or.inl rfl) pe_int)
      (pss_cons (ps_for PassesOwn.never rfl (pi_range1 (by rfl) T.range (pa_cons (pe_callB call_len_seq (by rfl) T.len PySem.boot_len (pa_cons (pv 0) pa_nil)) pa_nil)) (pg_name (i:=3) scSolved.nd rfl (Or.inl rfl))
        (pss_cons (ps_set (i:=1) scSolved.nd rfl (Or.inl rfl) (pe_call GC hr (by rfl) mC kC bC .nil pass0 (pa_cons (pv 1) (pa_cons (pv 3) (pa_cons (pv 2) pa_nil)))))
        (pss_one (ps_set (i:=2) scSolved.nd rfl (Or.inl rfl) (pe_ix ix_list (pe_ix ix_list (pv 1) (pv 3) (fun _ _=>rfl)) (pv 3) (fun _ _=>rfl))))))
      (pss_cons (ps_set (i:=4) scSolved.nd rfl (Or.inl rfl) (pe_lst pa_nil))
      (pss_cons (ps_for PassesOwn.never rfl (pi_list (pv 1)) (pg_name (i:=5) scSolved.nd rfl (Or.inl rfl))
        (pss_one (ps_expr (pe_bm PySem.F.plainAttrs_list PySem.F.slot_list_extend PySem.F.type_list_extend mt_extend (pv 4) (pa_cons (pe_call GL (hr.mono (by decide)) (by rfl) mL kL bL .nil pass0 (pa_cons (pe_ix ix_list (pv 5) (pe_un un_neg pe_int) (fun _ _=>rfl)) (pa_cons (pv 2) pa_nil))) pa_nil)))))
      (pss_one (ps_ret (pv 4))))))),?_⟩
    refine ⟨_,rfl,_,rfl,R,_,rfl,.inl (SqL.of hR),_,rfl,by rw [List.length_map]; omega,by rw [List.length_map]; omega,?_⟩
    rw [List.length_map,hal,Int.toNat_natCast]
    refine for_range (lo:=0) (n:=n) (fun i σ H'=>∃ (Rk : Addr) (v3 : Option V),σ = [some (.ref R),some (.ref Rk),some (.int (elimZ A i).2),v3,none,none] ∧ Same H H' ∧ MatAt H' Rk n (elimZ A i).1)
      ⟨R,none,rfl,Same.refl,hM⟩ ?_ ?_
    · rintro i σ H' hi ⟨Rk,v3,rfl,hs,hMk⟩
      have hSi:=elim_is hS hX i (by omega)
      have hb9:=bitsAt_le i (by omega)
      refine ⟨_,rfl,_,rfl,_,rfl,Rk,n,i,bitsAt i,(elimZ A i).2,(elimZ A i).1,by show [V.ref Rk,V.int (0 + (i : Int)),_] = _; rw [Int.zero_add],hMk,hn10,hi,hSi.pos,logs hn10 hS hX (by omega),by omega,fun j hj c hc=>hSi.bnd j hj c hc,fun H2 o h2 hMo=>?_⟩
      obtain ⟨bs,hbs,hbl,hbr⟩:=id hMo
      obtain ⟨ai,hai⟩ : ∃ ai,bs[i]? = some ai:=⟨_,List.getElem?_eq_getElem (by omega)⟩
      have hair:=hbr i ai hai
      refine ⟨_,rfl,_,rfl,o,_,_,.ref ai,rfl,rfl,SqL.of hbs,at_of (j:=i) (by omega) (by rw [List.getElem?_map,hai]; rfl),_,rfl,ai,_,_,_,rfl,rfl,SqL.of hair,at_of (j:=i) (by omega) (rowZ_get (by omega)),?_⟩
      refine ⟨o,some (.int (0 + (i : Int))),?_,hs.trans h2,hMo⟩
      have : (elimZ A (i + 1)).2 = nextZ (elimZ A i).1 i (elimZ A i).2 i i:=by
        show (elimZ A i).1 i i = _
        unfold nextZ
        rw [if_pos rfl]
      rw [this]
      rfl
    · rintro σ H' ⟨Rk,v3,rfl,hs,hMk⟩
      have hSn:=elim_is hS hX n (Nat.le_refl _)
      have hlog:=logs hn10 hS hX (Nat.le_refl n)
      have hpos:=hSn.pos
      obtain ⟨dn,hdn⟩ : ∃ dn : Nat,(elimZ A n).2 = (dn : Int):=⟨(elimZ A n).2.toNat,by omega⟩
      refine ⟨Nat.zero_le _,fun L hL=>?_⟩
      have s1 : Same H' (upd H' L (.lst [])):=Same.upd hL
      obtain ⟨bs,hbs,hbl,hbr⟩:=hMk.same s1
      have hL1 : upd H' L (.lst []) L = some (.lst ((outT n A 0).map V.int)):=upd_same
      have s01 : Same H (upd H' L (.lst [])):=hs.trans s1
      have hbL : ∀ i a,bs[i]? = some a → a ≠ L:=fun i a e z=>by
        have:=hbr i a e
        rw [z,upd_same] at this
        have:=HO.lst.inj (Option.some.inj this)
        have:=congrArg List.length this
        rw [rowZ_len] at this
        simp at this
      have hRL : Rk ≠ L:=fun z=>by
        rw [z,upd_same] at hbs
        have:=congrArg List.length (HO.lst.inj (Option.some.inj hbs))
        rw [List.length_map,hbl] at this
        simp at this
        omega
      generalize upd H' L (.lst []) = H1 at hbs hbr hL1 s01 hbL ⊢
      refine ⟨_,rfl,Rk,rfl,⟨_,SqL.of hbs⟩,for_list (K:=K) (a:=Rk) (xs:=bs.map V.ref) (fun t σ H''=>∃ v5 : Option V,σ = [some (.ref R),some (.ref Rk),some (.int (elimZ A n).2),v3,some (.ref L),v5] ∧ H'' L = some (.lst ((outT n A t).map V.int)) ∧ ∀ b o,H1 b = some o → b ≠ L → H'' b = some o)
        ⟨none,rfl,hL1,fun b o e _=>e⟩ (fun t σ H'' _ ⟨_,_,_,q⟩=>SqL.of (q _ _ hbs hRL)) ?_ ?_⟩
      · rintro t x σ H2 ht ⟨v5,rfl,hL2,hk2⟩
        obtain ⟨a,ha,rfl⟩:=ref_get ht
        have htn : t < n:=by
          have:=(List.getElem?_eq_some_iff.mp ha).1
          omega
        have har:=hk2 _ _ (hbr t a ha) (hbL t a ha)
        have hnn:=hSn.rhs t htn
        obtain ⟨an,han⟩ : ∃ an : Nat,(elimZ A n).1 t n = (an : Int):=⟨((elimZ A n).1 t n).toNat,by omega⟩
        refine ⟨_,rfl,.inl ⟨rfl,_,SqL.of hL2⟩,_,rfl,1,rfl,a,_,_,_,rfl,rfl,SqL.of har,rowZ_last _ _,_,rfl,an,dn,by show [V.int ((elimZ A n).1 t n),V.int (elimZ A n).2] = _; rw [han,hdn],by omega,by rw [hdn] at hlog; simpa using hlog,fun H3 o h3 ho ho3=>?_⟩
        refine ⟨L,o,_,_,rfl,rfl,h3 _ _ hL2,ho3,?_,?_⟩
        · rw [List.length_map,outT_len]
          show 2 * t + 2 ≤ _
          omega
        · refine ⟨_,rfl,?_,fun b ob e hb=>?_⟩
          · rw [upd_same,outT_succ,List.map_append,han,hdn]
            rfl
          · rw [upd_ne hb]
            exact h3 _ _ (hk2 b ob e hb)
      · rintro σ H2 ⟨v5,rfl,hL2,hk2⟩
        rw [List.length_map,hbl] at hL2
        exact ⟨_,rfl,k H2 L (fun b o e=>hk2 b o (s01 b o e) (ne_of_none e (hs.free hL))) (hs.free hL) hL2⟩
def eqZ (s : State) (e : Nat) (r : Int) : Nat → Int:=fun c=>if c = s.n then r else (if c = e - 1 then (W s e : Int) else 0) - (wtl (foods s e) (c + 1) : Int)
def spEq (C : Addr) : Sp:=fun vs H Q _=>∃ (p W : Addr) (s : State) (e : Nat) (r : Int),vs = [.ref p,nv e,.int r] ∧ WF s ∧ PondAt C H p W s ∧ 1 ≤ e ∧ e ≤ s.n ∧ ∀ (H' : Hp) (o : Addr),Same H H' → H o = none → H' o = some (.lst (rowZ s.n (eqZ s e r))) → Q (.ref o) H'
abbrev nEq : List Str:=["pond","eater","right","row","food"]
theorem scEq : FnScope nEq ["pond","eater","right"] (defScope sEq):=⟨rfl,rfl,rfl,by decide +kernel,rfl,by decide +kernel,by decide +kernel⟩
theorem eq_row {s : State} (F : WF s) {e : Nat} (h1 : 1 ≤ e) (h2 : e ≤ s.n) (r : Int) : ((s.kinds.map fun f=>V.int (-(wtl (foods s e) f : Int))).set (e - 1) (.int (W s e : Int))) ++ [V.int r] = rowZ s.n (eqZ s e r):=by
  refine List.ext_getElem? fun i=>?_
  have hl : (s.kinds.map fun f=>V.int (-(wtl (foods s e) f : Int))).length = s.n:=by rw [List.length_map,length_kinds]
  by_cases hi : i < s.n
  · rw [List.getElem?_append_left (by rw [List.length_set,hl]; exact hi),rowZ_get (by omega),List.getElem?_set]
    have ez : eqZ s e r i = (if i = e - 1 then (W s e : Int) else 0) - (wtl (foods s e) (i + 1) : Int):=if_neg (by omega)
    rw [ez]
    by_cases q : e - 1 = i
    · rw [if_pos q,if_pos (by rw [hl]; omega),if_pos q.symm]
      have : wtl (foods s e) (i + 1) = 0:=by rw [show i + 1 = e by omega]; exact wtl_self F e
      rw [this]
      simp
    · rw [if_neg q,if_neg (fun z=>q z.symm),List.getElem?_map]
      unfold State.kinds
      rw [List.getElem?_map,List.getElem?_range hi]
      show some (V.int (-(wtl (foods s e) (i + 1) : Int))) = some (V.int _)
      congr 2
      omega
  · by_cases q : i = s.n
    · subst q
      rw [List.getElem?_append_right (by rw [List.length_set,hl]; omega),List.length_set,hl,Nat.sub_self,rowZ_get (Nat.le_refl _)]
      unfold eqZ
      rw [if_pos rfl]
      rfl
    · rw [List.getElem?_eq_none (by rw [List.length_append,List.length_set,hl]; show s.n + 1 ≤ i; omega),List.getElem?_eq_none (by rw [rowZ_len]; omega)]
theorem ok_eq {f : Addr} {fd : FuncData} (D : Def K mg "equation" sEq ["pond","eater","right"] f fd) (T : Txt K mg CP CR) (CK : Callee P w K mg base "kinds_of" 1 ["pond"] (spKinds CP)) (CT : Callee P w K mg base "total_weight" 2 ["pond","eater"] (spTotal CP)) :
    FnOk P w K mg base CX0 3 f fd ["pond","eater","right"] (spEq CP):=by
  obtain ⟨fK,fdK,mK,kK,bK,GK⟩:=CK
  obtain ⟨fT,fdT,mT,kT,bT,GT⟩:=CT
  refine D.fn.ok scEq (fun vs H Q E h=>?_) (fun cdv A outer s H vs Q E hr h=>?_)
  · obtain ⟨p,W,st,e,r,rfl,_⟩:=h
    rfl
  · obtain ⟨p,W,st,e,r,rfl,hF,hP,he1,he2,k⟩:=h
    have hsl : sizeLine = 16777216:=sizeLine_eq
    have hn10:=hF.n10
    have hu:=hu_of hr
    have hkl : st.kinds.length = st.n:=length_kinds
    refine ⟨_,pss_cons (ps_setLc (i:=3) (own:=[("food",4)]) (te:=tUn (rU fun i=>.int (-i)) (tDGet2 (tFld K (tVar 0) "weights") (tTup (tCons (tVar 4) (tCons (tVar 1) tNil))) (tC (.int 0)))) rfl scEq.nd rfl rfl rfl (pi_list (pe_call GK (hr.mono (by decide)) (by rfl) mK kK bK .nil pass0 (pa_cons (pv 0) pa_nil)))
        (blk (N:=nEq) (sc:=defScope sEq) (by decide +kernel))
        (fun _ _ _ _ _=>pg_name (i:=4) scEq.nd rfl (Or.inl rfl)) (fun _ _ _ _ _=>pts_nil) (fun _ _ _ _ _=>pe_un un_neg (pe_dget2 hu (pe_fld (pv 0) (by rfl)) (pe_tup (pa_cons (pv 4) (pa_cons (pv 1) pa_nil))) pe_int ⟨rfl,rfl,rfl,rfl⟩)))
      (pss_cons (ps_asg (pe_call GT hr (by rfl) mT kT bT .nil pass0 (pa_cons (pv 0) (pa_cons (pv 1) pa_nil))) (pg_sub (pv 3) (pe_op op_sub (pv 1) pe_int) set_list))
      (pss_one (ps_ret (pe_op op_cat (pv 3) (pe_lst (pa_cons (pv 2) pa_nil)))))),?_⟩
    refine ⟨_,rfl,p,W,st,rfl,hF,hP,fun H1 q h1 hq hq1=>⟨q,rfl,⟨_,SqL.of hq1⟩,fun L hL=>?_⟩⟩
    refine lc_listP (K:=K) (a:=q) (xs:=ns st.kinds) (σ:=[some (.ref p),some (nv e),some (.int r),none,none]) (Q:=fun x H1=>gName 3 x [some (.ref p),some (nv e),some (.int r),none,none] H1 _) (fun x=>match x with | .int i=>[V.int (-(wtl (foods st e) i.toNat : Int))] | _=>[]) hL (SqL.of hq1) (by rw [ns_len]; omega) (fun i x H2 C1 C0 hi h2 k1 k0=>?_) (fun H2 h2 hL2=>?_)
    · obtain ⟨f0,hf0,rfl⟩:=ns_get hi
      have hP2:=(hP.same h1).same h2
      obtain ⟨l0,hl0,hW0⟩:=hP2.wts
      refine ⟨rfl,yesT (iteT ⟨_,rfl,rdW T hP2 ⟨W,rfl,.inr ⟨_,.inl hW0⟩,_,rfl,_,rfl,(by show 2 ≤ sizeLine; decide),fun t ht=>?_⟩⟩)⟩
      have s3 : Same H2 (upd H2 t (.tup [nv f0,nv e])):=Same.upd ht
      obtain ⟨l,hl,hlW⟩:=(hP2.same s3).wts
      have eb : upd H2 t (.tup [nv f0,nv e]) t = some (.tup ((kF f0 e).map kV)):=upd_same
      have g:=DGet.t hlW eb
      rcases wts_val hF hl f0 e with ⟨z,hv⟩ | ⟨z,hv⟩
      · rw [hv] at g
        exact ⟨_,g,_,rfl,k1 _ _ s3 rfl⟩
      · rw [hv] at g
        refine ⟨_,g,_,rfl,k1 _ _ s3 ?_⟩
        show [V.int (-(wtl (foods st e) (f0 : Int).toNat : Int))] = [V.int (-0)]
        rw [Int.toNat_natCast,wtl_not z]
        rfl
    · have hL3 : H2 L = some (.lst (st.kinds.map fun f=>V.int (-(wtl (foods st e) f : Int)))):=by
        rw [hL2,ns_flatMap]
        have : (st.kinds.flatMap fun k=>(fun x : V=>match x with | .int i=>[V.int (-(wtl (foods st e) i.toNat : Int))] | _=>[]) (nv k)) = st.kinds.flatMap fun k=>[V.int (-(wtl (foods st e) k : Int))]:=rfl
        rw [this,flat_map]
      have s2 : Same H H2:=h1.trans h2
      refine ⟨_,rfl,_,rfl,p,W,st,e,rfl,hF,hP.same s2,fun H3 h3=>?_⟩
      have hix : ixN (st.kinds.map fun f=>V.int (-(wtl (foods st e) f : Int))).length ((e : Int) - 1) = some (e - 1):=by
        unfold ixN
        rw [List.length_map,hkl,if_pos (by omega),if_pos (by omega)]
        congr 1
        omega
      refine ⟨_,rfl,_,rfl,_,_,rfl,rfl,L,_,_,e - 1,rfl,rfl,h3 _ _ hL3,hix,?_⟩
      have hLn : H L = none:=h1.free hL
      have s4:=Same.upd' (o:=.lst ((st.kinds.map fun f=>V.int (-(wtl (foods st e) f : Int))).set (e - 1) (nv (Fw.W st e)))) (s2.trans h3) hLn
      refine ⟨_,rfl,_,rfl,(by show 1 ≤ sizeLine; decide),fun b hb=>?_⟩
      have hLb : L ≠ b:=ne_of_none upd_same hb
      have s5:=Same.upd' (o:=.lst [.int r]) s4 (s4.free hb)
      refine ⟨L,b,_,_,rfl,rfl,by rw [upd_ne hLb,upd_same],upd_same,?_,fun o ho=>?_⟩
      · rw [List.length_set,List.length_map,hkl]
        show st.n + 1 ≤ _
        omega
      · refine k _ o (Same.upd' s5 (s5.free ho)) (s5.free ho) ?_
        rw [upd_same,eq_row hF he1 he2]
end
end FwD
namespace FwD
open PySem PySem.Spec PyProof.Rows L2 Fw
open Vbecai (State frac foods allLive isKind shown)
theorem lc_rows {K : PySem.W.Frag} {a : Addr} {s : State} {g : TG} {tt : TT} {te : TE} {vs : List Nat} {σ : L2.St} {H1 : Hp} {R : Hp → Prop} {D : Addr} (F : WF s) (M : MatZ) (hD : H1 D = none) (hx : SqL K H1 a (ns s.kinds))
    (hs : ∀ (i : Nat) (H : Hp) (C1 : V → Hp → Prop) (C0 : Hp → Prop),i < s.n → Same H1 H → (∀ o H4,Same H H4 → H o = none → H4 o = some (.lst (rowZ s.n (M i))) → C1 (.ref o) H4) →
      g (nv (i + 1)) (wipe σ vs) H fun σ2 H2=>wipe σ2 vs = wipe σ vs ∧ tt σ2 H2 fun b H3=>if b = true then te σ2 H3 C1 else C0 H3)
    (hd : ∀ (H' : Hp) (as : List Addr),Same H1 H' → H' D = some (.lst (as.map V.ref)) → as.length = s.n → (∀ j a,as[j]? = some a → a ≠ D ∧ H' a = some (.lst (rowZ s.n (M j)))) → R H') :
    ∃ W : Nat → Nat → Hp → Prop,(∃ m,W 0 m (upd H1 D (.lst []))) ∧ ∀ i m H,W i m H →
      ((Itl K a).stop i H ∧ R H) ∨ ((Itl K a).go i H ∧ ∃ Nx : Hp → Prop,(∀ H',Nx H' → ∃ m',m' < m ∧ W (i + 1) m' H') ∧ ∀ x H',(Itl K a).yld i H x H' → g x (wipe σ vs) H' fun σ2 H2=>wipe σ2 vs = wipe σ vs ∧ tt σ2 H2 fun b H3 =>
        if b = true then te σ2 H3 fun y H4=>∃ acc,H4 D = some (.lst acc) ∧ acc.length < sizeLine ∧ Nx (upd H4 D (.lst (acc ++ [y]))) else Nx H3):=by
  have hsl : sizeLine = 16777216:=sizeLine_eq
  have hn10:=F.n10
  have hkl : s.kinds.length = s.n:=length_kinds
  refine lc_list (K:=K) (a:=a) (xs:=ns s.kinds) (Q:=fun _ H=>R H) (fun i acc H2=>∃ bs : List Addr,acc = bs.map V.ref ∧ bs.length = i ∧ (∀ j a,bs[j]? = some a → a ≠ D ∧ H2 a = some (.lst (rowZ s.n (M j)))) ∧ Same H1 H2)
    ⟨[],rfl,rfl,fun j a e=>by simp at e,Same.upd hD⟩ (fun i acc H ⟨_,_,_,_,q⟩=>q.seq hx) (fun i x acc H2 hi hDH ⟨bs,ea,e1,e3,h2⟩=>?_) (fun acc H2 hDH ⟨bs,ea,e1,e3,h2⟩=>?_)
  · obtain ⟨e,he,rfl⟩:=ns_get hi
    have hin : i < s.n:=by
      have:=(List.getElem?_eq_some_iff.mp he).1
      omega
    have hee : e = i + 1:=by
      unfold State.kinds at he
      rw [List.getElem?_map,List.getElem?_range hin] at he
      exact (Option.some.inj he).symm
    subst hee
    refine hs i H2 _ _ hin h2 fun o H4 h4 ho ho4=>?_
    have hoD : o ≠ D:=fun z=>by rw [z,hDH] at ho; cases ho
    refine ⟨acc,h4 _ _ hDH,by rw [ea,List.length_map]; omega,_,upd_same,bs ++ [o],by rw [ea,List.map_append]; rfl,by simp [e1],fun j a' e=>?_,Same.upd' (h2.trans h4) hD⟩
    by_cases q : j < bs.length
    · rw [List.getElem?_append_left q] at e
      obtain ⟨x1,x2⟩:=e3 j a' e
      exact ⟨x1,by rw [upd_ne x1]; exact h4 _ _ x2⟩
    · have hj : j = i:=by
        have:=(List.getElem?_eq_some_iff.mp e).1
        rw [List.length_append] at this
        have : j < bs.length + 1:=this
        omega
      subst hj
      rw [List.getElem?_append_right (by omega),e1,Nat.sub_self] at e
      have : o = a':=Option.some.inj e
      subst this
      exact ⟨hoD,by rw [upd_ne hoD]; exact ho4⟩
  · rw [ns_len,hkl] at e1
    exact hd H2 bs h2 (by rw [hDH,ea]) e1 e3
theorem act_levels {s : State} (h : allLive s = true) : Vbecai.act s .levels = (s,(s.n : Int) :: shown (Vbecai.levels s)):=by
  show (if allLive s = false then _ else _) = _
  rw [h,if_neg (by simp)]
theorem act_through {s : State} (h : allLive s = true) (j : Int) : Vbecai.act s (.through j) = (s,(s.n : Int) :: shown (Vbecai.through s j.toNat)):=by
  show (if allLive s = false then _ else _) = _
  rw [h,if_neg (by simp)]
section
variable {P : Program} {w : World} {K : PySem.W.Frag} {mg : Str → Option Value} {base : Heap} {CP CR : Addr}
abbrev nLev : List Str:=["pond","rows","kind"]
theorem scLev : FnScope nLev ["pond"] (defScope sLevels):=⟨rfl,rfl,rfl,by decide +kernel,rfl,by decide +kernel,by decide +kernel⟩
theorem ok_levels {f : Addr} {fd : FuncData} (D : Def K mg "levels" sLevels ["pond"] f fd) (T : Txt K mg CP CR) (CA : Callee P w K mg base "all_live" 3 ["pond"] (spAllLive CP)) (CK : Callee P w K mg base "kinds_of" 1 ["pond"] (spKinds CP)) (CT : Callee P w K mg base "total_weight" 2 ["pond","eater"] (spTotal CP)) (CQ : Callee P w K mg base "equation" 3 ["pond","eater","right"] (spEq CP)) (CS : Callee P w K mg base "solved" 3 ["equations"] spSolved) :
    FnOk P w K mg base CX0 4 f fd ["pond"] (spC0 9 CP):=by
  obtain ⟨fA,fdA,mA,kA,bA,GA⟩:=CA
  obtain ⟨fK,fdK,mK,kK,bK,GK⟩:=CK
  obtain ⟨fT,fdT,mT,kT,bT,GT⟩:=CT
  obtain ⟨fQ,fdQ,mQ,kQ,bQ,GQ⟩:=CQ
  obtain ⟨fS,fdS,mS,kS,bS,GS⟩:=CS
  obtain ⟨t7,h7'⟩:=T.r7
  refine D.fn.ok scLev (fun vs H Q E h=>?_) (fun cdv A outer s H vs Q E hr h=>?_)
  · obtain ⟨p,W,st,rfl,_⟩:=h
    rfl
  · obtain ⟨p,W,st,rfl,hF,hP,k⟩:=h
    have hsl : sizeLine = 16777216:=sizeLine_eq
    have hn10:=hF.n10
    have hr1:=hr.mono (j:=1) (by decide)
    have hr2:=hr.mono (j:=2) (by decide)
    rw [step_levels] at k
    refine ⟨_,pss_cons (ps_if (pt_not (pt_val (pe_call GA hr (by rfl) mA kA bA .nil pass0 (pa_cons (pv 0) pa_nil)))) (pss_one (ps_ret (pe_lst (pa_cons (pe_glob (v:=.int (-7)) (by rfl) h7' ⟨_,rfl⟩) pa_nil)))) pss_nil)
      (pss_cons (ps_setLc (i:=1) (own:=[("kind",2)]) (te:=tCall (spEq CP) [] E0 (tCons (tVar 0) (tCons (tVar 2) (tCons (tCall (spTotal CP) [] E0 (tCons (tVar 0) (tCons (tVar 2) tNil))) tNil)))) rfl scLev.nd rfl rfl rfl (pi_list (pe_call GK hr1 (by rfl) mK kK bK .nil pass0 (pa_cons (pv 0) pa_nil)))
        (blk (N:=nLev) (sc:=defScope sLevels) (by decide +kernel))
        (fun _ _ _ _ _=>pg_name (i:=2) scLev.nd rfl (Or.inl rfl)) (fun _ _ _ _ _=>pts_nil) (fun _ _ _ _ _=>pe_call GQ hr (by rfl) mQ kQ bQ .nil pass0 (pa_cons (pv 0) (pa_cons (pv 2) (pa_cons (pe_call GT hr2 (by rfl) mT kT bT .nil pass0 (pa_cons (pv 0) (pa_cons (pv 2) pa_nil))) pa_nil)))))
      (pss_one (ps_ret (pe_op op_cat (pe_lst (pa_cons (pe_fld (pv 0) rfl) pa_nil)) (pe_call GS hr (by rfl) mS kS bS .nil pass0 (pa_cons (pv 1) pa_nil)))))),?_⟩
    refine ⟨_,rfl,p,W,st,rfl,hF,hP,fun H1 h1=>⟨_,rfl,?_⟩⟩
    cases hall : allLive st with
    | false =>
      have e : Vbecai.act st .levels = (st,[-7]):=if_pos hall
      exact iteT ⟨(by show 1 ≤ sizeLine; decide),fun q hq=>k.pure e hP (Same.upd' h1 (h1.free hq)) (h1.free hq) upd_same⟩
    | true =>
      rw [act_levels hall,levels_out hF hall] at k
      refine iteF ⟨_,rfl,p,W,st,rfl,hF,hP.same h1,fun H2 q h2 hq hq2=>⟨q,rfl,⟨_,SqL.of hq2⟩,fun L hL=>?_⟩⟩
      have s2 : Same H H2:=h1.trans h2
      refine lc_rows (K:=K) (a:=q) (s:=st) (σ:=[some (.ref p),none,none]) hF (fun i=>eqZ st (i + 1) (Fw.W st (i + 1) : Int)) hL (SqL.of hq2) (fun i H3 C1 C0 hi h3 k1=>?_) (fun H3 as h3 hL3 hal hrow=>?_)
      · have hP3:=hP.same (s2.trans h3)
        refine ⟨rfl,yesT (iteT ⟨_,rfl,_,rfl,_,rfl,_,rfl,p,W,st,i + 1,rfl,hF,hP3,fun H4 h4=>?_⟩)⟩
        exact ⟨p,W,st,i + 1,_,rfl,hF,hP3.same h4,by omega,by omega,fun H5 o h5 ho ho5=>k1 o H5 (h4.trans h5) (h4.free ho) ho5⟩
      · have s3 : Same H H3:=s2.trans h3
        refine ⟨_,rfl,rdN T (hP.same s3) ⟨(by show 1 ≤ sizeLine; decide),fun a ha=>?_⟩⟩
        have s4 : Same H3 (upd H3 a (.lst [.int (st.n : Int)])):=Same.upd ha
        have hM : MatAt (upd H3 a (.lst [.int (st.n : Int)])) L st.n (levA st):=MatAt.same (MatAt.congr (⟨as,hL3,hal,fun i a e=>(hrow i a e).2⟩ : MatAt H3 L st.n fun i=>eqZ st (i + 1) (Fw.W st (i + 1) : Int)) fun i hi c hc=>by
          unfold eqZ levA coef levB
          rw [if_neg (show ¬ (false = true) by simp)]
          rfl) s4
        refine ⟨_,rfl,L,st.n,levA st,rfl,hM,hF.n1,hn10,lev_start hF,lev_sol hF hall,fun H5 o h5 ho ho5=>?_⟩
        have s5 : Same H H5:=s3.trans (s4.trans h5)
        have hol : (outOf st.n (levA st)).length = 2 * st.n:=outT_len st.n (levA st) st.n
        refine ⟨a,o,_,_,rfl,rfl,h5 _ _ upd_same,ho5,?_,fun z hz=>?_⟩
        · rw [List.length_map,hol]
          show 1 + _ ≤ _
          omega
        · refine k.pure rfl hP (Same.upd' s5 (s5.free hz)) (s5.free hz) ?_
          rw [upd_same]
          rfl
abbrev nThr : List Str:=["pond","j","rows","kind"]
theorem scThr : FnScope nThr ["pond","j"] (defScope sThrough):=⟨rfl,rfl,rfl,by decide +kernel,rfl,by decide +kernel,by decide +kernel⟩
theorem unit_row (s : State) (j : Nat) (h1 : 1 ≤ j) : (s.kinds.map fun e=>V.int (if e = j then 1 else 0)) ++ [V.int 1] = rowZ s.n fun c=>if c = s.n then 1 else if c = j - 1 then 1 else 0:=by
  unfold rowZ State.kinds
  rw [List.range_succ,List.map_append,List.map_map]
  congr 1
  · refine List.map_congr_left fun i hi=>?_
    have hi:=List.mem_range.mp hi
    show V.int (if i + 1 = j then 1 else 0) = V.int (if i = s.n then 1 else if i = j - 1 then 1 else 0)
    rw [if_neg (show ¬ i = s.n by omega)]
    by_cases q : i + 1 = j
    · rw [if_pos q,if_pos (by omega)]
    · rw [if_neg q,if_neg (by omega)]
  · simp
theorem ok_through {f : Addr} {fd : FuncData} (D : Def K mg "through" sThrough ["pond","j"] f fd) (T : Txt K mg CP CR) (CI : Callee P w K mg base "is_kind" 1 ["pond","k"] (spIsKind CP)) (CA : Callee P w K mg base "all_live" 3 ["pond"] (spAllLive CP)) (CK : Callee P w K mg base "kinds_of" 1 ["pond"] (spKinds CP)) (CQ : Callee P w K mg base "equation" 3 ["pond","eater","right"] (spEq CP)) (CS : Callee P w K mg base "solved" 3 ["equations"] spSolved) :
    FnOk P w K mg base CX0 4 f fd ["pond","j"] (spC1 10 CP):=by
  obtain ⟨fI,fdI,mI,kI,bI,GI⟩:=CI
  obtain ⟨fA,fdA,mA,kA,bA,GA⟩:=CA
  obtain ⟨fK,fdK,mK,kK,bK,GK⟩:=CK
  obtain ⟨fQ,fdQ,mQ,kQ,bQ,GQ⟩:=CQ
  obtain ⟨fS,fdS,mS,kS,bS,GS⟩:=CS
  obtain ⟨t1,h1'⟩:=T.r1
  obtain ⟨t7,h7'⟩:=T.r7
  refine D.fn.ok scThr (fun vs H Q E h=>?_) (fun cdv A outer s H vs Q E hr h=>?_)
  · obtain ⟨p,W,st,kk,rfl,_⟩:=h
    rfl
  · obtain ⟨p,W,st,kk,rfl,hF,hP,k⟩:=h
    have hsl : sizeLine = 16777216:=sizeLine_eq
    have hn10:=hF.n10
    have hr1:=hr.mono (j:=1) (by decide)
    have hkl : st.kinds.length = st.n:=length_kinds
    rw [step_through] at k
    refine ⟨_,pss_cons (ps_if (pt_not (pt_val (pe_call GI hr1 (by rfl) mI kI bI .nil pass0 (pa_cons (pv 0) (pa_cons (pv 1) pa_nil))))) (pss_one (ps_ret (pe_lst (pa_cons (pe_glob (v:=.int (-1)) (by rfl) h1' ⟨_,rfl⟩) pa_nil)))) pss_nil)
      (pss_cons (ps_if (pt_not (pt_val (pe_call GA hr (by rfl) mA kA bA .nil pass0 (pa_cons (pv 0) pa_nil)))) (pss_one (ps_ret (pe_lst (pa_cons (pe_glob (v:=.int (-7)) (by rfl) h7' ⟨_,rfl⟩) pa_nil)))) pss_nil)
      (pss_cons (ps_setLc (i:=2) (own:=[("kind",3)]) (te:=tCall (spEq CP) [] E0 (tCons (tVar 0) (tCons (tVar 3) (tCons (tC (.int 0)) tNil)))) rfl scThr.nd rfl rfl rfl (pi_list (pe_call GK hr1 (by rfl) mK kK bK .nil pass0 (pa_cons (pv 0) pa_nil)))
        (blk (N:=nThr) (sc:=defScope sThrough) (by decide +kernel))
        (fun _ _ _ _ _=>pg_name (i:=3) scThr.nd rfl (Or.inl rfl)) (fun _ _ _ _ _=>pts_nil) (fun _ _ _ _ _=>pe_call GQ hr (by rfl) mQ kQ bQ .nil pass0 (pa_cons (pv 0) (pa_cons (pv 3) (pa_cons pe_int pa_nil)))))
      (pss_cons (ps_asg (pe_op op_cat (pe_lc (own:=[("kind",3)]) rfl scThr.nd (pi_list (pe_call GK hr1 (by rfl) mK kK bK .nil pass0 (pa_cons (pv 0) pa_nil)))
        (blk (N:=nThr) (sc:=defScope sThrough) (by decide +kernel))
        (fun _ _ _ _ _=>pg_name (i:=3) scThr.nd rfl (Or.inl rfl)) (fun _ _ _ _ _=>pts_nil) (fun _ _ _ _ _=>pe_ifExp (pt_cmpR op_eq (pv 3) (pv 1) (nomark _)) pe_int pe_int)) (pe_lst (pa_cons pe_int pa_nil))) (pg_sub (pv 2) (pe_op op_sub (pv 1) pe_int) set_list))
      (pss_one (ps_ret (pe_op op_cat (pe_lst (pa_cons (pe_fld (pv 0) rfl) pa_nil)) (pe_call GS hr (by rfl) mS kS bS .nil pass0 (pa_cons (pv 2) pa_nil)))))))),?_⟩
    refine ⟨_,rfl,_,rfl,p,W,st,kk,rfl,hP,_,rfl,?_⟩
    cases hk : isKind st kk with
    | false =>
      rw [hk,if_pos rfl] at k
      exact iteT ⟨(by show 1 ≤ sizeLine; decide),fun q hq=>k.pure rfl hP (Same.upd hq) hq upd_same⟩
    | true =>
    rw [hk,if_neg (by simp)] at k
    have hkk:=isKind_iff.mp hk
    obtain ⟨jn,rfl⟩ : ∃ jn : Nat,kk = (jn : Int):=⟨kk.toNat,by omega⟩
    refine iteF ⟨_,rfl,p,W,st,rfl,hF,hP,fun H1 h1=>⟨_,rfl,?_⟩⟩
    cases hall : allLive st with
    | false =>
      have e : Vbecai.act st (.through (jn : Int)) = (st,[-7]):=if_pos hall
      exact iteT ⟨(by show 1 ≤ sizeLine; decide),fun q hq=>k.pure e hP (Same.upd' h1 (h1.free hq)) (h1.free hq) upd_same⟩
    | true =>
      rw [act_through hall,Int.toNat_natCast,through_out hF hall] at k
      refine iteF ⟨_,rfl,p,W,st,rfl,hF,hP.same h1,fun H2 q h2 hq hq2=>⟨q,rfl,⟨_,SqL.of hq2⟩,fun L hL=>?_⟩⟩
      have s2 : Same H H2:=h1.trans h2
      have hLn : H L = none:=s2.free hL
      refine lc_rows (K:=K) (a:=q) (s:=st) (σ:=[some (.ref p),some (nv jn),none,none]) hF (fun i=>eqZ st (i + 1) 0) hL (SqL.of hq2) (fun i H3 C1 C0 hi h3 k1=>?_) (fun H3 as h3 hL3 hal hrow=>?_)
      · have hP3:=hP.same (s2.trans h3)
        refine ⟨rfl,yesT (iteT ⟨_,rfl,_,rfl,p,W,st,i + 1,0,rfl,hF,hP3,by omega,by omega,fun H5 o h5 ho ho5=>k1 o H5 h5 ho ho5⟩)⟩
      · have s3 : Same H H3:=s2.trans h3
        refine ⟨_,rfl,p,W,st,rfl,hF,hP.same s3,fun H4 q4 h4 hq4 hq44=>⟨q4,rfl,⟨_,SqL.of hq44⟩,fun Z hZ=>?_⟩⟩
        refine lc_listR (K:=K) (a:=q4) (xs:=ns st.kinds) (σ:=[some (.ref p),some (nv jn),some (.ref L),none]) (fun x=>[if x = nv jn then V.int 1 else V.int 0]) hZ (SqL.of hq44) (by rw [ns_len]; omega) (fun i x H5 C1 C0 hi h5 k1 k0=>?_) (fun H5 h5 hZ5=>?_)
        · refine ⟨rfl,yesT (iteT ⟨_,rfl,_,rfl,?_⟩)⟩
          obtain ⟨e,he,rfl⟩:=ns_get hi
          refine ⟨rfl,_,rfl,iteD (fun z=>k1 _ _ Same.refl ?_) (fun z=>k1 _ _ Same.refl ?_)⟩
          · rw [if_pos z]
          · rw [if_neg z]
        · have hZ6 : H5 Z = some (.lst (st.kinds.map fun e=>V.int (if e = jn then 1 else 0))):=by
            rw [hZ5,ns_flatMap,flat_map]
            congr 2
            refine List.map_congr_left fun e _=>?_
            by_cases z : e = jn
            · rw [if_pos (by rw [z]),if_pos z]
            · rw [if_neg (fun y=>z (by have:=V.int.inj y; omega)),if_neg z]
          have s35 : Same H3 H5:=h4.trans h5
          have s5 : Same H H5:=s3.trans s35
          refine ⟨(by show 1 ≤ sizeLine; decide),fun b hb=>?_⟩
          have s6 : Same H5 (upd H5 b (.lst [.int 1])):=Same.upd hb
          have hZb : Z ≠ b:=ne_of_none hZ6 hb
          refine ⟨Z,b,_,_,rfl,rfl,s6 _ _ hZ6,upd_same,?_,fun y hy=>?_⟩
          · rw [List.length_map,hkl]
            show st.n + 1 ≤ _
            omega
          rw [unit_row st jn (by omega)]
          have s7:=Same.upd' (o:=.lst (rowZ st.n fun c=>if c = st.n then 1 else if c = jn - 1 then 1 else 0)) s6 (s6.free hy)
          have hy7 : upd (upd H5 b (.lst [.int 1])) y (.lst (rowZ st.n fun c=>if c = st.n then 1 else if c = jn - 1 then 1 else 0)) y = some (.lst (rowZ st.n fun c=>if c = st.n then 1 else if c = jn - 1 then 1 else 0)):=upd_same
          have hy0 : H5 y = none:=s6.free hy
          generalize upd (upd H5 b (.lst [.int 1])) y (.lst (rowZ st.n fun c=>if c = st.n then 1 else if c = jn - 1 then 1 else 0)) = H7 at s7 hy7 ⊢
          have s37 : Same H3 H7:=s35.trans s7
          have hyL : y ≠ L:=fun z=>by rw [z,s35 _ _ hL3] at hy0; cases hy0
          have hix : ixN (as.map V.ref).length ((jn : Int) - 1) = some (jn - 1):=by
            unfold ixN
            rw [List.length_map,hal,if_pos (by omega),if_pos (by omega)]
            congr 1
            omega
          refine ⟨_,rfl,_,rfl,_,_,rfl,rfl,L,_,_,jn - 1,rfl,rfl,s37 _ _ hL3,hix,?_⟩
          have s8 : Same H (upd H7 L (.lst ((as.map V.ref).set (jn - 1) (.ref y)))):=Same.upd' (s3.trans s37) hLn
          have hM : MatAt (upd H7 L (.lst ((as.map V.ref).set (jn - 1) (.ref y)))) L st.n (thrA st jn):=by
            refine ⟨as.set (jn - 1) y,by rw [upd_same,List.map_set],by rw [List.length_set]; exact hal,fun i a e=>?_⟩
            rw [List.getElem?_set] at e
            by_cases q : jn - 1 = i
            · rw [if_pos q,if_pos (by omega)] at e
              have : y = a:=Option.some.inj e
              subst this
              rw [upd_ne hyL,hy7,rowZ_congr fun c hc=>?_]
              unfold thrA coef thrB
              have hj : i + 1 = jn:=by omega
              dsimp only
              rw [if_pos hj,if_pos (decide_eq_true hj)]
              by_cases z : c = st.n
              · rw [if_pos z,if_pos z]
              · rw [if_neg z,if_neg z]
                by_cases z2 : c = jn - 1
                · rw [if_pos z2,if_pos (by omega)]
                · rw [if_neg z2,if_neg (by omega)]
            · rw [if_neg q] at e
              obtain ⟨x1,x2⟩:=hrow i a e
              rw [upd_ne x1,s37 _ _ x2,rowZ_congr fun c hc=>?_]
              unfold thrA coef thrB eqZ
              have hj : ¬ i + 1 = jn:=by omega
              dsimp only
              rw [if_neg hj,if_neg (show ¬ decide (i + 1 = jn) = true by simpa using hj),Nat.add_sub_cancel]
          generalize upd H7 L (.lst ((as.map V.ref).set (jn - 1) (.ref y))) = H8 at s8 hM ⊢
          refine ⟨_,rfl,rdN T (hP.same s8) ⟨(by show 1 ≤ sizeLine; decide),fun a ha=>?_⟩⟩
          have s9 : Same H8 (upd H8 a (.lst [.int (st.n : Int)])):=Same.upd ha
          refine ⟨_,rfl,L,st.n,thrA st jn,rfl,hM.same s9,hF.n1,hn10,thr_start hF jn,thr_sol hF hall jn,fun Ha o ha' ho ho'=>?_⟩
          have sa : Same H Ha:=s8.trans (s9.trans ha')
          have hol : (outOf st.n (thrA st jn)).length = 2 * st.n:=outT_len st.n (thrA st jn) st.n
          refine ⟨a,o,_,_,rfl,rfl,ha' _ _ upd_same,ho',?_,fun z hz=>?_⟩
          · rw [List.length_map,hol]
            show 1 + _ ≤ _
            omega
          · refine k.pure rfl hP (Same.upd' sa (sa.free hz)) (sa.free hz) ?_
            rw [upd_same]
            rfl
end
end FwD
namespace FwD
open PySem PySem.Spec PyProof.Rows L2 Fw
open Vbecai (State frac foods allLive isKind shown alive chosen)
theorem counted_len (l : List Nat) : (Vbecai.counted l).length = l.length + 1:=by
  unfold Vbecai.counted Vbecai.ints
  simp
theorem listing_len (s : State) : ∀ (m : Nat) (l : List Nat),(Vbecai.listing s m l).length ≤ l.length + m
  | 0,l=>Nat.le_refl _
  | m + 1,l=>by
    show (match s.kinds.find? (canList s l) with | none=>l | some e=>Vbecai.listing s m (l ++ [e])).length ≤ _
    cases s.kinds.find? (canList s l) with
    | none=>show l.length ≤ _; omega
    | some e =>
      have:=listing_len s m (l ++ [e])
      rw [List.length_append] at this
      have : (Vbecai.listing s m (l ++ [e])).length ≤ l.length + 1 + m:=this
      show (Vbecai.listing s m (l ++ [e])).length ≤ _
      omega
theorem worst_len {s : State} (F : WF s) (m : Nat) : (Vbecai.worst s m).2.length ≤ 10:=by
  have gen : ∀ (l : List (List Nat)) (b : Nat × List Nat),(∀ g ∈ l,g.length ≤ 10) → b.2.length ≤ 10 → (l.foldl (wStep s) b).2.length ≤ 10:=by
    intro l
    induction l with
    | nil=>intro b _ h; exact h
    | cons g l ih =>
      intro b hl hb
      rw [List.foldl_cons]
      refine ih _ (fun x hx=>hl x (by simp [hx])) ?_
      unfold wStep
      split
      · exact hl g (by simp)
      · exact hb
  rw [worst_is]
  refine gen _ _ (fun g hg=>?_) (by simp)
  have h1:=(chosen_mem hg).2.length_le
  rw [length_kinds] at h1
  have:=F.n10
  omega
theorem chains_len (s : State) : ∀ m,(Vbecai.chains s m).length = s.n
  | 0=>by show (s.kinds.map _).length = _; rw [List.length_map,length_kinds]
  | 1=>by show (s.kinds.map _).length = _; rw [List.length_map,length_kinds]
  | m + 2=>by show (s.kinds.map _).length = _; rw [List.length_map,length_kinds]
theorem act_len {s : State} (F : WF s) (d : Vbecai.Call) : (Vbecai.act s d).2.length ≤ 400:=by
  have hn:=F.n10
  have hal : ∀ g,(alive s g).length ≤ 10:=fun g=>alive_len F
  have one : ∀ (x : State) (z : Int),(x,[z]).2.length ≤ 400:=fun x z=>by show 1 ≤ 400; decide
  cases d with
  | web n l=>exact one _ _
  | told =>
    have h1:=toldT_len s s.links.length (Nat.le_refl _)
    have h2:=links_few F
    unfold toldT at h1
    rw [List.take_length] at h1
    show ((s.n : Int) :: (s.links.length : Int) :: s.links.flatMap fun x=>[(x.1 : Int),(x.2.1 : Int),(x.2.2 : Int)]).length ≤ 400
    omega
  | alive l =>
    show (Vbecai.counted _).length ≤ 400
    rw [counted_len]
    have:=hal (Vbecai.nats l)
    omega
  | falls k =>
    show (Vbecai.counted _).length ≤ 400
    rw [counted_len]
    have : (Vbecai.falls s k.toNat).length ≤ 10:=Nat.le_trans (List.length_filter_le _ _) (hal [])
    omega
  | needed k =>
    show (if Vbecai.lives s k.toNat = false then (s,[(-5 : Int)]) else (s,Vbecai.counted (Vbecai.needed s k.toNat))).2.length ≤ 400
    split
    · exact one _ _
    · show (Vbecai.counted _).length ≤ 400
      rw [counted_len]
      have : (Vbecai.needed s k.toNat).length ≤ 10:=Nat.le_trans (List.length_filter_le _ _) (hal [])
      omega
  | nearest k =>
    show (if Vbecai.lives s k.toNat = false then (s,[(-5 : Int)]) else (s,[(Vbecai.nearest s k.toNat : Int)])).2.length ≤ 400
    split <;> exact one _ _
  | least k =>
    show (if Vbecai.lives s k.toNat = false then (s,[(-5 : Int)]) else if Vbecai.linked s 0 k.toNat = true then (s,[(-6 : Int)]) else match Vbecai.least s k.toNat with | none=>(s,[(-6 : Int)]) | some l=>(s,Vbecai.counted l)).2.length ≤ 400
    split
    · exact one _ _
    · split
      · exact one _ _
      · cases h : Vbecai.least s k.toNat with
        | none=>exact one _ _
        | some g =>
          show (Vbecai.counted _).length ≤ 400
          rw [counted_len]
          have:=least_len h
          have:=others_bound F (k:=k.toNat)
          omega
  | ways k =>
    show (if Vbecai.lives s k.toNat = false then (s,[(-5 : Int)]) else if Vbecai.linked s 0 k.toNat = true then (s,[(-6 : Int)]) else (s,[(Vbecai.ways s k.toNat : Int)])).2.length ≤ 400
    split
    · exact one _ _
    · split <;> exact one _ _
  | worst m =>
    show (((Vbecai.worst s m.toNat).1 : Int) :: Vbecai.ints (Vbecai.worst s m.toNat).2).length ≤ 400
    have:=worst_len F m.toNat
    rw [List.length_cons,Vbecai.ints,List.length_map]
    omega
  | levels =>
    show (if allLive s = false then (s,[(-7 : Int)]) else (s,(s.n : Int) :: shown (Vbecai.levels s))).2.length ≤ 400
    split
    · exact one _ _
    · rename_i h
      show ((s.n : Int) :: shown (Vbecai.levels s)).length ≤ 400
      rw [levels_out F (by simpa using h),List.length_cons]
      have : (outOf s.n (levA s)).length = 2 * s.n:=outT_len s.n (levA s) s.n
      omega
  | through j =>
    show (if allLive s = false then (s,[(-7 : Int)]) else (s,(s.n : Int) :: shown (Vbecai.through s j.toNat))).2.length ≤ 400
    split
    · exact one _ _
    · rename_i h
      show ((s.n : Int) :: shown (Vbecai.through s j.toNat)).length ≤ 400
      rw [through_out F (by simpa using h),List.length_cons]
      have : (outOf s.n (thrA s j.toNat)).length = 2 * s.n:=outT_len s.n (thrA s j.toNat) s.n
      omega
  | chains m =>
    show (Vbecai.counted _).length ≤ 400
    rw [counted_len,chains_len]
    omega
  | shortest k=>exact one _ _
  | together k =>
    show (Vbecai.counted _).length ≤ 400
    rw [counted_len]
    have : (Vbecai.together s k.toNat).length ≤ s.kinds.length:=List.length_filter_le _ _
    rw [length_kinds] at this
    omega
  | order =>
    show (Vbecai.counted _).length ≤ 400
    rw [counted_len]
    have : (Vbecai.order s).length ≤ 0 + s.n:=listing_len s s.n []
    omega
  | remove k =>
    show (if s.n = 1 then (s,[(-8 : Int)]) else _).2.length ≤ 400
    split <;> exact one _ _
  | weight f e x =>
    show (if f = e then (s,[(-9 : Int)]) else _).2.length ≤ 400
    split <;> exact one _ _
theorem step_len {s : State} (F : WF s) (c : List (List Int)) : (Vbecai.step s c).2.length ≤ 400:=by
  unfold Vbecai.step
  split
  · show 1 ≤ 400; decide
  · split
    · show 1 ≤ 400; decide
    · exact act_len F _
theorem form_wf {s : State} (F : WF s) {l t : List Int} {c : List (List Int)} (h : Form l c t) : WF (Vbecai.step s c).1:=by
  have ite1 : ∀ {b : Bool} {x : State × List Int},(b = true → WF x.1) → WF (if b = false then (s,[(-1 : Int)]) else x).1:=fun {b x} h=>by
    cases b with
    | false=>rw [if_pos rfl]; exact F
    | true=>rw [if_neg (by simp)]; exact h rfl
  cases h with
  | web n row =>
    rw [step_web]
    refine ite1 fun h=>?_
    have hlen : row.length % 3 = 0 ∧ row.length ≤ 300:=by
      cases q : decide (row.length % 3 ≠ 0 ∨ 300 < row.length) with
      | true=>rw [web_bad (of_decide_eq_true q)] at h; cases h
      | false =>
        have:=of_decide_eq_false q
        omega
    obtain ⟨m,hm⟩ : ∃ m,row.length = 3 * m:=⟨row.length / 3,by omega⟩
    obtain ⟨a1,a2,a3⟩:=(web_range hm (by omega)).mp h
    exact (web_state hm a1 a2 a3).1
  | alive row=>rw [step_alive]; exact ite1 fun _=>F
  | none p _ hp =>
    rcases hp with rfl | rfl | rfl
    · rw [step_told]; exact F
    · rw [step_levels]
      show WF (if allLive s = false then (_ : State × List Int) else _).1
      split <;> exact F
    · rw [step_order]; exact F
  | one p k _ hp =>
    rcases hp with rfl | rfl | rfl | rfl | rfl | rfl | rfl | rfl | rfl | rfl | rfl
    · rw [step_falls]; exact ite1 fun _=>F
    · rw [step_needed]
      refine ite1 fun _=>?_
      show WF (if Vbecai.lives s k.toNat = false then (_ : State × List Int) else _).1
      split <;> exact F
    · rw [step_nearest]
      refine ite1 fun _=>?_
      show WF (if Vbecai.lives s k.toNat = false then (_ : State × List Int) else _).1
      split <;> exact F
    · rw [step_least]
      refine ite1 fun _=>?_
      show WF (if Vbecai.lives s k.toNat = false then (s,[(-5 : Int)]) else if Vbecai.linked s 0 k.toNat = true then (s,[(-6 : Int)]) else match Vbecai.least s k.toNat with | none=>(s,[(-6 : Int)]) | some l=>(s,Vbecai.counted l)).1
      split
      · exact F
      · split
        · exact F
        · cases Vbecai.least s k.toNat <;> exact F
    · rw [step_ways]
      refine ite1 fun _=>?_
      show WF (if Vbecai.lives s k.toNat = false then (_ : State × List Int) else if Vbecai.linked s 0 k.toNat = true then _ else _).1
      split
      · exact F
      · split <;> exact F
    · rw [step_worst]; exact ite1 fun _=>F
    · rw [step_through]
      refine ite1 fun _=>?_
      show WF (if allLive s = false then (_ : State × List Int) else _).1
      split <;> exact F
    · rw [step_chains]; exact ite1 fun _=>F
    · rw [step_shortest]; exact ite1 fun _=>F
    · rw [step_together]; exact ite1 fun _=>F
    · rw [step_remove]
      refine ite1 fun h=>?_
      have hk:=isKind_iff.mp h
      show WF (if s.n = 1 then (s,[(-8 : Int)]) else (Vbecai.without s k.toNat,[(s.n : Int) - 1])).1
      split
      · exact F
      · rename_i h1
        exact without_wf F h1 ⟨by omega,by omega⟩
  | weight f e x =>
    rw [step_weight]
    refine ite1 fun h=>?_
    rw [Bool.and_eq_true,Bool.and_eq_true,within_iff,within_iff] at h
    obtain ⟨⟨f1,f2⟩,he,x1,x2⟩:=h
    have hek:=isKind_iff.mp he
    show WF (if f = e then (s,[(-9 : Int)]) else ({ s with links:=if x = 0 then s.links.filter (fun y=>!(y.1 == f.toNat && y.2.1 == e.toNat)) else Vbecai.putLink (f.toNat,e.toNat,x.toNat) (s.links.filter fun y=>!(y.1 == f.toNat && y.2.1 == e.toNat)) },[(if Vbecai.linked s f.toNat e.toNat then 1 else 0)])).1
    by_cases h1 : f = e
    · rw [if_pos h1]; exact F
    · rw [if_neg h1]
      have:=weight_wf F (f:=f.toNat) (e:=e.toNat) (w:=x.toNat) (by omega) ⟨by omega,by omega⟩ (by omega) (by omega)
      by_cases h2 : x = 0
      · subst h2
        rw [if_pos rfl]
        rw [if_pos (show Int.toNat 0 = 0 from rfl)] at this
        exact this
      · rw [if_neg h2]
        rw [if_neg (by omega)] at this
        exact this
end FwD
namespace FwD
open PySem PySem.Spec PyProof.Rows L2 Fw
open Vbecai (State)
abbrev sPInit : Stmt:=inClass (top 27) 0
abbrev sRInit : Stmt:=inClass (top 28) 0
abbrev sMoreM : Stmt:=inClass (top 28) 1
abbrev sNextN : Stmt:=inClass (top 28) 2
abbrev sNextR : Stmt:=inClass (top 28) 3
def MCallee (P : Program) (w : World) (K : PySem.W.Frag) (mg : Str → Option Value) (base : Heap) (C : Addr) (m : Str) (k : Nat) (ps : List Str) (sp : Sp) : Prop :=
  ∃ (f : Addr) (fd : FuncData),Meth K C m f ∧ Binds K fd ps [] ∧ FnOk P w K mg base CX0 k f fd ps sp
def KCallee (P : Program) (w : World) (K : PySem.W.Frag) (mg : Str → Option Value) (base : Heap) (x : Str) (C : Addr) (k : Nat) (ps : List Str) (sp : Sp) : Prop :=
  ∃ (f : Addr) (fd : FuncData),Mk K C f ∧ mg x = some (.ref C) ∧ Binds K fd ps [] ∧ FnOk P w K mg base CX0 k f fd ps sp
def spPInit (C : Addr) : Sp:=fun vs H Q _=>∃ (x dx : Addr),vs = [.ref x] ∧ H x = some (.ins C dx []) ∧ ∀ (H' : Hp) (W : Addr),PondAt C H' x W Vbecai.start → (∀ b o,H b = some o → b ≠ x → H' b = some o) → Q .non H'
section
variable {P : Program} {w : World} {K : PySem.W.Frag} {mg : Str → Option Value} {base : Heap} {CP CR : Addr}
theorem scPInit : FnScope ["self"] ["self"] (defScope sPInit):=⟨rfl,rfl,rfl,by decide +kernel,rfl,by decide +kernel,by decide +kernel⟩
theorem ok_pinit {f : Addr} {fd : FuncData} (F : Fun K "__init__" "Pond.__init__" sPInit f fd) (T : Txt K mg CP CR) : FnOk P w K mg base CX0 1 f fd ["self"] (spPInit CP):=by
  obtain ⟨tS,hsun⟩:=T.sun
  refine F.ok scPInit (fun vs H Q E h=>?_) (fun cdv A outer s H vs Q E hr h=>?_)
  · obtain ⟨x,dx,rfl,_⟩:=h
    rfl
  · obtain ⟨x,dx,rfl,hx,k⟩:=h
    have hu:=hu_of hr
    refine ⟨_,pss_cons (ps_fld (pv 0) pe_int rfl) (pss_one (ps_fld (pv 0) (pe_disp1T (Nat.lt_of_succ_lt hu) (pe_tup (pa_cons (pe_glob (v:=.int 0) (by rfl) hsun ⟨_,rfl⟩) (pa_cons pe_int pa_nil))) pe_int) rfl)),?_⟩
    refine ⟨_,rfl,x,CP,dx,[],rfl,hx,T.clP,T.nPn,(by show 0 < 1000; decide),?_⟩
    have hx1 : upd H x (.ins CP dx (putF "n" (.int 1) [])) x = some (.ins CP dx (putF "n" (.int 1) [])):=upd_same
    intro d hd
    have hxd : x ≠ d:=ne_of_none hx1 hd
    have hd0 : H d = none:=by
      rw [upd_ne hxd.symm] at hd
      exact hd
    refine ⟨(by show 2 ≤ sizeLine; decide),fun t ht=>?_⟩
    have hdt : d ≠ t:=ne_of_none upd_same ht
    have hxt : x ≠ t:=fun z=>by
      rw [← z,upd_ne hxd] at ht
      rw [hx1] at ht
      cases ht
    have ht0 : H t = none:=by
      rw [upd_ne hdt.symm,upd_ne hxt.symm] at ht
      exact ht
    refine ⟨by rw [upd_ne hdt,upd_same],_,DPut.t (k:=kF 0 1) (by rw [upd_ne hdt,upd_same]) upd_same (by show 0 < sizeLine; decide),?_⟩
    refine ⟨_,rfl,x,CP,dx,_,rfl,by rw [upd_ne hxd,upd_ne hxt,upd_ne hxd]; exact hx1,T.clP,T.nPw,(by show 1 < 1000; decide),?_⟩
    refine k _ d ⟨⟨dx,?_⟩,[(0,1,1)],.refl _,?_⟩ fun b o e hb=>?_
    · rw [upd_same]
      rfl
    · rw [upd_ne hxd.symm,upd_same]
      rfl
    · rw [upd_ne hb,upd_ne (ne_of_none e hd0),upd_ne (ne_of_none e ht0),upd_ne (ne_of_none e hd0),upd_ne hb]
      exact e
def rf (a : Addr) (i : Nat) : List (Str × V):=putF "place" (.int (i : Int)) (putF "calls" (.ref a) [])
theorem rf_is (a : Addr) (i : Nat) : rf a i = [(("calls" : Str),V.ref a),("place",.int (i : Int))]:=by
  show putF "place" (.int (i : Int)) [(("calls" : Str),V.ref a)] = _
  show (if ("calls" : Str) = "place" then _ else _) = _
  rw [if_neg (by decide +kernel)]
  rfl
theorem rf_calls (a : Addr) (i : Nat) : (rf a i).lookup ("calls" : Str) = some (.ref a):=by
  unfold rf
  rw [lookup_putF,if_neg (by decide +kernel),lookup_putF,if_pos rfl]
theorem rf_place (a : Addr) (i : Nat) : (rf a i).lookup ("place" : Str) = some (.int (i : Int)):=by
  unfold rf
  rw [lookup_putF,if_pos rfl]
theorem rf_no (a : Addr) (i : Nat) {m : Str} (h1 : ¬ m = "place") (h2 : ¬ m = "calls") : (rf a i).lookup m = none:=by
  unfold rf
  rw [lookup_putF,if_neg h1,lookup_putF,if_neg h2]
  rfl
theorem rf_put (a : Addr) (i j : Nat) : putF "place" (.int (j : Int)) (rf a i) = rf a j:=by
  rw [rf_is,rf_is]
  show (if ("calls" : Str) = "place" then _ else _) = _
  rw [if_neg (by decide +kernel)]
  show _ :: (if ("place" : Str) = "place" then _ else _) = _
  rw [if_pos rfl]
theorem rf_len (a : Addr) (i : Nat) : (rf a i).length < 1000:=by
  rw [rf_is]
  show 2 < 1000
  decide
def Calls (K : PySem.W.Frag) (H : Hp) (a : Addr) (l : List Int) : Prop:=(∃ o,H a = some (.frz o (.lst (l.map V.int)))) ∨ ∃ (o : Obj) (its : Array Value) (n : Nat),K.lookup a = some o ∧ o.cls = .type "list" ∧ o.dict = none ∧ o.data = .seq its n ∧ its.size ≤ sizeLine ∧ Vals (l.map V.int) its.toList
theorem Calls.sq {H : Hp} {a : Addr} {l : List Int} (h : FwD.Calls K H a l) : SqL K H a (l.map V.int):=by
  rcases h with ⟨o,h⟩ | h
  · exact .inl (.inr ⟨o,h⟩)
  · exact .inr h
theorem Calls.keep {H H' : Hp} {a : Addr} {l : List Int} (h : FwD.Calls K H a l) (k : ∀ o,H a = some (.frz o (.lst (l.map V.int))) → H' a = some (.frz o (.lst (l.map V.int)))) : FwD.Calls K H' a l:=by
  rcases h with ⟨o,h⟩ | h
  · exact .inl ⟨o,k o h⟩
  · exact .inr h
theorem Calls.upd {H : Hp} {a x : Addr} {l : List Int} {ob ob' : HO} (h : FwD.Calls K H a l) (hx : H x = some ob) (hn : ∀ o,ob ≠ .frz o (.lst (l.map V.int))) : FwD.Calls K (L2.upd H x ob') a l :=
  h.keep fun o e=>by
    rw [upd_ne (fun z=>by
      subst z
      rw [hx] at e
      exact hn o (Option.some.inj e))]
    exact e
theorem Calls.same {H H' : Hp} {a : Addr} {l : List Int} (h : FwD.Calls K H a l) (k : Same H H') : FwD.Calls K H' a l:=h.keep fun o e=>k _ _ e
def spRInit (K : PySem.W.Frag) (C : Addr) : Sp:=fun vs H Q _=>∃ (x dx a : Addr),vs = [.ref x,.ref a] ∧ H x = some (.ins C dx []) ∧ ∀ (H' : Hp),H' x = some (.ins C dx (rf a 0)) → (∀ b o,H b = some o → b ≠ x → H' b = some o) → Q .non H'
theorem scRInit : FnScope ["self","calls"] ["self","calls"] (defScope sRInit):=⟨rfl,rfl,rfl,by decide +kernel,rfl,by decide +kernel,by decide +kernel⟩
theorem ok_rinit {f : Addr} {fd : FuncData} (F : Fun K "__init__" "Reader.__init__" sRInit f fd) (T : Txt K mg CP CR) : FnOk P w K mg base CX0 1 f fd ["self","calls"] (spRInit K CR):=by
  refine F.ok scRInit (fun vs H Q E h=>?_) (fun cdv A outer s H vs Q E hr h=>?_)
  · obtain ⟨x,dx,a,rfl,_⟩:=h
    rfl
  · obtain ⟨x,dx,a,rfl,hx,k⟩:=h
    refine ⟨_,pss_cons (ps_fld (pv 0) (pv 1) rfl) (pss_one (ps_fld (pv 0) pe_int rfl)),?_⟩
    refine ⟨_,rfl,_,rfl,x,CR,dx,[],rfl,hx,T.clR,T.nRc,(by show 0 < 1000; decide),?_⟩
    refine ⟨_,rfl,x,CR,dx,_,rfl,upd_same,T.clR,T.nRp,(by show 1 < 1000; decide),?_⟩
    refine k _ ?_ fun b o e hb=>by rw [upd_ne hb,upd_ne hb]; exact e
    rw [upd_same]
    rfl
def spMoreM (K : PySem.W.Frag) (C : Addr) : Sp:=fun vs H Q _=>∃ (x dx a : Addr) (i : Nat) (l : List Int),vs = [.ref x] ∧ H x = some (.ins C dx (rf a i)) ∧ FwD.Calls K H a l ∧ Q (.bl (decide (i < l.length))) H
theorem scMoreM : FnScope ["self"] ["self"] (defScope sMoreM):=⟨rfl,rfl,rfl,by decide +kernel,rfl,by decide +kernel,by decide +kernel⟩
theorem ok_moreM {f : Addr} {fd : FuncData} (F : Fun K "has_more" "Reader.has_more" sMoreM f fd) (T : Txt K mg CP CR) : FnOk P w K mg base CX0 1 f fd ["self"] (spMoreM K CR):=by
  refine F.ok scMoreM (fun vs H Q E h=>?_) (fun cdv A outer s H vs Q E hr h=>?_)
  · obtain ⟨x,dx,a,i,l,rfl,_⟩:=h
    rfl
  · obtain ⟨x,dx,a,i,l,rfl,hx,hc,k⟩:=h
    refine ⟨_,pss_one (ps_ret (pe_cmpR op_lt (pe_fld (pv 0) rfl) (pe_callB call_len_seq (by rfl) T.len PySem.boot_len (pa_cons (pe_fld (pv 0) rfl) pa_nil)) (nomark _))),?_⟩
    refine ⟨_,rfl,x,CR,dx,_,_,rfl,hx,T.clR,T.nRp,rf_place _ _,_,rfl,x,CR,dx,_,_,rfl,hx,T.clR,T.nRc,rf_calls _ _,a,_,rfl,.inl hc.sq,_,_,rfl,rfl,?_⟩
    rw [List.length_map]
    have e : decide ((i : Int) < (l.length : Int)) = decide (i < l.length):=by
      rw [decide_eq_decide]
      omega
    show Q (.bl (decide ((i : Int) < (l.length : Int)))) H
    rw [e]
    exact k
def spNextN (K : PySem.W.Frag) (C : Addr) : Sp:=fun vs H Q _=>∃ (x dx a : Addr) (i : Nat) (l : List Int) (z : Int),vs = [.ref x] ∧ H x = some (.ins C dx (rf a i)) ∧ FwD.Calls K H a l ∧ l[i]? = some z ∧ Q (.int z) (upd H x (.ins C dx (rf a (i + 1))))
abbrev nNextN : List Str:=["self","number"]
theorem scNextN : FnScope nNextN ["self"] (defScope sNextN):=⟨rfl,rfl,rfl,by decide +kernel,rfl,by decide +kernel,by decide +kernel⟩
theorem ok_nextN {f : Addr} {fd : FuncData} (F : Fun K "next_number" "Reader.next_number" sNextN f fd) (T : Txt K mg CP CR) : FnOk P w K mg base CX0 1 f fd ["self"] (spNextN K CR):=by
  refine F.ok scNextN (fun vs H Q E h=>?_) (fun cdv A outer s H vs Q E hr h=>?_)
  · obtain ⟨x,dx,a,i,l,z,rfl,_⟩:=h
    rfl
  · obtain ⟨x,dx,a,i,l,z,rfl,hx,hc,hz,k⟩:=h
    refine ⟨_,pss_cons (ps_set (i:=1) scNextN.nd rfl (Or.inl rfl) (pe_ix ix_list (pe_fld (pv 0) rfl) (pe_fld (pv 0) rfl) (fun _ _=>rfl)))
      (pss_cons (ps_fldaug (pv 0) pe_int in_add) (pss_one (ps_ret (pv 1)))),?_⟩
    refine ⟨_,rfl,x,CR,dx,_,_,rfl,hx,T.clR,T.nRc,rf_calls _ _,_,rfl,x,CR,dx,_,_,rfl,hx,T.clR,T.nRp,rf_place _ _,a,_,_,.int z,rfl,rfl,hc.sq,atI_nat (by rw [List.getElem?_map,hz]; rfl),?_⟩
    refine ⟨_,rfl,x,CR,dx,_,_,rfl,hx,T.clR,T.nRp,rf_place _ _,_,_,rfl,rfl,dx,_,hx,rf_len _ _,?_⟩
    rw [show (i : Int) + 1 = ((i + 1 : Nat) : Int) by omega,rf_put]
    exact ⟨_,rfl,k⟩
def spNextR (K : PySem.W.Frag) (C : Addr) : Sp:=fun vs H Q _=>∃ (x dx a : Addr) (i : Nat) (l row t : List Int),vs = [.ref x] ∧ H x = some (.ins C dx (rf a i)) ∧ FwD.Calls K H a l ∧ l.length ≤ 16000 ∧ l.drop i = (row.length : Int) :: (row ++ t) ∧
  ∀ (H' : Hp) (q : Addr),H' x = some (.ins C dx (rf a (i + 1 + row.length))) → (∀ b o,H b = some o → b ≠ x → H' b = some o) → H q = none → H' q = some (.lst (row.map V.int)) → Q (.ref q) H'
abbrev nNextR : List Str:=["self","length","row"]
theorem scNextR : FnScope nNextR ["self"] (defScope sNextR):=⟨rfl,rfl,rfl,by decide +kernel,rfl,by decide +kernel,by decide +kernel⟩
theorem drop_facts {l row t : List Int} {i : Nat} {z : Int} (h : l.drop i = z :: (row ++ t)) : l[i]? = some z ∧ i + 1 + row.length ≤ l.length ∧ (l.drop (i + 1)).take row.length = row ∧ l.drop (i + 1 + row.length) = t:=by
  have hl:=congrArg List.length h
  rw [List.length_drop,List.length_cons,List.length_append] at hl
  have h1 : l.drop (i + 1) = row ++ t:=by
    rw [← List.drop_drop,h]
    rfl
  refine ⟨?_,by omega,?_,?_⟩
  · have:=congrArg (fun x=>x[0]?) h
    simp only [List.getElem?_drop,Nat.add_zero] at this
    rw [this]
    rfl
  · rw [h1]
    simp
  · rw [← List.drop_drop,h1]
    simp
theorem ok_nextR {f : Addr} {fd : FuncData} (F : Fun K "next_row" "Reader.next_row" sNextR f fd) (T : Txt K mg CP CR) (CN : MCallee P w K mg base CR "next_number" 1 ["self"] (spNextN K CR)) : FnOk P w K mg base CX0 2 f fd ["self"] (spNextR K CR):=by
  obtain ⟨fN,fdN,mN,bN,GN⟩:=CN
  refine F.ok scNextR (fun vs H Q E h=>?_) (fun cdv A outer s H vs Q E hr h=>?_)
  · obtain ⟨x,dx,a,i,l,row,t,rfl,_⟩:=h
    rfl
  · obtain ⟨x,dx,a,i,l,row,t,rfl,hx,hc,hl16,hdr,k⟩:=h
    obtain ⟨hz,hlen,htk,_⟩:=drop_facts hdr
    refine ⟨_,pss_cons (ps_set (i:=1) scNextR.nd rfl (Or.inl rfl) (pe_meth0 (pv 0) T.clR mN GN hr bN .nil pass0))
      (pss_cons (ps_set (i:=2) scNextR.nd rfl (Or.inl rfl) (pe_slice sl_list (pe_fld (pv 0) rfl) (po_some (pe_fld (pv 0) rfl)) (po_some (pe_op op_add (pe_fld (pv 0) rfl) (pv 1)))))
      (pss_cons (ps_fldaug (pv 0) (pv 1) in_add) (pss_one (ps_ret (pv 2))))),?_⟩
    refine ⟨_,rfl,x,dx,_,rfl,hx,rf_no _ _ (by decide +kernel) (by decide +kernel),x,dx,a,i,l,_,rfl,hx,hc,hz,?_⟩
    have hx1 : upd H x (.ins CR dx (rf a (i + 1))) x = some (.ins CR dx (rf a (i + 1))):=upd_same
    have hc1 : FwD.Calls K (upd H x (.ins CR dx (rf a (i + 1)))) a l:=hc.upd hx fun o z=>by cases z
    have hk1 : ∀ b o,H b = some o → b ≠ x → upd H x (.ins CR dx (rf a (i + 1))) b = some o:=fun b o e hb=>by rw [upd_ne hb]; exact e
    generalize upd H x (.ins CR dx (rf a (i + 1))) = H1 at hx1 hc1 hk1 ⊢
    refine ⟨_,rfl,x,CR,dx,_,_,rfl,hx1,T.clR,T.nRc,rf_calls _ _,_,rfl,x,CR,dx,_,_,rfl,hx1,T.clR,T.nRp,rf_place _ _,_,rfl,_,rfl,x,CR,dx,_,_,rfl,hx1,T.clR,T.nRp,rf_place _ _,_,rfl,_,_,rfl,rfl,_,rfl,a,_,rfl,hc1.sq,fun q hq=>?_⟩
    have hcut : cutV (l.map V.int) (some ((i + 1 : Nat) : Int)) (some (((i + 1 : Nat) : Int) + (row.length : Int))) = row.map V.int:=by
      unfold cutV
      rw [show ((i + 1 : Nat) : Int) + (row.length : Int) = ((i + 1 + row.length : Nat) : Int) by omega,HT.sIx_nat,HT.sIx_nat,List.length_map,show min (i + 1) l.length = i + 1 by omega,show min (i + 1 + row.length) l.length = i + 1 + row.length by omega,show i + 1 + row.length - (i + 1) = row.length by omega,← List.map_drop,← List.map_take,htk]
    have hxq : x ≠ q:=ne_of_none hx1 hq
    have hq0 : H q = none:=by
      cases hh : H q with
      | none=>rfl
      | some o=>rw [hk1 q o hh hxq.symm] at hq; cases hq
    have hx2 : upd H1 q (.lst (cutV (l.map V.int) (some ((i + 1 : Nat) : Int)) (some (((i + 1 : Nat) : Int) + (row.length : Int))))) x = some (.ins CR dx (rf a (i + 1))):=by rw [upd_ne hxq]; exact hx1
    refine ⟨_,rfl,x,CR,dx,_,_,rfl,hx2,T.clR,T.nRp,rf_place _ _,_,rfl,_,_,rfl,rfl,dx,_,hx2,rf_len _ _,?_⟩
    rw [show ((i + 1 : Nat) : Int) + (row.length : Int) = ((i + 1 + row.length : Nat) : Int) by omega,rf_put] at *
    refine ⟨_,rfl,k _ q upd_same (fun b o e hb=>?_) hq0 ?_⟩
    · rw [upd_ne hb,upd_ne (ne_of_none e hq0)]
      exact hk1 b o e hb
    · rw [upd_ne hxq.symm,upd_same,hcut]
end
end FwD
namespace FwD
open PySem PySem.Spec PyProof.Rows L2 Fw
open Vbecai (State)
abbrev sNext : Stmt:=top 64
abbrev sAnswers : Stmt:=top 65
def Tab0 (P : Program) (w : World) (K : PySem.W.Frag) (mg : Str → Option Value) (base : Heap) (C : Addr) (l : List (Int × Tok × Addr)) : Prop:=∀ c f,(c,f) ∈ l.map (fun x=>(x.1,x.2.2)) →
  ∃ (k : Nat) (fd : FuncData) (ps : List Str),k ≤ 5 ∧ PySem.W.keepIn K (.ref f) = true ∧ Binds K fd ps [] ∧ FnOk P w K mg base CX0 k f fd ps (spC0 c C)
def Tab1 (P : Program) (w : World) (K : PySem.W.Frag) (mg : Str → Option Value) (base : Heap) (C : Addr) (l : List (Int × Tok × Addr)) : Prop:=∀ c f,(c,f) ∈ l.map (fun x=>(x.1,x.2.2)) →
  ∃ (k : Nat) (fd : FuncData) (ps : List Str),k ≤ 5 ∧ PySem.W.keepIn K (.ref f) = true ∧ Binds K fd ps [] ∧ FnOk P w K mg base CX0 k f fd ps (spC1 c C)
def spNext (K : PySem.W.Frag) (CP CR : Addr) : Sp:=fun vs H Q _=>∃ (p W r dx a : Addr) (s : State) (i : Nat) (l t : List Int) (c : List (List Int)),vs = [.ref p,.ref r] ∧ WF s ∧ PondAt CP H p W s ∧ p ≠ r ∧ H r = some (.ins CR dx (rf a i)) ∧ FwD.Calls K H a l ∧ l.length ≤ 16000 ∧ Form (l.drop i) c t ∧
  ∀ (H' : Hp) (q W' : Addr) (j : Nat),l.drop j = t → PondAt CP H' p W' (Vbecai.step s c).1 → H' r = some (.ins CR dx (rf a j)) → (∀ b o,H b = some o → b ≠ p → b ≠ W → b ≠ r → H' b = some o) → H q = none → H' q = some (.lst ((Vbecai.step s c).2.map V.int)) → Q (.ref q) H'
theorem PondAt.keep {C : Addr} {H H' : Hp} {p W r : Addr} {s : State} (h : PondAt C H p W s) (hp : p ≠ r) (hW : W ≠ r) (k : ∀ b o,H b = some o → b ≠ r → H' b = some o) : PondAt C H' p W s:=by
  obtain ⟨⟨dx,h1⟩,l,h2,h3⟩:=h
  exact ⟨⟨dx,k _ _ h1 hp⟩,l,h2,k _ _ h3 hW⟩
theorem drop_one {l t : List Int} {i : Nat} {z : Int} (h : l.drop i = z :: t) : l[i]? = some z ∧ l.drop (i + 1) = t:=by
  obtain ⟨a,_,_,d⟩:=drop_facts (row:=[]) (t:=t) h
  exact ⟨a,d⟩
section
variable {P : Program} {w : World} {K : PySem.W.Frag} {mg : Str → Option Value} {base : Heap} {CP CR : Addr}
abbrev nNext : List Str:=["pond","reader","number","n","f","e","call"]
theorem scNext : FnScope nNext ["pond","reader"] (defScope sNext):=⟨rfl,rfl,rfl,by decide +kernel,rfl,by decide +kernel,by decide +kernel⟩
theorem ok_next {f d0 d1 : Addr} {fd : FuncData} {l0 l1 : List (Int × Tok × Addr)} (D : Def K mg "answer_next" sNext ["pond","reader"] f fd) (T : Txt K mg CP CR) (CN : MCallee P w K mg base CR "next_number" 1 ["self"] (spNextN K CR)) (CO : MCallee P w K mg base CR "next_row" 2 ["self"] (spNextR K CR))
    (CWeb : Callee P w K mg base "web" 3 ["pond","n","links"] (spWeb CP)) (CAl : Callee P w K mg base "alive" 3 ["pond","kinds"] (spAliveC CP)) (CWg : Callee P w K mg base "weigh" 2 ["pond","f","e","w"] (spWeigh CP))
    (D0 : KDict K d0 l0) (m0 : mg "ON_NO_NUMBER" = some (.ref d0)) (k0 : l0.map (·.1) = [1,9,14]) (T0 : Tab0 P w K mg base CP l0) (D1 : KDict K d1 l1) (m1 : mg "ON_ONE_NUMBER" = some (.ref d1)) (k1 : l1.map (·.1) = [3,4,5,6,7,8,10,11,12,13,15]) (T1 : Tab1 P w K mg base CP l1) :
    FnOk P w K mg base CX0 6 f fd ["pond","reader"] (spNext K CP CR):=by
  obtain ⟨fN,fdN,mN,bN,GN⟩:=CN
  obtain ⟨fO,fdO,mO,bO,GO⟩:=CO
  obtain ⟨fWe,fdWe,mWe,kWe,bWe,GWe⟩:=CWeb
  obtain ⟨fA,fdA,mA,kA,bA,GA⟩:=CAl
  obtain ⟨fG,fdG,mG,kG,bG,GG⟩:=CWg
  obtain ⟨tw,hw'⟩:=T.cWeb
  obtain ⟨ta,ha'⟩:=T.cAlive
  obtain ⟨tg,hg'⟩:=T.cWeight
  refine D.fn.ok scNext (fun vs H Q E h=>?_) (fun cdv A outer s H vs Q E hr h=>?_)
  · obtain ⟨p,W,r,dx,a,st,i,l,t,c,rfl,_⟩:=h
    rfl
  · obtain ⟨p,W,r,dx,a,st,i,l,t,c,rfl,hF,hP,npr,hrd,hc,hl16,hform,k⟩:=h
    have hr1:=hr.mono (j:=1) (by decide)
    have hr2:=hr.mono (j:=2) (by decide)
    have hr3:=hr.mono (j:=3) (by decide)
    refine ⟨_,pss_cons (ps_set (i:=2) scNext.nd rfl (Or.inl rfl) (pe_meth0 (pv 1) T.clR mN GN hr1 bN .nil pass0))
      (pss_cons (ps_if (pt_cmpR op_eq (pv 2) (pe_glob (v:=.int 0) (by rfl) hw' ⟨_,rfl⟩) (nomark _))
        (pss_cons (ps_set (i:=3) scNext.nd rfl (Or.inl rfl) (pe_meth0 (pv 1) T.clR mN GN hr1 bN .nil pass0))
        (pss_one (ps_ret (pe_call GWe hr3 (by rfl) mWe kWe bWe .nil pass0 (pa_cons (pv 0) (pa_cons (pv 3) (pa_cons (pe_meth0 (pv 1) T.clR mO GO hr2 bO .nil pass0) pa_nil))))))) pss_nil)
      (pss_cons (ps_if (pt_cmpR op_eq (pv 2) (pe_glob (v:=.int 2) (by rfl) ha' ⟨_,rfl⟩) (nomark _))
        (pss_one (ps_ret (pe_call GA hr3 (by rfl) mA kA bA .nil pass0 (pa_cons (pv 0) (pa_cons (pe_meth0 (pv 1) T.clR mO GO hr2 bO .nil pass0) pa_nil))))) pss_nil)
      (pss_cons (ps_if (pt_cmpR op_eq (pv 2) (pe_glob (v:=.int 16) (by rfl) hg' ⟨_,rfl⟩) (nomark _))
        (pss_cons (ps_set (i:=4) scNext.nd rfl (Or.inl rfl) (pe_meth0 (pv 1) T.clR mN GN hr1 bN .nil pass0))
        (pss_cons (ps_set (i:=5) scNext.nd rfl (Or.inl rfl) (pe_meth0 (pv 1) T.clR mN GN hr1 bN .nil pass0))
        (pss_one (ps_ret (pe_call GG hr2 (by rfl) mG kG bG .nil pass0 (pa_cons (pv 0) (pa_cons (pv 4) (pa_cons (pv 5) (pa_cons (pe_meth0 (pv 1) T.clR mN GN hr1 bN .nil pass0) pa_nil))))))))) pss_nil)
      (pss_cons (ps_if (pt_cmp (pc_kin D0 (by rfl) m0 (pv 2)) (by with_unfolding_all rfl))
        (pss_cons (ps_set (i:=6) scNext.nd rfl (Or.inl rfl) (pe_kget D0 (by rfl) m0 (pv 2) (fun _ _=>rfl)))
        (pss_one (ps_ret (pe_callV (i:=6) rfl (Or.inl rfl) (pa_cons (pv 0) pa_nil))))) pss_nil)
      (pss_cons (ps_set (i:=6) scNext.nd rfl (Or.inl rfl) (pe_kget D1 (by rfl) m1 (pv 2) (fun _ _=>rfl)))
      (pss_one (ps_ret (pe_callV (i:=6) rfl (Or.inl rfl) (pa_cons (pv 0) (pa_cons (pe_meth0 (pv 1) T.clR mN GN hr1 bN .nil pass0) pa_nil)))))))))),?_⟩
    have nWr : W ≠ r:=by
      obtain ⟨_,_,_,h3⟩:=hP
      exact ne_of h3 hrd (by intro z; cases z)
    have fin : ∀ (H1 : Hp) (j : Nat),H1 r = some (.ins CR dx (rf a j)) → l.drop j = t → (∀ b o,H b = some o → b ≠ r → H1 b = some o) → OutP CP H1 p W (Vbecai.step st c) Q:=fun H1 j h1 hj hk1 H' q W' hP' hk' hq hq'=>by
      refine k H' q W' j hj hP' (hk' r _ h1 npr.symm nWr.symm) (fun b o e hbp hbW hbr=>hk' b o (hk1 b o e hbr) hbp hbW) ?_ hq'
      cases hh : H q with
      | none=>rfl
      | some o =>
        by_cases z : q = r
        · rw [z,h1] at hq; cases hq
        · rw [hk1 q o hh z] at hq; cases hq
    have upd1 : ∀ (H1 : Hp) (j : Nat),H1 r = some (.ins CR dx (rf a j)) → FwD.Calls K H1 a l → (∀ b o,H b = some o → b ≠ r → H1 b = some o) →
        (upd H1 r (.ins CR dx (rf a (j + 1))) r = some (.ins CR dx (rf a (j + 1))) ∧ FwD.Calls K (upd H1 r (.ins CR dx (rf a (j + 1)))) a l ∧ ∀ b o,H b = some o → b ≠ r → upd H1 r (.ins CR dx (rf a (j + 1))) b = some o):=fun H1 j h1 hc1 hk1 =>
      ⟨upd_same,hc1.upd h1 (fun o z=>by cases z),fun b o e hb=>by rw [upd_ne hb]; exact hk1 b o e hb⟩
    have noN : ∀ j,(rf a j).lookup ("next_number" : Str) = none:=fun j=>rf_no _ _ (by decide +kernel) (by decide +kernel)
    have noR : ∀ j,(rf a j).lookup ("next_row" : Str) = none:=fun j=>rf_no _ _ (by decide +kernel) (by decide +kernel)
    have h00 : ∀ b o,H b = some o → b ≠ r → H b = some o:=fun b o e _=>e
    have ne_dec : ∀ {x y : Int},x ≠ y → decide (V.int x = V.int y) = false:=fun {x y} h=>decide_eq_false fun z=>h (V.int.inj z)
    generalize hld : l.drop i = ld at hform
    cases hform with
    | web n row =>
      obtain ⟨z1,z2⟩:=drop_one hld
      obtain ⟨z3,z4⟩:=drop_one z2
      obtain ⟨_,_,_,z5⟩:=drop_facts z4
      refine ⟨_,rfl,r,dx,_,rfl,hrd,noN i,r,dx,a,i,l,0,rfl,hrd,hc,z1,?_⟩
      obtain ⟨u1,u2,u3⟩:=upd1 H i hrd hc h00
      generalize upd H r (.ins CR dx (rf a (i + 1))) = H1 at u1 u2 u3 ⊢
      refine ⟨_,rfl,rfl,_,rfl,?_⟩
      rw [decide_eq_true rfl]
      refine iteT ⟨_,rfl,r,dx,_,rfl,u1,noN _,r,dx,a,i + 1,l,n,rfl,u1,u2,z3,?_⟩
      obtain ⟨w1,w2,w3⟩:=upd1 H1 (i + 1) u1 u2 u3
      generalize upd H1 r (.ins CR dx (rf a (i + 1 + 1))) = H2 at w1 w2 w3 ⊢
      refine ⟨_,rfl,_,rfl,_,rfl,r,dx,_,rfl,w1,noR _,r,dx,a,i + 1 + 1,l,row,t,rfl,w1,w2,hl16,z4,fun H3 q g1 g2 g3 g4=>?_⟩
      have hk3 : ∀ b o,H b = some o → b ≠ r → H3 b = some o:=fun b o e hb=>g2 b o (w3 b o e hb) hb
      exact ⟨p,W,q,st,n,row,rfl,hF,hP.keep npr nWr hk3,g4,fin H3 _ g1 z5 hk3⟩
    | alive row =>
      obtain ⟨z1,z2⟩:=drop_one hld
      obtain ⟨_,_,_,z5⟩:=drop_facts z2
      refine ⟨_,rfl,r,dx,_,rfl,hrd,noN i,r,dx,a,i,l,2,rfl,hrd,hc,z1,?_⟩
      obtain ⟨u1,u2,u3⟩:=upd1 H i hrd hc h00
      generalize upd H r (.ins CR dx (rf a (i + 1))) = H1 at u1 u2 u3 ⊢
      refine ⟨_,rfl,rfl,_,rfl,?_⟩
      rw [ne_dec (by decide)]
      refine iteF ⟨_,rfl,rfl,_,rfl,?_⟩
      rw [decide_eq_true rfl]
      refine iteT ⟨_,rfl,_,rfl,r,dx,_,rfl,u1,noR _,r,dx,a,i + 1,l,row,t,rfl,u1,u2,hl16,z2,fun H3 q g1 g2 g3 g4=>?_⟩
      have hk3 : ∀ b o,H b = some o → b ≠ r → H3 b = some o:=fun b o e hb=>g2 b o (u3 b o e hb) hb
      exact ⟨p,W,q,st,row,rfl,hF,hP.keep npr nWr hk3,g4,fin H3 _ g1 z5 hk3⟩
    | weight f' e' x' =>
      obtain ⟨z1,z2⟩:=drop_one hld
      obtain ⟨z3,z4⟩:=drop_one z2
      obtain ⟨z5,z6⟩:=drop_one z4
      obtain ⟨z7,z8⟩:=drop_one z6
      refine ⟨_,rfl,r,dx,_,rfl,hrd,noN i,r,dx,a,i,l,16,rfl,hrd,hc,z1,?_⟩
      obtain ⟨u1,u2,u3⟩:=upd1 H i hrd hc h00
      generalize upd H r (.ins CR dx (rf a (i + 1))) = H1 at u1 u2 u3 ⊢
      refine ⟨_,rfl,rfl,_,rfl,?_⟩
      rw [ne_dec (by decide)]
      refine iteF ⟨_,rfl,rfl,_,rfl,?_⟩
      rw [ne_dec (by decide)]
      refine iteF ⟨_,rfl,rfl,_,rfl,?_⟩
      rw [decide_eq_true rfl]
      refine iteT ⟨_,rfl,r,dx,_,rfl,u1,noN _,r,dx,a,i + 1,l,f',rfl,u1,u2,z3,?_⟩
      obtain ⟨w1,w2,w3⟩:=upd1 H1 (i + 1) u1 u2 u3
      generalize upd H1 r (.ins CR dx (rf a (i + 1 + 1))) = H2 at w1 w2 w3 ⊢
      refine ⟨_,rfl,r,dx,_,rfl,w1,noN _,r,dx,a,i + 1 + 1,l,e',rfl,w1,w2,z5,?_⟩
      obtain ⟨y1,y2,y3⟩:=upd1 H2 (i + 1 + 1) w1 w2 w3
      generalize upd H2 r (.ins CR dx (rf a (i + 1 + 1 + 1))) = H3 at y1 y2 y3 ⊢
      refine ⟨_,rfl,_,rfl,_,rfl,_,rfl,r,dx,_,rfl,y1,noN _,r,dx,a,i + 1 + 1 + 1,l,x',rfl,y1,y2,z7,?_⟩
      obtain ⟨v1,v2,v3⟩:=upd1 H3 (i + 1 + 1 + 1) y1 y2 y3
      generalize upd H3 r (.ins CR dx (rf a (i + 1 + 1 + 1 + 1))) = H4 at v1 v2 v3 ⊢
      exact ⟨p,W,st,f',e',x',rfl,hF,hP.keep npr nWr v3,fin H4 _ v1 z8 v3⟩
    | none n _ hn =>
      obtain ⟨z1,z2⟩:=drop_one hld
      have hmem : n ∈ l0.map (·.1):=by
        rw [k0]
        rcases hn with rfl | rfl | rfl <;> simp
      have hn0 : n ≠ 0 ∧ n ≠ 2 ∧ n ≠ 16:=by rcases hn with rfl | rfl | rfl <;> decide
      obtain ⟨x,hx,hxn⟩:=List.mem_map.mp hmem
      have hxm : (n,x.2.2) ∈ l0.map fun x=>(x.1,x.2.2):=List.mem_map.mpr ⟨x,hx,by rw [hxn]⟩
      obtain ⟨kk,fdc,ps,hkk,kp,bd,GF⟩:=T0 n x.2.2 hxm
      refine ⟨_,rfl,r,dx,_,rfl,hrd,noN i,r,dx,a,i,l,n,rfl,hrd,hc,z1,?_⟩
      obtain ⟨u1,u2,u3⟩:=upd1 H i hrd hc h00
      generalize upd H r (.ins CR dx (rf a (i + 1))) = H1 at u1 u2 u3 ⊢
      refine ⟨_,rfl,rfl,_,rfl,?_⟩
      rw [ne_dec hn0.1]
      refine iteF ⟨_,rfl,rfl,_,rfl,?_⟩
      rw [ne_dec hn0.2.1]
      refine iteF ⟨_,rfl,rfl,_,rfl,?_⟩
      rw [ne_dec hn0.2.2]
      refine iteF ⟨_,rfl,n,rfl,_,rfl,?_⟩
      rw [decide_eq_true hmem]
      refine iteT ⟨_,rfl,n,x.2.2,rfl,hxm,x.2.2,kk,fdc,ps,_,rfl,GF,hr.mono hkk,kp,bd,_,rfl,?_⟩
      exact ⟨p,W,st,rfl,hF,hP.keep npr nWr u3,fin H1 _ u1 z2 u3⟩
    | one n kn _ hn =>
      obtain ⟨z1,z2⟩:=drop_one hld
      obtain ⟨z3,z4⟩:=drop_one z2
      have hmem : n ∈ l1.map (·.1):=by
        rw [k1]
        rcases hn with rfl | rfl | rfl | rfl | rfl | rfl | rfl | rfl | rfl | rfl | rfl <;> simp
      have hn0 : n ≠ 0 ∧ n ≠ 2 ∧ n ≠ 16:=by rcases hn with rfl | rfl | rfl | rfl | rfl | rfl | rfl | rfl | rfl | rfl | rfl <;> decide
      have hnot : ¬ n ∈ l0.map (·.1):=by
        rw [k0]
        rcases hn with rfl | rfl | rfl | rfl | rfl | rfl | rfl | rfl | rfl | rfl | rfl <;> decide
      obtain ⟨x,hx,hxn⟩:=List.mem_map.mp hmem
      have hxm : (n,x.2.2) ∈ l1.map fun x=>(x.1,x.2.2):=List.mem_map.mpr ⟨x,hx,by rw [hxn]⟩
      obtain ⟨kk,fdc,ps,hkk,kp,bd,GF⟩:=T1 n x.2.2 hxm
      refine ⟨_,rfl,r,dx,_,rfl,hrd,noN i,r,dx,a,i,l,n,rfl,hrd,hc,z1,?_⟩
      obtain ⟨u1,u2,u3⟩:=upd1 H i hrd hc h00
      generalize upd H r (.ins CR dx (rf a (i + 1))) = H1 at u1 u2 u3 ⊢
      refine ⟨_,rfl,rfl,_,rfl,?_⟩
      rw [ne_dec hn0.1]
      refine iteF ⟨_,rfl,rfl,_,rfl,?_⟩
      rw [ne_dec hn0.2.1]
      refine iteF ⟨_,rfl,rfl,_,rfl,?_⟩
      rw [ne_dec hn0.2.2]
      refine iteF ⟨_,rfl,n,rfl,_,rfl,?_⟩
      rw [decide_eq_false hnot]
      refine iteF ⟨_,rfl,n,x.2.2,rfl,hxm,x.2.2,kk,fdc,ps,_,rfl,GF,hr.mono hkk,kp,bd,_,rfl,_,rfl,r,dx,_,rfl,u1,noN _,r,dx,a,i + 1,l,kn,rfl,u1,u2,z3,?_⟩
      obtain ⟨w1,w2,w3⟩:=upd1 H1 (i + 1) u1 u2 u3
      generalize upd H1 r (.ins CR dx (rf a (i + 1 + 1))) = H2 at w1 w2 w3 ⊢
      exact ⟨p,W,st,kn,rfl,hF,hP.keep npr nWr w3,fin H2 _ w1 z4 w3⟩
def spAnswers (K : PySem.W.Frag) : Sp:=fun vs H Q _=>∃ (a : Addr) (l : List Int),vs = [.ref a] ∧ FwD.Calls K H a l ∧ PyVbecai.answers_asked l = true ∧ l.length ≤ 16000 ∧ ∀ (H' : Hp) (q : Addr),H' q = some (.lst ((PyVbecai.answers l).map V.int)) → Q (.ref q) H'
abbrev nAns : List Str:=["calls","pond","reader","given","answer"]
theorem scAns : FnScope nAns ["calls"] (defScope sAnswers):=⟨rfl,rfl,rfl,by decide +kernel,rfl,by decide +kernel,by decide +kernel⟩
theorem ok_answers {f : Addr} {fd : FuncData} (D : Def K mg "answers" sAnswers ["calls"] f fd) (T : Txt K mg CP CR) (CPo : KCallee P w K mg base "Pond" CP 1 ["self"] (spPInit CP)) (CRe : KCallee P w K mg base "Reader" CR 1 ["self","calls"] (spRInit K CR)) (CM : MCallee P w K mg base CR "has_more" 1 ["self"] (spMoreM K CR)) (CA : Callee P w K mg base "answer_next" 6 ["pond","reader"] (spNext K CP CR)) :
    FnOk P w K mg base CX0 7 f fd ["calls"] (spAnswers K):=by
  obtain ⟨fP,fdP,MP,mP,bP,GP⟩:=CPo
  obtain ⟨fR,fdR,MR,mR,bR,GR⟩:=CRe
  obtain ⟨fM,fdM,mM,bM,GM⟩:=CM
  obtain ⟨fA,fdA,mA,kA,bA,GA⟩:=CA
  refine D.fn.ok scAns (fun vs H Q E h=>?_) (fun cdv A outer s H vs Q E hr h=>?_)
  · obtain ⟨a,l,rfl,_⟩:=h
    rfl
  · obtain ⟨a,l,rfl,hc,hask,hl16,k⟩:=h
    have hsl : sizeLine = 16777216:=sizeLine_eq
    have hr1:=hr.mono (j:=1) (by decide)
    have hr2:=hr.mono (j:=2) (by decide)
    obtain ⟨cs,hcs,hans,hcl⟩:=answers_rest hask
    refine ⟨_,pss_cons (ps_set (i:=1) scAns.nd rfl (Or.inl rfl) (pe_make0 MP GP hr2 (by rfl) mP bP .nil pass0))
      (pss_cons (ps_set (i:=2) scAns.nd rfl (Or.inl rfl) (pe_make MR GR hr2 (by rfl) mR bR .nil pass0 (pa_cons (pv 0) pa_nil)))
      (pss_cons (ps_set (i:=3) scAns.nd rfl (Or.inl rfl) (pe_lst pa_nil))
      (pss_cons (ps_while PassesOwn.never (pt_val (pe_meth0 (pv 2) T.clR mM GM hr1 bM .nil pass0))
        (pss_cons (ps_set (i:=4) scAns.nd rfl (Or.inl rfl) (pe_call GA hr (by rfl) mA kA bA .nil pass0 (pa_cons (pv 1) (pa_cons (pv 2) pa_nil))))
        (pss_cons (ps_expr (pe_bm PySem.F.plainAttrs_list PySem.F.slot_list_append PySem.F.type_list_append mt_append (pv 3) (pa_cons (pe_callB call_len_seq (by rfl) T.len PySem.boot_len (pa_cons (pv 4) pa_nil)) pa_nil)))
        (pss_one (ps_expr (pe_bm PySem.F.plainAttrs_list PySem.F.slot_list_extend PySem.F.type_list_extend mt_extend (pv 3) (pa_cons (pv 4) pa_nil)))))))
      (pss_one (ps_ret (pv 3)))))),?_⟩
    intro p dp np ndp nep
    refine ⟨p,dp,rfl,upd_same,fun H1 W hP1 hk1=>⟨rfl,?_⟩⟩
    have s1 : Same H H1:=Same.made np ndp hk1
    have hc1:=hc.same s1
    refine ⟨_,rfl,?_⟩
    intro r dr nr ndr ner
    refine ⟨r,dr,a,rfl,upd_same,fun H2 hr2' hk2=>⟨rfl,?_⟩⟩
    have s2 : Same H1 H2:=Same.made nr ndr hk2
    have hc2:=hc1.same s2
    have hP2:=hP1.same s2
    have npr : p ≠ r:=by
      obtain ⟨⟨_,q⟩,_⟩:=hP1
      exact ne_of_none q nr
    refine ⟨Nat.zero_le _,fun g hg=>?_⟩
    have s3 : Same H2 (upd H2 g (.lst [])):=Same.upd hg
    have npg : p ≠ g:=by
      obtain ⟨⟨_,q⟩,_⟩:=hP2
      exact ne_of_none q hg
    have nrg : r ≠ g:=ne_of_none hr2' hg
    refine ⟨fun m σ H'=>∃ (W : Addr) (s : State) (i : Nat) (cs : List (List (List Int))) (out : List Int) (v4 : Option V),σ = [some (.ref a),some (.ref p),some (.ref r),some (.ref g),v4] ∧ WF s ∧ PondAt CP H' p W s ∧ H' r = some (.ins CR dr (rf a i)) ∧ FwD.Calls K H' a l ∧ H' g = some (.lst (out.map V.int)) ∧ Rest (l.drop i) cs ∧ out ++ ans s cs = PyVbecai.answers l ∧ out.length + 401 * cs.length ≤ 160400 ∧ m = cs.length,
      ⟨_,W,Vbecai.start,0,cs,[],none,rfl,start_wf,hP2.same s3,s3 _ _ hr2',hc2.same s3,upd_same,hcs,by rw [hans]; rfl,by simp only [List.length_nil]; omega,rfl⟩,?_⟩
    rintro m σ H' ⟨W',st,i,cs',out,v4,rfl,hF,hP',hr',hc',hg',hrest,heq,hlen,rfl⟩
    refine ⟨_,rfl,r,dr,_,rfl,hr',rf_no _ _ (by decide +kernel) (by decide +kernel),r,dr,a,i,l,rfl,hr',hc',_,rfl,?_⟩
    by_cases hlt : i < l.length
    · rw [decide_eq_true hlt]
      have hne : l.drop i ≠ []:=fun z=>by
        have:=congrArg List.length z
        rw [List.length_drop] at this
        simp at this
        omega
      obtain ⟨c,t,cs2,ec,hform,hrest2⟩:=hrest.cons hne
      subst ec
      refine iteT ⟨fun σ' H''=>∃ m',m' < (c :: cs2).length ∧ ∃ (W : Addr) (s : State) (i : Nat) (cs : List (List (List Int))) (out : List Int) (v4 : Option V),σ' = [some (.ref a),some (.ref p),some (.ref r),some (.ref g),v4] ∧ WF s ∧ PondAt CP H'' p W s ∧ H'' r = some (.ins CR dr (rf a i)) ∧ FwD.Calls K H'' a l ∧ H'' g = some (.lst (out.map V.int)) ∧ Rest (l.drop i) cs ∧ out ++ ans s cs = PyVbecai.answers l ∧ out.length + 401 * cs.length ≤ 160400 ∧ m' = cs.length,fun σ' H'' h=>h,?_⟩
      have nWg : g ≠ W':=by
        obtain ⟨_,_,_,q⟩:=hP'
        exact ne_of hg' q (by intro z; cases z)
      refine ⟨_,rfl,_,rfl,p,W',r,dr,a,st,i,l,t,c,rfl,hF,hP',npr,hr',hc',hl16,hform,fun H3 q W3 j hj hP3 hr3 hk3 hq hq3=>?_⟩
      have hg3 : H3 g = some (.lst (out.map V.int)):=hk3 g _ hg' npg.symm nWg nrg.symm
      have hgq : g ≠ q:=ne_of_none hg' hq
      have hal:=step_len hF c
      have hlen' : out.length + 401 * (cs2.length + 1) ≤ 160400:=hlen
      have hc3 : FwD.Calls K H3 a l:=hc'.keep fun o e=>hk3 a _ e (fun z=>by
          obtain ⟨⟨_,q'⟩,_⟩:=hP'
          rw [z,q'] at e
          cases e) (fun z=>by
          obtain ⟨_,_,_,q'⟩:=hP'
          rw [z,q'] at e
          cases e) (fun z=>by rw [z,hr'] at e; cases e)
      refine ⟨_,rfl,.inl ⟨rfl,_,SqL.of hg3⟩,_,rfl,q,_,rfl,.inl (SqL.of hq3),g,_,_,rfl,rfl,hg3,by rw [List.length_map]; omega,?_⟩
      have hg4 : upd H3 g (.lst (out.map V.int ++ [.int (((Vbecai.step st c).2.map V.int).length : Int)])) g = some (.lst ((out ++ [((Vbecai.step st c).2.length : Int)]).map V.int)):=by
        rw [upd_same,List.length_map,List.map_append]
        rfl
      have hk4 : ∀ b,b ≠ g → upd H3 g (.lst (out.map V.int ++ [.int (((Vbecai.step st c).2.map V.int).length : Int)])) b = H3 b:=fun b hb=>upd_ne hb
      generalize upd H3 g (.lst (out.map V.int ++ [.int (((Vbecai.step st c).2.map V.int).length : Int)])) = H4 at hg4 hk4 ⊢
      refine ⟨_,rfl,.inl ⟨rfl,_,SqL.of hg4⟩,_,rfl,g,q,_,_,rfl,rfl,hg4,by rw [hk4 q hgq.symm]; exact hq3,?_,?_⟩
      · rw [List.length_map,List.length_map,List.length_append]
        show out.length + 1 + _ ≤ _
        omega
      · have nWg3 : W3 ≠ g:=by
          obtain ⟨_,_,_,q'⟩:=hP3
          exact ne_of q' hg3 (by intro z; cases z)
        have hkp : ∀ b o,H3 b = some o → b ≠ g → upd H4 g (.lst ((out ++ [((Vbecai.step st c).2.length : Int)]).map V.int ++ (Vbecai.step st c).2.map V.int)) b = some o:=fun b o e hb=>by
          rw [upd_ne hb,hk4 b hb]
          exact e
        refine ⟨cs2.length,Nat.lt_succ_self _,W3,(Vbecai.step st c).1,j,cs2,out ++ [((Vbecai.step st c).2.length : Int)] ++ (Vbecai.step st c).2,_,rfl,form_wf hF hform,hP3.keep npg nWg3 hkp,hkp _ _ hr3 nrg,hc3.keep fun o e=>hkp _ _ e (fun z=>by rw [z,hg3] at e; cases e),?_,by rw [hj]; exact hrest2,?_,?_,rfl⟩
        · rw [upd_same]
          congr 2
          simp
        · rw [← heq,ans_cons]
          simp
        · rw [List.length_append,List.length_append]
          show out.length + 1 + _ + _ ≤ _
          omega
    · rw [decide_eq_false hlt]
      have hnil : l.drop i = []:=List.drop_eq_nil_of_le (by omega)
      rw [hnil] at hrest
      have:=hrest.nil
      subst this
      refine iteF ⟨_,rfl,k H' g ?_⟩
      rw [hg',← heq,ans_nil,List.append_nil]
end
end FwD
set_option maxHeartbeats 8000000
namespace FwD
open PySem PySem.Spec PyProof.Rows L2 Fw
open PySem.W (Codec)
section
variable {K : PySem.W.Frag} {h : Heap} {mg : Str → Option Value}
def DE (K : PySem.W.Frag) (mg : Str → Option Value) (x : Str) (st : Stmt) (ps : List Str) : Prop:=∃ (f : Addr) (fd : FuncData),Def K mg x st ps f fd ∧ ∀ (s : Shared) (us : List Value),us.length = ps.length → BindsTo s fd ⟨us,[]⟩ (ps.zip us)
theorem defE {x : Str} (st : Stmt) (ps : List Str) (KX : K.In h) (G : h.Ns mainGlobals mg)
    (hb : ∀ (kV doc pm : Value) (an : Option Addr) (cdv ct : Value) (us : List Value),us.length = ps.length → bindArgs (PySem.W.fnOf x x (defArgs st) (defBody st) (defScope st) .none kV doc pm an cdv ct) ⟨us,[]⟩ = pure (ps.zip us))
    {f : Addr} {oc : Value} {od an : Option Addr} {osl : Array (Option Value)} {kV doc pm cdv ct : Value} (a : PySem.W.nsIn K mainGlobals x = some (some (.ref f)))
    (l : K.lookup f = some ⟨oc,od,.func (PySem.W.fnOf x x (defArgs st) (defBody st) (defScope st) .none kV doc pm an cdv ct),osl⟩) (c : PySem.W.codeIn K cdv x = true) (k : PySem.W.keepIn K (.ref f) = true) :
    DE K mg x st ps:=by
  have F:=fun_mk (st:=st) l c k
  exact ⟨f,_,⟨F,PySem.W.mg_of KX G a,F.binds (ps:=ps) hb⟩,fun s us hu=>.of_eq (hb _ _ _ _ _ _ us hu)⟩
theorem methE {C : Addr} {m q : Str} (st : Stmt) (ps : List Str)
    (hb : ∀ (kV doc pm : Value) (an : Option Addr) (cdv ct : Value) (us : List Value),us.length = ps.length → bindArgs (PySem.W.fnOf m q (defArgs st) (defBody st) (defScope st) .none kV doc pm an cdv ct) ⟨us,[]⟩ = pure (ps.zip us))
    {f : Addr} {oc : Value} {od an : Option Addr} {osl : Array (Option Value)} {kV doc pm cdv ct : Value} (a : PySem.W.findIn K (.ref C) m = some (some (.ref f))) (i : PySem.W.isFn K (.ref f) = true)
    (l : K.lookup f = some ⟨oc,od,.func (PySem.W.fnOf m q (defArgs st) (defBody st) (defScope st) .none kV doc pm an cdv ct),osl⟩) (c : PySem.W.codeIn K cdv q = true) (k : PySem.W.keepIn K (.ref f) = true) :
    ∃ (f : Addr) (fd : FuncData),MDef K C m q st ps f fd:=by
  have F:=fun_mk (st:=st) l c k
  exact ⟨f,_,⟨F,⟨a,i,k⟩,F.binds (ps:=ps) hb⟩⟩
theorem intE (KX : K.In h) (G : h.Ns mainGlobals mg) {x : Str} {z : Int} {t : Tok} (a : PySem.W.nsIn K mainGlobals x = some (some (.int z t))) : ∃ t,mg x = some (.int z t):=⟨t,PySem.W.mg_of KX G a⟩
theorem pondE (KX : K.In h) (G : h.Ns mainGlobals mg) {C : Addr} {f_pi : Addr} {oc_pi : Value} {od_pi an_pi : Option Addr} {sl_pi : Array (Option Value)} {kV_pi dc_pi pm_pi cd_pi ct_pi : Value} (a : PySem.W.nsIn K mainGlobals "Pond" = some (some (.ref C))) (pg : PySem.W.plainGet K C Str.empty = true) (hd : PySem.W.hasDictIn K C = true) (po : PySem.W.plainOver K C = true) (sa : PySem.W.findIn K (.ref C) "__setattr__" = some (some (.builtin "object.__setattr__"))) (mk : PySem.W.makesIn K C = true) (kc : PySem.W.keepIn K (.ref C) = true) (n1 : PySem.W.findIn K (.ref C) "n" = some none) (n2 : PySem.W.findIn K (.ref C) "weights" = some none) (a_pi : PySem.W.findIn K (.ref C) "__init__" = some (some (.ref f_pi))) (i_pi : PySem.W.isFn K (.ref f_pi) = true) (l_pi : K.lookup f_pi = some ⟨oc_pi,od_pi,.func (PySem.W.fnOf "__init__" "Pond.__init__" (defArgs sPInit) (defBody sPInit) (defScope sPInit) .none kV_pi dc_pi pm_pi an_pi cd_pi ct_pi),sl_pi⟩) (c_pi : PySem.W.codeIn K cd_pi "Pond.__init__" = true) (k_pi : PySem.W.keepIn K (.ref f_pi) = true) :
    ∃ C : Addr,mg "Pond" = some (.ref C) ∧ Cls K C ∧ PySem.W.makesIn K C = true ∧ PySem.W.keepIn K (.ref C) = true ∧ NoAttr K C "n" ∧ NoAttr K C "weights" ∧ (∃ (f : Addr) (fd : FuncData),MDef K C "__init__" "Pond.__init__" sPInit ["self"] f fd) :=
  ⟨C,PySem.W.mg_of KX G a,⟨pg,hd,po,sa⟩,mk,kc,n1,n2,methE sPInit ["self"] (fun _ _ _ _ _ _ us hl=>match us,hl with | [_],_=>rfl) a_pi i_pi l_pi c_pi k_pi⟩
theorem readE (KX : K.In h) (G : h.Ns mainGlobals mg) {C : Addr} {f_ri : Addr} {oc_ri : Value} {od_ri an_ri : Option Addr} {sl_ri : Array (Option Value)} {kV_ri dc_ri pm_ri cd_ri ct_ri : Value} {f_hm : Addr} {oc_hm : Value} {od_hm an_hm : Option Addr} {sl_hm : Array (Option Value)} {kV_hm dc_hm pm_hm cd_hm ct_hm : Value} {f_nn : Addr} {oc_nn : Value} {od_nn an_nn : Option Addr} {sl_nn : Array (Option Value)} {kV_nn dc_nn pm_nn cd_nn ct_nn : Value} {f_nr : Addr} {oc_nr : Value} {od_nr an_nr : Option Addr} {sl_nr : Array (Option Value)} {kV_nr dc_nr pm_nr cd_nr ct_nr : Value} (a : PySem.W.nsIn K mainGlobals "Reader" = some (some (.ref C))) (pg : PySem.W.plainGet K C Str.empty = true) (hd : PySem.W.hasDictIn K C = true) (po : PySem.W.plainOver K C = true) (sa : PySem.W.findIn K (.ref C) "__setattr__" = some (some (.builtin "object.__setattr__"))) (mk : PySem.W.makesIn K C = true) (kc : PySem.W.keepIn K (.ref C) = true) (n1 : PySem.W.findIn K (.ref C) "calls" = some none) (n2 : PySem.W.findIn K (.ref C) "place" = some none) (a_ri : PySem.W.findIn K (.ref C) "__init__" = some (some (.ref f_ri))) (i_ri : PySem.W.isFn K (.ref f_ri) = true) (l_ri : K.lookup f_ri = some ⟨oc_ri,od_ri,.func (PySem.W.fnOf "__init__" "Reader.__init__" (defArgs sRInit) (defBody sRInit) (defScope sRInit) .none kV_ri dc_ri pm_ri an_ri cd_ri ct_ri),sl_ri⟩) (c_ri : PySem.W.codeIn K cd_ri "Reader.__init__" = true) (k_ri : PySem.W.keepIn K (.ref f_ri) = true) (a_hm : PySem.W.findIn K (.ref C) "has_more" = some (some (.ref f_hm))) (i_hm : PySem.W.isFn K (.ref f_hm) = true) (l_hm : K.lookup f_hm = some ⟨oc_hm,od_hm,.func (PySem.W.fnOf "has_more" "Reader.has_more" (defArgs sMoreM) (defBody sMoreM) (defScope sMoreM) .none kV_hm dc_hm pm_hm an_hm cd_hm ct_hm),sl_hm⟩) (c_hm : PySem.W.codeIn K cd_hm "Reader.has_more" = true) (k_hm : PySem.W.keepIn K (.ref f_hm) = true) (a_nn : PySem.W.findIn K (.ref C) "next_number" = some (some (.ref f_nn))) (i_nn : PySem.W.isFn K (.ref f_nn) = true) (l_nn : K.lookup f_nn = some ⟨oc_nn,od_nn,.func (PySem.W.fnOf "next_number" "Reader.next_number" (defArgs sNextN) (defBody sNextN) (defScope sNextN) .none kV_nn dc_nn pm_nn an_nn cd_nn ct_nn),sl_nn⟩) (c_nn : PySem.W.codeIn K cd_nn "Reader.next_number" = true) (k_nn : PySem.W.keepIn K (.ref f_nn) = true) (a_nr : PySem.W.findIn K (.ref C) "next_row" = some (some (.ref f_nr))) (i_nr : PySem.W.isFn K (.ref f_nr) = true) (l_nr : K.lookup f_nr = some ⟨oc_nr,od_nr,.func (PySem.W.fnOf "next_row" "Reader.next_row" (defArgs sNextR) (defBody sNextR) (defScope sNextR) .none kV_nr dc_nr pm_nr an_nr cd_nr ct_nr),sl_nr⟩) (c_nr : PySem.W.codeIn K cd_nr "Reader.next_row" = true) (k_nr : PySem.W.keepIn K (.ref f_nr) = true) :
    ∃ C : Addr,mg "Reader" = some (.ref C) ∧ Cls K C ∧ PySem.W.makesIn K C = true ∧ PySem.W.keepIn K (.ref C) = true ∧ NoAttr K C "calls" ∧ NoAttr K C "place" ∧ (∃ (f : Addr) (fd : FuncData),MDef K C "__init__" "Reader.__init__" sRInit ["self","calls"] f fd) ∧ (∃ (f : Addr) (fd : FuncData),MDef K C "has_more" "Reader.has_more" sMoreM ["self"] f fd) ∧ (∃ (f : Addr) (fd : FuncData),MDef K C "next_number" "Reader.next_number" sNextN ["self"] f fd) ∧ (∃ (f : Addr) (fd : FuncData),MDef K C "next_row" "Reader.next_row" sNextR ["self"] f fd) :=
  ⟨C,PySem.W.mg_of KX G a,⟨pg,hd,po,sa⟩,mk,kc,n1,n2,methE sRInit ["self","calls"] (fun _ _ _ _ _ _ us hl=>match us,hl with | [_,_],_=>rfl) a_ri i_ri l_ri c_ri k_ri,methE sMoreM ["self"] (fun _ _ _ _ _ _ us hl=>match us,hl with | [_],_=>rfl) a_hm i_hm l_hm c_hm k_hm,methE sNextN ["self"] (fun _ _ _ _ _ _ us hl=>match us,hl with | [_],_=>rfl) a_nn i_nn l_nn c_nn k_nn,methE sNextR ["self"] (fun _ _ _ _ _ _ us hl=>match us,hl with | [_],_=>rfl) a_nr i_nr l_nr c_nr k_nr⟩
theorem tabE0 (KX : K.In h) (G : h.Ns mainGlobals mg) {d ep : Nat} {t0 t1 t2 : Tok} {g0 g1 g2 : Addr} (a : PySem.W.nsIn K mainGlobals "ON_NO_NUMBER" = some (some (.ref d))) (l : K.lookup d = some ⟨.type "dict",none,.dict #[⟨1,.int 1 t0,.ref g0⟩,⟨9,.int 9 t1,.ref g1⟩,⟨14,.int 14 t2,.ref g2⟩] ep,#[]⟩) (s : (d == sysModules) = false) (e0 : PySem.W.nsIn K mainGlobals "told" = some (some (.ref g0))) (e1 : PySem.W.nsIn K mainGlobals "levels" = some (some (.ref g1))) (e2 : PySem.W.nsIn K mainGlobals "order" = some (some (.ref g2))) :
    ∃ (d : Addr) (l0 : List (Int × Tok × Addr)),KDict K d l0 ∧ mg "ON_NO_NUMBER" = some (.ref d) ∧ l0.map (·.1) = [1,9,14] ∧ ∀ c f,(c,f) ∈ l0.map (fun x=>(x.1,x.2.2)) → (c = 1 ∧ mg "told" = some (.ref f)) ∨ (c = 9 ∧ mg "levels" = some (.ref f)) ∨ (c = 14 ∧ mg "order" = some (.ref f)):=by
  refine ⟨d,[(1,t0,g0),(9,t1,g1),(14,t2,g2)],⟨s,(by show ([1,9,14] : List Int).Nodup; decide),ep,l⟩,PySem.W.mg_of KX G a,rfl,fun c f hm=>?_⟩
  simp only [List.map_cons,List.map_nil,List.mem_cons,Prod.mk.injEq,List.not_mem_nil,or_false] at hm
  rcases hm with ⟨rfl,rfl⟩ | ⟨rfl,rfl⟩ | ⟨rfl,rfl⟩
  · exact .inl ⟨rfl,PySem.W.mg_of KX G e0⟩
  · exact .inr (.inl ⟨rfl,PySem.W.mg_of KX G e1⟩)
  · exact .inr (.inr (⟨rfl,PySem.W.mg_of KX G e2⟩))
theorem tabE1 (KX : K.In h) (G : h.Ns mainGlobals mg) {d ep : Nat} {t0 t1 t2 t3 t4 t5 t6 t7 t8 t9 t10 : Tok} {g0 g1 g2 g3 g4 g5 g6 g7 g8 g9 g10 : Addr} (a : PySem.W.nsIn K mainGlobals "ON_ONE_NUMBER" = some (some (.ref d))) (l : K.lookup d = some ⟨.type "dict",none,.dict #[⟨3,.int 3 t0,.ref g0⟩,⟨4,.int 4 t1,.ref g1⟩,⟨5,.int 5 t2,.ref g2⟩,⟨6,.int 6 t3,.ref g3⟩,⟨7,.int 7 t4,.ref g4⟩,⟨8,.int 8 t5,.ref g5⟩,⟨10,.int 10 t6,.ref g6⟩,⟨11,.int 11 t7,.ref g7⟩,⟨12,.int 12 t8,.ref g8⟩,⟨13,.int 13 t9,.ref g9⟩,⟨15,.int 15 t10,.ref g10⟩] ep,#[]⟩) (s : (d == sysModules) = false) (e0 : PySem.W.nsIn K mainGlobals "falls" = some (some (.ref g0))) (e1 : PySem.W.nsIn K mainGlobals "needed" = some (some (.ref g1))) (e2 : PySem.W.nsIn K mainGlobals "nearest" = some (some (.ref g2))) (e3 : PySem.W.nsIn K mainGlobals "least" = some (some (.ref g3))) (e4 : PySem.W.nsIn K mainGlobals "ways" = some (some (.ref g4))) (e5 : PySem.W.nsIn K mainGlobals "worst" = some (some (.ref g5))) (e6 : PySem.W.nsIn K mainGlobals "through" = some (some (.ref g6))) (e7 : PySem.W.nsIn K mainGlobals "chains" = some (some (.ref g7))) (e8 : PySem.W.nsIn K mainGlobals "shortest" = some (some (.ref g8))) (e9 : PySem.W.nsIn K mainGlobals "together" = some (some (.ref g9))) (e10 : PySem.W.nsIn K mainGlobals "remove" = some (some (.ref g10))) :
    ∃ (d : Addr) (l0 : List (Int × Tok × Addr)),KDict K d l0 ∧ mg "ON_ONE_NUMBER" = some (.ref d) ∧ l0.map (·.1) = [3,4,5,6,7,8,10,11,12,13,15] ∧ ∀ c f,(c,f) ∈ l0.map (fun x=>(x.1,x.2.2)) → (c = 3 ∧ mg "falls" = some (.ref f)) ∨ (c = 4 ∧ mg "needed" = some (.ref f)) ∨ (c = 5 ∧ mg "nearest" = some (.ref f)) ∨ (c = 6 ∧ mg "least" = some (.ref f)) ∨ (c = 7 ∧ mg "ways" = some (.ref f)) ∨ (c = 8 ∧ mg "worst" = some (.ref f)) ∨ (c = 10 ∧ mg "through" = some (.ref f)) ∨ (c = 11 ∧ mg "chains" = some (.ref f)) ∨ (c = 12 ∧ mg "shortest" = some (.ref f)) ∨ (c = 13 ∧ mg "together" = some (.ref f)) ∨ (c = 15 ∧ mg "remove" = some (.ref f)):=by
  refine ⟨d,[(3,t0,g0),(4,t1,g1),(5,t2,g2),(6,t3,g3),(7,t4,g4),(8,t5,g5),(10,t6,g6),(11,t7,g7),(12,t8,g8),(13,t9,g9),(15,t10,g10)],⟨s,(by show ([3,4,5,6,7,8,10,11,12,13,15] : List Int).Nodup; decide),ep,l⟩,PySem.W.mg_of KX G a,rfl,fun c f hm=>?_⟩
  simp only [List.map_cons,List.map_nil,List.mem_cons,Prod.mk.injEq,List.not_mem_nil,or_false] at hm
  rcases hm with ⟨rfl,rfl⟩ | ⟨rfl,rfl⟩ | ⟨rfl,rfl⟩ | ⟨rfl,rfl⟩ | ⟨rfl,rfl⟩ | ⟨rfl,rfl⟩ | ⟨rfl,rfl⟩ | ⟨rfl,rfl⟩ | ⟨rfl,rfl⟩ | ⟨rfl,rfl⟩ | ⟨rfl,rfl⟩
  · exact .inl ⟨rfl,PySem.W.mg_of KX G e0⟩
  · exact .inr (.inl ⟨rfl,PySem.W.mg_of KX G e1⟩)
  · exact .inr (.inr (.inl ⟨rfl,PySem.W.mg_of KX G e2⟩))
  · exact .inr (.inr (.inr (.inl ⟨rfl,PySem.W.mg_of KX G e3⟩)))
  · exact .inr (.inr (.inr (.inr (.inl ⟨rfl,PySem.W.mg_of KX G e4⟩))))
  · exact .inr (.inr (.inr (.inr (.inr (.inl ⟨rfl,PySem.W.mg_of KX G e5⟩)))))
  · exact .inr (.inr (.inr (.inr (.inr (.inr (.inl ⟨rfl,PySem.W.mg_of KX G e6⟩))))))
  · exact .inr (.inr (.inr (.inr (.inr (.inr (.inr (.inl ⟨rfl,PySem.W.mg_of KX G e7⟩)))))))
  · exact .inr (.inr (.inr (.inr (.inr (.inr (.inr (.inr (.inl ⟨rfl,PySem.W.mg_of KX G e8⟩))))))))
  · exact .inr (.inr (.inr (.inr (.inr (.inr (.inr (.inr (.inr (.inl ⟨rfl,PySem.W.mg_of KX G e9⟩)))))))))
  · exact .inr (.inr (.inr (.inr (.inr (.inr (.inr (.inr (.inr (.inr (⟨rfl,PySem.W.mg_of KX G e10⟩))))))))))
end
section
variable {P : Program} {w : World} {K : PySem.W.Frag} {mg : Str → Option Value} {CP CR d0 d1 : Addr} {l0 l1 : List (Int × Tok × Addr)}
theorem assemble (T : Txt K mg CP CR) (mP : mg "Pond" = some (.ref CP)) (mkP : PySem.W.makesIn K CP = true) (kcP : PySem.W.keepIn K (.ref CP) = true) (mR : mg "Reader" = some (.ref CR)) (mkR : PySem.W.makesIn K CR = true) (kcR : PySem.W.keepIn K (.ref CR) = true) {f_without_place : Addr} {fd_without_place : FuncData} (d_without_place : Def K mg "without_place" sWP ["row","pivot_row","place","divisor"] f_without_place fd_without_place) {f_cleared : Addr} {fd_cleared : FuncData} (d_cleared : Def K mg "cleared" sCleared ["rows","place","divisor"] f_cleared fd_cleared) {f_lowest_terms : Addr} {fd_lowest_terms : FuncData} (d_lowest_terms : Def K mg "lowest_terms" sLow ["numerator","denominator"] f_lowest_terms fd_lowest_terms) {f_solved : Addr} {fd_solved : FuncData} (d_solved : Def K mg "solved" sSolved ["equations"] f_solved fd_solved) {f_reached : Addr} {fd_reached : FuncData} (d_reached : Def K mg "reached" sReached ["eaters","start","gone"] f_reached fd_reached) {f_living : Addr} {fd_living : FuncData} (d_living : Def K mg "living" sLiving ["eaters","gone"] f_living fd_living) {f_needs : Addr} {fd_needs : FuncData} (d_needs : Def K mg "needs" sNeeds ["eaters","k"] f_needs fd_needs) {f_one_longer : Addr} {fd_one_longer : FuncData} (d_one_longer : Def K mg "one_longer" sLonger ["rows","kinds"] f_one_longer fd_one_longer) {f_smallest_cut : Addr} {fd_smallest_cut : FuncData} (d_smallest_cut : Def K mg "smallest_cut" sCut ["eaters","k"] f_smallest_cut fd_smallest_cut) {f_eaters_by_food : Addr} {fd_eaters_by_food : FuncData} (d_eaters_by_food : Def K mg "eaters_by_food" sEaters ["pond"] f_eaters_by_food fd_eaters_by_food) {f_kinds_of : Addr} {fd_kinds_of : FuncData} (d_kinds_of : Def K mg "kinds_of" sKinds ["pond"] f_kinds_of fd_kinds_of) {f_foods_of : Addr} {fd_foods_of : FuncData} (d_foods_of : Def K mg "foods_of" sFoods ["pond","eater"] f_foods_of fd_foods_of) {f_total_weight : Addr} {fd_total_weight : FuncData} (d_total_weight : Def K mg "total_weight" sTotal ["pond","eater"] f_total_weight fd_total_weight) {f_equation : Addr} {fd_equation : FuncData} (d_equation : Def K mg "equation" sEq ["pond","eater","right"] f_equation fd_equation) {f_one_link_more : Addr} {fd_one_link_more : FuncData} (d_one_link_more : Def K mg "one_link_more" sMore ["pond","counts"] f_one_link_more fd_one_link_more) {f_chains_of_no_link : Addr} {fd_chains_of_no_link : FuncData} (d_chains_of_no_link : Def K mg "chains_of_no_link" sNoLink ["pond"] f_chains_of_no_link fd_chains_of_no_link) {f_listable : Addr} {fd_listable : FuncData} (d_listable : Def K mg "listable" sListable ["pond","listed"] f_listable fd_listable) {f_counted : Addr} {fd_counted : FuncData} (d_counted : Def K mg "counted" sCounted ["kinds"] f_counted fd_counted) {f_is_kind : Addr} {fd_is_kind : FuncData} (d_is_kind : Def K mg "is_kind" sIsKind ["pond","k"] f_is_kind fd_is_kind) {f_refusal_unless_living : Addr} {fd_refusal_unless_living : FuncData} (d_refusal_unless_living : Def K mg "refusal_unless_living" sRefL ["pond","k"] f_refusal_unless_living fd_refusal_unless_living) {f_refusal_unless_fed_by_kinds : Addr} {fd_refusal_unless_fed_by_kinds : FuncData} (d_refusal_unless_fed_by_kinds : Def K mg "refusal_unless_fed_by_kinds" sRefF ["pond","k"] f_refusal_unless_fed_by_kinds fd_refusal_unless_fed_by_kinds) {f_all_live : Addr} {fd_all_live : FuncData} (d_all_live : Def K mg "all_live" sAllLive ["pond"] f_all_live fd_all_live) {f_is_link : Addr} {fd_is_link : FuncData} (d_is_link : Def K mg "is_link" sIsLink ["n","food","eater","weight"] f_is_link fd_is_link) {f_weights_of : Addr} {fd_weights_of : FuncData} (d_weights_of : Def K mg "weights_of" sWeights ["n","links"] f_weights_of fd_weights_of) {f_web : Addr} {fd_web : FuncData} (d_web : Def K mg "web" sWeb ["pond","n","links"] f_web fd_web) {f_told : Addr} {fd_told : FuncData} (d_told : Def K mg "told" sTold ["pond"] f_told fd_told) {f_alive : Addr} {fd_alive : FuncData} (d_alive : Def K mg "alive" sAliveC ["pond","kinds"] f_alive fd_alive) {f_falls : Addr} {fd_falls : FuncData} (d_falls : Def K mg "falls" sFalls ["pond","k"] f_falls fd_falls) {f_needed : Addr} {fd_needed : FuncData} (d_needed : Def K mg "needed" sNeeded ["pond","k"] f_needed fd_needed) {f_nearest : Addr} {fd_nearest : FuncData} (d_nearest : Def K mg "nearest" sNearest ["pond","k"] f_nearest fd_nearest) {f_least : Addr} {fd_least : FuncData} (d_least : Def K mg "least" sLeast ["pond","k"] f_least fd_least) {f_ways : Addr} {fd_ways : FuncData} (d_ways : Def K mg "ways" sWays ["pond","k"] f_ways fd_ways) {f_worst : Addr} {fd_worst : FuncData} (d_worst : Def K mg "worst" sWorst ["pond","m"] f_worst fd_worst) {f_levels : Addr} {fd_levels : FuncData} (d_levels : Def K mg "levels" sLevels ["pond"] f_levels fd_levels) {f_through : Addr} {fd_through : FuncData} (d_through : Def K mg "through" sThrough ["pond","j"] f_through fd_through) {f_chains : Addr} {fd_chains : FuncData} (d_chains : Def K mg "chains" sChains ["pond","m"] f_chains fd_chains) {f_shortest : Addr} {fd_shortest : FuncData} (d_shortest : Def K mg "shortest" sShortest ["pond","k"] f_shortest fd_shortest) {f_together : Addr} {fd_together : FuncData} (d_together : Def K mg "together" sTogether ["pond","k"] f_together fd_together) {f_order : Addr} {fd_order : FuncData} (d_order : Def K mg "order" sOrder ["pond"] f_order fd_order) {f_called_without : Addr} {fd_called_without : FuncData} (d_called_without : Def K mg "called_without" sCW ["k","kind"] f_called_without fd_called_without) {f_remove : Addr} {fd_remove : FuncData} (d_remove : Def K mg "remove" sRemove ["pond","k"] f_remove fd_remove) {f_weigh : Addr} {fd_weigh : FuncData} (d_weigh : Def K mg "weigh" sWeigh ["pond","f","e","w"] f_weigh fd_weigh) {f_answer_next : Addr} {fd_answer_next : FuncData} (d_answer_next : Def K mg "answer_next" sNext ["pond","reader"] f_answer_next fd_answer_next) {f_answers : Addr} {fd_answers : FuncData} (d_answers : Def K mg "answers" sAnswers ["calls"] f_answers fd_answers) {f_pi : Addr} {fd_pi : FuncData} (d_pi : MDef K CP "__init__" "Pond.__init__" sPInit ["self"] f_pi fd_pi) {f_ri : Addr} {fd_ri : FuncData} (d_ri : MDef K CR "__init__" "Reader.__init__" sRInit ["self","calls"] f_ri fd_ri) {f_hm : Addr} {fd_hm : FuncData} (d_hm : MDef K CR "has_more" "Reader.has_more" sMoreM ["self"] f_hm fd_hm) {f_nn : Addr} {fd_nn : FuncData} (d_nn : MDef K CR "next_number" "Reader.next_number" sNextN ["self"] f_nn fd_nn) {f_nr : Addr} {fd_nr : FuncData} (d_nr : MDef K CR "next_row" "Reader.next_row" sNextR ["self"] f_nr fd_nr)
    (D0 : KDict K d0 l0) (m0 : mg "ON_NO_NUMBER" = some (.ref d0)) (k0 : l0.map (·.1) = [1,9,14]) (e0 : ∀ c f,(c,f) ∈ l0.map (fun x=>(x.1,x.2.2)) → (c = 1 ∧ mg "told" = some (.ref f)) ∨ (c = 9 ∧ mg "levels" = some (.ref f)) ∨ (c = 14 ∧ mg "order" = some (.ref f)))
    (D1 : KDict K d1 l1) (m1 : mg "ON_ONE_NUMBER" = some (.ref d1)) (k1 : l1.map (·.1) = [3,4,5,6,7,8,10,11,12,13,15]) (e1 : ∀ c f,(c,f) ∈ l1.map (fun x=>(x.1,x.2.2)) → (c = 3 ∧ mg "falls" = some (.ref f)) ∨ (c = 4 ∧ mg "needed" = some (.ref f)) ∨ (c = 5 ∧ mg "nearest" = some (.ref f)) ∨ (c = 6 ∧ mg "least" = some (.ref f)) ∨ (c = 7 ∧ mg "ways" = some (.ref f)) ∨ (c = 8 ∧ mg "worst" = some (.ref f)) ∨ (c = 10 ∧ mg "through" = some (.ref f)) ∨ (c = 11 ∧ mg "chains" = some (.ref f)) ∨ (c = 12 ∧ mg "shortest" = some (.ref f)) ∨ (c = 13 ∧ mg "together" = some (.ref f)) ∨ (c = 15 ∧ mg "remove" = some (.ref f))) (base : Heap) :
    FnOk P w K mg base CX0 7 f_answers fd_answers ["calls"] (spAnswers K):=by
  have c_without_place : Callee P w K mg base "without_place" 1 ["row","pivot_row","place","divisor"] (spWP):=d_without_place.callee (ok_wp d_without_place T)
  have c_cleared : Callee P w K mg base "cleared" 2 ["rows","place","divisor"] (spCleared):=d_cleared.callee (ok_cleared d_cleared T c_without_place)
  have c_lowest_terms : Callee P w K mg base "lowest_terms" 1 ["numerator","denominator"] (spLow):=d_lowest_terms.callee (ok_low d_lowest_terms T)
  have c_solved : Callee P w K mg base "solved" 3 ["equations"] (spSolved):=d_solved.callee (ok_solved d_solved T c_cleared c_lowest_terms)
  have c_reached : Callee P w K mg base "reached" 1 ["eaters","start","gone"] (spReached K):=d_reached.callee (ok_reached d_reached T)
  have c_living : Callee P w K mg base "living" 2 ["eaters","gone"] (spLiving K):=d_living.callee (ok_living d_living T c_reached)
  have c_needs : Callee P w K mg base "needs" 3 ["eaters","k"] (spNeeds):=d_needs.callee (ok_needs d_needs T c_living)
  have c_one_longer : Callee P w K mg base "one_longer" 1 ["rows","kinds"] (spLonger K):=d_one_longer.callee (ok_longer d_one_longer T)
  have c_smallest_cut : Callee P w K mg base "smallest_cut" 3 ["eaters","k"] (spCut):=d_smallest_cut.callee (ok_cut d_smallest_cut T c_living c_one_longer)
  have c_eaters_by_food : Callee P w K mg base "eaters_by_food" 1 ["pond"] (spEaters CP):=d_eaters_by_food.callee (ok_eaters d_eaters_by_food T)
  have c_kinds_of : Callee P w K mg base "kinds_of" 1 ["pond"] (spKinds CP):=d_kinds_of.callee (ok_kinds d_kinds_of T)
  have c_foods_of : Callee P w K mg base "foods_of" 1 ["pond","eater"] (spFoods CP):=d_foods_of.callee (ok_foods d_foods_of T)
  have c_total_weight : Callee P w K mg base "total_weight" 2 ["pond","eater"] (spTotal CP):=d_total_weight.callee (ok_total d_total_weight T c_foods_of)
  have c_equation : Callee P w K mg base "equation" 3 ["pond","eater","right"] (spEq CP):=d_equation.callee (ok_eq d_equation T c_kinds_of c_total_weight)
  have c_one_link_more : Callee P w K mg base "one_link_more" 1 ["pond","counts"] (spMore CP):=d_one_link_more.callee (ok_more d_one_link_more T)
  have c_chains_of_no_link : Callee P w K mg base "chains_of_no_link" 1 ["pond"] (spNoLink CP):=d_chains_of_no_link.callee (ok_noLink d_chains_of_no_link T)
  have c_listable : Callee P w K mg base "listable" 2 ["pond","listed"] (spListable CP):=d_listable.callee (ok_listable d_listable T c_kinds_of c_foods_of)
  have c_counted : Callee P w K mg base "counted" 1 ["kinds"] (spCounted):=d_counted.callee (ok_counted d_counted T)
  have c_is_kind : Callee P w K mg base "is_kind" 1 ["pond","k"] (spIsKind CP):=d_is_kind.callee (ok_isKind d_is_kind T)
  have c_refusal_unless_living : Callee P w K mg base "refusal_unless_living" 3 ["pond","k"] (spRefL CP):=d_refusal_unless_living.callee (ok_refL d_refusal_unless_living T c_is_kind c_living c_eaters_by_food)
  have c_refusal_unless_fed_by_kinds : Callee P w K mg base "refusal_unless_fed_by_kinds" 4 ["pond","k"] (spRefF CP):=d_refusal_unless_fed_by_kinds.callee (ok_refF d_refusal_unless_fed_by_kinds T c_refusal_unless_living)
  have c_all_live : Callee P w K mg base "all_live" 3 ["pond"] (spAllLive CP):=d_all_live.callee (ok_allLive d_all_live T c_living c_eaters_by_food)
  have c_is_link : Callee P w K mg base "is_link" 1 ["n","food","eater","weight"] (spIsLink):=d_is_link.callee (ok_isLink d_is_link T)
  have c_weights_of : Callee P w K mg base "weights_of" 2 ["n","links"] (spWeights):=d_weights_of.callee (ok_weights d_weights_of T c_is_link)
  have c_web : Callee P w K mg base "web" 3 ["pond","n","links"] (spWeb CP):=d_web.callee (ok_web d_web T c_weights_of)
  have c_alive : Callee P w K mg base "alive" 3 ["pond","kinds"] (spAliveC CP):=d_alive.callee (ok_aliveC d_alive T c_is_kind c_eaters_by_food c_living c_counted)
  have c_called_without : Callee P w K mg base "called_without" 1 ["k","kind"] (spCW):=d_called_without.callee (ok_cw d_called_without T)
  have c_weigh : Callee P w K mg base "weigh" 2 ["pond","f","e","w"] (spWeigh CP):=d_weigh.callee (ok_weigh d_weigh T c_is_kind)
  have c_nn : MCallee P w K mg base CR "next_number" 1 ["self"] (spNextN K CR):=⟨_,_,d_nn.mt,d_nn.bd,ok_nextN d_nn.fn T⟩
  have c_nr : MCallee P w K mg base CR "next_row" 2 ["self"] (spNextR K CR):=⟨_,_,d_nr.mt,d_nr.bd,ok_nextR d_nr.fn T c_nn⟩
  have c_hm : MCallee P w K mg base CR "has_more" 1 ["self"] (spMoreM K CR):=⟨_,_,d_hm.mt,d_hm.bd,ok_moreM d_hm.fn T⟩
  have c_pi : KCallee P w K mg base "Pond" CP 1 ["self"] (spPInit CP):=⟨_,_,⟨mkP,d_pi.mt.at_,d_pi.mt.fn,kcP⟩,mP,d_pi.bd,ok_pinit d_pi.fn T⟩
  have c_ri : KCallee P w K mg base "Reader" CR 1 ["self","calls"] (spRInit K CR):=⟨_,_,⟨mkR,d_ri.mt.at_,d_ri.mt.fn,kcR⟩,mR,d_ri.bd,ok_rinit d_ri.fn T⟩
  have T0 : Tab0 P w K mg base CP l0:=fun c f hm=>by
    rcases e0 c f hm with ⟨rfl,hf⟩ | ⟨rfl,hf⟩ | ⟨rfl,hf⟩
    · have q:=hf.symm.trans d_told.mgf
      cases q
      exact ⟨1,_,_,by decide,d_told.fn.kp,d_told.bd,ok_told d_told T⟩
    · have q:=hf.symm.trans d_levels.mgf
      cases q
      exact ⟨4,_,_,by decide,d_levels.fn.kp,d_levels.bd,ok_levels d_levels T c_all_live c_kinds_of c_total_weight c_equation c_solved⟩
    · have q:=hf.symm.trans d_order.mgf
      cases q
      exact ⟨3,_,_,by decide,d_order.fn.kp,d_order.bd,ok_order d_order T c_listable c_counted⟩
  have T1 : Tab1 P w K mg base CP l1:=fun c f hm=>by
    rcases e1 c f hm with ⟨rfl,hf⟩ | ⟨rfl,hf⟩ | ⟨rfl,hf⟩ | ⟨rfl,hf⟩ | ⟨rfl,hf⟩ | ⟨rfl,hf⟩ | ⟨rfl,hf⟩ | ⟨rfl,hf⟩ | ⟨rfl,hf⟩ | ⟨rfl,hf⟩ | ⟨rfl,hf⟩
    · have q:=hf.symm.trans d_falls.mgf
      cases q
      exact ⟨3,_,_,by decide,d_falls.fn.kp,d_falls.bd,ok_falls d_falls T c_is_kind c_eaters_by_food c_living c_counted⟩
    · have q:=hf.symm.trans d_needed.mgf
      cases q
      exact ⟨4,_,_,by decide,d_needed.fn.kp,d_needed.bd,ok_needed d_needed T c_refusal_unless_living c_eaters_by_food c_needs c_counted⟩
    · have q:=hf.symm.trans d_nearest.mgf
      cases q
      exact ⟨4,_,_,by decide,d_nearest.fn.kp,d_nearest.bd,ok_nearest d_nearest T c_refusal_unless_living c_eaters_by_food c_needs⟩
    · have q:=hf.symm.trans d_least.mgf
      cases q
      exact ⟨5,_,_,by decide,d_least.fn.kp,d_least.bd,ok_least d_least T c_refusal_unless_fed_by_kinds c_eaters_by_food c_smallest_cut c_counted⟩
    · have q:=hf.symm.trans d_ways.mgf
      cases q
      exact ⟨5,_,_,by decide,d_ways.fn.kp,d_ways.bd,ok_ways d_ways T c_refusal_unless_fed_by_kinds c_eaters_by_food c_smallest_cut⟩
    · have q:=hf.symm.trans d_worst.mgf
      cases q
      exact ⟨3,_,_,by decide,d_worst.fn.kp,d_worst.bd,ok_worst d_worst T c_one_longer c_kinds_of c_eaters_by_food c_living⟩
    · have q:=hf.symm.trans d_through.mgf
      cases q
      exact ⟨4,_,_,by decide,d_through.fn.kp,d_through.bd,ok_through d_through T c_is_kind c_all_live c_kinds_of c_equation c_solved⟩
    · have q:=hf.symm.trans d_chains.mgf
      cases q
      exact ⟨2,_,_,by decide,d_chains.fn.kp,d_chains.bd,ok_chains d_chains T c_chains_of_no_link c_one_link_more⟩
    · have q:=hf.symm.trans d_shortest.mgf
      cases q
      exact ⟨2,_,_,by decide,d_shortest.fn.kp,d_shortest.bd,ok_shortest d_shortest T c_is_kind c_chains_of_no_link c_one_link_more⟩
    · have q:=hf.symm.trans d_together.mgf
      cases q
      exact ⟨2,_,_,by decide,d_together.fn.kp,d_together.bd,ok_together d_together T c_is_kind c_eaters_by_food c_reached c_counted⟩
    · have q:=hf.symm.trans d_remove.mgf
      cases q
      exact ⟨2,_,_,by decide,d_remove.fn.kp,d_remove.bd,ok_remove d_remove T c_is_kind c_called_without⟩
  have c_answer_next : Callee P w K mg base "answer_next" 6 ["pond","reader"] (spNext K CP CR):=d_answer_next.callee (ok_next d_answer_next T c_nn c_nr c_web c_alive c_weigh D0 m0 k0 T0 D1 m1 k1 T1)
  exact ok_answers d_answers T c_pi c_ri c_hm c_answer_next
end
theorem calls_of {K : PySem.W.Frag} {H : Hp} {a : Addr} {l : List Int} (hO : OnlyF H) (h : SqL K H a (l.map V.int)) : FwD.Calls K H a l:=by
  rcases h with (h | h) | h
  · rcases hO a with z | ⟨o,u,z⟩
    · rw [h] at z; cases z
    · rw [h] at z; cases z
  · exact .inl h
  · exact .inr h
end FwD
open PySem PySem.W PyProof.Rows PySem.Challenge
namespace PySem.W.Fast
theorem tw5556394790665042738:True:=trivial
theorem te13652975778391683721:True:=trivial
theorem tw11781588381814901947:True:=trivial
theorem tw4885907181623302708:True:=trivial
theorem tw3375367578319653375:True:=trivial
theorem tw8693735153374507123:True:=trivial
theorem tw6024138031927731864:True:=trivial
theorem tw1714500466008209742:True:=trivial
theorem tw5620283236396964056:True:=trivial
theorem tw17191151214944894988:True:=trivial
theorem tw9467311497647780259:True:=trivial
theorem tw1948716715775626390:True:=trivial
theorem tw10839407410439513694:True:=trivial
theorem tw5898769994896544886:True:=trivial
theorem tw2321895045026903352:True:=trivial
theorem tw18293064845784711985:True:=trivial
theorem tw16203575982129916109:True:=trivial
theorem tw2194262256623309700:True:=trivial
theorem tw17214023497725962484:True:=trivial
theorem tw7878986433816373979:True:=trivial
theorem tw13075961425402827485:True:=trivial
theorem tw17939819667015053629:True:=trivial
theorem tw4257487511620327354:True:=trivial
theorem tw5189919189352250604:True:=trivial
theorem tw3500453339322545071:True:=trivial
theorem tw460485734720889775:True:=trivial
theorem tw15461944790500703231:True:=trivial
theorem tw9410435772904711147:True:=trivial
theorem tw13080870252708113666:True:=trivial
theorem tw10395879045806751405:True:=trivial
theorem tw7355746309582916325:True:=trivial
theorem tw5231369327145652360:True:=trivial
theorem tw1879282513323478337:True:=trivial
theorem tw15240143074998403672:True:=trivial
theorem tw5234456455677697171:True:=trivial
theorem tw7397662618658894465:True:=trivial
theorem tw6210691710288213828:True:=trivial
theorem tw1854357075795777609:True:=trivial
theorem tw15160822562079250569:True:=trivial
theorem tw8631091971305998535:True:=trivial
theorem tw652323352365110834:True:=trivial
theorem tw6417315606756626909:True:=trivial
theorem tw16188695798475673726:True:=trivial
theorem tw794173813436268429:True:=trivial
theorem tw18378952735598103256:True:=trivial
theorem tw1094050021141209570:True:=trivial
theorem tw2637637556325047597:True:=trivial
theorem tw1560848789454812630:True:=trivial
theorem tw125923940987519562:True:=trivial
theorem tw427259421868908100:True:=trivial
theorem tw17902526096202841834:True:=trivial
theorem tw1696341066926428337:True:=trivial
theorem tw7831065149653973747:True:=trivial
theorem tw8967502080876150939:True:=trivial
theorem tw14664548262909086980:True:=trivial
theorem tw10835043585930238109:True:=trivial
theorem tw11667594198433725036:True:=trivial
theorem tw13649808068399657033:True:=trivial
theorem tw10014391519963348998:True:=trivial
theorem tw17988640742559799699:True:=trivial
theorem tw16759308702581858182:True:=trivial
theorem tw558626485579986005:True:=trivial
theorem tw11721156104311427599:True:=trivial
theorem tw12586681161092918829:True:=trivial
theorem tw7347733745802601022:True:=trivial
theorem tw14315577918749932886:True:=trivial
theorem tw18288534953791134032:True:=trivial
theorem tw9241002079827175361:True:=trivial
theorem tw1335130582807175921:True:=trivial
theorem tw9521768379918330792:True:=trivial
theorem tw14079706475372197832:True:=trivial
theorem tw18243800454836523039:True:=trivial
theorem tw3708028258504632854:True:=trivial
theorem tw13343857682514522046:True:=trivial
theorem tw9114324580619374883:True:=trivial
theorem tw15342414407610483253:True:=trivial
theorem tw14472486713393429300:True:=trivial
theorem tw3944724392715954492:True:=trivial
theorem tw11578396297453204987:True:=trivial
theorem tw7313578817110987022:True:=trivial
theorem tw4321139775805352853:True:=trivial
theorem tw5884493960442140674:True:=trivial
theorem tw2687568986995056992:True:=trivial
theorem tw7278439715573714478:True:=trivial
theorem tw1346540274950389648:True:=trivial
theorem tw172072701512155695:True:=trivial
theorem tw2504793989850830678:True:=trivial
theorem tw10651159063026932203:True:=trivial
theorem tw17325399199240984485:True:=trivial
theorem tw11187202263507426523:True:=trivial
theorem tw6698500605965225306:True:=trivial
theorem tw18275616749330901632:True:=trivial
theorem tw7825754454566988784:True:=trivial
theorem tw10442581094940770413:True:=trivial
theorem tw16083575851547609225:True:=trivial
theorem tw14795239051069872512:True:=trivial
theorem tw9584242190116574744:True:=trivial
theorem tw12683244168616851359:True:=trivial
theorem tw1046103972363589629:True:=trivial
theorem tw9880362425364328734:True:=trivial
theorem tw2670785509286526795:True:=trivial
theorem tw10739196231605712325:True:=trivial
theorem tw14168558473954172234:True:=trivial
theorem tw994463808565995056:True:=trivial
theorem tw13913489269341375689:True:=trivial
theorem tw6370754109694814604:True:=trivial
theorem tw11984362555643291407:True:=trivial
theorem tw290144252660959743:True:=trivial
theorem tw9733049133886992886:True:=trivial
theorem tw15465313960575631754:True:=trivial
theorem tw8043705418295266346:True:=trivial
theorem tw11796464370607156607:True:=trivial
theorem tw2811476189326770075:True:=trivial
theorem tw7427001534071360230:True:=trivial
theorem tw14108720309519349004:True:=trivial
theorem tw15477728359395493983:True:=trivial
theorem tw9158864449926279408:True:=trivial
theorem tw9270416484133925624:True:=trivial
theorem tw11354413197575128216:True:=trivial
theorem tw9567284396189404283:True:=trivial
theorem tw16181283845359142364:True:=trivial
theorem tw7730223807069176868:True:=trivial
theorem tw3764816820068342465:True:=trivial
theorem tw6680980762663522932:True:=trivial
theorem tw11736341998201339350:True:=trivial
theorem tw5783227226858911425:True:=trivial
theorem tw8185923884185783219:True:=trivial
end PySem.W.Fast
set_option maxRecDepth 100000 in
set_option maxHeartbeats 0 in
theorem PySem.Challenge.cw_foodwebs_s01_answers_holds : PySem.Challenge.rw_foodwebs_s01_answers.Holds := by
  w_on; k_headS; (case hw=>exact ⟨[.list [.int 1]],by decide +kernel,by decide +kernel⟩)
  k_fillS
  refine L2.walk_specK (r:=PySem.Challenge.rw_foodwebs_s01_answers) (k:=7) (CX:=L2.CX0) (ps:=["calls"]) (sp:=FwD.spAnswers) (by decide +kernel) rfl rfl ⟨rfl,by decide,by decide⟩ (fun w h Y=>PySem.W.kIn_of Y) ?F ?S (fun _ _ _ _ z=>z)
  case F =>
    intro w mg fa h Y KX G hmg
    obtain ⟨f_without_place,fd_without_place,d_without_place,_⟩ : FwD.DE (cw_foodwebs_s01_answers_holds.heap_1 w.params) mg "without_place" FwD.sWP ["row","pivot_row","place","divisor"]:=by
      refine' FwD.defE FwD.sWP ["row","pivot_row","place","divisor"] KX G (fun _ _ _ _ _ _ us hl=>match us,hl with | [_,_,_,_],_=>rfl) ?a ?l ?c ?k
      (case a=>k_is); (case l=>k_is); (case c=>k_is); (case k=>k_is)
    obtain ⟨f_cleared,fd_cleared,d_cleared,_⟩ : FwD.DE (cw_foodwebs_s01_answers_holds.heap_1 w.params) mg "cleared" FwD.sCleared ["rows","place","divisor"]:=by
      refine' FwD.defE FwD.sCleared ["rows","place","divisor"] KX G (fun _ _ _ _ _ _ us hl=>match us,hl with | [_,_,_],_=>rfl) ?a ?l ?c ?k
      (case a=>k_is); (case l=>k_is); (case c=>k_is); (case k=>k_is)
    obtain ⟨f_lowest_terms,fd_lowest_terms,d_lowest_terms,_⟩ : FwD.DE (cw_foodwebs_s01_answers_holds.heap_1 w.params) mg "lowest_terms" FwD.sLow ["numerator","denominator"]:=by
      refine' FwD.defE FwD.sLow ["numerator","denominator"] KX G (fun _ _ _ _ _ _ us hl=>match us,hl with | [_,_],_=>rfl) ?a ?l ?c ?k
      (case a=>k_is); (case l=>k_is); (case c=>k_is); (case k=>k_is)
    obtain ⟨f_solved,fd_solved,d_solved,_⟩ : FwD.DE (cw_foodwebs_s01_answers_holds.heap_1 w.params) mg "solved" FwD.sSolved ["equations"]:=by
      refine' FwD.defE FwD.sSolved ["equations"] KX G (fun _ _ _ _ _ _ us hl=>match us,hl with | [_],_=>rfl) ?a ?l ?c ?k
      (case a=>k_is); (case l=>k_is); (case c=>k_is); (case k=>k_is)
    obtain ⟨f_reached,fd_reached,d_reached,_⟩ : FwD.DE (cw_foodwebs_s01_answers_holds.heap_1 w.params) mg "reached" FwD.sReached ["eaters","start","gone"]:=by
      refine' FwD.defE FwD.sReached ["eaters","start","gone"] KX G (fun _ _ _ _ _ _ us hl=>match us,hl with | [_,_,_],_=>rfl) ?a ?l ?c ?k
      (case a=>k_is); (case l=>k_is); (case c=>k_is); (case k=>k_is)
    obtain ⟨f_living,fd_living,d_living,_⟩ : FwD.DE (cw_foodwebs_s01_answers_holds.heap_1 w.params) mg "living" FwD.sLiving ["eaters","gone"]:=by
      refine' FwD.defE FwD.sLiving ["eaters","gone"] KX G (fun _ _ _ _ _ _ us hl=>match us,hl with | [_,_],_=>rfl) ?a ?l ?c ?k
      (case a=>k_is); (case l=>k_is); (case c=>k_is); (case k=>k_is)
    obtain ⟨f_needs,fd_needs,d_needs,_⟩ : FwD.DE (cw_foodwebs_s01_answers_holds.heap_1 w.params) mg "needs" FwD.sNeeds ["eaters","k"]:=by
      refine' FwD.defE FwD.sNeeds ["eaters","k"] KX G (fun _ _ _ _ _ _ us hl=>match us,hl with | [_,_],_=>rfl) ?a ?l ?c ?k
      (case a=>k_is); (case l=>k_is); (case c=>k_is); (case k=>k_is)
    obtain ⟨f_one_longer,fd_one_longer,d_one_longer,_⟩ : FwD.DE (cw_foodwebs_s01_answers_holds.heap_1 w.params) mg "one_longer" FwD.sLonger ["rows","kinds"]:=by
      refine' FwD.defE FwD.sLonger ["rows","kinds"] KX G (fun _ _ _ _ _ _ us hl=>match us,hl with | [_,_],_=>rfl) ?a ?l ?c ?k
      (case a=>k_is); (case l=>k_is); (case c=>k_is); (case k=>k_is)
    obtain ⟨f_smallest_cut,fd_smallest_cut,d_smallest_cut,_⟩ : FwD.DE (cw_foodwebs_s01_answers_holds.heap_1 w.params) mg "smallest_cut" FwD.sCut ["eaters","k"]:=by
      refine' FwD.defE FwD.sCut ["eaters","k"] KX G (fun _ _ _ _ _ _ us hl=>match us,hl with | [_,_],_=>rfl) ?a ?l ?c ?k
      (case a=>k_is); (case l=>k_is); (case c=>k_is); (case k=>k_is)
    obtain ⟨f_eaters_by_food,fd_eaters_by_food,d_eaters_by_food,_⟩ : FwD.DE (cw_foodwebs_s01_answers_holds.heap_1 w.params) mg "eaters_by_food" FwD.sEaters ["pond"]:=by
      refine' FwD.defE FwD.sEaters ["pond"] KX G (fun _ _ _ _ _ _ us hl=>match us,hl with | [_],_=>rfl) ?a ?l ?c ?k
      (case a=>k_is); (case l=>k_is); (case c=>k_is); (case k=>k_is)
    obtain ⟨f_kinds_of,fd_kinds_of,d_kinds_of,_⟩ : FwD.DE (cw_foodwebs_s01_answers_holds.heap_1 w.params) mg "kinds_of" FwD.sKinds ["pond"]:=by
      refine' FwD.defE FwD.sKinds ["pond"] KX G (fun _ _ _ _ _ _ us hl=>match us,hl with | [_],_=>rfl) ?a ?l ?c ?k
      (case a=>k_is); (case l=>k_is); (case c=>k_is); (case k=>k_is)
    obtain ⟨f_foods_of,fd_foods_of,d_foods_of,_⟩ : FwD.DE (cw_foodwebs_s01_answers_holds.heap_1 w.params) mg "foods_of" FwD.sFoods ["pond","eater"]:=by
      refine' FwD.defE FwD.sFoods ["pond","eater"] KX G (fun _ _ _ _ _ _ us hl=>match us,hl with | [_,_],_=>rfl) ?a ?l ?c ?k
      (case a=>k_is); (case l=>k_is); (case c=>k_is); (case k=>k_is)
    obtain ⟨f_total_weight,fd_total_weight,d_total_weight,_⟩ : FwD.DE (cw_foodwebs_s01_answers_holds.heap_1 w.params) mg "total_weight" FwD.sTotal ["pond","eater"]:=by
      refine' FwD.defE FwD.sTotal ["pond","eater"] KX G (fun _ _ _ _ _ _ us hl=>match us,hl with | [_,_],_=>rfl) ?a ?l ?c ?k
      (case a=>k_is); (case l=>k_is); (case c=>k_is); (case k=>k_is)
    obtain ⟨f_equation,fd_equation,d_equation,_⟩ : FwD.DE (cw_foodwebs_s01_answers_holds.heap_1 w.params) mg "equation" FwD.sEq ["pond","eater","right"]:=by
      refine' FwD.defE FwD.sEq ["pond","eater","right"] KX G (fun _ _ _ _ _ _ us hl=>match us,hl with | [_,_,_],_=>rfl) ?a ?l ?c ?k
      (case a=>k_is); (case l=>k_is); (case c=>k_is); (case k=>k_is)
    obtain ⟨f_one_link_more,fd_one_link_more,d_one_link_more,_⟩ : FwD.DE (cw_foodwebs_s01_answers_holds.heap_1 w.params) mg "one_link_more" FwD.sMore ["pond","counts"]:=by
      refine' FwD.defE FwD.sMore ["pond","counts"] KX G (fun _ _ _ _ _ _ us hl=>match us,hl with | [_,_],_=>rfl) ?a ?l ?c ?k
      (case a=>k_is); (case l=>k_is); (case c=>k_is); (case k=>k_is)
    obtain ⟨f_chains_of_no_link,fd_chains_of_no_link,d_chains_of_no_link,_⟩ : FwD.DE (cw_foodwebs_s01_answers_holds.heap_1 w.params) mg "chains_of_no_link" FwD.sNoLink ["pond"]:=by
      refine' FwD.defE FwD.sNoLink ["pond"] KX G (fun _ _ _ _ _ _ us hl=>match us,hl with | [_],_=>rfl) ?a ?l ?c ?k
      (case a=>k_is); (case l=>k_is); (case c=>k_is); (case k=>k_is)
    obtain ⟨f_listable,fd_listable,d_listable,_⟩ : FwD.DE (cw_foodwebs_s01_answers_holds.heap_1 w.params) mg "listable" FwD.sListable ["pond","listed"]:=by
      refine' FwD.defE FwD.sListable ["pond","listed"] KX G (fun _ _ _ _ _ _ us hl=>match us,hl with | [_,_],_=>rfl) ?a ?l ?c ?k
      (case a=>k_is); (case l=>k_is); (case c=>k_is); (case k=>k_is)
    obtain ⟨f_counted,fd_counted,d_counted,_⟩ : FwD.DE (cw_foodwebs_s01_answers_holds.heap_1 w.params) mg "counted" FwD.sCounted ["kinds"]:=by
      refine' FwD.defE FwD.sCounted ["kinds"] KX G (fun _ _ _ _ _ _ us hl=>match us,hl with | [_],_=>rfl) ?a ?l ?c ?k
      (case a=>k_is); (case l=>k_is); (case c=>k_is); (case k=>k_is)
    obtain ⟨f_is_kind,fd_is_kind,d_is_kind,_⟩ : FwD.DE (cw_foodwebs_s01_answers_holds.heap_1 w.params) mg "is_kind" FwD.sIsKind ["pond","k"]:=by
      refine' FwD.defE FwD.sIsKind ["pond","k"] KX G (fun _ _ _ _ _ _ us hl=>match us,hl with | [_,_],_=>rfl) ?a ?l ?c ?k
      (case a=>k_is); (case l=>k_is); (case c=>k_is); (case k=>k_is)
    obtain ⟨f_refusal_unless_living,fd_refusal_unless_living,d_refusal_unless_living,_⟩ : FwD.DE (cw_foodwebs_s01_answers_holds.heap_1 w.params) mg "refusal_unless_living" FwD.sRefL ["pond","k"]:=by
      refine' FwD.defE FwD.sRefL ["pond","k"] KX G (fun _ _ _ _ _ _ us hl=>match us,hl with | [_,_],_=>rfl) ?a ?l ?c ?k
      (case a=>k_is); (case l=>k_is); (case c=>k_is); (case k=>k_is)
    obtain ⟨f_refusal_unless_fed_by_kinds,fd_refusal_unless_fed_by_kinds,d_refusal_unless_fed_by_kinds,_⟩ : FwD.DE (cw_foodwebs_s01_answers_holds.heap_1 w.params) mg "refusal_unless_fed_by_kinds" FwD.sRefF ["pond","k"]:=by
      refine' FwD.defE FwD.sRefF ["pond","k"] KX G (fun _ _ _ _ _ _ us hl=>match us,hl with | [_,_],_=>rfl) ?a ?l ?c ?k
      (case a=>k_is); (case l=>k_is); (case c=>k_is); (case k=>k_is)
    obtain ⟨f_all_live,fd_all_live,d_all_live,_⟩ : FwD.DE (cw_foodwebs_s01_answers_holds.heap_1 w.params) mg "all_live" FwD.sAllLive ["pond"]:=by
      refine' FwD.defE FwD.sAllLive ["pond"] KX G (fun _ _ _ _ _ _ us hl=>match us,hl with | [_],_=>rfl) ?a ?l ?c ?k
      (case a=>k_is); (case l=>k_is); (case c=>k_is); (case k=>k_is)
    obtain ⟨f_is_link,fd_is_link,d_is_link,_⟩ : FwD.DE (cw_foodwebs_s01_answers_holds.heap_1 w.params) mg "is_link" FwD.sIsLink ["n","food","eater","weight"]:=by
      refine' FwD.defE FwD.sIsLink ["n","food","eater","weight"] KX G (fun _ _ _ _ _ _ us hl=>match us,hl with | [_,_,_,_],_=>rfl) ?a ?l ?c ?k
      (case a=>k_is); (case l=>k_is); (case c=>k_is); (case k=>k_is)
    obtain ⟨f_weights_of,fd_weights_of,d_weights_of,_⟩ : FwD.DE (cw_foodwebs_s01_answers_holds.heap_1 w.params) mg "weights_of" FwD.sWeights ["n","links"]:=by
      refine' FwD.defE FwD.sWeights ["n","links"] KX G (fun _ _ _ _ _ _ us hl=>match us,hl with | [_,_],_=>rfl) ?a ?l ?c ?k
      (case a=>k_is); (case l=>k_is); (case c=>k_is); (case k=>k_is)
    obtain ⟨f_web,fd_web,d_web,_⟩ : FwD.DE (cw_foodwebs_s01_answers_holds.heap_1 w.params) mg "web" FwD.sWeb ["pond","n","links"]:=by
      refine' FwD.defE FwD.sWeb ["pond","n","links"] KX G (fun _ _ _ _ _ _ us hl=>match us,hl with | [_,_,_],_=>rfl) ?a ?l ?c ?k
      (case a=>k_is); (case l=>k_is); (case c=>k_is); (case k=>k_is)
    obtain ⟨f_told,fd_told,d_told,_⟩ : FwD.DE (cw_foodwebs_s01_answers_holds.heap_1 w.params) mg "told" FwD.sTold ["pond"]:=by
      refine' FwD.defE FwD.sTold ["pond"] KX G (fun _ _ _ _ _ _ us hl=>match us,hl with | [_],_=>rfl) ?a ?l ?c ?k
      (case a=>k_is); (case l=>k_is); (case c=>k_is); (case k=>k_is)
    obtain ⟨f_alive,fd_alive,d_alive,_⟩ : FwD.DE (cw_foodwebs_s01_answers_holds.heap_1 w.params) mg "alive" FwD.sAliveC ["pond","kinds"]:=by
      refine' FwD.defE FwD.sAliveC ["pond","kinds"] KX G (fun _ _ _ _ _ _ us hl=>match us,hl with | [_,_],_=>rfl) ?a ?l ?c ?k
      (case a=>k_is); (case l=>k_is); (case c=>k_is); (case k=>k_is)
    obtain ⟨f_falls,fd_falls,d_falls,_⟩ : FwD.DE (cw_foodwebs_s01_answers_holds.heap_1 w.params) mg "falls" FwD.sFalls ["pond","k"]:=by
      refine' FwD.defE FwD.sFalls ["pond","k"] KX G (fun _ _ _ _ _ _ us hl=>match us,hl with | [_,_],_=>rfl) ?a ?l ?c ?k
      (case a=>k_is); (case l=>k_is); (case c=>k_is); (case k=>k_is)
    obtain ⟨f_needed,fd_needed,d_needed,_⟩ : FwD.DE (cw_foodwebs_s01_answers_holds.heap_1 w.params) mg "needed" FwD.sNeeded ["pond","k"]:=by
      refine' FwD.defE FwD.sNeeded ["pond","k"] KX G (fun _ _ _ _ _ _ us hl=>match us,hl with | [_,_],_=>rfl) ?a ?l ?c ?k
      (case a=>k_is); (case l=>k_is); (case c=>k_is); (case k=>k_is)
    obtain ⟨f_nearest,fd_nearest,d_nearest,_⟩ : FwD.DE (cw_foodwebs_s01_answers_holds.heap_1 w.params) mg "nearest" FwD.sNearest ["pond","k"]:=by
      refine' FwD.defE FwD.sNearest ["pond","k"] KX G (fun _ _ _ _ _ _ us hl=>match us,hl with | [_,_],_=>rfl) ?a ?l ?c ?k
      (case a=>k_is); (case l=>k_is); (case c=>k_is); (case k=>k_is)
    obtain ⟨f_least,fd_least,d_least,_⟩ : FwD.DE (cw_foodwebs_s01_answers_holds.heap_1 w.params) mg "least" FwD.sLeast ["pond","k"]:=by
      refine' FwD.defE FwD.sLeast ["pond","k"] KX G (fun _ _ _ _ _ _ us hl=>match us,hl with | [_,_],_=>rfl) ?a ?l ?c ?k
      (case a=>k_is); (case l=>k_is); (case c=>k_is); (case k=>k_is)
    obtain ⟨f_ways,fd_ways,d_ways,_⟩ : FwD.DE (cw_foodwebs_s01_answers_holds.heap_1 w.params) mg "ways" FwD.sWays ["pond","k"]:=by
      refine' FwD.defE FwD.sWays ["pond","k"] KX G (fun _ _ _ _ _ _ us hl=>match us,hl with | [_,_],_=>rfl) ?a ?l ?c ?k
      (case a=>k_is); (case l=>k_is); (case c=>k_is); (case k=>k_is)
    obtain ⟨f_worst,fd_worst,d_worst,_⟩ : FwD.DE (cw_foodwebs_s01_answers_holds.heap_1 w.params) mg "worst" FwD.sWorst ["pond","m"]:=by
      refine' FwD.defE FwD.sWorst ["pond","m"] KX G (fun _ _ _ _ _ _ us hl=>match us,hl with | [_,_],_=>rfl) ?a ?l ?c ?k
      (case a=>k_is); (case l=>k_is); (case c=>k_is); (case k=>k_is)
    obtain ⟨f_levels,fd_levels,d_levels,_⟩ : FwD.DE (cw_foodwebs_s01_answers_holds.heap_1 w.params) mg "levels" FwD.sLevels ["pond"]:=by
      refine' FwD.defE FwD.sLevels ["pond"] KX G (fun _ _ _ _ _ _ us hl=>match us,hl with | [_],_=>rfl) ?a ?l ?c ?k
      (case a=>k_is); (case l=>k_is); (case c=>k_is); (case k=>k_is)
    obtain ⟨f_through,fd_through,d_through,_⟩ : FwD.DE (cw_foodwebs_s01_answers_holds.heap_1 w.params) mg "through" FwD.sThrough ["pond","j"]:=by
      refine' FwD.defE FwD.sThrough ["pond","j"] KX G (fun _ _ _ _ _ _ us hl=>match us,hl with | [_,_],_=>rfl) ?a ?l ?c ?k
      (case a=>k_is); (case l=>k_is); (case c=>k_is); (case k=>k_is)
    obtain ⟨f_chains,fd_chains,d_chains,_⟩ : FwD.DE (cw_foodwebs_s01_answers_holds.heap_1 w.params) mg "chains" FwD.sChains ["pond","m"]:=by
      refine' FwD.defE FwD.sChains ["pond","m"] KX G (fun _ _ _ _ _ _ us hl=>match us,hl with | [_,_],_=>rfl) ?a ?l ?c ?k
      (case a=>k_is); (case l=>k_is); (case c=>k_is); (case k=>k_is)
    obtain ⟨f_shortest,fd_shortest,d_shortest,_⟩ : FwD.DE (cw_foodwebs_s01_answers_holds.heap_1 w.params) mg "shortest" FwD.sShortest ["pond","k"]:=by
      refine' FwD.defE FwD.sShortest ["pond","k"] KX G (fun _ _ _ _ _ _ us hl=>match us,hl with | [_,_],_=>rfl) ?a ?l ?c ?k
      (case a=>k_is); (case l=>k_is); (case c=>k_is); (case k=>k_is)
    obtain ⟨f_together,fd_together,d_together,_⟩ : FwD.DE (cw_foodwebs_s01_answers_holds.heap_1 w.params) mg "together" FwD.sTogether ["pond","k"]:=by
      refine' FwD.defE FwD.sTogether ["pond","k"] KX G (fun _ _ _ _ _ _ us hl=>match us,hl with | [_,_],_=>rfl) ?a ?l ?c ?k
      (case a=>k_is); (case l=>k_is); (case c=>k_is); (case k=>k_is)
    obtain ⟨f_order,fd_order,d_order,_⟩ : FwD.DE (cw_foodwebs_s01_answers_holds.heap_1 w.params) mg "order" FwD.sOrder ["pond"]:=by
      refine' FwD.defE FwD.sOrder ["pond"] KX G (fun _ _ _ _ _ _ us hl=>match us,hl with | [_],_=>rfl) ?a ?l ?c ?k
      (case a=>k_is); (case l=>k_is); (case c=>k_is); (case k=>k_is)
    obtain ⟨f_called_without,fd_called_without,d_called_without,_⟩ : FwD.DE (cw_foodwebs_s01_answers_holds.heap_1 w.params) mg "called_without" FwD.sCW ["k","kind"]:=by
      refine' FwD.defE FwD.sCW ["k","kind"] KX G (fun _ _ _ _ _ _ us hl=>match us,hl with | [_,_],_=>rfl) ?a ?l ?c ?k
      (case a=>k_is); (case l=>k_is); (case c=>k_is); (case k=>k_is)
    obtain ⟨f_remove,fd_remove,d_remove,_⟩ : FwD.DE (cw_foodwebs_s01_answers_holds.heap_1 w.params) mg "remove" FwD.sRemove ["pond","k"]:=by
      refine' FwD.defE FwD.sRemove ["pond","k"] KX G (fun _ _ _ _ _ _ us hl=>match us,hl with | [_,_],_=>rfl) ?a ?l ?c ?k
      (case a=>k_is); (case l=>k_is); (case c=>k_is); (case k=>k_is)
    obtain ⟨f_weigh,fd_weigh,d_weigh,_⟩ : FwD.DE (cw_foodwebs_s01_answers_holds.heap_1 w.params) mg "weigh" FwD.sWeigh ["pond","f","e","w"]:=by
      refine' FwD.defE FwD.sWeigh ["pond","f","e","w"] KX G (fun _ _ _ _ _ _ us hl=>match us,hl with | [_,_,_,_],_=>rfl) ?a ?l ?c ?k
      (case a=>k_is); (case l=>k_is); (case c=>k_is); (case k=>k_is)
    obtain ⟨f_answer_next,fd_answer_next,d_answer_next,_⟩ : FwD.DE (cw_foodwebs_s01_answers_holds.heap_1 w.params) mg "answer_next" FwD.sNext ["pond","reader"]:=by
      refine' FwD.defE FwD.sNext ["pond","reader"] KX G (fun _ _ _ _ _ _ us hl=>match us,hl with | [_,_],_=>rfl) ?a ?l ?c ?k
      (case a=>k_is); (case l=>k_is); (case c=>k_is); (case k=>k_is)
    obtain ⟨f_answers,fd_answers,d_answers,b_answers⟩ : FwD.DE (cw_foodwebs_s01_answers_holds.heap_1 w.params) mg "answers" FwD.sAnswers ["calls"]:=by
      refine' FwD.defE FwD.sAnswers ["calls"] KX G (fun _ _ _ _ _ _ us hl=>match us,hl with | [_],_=>rfl) ?a ?l ?c ?k
      (case a=>k_is); (case l=>k_is); (case c=>k_is); (case k=>k_is)
    obtain ⟨CP,m_CP,cl_CP,mk_CP,kc_CP,no1_CP,no2_CP,⟨f_pi,fd_pi,d_pi⟩⟩ : ∃ C : Addr,mg "Pond" = some (.ref C) ∧ L2.Cls (cw_foodwebs_s01_answers_holds.heap_1 w.params) C ∧ PySem.W.makesIn (cw_foodwebs_s01_answers_holds.heap_1 w.params) C = true ∧ PySem.W.keepIn (cw_foodwebs_s01_answers_holds.heap_1 w.params) (.ref C) = true ∧ L2.NoAttr (cw_foodwebs_s01_answers_holds.heap_1 w.params) C "n" ∧ L2.NoAttr (cw_foodwebs_s01_answers_holds.heap_1 w.params) C "weights" ∧ (∃ (f : Addr) (fd : FuncData),FwD.MDef (cw_foodwebs_s01_answers_holds.heap_1 w.params) C "__init__" "Pond.__init__" FwD.sPInit ["self"] f fd):=by
      refine' FwD.pondE KX G ?a ?pg ?hd ?po ?sa ?mk ?kc ?n1 ?n2 ?a_pi ?i_pi ?l_pi ?c_pi ?k_pi
      (case a=>k_is); (case pg=>k_is); (case hd=>k_is); (case po=>k_is); (case sa=>k_is); (case mk=>k_is); (case kc=>k_is); (case n1=>k_is); (case n2=>k_is); (case a_pi=>k_is); (case i_pi=>k_is); (case l_pi=>k_is); (case c_pi=>k_is); (case k_pi=>k_is)
    obtain ⟨CR,m_CR,cl_CR,mk_CR,kc_CR,no1_CR,no2_CR,⟨f_ri,fd_ri,d_ri⟩,⟨f_hm,fd_hm,d_hm⟩,⟨f_nn,fd_nn,d_nn⟩,⟨f_nr,fd_nr,d_nr⟩⟩ : ∃ C : Addr,mg "Reader" = some (.ref C) ∧ L2.Cls (cw_foodwebs_s01_answers_holds.heap_1 w.params) C ∧ PySem.W.makesIn (cw_foodwebs_s01_answers_holds.heap_1 w.params) C = true ∧ PySem.W.keepIn (cw_foodwebs_s01_answers_holds.heap_1 w.params) (.ref C) = true ∧ L2.NoAttr (cw_foodwebs_s01_answers_holds.heap_1 w.params) C "calls" ∧ L2.NoAttr (cw_foodwebs_s01_answers_holds.heap_1 w.params) C "place" ∧ (∃ (f : Addr) (fd : FuncData),FwD.MDef (cw_foodwebs_s01_answers_holds.heap_1 w.params) C "__init__" "Reader.__init__" FwD.sRInit ["self","calls"] f fd) ∧ (∃ (f : Addr) (fd : FuncData),FwD.MDef (cw_foodwebs_s01_answers_holds.heap_1 w.params) C "has_more" "Reader.has_more" FwD.sMoreM ["self"] f fd) ∧ (∃ (f : Addr) (fd : FuncData),FwD.MDef (cw_foodwebs_s01_answers_holds.heap_1 w.params) C "next_number" "Reader.next_number" FwD.sNextN ["self"] f fd) ∧ (∃ (f : Addr) (fd : FuncData),FwD.MDef (cw_foodwebs_s01_answers_holds.heap_1 w.params) C "next_row" "Reader.next_row" FwD.sNextR ["self"] f fd):=by
      refine' FwD.readE KX G ?a ?pg ?hd ?po ?sa ?mk ?kc ?n1 ?n2 ?a_ri ?i_ri ?l_ri ?c_ri ?k_ri ?a_hm ?i_hm ?l_hm ?c_hm ?k_hm ?a_nn ?i_nn ?l_nn ?c_nn ?k_nn ?a_nr ?i_nr ?l_nr ?c_nr ?k_nr
      (case a=>k_is); (case pg=>k_is); (case hd=>k_is); (case po=>k_is); (case sa=>k_is); (case mk=>k_is); (case kc=>k_is); (case n1=>k_is); (case n2=>k_is); (case a_ri=>k_is); (case i_ri=>k_is); (case l_ri=>k_is); (case c_ri=>k_is); (case k_ri=>k_is); (case a_hm=>k_is); (case i_hm=>k_is); (case l_hm=>k_is); (case c_hm=>k_is); (case k_hm=>k_is); (case a_nn=>k_is); (case i_nn=>k_is); (case l_nn=>k_is); (case c_nn=>k_is); (case k_nn=>k_is); (case a_nr=>k_is); (case i_nr=>k_is); (case l_nr=>k_is); (case c_nr=>k_is); (case k_nr=>k_is)
    obtain ⟨d0,l0,D0,m0,k0,e0⟩ : ∃ (d : Addr) (l0 : List (Int × Tok × Addr)),L2.KDict (cw_foodwebs_s01_answers_holds.heap_1 w.params) d l0 ∧ mg "ON_NO_NUMBER" = some (.ref d) ∧ l0.map (·.1) = [1,9,14] ∧ ∀ c f,(c,f) ∈ l0.map (fun x=>(x.1,x.2.2)) → (c = 1 ∧ mg "told" = some (.ref f)) ∨ (c = 9 ∧ mg "levels" = some (.ref f)) ∨ (c = 14 ∧ mg "order" = some (.ref f)):=by
      refine' FwD.tabE0 KX G ?a ?l ?s ?e0 ?e1 ?e2
      (case a=>k_is); (case l=>k_is); (case s=>rfl); (case e0=>k_is); (case e1=>k_is); (case e2=>k_is)
    obtain ⟨d1,l1,D1,m1,k1,e1⟩ : ∃ (d : Addr) (l0 : List (Int × Tok × Addr)),L2.KDict (cw_foodwebs_s01_answers_holds.heap_1 w.params) d l0 ∧ mg "ON_ONE_NUMBER" = some (.ref d) ∧ l0.map (·.1) = [3,4,5,6,7,8,10,11,12,13,15] ∧ ∀ c f,(c,f) ∈ l0.map (fun x=>(x.1,x.2.2)) → (c = 3 ∧ mg "falls" = some (.ref f)) ∨ (c = 4 ∧ mg "needed" = some (.ref f)) ∨ (c = 5 ∧ mg "nearest" = some (.ref f)) ∨ (c = 6 ∧ mg "least" = some (.ref f)) ∨ (c = 7 ∧ mg "ways" = some (.ref f)) ∨ (c = 8 ∧ mg "worst" = some (.ref f)) ∨ (c = 10 ∧ mg "through" = some (.ref f)) ∨ (c = 11 ∧ mg "chains" = some (.ref f)) ∨ (c = 12 ∧ mg "shortest" = some (.ref f)) ∨ (c = 13 ∧ mg "together" = some (.ref f)) ∨ (c = 15 ∧ mg "remove" = some (.ref f)):=by
      refine' FwD.tabE1 KX G ?a ?l ?s ?e0 ?e1 ?e2 ?e3 ?e4 ?e5 ?e6 ?e7 ?e8 ?e9 ?e10
      (case a=>k_is); (case l=>k_is); (case s=>rfl); (case e0=>k_is); (case e1=>k_is); (case e2=>k_is); (case e3=>k_is); (case e4=>k_is); (case e5=>k_is); (case e6=>k_is); (case e7=>k_is); (case e8=>k_is); (case e9=>k_is); (case e10=>k_is)
    have n_len : mg "len" = none:=PySem.W.mg_none_of KX G (by k_is)
    have n_range : mg "range" = none:=PySem.W.mg_none_of KX G (by k_is)
    have n_sorted : mg "sorted" = none:=PySem.W.mg_none_of KX G (by k_is)
    have n_all : mg "all" = none:=PySem.W.mg_none_of KX G (by k_is)
    have n_list : mg "list" = none:=PySem.W.mg_none_of KX G (by k_is)
    have n_sum : mg "sum" = none:=PySem.W.mg_none_of KX G (by k_is)
    have i_sun : ∃ t,mg "SUN" = some (.int (0) t):=by
      refine' FwD.intE KX G ?a
      (case a=>k_is)
    have i_mKinds : ∃ t,mg "MOST_KINDS" = some (.int (10) t):=by
      refine' FwD.intE KX G ?a
      (case a=>k_is)
    have i_mLinks : ∃ t,mg "MOST_LINK_NUMBERS" = some (.int (300) t):=by
      refine' FwD.intE KX G ?a
      (case a=>k_is)
    have i_mWeight : ∃ t,mg "MOST_WEIGHT" = some (.int (1000) t):=by
      refine' FwD.intE KX G ?a
      (case a=>k_is)
    have i_lChain : ∃ t,mg "LONGEST_CHAIN" = some (.int (60) t):=by
      refine' FwD.intE KX G ?a
      (case a=>k_is)
    have i_cWeb : ∃ t,mg "WEB" = some (.int (0) t):=by
      refine' FwD.intE KX G ?a
      (case a=>k_is)
    have i_cAlive : ∃ t,mg "ALIVE" = some (.int (2) t):=by
      refine' FwD.intE KX G ?a
      (case a=>k_is)
    have i_cWeight : ∃ t,mg "WEIGHT" = some (.int (16) t):=by
      refine' FwD.intE KX G ?a
      (case a=>k_is)
    have i_r0 : ∃ t,mg "NOT_REFUSED" = some (.int (0) t):=by
      refine' FwD.intE KX G ?a
      (case a=>k_is)
    have i_r1 : ∃ t,mg "NOT_IN_RANGE" = some (.int (-1) t):=by
      refine' FwD.intE KX G ?a
      (case a=>k_is)
    have i_r5 : ∃ t,mg "DOES_NOT_LIVE" = some (.int (-5) t):=by
      refine' FwD.intE KX G ?a
      (case a=>k_is)
    have i_r6 : ∃ t,mg "EATS_OF_SUN" = some (.int (-6) t):=by
      refine' FwD.intE KX G ?a
      (case a=>k_is)
    have i_r7 : ∃ t,mg "NOT_ALL_LIVE" = some (.int (-7) t):=by
      refine' FwD.intE KX G ?a
      (case a=>k_is)
    have i_r8 : ∃ t,mg "LAST_KIND" = some (.int (-8) t):=by
      refine' FwD.intE KX G ?a
      (case a=>k_is)
    have i_r9 : ∃ t,mg "FOOD_IS_EATER" = some (.int (-9) t):=by
      refine' FwD.intE KX G ?a
      (case a=>k_is)
    have T : FwD.Txt (cw_foodwebs_s01_answers_holds.heap_1 w.params) mg CP CR:=⟨n_len,n_range,n_sorted,n_all,n_list,n_sum,i_sun,i_mKinds,i_mLinks,i_mWeight,i_lChain,i_cWeb,i_cAlive,i_cWeight,i_r0,i_r1,i_r5,i_r6,i_r7,i_r8,i_r9,cl_CP,no1_CP,no2_CP,cl_CR,no1_CR,no2_CR⟩
    have q:=hmg.symm.trans d_answers.mgf
    cases q
    exact ⟨fd_answers,b_answers,fun base _ _=>FwD.assemble T m_CP mk_CP kc_CP m_CR mk_CR kc_CR d_without_place d_cleared d_lowest_terms d_solved d_reached d_living d_needs d_one_longer d_smallest_cut d_eaters_by_food d_kinds_of d_foods_of d_total_weight d_equation d_one_link_more d_chains_of_no_link d_listable d_counted d_is_kind d_refusal_unless_living d_refusal_unless_fed_by_kinds d_all_live d_is_link d_weights_of d_web d_told d_alive d_falls d_needed d_nearest d_least d_ways d_worst d_levels d_through d_chains d_shortest d_together d_order d_called_without d_remove d_weigh d_answer_next d_answers d_pi d_ri d_hm d_nn d_nr D0 m0 k0 e0 D1 m1 k1 e1 base⟩
  case S =>
    intro K H xs a hO hwi hask hx
    cases hx with
    | cons h1 h2 =>
      cases h2
      cases h1 with
      | lst hs ha =>
        have e:=L2.ints_dw a.1 _ ha
        subst e
        have q : ((Codec.inLen 0 16000 a.1 && a.1.all (Codec.inInt (-9223372036854775808) 9223372036854775807)) && true) = true:=hwi
        rw [Bool.and_eq_true,Bool.and_eq_true] at q
        exact ⟨_,a.1,rfl,FwD.calls_of hO hs,hask,(Codec.inNat_iff.mp q.1.1).2,fun H' p hp=>.lst (L2.SqL.of hp) (L2.dw_ints _)⟩
