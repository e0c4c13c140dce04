import PyProof.Rows.All
import Wide.All
import OpenK.AllK
import Wide.FinOn
import Lean
import PyProof.EqAt
import PyProof.EqKinds
import PyProof.TupleCall
import PySem.Challenge.RW_drawback_k14_dealings_judged
set_option Elab.async false
set_option linter.all false
set_option maxRecDepth 100000
namespace L2
open PySem PySem.Spec PyProof.Rows
abbrev Key:=Sum Int Str
def keyIs : Key→Value→Bool
  | .inl k,v=>Value.isInt k v
  | .inr x,v=>Value.isStrOf x v
def keyH (w : World) : Key→Int
  | .inl k=>hashInt k
  | .inr x=>hashStr w x
theorem keyIs_shape : ∀ {k : Key} {v : Value},keyIs k v=true→(∃ i t,k=Sum.inl i∧v=Value.int i t)∨(∃ x t,k=Sum.inr x∧v=Value.str x t)
  | .inl i,v,h=>by
    obtain ⟨t,e⟩:=Value.isInt_shape (k:=i) (v:=v) h
    exact .inl ⟨i,t,rfl,e⟩
  | .inr x,v,h=>by
    obtain ⟨t,e⟩:=Value.isStrOf_shape (x:=x) (v:=v) h
    exact .inr ⟨x,t,rfl,e⟩
theorem keyIs_int (i : Int) (t : Tok) : keyIs (.inl i) (.int i t)=true:=by simp [keyIs,Value.isInt]
theorem keyIs_str (x : Str) (t : Tok) : keyIs (.inr x) (.str x t)=true:=by simp [keyIs,Value.isStrOf]
theorem key_ll (a b : Int) : decide ((Sum.inl a : Key)=Sum.inl b)=(a == b):=by
  by_cases e : a=b
  · subst e; simp
  · have h : ¬ (Sum.inl a : Key)=Sum.inl b:=fun q=>e (Sum.inl.inj q)
    rw [decide_eq_false h]
    exact (beq_eq_false_iff_ne.mpr e).symm
theorem key_rr (a b : Str) : decide ((Sum.inr a : Key)=Sum.inr b)=decide (a=b):=by
  by_cases e : a=b
  · subst e; simp
  · have h : ¬ (Sum.inr a : Key)=Sum.inr b:=fun q=>e (Sum.inr.inj q)
    rw [decide_eq_false h,decide_eq_false e]
theorem key_lr (a : Int) (b : Str) : decide ((Sum.inl a : Key)=Sum.inr b)=false:=decide_eq_false (fun q=>nomatch q)
theorem key_rl (a : Str) (b : Int) : decide ((Sum.inr a : Key)=Sum.inl b)=false:=decide_eq_false (fun q=>nomatch q)
def mixKind (prog : Program) (w : World) : PySem.KeyKind prog w Key where
  is:=keyIs
  hash:=keyH w
  inj:=fun v a b ha hb=>by
    rcases keyIs_shape ha with ⟨i,t,rfl,rfl⟩ | ⟨x,t,rfl,rfl⟩
    · rcases keyIs_shape hb with ⟨j,u,rfl,e⟩ | ⟨y,u,rfl,e⟩
      · injection e with e1 _; rw [e1]
      · exact nomatch e
    · rcases keyIs_shape hb with ⟨j,u,rfl,e⟩ | ⟨y,u,rfl,e⟩
      · exact nomatch e
      · injection e with e1 _; rw [e1]
  byValue:=fun k v h=>by
    rcases keyIs_shape h with ⟨i,t,rfl,rfl⟩ | ⟨x,t,rfl,rfl⟩ <;> rfl
  pyHash:=fun hv h=>by
    rcases keyIs_shape hv with ⟨i,t,rfl,rfl⟩ | ⟨x,t,rfl,rfl⟩
    · exact wpAny_pyHash_int h
    · exact wpAny_pyHash_str h
  eqBool:=fun hu hv h=>by
    rcases keyIs_shape hu with ⟨i,t,rfl,rfl⟩ | ⟨x,t,rfl,rfl⟩
    · rcases keyIs_shape hv with ⟨j,u,rfl,rfl⟩ | ⟨y,u,rfl,rfl⟩
      · rw [key_ll] at h; exact wpAny_eqBool_int h
      · rw [key_lr] at h; exact SeqAt.EqAt.int_str i t y u _ _ _ _ h
    · rcases keyIs_shape hv with ⟨j,u,rfl,rfl⟩ | ⟨y,u,rfl,rfl⟩
      · rw [key_rl] at h; exact SeqAt.EqAt.str_int x t j u _ _ _ _ h
      · rw [key_rr] at h; exact wpAny_eqBool_str h
  «strs»:=fun k x t v h=>by
    rcases keyIs_shape h with ⟨i,u,rfl,e⟩ | ⟨y,u,rfl,e⟩
    · exact nomatch e
    · injection e with e1 _
      subst e1
      cases v <;> rfl
theorem mixKind_int (prog : Program) (w : World) (i : Int) (t : Tok) : (mixKind prog w).is (.inl i) (.int i t)=true:=keyIs_int i t
theorem mixKind_str (prog : Program) (w : World) (x : Str) (t : Tok) : (mixKind prog w).is (.inr x) (.str x t)=true:=keyIs_str x t
end L2
namespace L2
open PySem PySem.Spec PyProof.Rows
inductive V where
  | non | bl (b : Bool) | int (i : Int) | str (x : Str) | byt (b : Array UInt8) | flt (b : UInt64) | ref (a : Addr) | ty (n : String)
  deriving DecidableEq
def RelV : V→Value→Prop
  | .non,u=>u=Value.none
  | .bl b,u=>u=Value.bool b
  | .int i,u=>∃ t,u=Value.int i t
  | .str x,u=>∃ t,u=Value.str x t
  | .byt b,u=>∃ t,u=Value.bytes b t
  | .flt b,u=>∃ t,u=Value.float b t
  | .ref a,u=>u=Value.ref a
  | .ty n,u=>u=Value.type n
abbrev Vals : List V→List Value→Prop:=Paired RelV
theorem Vals.length {xs : List V} {us : List Value} (r : Vals xs us) : xs.length=us.length:=Paired.length r
theorem Vals.get : ∀ {xs : List V} {us : List Value} {i : Nat} {x : V},Vals xs us→xs[i]? = some x→∃ u,us[i]? = some u∧RelV x u
  | _,_,_,_,.nil,e=>by simp at e
  | _,_,0,_,.cons r _,e=>by simp at e; subst e; exact ⟨_,rfl,r⟩
  | _,_,i + 1,x,.cons _ t,e=>by
    obtain ⟨u,h1,h2⟩:=Vals.get (i:=i) (x:=x) t (by simpa using e)
    exact ⟨u,by simpa using h1,h2⟩
theorem Vals.set {x : V} {u : Value} (r : RelV x u) : ∀ {xs : List V} {us : List Value} (i : Nat),Vals xs us→Vals (xs.set i x) (us.set i u)
  | _,_,_,.nil=>.nil
  | _,_,0,.cons _ t=>.cons r t
  | _,_,i + 1,.cons q t=>.cons q (Vals.set r i t)
theorem Vals.append : ∀ {xs ys : List V} {us ws : List Value},Vals xs us→Vals ys ws→Vals (xs ++ ys) (us ++ ws)
  | _,_,_,_,.nil,s=>s
  | _,_,_,_,.cons r t,s=>.cons r (Vals.append t s)
theorem Vals.take : ∀ {xs : List V} {us : List Value} (n : Nat),Vals xs us→Vals (xs.take n) (us.take n)
  | _,_,0,_=>.nil
  | _,_,_ + 1,.nil=>.nil
  | _,_,n + 1,.cons r t=>.cons r (Vals.take n t)
theorem Vals.drop : ∀ {xs : List V} {us : List Value} (n : Nat),Vals xs us→Vals (xs.drop n) (us.drop n)
  | _,_,0,r=>r
  | _,_,_ + 1,.nil=>.nil
  | _,_,n + 1,.cons _ t=>Vals.drop n t
def RelO : Option V→Option Value→Prop
  | some v,some u=>RelV v u
  | none,none=>True
  | _,_=>False
def KV {κ : Type} : List (κ×V)→List (κ×Value)→Prop:=Paired fun (p : κ×V) (q : κ×Value)=>p.1=q.1∧RelV p.2 q.2
def kV : Key→V
  | .inl i=>.int i
  | .inr x=>.str x
inductive HO where
  | lst (xs : List V)
  | tup (xs : List V)
  | dK (kvs : List (Key×V)) | dT (kvs : List (List Key×V))
  | set (S : Int→Bool) (n : Nat)
  | ins (C dx : Addr) (fs : List (Str×V))
  | own (x : Addr)
  | xd (fs : List (Str×V))
  | met (f x : Addr)
  | rng (lo hi : Int)
  | frz (o : Obj) (u : HO)
  | tbl (ps : Array Value)
  | ext (φ : Heap→Prop)
  | cod (q : Str) (pos : Pos)
abbrev Hp:=Addr→Option HO
def upd (H : Hp) (a : Addr) (o : HO) : Hp:=fun b=>if b=a then some o else H b
theorem upd_same {H : Hp} {a : Addr} {o : HO} : upd H a o a=some o:=by unfold upd; rw [if_pos rfl]
theorem upd_ne {H : Hp} {a b : Addr} {o : HO} (h : b≠a) : upd H a o b=H b:=by unfold upd; rw [if_neg h]
theorem upd_upd {H : Hp} {a : Addr} {o u : HO} : upd (upd H a o) a u=upd H a u:=by
  funext b; unfold upd; split <;> rfl
theorem ne_of {H : Hp} {a b : Addr} {o u : HO} (h : H a=some o) (h' : H b=some u) (d : o≠u) : a≠b:=by
  intro e; subst e; rw [h] at h'; exact d (Option.some.inj h')
theorem ne_of_none {H : Hp} {a b : Addr} {o : HO} (h : H a=some o) (h' : H b=none) : a≠b:=by
  intro e; subst e; rw [h] at h'; cases h'
section
variable (P : Program) (w : World)
def ObjOk (H : Hp) (h : Heap) (a : Addr) : HO→Prop
  | .lst xs=>xs.length≤sizeLine∧∃ (its : List Value) (n : Nat),Vals xs its∧h.get? a=some { cls:=.type "list",data:=.seq its.toArray n }
  | .tup xs=>xs.length≤sizeLine∧∃ its : List Value,Vals xs its∧IsTup h a its.toArray
  | .dK kvs=>kvs.length≤sizeLine∧(a == sysModules)=false∧∃ vs,KV kvs vs∧h.DictOf (mixKind P w) a vs
  | .dT kvs=>kvs.length≤sizeLine∧(a == sysModules)=false∧∃ xs : List (List Key×Addr×Value),
      Paired (fun (p : List Key×V) (q : List Key×Addr×Value)=>p.1=q.1∧H q.2.1=some (.tup (p.1.map kV))∧RelV p.2 q.2.2) kvs xs∧
      ∃ o es ep,h.get? a=some o∧o.ExactDict∧o.data = .dict es ep∧es.toList=xs.map (entryOfKey (tupleKind (mixKind P w)))∧(xs.map (·.1)).Nodup
  | .set S n=>h.SetOf (intKind P w) a S n
  | .ins C dx fs=>H dx=some (.own a)∧fs.length≤1000∧dx≠a∧h.get? a=some (PySem.W.instObj C dx)∧
      ∃ mA,h.Ns1 dx mA∧(∀ f,RelO (fs.lookup f) (mA f))∧PySem.Within mA (fs.map (·.1))
  | .own _=>∃ o,h.get? a=some o
  | .xd fs=>∃ mA,h.Ns1 a mA∧∀ f,RelO (fs.lookup f) (mA f)
  | .rng lo hi=>∃ t u v,h.get? a=some { cls:=.type "range",data:=.fields #[.int lo t,.int hi u,.int 1 v] }
  | .frz o u=>h.get? a=some o∧ObjOk H h a u
  | .tbl ps=>h.get? a=some { cls:=.none,data:=.fields ps }
  | .met f x=>h.get? a=some (PySem.W.methodObj (.ref f) (.ref x))
  | .ext φ=>φ h∧(∃ o,h.get? a=some o)∧∀ h1 h2 : Heap,φ h1→(∀ o,h1.get? a=some o→h2.get? a=some o)→φ h2
  | .cod q pos=>h.get? a=some { cls:=.none,data:=.fields #[] }∨∃ c,h.get? a=some { cls:=.none,data:=.fields #[rawInt pos.line,rawInt pos.col,.ref c] }∧H c=some (.own a)∧h.CodeRec (.ref c) q
def HOk (H : Hp) (h : Heap) : Prop:=∀ a o,H a=some o→ObjOk P w H h a o
end
section
variable {P : Program} {w : World} {H H' : Hp} {h h' : Heap} {a : Addr} {o : HO}
theorem ObjOk.lt (x : ObjOk P w H h a o) : a < h.objs.size:=by
  cases o with
  | lst xs=>obtain ⟨_,_,_,_,e⟩:=x; exact Heap.lt_size e
  | tup xs=>obtain ⟨_,_,_,p⟩:=x; exact p.lt
  | dK kvs=>obtain ⟨_,_,_,_,o,_,_,e,_⟩:=x; exact Heap.lt_size e
  | dT kvs=>obtain ⟨_,_,_,_,o,_,_,e,_⟩:=x; exact Heap.lt_size e
  | set S n=>obtain ⟨o,_,_,_,e,_⟩:=x; exact Heap.lt_size e
  | ins C dx fs=>obtain ⟨_,_,_,e,_⟩:=x; exact Heap.lt_size e
  | own y=>obtain ⟨_,e⟩:=x; exact Heap.lt_size e
  | xd fs=>obtain ⟨_,⟨_,_,_,e,_⟩,_⟩:=x; exact Heap.lt_size e
  | rng lo hi=>obtain ⟨_,_,_,e⟩:=x; exact Heap.lt_size e
  | frz ob u=>obtain ⟨e,_⟩:=x; exact Heap.lt_size e
  | tbl ps=>exact Heap.lt_size (show h.get? a=some _ from x)
  | met f y=>exact Heap.lt_size (show h.get? a=some _ from x)
  | ext φ=>obtain ⟨_,⟨_,e⟩,_⟩:=x; exact Heap.lt_size e
  | cod q pos=>rcases x with e | ⟨_,e,_⟩ <;> exact Heap.lt_size e
theorem Paired.mapP {α β : Type} {F G : α→β→Prop} : ∀ {l₁ : List α} {l₂ : List β},Paired F l₁ l₂→(∀ a b,F a b→G a b)→Paired G l₁ l₂
  | _,_,.nil,_=>.nil
  | _,_,.cons r t,f=>.cons (f _ _ r) (Paired.mapP t f)
theorem ObjOk.stay (x : ObjOk P w H h a o) (k : ∀ b u,(b=a∨H b=some (.own a))→h.get? b=some u→h'.get? b=some u)
    (ho : ∀ b,H b=some (.own a)→H' b=some (.own a)) (ht : ∀ b xs,H b=some (.tup xs)→H' b=some (.tup xs)) : ObjOk P w H' h' a o:=by
  induction o with
  | lst xs=>obtain ⟨z,its,n,r,e⟩:=x; exact ⟨z,its,n,r,k _ _ (.inl rfl) e⟩
  | tup xs=>obtain ⟨z,its,r,ob,e,c⟩:=x; exact ⟨z,its,r,ob,k _ _ (.inl rfl) e,c⟩
  | dK kvs=>obtain ⟨z,y,vs,r,ob,es,ep,e,c⟩:=x; exact ⟨z,y,vs,r,ob,es,ep,k _ _ (.inl rfl) e,c⟩
  | dT kvs=>
    obtain ⟨z,y,xs,r,ob,es,ep,e,c⟩:=x
    exact ⟨z,y,xs,Paired.mapP r fun p q z=>⟨z.1,ht _ _ z.2.1,z.2.2⟩,ob,es,ep,k _ _ (.inl rfl) e,c⟩
  | set S n=>obtain ⟨ob,es,ep,t,e,c⟩:=x; exact ⟨ob,es,ep,t,k _ _ (.inl rfl) e,c⟩
  | ins C dx fs=>
    obtain ⟨d,z,ne,e,mA,⟨od,es,ep,e2,c⟩,r⟩:=x
    exact ⟨ho _ d,z,ne,k _ _ (.inl rfl) e,mA,⟨od,es,ep,k _ _ (.inr d) e2,c⟩,r⟩
  | own y=>obtain ⟨ob,e⟩:=x; exact ⟨ob,k _ _ (.inl rfl) e⟩
  | xd fs=>obtain ⟨mA,⟨od,es,ep,e,c⟩,r⟩:=x; exact ⟨mA,⟨od,es,ep,k _ _ (.inl rfl) e,c⟩,r⟩
  | rng lo hi=>obtain ⟨t,u,v,e⟩:=x; exact ⟨t,u,v,k _ _ (.inl rfl) e⟩
  | frz ob u ih=>obtain ⟨e,q⟩:=x; exact ⟨k _ _ (.inl rfl) e,ih q⟩
  | tbl ps=>
    have e : h.get? a=some { cls:=.none,data:=.fields ps }:=x
    show h'.get? a=some { cls:=.none,data:=.fields ps }
    exact k a _ (.inl rfl) e
  | met f y=>
    have e : h.get? a=some (PySem.W.methodObj (.ref f) (.ref y)):=x
    show h'.get? a=some (PySem.W.methodObj (.ref f) (.ref y))
    exact k a _ (.inl rfl) e
  | ext φ=>obtain ⟨p,⟨o,e⟩,st⟩:=x; exact ⟨st _ _ p fun o q=>k _ _ (.inl rfl) q,⟨o,k _ _ (.inl rfl) e⟩,st⟩
  | cod q pos=>
    rcases x with e | ⟨c,e,hw,c2,oc,vs,t,e1,e2,r⟩
    · exact .inl (k _ _ (.inl rfl) e)
    · cases e1
      exact .inr ⟨c,k _ _ (.inl rfl) e,ho _ hw,c,oc,vs,t,rfl,k _ _ (.inr hw) e2,r⟩
theorem HOk.lt (x : HOk P w H h) (e : H a=some o) : a < h.objs.size:=(x a o e).lt
theorem HOk.fresh (x : HOk P w H h) (e : h.objs.size≤a) : H a=none:=by
  cases q : H a with
  | none=>rfl
  | some u=>exact absurd (Nat.lt_of_lt_of_le (x.lt q) e) (Nat.lt_irrefl _)
theorem HOk.kept (x : HOk P w H h) (k : ∀ b u,h.get? b=some u→h'.get? b=some u) : HOk P w H h':=fun a o e=>
  (x a o e).stay (fun b u _ q=>k b u q) (fun _ q=>q) fun _ _ q=>q
theorem HOk.laid (x : HOk P w H h) (k : ∀ b u,h.get? b=some u→h'.get? b=some u) (hp : h.objs.size≤a) (new : ObjOk P w (upd H a o) h' a o) : HOk P w (upd H a o) h':=fun b u e=>by
  have hn:=x.fresh hp
  by_cases hb : b=a
  · subst hb; rw [upd_same] at e; cases e; exact new
  · rw [upd_ne hb] at e
    exact (x b u e).stay (fun c v _ q=>k c v q) (fun c q=>by rw [upd_ne (ne_of_none q hn)]; exact q) fun c xs q=>by rw [upd_ne (ne_of_none q hn)]; exact q
end
def Rd (H : Hp) (a : Addr) (u : HO) : Prop:=H a=some u∨∃ o,H a=some (.frz o u)
theorem Rd.ok {P : Program} {w : World} {H : Hp} {h : Heap} {a : Addr} {u : HO} (r : Rd H a u) (x : HOk P w H h) : ObjOk P w H h a u:=by
  rcases r with r | ⟨o,r⟩
  · exact x a u r
  · obtain ⟨_,q⟩:=x a _ r
    exact q
def Mut : Option HO→Prop
  | some (.lst _)=>True
  | some (.dK _)=>True
  | some (.dT _)=>True
  | some (.set _ _)=>True
  | some (.ins _ _ _)=>True
  | some (.ext _)=>True
  | _=>False
section
variable {P : Program} {w : World} {H : Hp} {h h' : Heap} {x e : Addr} {o' : HO}
theorem HOk.write (ok : HOk P w H h) (mu : Mut (H x)) (he : e=x∨H e=some (.own x)) (k : ∀ b u,b≠e→h.get? b=some u→h'.get? b=some u) (heo : ∃ u,h'.get? e=some u)
    (new : ObjOk P w (upd H x o') h' x o') : HOk P w (upd H x o') h':=fun b u q=>by
  have nown : ∀ c y,H c=some (.own y)→c≠x:=fun c y r z=>by subst z; rw [r] at mu; exact mu
  have ntup : ∀ c xs,H c=some (.tup xs)→c≠x:=fun c xs r z=>by subst z; rw [r] at mu; exact mu
  by_cases hb : b=x
  · subst hb; rw [upd_same] at q; cases q; exact new
  · rw [upd_ne hb] at q
    by_cases hbe : b=e
    · have q' : H b=some (.own x):=by
        rcases he with z | z
        · exact absurd (hbe.trans z) hb
        · rw [hbe]; exact z
      rw [q] at q'; cases q'
      obtain ⟨v,hv⟩:=heo
      exact ⟨v,by rw [hbe]; exact hv⟩
    · refine (ok b u q).stay (fun c v hc r=>k c v ?_ r) (fun c r=>by rw [upd_ne (nown c b r)]; exact r) fun c xs r=>by rw [upd_ne (ntup c xs r)]; exact r
      rcases hc with rfl | hc
      · exact hbe
      · rintro rfl
        rcases he with z | z
        · exact nown c b hc z
        · rw [hc] at z; cases z; exact hb rfl
end
structure Un (fs ex : List Addr) (H H' : Hp) (h h' : Heap) : Prop where
  keep : ∀ b o,h.get? b=some o→H b=none→b ∉ fs→b ∉ ex→h'.get? b=some o
  slot : ∀ b o,h.get? b=some o→H b=none→b∈fs→b ∉ ex→∃ sl,h'.get? b=some { o with slots:=sl }
  free : ∀ b o,h.get? b=some o→H b=none→b ∉ ex→H' b=none
  there : ∀ b o,h.get? b=some o→b ∉ ex→∃ o',h'.get? b=some o'
  tups : ∀ b xs,H b=some (.tup xs)→H' b=some (.tup xs)
  frzs : ∀ b o u,H b=some (.frz o u)→H' b=some (.frz o u)
  tbls : ∀ b ps,H b=some (.tbl ps)→∃ more,H' b=some (.tbl (ps ++ more))
section
variable {fs fs' ex ex' : List Addr} {H H1 H2 : Hp} {h h1 h2 h' : Heap} {a x e : Addr} {o : HO}
theorem Un.any (u : Un fs ex H H1 h h1) {b : Addr} {ob : Obj} (q : h.get? b=some ob) (n : H b=none) (hx : b ∉ ex) : ∃ sl,h1.get? b=some { ob with slots:=sl }:=by
  by_cases hb : b∈fs
  · exact u.slot b ob q n hb hx
  · exact ⟨ob.slots,u.keep b ob q n hb hx⟩
theorem Un.kept (k : ∀ b u,h.get? b=some u→h'.get? b=some u) : Un fs ex H H h h':=
  ⟨fun b ob q _ _ _=>k b ob q,fun b ob q _ _ _=>⟨ob.slots,k b ob q⟩,fun _ _ _ n _=>n,fun b ob q _=>⟨ob,k b ob q⟩,fun _ _ q=>q,fun _ _ _ q=>q,fun _ ps q=>⟨#[],by rw [q]; simp⟩⟩
theorem Un.refl : Un fs ex H H h h:=Un.kept fun _ _ q=>q
theorem Un.laid (k : ∀ b u,h.get? b=some u→h'.get? b=some u) (hp : h.objs.size≤a) (hn : H a=none) : Un fs ex H (upd H a o) h h' where
  keep:=fun b u q _ _ _=>k b u q
  slot:=fun b u q _ _ _=>⟨u.slots,k b u q⟩
  free:=fun b u q n _=>by rw [upd_ne (Nat.ne_of_lt (Nat.lt_of_lt_of_le (Heap.lt_size q) hp))]; exact n
  there:=fun b u q _=>⟨u,k b u q⟩
  tups:=fun b xs q=>by rw [upd_ne (ne_of_none q hn)]; exact q
  frzs:=fun b u xs q=>by rw [upd_ne (ne_of_none q hn)]; exact q
  tbls:=fun b ps q=>⟨#[],by rw [upd_ne (ne_of_none q hn),q]; simp⟩
theorem Un.write (mu : Mut (H x)) (he : e=x∨H e=some (.own x)) (k : ∀ b u,b≠e→h.get? b=some u→h'.get? b=some u) (heo : ∃ u,h'.get? e=some u) : Un fs ex H (upd H x o) h h':=by
  have hx : ∀ b,H b=none→b≠x:=fun b n z=>by subst z; rw [n] at mu; exact mu
  have hb : ∀ b,H b=none→b≠e:=fun b n z=>by
    subst z
    rcases he with r | r
    · exact hx b n r
    · rw [n] at r; cases r
  have hm : ∀ b u,H b=some u→¬ Mut (some u)→b≠x:=fun b u q nm z=>by subst z; rw [q] at mu; exact nm mu
  refine ⟨fun b u q n _ _=>k b u (hb b n) q,fun b u q n _ _=>⟨u.slots,k b u (hb b n) q⟩,fun b u q n _=>by rw [upd_ne (hx b n)]; exact n,fun b u q _=>?_,
    fun b xs q=>by rw [upd_ne (hm b _ q fun z=>z)]; exact q,fun b u xs q=>by rw [upd_ne (hm b _ q fun z=>z)]; exact q,fun b ps q=>⟨#[],by rw [upd_ne (hm b _ q fun z=>z),q]; simp⟩⟩
  by_cases hbe : b=e
  · subst hbe; exact heo
  · exact ⟨u,k b u hbe q⟩
end
def trk (h : Heap) (H : Hp) : List Addr:=(List.range h.objs.size).filter fun a=>(H a).isSome
def hidT (h : Heap) (H : Hp) : Heap:=PySem.W.hideAll h (trk h H)
theorem hidT_size (h : Heap) (H : Hp) : (hidT h H).objs.size=h.objs.size:=PySem.W.hideAll_size _ _
theorem hidT_get {h : Heap} {H : Hp} {b : Addr} {o : Obj} (e : h.get? b=some o) (n : H b=none) : (hidT h H).get? b=some o:=
  PySem.W.hideAll_get _ e fun hm=>by
    have q : (H b).isSome=true:=(List.mem_filter.mp hm).2
    rw [n] at q; simp at q
theorem of_hidT {h : Heap} {H : Hp} {b : Addr} {o : Obj} (e : (hidT h H).get? b=some o) : h.get? b=some o∧H b=none:=by
  have e' : h.get? b=some o:=PySem.W.of_hideAll (trk h H) e
  refine ⟨e',?_⟩
  cases q : H b with
  | none=>rfl
  | some x=>
    have hm : b∈trk h H:=List.mem_filter.mpr ⟨List.mem_range.mpr (Heap.lt_size e'),by simp [q]⟩
    have z : (hidT h H).get? b=none:=PySem.W.hideAll_none (trk h H) hm
    rw [z] at e; cases e
def allNews (g h : Heap) (L : Addr) : List (Addr×Obj):=(List.range h.objs.size).filterMap fun a=>if a=L∨(g.get? a).isSome=true then none else (h.get? a).map fun o=>(a,o)
def rest (g h : Heap) (L d : Addr) : List (Addr×Obj):=(allNews g h L).filter fun p=>decide (p.1≠d)
end L2
namespace L2
open PySem PySem.Spec PyProof.Rows
structure Mod (K : PySem.W.Frag) (mg : Str→Option Value) (base : Heap) : Prop where
  kin : K.In base
  glob : base.Ns mainGlobals mg
  blt : ∃ mb,base.Ns builtinsNs mb∧∀ x : Str,x ≠ "__name__" → mb x=bootBuiltins x
  nolimit : base.NoLimit
structure Cx where
  prog : Program
  w : World
  K : PySem.W.Frag
  mg : Str→Option Value
  base : Heap
  A : Around
  N : List Str
  s₀ : Shared
  H₀ : Hp
  env : Env
  outer : List Env
  stack : List Env
  ex : List Addr
  fn : Str→Bool
  calm : Bool
  pn : List (Addr×Obj)
  xe : Value→Shared→Prop
def frs (l : List Env) : List Addr:=l.filterMap (·.frame)
abbrev Cx.fs (X : Cx) : List Addr:=frs X.outer
def Vis (sc : Scope) (x : Str) : Prop:=sc.names.lookup x=some .local∨sc.names.lookup x=some .cell∨sc.names.lookup x=some .free
def Loc (sc : Scope) (x : Str) : Prop:=sc.names.lookup x=some .local∨sc.names.lookup x=some .cell
def Look (env : Env) (h : Heap) (m : Str→Option Value) (x : Str) (u : Value) : Prop:=
  (env.kindOf x=some .local∧m x=some u)∨((env.kindOf x=some .cell∨env.kindOf x=some .free)∧∃ c,env.cells.lookup x=some c∧h.IsCell c (some u))
structure Cx.Ok (X : Cx) : Prop where
  mod : Mod X.K X.mg X.base
  kind : X.env.scope.kind = .function
  glob : X.env.globals=mainGlobals
  blt : X.env.builtins=builtinsNs
  above : X.s₀.heap.objs.size≤X.env.locals
  inj : ∀ x y c,X.env.cells.lookup x=some c→X.env.cells.lookup y=some c→x=y
  has : ∀ x,(X.env.kindOf x=some .cell∨X.env.kindOf x=some .free)→∃ c,X.env.cells.lookup x=some c
  cab : ∀ x c,X.fn x=true→X.env.cells.lookup x=some c→X.s₀.heap.objs.size≤c
  hd : X.calm=true→X.A.handled=none
  frames : X.A.frames=some X.stack
  stk : X.stack=X.outer∨(X.stack=X.env :: X.outer∧X.env.frame=some X.env.locals)
  exf : ∀ b∈X.ex,b≠X.env.locals∧∀ x c,X.env.cells.lookup x=some c→c≠b
  bs : ∀ b o,X.base.get? b=some o→X.s₀.heap.get? b=some o∧X.H₀ b=none
  bsz : X.base.objs.size≤X.s₀.heap.objs.size
  noex : ∀ b o,X.base.get? b=some o→b ∉ X.ex
  exfs : ∀ b∈X.ex,b ∉ X.fs
  funs : X.s₀.heap.FunFrames X.base X.outer
  frf : ∀ b∈X.fs,X.H₀ b=none
structure Inv (X : Cx) (pins : List (Addr×Obj)) (σ : List (Option V)) (H : Hp) (s : Shared) : Prop where
  ok : X.Ok
  os : s.os=X.s₀.os
  bare : AllBare s.gens
  base : Un X.fs X.ex X.H₀ H X.s₀.heap s.heap
  loc : ∃ m,s.heap.Ns X.env.locals m∧∀ (i : Nat) (x : Str) (v : V),X.N[i]? = some x→σ[i]? = some (some v)→Vis X.env.scope x→∃ u,RelV v u∧Look X.env s.heap m x u
  cell : ∀ x c,X.env.cells.lookup x=some c→∃ v,s.heap.IsCell c v
  free : H X.env.locals=none
  freeC : ∀ x c,X.env.cells.lookup x=some c→H c=none
  pin : ∀ p∈X.pn ++ pins,s.heap.get? p.1=some p.2∧H p.1=none∧p.1≠X.env.locals∧p.1 ∉ X.fs∧∀ v,p.2.data≠.cell v
  hok : HOk X.prog X.w H s.heap
  len : σ.length=X.N.length
section
variable {X : Cx} {pins : List (Addr×Obj)} {σ : List (Option V)} {H H' : Hp} {s : Shared} {h' : Heap}
theorem Cx.Ok.nofr (ok : X.Ok) {b : Addr} {o : Obj} (e : X.base.get? b=some o) : b ∉ X.fs:=fun hb=>by
  have:=(ok.funs.mem hb).1
  rw [e] at this; cases this
theorem Inv.bs (I : Inv X pins σ H s) : ∀ b o,X.base.get? b=some o→s.heap.get? b=some o∧H b=none:=fun b o e=>
  ⟨I.base.keep b o (I.ok.bs b o e).1 (I.ok.bs b o e).2 (I.ok.nofr e) (I.ok.noex b o e),I.base.free b o (I.ok.bs b o e).1 (I.ok.bs b o e).2 (I.ok.noex b o e)⟩
theorem Inv.bk (I : Inv X pins σ H s) : ∀ b o,X.base.get? b=some o→s.heap.get? b=some o:=fun b o e=>(I.bs b o e).1
theorem Inv.mod (I : Inv X pins σ H s) : Mod X.K X.mg X.base:=I.ok.mod
theorem Inv.kIn (I : Inv X pins σ H s) : X.K.In s.heap:=I.ok.mod.kin.keeps I.bk
theorem Inv.nolimit (I : Inv X pins σ H s) : s.heap.NoLimit:=I.ok.mod.nolimit.keeps I.bk
theorem Inv.lt (I : Inv X pins σ H s) : X.env.locals < s.heap.objs.size:=let ⟨_,hn,_⟩:=I.loc; hn.lt
theorem Inv.sz (I : Inv X pins σ H s) : X.s₀.heap.objs.size≤s.heap.objs.size:=Nat.le_trans I.ok.above (Nat.le_of_lt I.lt)
theorem Inv.nofs (I : Inv X pins σ H s) {a : Addr} (h : s.heap.objs.size≤a) : a ∉ X.fs:=fun hb=>by
  obtain ⟨_,o,ho,_⟩:=I.ok.funs.mem hb
  exact absurd (Nat.lt_of_lt_of_le (Heap.lt_size ho) (Nat.le_trans I.sz h)) (Nat.lt_irrefl _)
theorem Inv.cne (I : Inv X pins σ H s) : ∀ x c,X.env.cells.lookup x=some c→c≠X.env.locals:=fun x c e z=>by
  obtain ⟨v,o,ho,hd⟩:=I.cell x c e
  obtain ⟨m,⟨o',es,ep,ho',hd',_⟩,_⟩:=I.loc
  rw [z,ho'] at ho; cases ho; rw [hd'] at hd; cases hd
theorem Inv.funs (I : Inv X pins σ H s) : s.heap.FunFrames X.base X.outer:=by
  have all : ∀ (l : List Env),(∀ b∈frs l,b∈X.fs)→X.s₀.heap.FunFrames X.base l→s.heap.FunFrames X.base l:=by
    intro l
    induction l with
    | nil=>intro _ _; trivial
    | cons env r ih=>
      intro hs hl
      obtain ⟨hk,⟨L,o,hf,hn,ho,hd⟩,hr⟩:=hl
      have hL : L∈X.fs:=hs L (by unfold frs; rw [List.filterMap_cons,hf]; exact List.mem_cons_self)
      obtain ⟨sl,e⟩:=I.base.slot L o ho (I.ok.frf L hL) hL fun z=>I.ok.exfs L z hL
      exact ⟨hk,⟨L,_,hf,hn,e,hd⟩,ih (fun b hb=>hs b (by unfold frs; rw [List.filterMap_cons,hf]; exact List.mem_cons_of_mem _ hb)) hr⟩
  exact all X.outer (fun _ hb=>hb) I.ok.funs
theorem Inv.stack (I : Inv X pins σ H s) : s.heap.FunFrames X.base X.stack:=by
  rcases I.ok.stk with e | ⟨e,hf⟩
  · rw [e]; exact I.funs
  · rw [e]
    obtain ⟨m,hn,_⟩:=I.loc
    refine .cons (by rw [I.ok.kind]; decide) hf hn ?_ I.funs
    exact Heap.get?_none_of_le (Nat.le_trans I.ok.bsz I.ok.above)
theorem Inv.stkSub (I : Inv X pins σ H s) : ∀ b∈frs X.stack,b∈X.env.locals :: X.fs:=fun b hb=>by
  rcases I.ok.stk with e | ⟨e,hf⟩
  · rw [e] at hb; exact List.mem_cons_of_mem _ hb
  · rw [e] at hb
    unfold frs at hb
    rw [List.filterMap_cons,hf] at hb
    exact hb
theorem Inv.stkFree (I : Inv X pins σ H s) : ∀ b∈frs X.stack,H b=none:=fun b hb=>by
  rcases List.mem_cons.mp (I.stkSub b hb) with e | hb
  · rw [e]; exact I.free
  · obtain ⟨_,o,ho,_⟩:=I.ok.funs.mem hb
    exact I.base.free b o ho (I.ok.frf b hb) fun z=>I.ok.exfs b z hb
theorem Inv.step {g' : Array GenState} {t' : Nat} {d' : Drawn} {ch : List Addr} (I : Inv X pins σ H s)
    (hch : ∀ b∈ch,(b∈X.ex∨X.s₀.heap.objs.size≤b)∧b≠X.env.locals∧(∀ x c,X.env.cells.lookup x=some c→c≠b)∧∀ p∈X.pn ++ pins,p.1≠b)
    (keep : ∀ b o,b≠X.env.locals→b ∉ X.fs→b ∉ ch→s.heap.get? b=some o→H b=none→h'.get? b=some o)
    (slot : ∀ b o,b≠X.env.locals→b∈X.fs→b ∉ ch→s.heap.get? b=some o→H b=none→∃ sl,h'.get? b=some { o with slots:=sl }) (free : ∀ b o,b ∉ ch→s.heap.get? b=some o→H b=none→H' b=none)
    (there : ∀ b o,b ∉ ch→s.heap.get? b=some o→∃ o',h'.get? b=some o')
    (tups : ∀ b xs,H b=some (.tup xs)→H' b=some (.tup xs)) (frzs : ∀ b o u,H b=some (.frz o u)→H' b=some (.frz o u)) (tbls : ∀ b ps,H b=some (.tbl ps)→∃ more,H' b=some (.tbl (ps ++ more)))
    (ns : ∀ m,s.heap.Ns X.env.locals m→h'.Ns X.env.locals m) (hok : HOk X.prog X.w H' h') (hg : AllBare g') :
    Inv X pins σ H' { s with heap:=h',gens:=g',drawn:=d',toks:=t' }:=by
  have neL : ∀ b o,X.s₀.heap.get? b=some o→b≠X.env.locals:=fun b o e=>Nat.ne_of_lt (Nat.lt_of_lt_of_le (Heap.lt_size e) I.ok.above)
  have neC : ∀ b o,X.s₀.heap.get? b=some o→b ∉ X.ex→b ∉ ch:=fun b o e hx hb=>by
    rcases (hch b hb).1 with z | z
    · exact hx z
    · exact absurd (Nat.lt_of_lt_of_le (Heap.lt_size e) z) (Nat.lt_irrefl _)
  have cellK : ∀ x c,X.env.cells.lookup x=some c→∀ v,s.heap.IsCell c v→h'.IsCell c v:=fun x c e v ⟨o,ho,hd⟩=>by
    have nch : c ∉ ch:=fun z=>(hch c z).2.2.1 x c e rfl
    by_cases hc : c∈X.fs
    · obtain ⟨sl,q⟩:=slot c o (I.cne x c e) hc nch ho (I.freeC x c e)
      exact ⟨_,q,hd⟩
    · exact ⟨o,keep c o (I.cne x c e) hc nch ho (I.freeC x c e),hd⟩
  refine ⟨I.ok,I.os,hg,⟨fun b o e n hb hx=>?_,fun b o e n hb hx=>?_,fun b o e n hx=>?_,fun b o e hx=>?_,fun b xs e=>tups b xs (I.base.tups b xs e),fun b o xs e=>frzs b o xs (I.base.frzs b o xs e),fun b ps e=>?_⟩,?_,fun x c e=>?_,?_,fun x c e=>?_,fun p hp=>?_,hok,I.len⟩
  · exact keep b o (neL b o e) hb (neC b o e hx) (I.base.keep b o e n hb hx) (I.base.free b o e n hx)
  · obtain ⟨sl,e1⟩:=I.base.slot b o e n hb hx
    obtain ⟨sl',e2⟩:=slot b _ (neL b o e) hb (neC b o e hx) e1 (I.base.free b o e n hx)
    exact ⟨sl',e2⟩
  · obtain ⟨o',e1⟩:=I.base.there b o e hx
    exact free b o' (neC b o e hx) e1 (I.base.free b o e n hx)
  · obtain ⟨o',e1⟩:=I.base.there b o e hx
    exact there b o' (neC b o e hx) e1
  · obtain ⟨m1,e1⟩:=I.base.tbls b ps e
    obtain ⟨m2,e2⟩:=tbls b _ e1
    exact ⟨m1 ++ m2,by rw [e2,Array.append_assoc]⟩
  · obtain ⟨m,hn,hl⟩:=I.loc
    refine ⟨m,ns m hn,fun i x v e1 e2 e3=>?_⟩
    obtain ⟨u,r,l⟩:=hl i x v e1 e2 e3
    refine ⟨u,r,?_⟩
    rcases l with l | ⟨k,c,e,z⟩
    · exact .inl l
    · exact .inr ⟨k,c,e,cellK x c e _ z⟩
  · obtain ⟨v,z⟩:=I.cell x c e
    exact ⟨v,cellK x c e v z⟩
  · obtain ⟨m,⟨o,_,_,ho,_⟩,_⟩:=I.loc
    exact free _ o (fun z=>(hch _ z).2.1 rfl) ho I.free
  · obtain ⟨v,o,ho,hd⟩:=I.cell x c e
    exact free c o (fun z=>(hch c z).2.2.1 x c e rfl) ho (I.freeC x c e)
  · obtain ⟨e,n,ne,nf,d⟩:=I.pin p hp
    have nch : p.1 ∉ ch:=fun z=>(hch p.1 z).2.2.2 p hp rfl
    exact ⟨keep p.1 p.2 ne nf nch e n,free p.1 p.2 nch e n,ne,nf,d⟩
theorem Inv.un {t' : Nat} (I : Inv X pins σ H s) (u : Un X.fs [] H H' s.heap h') (hok : HOk X.prog X.w H' h') : Inv X pins σ H' { s with heap:=h',toks:=t' }:=by
  obtain ⟨m,⟨o,es,ep,ho,r⟩,_⟩:=id I.loc
  obtain ⟨sl,hL⟩:=u.any ho I.free (by simp)
  exact I.step (g':=s.gens) (d':=s.drawn) (ch:=[]) (fun _ z=>nomatch z) (fun b o _ hb _ e n=>u.keep b o e n hb (by simp)) (fun b o _ hb _ e n=>u.slot b o e n hb (by simp)) (fun b o _ e n=>u.free b o e n (by simp)) (fun b o _ e=>u.there b o e (by simp)) u.tups u.frzs u.tbls (fun m' hm=>by
    obtain ⟨o',es',ep',ho',r'⟩:=hm
    rw [ho] at ho'; cases ho'
    exact ⟨_,es',ep',hL,r'⟩) hok I.bare
theorem Inv.call {g' : Array GenState} {t' : Nat} {d' : Drawn} {ch : List Addr} (I : Inv X pins σ H s) (u : Un (frs X.stack) ch H H' s.heap h') (hok : HOk X.prog X.w H' h') (hg : AllBare g')
    (hch : ∀ b∈ch,(b∈X.ex∨X.s₀.heap.objs.size≤b)∧b≠X.env.locals∧(∀ x c,X.env.cells.lookup x=some c→c≠b)∧∀ p∈X.pn ++ pins,p.1≠b) :
    Inv X pins σ H' { s with heap:=h',gens:=g',drawn:=d',toks:=t' }:=by
  obtain ⟨m,⟨o,es,ep,ho,r⟩,_⟩:=id I.loc
  obtain ⟨sl,hL⟩:=u.any ho I.free fun z=>(hch _ z).2.1 rfl
  exact I.step (ch:=ch) hch (fun b o hL hb hc e n=>u.keep b o e n (fun z=>(List.mem_cons.mp (I.stkSub b z)).elim hL hb) hc) (fun b o _ _ hc e n=>u.any e n hc) (fun b o hc e n=>u.free b o e n hc) (fun b o hc e=>u.there b o e hc) u.tups u.frzs u.tbls (fun m' hm=>by
    obtain ⟨o',es',ep',ho',r'⟩:=hm
    rw [ho] at ho'; cases ho'
    exact ⟨_,es',ep',hL,r'⟩) hok hg
theorem Inv.turned {t' : Nat} {it : Addr} (I : Inv X pins σ H s) (k : ∀ b o,b≠it→s.heap.get? b=some o→h'.get? b=some o) (hn : H it=none) (hL : it≠X.env.locals)
    (h1 : it∈X.ex∨X.s₀.heap.objs.size≤it) (h2 : ∀ x c,X.env.cells.lookup x=some c→c≠it) (h3 : ∀ p∈X.pn ++ pins,p.1≠it) : Inv X pins σ H { s with heap:=h',toks:=t' }:=by
  have nit : ∀ b u,H b=some u→b≠it:=fun b u e z=>by rw [z,hn] at e; cases e
  refine I.step (g':=s.gens) (d':=s.drawn) (ch:=[it]) (fun b hb=>?_) (fun b o _ _ hc e _=>k b o (fun z=>hc (by simp [z])) e) (fun b o _ _ hc e _=>⟨o.slots,k b o (fun z=>hc (by simp [z])) e⟩) (fun _ _ _ _ n=>n)
    (fun b o hc e=>⟨o,k b o (fun z=>hc (by simp [z])) e⟩) (fun _ _ e=>e) (fun _ _ _ e=>e) (fun b ps e=>⟨#[],by rw [e]; simp⟩) (fun m hm=>?_) (fun b u e=>?_) I.bare
  · have e : b=it:=by simpa using hb
    subst e
    exact ⟨h1,hL,h2,h3⟩
  · obtain ⟨o,es,ep,ho,r⟩:=hm
    exact ⟨o,es,ep,k _ o (Ne.symm hL) ho,r⟩
  · refine (I.hok b u e).stay (fun c v hc q=>k c v ?_ q) (fun _ q=>q) fun _ _ q=>q
    rcases hc with z | z
    · rw [z]; exact nit b u e
    · exact nit c _ z
theorem Inv.tok (I : Inv X pins σ H s) (t : Nat) : Inv X pins σ H { s with toks:=t }:=I.un (h':=s.heap) (t':=t) Un.refl I.hok
theorem Inv.kept {t' : Nat} (I : Inv X pins σ H s) (k : ∀ b u,s.heap.get? b=some u→h'.get? b=some u) : Inv X pins σ H { s with heap:=h',toks:=t' }:=I.un (Un.kept k) (I.hok.kept k)
theorem Inv.laid {a : Addr} {o : HO} {t' : Nat} (I : Inv X pins σ H s) (k : ∀ b u,s.heap.get? b=some u→h'.get? b=some u) (hp : s.heap.objs.size≤a) (new : ObjOk X.prog X.w (upd H a o) h' a o) :
    Inv X pins σ (upd H a o) { s with heap:=h',toks:=t' }:=I.un (Un.laid k hp (I.hok.fresh hp)) (I.hok.laid k hp new)
theorem Inv.write {x e : Addr} {o : HO} {t' : Nat} (I : Inv X pins σ H s) (mu : Mut (H x)) (he : e=x∨H e=some (.own x)) (k : ∀ b u,b≠e→s.heap.get? b=some u→h'.get? b=some u) (heo : ∃ u,h'.get? e=some u)
    (new : ObjOk X.prog X.w (upd H x o) h' x o) : Inv X pins σ (upd H x o) { s with heap:=h',toks:=t' }:=I.un (Un.write mu he k heo) (I.hok.write mu he k heo new)
theorem Inv.weak {σ' : List (Option V)} (I : Inv X pins σ H s) (hl : σ'.length=σ.length) (w : ∀ (i : Nat) v,σ'[i]? = some (some v)→σ[i]? = some (some v)) : Inv X pins σ' H s:=
  ⟨I.ok,I.os,I.bare,I.base,let ⟨m,hn,hl'⟩:=I.loc; ⟨m,hn,fun i x v e1 e2 e3=>hl' i x v e1 (w i v e2) e3⟩,I.cell,I.free,I.freeC,I.pin,I.hok,hl.trans I.len⟩
theorem Inv.pins_of {pins' : List (Addr×Obj)} (I : Inv X pins σ H s) (h : ∀ p∈pins',s.heap.get? p.1=some p.2∧H p.1=none∧p.1≠X.env.locals∧p.1 ∉ X.fs∧∀ v,p.2.data≠.cell v) : Inv X pins' σ H s:=
  ⟨I.ok,I.os,I.bare,I.base,I.loc,I.cell,I.free,I.freeC,fun p hp=>(List.mem_append.mp hp).elim (fun z=>I.pin p (List.mem_append_left _ z)) (h p),I.hok,I.len⟩
theorem nodup_ix {N : List Str} (hN : N.Nodup) {i j : Nat} {x : Str} (a : N[i]? = some x) (b : N[j]? = some x) : i=j:=by
  obtain ⟨h1,e1⟩:=List.getElem?_eq_some_iff.mp a
  obtain ⟨h2,e2⟩:=List.getElem?_eq_some_iff.mp b
  exact (List.getElem_inj hN).mp (e1.trans e2.symm)
theorem store_ok2 {M : Model} {A : Around} {E : Value→Shared→Prop} {i : Nat} {x : Str} {v : V} {u : Value} {Q : Unit→Shared→Prop} (I : Inv X pins σ H s) (hN : X.N.Nodup) (hi : X.N[i]? = some x) (hx : Loc X.env.scope x) (r : RelV v u)
    (h : ∀ s',Inv X pins (σ.set i (some v)) H s'→(∃ a,Heap.SameBut a s.heap s'.heap∧(a=X.env.locals∨X.env.cells.lookup x=some a))→Q () s') (hf : X.fn x=true∨X.env.scope.names.lookup x=some .local:=by first | exact .inl rfl | exact .inr rfl | assumption) : wpAny M A (storeName X.env x u) Q E s:=by
  obtain ⟨m,hn,hl⟩:=id I.loc
  have hcls : (X.env.scope.kind == .class || (X.env.scope.kind == .module && X.env.locals != X.env.globals))=false:=by rw [I.ok.kind]; rfl
  have hiσ : i < σ.length:=by rw [I.len]; exact (List.getElem?_eq_some_iff.mp hi).1
  have cne:=I.cne
  have tracked : ∀ {a : Addr} {h' : Heap},(∃ o,s.heap.get? a=some o∧H a=none)→Heap.SameBut a s.heap h'→HOk X.prog X.w H h':=fun {a h'} ha hs b ob e=>by
    obtain ⟨_,_,hfree⟩:=ha
    refine (I.hok b ob e).stay (fun c w' hc q=>(hs.2 c ?_).trans q) (fun _ q=>q) fun _ _ q=>q
    rintro rfl
    rcases hc with rfl | hc
    · rw [hfree] at e; cases e
    · rw [hfree] at hc; cases hc
  rcases hx with hk | hk
  · refine wpAny_storeName_local hk hn (fun h' hn' hs=>?_) hcls
    obtain ⟨oL,_,_,hoL,_⟩:=id hn
    refine h _ ⟨I.ok,I.os,I.bare,⟨fun b o e n hb hx=>?_,fun b o e n hb hx=>?_,I.base.free,fun b o e hx=>?_,I.base.tups,I.base.frzs,I.base.tbls⟩,⟨_,hn',fun j y v' e1 e2 e3=>?_⟩,fun y c e=>?_,I.free,I.freeC,fun p hp=>?_,tracked ⟨oL,hoL,I.free⟩ hs,by simpa using I.len⟩ ⟨_,hs,.inl rfl⟩
    · exact (hs.2 b (Nat.ne_of_lt (Nat.lt_of_lt_of_le (Heap.lt_size e) I.ok.above))).trans (I.base.keep b o e n hb hx)
    · obtain ⟨sl,e1⟩:=I.base.slot b o e n hb hx
      exact ⟨sl,(hs.2 b (Nat.ne_of_lt (Nat.lt_of_lt_of_le (Heap.lt_size e) I.ok.above))).trans e1⟩
    · obtain ⟨o',e1⟩:=I.base.there b o e hx
      exact ⟨o',(hs.2 b (Nat.ne_of_lt (Nat.lt_of_lt_of_le (Heap.lt_size e) I.ok.above))).trans e1⟩
    · by_cases hj : j=i
      · subst hj
        rw [hi] at e1; cases e1
        rw [List.getElem?_set_self hiσ] at e2
        cases e2
        exact ⟨u,r,.inl ⟨hk,by simp⟩⟩
      · rw [List.getElem?_set_ne (Ne.symm hj)] at e2
        obtain ⟨u',r',q⟩:=hl j y v' e1 e2 e3
        refine ⟨u',r',?_⟩
        rcases q with ⟨k,e⟩ | ⟨k,c,e,z⟩
        · refine .inl ⟨k,?_⟩
          have : y≠x:=fun e=>hj (nodup_ix hN e1 (e ▸ hi))
          simp [this,e]
        · exact .inr ⟨k,c,e,z.sameBut hs (cne y c e)⟩
    · obtain ⟨w',z⟩:=I.cell y c e
      exact ⟨w',z.sameBut hs (cne y c e)⟩
    · obtain ⟨e,n,ne,nf,d⟩:=I.pin p hp
      exact ⟨(hs.2 p.1 ne).trans e,n,ne,nf,d⟩
  · have hfn : X.fn x=true:=by
      rcases hf with z | z
      · exact z
      · rw [z] at hk; cases hk
    obtain ⟨c,hc⟩:=I.ok.has x (.inl hk)
    obtain ⟨w',z⟩:=I.cell x c hc
    refine wpAny_storeName_cell I.ok.kind hk hc z (fun h' hc' hs=>?_)
    obtain ⟨oc,hoc,hocd⟩:=id z
    refine h { s with heap:=h' } ⟨I.ok,I.os,I.bare,⟨fun b o e n hb hx=>?_,fun b o e n hb hx=>?_,I.base.free,fun b o e hx=>?_,I.base.tups,I.base.frzs,I.base.tbls⟩,⟨m,hn.sameBut hs (Ne.symm (cne x c hc)),fun j y v' e1 e2 e3=>?_⟩,fun y c' e=>?_,I.free,I.freeC,fun p hp=>?_,tracked ⟨oc,hoc,I.freeC x c hc⟩ hs,by simpa using I.len⟩ ⟨c,hs,.inr hc⟩
    · exact (hs.2 b (Nat.ne_of_lt (Nat.lt_of_lt_of_le (Heap.lt_size e) (I.ok.cab x c hfn hc)))).trans (I.base.keep b o e n hb hx)
    · obtain ⟨sl,e1⟩:=I.base.slot b o e n hb hx
      exact ⟨sl,(hs.2 b (Nat.ne_of_lt (Nat.lt_of_lt_of_le (Heap.lt_size e) (I.ok.cab x c hfn hc)))).trans e1⟩
    · obtain ⟨o',e1⟩:=I.base.there b o e hx
      exact ⟨o',(hs.2 b (Nat.ne_of_lt (Nat.lt_of_lt_of_le (Heap.lt_size e) (I.ok.cab x c hfn hc)))).trans e1⟩
    · by_cases hj : j=i
      · subst hj
        rw [hi] at e1; cases e1
        rw [List.getElem?_set_self hiσ] at e2
        cases e2
        exact ⟨u,r,.inr ⟨.inl hk,c,hc,hc'⟩⟩
      · rw [List.getElem?_set_ne (Ne.symm hj)] at e2
        obtain ⟨u',r',q⟩:=hl j y v' e1 e2 e3
        refine ⟨u',r',?_⟩
        rcases q with q | ⟨k,c',e,z'⟩
        · exact .inl q
        · refine .inr ⟨k,c',e,z'.sameBut hs ?_⟩
          rintro rfl
          exact hj (nodup_ix hN e1 (I.ok.inj _ _ _ e hc ▸ hi))
    · by_cases hcc : c' = c
      · subst hcc; exact ⟨_,hc'⟩
      · obtain ⟨w2,z2⟩:=I.cell y c' e
        exact ⟨w2,z2.sameBut hs hcc⟩
    · obtain ⟨e,n,ne,nf,d⟩:=I.pin p hp
      refine ⟨(hs.2 p.1 ?_).trans e,n,ne,nf,d⟩
      intro q
      rw [q,hoc] at e
      have q' : oc=p.2:=Option.some.inj e
      exact d w' (by rw [← q']; exact hocd)
theorem store_ok {M : Model} {A : Around} {E : Value→Shared→Prop} {i : Nat} {x : Str} {v : V} {u : Value} {Q : Unit→Shared→Prop} (I : Inv X pins σ H s) (hN : X.N.Nodup) (hi : X.N[i]? = some x) (hx : Loc X.env.scope x) (r : RelV v u)
    (h : ∀ s',Inv X pins (σ.set i (some v)) H s'→Q () s') (hf : X.fn x=true∨X.env.scope.names.lookup x=some .local:=by first | exact .inl rfl | exact .inr rfl | assumption) : wpAny M A (storeName X.env x u) Q E s:=
  store_ok2 I hN hi hx r (fun s' I' _=>h s' I') hf
theorem Inv.call' {s' : Shared} {ch : List Addr} (I : Inv X pins σ H s) (ho : s'.os=s.os) (u : Un (frs X.stack) ch H H' s.heap s'.heap) (hok : HOk X.prog X.w H' s'.heap) (hg : AllBare s'.gens)
    (hch : ∀ b∈ch,(b∈X.ex∨X.s₀.heap.objs.size≤b)∧b≠X.env.locals∧(∀ x c,X.env.cells.lookup x=some c→c≠b)∧∀ p∈X.pn ++ pins,p.1≠b) : Inv X pins σ H' s':=by
  obtain ⟨h',g',d',t',o'⟩:=s'
  have e : o' = s.os:=ho
  subst e
  exact I.call (g':=g') (t':=t') (d':=d') u hok hg hch
end
abbrev XK:=Value→Option Addr→Hp→Prop
abbrev St:=List (Option V)
abbrev VK:=V→Hp→Prop
abbrev TE:=St→Hp→VK→Prop
abbrev TT:=St→Hp→(Bool→Hp→Prop)→Prop
abbrev TA:=St→Hp→(List V→Hp→Prop)→Prop
structure Ends where
  nx : St→Hp→Prop
  rt : VK
  bk : St→Hp→Prop:=fun _ _=>False
  ct : St→Hp→Prop:=fun _ _=>False
abbrev TS:=Ends→St→Hp→Prop
def EP (X : Cx) (pins : List (Addr×Obj)) (σ : St) (Q : VK) (u : Value) (s' : Shared) : Prop:=∃ v H',Inv X pins σ H' s'∧RelV v u∧Q v H'
def TP (X : Cx) (pins : List (Addr×Obj)) (σ : St) (Q : Bool→Hp→Prop) (b : Bool) (s' : Shared) : Prop:=∃ H',Inv X pins σ H' s'∧Q b H'
def AP (X : Cx) (pins : List (Addr×Obj)) (σ : St) (Q : List V→Hp→Prop) (us : List Value) (s' : Shared) : Prop:=∃ vs H',Inv X pins σ H' s'∧Vals vs us∧Q vs H'
def SP (X : Cx) (pins : List (Addr×Obj)) (D : Ends) (f : Flow) (s' : Shared) : Prop:=
  match f with
  | .next=>∃ σ' H',Inv X pins σ' H' s'∧D.nx σ' H'
  | .brk=>∃ σ' H',Inv X pins σ' H' s'∧D.bk σ' H'
  | .cont=>∃ σ' H',Inv X pins σ' H' s'∧D.ct σ' H'
  | .ret u=>∃ v σ' H',Inv X pins σ' H' s'∧RelV v u∧D.rt v H'
def PE0 (X : Cx) (e : Expr) (t : TE) : Prop:=
  ∀ (pins : List (Addr×Obj)) (s : Shared) (σ : St) (H : Hp) (Q : VK),Inv X pins σ H s→t σ H Q→wpAny (model X.prog X.w) X.A (eval e X.env) (EP X pins σ Q) X.xe s
structure PE (X : Cx) (e : Expr) (t : TE) : Prop where
  out : PE0 X e t
instance {X : Cx} {e : Expr} {t : TE} : CoeFun (PE X e t) (fun _=>PE0 X e t):=⟨PE.out⟩
def PT0 (X : Cx) (e : Expr) (t : TT) : Prop:=
  ∀ (pins : List (Addr×Obj)) (s : Shared) (σ : St) (H : Hp) (Q : Bool→Hp→Prop),Inv X pins σ H s→t σ H Q→wpAny (model X.prog X.w) X.A (isTrue e X.env (eval e X.env)) (TP X pins σ Q) X.xe s
structure PT (X : Cx) (e : Expr) (t : TT) : Prop where
  out : PT0 X e t
instance {X : Cx} {e : Expr} {t : TT} : CoeFun (PT X e t) (fun _=>PT0 X e t):=⟨PT.out⟩
def PW0 (X : Cx) (e : Expr) (t : TT) : Prop:=
  ∀ (whole : Sem Value) (pins : List (Addr×Obj)) (s : Shared) (σ : St) (H : Hp) (Q : Bool→Hp→Prop),Inv X pins σ H s→t σ H Q→wpAny (model X.prog X.w) X.A (isTrue e X.env whole) (TP X pins σ Q) X.xe s
structure PW (X : Cx) (e : Expr) (t : TT) : Prop where
  out : PW0 X e t
instance {X : Cx} {e : Expr} {t : TT} : CoeFun (PW X e t) (fun _=>PW0 X e t):=⟨PW.out⟩
theorem PW.pt {X : Cx} {e : Expr} {t : TT} (h : PW X e t) : PT X e t:=⟨h _⟩
def PA0 (X : Cx) (es : List Expr) (t : TA) : Prop:=
  ∀ (pos : Pos) (pins : List (Addr×Obj)) (s : Shared) (σ : St) (H : Hp) (Q : List V→Hp→Prop),Inv X pins σ H s→t σ H Q→wpAny (model X.prog X.w) X.A (spliced (backTo pos (starEach es X.env))) (AP X pins σ Q) X.xe s
structure PA (X : Cx) (es : List Expr) (t : TA) : Prop where
  out : PA0 X es t
instance {X : Cx} {es : List Expr} {t : TA} : CoeFun (PA X es t) (fun _=>PA0 X es t):=⟨PA.out⟩
def PS0 (X : Cx) (st : Stmt) (t : TS) : Prop:=
  ∀ (pins : List (Addr×Obj)) (s : Shared) (σ : St) (H : Hp) (D : Ends),Inv X pins σ H s→t D σ H→wpAny (model X.prog X.w) X.A (exec st X.env) (SP X pins D) X.xe s
structure PS (X : Cx) (st : Stmt) (t : TS) : Prop where
  out : PS0 X st t
instance {X : Cx} {st : Stmt} {t : TS} : CoeFun (PS X st t) (fun _=>PS0 X st t):=⟨PS.out⟩
def PSs0 (X : Cx) (st : List Stmt) (t : TS) : Prop:=
  ∀ (pins : List (Addr×Obj)) (s : Shared) (σ : St) (H : Hp) (D : Ends),Inv X pins σ H s→t D σ H→wpAny (model X.prog X.w) X.A (execs st X.env) (SP X pins D) X.xe s
structure PSs (X : Cx) (st : List Stmt) (t : TS) : Prop where
  out : PSs0 X st t
instance {X : Cx} {st : List Stmt} {t : TS} : CoeFun (PSs X st t) (fun _=>PSs0 X st t):=⟨PSs.out⟩
theorem thn {α : Type} {t : Sem α} {Q Q' : α→Shared→Prop} {M : Model} {A : Around} {E : Value→Shared→Prop} {s : Shared} (h : wpAny M A t Q E s) (hQ : ∀ a s,Q a s→Q' a s) : wpAny M A t Q' E s:=wpAny_mono h hQ fun _ _ x=>x
end L2
namespace L2
open PySem PySem.Spec PyProof.Rows
section
variable {X : Cx}
def tVar (i : Nat) : TE:=fun σ H Q=>∃ v,σ[i]? = some (some v)∧Q v H
def tC (v : V) : TE:=fun _ H Q=>Q v H
theorem pe_var {i : Nat} {x : Str} {pos : Pos} (hN : X.N[i]? = some x) (hv : Vis X.env.scope x) (hd : (x == ("__debug__" : Str))=false:=by decide) (hcd : (x == ("__classdict__" : Str))=false:=by decide) : PE X (.Name x pos) (tVar i):=by
  refine ⟨?_⟩
  intro pins s σ H Q I h
  obtain ⟨v,e,h⟩:=h
  obtain ⟨m,hn,hl⟩:=I.loc
  obtain ⟨u,r,l⟩:=hl i x v hN e hv
  have fin : EP X pins σ Q u s:=⟨v,H,I,r,h⟩
  rcases l with ⟨hk,hm⟩ | ⟨hk,c,hc,hcell⟩
  · exact wpAny_Name (wpAny_loadName_local I.ok.kind hk hn hm fin) hd
  · rcases hk with hk | hk
    · exact wpAny_Name (wpAny_loadName_cell I.ok.kind hk hc hcell fin) hd
    · exact wpAny_Name (wpAny_loadName_free I.ok.kind hk hc hcell fin hcd) hd
theorem pe_int {i j pos} : PE X (.Constant (.int i) j pos) (tC (.int i)):=⟨fun _ _ _ H _ I h=>wpAny_Constant_int ⟨.int i,H,I.tok _,⟨_,rfl⟩,h⟩⟩
theorem pe_bl {b j pos} : PE X (.Constant (.bool b) j pos) (tC (.bl b)):=⟨fun _ _ _ H _ I h=>Constant_bool ⟨.bl b,H,I,rfl,h⟩⟩
theorem pe_non {j pos} : PE X (.Constant .none j pos) (tC .non):=⟨fun _ _ _ H _ I h=>Constant_none ⟨.non,H,I,rfl,h⟩⟩
theorem pe_str {x j pos} : PE X (.Constant (.str x) j pos) (tC (.str x)):=⟨fun _ _ _ H _ I h=>Calls.Constant_str ⟨.str x,H,I.tok _,⟨_,rfl⟩,h⟩⟩
def Gl (X : Cx) (x : Str) : Prop:=X.env.kindOf x=some .globalImplicit
theorem ld_glob {E : Value→Shared→Prop} {pins : List (Addr×Obj)} {s : Shared} {σ : St} {H : Hp} {x : Str} {u : Value} {pos : Pos} {Q : Value→Shared→Prop} (I : Inv X pins σ H s) (hg : Gl X x) (hm : X.mg x=some u) (h : Q u s)
    (hd : (x == ("__debug__" : Str))=false:=by decide) : wpAny (model X.prog X.w) X.A (eval (.Name x pos) X.env) Q E s :=
  Calls.Name_function_global I.ok.kind hg (Calls.loadGlobal_global (by rw [I.ok.glob]; exact I.mod.glob.keeps I.bk) hm h) hd
theorem ld_blt {E : Value→Shared→Prop} {pins : List (Addr×Obj)} {s : Shared} {σ : St} {H : Hp} {x : Str} {u : Value} {pos : Pos} {Q : Value→Shared→Prop} (I : Inv X pins σ H s) (hg : Gl X x) (hm : X.mg x=none) (hv : bootBuiltins x=some u) (h : Q u s)
    (hn : x ≠ "__name__" := by decide) (hd : (x == ("__debug__" : Str))=false:=by decide) : wpAny (model X.prog X.w) X.A (eval (.Name x pos) X.env) Q E s:=by
  obtain ⟨mb,h1,h2⟩:=I.mod.blt
  exact Calls.Name_function_global I.ok.kind hg (Calls.loadGlobal_builtin (by rw [I.ok.glob]; exact I.mod.glob.keeps I.bk) hm (by rw [I.ok.blt]; exact h1.keeps I.bk) ((h2 x hn).trans hv) h) hd
theorem pe_glob {x : Str} {v : V} {u : Value} {pos : Pos} (hg : Gl X x) (hm : X.mg x=some u) (r : RelV v u) (hd : (x == ("__debug__" : Str))=false:=by decide) : PE X (.Name x pos) (tC v) :=
  ⟨fun _ _ _ H _ I h=>ld_glob I hg hm ⟨v,H,I,r,h⟩ hd⟩
theorem pe_bltn {x : Str} {v : V} {u : Value} {pos : Pos} (hg : Gl X x) (hm : X.mg x=none) (hv : bootBuiltins x=some u) (r : RelV v u) (hn : x ≠ "__name__" := by decide) (hd : (x == ("__debug__" : Str))=false:=by decide) : PE X (.Name x pos) (tC v) :=
  ⟨fun _ _ _ H _ I h=>ld_blt I hg hm hv ⟨v,H,I,r,h⟩ hn hd⟩
variable {a b : Expr} {ta tb : TE} {pos : Pos}
variable {tA tB' : TT} {rest : List Expr}
def tAnd (t u : TT) : TT:=fun σ H Q=>t σ H fun c H1=>if c=true then u σ H1 Q else Q false H1
def tOr (t u : TT) : TT:=fun σ H Q=>t σ H fun c H1=>if c=true then Q true H1 else u σ H1 Q
def tNot (t : TT) : TT:=fun σ H Q=>t σ H fun c H1=>Q (!c) H1
theorem pw_and1 (ha : PT X a tA) : PW X (.BoolOp .And [a] pos) tA:=by
  refine ⟨?_⟩
  intro wh pins s σ H Q I h
  refine isTrue_and (thn (ha pins s σ H Q I h) fun c s1 e=>?_)
  cases c with
  | true=>exact isTrue_and_nil e
  | false=>exact e
theorem pw_or1 (ha : PT X a tA) : PW X (.BoolOp .Or [a] pos) tA:=by
  refine ⟨?_⟩
  intro wh pins s σ H Q I h
  refine isTrue_or (thn (ha pins s σ H Q I h) fun c s1 e=>?_)
  cases c with
  | false=>exact isTrue_or_nil e
  | true=>exact e
theorem pw_and (ha : PT X a tA) (hb : PW X (.BoolOp .And (b :: rest) pos) tB') : PW X (.BoolOp .And (a :: b :: rest) pos) (tAnd tA tB'):=by
  refine ⟨?_⟩
  intro wh pins s σ H Q I h
  refine isTrue_and (thn (ha pins s σ H _ I h) fun c s1 ⟨H1,I1,q1⟩=>?_)
  cases c with
  | true=>exact hb wh pins s1 σ H1 Q I1 q1
  | false=>exact ⟨H1,I1,q1⟩
theorem pw_or (ha : PT X a tA) (hb : PW X (.BoolOp .Or (b :: rest) pos) tB') : PW X (.BoolOp .Or (a :: b :: rest) pos) (tOr tA tB'):=by
  refine ⟨?_⟩
  intro wh pins s σ H Q I h
  refine isTrue_or (thn (ha pins s σ H _ I h) fun c s1 ⟨H1,I1,q1⟩=>?_)
  cases c with
  | true=>exact ⟨H1,I1,q1⟩
  | false=>exact hb wh pins s1 σ H1 Q I1 q1
theorem pt_not (ha : PT X a tA) : PT X (.UnaryOp .Not a pos) (tNot tA):=by
  refine ⟨?_⟩
  intro pins s σ H Q I h
  exact isTrue_not (ha pins s σ H (fun c H1=>Q (!c) H1) I h)
def tAndV (ta tb : TE) : TE:=fun σ H Q=>ta σ H fun x H1=>∃ c,x = .bl c∧if c=true then tb σ H1 Q else Q (.bl false) H1
theorem pe_one {op} {t : TE} (h : PE X a t) : PE X (.BoolOp op [a] pos) t:=⟨fun pins s σ H Q I hw=>BoolOp_one (h pins s σ H Q I hw)⟩
theorem pe_and (ha : PE X a ta) (hb : PE X (.BoolOp .And (b :: rest) pos) tb) : PE X (.BoolOp .And (a :: b :: rest) pos) (tAndV ta tb):=by
  refine ⟨?_⟩
  intro pins s σ H Q I h
  refine BoolOp_and (thn (ha pins s σ H _ I h) fun v s1 ⟨x,H1,I1,r1,q1⟩=>?_)
  obtain ⟨c,rfl,q1⟩:=q1
  cases r1
  refine wpAny_truthy_bool ?_
  cases c with
  | true=>exact hb pins s1 σ H1 Q I1 q1
  | false=>exact ⟨.bl false,H1,I1,rfl,q1⟩
end
end L2
namespace L2
open PySem PySem.Spec PyProof.Rows
def SqL (K : PySem.W.Frag) (H : Hp) (a : Addr) (xs : List V) : Prop:=
  Rd H a (.lst xs)∨
    ∃ (o : Obj) (its : Array Value) (n : Nat),K.lookup a=some o∧o.cls = .type "list" ∧ o.dict=none∧o.data = .seq its n∧its.size≤sizeLine∧Vals xs its.toList
def SqT (K : PySem.W.Frag) (H : Hp) (a : Addr) (xs : List V) : Prop:=
  Rd H a (.tup xs)∨
    ∃ (o : Obj) (its : Array Value) (n : Nat),K.lookup a=some o∧o.cls = .type "tuple" ∧ o.data = .seq its n∧its.size≤sizeLine∧Vals xs its.toList
def absV : Value→Option V
  | .none=>some .non
  | .bool b=>some (.bl b)
  | .int i _=>some (.int i)
  | .str x _=>some (.str x)
  | .bytes b _=>some (.byt b)
  | .float b _=>some (.flt b)
  | .ref a=>some (.ref a)
  | .type n=>some (.ty n)
  | _=>none
theorem RelV.abs {x : V} {u : Value} (r : RelV x u) : absV u=some x:=by
  cases x with
  | non=>cases r; rfl
  | bl _=>cases r; rfl
  | int _=>obtain ⟨t,rfl⟩:=r; rfl
  | str _=>obtain ⟨t,rfl⟩:=r; rfl
  | byt _=>obtain ⟨t,rfl⟩:=r; rfl
  | flt _=>obtain ⟨t,rfl⟩:=r; rfl
  | ref _=>cases r; rfl
  | ty _=>cases r; rfl
theorem RelV.inj {x y : V} {u : Value} (r : RelV x u) (q : RelV y u) : x=y:=Option.some.inj (r.abs.symm.trans q.abs)
theorem Vals.inj : ∀ {xs ys : List V} {us : List Value},Vals xs us→Vals ys us→xs=ys
  | _,_,_,.nil,.nil=>rfl
  | _,_,_,.cons r t,.cons r' t'=>by rw [r.inj r',Vals.inj t t']
section
variable {X : Cx} {pins : List (Addr×Obj)} {σ : St} {H : Hp} {s : Shared} {a : Addr} {xs ys : List V}
theorem SqL.of {K : PySem.W.Frag} (h : H a=some (.lst xs)) : SqL K H a xs:=.inl (.inl h)
theorem SqT.of {K : PySem.W.Frag} (h : H a=some (.tup xs)) : SqT K H a xs:=.inl (.inl h)
theorem Inv.list (I : Inv X pins σ H s) (h : SqL X.K H a xs) : ∃ its : List Value,Vals xs its∧PlainL s.heap a its.toArray∧xs.length≤sizeLine:=by
  rcases h with h | ⟨o,its,n,hk,hc,hd,hs,hz,r⟩
  · obtain ⟨z,its,n,r,e⟩:=h.ok I.hok
    exact ⟨its,r,⟨_,n,e,rfl,rfl,rfl⟩,z⟩
  · refine ⟨its.toList,r,⟨o,n,I.kIn a o hk,hc,hd,by simpa using hs⟩,?_⟩
    have e:=r.length
    simp only [Array.length_toList] at e
    omega
theorem Inv.tuple (I : Inv X pins σ H s) (h : SqT X.K H a xs) : ∃ its : List Value,Vals xs its∧IsTup s.heap a its.toArray∧xs.length≤sizeLine:=by
  rcases h with h | ⟨o,its,n,hk,hc,hs,hz,r⟩
  · obtain ⟨z,its,r,p⟩:=h.ok I.hok
    exact ⟨its,r,p,z⟩
  · refine ⟨its.toList,r,⟨o,I.kIn a o hk,hc,n,by simpa using hs⟩,?_⟩
    have e:=r.length
    simp only [Array.length_toList] at e
    omega
theorem Inv.list_inj (I : Inv X pins σ H s) (h : SqL X.K H a xs) (h' : SqL X.K H a ys) : xs=ys:=by
  obtain ⟨its,r,⟨o,n,e,_,_,d⟩,_⟩:=I.list h
  obtain ⟨its',r',⟨o',n',e',_,_,d'⟩,_⟩:=I.list h'
  rw [e] at e'; cases e'
  rw [d] at d'
  injection d' with d1 _
  have : its=its':=by simpa using congrArg Array.toList d1
  subst this
  exact r.inj r'
theorem Inv.tuple_inj (I : Inv X pins σ H s) (h : SqT X.K H a xs) (h' : SqT X.K H a ys) : xs=ys:=by
  obtain ⟨its,r,⟨o,e,_,n,d⟩,_⟩:=I.tuple h
  obtain ⟨its',r',⟨o',e',_,n',d'⟩,_⟩:=I.tuple h'
  rw [e] at e'; cases e'
  rw [d] at d'
  injection d' with d1 _
  have : its=its':=by simpa using congrArg Array.toList d1
  subst this
  exact r.inj r'
end
abbrev Cx.wish (X : Cx) (E : Value→Shared→Prop) : Cx:={ X with xe:=E }
abbrev Cx.nox (X : Cx) : Cx:=X.wish fun _ _=>False
theorem Cx.Ok.wish {X : Cx} (ok : X.Ok) (E : Value→Shared→Prop) : (X.wish E).Ok:=
  ⟨ok.mod,ok.kind,ok.glob,ok.blt,ok.above,ok.inj,ok.has,ok.cab,ok.hd,ok.frames,ok.stk,ok.exf,ok.bs,ok.bsz,ok.noex,ok.exfs,ok.funs,ok.frf⟩
theorem Cx.Ok.unwish {X : Cx} {E : Value→Shared→Prop} (ok : (X.wish E).Ok) : X.Ok:=
  ⟨ok.mod,ok.kind,ok.glob,ok.blt,ok.above,ok.inj,ok.has,ok.cab,ok.hd,ok.frames,ok.stk,ok.exf,ok.bs,ok.bsz,ok.noex,ok.exfs,ok.funs,ok.frf⟩
section
variable {X : Cx} {pins : List (Addr×Obj)} {σ : St} {H : Hp} {s : Shared} {E : Value→Shared→Prop}
theorem Inv.wish (I : Inv X pins σ H s) (E : Value→Shared→Prop) : Inv (X.wish E) pins σ H s:=⟨I.ok.wish E,I.os,I.bare,I.base,I.loc,I.cell,I.free,I.freeC,I.pin,I.hok,I.len⟩
theorem Inv.unwish (I : Inv (X.wish E) pins σ H s) : Inv X pins σ H s:=⟨I.ok.unwish,I.os,I.bare,I.base,I.loc,I.cell,I.free,I.freeC,I.pin,I.hok,I.len⟩
theorem SP.unwish {D : Ends} {f : Flow} {s' : Shared} (h : SP (X.wish E) pins D f s') : SP X pins D f s':=by
  cases f with
  | next=>obtain ⟨σ',H',I,q⟩:=h; exact ⟨σ',H',I.unwish,q⟩
  | brk=>obtain ⟨σ',H',I,q⟩:=h; exact ⟨σ',H',I.unwish,q⟩
  | cont=>obtain ⟨σ',H',I,q⟩:=h; exact ⟨σ',H',I.unwish,q⟩
  | ret u=>obtain ⟨v,σ',H',I,r,q⟩:=h; exact ⟨v,σ',H',I.unwish,r,q⟩
theorem PSs.nox {st : List Stmt} {t : TS} (h : PSs X.nox st t) : PSs X st t:=⟨fun pins s σ H D I hw=>
  wpAny_mono (h pins s σ H D (I.wish _) hw) (fun _ _ q=>q.unwish) fun _ _ z=>False.elim z⟩
end
section
variable {X : Cx} {st : Stmt} {rest : List Stmt} {t u : TS} {e : Expr} {te : TE} {pos : Pos}
def tNext : TS:=fun D σ H=>D.nx σ H
def tSeq (t u : TS) : TS:=fun D σ H=>t { D with nx:=u D } σ H
theorem pss_nil : PSs X [] tNext:=⟨fun _ _ σ H _ I h=>wpAny_execs_nil ⟨σ,H,I,h⟩⟩
theorem pss_cons (h1 : PS X st t) (h2 : PSs X rest u) : PSs X (st :: rest) (tSeq t u):=by
  refine ⟨?_⟩
  intro pins s σ H D I h
  refine wpAny_execs_cons (thn (h1 pins s σ H { D with nx:=u D } I h) fun f s1 q=>?_)
  cases f with
  | next=>
    obtain ⟨σ',H',I',q⟩:=q
    exact h2 pins s1 σ' H' D I' q
  | ret v=>exact q
  | brk=>exact q
  | cont=>exact q
theorem pss_one (h1 : PS X st t) : PSs X [st] t:=by
  refine ⟨?_⟩
  intro pins s σ H D I h
  refine wpAny_execs_cons (thn (h1 pins s σ H D I h) fun f s1 q=>?_)
  cases f with
  | next=>exact wpAny_execs_nil q
  | ret v=>exact q
  | brk=>exact q
  | cont=>exact q
theorem Inv.quiet {pins : List (Addr×Obj)} {σ : St} {H : Hp} {s : Shared} (I : Inv X pins σ H s) : interactive X.env=false:=by simp [interactive,I.ok.kind]
def tDrop (te : TE) : TS:=fun D σ H=>te σ H fun _ H1=>D.nx σ H1
theorem ps_expr (he : PE X e te) (hs : swapsWith e none pos.line X.env=pure false:=by rfl) : PS X (.Expr e pos) (tDrop te):=by
  refine ⟨?_⟩
  intro pins s σ H D I h
  exact wpAny_Expr_any (thn (he pins s σ H _ I h) fun v s1 ⟨x,H1,I1,r1,q1⟩=>⟨σ,H1,I1,q1⟩) I.quiet hs
def tRet (te : TE) : TS:=fun D σ H=>te σ H D.rt
theorem ps_ret (he : PE X e te) : PS X (.Return (some e) pos) (tRet te):=by
  refine ⟨?_⟩
  intro pins s σ H D I h
  exact wpAny_Return_some (thn (he pins s σ H _ I h) fun v s1 ⟨x,H1,I1,r1,q1⟩=>⟨x,σ,H1,I1,r1,q1⟩)
def tIfS (c : TT) (t u : TS) : TS:=fun D σ H=>c σ H fun b H1=>if b=true then t D σ H1 else u D σ H1
theorem ps_if {c : Expr} {a b : List Stmt} {tc : TT} (hc : PT X c tc) (ha : PSs X a t) (hb : PSs X b u) : PS X (.If c a b pos) (tIfS tc t u):=by
  refine ⟨?_⟩
  intro pins s σ H D I h
  refine wpAny_If (thn (hc pins s σ H _ I h) fun d s1 ⟨H1,I1,q1⟩=>?_)
  cases d with
  | true=>exact ha pins s1 σ H1 D I1 q1
  | false=>exact hb pins s1 σ H1 D I1 q1
end
abbrev TG:=V→St→Hp→(St→Hp→Prop)→Prop
abbrev TGs:=List V→St→Hp→(St→Hp→Prop)→Prop
def PG0 (X : Cx) (target : Expr) (t : TG) : Prop:=
  ∀ (pins : List (Addr×Obj)) (s : Shared) (σ : St) (H : Hp) (v : V) (u : Value) (Q : St→Hp→Prop),Inv X pins σ H s→RelV v u→t v σ H Q→
    wpAny (model X.prog X.w) X.A (assign target X.env u) (fun _ s'=>∃ σ' H',Inv X pins σ' H' s'∧Q σ' H') X.xe s
structure PG (X : Cx) (target : Expr) (t : TG) : Prop where
  out : PG0 X target t
instance {X : Cx} {target : Expr} {t : TG} : CoeFun (PG X target t) (fun _=>PG0 X target t):=⟨PG.out⟩
def PGs0 (X : Cx) (ts : List Expr) (t : TGs) : Prop:=
  ∀ (pins : List (Addr×Obj)) (s : Shared) (σ : St) (H : Hp) (vs : List V) (us : List Value) (Q : St→Hp→Prop),Inv X pins σ H s→Vals vs us→t vs σ H Q→
    wpAny (model X.prog X.w) X.A (assignInOrder ((assignEach ts X.env).map (·.2)) us) (fun _ s'=>∃ σ' H',Inv X pins σ' H' s'∧Q σ' H') X.xe s
structure PGs (X : Cx) (ts : List Expr) (t : TGs) : Prop where
  out : PGs0 X ts t
instance {X : Cx} {ts : List Expr} {t : TGs} : CoeFun (PGs X ts t) (fun _=>PGs0 X ts t):=⟨PGs.out⟩
abbrev TSet:=V→V→V→Hp→(Hp→Prop)→Prop
def PSet (X : Cx) (t : TSet) : Prop:=
  ∀ (pins : List (Addr×Obj)) (s : Shared) (σ : St) (H : Hp) (o i v : V) (ov iv u : Value) (Q : Hp→Prop),Inv X pins σ H s→RelV o ov→RelV i iv→RelV v u→t o i v H Q→
    wpAny (model X.prog X.w) X.A (setItem ov iv u) (fun _ s'=>∃ H',Inv X pins σ H' s'∧Q H') X.xe s
abbrev TIp:=V→V→Hp→VK→Prop
def PIp (X : Cx) (op : Operator) (t : TIp) : Prop:=
  ∀ (pins : List (Addr×Obj)) (s : Shared) (σ : St) (H : Hp) (x y : V) (v u : Value) (Q : VK),Inv X pins σ H s→RelV x v→RelV y u→t x y H Q→
    wpAny (model X.prog X.w) X.A (inplaceOp op v u) (EP X pins σ Q) X.xe s
section
variable {X : Cx} {pos : Pos}
def gName (i : Nat) : TG:=fun v σ H Q=>Q (σ.set i (some v)) H
theorem pg_name {i : Nat} {x : Str} (hN : X.N.Nodup) (hi : X.N[i]? = some x) (hx : Loc X.env.scope x) (hf : X.fn x=true∨X.env.scope.names.lookup x=some .local:=by first | exact .inl rfl | exact .inr rfl | assumption) : PG X (.Name x pos) (gName i):=by
  refine ⟨?_⟩
  intro pins s σ H v u Q I r h
  exact wpAny_assign_Name (store_ok I hN hi hx r (fun s' I'=>⟨_,H,I',h⟩) hf)
def gNil : TGs:=fun vs σ H Q=>vs=[]∧Q σ H
def gCons (t : TG) (u : TGs) : TGs:=fun vs σ H Q=>∃ v r,vs=v :: r∧t v σ H fun σ' H'=>u r σ' H' Q
theorem pgs_nil : PGs X [] gNil:=by
  refine ⟨?_⟩
  intro pins s σ H vs us Q I r h
  obtain ⟨e,h⟩:=h
  subst e
  cases r
  exact assignInOrder_nil ⟨σ,H,I,h⟩
theorem pgs_cons {e : Expr} {es : List Expr} {t : TG} {u : TGs} (h1 : PG X e t) (h2 : PGs X es u)
    (hs : (assignEach (e :: es) X.env).map (·.2)=assign e X.env :: (assignEach es X.env).map (·.2):=by rfl) : PGs X (e :: es) (gCons t u):=by
  refine ⟨?_⟩
  intro pins s σ H vs us Q I r h
  obtain ⟨v,vr,e1,h⟩:=h
  subst e1
  cases r with
  | cons r rr=>
    rw [hs]
    refine assignInOrder_cons (thn (h1 pins s σ H _ _ _ I r h) fun _ s1 ⟨σ1,H1,I1,q1⟩=>?_)
    exact h2 pins s1 σ1 H1 _ _ Q I1 rr q1
def gTup (K : PySem.W.Frag) (n : Nat) (t : TGs) : TG:=fun v σ H Q=>∃ a xs,v = .ref a∧SqT K H a xs∧xs.length=n∧t xs σ H Q
theorem pg_tup {es : List Expr} {k : Nat} {t : TGs} {n : Nat} (hc : X.calm=true) (h : PGs X es t)
    (hn : (assignEach es X.env).length=n:=by rfl) (hst : (assignEach es X.env).findIdx? (·.1)=none:=by rfl) : PG X (.Tuple es k pos) (gTup X.K n t):=by
  refine ⟨?_⟩
  intro pins s σ H v u Q I r hw
  obtain ⟨a,xs,e1,hq,hl,hw⟩:=hw
  subst e1
  cases r
  obtain ⟨its,rv,ht,hz⟩:=I.tuple hq
  refine assign_Tuple_tuple (I.ok.hd hc) ht (by simp [hn,← hl,rv.length]) hst fun h' hx=>?_
  have I1 : Inv X pins σ H { s with heap:=h' }:=I.kept (t':=s.toks) fun b o e=>hx b o (Nat.ne_of_lt (Heap.lt_size e)) e
  exact h pins _ σ H xs _ Q I1 (by simpa using rv) hw
def gSub (to ti : TE) (t : TSet) : TG:=fun v σ H Q=>to σ H fun o H1=>ti σ H1 fun i H2=>t o i v H2 fun H3=>Q σ H3
theorem pg_sub {o i : Expr} {to ti : TE} {t : TSet} (ho : PE X o to) (hi : PE X i ti) (hs : PSet X t)
    (ha : ∀ v,assign (.Subscript o i pos) X.env v=(do
      let ov ← holding [v] (eval o X.env)
      let iv ← holding [v,ov] (eval i X.env)
      standAt pos
      holding [v,ov,iv] (setItem ov iv v)
      release [v,ov,iv] []):=by intro _; rfl) : PG X (.Subscript o i pos) (gSub to ti t):=by
  refine ⟨?_⟩
  intro pins s σ H v u Q I r h
  rw [ha]
  refine wpAny_bind (wpAny_holding (thn (ho pins s σ H _ I h) fun ov s1 ⟨x,H1,I1,r1,q1⟩=>?_))
  refine wpAny_bind (wpAny_holding (thn (hi pins s1 σ H1 _ I1 q1) fun iv s2 ⟨y,H2,I2,r2,q2⟩=>?_))
  refine wpAny_bind (wpAny_standAt (wpAny_bind (wpAny_holding (thn (hs pins s2 σ H2 x y v ov iv u _ I2 r1 r2 r q2) fun _ s3 ⟨H3,I3,q3⟩=>?_))))
  exact wpAny_release ⟨σ,H3,I3,q3⟩
def tAsg (te : TE) (g : TG) : TS:=fun D σ H=>te σ H fun x H1=>g x σ H1 D.nx
theorem ps_asg {tg e : Expr} {te : TE} {g : TG} (he : PE X e te) (hg : PG X tg g) (hs : swapsWithSole [tg] e pos.line X.env=pure false:=by rfl) (hw : swappedStores [tg] e X.env=pure none:=by rfl)
    (h1 : (assignEach [tg] X.env).map (·.2)=[assign tg X.env]:=by rfl) : PS X (.Assign [tg] e pos) (tAsg te g):=by
  refine ⟨?_⟩
  intro pins s σ H D I h
  refine wpAny_Assign_stores (thn (he pins s σ H _ I h) fun v s1 ⟨x,H1,I1,r1,q1⟩=>?_) hs hw
  rw [h1]
  exact thn (hg pins s1 σ H1 x v _ I1 r1 q1) fun _ s2 q=>q
theorem ps_set {i : Nat} {x : Str} {e : Expr} {te : TE} {pos' : Pos} (hN : X.N.Nodup) (hi : X.N[i]? = some x) (hx : Loc X.env.scope x) (he : PE X e te) (hs : swapsWith e (some (.Name x pos')) pos.line X.env=pure false:=by rfl) (hf : X.fn x=true∨X.env.scope.names.lookup x=some .local:=by first | exact .inl rfl | exact .inr rfl | assumption) :
    PS X (.Assign [.Name x pos'] e pos) (tAsg te (gName i)):=by
  refine ⟨?_⟩
  intro pins s σ H D I h
  refine wpAny_Assign_Name (thn (he pins s σ H _ I h) fun v s1 ⟨y,H1,I1,r1,q1⟩=>?_) hs
  exact store_ok I1 hN hi hx r1 (fun s2 I2=>⟨_,H1,I2,q1⟩) hf
def tAugS (to ti te : TE) (tget : V→V→Hp→VK→Prop) (tip : TIp) (tset : TSet) : TS:=fun D σ H=>to σ H fun o H1=>ti σ H1 fun i H2=>tget o i H2 fun x H3=>te σ H3 fun y H4=>tip x y H4 fun z H5=>tset o i z H5 fun H6=>D.nx σ H6
def PGet (X : Cx) (t : V→V→Hp→VK→Prop) : Prop:=
  ∀ (pins : List (Addr×Obj)) (s : Shared) (σ : St) (H : Hp) (o i : V) (ov iv : Value) (Q : VK),Inv X pins σ H s→RelV o ov→RelV i iv→t o i H Q→
    wpAny (model X.prog X.w) X.A (getItem ov iv) (EP X pins σ Q) X.xe s
theorem ps_augS {o i e : Expr} {to ti te : TE} {tget : V→V→Hp→VK→Prop} {tip : TIp} {tset : TSet} {op : Operator} {tpos : Pos} (ho : PE X o to) (hi : PE X i ti) (hg : PGet X tget) (he : PE X e te) (hp : PIp X op tip) (hs : PSet X tset)
    (ha : ∀ ov iv new,augStore i ov iv new=(do holding [new,ov,iv] (setItem ov iv new); release [new,ov,iv] []; pure .next):=by intros; rfl) : PS X (.AugAssign (.Subscript o i tpos) op e pos) (tAugS to ti te tget tip tset):=by
  refine ⟨?_⟩
  intro pins s σ H D I h
  refine wpAny_AugAssign_SubscriptAny (thn (ho pins s σ H _ I h) fun ov s1 ⟨x1,H1,I1,r1,q1⟩=>?_) ha
  refine thn (hi pins s1 σ H1 _ I1 q1) fun iv s2 ⟨x2,H2,I2,r2,q2⟩=>?_
  refine thn (hg pins s2 σ H2 x1 x2 ov iv _ I2 r1 r2 q2) fun old s3 ⟨x3,H3,I3,r3,q3⟩=>?_
  refine thn (he pins s3 σ H3 _ I3 q3) fun v s4 ⟨x4,H4,I4,r4,q4⟩=>?_
  refine thn (hp pins s4 σ H4 x3 x4 old v _ I4 r3 r4 q4) fun new s5 ⟨x5,H5,I5,r5,q5⟩=>?_
  exact thn (hs pins s5 σ H5 x1 x2 x5 ov iv new _ I5 r1 r2 r5 q5) fun _ s6 ⟨H6,I6,q6⟩=>⟨σ,H6,I6,q6⟩
def ipI (f : Int→Int→Int) : TIp:=fun x y H Q=>∃ i j,x = .int i∧y = .int j∧Q (.int (f i j)) H
theorem ip_add : PIp X .Add (ipI fun i j=>i + j):=by
  intro pins s σ H x y v u Q I r1 r2 h
  obtain ⟨i,j,e1,e2,q⟩:=h
  subst e1; subst e2
  obtain ⟨t,rfl⟩:=r1
  obtain ⟨t',rfl⟩:=r2
  exact iadd_int ⟨.int _,H,I.tok _,⟨_,rfl⟩,q⟩
end
section
variable {X : Cx} {pos : Pos}
def tWhile (c : TT) (tb : TS) : TS:=fun D σ H=>∃ W : Nat→St→Hp→Prop,(∃ m,W m σ H)∧∀ m σ H,W m σ H→
  c σ H fun b H1=>if b=true then ∃ N : St→Hp→Prop,(∀ σ' H',N σ' H'→∃ m',m' < m∧W m' σ' H')∧tb { D with nx:=N,ct:=N,bk:=D.nx } σ H1 else D.nx σ H1
theorem ps_while {c : Expr} {body : List Stmt} {tc : TT} {tb : TS} (hp : PassesOwn (model X.prog X.w) X.A X.env X.xe) (hc : PT X c tc) (hb : PSs X body tb) : PS X (.While c body [] pos) (tWhile tc tb):=by
  refine ⟨?_⟩
  intro pins s σ H D I h
  obtain ⟨W,⟨m0,w0⟩,turn⟩:=h
  refine wpAny_While (codeAny_whileLoop (fun n s'=>∃ σ' H',Inv X pins σ' H' s'∧W n σ' H') ?_ m0 ⟨σ,H,I,w0⟩)
  rintro n s1 ⟨σ1,H1,I1,w1⟩
  refine wpAny_passesOwn hp (thn (hc pins s1 σ1 H1 _ I1 (turn n σ1 H1 w1)) fun b s2 ⟨H2,I2,q2⟩=>?_)
  cases b with
  | true=>
    obtain ⟨N,hN,q2⟩:=q2
    rw [if_pos rfl]
    refine wpAny_passesOwn hp (thn (hb pins s2 σ1 H2 _ I2 q2) fun f s3 q3=>?_)
    cases f with
    | next=>
      obtain ⟨σ3,H3,I3,n3⟩:=q3
      obtain ⟨m',hm,w3⟩:=hN σ3 H3 n3
      exact ⟨m',hm,σ3,H3,I3,w3⟩
    | cont=>
      obtain ⟨σ3,H3,I3,n3⟩:=q3
      obtain ⟨m',hm,w3⟩:=hN σ3 H3 n3
      exact ⟨m',hm,σ3,H3,I3,w3⟩
    | brk=>exact q3
    | ret v=>exact q3
  | false=>
    rw [if_neg Bool.false_ne_true]
    exact wpAny_execs_nil ⟨σ1,H2,I2,q2⟩
end
structure It where
  go : Nat→Hp→Prop
  yld : Nat→Hp→V→Hp→Prop
  stop : Nat→Hp→Prop
def FpOk (X : Cx) (pins : List (Addr×Obj)) (H : Hp) (b : Addr) : Prop:=
  H b=none∧b≠X.env.locals∧b ∉ X.fs∧(b∈X.ex∨X.s₀.heap.objs.size≤b)∧(∀ x c,X.env.cells.lookup x=some c→c≠b)∧∀ p∈X.pn ++ pins,p.1≠b
theorem Inv.fpOk {X : Cx} {pins : List (Addr×Obj)} {σ : St} {H H' : Hp} {s : Shared} {b : Addr} (I : Inv X pins σ H s) (hb : s.heap.objs.size≤b) (hn : H' b=none) : FpOk X pins H' b:=by
  refine ⟨hn,Nat.ne_of_gt (Nat.lt_of_lt_of_le I.lt hb),I.nofs hb,.inr (Nat.le_trans I.sz hb),fun x c e z=>?_,fun p hp z=>?_⟩
  · obtain ⟨v,q⟩:=I.cell x c e
    exact absurd (Nat.lt_of_lt_of_le q.lt (by rw [z]; exact hb)) (Nat.lt_irrefl _)
  · exact absurd (Nat.lt_of_lt_of_le (Heap.lt_size (I.pin p hp).1) (by rw [z]; exact hb)) (Nat.lt_irrefl _)
structure Turn (P : Program) (w : World) (K : PySem.W.Frag) (tg : Expr) (J : It) (fp : List Addr) (it : Addr) (tn : Nat→Heap→Prop) : Prop where
  mem : it∈fp
  obj : ∀ i h,tn i h→∀ b∈fp,∃ o,h.get? b=some o∧∀ v,o.data≠.cell v
  keep : ∀ i h h',tn i h→(∀ b∈fp,∀ o,h.get? b=some o→h'.get? b=some o)→tn i h'
  item : ∀ (X : Cx),X.prog=P→X.w=w→X.K=K→X.calm=true→∀ (i : Nat) (pins : List (Addr×Obj)) (s : Shared) (σ : St) (H : Hp) (E : Value→Shared→Prop),Inv X pins σ H s→(∀ b∈fp,FpOk X pins H b)→tn i s.heap→J.go i H→
    wpAny (model P w) X.A (pyNext (.ref it)) (fun r s1=>∃ u,r=some u∧
      wpAny (model P w) X.A (letOwnedTupleGo tg (.ref it) u) (fun _ s2=>∃ x H',Inv X pins σ H' s2∧RelV x u∧J.yld i H x H'∧tn (i + 1) s2.heap∧∀ b∈fp,H' b=none) E s1) E s
  done : ∀ (X : Cx),X.prog=P→X.w=w→X.K=K→X.calm=true→∀ (i : Nat) (pins : List (Addr×Obj)) (s : Shared) (σ : St) (H : Hp) (E : Value→Shared→Prop),Inv X pins σ H s→(∀ b∈fp,FpOk X pins H b)→tn i s.heap→J.stop i H→
    wpAny (model P w) X.A (pyNext (.ref it)) (fun r s1=>r=none∧Inv X pins σ H s1) E s
  self : ∀ (A : Around) (i : Nat) (s : Shared) (Q : Value→Shared→Prop) (E : Value→Shared→Prop),tn i s.heap→Q (.ref it) s→wpAny (model P w) A (pyIter (.ref it)) Q E s
abbrev TI:=St→Hp→(It→Hp→Prop)→Prop
def PIE (X : Cx) (pins : List (Addr×Obj)) (σ : St) (tg : Expr) (R : It→Hp→Prop) (itv : Value) (s2 : Shared) : Prop:=
  ∃ (it : Addr) (fp : List Addr) (tn : Nat→Heap→Prop) (J : It) (H' : Hp),itv = .ref it∧Inv X pins σ H' s2∧Turn X.prog X.w X.K tg J fp it tn∧tn 0 s2.heap∧(∀ b∈fp,FpOk X pins H' b)∧R J H'
def PI0 (X : Cx) (tg iter : Expr) (wi : TI) : Prop:=
  ∀ (pins : List (Addr×Obj)) (s : Shared) (σ : St) (H : Hp) (R : It→Hp→Prop),Inv X pins σ H s→wi σ H R→
    wpAny (model X.prog X.w) X.A (eval iter X.env) (fun v s1=>wpAny (model X.prog X.w) X.A (pyIter v) (PIE X pins σ tg R) X.xe s1) X.xe s
structure PI (X : Cx) (tg iter : Expr) (wi : TI) : Prop where
  out : PI0 X tg iter wi
instance {X : Cx} {tg iter : Expr} {wi : TI} : CoeFun (PI X tg iter wi) (fun _=>PI0 X tg iter wi):=⟨PI.out⟩
theorem go_of {M : Model} {A : Around} {E : Value→Shared→Prop} {s : Shared} {tg : Expr} {it : Addr} {u : Value} {o : Obj} {n : String} {vs : Array Value} {Q : Unit→Shared→Prop} (ho : s.heap.get? it=some o) (hc : o.cls = .type n) (hd : o.data = .fields vs)
    (hn : ["enumerate","zip","dict_itemiterator","dict_reverseitemiterator","odict_iterator","itertools.zip_longest","itertools.pairwise"].contains n=false) (hQ : Q () s) : wpAny M A (letOwnedTupleGo tg (.ref it) u) Q E s:=by
  unfold letOwnedTupleGo
  cases tg <;> first
    | exact wpAny_pure hQ
    | (cases u <;> first
        | exact wpAny_pure hQ
        | (refine wpAny_bind (wpAny_load ho ?_)
           rw [hc,hd]
           show wpAny M A (if (["enumerate","zip","dict_itemiterator","dict_reverseitemiterator","odict_iterator","itertools.zip_longest","itertools.pairwise"].contains n && vs[0]? == some (rawInt _))=true then _ else _) Q E s
           rw [if_neg (by intro h; rw [hn,Bool.false_and] at h; cases h)]
           exact wpAny_pure hQ))
def Itl (K : PySem.W.Frag) (a : Addr) : It:=
  ⟨fun i H=>∃ xs x,SqL K H a xs∧xs[i]? = some x,fun i H x H'=>H' = H∧∀ xs,SqL K H a xs→xs[i]? = some x,fun i H=>∃ xs,SqL K H a xs∧xs.length≤i⟩
def Itr (lo : Int) (n : Nat) : It:=⟨fun i _=>i < n,fun i H x H'=>H' = H∧x = .int (lo + i),fun i _=>n≤i⟩
theorem turn_list {P : Program} {w : World} {K : PySem.W.Frag} {tg : Expr} (a it : Addr) : Turn P w K tg (Itl K a) [it] it (fun i h=>h.IsListIter it a i) where
  mem:=by simp
  obj:=fun i h st b hb=>by
    have e : b=it:=by simpa using hb
    subst e
    obtain ⟨o,e,c,d⟩:=st
    exact ⟨o,e,fun v z=>by rw [d] at z; cases z⟩
  keep:=fun i h h' st k=>st.at fun o e=>k it (by simp) o e
  item:=by
    intro X hP hw hK hc i pins s σ H E I hf st hg
    subst hP hw hK
    obtain ⟨xs,x,hq,hx⟩:=hg
    obtain ⟨its,rv,p,hz⟩:=I.list hq
    obtain ⟨u,hu,ru⟩:=rv.get hx
    obtain ⟨f0,f1,f2,f3,f4,f5⟩:=hf it (by simp)
    refine wpAny_pyNext_list_item st p.isList (x:=u) (by simpa using hu) fun h' st' sb=>?_
    have I1 : Inv X pins σ H { s with heap:=h' }:=I.turned (t':=s.toks) (fun b o hb e=>(sb.2 b hb).trans e) f0 f1 f3 f4 f5
    obtain ⟨o,e,c,d⟩:=id st'
    exact ⟨u,rfl,go_of (s:={ s with heap:=h' }) e c d (by decide) ⟨x,H,I1,ru,⟨rfl,fun ys hy=>by rw [I.list_inj hy hq]; exact hx⟩,st',fun b hb=>(hf b hb).1⟩⟩
  done:=by
    intro X hP hw hK hc i pins s σ H E I hf st hg
    subst hP hw hK
    obtain ⟨xs,hq,hx⟩:=hg
    obtain ⟨its,rv,p,hz⟩:=I.list hq
    obtain ⟨f0,f1,f2,f3,f4,f5⟩:=hf it (by simp)
    have hl:=rv.length
    exact wpAny_pyNext_list_end (I.ok.hd hc) st p.isList (by simp; omega) fun h' eb=>⟨rfl,I.turned (t':=s.toks) (fun b o hb e=>eb b o hb e) f0 f1 f3 f4 f5⟩
  self:=fun _ _ _ _ _ st h=>wpAny_pyIter_listiter st h
theorem turn_range {P : Program} {w : World} {K : PySem.W.Frag} {tg : Expr} (it : Addr) (lo : Int) (n : Nat) : Turn P w K tg (Itr lo n) [it] it (fun i h=>IsRangeIter h it (lo + (i : Nat) * 1) ((n : Int) - (i : Nat)) 1) where
  mem:=by simp
  obj:=fun i h st b hb=>by
    have e : b=it:=by simpa using hb
    subst e
    exact ⟨_,st,fun v z=>by
      have z' : Data.fields _=Data.cell v:=z
      cases z'⟩
  keep:=fun i h h' st k=>k it (by simp) _ st
  item:=by
    intro X hP hw hK hc i pins s σ H E I hf st hg
    subst hP hw hK
    obtain ⟨f0,f1,f2,f3,f4,f5⟩:=hf it (by simp)
    have W:=Walks.range (prog:=X.prog) (w:=X.w) (I.ok.hd hc) it lo 1 n
    refine W.item i s _ _ hg st fun v h' tk hv st' kk=>?_
    obtain ⟨t,rfl⟩:=hv
    have I1 : Inv X pins σ H { s with heap:=h',toks:=tk }:=I.turned (fun b o hb e=>kk b o (by simpa using hb) e) f0 f1 f3 f4 f5
    refine ⟨_,rfl,go_of (s:={ s with heap:=h',toks:=tk }) (n := "range_iterator") st' rfl rfl (by decide) ⟨.int (lo + i),H,I1,⟨t,?_⟩,⟨rfl,rfl⟩,st',fun b hb=>(hf b hb).1⟩⟩
    rw [Int.mul_one]
  done:=by
    intro X hP hw hK hc i pins s σ H E I hf st hg
    subst hP hw hK
    obtain ⟨f0,f1,f2,f3,f4,f5⟩:=hf it (by simp)
    exact wpAny_pyNext_range_end (I.ok.hd hc) st (by have : n≤i:=hg; omega) fun h' eb=>⟨rfl,I.turned (t':=s.toks) (fun b o hb e=>eb b o hb e) f0 f1 f3 f4 f5⟩
  self:=fun _ _ _ _ _ st h=>wpAny_pyIter_rangeiter st h
end L2
namespace L2
open PySem PySem.Spec PyProof.Rows
section
variable {X : Cx} {tg : Expr}
def iList (K : PySem.W.Frag) (tl : TE) : TI:=fun σ H R=>tl σ H fun x H1=>∃ a,x = .ref a∧(∃ xs,SqL K H1 a xs)∧R (Itl K a) H1
theorem pi_list {l : Expr} {tl : TE} (hl : PE X l tl) : PI X tg l (iList X.K tl):=by
  refine ⟨?_⟩
  intro pins s σ H R I h
  refine thn (hl pins s σ H _ I h) fun v s1 ⟨x,H1,I1,r1,q1⟩=>?_
  obtain ⟨a,e,⟨xs,hq⟩,q⟩:=q1
  subst e
  cases r1
  obtain ⟨its,rv,p,hz⟩:=I1.list hq
  refine wpAny_pyIter_list p.isList ?_
  refine ⟨s1.heap.objs.size,[s1.heap.objs.size],_,_,H1,rfl,I1.kept (t':=s1.toks) fun b o e=>Heap.get?_push_of_some _ e,turn_list a _,⟨_,Heap.get?_push_size _ rfl,rfl,rfl⟩,fun b hb=>?_,q⟩
  have e : b=s1.heap.objs.size:=by simpa using hb
  subst e
  exact I1.fpOk (Nat.le_refl _) (I1.hok.fresh (Nat.le_refl _))
theorem range_it {pins : List (Addr×Obj)} {σ : St} {H : Hp} {s : Shared} {R : It→Hp→Prop} {E : Value→Shared→Prop} {lo hi : Int} {t u v : Tok} {tk : Nat} (I : Inv X pins σ H s) (h1 : -(2 ^ 62)≤lo) (h2 : lo < 2 ^ 62) (h3 : -(2 ^ 62)≤hi) (h4 : hi < 2 ^ 62)
    (q : R (Itr lo (hi - lo).toNat) H) : wpAny (model X.prog X.w) X.A (pyIter (.ref s.heap.objs.size)) (PIE X pins σ tg R) E { s with heap:=s.heap.push { cls:=.type "range",data:=.fields #[.int lo t,.int hi u,.int 1 v] },toks:=tk }:=by
  refine wpAny_pyIter_range (IsRange.new ..) (small_one h1 h2 h3 h4) ?_
  have I1 : Inv X pins σ H { s with heap:=s.heap.push { cls:=.type "range",data:=.fields #[.int lo t,.int hi u,.int 1 v] },toks:=tk }:=I.kept fun b o e=>Heap.get?_push_of_some _ e
  refine ⟨(s.heap.push { cls:=.type "range",data:=.fields #[.int lo t,.int hi u,.int 1 v] }).objs.size,[(s.heap.push { cls:=.type "range",data:=.fields #[.int lo t,.int hi u,.int 1 v] }).objs.size],_,_,H,rfl,
    I1.kept (t':=tk) fun b o e=>Heap.get?_push_of_some _ e,turn_range _ lo (hi - lo).toNat,?_,fun b hb=>?_,q⟩
  · have e1 : lo + ((0 : Nat) : Int) * 1=lo:=by simp
    have e2 : (((hi - lo).toNat : Nat) : Int) - ((0 : Nat) : Int)=Builtin.Range.rangeSize lo hi 1:=by rw [rangeSize_one]; split <;> omega
    show IsRangeIter _ _ (lo + ((0 : Nat) : Int) * 1) ((((hi - lo).toNat : Nat) : Int) - ((0 : Nat) : Int)) 1
    rw [e1,e2]
    exact Heap.get?_push_size _ rfl
  · have e : b=(s.heap.push { cls:=.type "range",data:=.fields #[.int lo t,.int hi u,.int 1 v] }).objs.size:=by simpa using hb
    subst e
    exact I1.fpOk (Nat.le_refl _) (I1.hok.fresh (Nat.le_refl _))
def iRng1 (ta : TA) : TI:=fun σ H R=>ta σ H fun vs H1=>∃ j : Int,vs=[.int j]∧-(2 ^ 62)≤j∧j < 2 ^ 62∧R (Itr 0 j.toNat) H1
theorem pi_range1 {a : Expr} {ta : TA} {p pos : Pos} (hg : Gl X "range") (hm : X.mg "range" = none) (ha : PA X [a] ta) (hs : starEach [a] X.env=[(false,eval a X.env)]:=by rfl) : PI X tg (.Call (.Name "range" p) [a] [] pos) (iRng1 ta):=by
  refine ⟨?_⟩
  intro pins s σ H R I h
  refine Call_ (ld_blt I hg hm boot_range (PyProof.Rows.callWith_type1 (thn (ha pos pins s σ H _ I h) fun us s1 ⟨vs,H1,I1,r1,q1⟩=>?_) hs rfl))
  obtain ⟨j,e,q1,q2,q⟩:=q1
  subst e
  cases r1 with
  | cons r rr=>
    cases rr
    obtain ⟨t,rfl⟩:=r
    exact call_range_1 (range_it I1 (by omega) (by omega) q1 q2 (by simpa using q))
def tFor (wi : TI) (g : TG) (tb : TS) : TS:=fun D σ H=>wi σ H fun J H1=>∃ W : Nat→Nat→St→Hp→Prop,(∃ m,W 0 m σ H1)∧∀ i m σ H,W i m σ H→
  (J.stop i H∧D.nx σ H)∨(J.go i H∧∃ N : St→Hp→Prop,(∀ σ' H',N σ' H'→∃ m',m' < m∧W (i + 1) m' σ' H')∧∀ x H',J.yld i H x H'→g x σ H' fun σ2 H2=>tb { D with nx:=N,ct:=N,bk:=D.nx } σ2 H2)
def pinsAt (fp : List Addr) (h : Heap) : List (Addr×Obj):=fp.filterMap fun b=>(h.get? b).map fun o=>(b,o)
theorem mem_pinsAt {fp : List Addr} {h : Heap} {b : Addr} {o : Obj} (hb : b∈fp) (e : h.get? b=some o) : (b,o)∈pinsAt fp h:=List.mem_filterMap.mpr ⟨b,hb,by rw [e]; rfl⟩
theorem of_pinsAt {fp : List Addr} {h : Heap} {p : Addr×Obj} (hp : p∈pinsAt fp h) : p.1∈fp∧h.get? p.1=some p.2:=by
  obtain ⟨b,hb,e⟩:=List.mem_filterMap.mp hp
  cases q : h.get? b with
  | none=>rw [q] at e; cases e
  | some o=>
    rw [q] at e
    have e' : (b,o)=p:=Option.some.inj e
    subst e'
    exact ⟨hb,q⟩
theorem Inv.pinned {pins : List (Addr×Obj)} {σ : St} {H : Hp} {s : Shared} {fp : List Addr} (I : Inv X pins σ H s) (hf : ∀ b∈fp,FpOk X pins H b) (ho : ∀ b∈fp,∃ o,s.heap.get? b=some o∧∀ v,o.data≠.cell v) : Inv X (pins ++ pinsAt fp s.heap) σ H s:=
  I.pins_of fun p hp=>(List.mem_append.mp hp).elim (fun z=>I.pin p (List.mem_append_right _ z)) fun z=>by
    obtain ⟨hb,e⟩:=of_pinsAt z
    obtain ⟨f0,f1,f2,_⟩:=hf p.1 hb
    obtain ⟨o,e',d⟩:=ho p.1 hb
    rw [e] at e'; cases e'
    exact ⟨e,f0,f1,f2,d⟩
theorem Inv.unpinned {pins pl : List (Addr×Obj)} {σ : St} {H : Hp} {s : Shared} (I : Inv X (pins ++ pl) σ H s) : Inv X pins σ H s:=I.pins_of fun p hp=>I.pin p (List.mem_append_right _ (List.mem_append_left _ hp))
theorem ps_for {iter : Expr} {body : List Stmt} {wi : TI} {g : TG} {tb : TS} {pos : Pos} (hp : PassesOwn (model X.prog X.w) X.A X.env X.xe) (hc : X.calm=true) (hi : PI X tg iter wi) (hg : PG X tg g) (hb : PSs X body tb)
    (hs : ∀ x,foldedSetIterable iter X.env x=pure x:=by intro _; rfl) : PS X (.For tg iter body [] pos) (tFor wi g tb):=by
  refine ⟨?_⟩
  intro pins s σ H D I h
  refine wpAny_For (thn (hi pins s σ H _ I h) fun v s1 h1=>thn h1 fun itv s2 h2=>?_) hs
  obtain ⟨it,fp,tn,J,H2,e,I2,T,st2,f2,W,⟨m0,w0⟩,turn⟩:=h2
  subst e
  have stat : ∀ {H' : Hp},(∀ b∈fp,H' b=none)→∀ b∈fp,FpOk X pins H' b:=fun hn b hb=>⟨hn b hb,(f2 b hb).2⟩
  refine codeAny_forLoop_any (fun n s'=>∃ i σ' H',Inv X pins σ' H' s'∧tn i s'.heap∧(∀ b∈fp,H' b=none)∧W i n σ' H') ?_ m0 ⟨0,σ,H2,I2,st2,fun b hb=>(f2 b hb).1,w0⟩
  rintro n s3 ⟨i,σ3,H3,I3,st3,fr3,w3⟩
  rcases turn i n σ3 H3 w3 with ⟨stop,qn⟩ | ⟨go,N,hN,step⟩
  · refine wpAny_passesOwn hp (thn (T.done X rfl rfl rfl hc i pins s3 σ3 H3 X.xe I3 (stat fr3) st3 stop) fun r s4 ⟨hr,I4⟩=>?_)
    subst hr
    exact wpAny_execs_nil ⟨σ3,H3,I4,qn⟩
  · refine wpAny_passesOwn hp (thn (T.item X rfl rfl rfl hc i pins s3 σ3 H3 X.xe I3 (stat fr3) st3 go) fun r s4 ⟨u,hr,h4⟩=>?_)
    subst hr
    refine wpAny_passesOwn hp (thn h4 fun _ s5 ⟨x,H5,I5,r5,y5,st5,fr5⟩=>?_)
    have I5':=I5.pinned (stat fr5) (T.obj _ _ st5)
    refine wpAny_passesOwn hp (thn (hg _ s5 σ3 H5 x u _ I5' r5 (step x H5 y5)) fun _ s6 ⟨σ6,H6,I6,q6⟩=>?_)
    refine wpAny_passesOwn hp (thn (hb _ s6 σ6 H6 _ I6 q6) fun f s7 q7=>?_)
    have again : ∀ {σ7 : St} {H7 : Hp},Inv X (pins ++ pinsAt fp s5.heap) σ7 H7 s7→N σ7 H7→∃ m,m < n∧∃ i σ' H',Inv X pins σ' H' s7∧tn i s7.heap∧(∀ b∈fp,H' b=none)∧W i m σ' H':=fun {σ7 H7} I7 n7=>by
      obtain ⟨m',hm,w7⟩:=hN σ7 H7 n7
      refine ⟨m',hm,i + 1,σ7,H7,I7.unpinned,T.keep _ _ _ st5 fun b hb o e=>(I7.pin (b,o) (List.mem_append_right _ (List.mem_append_right _ (mem_pinsAt hb e)))).1,fun b hb=>?_,w7⟩
      obtain ⟨o,e,d⟩:=T.obj _ _ st5 b hb
      exact (I7.pin (b,o) (List.mem_append_right _ (List.mem_append_right _ (mem_pinsAt hb e)))).2.1
    cases f with
    | next=>obtain ⟨σ7,H7,I7,n7⟩:=q7; exact again I7 n7
    | cont=>obtain ⟨σ7,H7,I7,n7⟩:=q7; exact again I7 n7
    | brk=>obtain ⟨σ7,H7,I7,q7⟩:=q7; exact ⟨σ7,H7,I7.unpinned,q7⟩
    | ret v=>obtain ⟨x7,σ7,H7,I7,r7,q7⟩:=q7; exact ⟨x7,σ7,H7,I7.unpinned,r7,q7⟩
end
theorem for_list {K : PySem.W.Frag} {a : Addr} {xs : List V} {g : TG} {tb : TS} {D : Ends} {σ : St} {H : Hp} (Pv : Nat→St→Hp→Prop) (h0 : Pv 0 σ H) (hl : ∀ i σ H,i≤xs.length→Pv i σ H→SqL K H a xs)
    (hs : ∀ i x σ H,xs[i]? = some x→Pv i σ H→g x σ H fun σ2 H2=>tb { D with nx:=Pv (i + 1),ct:=Pv (i + 1),bk:=D.nx } σ2 H2) (hd : ∀ σ H,Pv xs.length σ H→D.nx σ H) :
    ∃ W : Nat→Nat→St→Hp→Prop,(∃ m,W 0 m σ H)∧∀ i m σ H,W i m σ H→
      ((Itl K a).stop i H∧D.nx σ H)∨((Itl K a).go i H∧∃ N : St→Hp→Prop,(∀ σ' H',N σ' H'→∃ m',m' < m∧W (i + 1) m' σ' H')∧∀ x H',(Itl K a).yld i H x H'→g x σ H' fun σ2 H2=>tb { D with nx:=N,ct:=N,bk:=D.nx } σ2 H2):=by
  refine ⟨fun i m σ H=>m=xs.length - i∧i≤xs.length∧Pv i σ H,⟨xs.length,by simp,Nat.zero_le _,h0⟩,?_⟩
  rintro i m σ H ⟨rfl,hi,p⟩
  have q:=hl i σ H hi p
  by_cases hlt : i < xs.length
  · refine .inr ⟨⟨xs,xs[i],q,by simp [hlt]⟩,Pv (i + 1),fun σ' H' p'=>⟨xs.length - (i + 1),by omega,rfl,hlt,p'⟩,fun x H' y=>?_⟩
    obtain ⟨e,y⟩:=y
    subst e
    exact hs i x σ _ (y xs q) p
  · have e : i=xs.length:=by omega
    subst e
    exact .inl ⟨⟨xs,q,Nat.le_refl _⟩,hd σ H p⟩
theorem for_range {lo : Int} {n : Nat} {g : TG} {tb : TS} {D : Ends} {σ : St} {H : Hp} (Pv : Nat→St→Hp→Prop) (h0 : Pv 0 σ H)
    (hs : ∀ i σ H,i < n→Pv i σ H→g (.int (lo + i)) σ H fun σ2 H2=>tb { D with nx:=Pv (i + 1),ct:=Pv (i + 1),bk:=D.nx } σ2 H2) (hd : ∀ σ H,Pv n σ H→D.nx σ H) :
    ∃ W : Nat→Nat→St→Hp→Prop,(∃ m,W 0 m σ H)∧∀ i m σ H,W i m σ H→
      ((Itr lo n).stop i H∧D.nx σ H)∨((Itr lo n).go i H∧∃ N : St→Hp→Prop,(∀ σ' H',N σ' H'→∃ m',m' < m∧W (i + 1) m' σ' H')∧∀ x H',(Itr lo n).yld i H x H'→g x σ H' fun σ2 H2=>tb { D with nx:=N,ct:=N,bk:=D.nx } σ2 H2):=by
  refine ⟨fun i m σ H=>m=n - i∧i≤n∧Pv i σ H,⟨n,by simp,Nat.zero_le _,h0⟩,?_⟩
  rintro i m σ H ⟨rfl,hi,p⟩
  by_cases hlt : i < n
  · refine .inr ⟨hlt,Pv (i + 1),fun σ' H' p'=>⟨n - (i + 1),by omega,rfl,hlt,p'⟩,fun x H' y=>?_⟩
    obtain ⟨e,y⟩:=y
    subst e y
    exact hs i σ _ hlt p
  · have e : i=n:=by omega
    subst e
    exact .inl ⟨Nat.le_refl _,hd σ H p⟩
theorem while_by {c : TT} {tb : TS} {D : Ends} {σ : St} {H : Hp} (Pv : St→Hp→Prop) (μ : St→Hp→Nat) (h0 : Pv σ H)
    (hs : ∀ σ H,Pv σ H→c σ H fun b H1=>if b=true then tb { D with nx:=fun σ' H'=>Pv σ' H'∧μ σ' H' < μ σ H,ct:=fun σ' H'=>Pv σ' H'∧μ σ' H' < μ σ H,bk:=D.nx } σ H1 else D.nx σ H1)
    (mono : ∀ σ H Q Q',(∀ b H1,Q b H1→Q' b H1)→c σ H Q→c σ H Q') : tWhile c tb D σ H:=by
  refine ⟨fun m σ H=>m=μ σ H∧Pv σ H,⟨_,rfl,h0⟩,?_⟩
  rintro m σ H ⟨rfl,p⟩
  refine mono σ H _ _ (fun b H1 q=>?_) (hs σ H p)
  cases b with
  | true=>exact ⟨_,fun σ' H' ⟨p',l⟩=>⟨_,l,rfl,p'⟩,q⟩
  | false=>exact q
end L2
namespace L2
open PySem PySem.Spec PyProof.Rows
abbrev R2:=V→V→Hp→VK→Prop
def OpR (X : Cx) (f : Value→Value→Sem Value) (r : R2) : Prop:=
  ∀ (pins : List (Addr×Obj)) (s : Shared) (σ : St) (H : Hp) (x y : V) (v u : Value) (Q : VK),Inv X pins σ H s→RelV x v→RelV y u→r x y H Q→
    wpAny (model X.prog X.w) X.A (f v u) (EP X pins σ Q) X.xe s
def UnR (X : Cx) (f : Value→Sem Value) (r : V→Hp→VK→Prop) : Prop:=
  ∀ (pins : List (Addr×Obj)) (s : Shared) (σ : St) (H : Hp) (x : V) (v : Value) (Q : VK),Inv X pins σ H s→RelV x v→r x H Q→
    wpAny (model X.prog X.w) X.A (f v) (EP X pins σ Q) X.xe s
def CallR (X : Cx) (f : Value) (r : List V→Hp→VK→Prop) : Prop:=
  ∀ (pins : List (Addr×Obj)) (s : Shared) (σ : St) (H : Hp) (xs : List V) (us : List Value) (Q : VK),Inv X pins σ H s→Vals xs us→r xs H Q→
    wpAny (model X.prog X.w) X.A (call f us) (EP X pins σ Q) X.xe s
def TruR (X : Cx) (r : V→Hp→(Bool→Hp→Prop)→Prop) : Prop:=
  ∀ (pins : List (Addr×Obj)) (s : Shared) (σ : St) (H : Hp) (x : V) (v : Value) (Q : Bool→Hp→Prop),Inv X pins σ H s→RelV x v→r x H Q→
    wpAny (model X.prog X.w) X.A (truthy v) (TP X pins σ Q) X.xe s
def tOp (r : R2) (ta tb : TE) : TE:=fun σ H Q=>ta σ H fun x H1=>tb σ H1 fun y H2=>r x y H2 Q
def tUn (r : V→Hp→VK→Prop) (ta : TE) : TE:=fun σ H Q=>ta σ H fun x H1=>r x H1 Q
def rI (C : Int→Int→Prop) (g : Int→Int→V) : R2:=fun x y H Q=>∃ i j,x = .int i∧y = .int j∧C i j∧Q (g i j) H
def rI0 (g : Int→Int→V) : R2:=fun x y H Q=>∃ i j,x = .int i∧y = .int j∧Q (g i j) H
def rU (g : Int→V) : V→Hp→VK→Prop:=fun x H Q=>∃ i,x = .int i∧Q (g i) H
section
variable {X : Cx} {a b c : Expr} {ta tb tc : TE} {pos : Pos}
theorem binT (ha : PE X a ta) (hb : PE X b tb) {pins : List (Addr×Obj)} {s : Shared} {σ : St} {H : Hp} {R : V→V→Hp→Prop} (I : Inv X pins σ H s)
    (h : ta σ H fun x H1=>tb σ H1 fun y H2=>R x y H2) {Q : Value→Shared→Prop} {f : Value→Value→Sem Value}
    (hf : ∀ v u s2 x y H2,Inv X pins σ H2 s2→RelV x v→RelV y u→R x y H2→wpAny (model X.prog X.w) X.A (f v u) Q X.xe s2) :
    wpAny (model X.prog X.w) X.A (eval a X.env) (fun v s₁=>wpAny (model X.prog X.w) X.A (eval b X.env) (fun u s₂=>wpAny (model X.prog X.w) X.A (f v u) Q X.xe s₂) X.xe s₁) X.xe s:=by
  refine thn (ha pins s σ H _ I h) fun v s1 ⟨x,H1,I1,r1,q1⟩=>?_
  refine thn (hb pins s1 σ H1 _ I1 q1) fun u s2 ⟨y,H2,I2,r2,q2⟩=>?_
  exact hf v u s2 x y H2 I2 r1 r2 q2
theorem pe_op {op : Operator} {r : R2} (ho : OpR X (binaryOp op) r) (ha : PE X a ta) (hb : PE X b tb) : PE X (.BinOp a op b pos) (tOp r ta tb):=by
  refine ⟨?_⟩
  intro pins s σ H Q I h
  exact wpAny_BinOp (binT ha hb I h fun v u s2 x y H2 I2 rx ry q=>ho pins s2 σ H2 x y v u Q I2 rx ry q)
theorem pe_un {op : UnaryOp} {r : V→Hp→VK→Prop} (ho : UnR X (unaryOp op) r) (ha : PE X a ta) : PE X (.UnaryOp op a pos) (tUn r ta):=by
  refine ⟨?_⟩
  intro pins s σ H Q I h
  exact UnaryOp_ (thn (ha pins s σ H _ I h) fun v s1 ⟨x,H1,I1,r1,q1⟩=>ho pins s1 σ H1 x v Q I1 r1 q1)
theorem opI {f : Value→Value→Sem Value} {C : Int→Int→Prop} {g : Int→Int→Int}
    (rule : ∀ (i j : Int) (t u : Tok) (s : Shared) (Q : Value→Shared→Prop) (E : Value→Shared→Prop),C i j→Q (.int (g i j) s.toks) { s with toks:=s.toks + 1 }→wpAny (model X.prog X.w) X.A (f (.int i t) (.int j u)) Q E s) :
    OpR X f (rI C fun i j=>.int (g i j)):=by
  intro pins s σ H x y v u Q I rx ry h
  obtain ⟨i,j,rfl,rfl,hc,q⟩:=h
  obtain ⟨t,rfl⟩:=rx
  obtain ⟨t',rfl⟩:=ry
  exact rule i j t t' s _ _ hc ⟨.int (g i j),H,I.tok _,⟨_,rfl⟩,q⟩
theorem opI0 {f : Value→Value→Sem Value} {g : Int→Int→Int}
    (rule : ∀ (i j : Int) (t u : Tok) (s : Shared) (Q : Value→Shared→Prop) (E : Value→Shared→Prop),Q (.int (g i j) s.toks) { s with toks:=s.toks + 1 }→wpAny (model X.prog X.w) X.A (f (.int i t) (.int j u)) Q E s) :
    OpR X f (rI0 fun i j=>.int (g i j)):=by
  intro pins s σ H x y v u Q I rx ry h
  obtain ⟨i,j,rfl,rfl,q⟩:=h
  obtain ⟨t,rfl⟩:=rx
  obtain ⟨t',rfl⟩:=ry
  exact rule i j t t' s _ _ ⟨.int (g i j),H,I.tok _,⟨_,rfl⟩,q⟩
theorem opB0 {f : Value→Value→Sem Value} {g : Int→Int→Bool}
    (rule : ∀ (i j : Int) (t u : Tok) (s : Shared) (Q : Value→Shared→Prop) (E : Value→Shared→Prop),Q (.bool (g i j)) s→wpAny (model X.prog X.w) X.A (f (.int i t) (.int j u)) Q E s) :
    OpR X f (rI0 fun i j=>.bl (g i j)):=by
  intro pins s σ H x y v u Q I rx ry h
  obtain ⟨i,j,rfl,rfl,q⟩:=h
  obtain ⟨t,rfl⟩:=rx
  obtain ⟨t',rfl⟩:=ry
  exact rule i j t t' s _ _ ⟨.bl (g i j),H,I,rfl,q⟩
def CPow (i j : Int) : Prop:=0≤j∧j≤1000000∧i.natAbs < 2 ^ 64
def CMul (i j : Int) : Prop:=(-(2 ^ 64) < i∧i < 2 ^ 64)∨(-(2 ^ 64) < j∧j < 2 ^ 64)
theorem CMul.ok {i j : Int} (h : CMul i j) : IntMulOk i j:=by
  rcases h with ⟨h1,h2⟩ | ⟨h1,h2⟩
  · exact .of_left (intBits_le_64 h1 h2)
  · exact .of_right (intBits_le_64 h1 h2)
theorem op_add : OpR X (binaryOp .Add) (rI0 fun i j=>.int (i + j)):=opI0 fun _ _ _ _ _ _ _ q=>add_int q
theorem op_sub : OpR X (binaryOp .Sub) (rI0 fun i j=>.int (i - j)):=opI0 fun _ _ _ _ _ _ _ q=>sub_int q
theorem op_mul : OpR X (binaryOp .Mult) (rI CMul fun i j=>.int (i * j)):=opI fun _ _ _ _ _ _ _ hc q=>mul_int q hc.ok
theorem op_mod : OpR X (binaryOp .Mod) (rI (fun _ j=>0 < j) fun i j=>.int (i % j)):=opI fun i j _ _ _ _ _ hc q=>by
  have h1 : (0 : Int) < j:=hc
  exact mod_int' (by omega) (by rw [Int.fmod_eq_emod_of_nonneg i (by omega)]; exact q)
theorem op_pow : OpR X (binaryOp .Pow) (rI CPow fun i j=>.int (i ^ j.toNat)):=opI fun _ _ _ _ _ _ _ hc q=>pow_int_small hc.1 hc.2.1 hc.2.2 q
theorem unI {f : Value→Sem Value} {g : Int→Int}
    (rule : ∀ (i : Int) (t : Tok) (s : Shared) (Q : Value→Shared→Prop) (E : Value→Shared→Prop),Q (.int (g i) s.toks) { s with toks:=s.toks + 1 }→wpAny (model X.prog X.w) X.A (f (.int i t)) Q E s) :
    UnR X f (rU fun i=>.int (g i)):=by
  intro pins s σ H x v Q I rx h
  obtain ⟨i,rfl,q⟩:=h
  obtain ⟨t,rfl⟩:=rx
  exact rule i t s _ _ ⟨.int (g i),H,I.tok _,⟨_,rfl⟩,q⟩
theorem un_neg : UnR X (unaryOp .USub) (rU fun i=>.int (-i)):=unI fun _ _ _ _ _ q=>neg_int q
end
def scal : V→V→Bool
  | .non,.non=>true | .non,.int _=>true | .int _,.non=>true | .non,.bl _=>true | .bl _,.non=>true | .non,.str _=>true | .str _,.non=>true
  | .int _,.int _=>true | .bl _,.bl _=>true | .str _,.str _=>true | .byt _,.byt _=>true
  | .int _,.str _=>true | .str _,.int _=>true | .bl _,.str _=>true | .str _,.bl _=>true
  | _,_=>false
def rEq : R2:=fun x y H Q=>scal x y=true∧Q (.bl (decide (x=y))) H
def rNe : R2:=fun x y H Q=>scal x y=true∧Q (.bl (!decide (x=y))) H
theorem dec_int {i j : Int} : decide (V.int i=V.int j)=(i == j):=by
  rw [Bool.eq_iff_iff]
  simp
theorem dec_bl {i j : Bool} : decide (V.bl i=V.bl j)=(i == j):=by
  rw [Bool.eq_iff_iff]
  simp
theorem dec_str {i j : Str} : decide (V.str i=V.str j)=(i == j):=by
  rw [Bool.eq_iff_iff]
  simp
theorem dec_byt {i j : Array UInt8} : decide (V.byt i=V.byt j)=(i.toList == j.toList):=by
  rw [Bool.eq_iff_iff]
  cases i
  cases j
  simp
section
variable {X : Cx} {a b c : Expr} {ta tb tc : TE} {pos : Pos}
theorem fin_bl {pins : List (Addr×Obj)} {σ : St} {H : Hp} {s : Shared} {Q : VK} {k k' : Bool} (I : Inv X pins σ H s) (q : Q (.bl k) H) (e : k=k') : EP X pins σ Q (.bool k') s:=by
  subst e
  exact ⟨.bl k,H,I,rfl,q⟩
theorem op_eq : OpR X (compareOp .Eq) rEq:=by
  intro pins s σ H x y v u Q I rx ry h
  obtain ⟨hs,q⟩:=h
  cases x with
  | non=>
    cases rx
    cases y with
    | non=>cases ry; exact PySem.EqNone.eq_none_none (fin_bl I q (by simp))
    | bl j=>cases ry; exact PySem.EqNone.eq_none_bool (fin_bl I q (by simp))
    | int j=>obtain ⟨t',rfl⟩:=ry; exact PySem.EqNone.eq_none_int (fin_bl I q (by simp))
    | str j=>obtain ⟨t',rfl⟩:=ry; exact PySem.EqNone.eq_none_str (fin_bl I q (by simp))
    | _=>exact absurd (show false=true from hs) Bool.false_ne_true
  | bl i=>
    cases rx
    cases y with
    | non=>cases ry; exact PySem.EqNone.eq_bool_none (fin_bl I q (by simp))
    | bl j=>cases ry; exact eq_bool (fin_bl I q dec_bl)
    | str j=>obtain ⟨t',rfl⟩:=ry; exact PySem.EqMixed.eq_bool_str (fin_bl I q (by simp))
    | _=>exact absurd (show false=true from hs) Bool.false_ne_true
  | int i=>
    obtain ⟨t,rfl⟩:=rx
    cases y with
    | non=>cases ry; exact PySem.EqNone.eq_int_none (fin_bl I q (by simp))
    | int j=>obtain ⟨t',rfl⟩:=ry; exact eq_int (fin_bl I q dec_int)
    | str j=>obtain ⟨t',rfl⟩:=ry; exact PySem.EqMixed.eq_int_str (fin_bl I q (by simp))
    | _=>exact absurd (show false=true from hs) Bool.false_ne_true
  | str i=>
    obtain ⟨t,rfl⟩:=rx
    cases y with
    | non=>cases ry; exact PySem.EqNone.eq_str_none (fin_bl I q (by simp))
    | bl j=>cases ry; exact PySem.EqMixed.eq_str_bool (fin_bl I q (by simp))
    | int j=>obtain ⟨t',rfl⟩:=ry; exact PySem.EqMixed.eq_str_int (fin_bl I q (by simp))
    | str j=>obtain ⟨t',rfl⟩:=ry; exact eq_str (fin_bl I q dec_str)
    | _=>exact absurd (show false=true from hs) Bool.false_ne_true
  | byt i=>
    obtain ⟨t,rfl⟩:=rx
    cases y with
    | byt j=>obtain ⟨t',rfl⟩:=ry; exact PySem.W.eq_bytes (fin_bl I q dec_byt)
    | _=>exact absurd (show false=true from hs) Bool.false_ne_true
  | _=>cases y <;> exact absurd (show false=true from hs) Bool.false_ne_true
theorem op_ne : OpR X (compareOp .NotEq) rNe:=by
  intro pins s σ H x y v u Q I rx ry h
  obtain ⟨hs,q⟩:=h
  cases x with
  | non=>
    cases rx
    cases y with
    | non=>cases ry; exact PySem.EqNone.ne_none_none (fin_bl I q (by simp))
    | bl j=>cases ry; exact PySem.EqNone.ne_none_bool (fin_bl I q (by simp))
    | int j=>obtain ⟨t',rfl⟩:=ry; exact PySem.EqNone.ne_none_int (fin_bl I q (by simp))
    | str j=>obtain ⟨t',rfl⟩:=ry; exact PySem.EqNone.ne_none_str (fin_bl I q (by simp))
    | _=>exact absurd (show false=true from hs) Bool.false_ne_true
  | bl i=>
    cases rx
    cases y with
    | non=>cases ry; exact PySem.EqNone.ne_bool_none (fin_bl I q (by simp))
    | bl j=>cases ry; exact ne_bool (fin_bl I q (congrArg not dec_bl))
    | str j=>obtain ⟨t',rfl⟩:=ry; exact PySem.EqMixed.ne_bool_str (fin_bl I q (by simp))
    | _=>exact absurd (show false=true from hs) Bool.false_ne_true
  | int i=>
    obtain ⟨t,rfl⟩:=rx
    cases y with
    | non=>cases ry; exact PySem.EqNone.ne_int_none (fin_bl I q (by simp))
    | int j=>obtain ⟨t',rfl⟩:=ry; exact ne_int (fin_bl I q (congrArg not dec_int))
    | str j=>obtain ⟨t',rfl⟩:=ry; exact PySem.EqMixed.ne_int_str (fin_bl I q (by simp))
    | _=>exact absurd (show false=true from hs) Bool.false_ne_true
  | str i=>
    obtain ⟨t,rfl⟩:=rx
    cases y with
    | non=>cases ry; exact PySem.EqNone.ne_str_none (fin_bl I q (by simp))
    | bl j=>cases ry; exact PySem.EqMixed.ne_str_bool (fin_bl I q (by simp))
    | int j=>obtain ⟨t',rfl⟩:=ry; exact PySem.EqMixed.ne_str_int (fin_bl I q (by simp))
    | str j=>obtain ⟨t',rfl⟩:=ry; exact ne_str (fin_bl I q (congrArg not dec_str))
    | _=>exact absurd (show false=true from hs) Bool.false_ne_true
  | byt i=>
    obtain ⟨t,rfl⟩:=rx
    cases y with
    | byt j=>obtain ⟨t',rfl⟩:=ry; exact PySem.W.ne_bytes (fin_bl I q (congrArg not dec_byt))
    | _=>exact absurd (show false=true from hs) Bool.false_ne_true
  | _=>cases y <;> exact absurd (show false=true from hs) Bool.false_ne_true
theorem op_lt : OpR X (compareOp .Lt) (rI0 fun i j=>.bl (decide (i < j))):=opB0 fun _ _ _ _ _ _ _ q=>lt_int q
theorem op_le : OpR X (compareOp .LtE) (rI0 fun i j=>.bl (decide (i≤j))):=opB0 fun _ _ _ _ _ _ _ q=>le_int q
theorem op_gt : OpR X (compareOp .Gt) (rI0 fun i j=>.bl (decide (j < i))):=opB0 fun _ _ _ _ _ _ _ q=>gt_int q
theorem op_ge : OpR X (compareOp .GtE) (rI0 fun i j=>.bl (decide (j≤i))):=opB0 fun _ _ _ _ _ _ _ q=>ge_int q
theorem op_isN : OpR X (compareOp .Is) (fun x y H Q=>y = .non∧Q (.bl (decide (x = .non))) H):=by
  intro pins s σ H x y v u Q I rx ry h
  obtain ⟨rfl,q⟩:=h
  cases ry
  refine is_none_gen (fin_bl I q ?_)
  cases x <;> first
    | (cases rx; rfl)
    | (obtain ⟨t,rfl⟩:=rx; rfl)
theorem nomark (b : Expr) {op : CmpOp} (h : op≠.In:=by decide) (h2 : op≠.NotIn:=by decide) : behindInMarks op b=false:=by
  have e1 : (op == CmpOp.In)=false:=by cases op <;> first | rfl | exact absurd rfl h
  have e2 : (op == CmpOp.NotIn)=false:=by cases op <;> first | rfl | exact absurd rfl h2
  cases b <;> simp [behindInMarks,e1,e2]
theorem pe_cmpR {op : CmpOp} {r : R2} (ho : OpR X (compareOp op) r) (ha : PE X a ta) (hb : PE X b tb) (hm : behindInMarks op b=false) : PE X (.Compare a [op] [b] pos) (tOp r ta tb):=by
  refine ⟨?_⟩
  intro pins s σ H Q I h
  exact wpAny_Compare1 (binT ha hb I h fun v u s2 x y H2 I2 rx ry q=>ho pins s2 σ H2 x y v u Q I2 rx ry q) hm
def tTest (t : TE) : TT:=fun σ H Q=>t σ H fun x H'=>∃ k,x = .bl k∧Q k H'
theorem pt_cmpR {op : CmpOp} {r : R2} (ho : OpR X (compareOp op) r) (ha : PE X a ta) (hb : PE X b tb) (hm : behindInMarks op b=false) : PT X (.Compare a [op] [b] pos) (tTest (tOp r ta tb)):=by
  refine ⟨?_⟩
  intro pins s σ H Q I h
  refine wpAny_isTrue_Compare1 (thn (ha pins s σ H _ I h) fun v s1 ⟨x,H1,I1,r1,q1⟩=>thn (hb pins s1 σ H1 _ I1 q1) fun u s2 ⟨y,H2,I2,r2,q2⟩=>
    thn (ho pins s2 σ H2 x y v u _ I2 r1 r2 q2) fun c s3 ⟨z,H3,I3,r3,k,e,q3⟩=>?_) hm
  subst e
  cases r3
  exact wpAny_truthy_bool ⟨H3,I3,q3⟩
def tChain (r r' : R2) (ta tb tc : TE) : TE:=fun σ H Q=>ta σ H fun x H1=>tb σ H1 fun y H2=>r x y H2 fun z H3=>∃ k,z = .bl k∧
  (if k=true then tc σ H3 fun w' H4=>r' y w' H4 Q else Q (.bl false) H3)
theorem pe_chain {op op' : CmpOp} {r r' : R2} (ho : OpR X (compareOp op) r) (ho' : OpR X (compareOp op') r') (ha : PE X a ta) (hb : PE X b tb) (hc : PE X c tc)
    (hm : lastMarks [op,op'] [b,c]=false:=by with_unfolding_all rfl) : PE X (.Compare a [op,op'] [b,c] pos) (tChain r r' ta tb tc):=by
  refine ⟨?_⟩
  intro pins s σ H Q I h
  refine Compare_chain (thn (ha pins s σ H _ I h) fun v s1 ⟨x,H1,I1,r1,q1⟩=>chain_link (thn (hb pins s1 σ H1 _ I1 q1) fun u s2 ⟨y,H2,I2,r2,q2⟩=>
    thn (ho pins s2 σ H2 x y v u _ I2 r1 r2 q2) fun d s3 ⟨z,H3,I3,r3,k,e,q3⟩=>?_)) hm
  subst e
  cases r3
  refine wpAny_truthy_bool ?_
  cases k with
  | false=>exact ite_ff ⟨.bl false,H3,I3,rfl,q3⟩
  | true=>exact ite_tt (chain_last (thn (hc pins s3 σ H3 _ I3 q3) fun w' s4 ⟨z',H4,I4,r4,q4⟩=>ho' pins s4 σ H4 y z' u w' Q I4 r2 r4 q4))
theorem pt_chain {op op' : CmpOp} {r r' : R2} (ho : OpR X (compareOp op) r) (ho' : OpR X (compareOp op') r') (ha : PE X a ta) (hb : PE X b tb) (hc : PE X c tc)
    (hm : lastMarks [op,op'] [b,c]=false:=by with_unfolding_all rfl) : PT X (.Compare a [op,op'] [b,c] pos) (tTest (tChain r r' ta tb tc)):=by
  refine ⟨?_⟩
  intro pins s σ H Q I h
  refine isTrue_chain (thn (ha pins s σ H _ I h) fun v s1 ⟨x,H1,I1,r1,q1⟩=>test_link (thn (hb pins s1 σ H1 _ I1 q1) fun u s2 ⟨y,H2,I2,r2,q2⟩=>
    thn (ho pins s2 σ H2 x y v u _ I2 r1 r2 q2) fun d s3 ⟨z,H3,I3,r3,k,e,q3⟩=>?_)) hm
  subst e
  cases r3
  refine wpAny_truthy_bool ?_
  cases k with
  | false=>
    obtain ⟨k',e',q'⟩:=q3
    cases e'
    exact ite_ff ⟨H3,I3,q'⟩
  | true=>
    refine ite_tt (test_last (thn (hc pins s3 σ H3 _ I3 q3) fun w' s4 ⟨z',H4,I4,r4,q4⟩=>thn (ho' pins s4 σ H4 y z' u w' _ I4 r2 r4 q4) fun d' s5 ⟨z2,H5,I5,r5,k2,e2,q5⟩=>?_))
    subst e2
    cases r5
    exact wpAny_truthy_bool ⟨H5,I5,q5⟩
def TruV (K : PySem.W.Frag) (x : V) (H : Hp) (k : Bool) : Prop:=
  match x with
  | .non=>k=false
  | .bl b=>k=b
  | .int i=>k=(i != 0)
  | .str y=>y.length≤sizeLine∧k=((y.length : Int) != 0)
  | .byt y=>y.size≤sizeLine∧k=((y.size : Int) != 0)
  | .ref p=>(∃ xs,SqL K H p xs∧k = !xs.isEmpty)∨(∃ xs,SqT K H p xs∧k = !xs.isEmpty)∨∃ kvs,H p=some (.dK kvs)∧k = !kvs.isEmpty
  | _=>False
theorem isEmpty_kv {κ : Type} {kvs : List (κ×V)} {vs : List (κ×Value)} (r : KV kvs vs) : (!vs.isEmpty) = !kvs.isEmpty:=by
  cases r <;> rfl
theorem isEmpty_of {xs : List V} {its : List Value} (r : Vals xs its) : (!its.toArray.isEmpty) = !xs.isEmpty:=by
  cases r <;> simp
theorem line63 : (sizeLine : Nat) < 2 ^ 63:=by rw [sizeLine_eq]; decide
theorem tru_ok : TruR X (fun x H Q=>∃ k,TruV X.K x H k∧Q k H):=by
  intro pins s σ H x v Q I rx h
  obtain ⟨k,e,q⟩:=h
  have hl:=line63
  have hs : sizeLine=16777216:=sizeLine_eq
  cases x with
  | non=>
    cases rx
    have e' : k=false:=e
    subst e'
    exact truthy_none ⟨H,I,q⟩
  | bl b=>
    cases rx
    have e' : k=b:=e
    subst e'
    exact wpAny_truthy_bool ⟨H,I,q⟩
  | int i=>
    obtain ⟨t,rfl⟩:=rx
    have e' : k=(i != 0):=e
    subst e'
    exact PySem.P.truthy_int ⟨H,I,q⟩
  | str y=>
    obtain ⟨t,rfl⟩:=rx
    obtain ⟨hy,e'⟩ : y.length≤sizeLine∧k=((y.length : Int) != 0):=e
    subst e'
    exact PySem.P.truthy_str (by omega) ⟨H,I.tok _,q⟩
  | byt y=>
    obtain ⟨t,rfl⟩:=rx
    obtain ⟨hy,e'⟩ : y.size≤sizeLine∧k=((y.size : Int) != 0):=e
    subst e'
    exact PySem.W.truthy_bytes (by omega) ⟨H,I.tok _,q⟩
  | ref p=>
    cases rx
    have e' : (∃ xs,SqL X.K H p xs∧k = !xs.isEmpty)∨(∃ xs,SqT X.K H p xs∧k = !xs.isEmpty)∨∃ kvs,H p=some (.dK kvs)∧k = !kvs.isEmpty:=e
    rcases e' with ⟨xs,hx,e'⟩ | ⟨xs,hx,e'⟩ | ⟨kvs,hx,e'⟩
    · subst e'
      obtain ⟨its,r,pl,hz⟩:=I.list hx
      have hlen:=r.length
      exact wpAny_truthy_list pl.isList (by simp only [List.size_toArray]; omega) ⟨H,I.tok _,by rw [isEmpty_of r]; exact q⟩
    · subst e'
      obtain ⟨its,r,pl,hz⟩:=I.tuple hx
      have hlen:=r.length
      exact truthy_tuple pl (by simp only [List.size_toArray]; omega) ⟨H,I.tok _,by rw [isEmpty_of r]; exact q⟩
    · subst e'
      obtain ⟨hz,hS,vs,r,m⟩ : kvs.length≤sizeLine∧(p == sysModules)=false∧∃ vs,KV kvs vs∧s.heap.DictOf (mixKind X.prog X.w) p vs:=I.hok p _ hx
      have hlen : kvs.length=vs.length:=Paired.length r
      exact wpAny_truthy_dict hS m (by omega) ⟨H,I.tok _,by rw [isEmpty_kv r]; exact q⟩
  | _=>exact (show False from e).elim
theorem pt_truth (ha : PE X a ta) (he : ∀ whole,isTrue a X.env whole=(do let v ← whole; standAt a.pos; holding [v] (truthy v))) :
    PT X a (fun σ H Q=>ta σ H fun x H'=>∃ k,TruV X.K x H' k∧Q k H'):=by
  refine ⟨?_⟩
  intro pins s σ H Q I h
  exact isTrue_plain (thn (ha pins s σ H _ I h) fun v s1 ⟨x,H1,I1,r1,q1⟩=>tru_ok pins s1 σ H1 x v Q I1 r1 q1) (he _)
theorem vals1 {x : V} {us : List Value} (r : Vals [x] us) : ∃ u,us=[u]∧RelV x u:=by
  cases r with
  | cons r1 r2=>cases r2; exact ⟨_,rfl,r1⟩
theorem vals2 {x y : V} {us : List Value} (r : Vals [x,y] us) : ∃ u w',us=[u,w']∧RelV x u∧RelV y w':=by
  cases r with
  | cons r1 r2=>
    cases r2 with
    | cons r3 r4=>cases r4; exact ⟨_,_,rfl,r1,r3⟩
theorem call_max2 (hc : X.calm=true) : CallR X (.builtin "max") (fun xs H Q=>∃ i j,xs=[.int i,.int j]∧Q (.int (if j > i then j else i)) H):=by
  intro pins s σ H xs us Q I r h
  obtain ⟨i,j,rfl,q⟩:=h
  obtain ⟨u,w',rfl,⟨t,rfl⟩,⟨t',rfl⟩⟩:=vals2 r
  refine max_two_ints (I.ok.hd hc) fun h' tk k=>⟨_,H,I.kept k,?_,q⟩
  by_cases hj : j > i
  · rw [if_pos hj,if_pos hj]; exact ⟨_,rfl⟩
  · rw [if_neg hj,if_neg hj]; exact ⟨_,rfl⟩
theorem call_min2 (hc : X.calm=true) : CallR X (.builtin "min") (fun xs H Q=>∃ i j,xs=[.int i,.int j]∧Q (.int (if j < i then j else i)) H):=by
  intro pins s σ H xs us Q I r h
  obtain ⟨i,j,rfl,q⟩:=h
  obtain ⟨u,w',rfl,⟨t,rfl⟩,⟨t',rfl⟩⟩:=vals2 r
  refine min_two_ints (I.ok.hd hc) fun h' tk k=>⟨_,H,I.kept k,?_,q⟩
  by_cases hj : j < i
  · rw [if_pos hj,if_pos hj]; exact ⟨_,rfl⟩
  · rw [if_neg hj,if_neg hj]; exact ⟨_,rfl⟩
end
end L2
namespace L2
open PySem PySem.Spec PyProof.Rows
structure ObjM (h : Heap) (x dx C : Addr) (mA : Str→Option Value) : Prop where
  obj : h.get? x=some (PySem.W.instObj C dx)
  ns : h.Ns1 dx mA
  ne : dx≠x
theorem lookIn_ns {h : Heap} {dx : Addr} {mA : Str→Option Value} (n : h.Ns1 dx mA) : ∃ od,h.get? dx=some od∧∀ name,PySem.W.lookIn name od=some (mA name):=by
  obtain ⟨o,es,ep,ho,hd,hk,_,hm⟩:=n
  refine ⟨o,ho,fun name=>?_⟩
  have e:=hm name
  unfold nsFind findBy at e
  rw [← Array.find?_toList] at e
  unfold PySem.W.lookIn
  rw [hd]
  dsimp only
  split
  · rename_i y q
    rw [q] at e
    exact congrArg some e
  · rename_i q
    rw [q] at e
    have a : es.toList.any (·.refKey)=false:=by
      rw [List.any_eq_false]
      intro y hy
      obtain ⟨z,t,hkey⟩:=hk y (Array.mem_toList_iff.mp hy)
      simp [DictEntry.refKey,hkey]
    have a' : ¬ es.toList.any (·.refKey)=true:=by rw [a]; exact Bool.false_ne_true
    rw [if_neg a']
    exact congrArg some e
theorem ObjM.look {h : Heap} {x dx C : Addr} {mA : Str→Option Value} (I : ObjM h x dx C mA) : ∃ od,PySem.W.InstAt h x (PySem.W.instObj C dx) C (some od)∧∀ name,PySem.W.lookIn name od=some (mA name):=
  let ⟨od,ho,hl⟩:=lookIn_ns I.ns
  ⟨od,⟨I.obj,rfl,rfl,ho⟩,hl⟩
section
variable {prog : Program} {w : World} {A : Around} {E : Value→Shared→Prop} {s : Shared} {K : PySem.W.Frag} {x dx C f : Addr} {mA : Str→Option Value} {name : Str} {v : Value}
end
section
variable {P : Program} {w : World} {H H' : Hp} {h h' : Heap} {a C dx : Addr} {fs fs' : List (Str×V)}
theorem ins_get (hok : HOk P w H h) (e : H a=some (.ins C dx fs)) : ∃ mA,ObjM h a dx C mA∧(∀ f,RelO (fs.lookup f) (mA f))∧PySem.Within mA (fs.map (·.1))∧fs.length≤1000∧H dx=some (.own a):=by
  obtain ⟨d,z,ne,ob,mA,n,r,q⟩:=(show ObjOk P w H h a (.ins C dx fs) from hok a _ e)
  exact ⟨mA,⟨ob,n,ne⟩,r,q,z,d⟩
end
structure Cls (K : PySem.W.Frag) (C : Addr) : Prop where
  pg : PySem.W.plainGet K C Str.empty=true
  hd : PySem.W.hasDictIn K C=true
  po : PySem.W.plainOver K C=true
  sa : PySem.W.findIn K (.ref C) "__setattr__" = some (some (.builtin "object.__setattr__"))
theorem Cls.get {K : PySem.W.Frag} {C : Addr} (c : Cls K C) (f : Str) : PySem.W.plainGet K C f=true:=c.pg
section
variable {X : Cx} {pins : List (Addr×Obj)} {σ : St} {H : Hp} {s : Shared} {a C dx : Addr} {fs : List (Str×V)} {f : Str} {v : V} {A : Around} {E : Value→Shared→Prop}
end
section
variable {X : Cx} {o e value : Expr} {f : Str} {pos pos' tpos : Pos} {ta tv : TE}
end
section
variable {X : Cx} {pins : List (Addr×Obj)} {σ : St} {H : Hp} {s : Shared} {A : Around} {E : Value→Shared→Prop} {Q : Value→Shared→Prop} {c : Value} {b : Bool}
inductive TyOf (K : PySem.W.Frag) (H : Hp) : V→Value→Prop where
  | non : TyOf K H .non (.type "NoneType")
  | bl (x : Bool) : TyOf K H (.bl x) (.type "bool")
  | int (i : Int) : TyOf K H (.int i) (.type "int")
  | str (x : Str) : TyOf K H (.str x) (.type "str")
  | flt (x : UInt64) : TyOf K H (.flt x) (.type "float")
  | lst {a : Addr} {xs : List V} (e : H a=some (.lst xs)) : TyOf K H (.ref a) (.type "list")
  | frz {a : Addr} {o : Obj} {xs : List V} (e : H a=some (.frz o (.lst xs))) : TyOf K H (.ref a) (.type "list")
  | tup {a : Addr} {xs : List V} (e : H a=some (.tup xs)) : TyOf K H (.ref a) (.type "tuple")
  | dK {a : Addr} {kvs : List (Key×V)} (e : H a=some (.dK kvs)) : TyOf K H (.ref a) (.type "dict")
  | dT {a : Addr} {kvs : List (List Key×V)} (e : H a=some (.dT kvs)) : TyOf K H (.ref a) (.type "dict")
  | ins {a C dx : Addr} {fs : List (Str×V)} (e : H a=some (.ins C dx fs)) (cl : Cls K C) (ha : PySem.W.findIn K (.ref C) "__class__" = some (some (.builtin "object.__class__")))
      (hn : PySem.W.specialIn K (.builtin "object.__class__") "__get__" = some (some (.builtin "getset_descriptor.__get__"))) (htk : PySem.W.takesIn K (.builtin "object.__class__")=some true)
      (hm : PySem.W.mroIn K C (.type "object")=some true) : TyOf K H (.ref a) (.ref C)
theorem isinst_ok {x : V} {u t : Value} (I : Inv X pins σ H s) (rx : RelV x u) (ty : TyOf X.K H x t) (e : PySem.W.kitOne X.K t c=some b) (h : ∀ tk,Q (.bool b) { s with toks:=tk }) :
    wpAny (model X.prog X.w) A (call (.builtin "isinstance") [u,c]) Q E s:=by
  cases ty with
  | non=>cases (show u=Value.none from rx); exact PySem.W.kia_one PySem.W.kitx_none I.kIn True.intro e (fun z=>nomatch z) h
  | bl y=>cases (show u=Value.bool y from rx); exact PySem.W.kia_one PySem.W.kitx_bool I.kIn True.intro e (fun z=>nomatch z) h
  | int i=>obtain ⟨t,q⟩:=(show ∃ t,u=Value.int i t from rx); cases q; exact PySem.W.kia_one PySem.W.kitx_int I.kIn True.intro e (fun z=>nomatch z) h
  | str y=>obtain ⟨t,q⟩:=(show ∃ t,u=Value.str y t from rx); cases q; exact PySem.W.kia_one PySem.W.kitx_str I.kIn True.intro e (fun z=>nomatch z) h
  | flt y=>obtain ⟨t,q⟩:=(show ∃ t,u=Value.float y t from rx); cases q; exact PySem.W.kia_one PySem.W.kitx_float I.kIn True.intro e (fun z=>nomatch z) h
  | @lst a xs ea=>
    cases (show u=Value.ref a from rx)
    obtain ⟨_,_,n,_,h1⟩:=(show ObjOk X.prog X.w H s.heap a (.lst xs) from I.hok a _ ea)
    exact PySem.W.kia_one PySem.W.kitx_list I.kIn ⟨_,h1,rfl⟩ e (fun z=>nomatch z) h
  | @frz a ob xs ea=>
    cases (show u=Value.ref a from rx)
    obtain ⟨_,_,_,n,_,h1⟩:=(show ObjOk X.prog X.w H s.heap a (.frz ob (.lst xs)) from I.hok a _ ea)
    exact PySem.W.kia_one PySem.W.kitx_list I.kIn ⟨_,h1,rfl⟩ e (fun z=>nomatch z) h
  | @tup a xs ea=>
    cases (show u=Value.ref a from rx)
    obtain ⟨_,_,_,p⟩:=(show ObjOk X.prog X.w H s.heap a (.tup xs) from I.hok a _ ea)
    obtain ⟨o,h1,h2,_⟩:=p
    exact PySem.W.kia_one PySem.W.kitx_tuple I.kIn ⟨o,h1,h2⟩ e (fun z=>nomatch z) h
  | @dK a kvs ea=>
    cases (show u=Value.ref a from rx)
    obtain ⟨_,_,vs,_,p⟩:=(show ObjOk X.prog X.w H s.heap a (.dK kvs) from I.hok a _ ea)
    obtain ⟨o,es,ep,h1,h2,_⟩:=p
    exact PySem.W.kia_one PySem.W.kitx_dict I.kIn ⟨o,h1,h2.1⟩ e (fun z=>nomatch z) h
  | @dT a kvs ea=>
    cases (show u=Value.ref a from rx)
    obtain ⟨_,_,xs,_,o,es,ep,h1,h2,_⟩:=(show ObjOk X.prog X.w H s.heap a (.dT kvs) from I.hok a _ ea)
    exact PySem.W.kia_one PySem.W.kitx_dict I.kIn ⟨o,h1,h2.1⟩ e (fun z=>nomatch z) h
  | @ins a C dx fs ea cl ha hn htk hm=>
    cases (show u=Value.ref a from rx)
    obtain ⟨mA,O,_⟩:=ins_get I.hok ea
    obtain ⟨od,J,_⟩:=O.look
    exact PySem.W.kia_one (PySem.W.kitx_own (cl.get _) cl.hd ha hn htk hm) I.kIn J e (fun z=>nomatch z) h
end
end L2
namespace L2
open PySem PySem.Spec PyProof.Rows
structure Room (k : Nat) (A : Around) : Prop where
  hd : A.handled=none
  dp : A.depth + 3 * k + 5 < recursionLimit
  un : A.units + 16 * k + 200 < cLine
theorem Room.mono {j k : Nat} {A : Around} (r : Room k A) (h : j≤k) : Room j A:=⟨r.hd,by have:=r.dp; omega,by have:=r.un; omega⟩
theorem Room.deeper {k : Nat} {A : Around} (r : Room (k + 1) A) (env : Env) : Room k (A.deeper env):=
  ⟨r.hd,by have:=r.dp; show A.depth + 1 + 3 * k + 5 < _; omega,by have:=r.un; show A.units + 3 + 16 * k + 200 < _; omega⟩
theorem Room.depth {k : Nat} {A : Around} (r : Room k A) : A.depth < recursionLimit:=by have:=r.dp; omega
theorem Room.units {k : Nat} {A : Around} (r : Room k A) : A.units + 64 < cLine:=by have:=r.un; omega
def tNil : TA:=fun _ H Q=>Q [] H
def tCons (ta : TE) (tr : TA) : TA:=fun σ H Q=>ta σ H fun x H1=>tr σ H1 fun xs H2=>Q (x :: xs) H2
section
variable {X : Cx} {e : Expr} {es : List Expr} {te : TE} {t : TA} {pos : Pos}
theorem pa_nil : PA X [] tNil:=⟨fun _ _ _ _ H Q I h=>Calls.spliced_nil ⟨[],H,I,.nil,h⟩⟩
theorem pa_cons (ha : PE X e te) (hr : PA X es t) (hs : starEach (e :: es) X.env=(false,eval e X.env) :: starEach es X.env:=by rfl) : PA X (e :: es) (tCons te t):=by
  refine ⟨?_⟩
  intro pos pins s σ H Q I h
  rw [hs]
  show wpAny _ _ (spliced ((false,eval e X.env) :: backTo pos (starEach es X.env))) _ _ s
  refine Calls.spliced_cons (thn (ha pins s σ H _ I h) fun u s1 ⟨x,H1,I1,r1,q1⟩=>?_)
  exact thn (hr pos pins s1 σ H1 _ I1 q1) fun us s2 ⟨xs,H2,I2,r2,q2⟩=>⟨x :: xs,H2,I2,.cons r1 r2,q2⟩
def tTup (t : TA) : TE:=fun σ H Q=>t σ H fun xs H1=>xs.length≤sizeLine∧∀ p,H1 p=none→Q (.ref p) (upd H1 p (.tup xs))
def tLst (t : TA) : TE:=fun σ H Q=>t σ H fun xs H1=>xs.length≤sizeLine∧∀ p,H1 p=none→Q (.ref p) (upd H1 p (.lst xs))
theorem pe_tup {x1} (h : PA X es t) : PE X (.Tuple es x1 pos) (tTup t):=by
  refine ⟨?_⟩
  intro pins s σ H Q I hq
  refine wpAny_Tuple_spliced (thn (h pos pins s σ H _ I hq) fun us s1 ⟨xs,H1,I1,r,z,q⟩=>⟨by rw [← r.length]; exact z,?_⟩)
  have hf : H1 s1.heap.objs.size=none:=I1.hok.fresh (Nat.le_refl _)
  refine ⟨.ref s1.heap.objs.size,upd H1 s1.heap.objs.size (.tup xs),I1.laid (t':=s1.toks) (fun b u e=>Heap.get?_push_of_some _ e) (Nat.le_refl _) ?_,rfl,q _ hf⟩
  exact ⟨z,us,r,⟨_,Heap.get?_push_size _ rfl,rfl,_,rfl⟩⟩
theorem pe_lst (h : PA X es t) : PE X (.List es pos) (tLst t):=by
  refine ⟨?_⟩
  intro pins s σ H Q I hq
  refine wpAny_List_spliced (thn (h pos pins s σ H _ I hq) fun us s1 ⟨xs,H1,I1,r,z,q⟩=>⟨by rw [← r.length]; exact z,?_⟩)
  have hf : H1 s1.heap.objs.size=none:=I1.hok.fresh (Nat.le_refl _)
  refine ⟨.ref s1.heap.objs.size,upd H1 s1.heap.objs.size (.lst xs),I1.laid (t':=s1.toks) (fun b u e=>Heap.get?_push_of_some _ e) (Nat.le_refl _) ?_,rfl,q _ hf⟩
  exact ⟨z,us,0,r,Heap.get?_push_size _ rfl⟩
end
abbrev Sp:=List V→Hp→VK→XK→Prop
abbrev CXT:=List Env→Hp→Shared→XK→Value→Shared→Prop
structure Env0 (P : Program) (w : World) (K : PySem.W.Frag) (mg : Str→Option Value) (base : Heap) (A : Around) (outer : List Env) (s : Shared) (H : Hp) : Prop where
  frames : A.frames=some outer
  mod : Mod K mg base
  bs : ∀ b o,base.get? b=some o→s.heap.get? b=some o∧H b=none
  bsz : base.objs.size≤s.heap.objs.size
  funs : s.heap.FunFrames base outer
  frf : ∀ b∈frs outer,H b=none
  hok : HOk P w H s.heap
  bare : AllBare s.gens
def CE (outer : List Env) (P : Program) (w : World) (H : Hp) (s : Shared) (Q : VK) (u : Value) (s' : Shared) : Prop:=
  ∃ v H',s'.os=s.os∧AllBare s'.gens∧Un (frs outer) [] H H' s.heap s'.heap∧HOk P w H' s'.heap∧RelV v u∧Q v H'
def CR (CX : CXT) (outer : List Env) (P : Program) (w : World) (H : Hp) (s : Shared) (Q : VK) (E : XK) (r : Result) (s' : Shared) : Prop:=
  match r with
  | .ok (.ret u)=>CE outer P w H s Q u s'
  | .ok _=>False
  | .error e=>CX outer H s E e s'
structure FnOk (P : Program) (w : World) (K : PySem.W.Frag) (mg : Str→Option Value) (base : Heap) (CX : CXT) (k : Nat) (f : Addr) (fd : FuncData) (ps : List Str) (sp : Sp) : Prop where
  len : ∀ vs H Q E,sp vs H Q E→vs.length=ps.length
  run : ∀ (A : Around) (outer : List Env) (s : Shared) (H : Hp) (args : Args) (us : List Value) (vs : List V) (Q : VK) (E : XK),Room k A→Env0 P w K mg base A outer s H→BindsTo s fd args (ps.zip us)→Vals vs us→sp vs H Q E→
    codeAny (model P w) A (.call (.ref f) args) (CR CX outer P w H s Q E) s
theorem FnOk.mono {P : Program} {w : World} {K : PySem.W.Frag} {mg : Str→Option Value} {base : Heap} {CX : CXT} {j k : Nat} {f : Addr} {fd : FuncData} {ps : List Str} {sp : Sp} (F : FnOk P w K mg base CX j f fd ps sp) (h : j≤k) :
    FnOk P w K mg base CX k f fd ps sp:=⟨F.len,fun A outer s H args us vs Q E hr=>F.run A outer s H args us vs Q E (hr.mono h)⟩
section
variable {X : Cx} {pins : List (Addr×Obj)} {σ : St} {H : Hp} {s s' : Shared}
theorem Inv.env0 (I : Inv X pins σ H s) : Env0 X.prog X.w X.K X.mg X.base X.A X.stack s H:=
  ⟨I.ok.frames,I.ok.mod,I.bs,Nat.le_trans I.ok.bsz I.sz,I.stack,I.stkFree,I.hok,I.bare⟩
theorem Inv.after {Q : VK} {u : Value} (I : Inv X pins σ H s) (h : CE X.stack X.prog X.w H s Q u s') : EP X pins σ Q u s':=by
  obtain ⟨v,H',os,bare,un,hok,r,q⟩:=h
  obtain ⟨hh,g,d,t,os'⟩:=s'
  obtain rfl : os' = s.os:=os
  exact ⟨v,H',I.call (h':=hh) (g':=g) (d':=d) (t':=t) (ch:=[]) un hok bare (fun b z=>absurd z (by simp)),r,q⟩
end
def tCall (sp : Sp) (dvs : List V) (E : XK) (t : TA) : TE:=fun σ H Q=>t σ H fun vs H1=>sp (vs ++ dvs) H1 Q E
def Binds (K : PySem.W.Frag) (fd : FuncData) (ps : List Str) (ds : List Value) : Prop:=
  ∀ (s : Shared) (us : List Value),K.In s.heap→(us ++ ds).length=ps.length→BindsTo s fd ⟨us,[]⟩ (ps.zip (us ++ ds))
theorem Binds.all {K : PySem.W.Frag} {fd : FuncData} {ps : List Str} (h : ∀ us : List Value,us.length=ps.length→bindArgs fd ⟨us,[]⟩=pure (ps.zip us)) : Binds K fd ps []:=fun s us _ hl=>by
  rw [List.append_nil] at hl ⊢
  exact .of_eq (h us hl)
def Passes (CX : CXT) (X : Cx) (E : XK) : Prop:=∀ (pins : List (Addr×Obj)) (σ : St) (H : Hp) (s : Shared) (e : Value) (s' : Shared),Inv X pins σ H s→CX X.stack H s E e s'→X.xe e s'
section
variable {X : Cx} {CX : CXT} {k : Nat} {f C : Addr} {fd : FuncData} {ps : List Str} {sp : Sp} {dvs : List V} {ds : List Value} {E : XK} {x m : Str} {p pos apos : Pos} {e o : Expr} {es : List Expr} {ta : TE} {t : TA}
theorem run_fn {pins : List (Addr×Obj)} {σ : St} {H : Hp} {s : Shared} {Q : VK} {us : List Value} {vs : List V} (F : FnOk X.prog X.w X.K X.mg X.base CX k f fd ps sp) (hr : Room k X.A) (hb : Binds X.K fd ps ds) (hd : Vals dvs ds) (hx : Passes CX X E)
    (I : Inv X pins σ H s) (r : Vals vs us) (h : sp (vs ++ dvs) H Q E) : wpAny (model X.prog X.w) X.A (call (.ref f) us) (EP X pins σ Q) X.xe s:=by
  have r2 : Vals (vs ++ dvs) (us ++ ds):=r.append hd
  have hl : (us ++ ds).length=ps.length:=by rw [← r2.length]; exact F.len _ _ _ _ h
  refine wpAny_call (codeAny_mono (F.run X.A X.stack s H ⟨us,[]⟩ (us ++ ds) (vs ++ dvs) Q E hr I.env0 (hb s us I.kIn hl) r2 h) fun r s' hq=>?_)
  cases r with
  | error e=>exact hx pins σ H s e s' I hq
  | ok fl=>
    cases fl with
    | ret u=>exact I.after hq
    | next=>exact False.elim hq
    | brk=>exact False.elim hq
    | cont=>exact False.elim hq
theorem pe_call (F : FnOk X.prog X.w X.K X.mg X.base CX k f fd ps sp) (hr : Room k X.A) (hg : Gl X x) (hm : X.mg x=some (.ref f)) (hk : PySem.W.keepIn X.K (.ref f)=true) (hb : Binds X.K fd ps ds) (hd : Vals dvs ds) (hx : Passes CX X E)
    (ha : PA X (e :: es) t) (hdb : (x == ("__debug__" : Str))=false:=by decide) (he : starEach (e :: es) X.env=(false,eval e X.env) :: starEach es X.env:=by rfl) (hpl : (backTo pos (starEach es X.env)).any (·.1)=false:=by rfl) :
    PE X (.Call (.Name x p) (e :: es) [] pos) (tCall sp dvs E t):=by
  refine ⟨?_⟩
  intro pins s σ H Q I h
  refine wpAny_Call_Name_kw (ld_glob I hg hm ?_ hdb)
  refine PySem.W.callWith_K (h₀:=X.base) I.ok.mod.kin hk (thn (ha pos pins s σ H _ I h) fun us s1 ⟨vs,H1,I1,r,q⟩=>⟨I1.kIn,?_⟩) he hpl
  exact run_fn F hr hb hd hx I1 r q
end
section
variable {X : Cx} {CX : CXT} {k : Nat} {f C : Addr} {fd : FuncData} {ps ks : List Str} {sp : Sp} {E : XK} {x m : Str} {p pos apos kpos : Pos} {e o : Expr} {es : List Expr} {kws : List Keyword} {te ta : TE} {t tk : TA} {nm : Option Str}
variable {g : List Value→List Value→List Value} {gV : List V→List V→List V}
end
structure FnScope (N P : List Str) (sc : Scope) : Prop where
  kind : sc.kind = .function
  co : sc.isCoroutine=false
  gen : sc.isGenerator=false
  nd : N.Nodup
  pre : N.take P.length=P
  par : ∀ x∈P,sc.names.lookup x=some .local∨sc.names.lookup x=some .cell
  nofree : ∀ y∈sc.names,y.2≠.free
theorem bindL_out {kindOf : Str→Option NameKind} {x : Str} : ∀ {binds : List (Str×Value)} {m : Str→Option Value},(∀ v,(x,v) ∉ binds)→bindL kindOf binds m x=m x
  | [],_,_=>rfl
  | (n,v) :: r,m,h=>by
    unfold bindL
    rw [bindL_out fun w hw=>h w (List.mem_cons_of_mem _ hw)]
    split
    · have : x≠n:=by rintro rfl; exact h v List.mem_cons_self
      simp [this]
    · rfl
theorem bindC_out {kindOf : Str→Option NameKind} {x : Str} : ∀ {binds : List (Str×Value)} {m : Str→Option Value},(∀ v,(x,v) ∉ binds)→bindC kindOf binds m x=m x
  | [],_,_=>rfl
  | (n,v) :: r,m,h=>by
    unfold bindC
    rw [bindC_out fun w hw=>h w (List.mem_cons_of_mem _ hw)]
    split
    · rfl
    · have : x≠n:=by rintro rfl; exact h v List.mem_cons_self
      simp [this]
theorem bindL_get {kindOf : Str→Option NameKind} {x : Str} {v : Value} : ∀ {P : List Str} {vs : List Value} {i : Nat} {m : Str→Option Value},P.Nodup→P[i]? = some x→vs[i]? = some v→kindOf x=some .local→
    bindL kindOf (P.zip vs) m x=some v
  | [],_,_,_,_,h,_,_=>by simp at h
  | _ :: _,[],_,_,_,_,h,_=>by simp at h
  | p :: P,w :: vs,0,m,nd,h1,h2,hk=>by
    simp at h1 h2; subst h1; subst h2
    show bindL kindOf ((p,w) :: P.zip vs) m p=_
    unfold bindL
    rw [bindL_out fun v hv=>(List.nodup_cons.mp nd).1 (List.of_mem_zip hv).1,if_pos hk]
    simp
  | p :: P,w :: vs,i + 1,m,nd,h1,h2,hk=>by
    show bindL kindOf ((p,w) :: P.zip vs) m x=_
    unfold bindL
    exact bindL_get (i:=i) (List.nodup_cons.mp nd).2 (by simpa using h1) (by simpa using h2) hk
theorem bindC_get {kindOf : Str→Option NameKind} {x : Str} {v : Value} : ∀ {P : List Str} {vs : List Value} {i : Nat} {m : Str→Option Value},P.Nodup→P[i]? = some x→vs[i]? = some v→kindOf x≠some .local→
    bindC kindOf (P.zip vs) m x=some v
  | [],_,_,_,_,h,_,_=>by simp at h
  | _ :: _,[],_,_,_,_,h,_=>by simp at h
  | p :: P,w :: vs,0,m,nd,h1,h2,hk=>by
    simp at h1 h2; subst h1; subst h2
    show bindC kindOf ((p,w) :: P.zip vs) m p=_
    unfold bindC
    rw [bindC_out fun v hv=>(List.nodup_cons.mp nd).1 (List.of_mem_zip hv).1,if_neg hk]
    simp
  | p :: P,w :: vs,i + 1,m,nd,h1,h2,hk=>by
    show bindC kindOf ((p,w) :: P.zip vs) m x=_
    unfold bindC
    exact bindC_get (i:=i) (List.nodup_cons.mp nd).2 (by simpa using h1) (by simpa using h2) hk
def start (N : List Str) (vs : List V) : St:=vs.map some ++ List.replicate (N.length - vs.length) none
def cxOf (CX : CXT) (P : Program) (w : World) (K : PySem.W.Frag) (mg : Str→Option Value) (base : Heap) (N : List Str) (qual : Str) (scope : Scope) (f : Addr) (cd : Value) (A : Around) (outer : List Env) (s : Shared) (H : Hp) (E : XK) : Cx where
  prog:=P
  w:=w
  K:=K
  mg:=mg
  base:=base
  A:=A.deeper (envOfC qual scope s.heap.objs.size f cd)
  N:=N
  s₀:=s
  H₀:=H
  env:=envOfC qual scope s.heap.objs.size f cd
  outer:=outer
  stack:=envOfC qual scope s.heap.objs.size f cd :: outer
  ex:=[]
  calm:=true
  fn:=fun _=>true
  pn:=[]
  xe:=fun e s'=>wpAny (model P w) (A.deeper (envOfC qual scope s.heap.objs.size f cd)) (leaving (envOfC qual scope s.heap.objs.size f cd) e) (fun _ s''=>CX outer H s E e s'') (fun e' s''=>CX outer H s E e' s'') s'
theorem cell_has {sc : Scope} {n : Nat} {x : Str} (h : sc.names.lookup x=some .cell) : ∃ c,(cellsFrom n sc.names []).lookup x=some c:=by
  have q:=PySem.W.cellsFrom_some sc.names n [] (.inl h)
  exact Option.isSome_iff_exists.mp q
theorem inv_start {CX : CXT} {P : Program} {w : World} {K : PySem.W.Frag} {mg : Str→Option Value} {base : Heap} {N ps : List Str} {qual : Str} {scope : Scope} {f : Addr} {cd : Value} {A : Around} {outer : List Env} {s s1 : Shared} {H : Hp} {E : XK} {us : List Value} {vs : List V}
    (S : FnScope N ps scope) (hd : A.handled=none) (e0 : Env0 P w K mg base A outer s H) (hl : vs.length=ps.length) (r : Vals vs us)
    (x : InCallC s s.heap.objs.size (bindL (envOfC qual scope s.heap.objs.size f cd).kindOf (ps.zip us) fun _=>none) (cellsFrom (s.heap.objs.size + 1) scope.names []) (bindC (envOfC qual scope s.heap.objs.size f cd).kindOf (ps.zip us) fun _=>none) s1) :
    Inv (cxOf CX P w K mg base N qual scope f cd A outer s H E) [] (start N vs) H s1:=by
  have hpl : ps.length≤N.length:=by have:=congrArg List.length S.pre; rw [List.length_take] at this; omega
  obtain ⟨h1,tk,rfl,hk⟩:=x.done
  have noA : ∀ b : Addr,b ∉ (cxOf CX P w K mg base N qual scope f cd A outer s H E).ex:=fun b z=>absurd (show b∈([] : List Addr) from z) (by simp)
  refine ⟨⟨e0.mod,S.kind,rfl,rfl,Nat.le_refl _,fun y z c h1 h2=>?_,fun y hy=>?_,fun y c _ h=>?_,fun _=>hd,Around.frames_deeper e0.frames,.inr ⟨rfl,rfl⟩,fun b z=>absurd z (noA b),e0.bs,e0.bsz,fun b _ _=>noA b,fun b z=>absurd z (noA b),e0.funs,e0.frf⟩,
    rfl,e0.bare,Un.kept hk,⟨_,x.toInCall.ns,fun i y v h1 h2 h3=>?_⟩,fun y c h=>⟨_,x.cell y c h⟩,e0.hok.fresh (Nat.le_refl _),fun y c h=>?_,fun p hp=>absurd (show p∈([] : List (Addr×Obj)) from hp) (by simp),e0.hok.kept hk,?_⟩
  · exact name_of_addr x.apart (PySem.mem_of_lookup h1) (PySem.mem_of_lookup h2)
  · have hy : scope.names.lookup y=some .cell∨scope.names.lookup y=some .free:=hy
    rcases hy with hy | hy
    · exact cell_has hy
    · exact absurd rfl (S.nofree _ (PySem.mem_of_lookup hy))
  · exact Nat.le_of_lt (x.above y c (PySem.mem_of_lookup h))
  · have hi : i < vs.length:=by
      unfold start at h2
      by_cases hi : i < vs.length
      · exact hi
      · rw [List.getElem?_append_right (by simpa using hi)] at h2
        rw [List.getElem?_replicate] at h2
        split at h2 <;> cases h2
    have ha : vs[i]? = some v:=by
      unfold start at h2
      rw [List.getElem?_append_left (by simpa using hi),List.getElem?_map] at h2
      cases e : vs[i]? with
      | none=>rw [e] at h2; cases h2
      | some a=>rw [e] at h2; cases h2; rfl
    obtain ⟨u,hu,rv⟩:=r.get ha
    have hp : ps[i]? = some y:=by
      rw [← S.pre,List.getElem?_take_of_lt (by omega)]; exact h1
    have ndP : ps.Nodup:=by rw [← S.pre]; exact S.nd.sublist (List.take_sublist _ _)
    refine ⟨u,rv,?_⟩
    rcases S.par y (List.mem_of_getElem? hp) with k | k
    · exact .inl ⟨k,bindL_get ndP hp hu k⟩
    · obtain ⟨c,e⟩:=cell_has (n:=s.heap.objs.size + 1) k
      refine .inr ⟨.inl k,c,e,?_⟩
      have q:=x.cell y c e
      rw [bindC_get ndP hp hu (by show scope.names.lookup y≠_; rw [k]; decide)] at q
      exact q
  · exact e0.hok.fresh (Nat.le_of_lt (x.above y c (PySem.mem_of_lookup h)))
  · unfold start
    show _=N.length
    rw [List.length_append,List.length_map,List.length_replicate]
    omega
theorem fn_of {CX : CXT} {P : Program} {w : World} {K : PySem.W.Frag} {mg : Str→Option Value} {base : Heap} {k : Nat} {f : Addr} {name qual : Str} {params : Arguments} {body : List Stmt} {scope : Scope} {dV kV doc pm cdv ct oc : Value} {an od : Option Addr}
    {osl : Array (Option Value)} {N ps : List Str} {sp : Sp} (lk : K.lookup f=some ⟨oc,od,.func (PySem.W.fnOf name qual params body scope dV kV doc pm an cdv ct),osl⟩) (hcd : PySem.W.codeIn K cdv qual=true) (S : FnScope N ps scope)
    (len : ∀ vs H Q E,sp vs H Q E→vs.length=ps.length)
    (hbody : ∀ (A : Around) (outer : List Env) (s : Shared) (H : Hp) (vs : List V) (Q : VK) (E : XK),Room k (A.deeper (envOfC qual scope s.heap.objs.size f cdv))→sp vs H Q E→
      ∃ t,PSs (cxOf CX P w K mg base N qual scope f cdv A outer s H E) body t∧t { nx:=fun _ H'=>Q .non H',rt:=Q } (start N vs) H) :
    FnOk P w K mg base CX (k + 1) f (PySem.W.fnOf name qual params body scope dV kV doc pm an cdv ct) ps sp:=by
  refine ⟨len,fun A outer s H args us vs Q E hr e0 hb r hsp=>?_⟩
  have hl:=len _ _ _ _ hsp
  have KX : K.In s.heap:=e0.mod.kin.keeps fun b o e=>(e0.bs b o e).1
  have lim : s.heap.NoLimit:=e0.mod.nolimit.keeps fun b o e=>(e0.bs b o e).1
  have hkind : ∀ y∈ps.zip us,scope.names.lookup y.1=some .local∨(scope.names.lookup y.1=some .cell∧((cellsFrom (s.heap.objs.size + 1) scope.names []).lookup y.1).isSome=true):=fun ⟨n,v⟩ hy=>by
    rcases S.par n (List.of_mem_zip hy).1 with q | q
    · exact .inl q
    · exact .inr ⟨q,PySem.W.cellsFrom_some _ _ _ (.inl q)⟩
  refine codeAny_call_function hr.depth (KX _ _ lk) rfl S.co S.gen rfl (PySem.W.codeRec_of KX hcd) (hb _ _ _ _ ?_)
  refine wpAny_newFunctionEnv_cells S.kind hkind fun env he s1 x=>?_
  subst he
  refine ⟨lim.keeps x.toInCall.keep,codeAny_func ?_⟩
  obtain ⟨t,ht,hq⟩:=hbody A outer s H vs Q E (hr.deeper _) hsp
  have I : Inv (cxOf CX P w K mg base N qual scope f cdv A outer s H E) [] (start N vs) H s1:=inv_start S hr.hd e0 hl r x
  refine wpAny_mono (ht [] s1 (start N vs) H _ I hq) (fun fl s' hs=>?_) fun e s' hs=>hs
  have fin : ∀ {σ' : St} {H' : Hp} {v : V} {u : Value},Inv (cxOf CX P w K mg base N qual scope f cdv A outer s H E) [] σ' H' s'→RelV v u→Q v H'→CE outer P w H s Q u s':=
    fun {σ' H' v u} J rv q=>⟨v,H',J.os,J.bare,J.base,J.hok,rv,q⟩
  cases fl with
  | ret u=>
    obtain ⟨v,σ',H',J,rv,q⟩:=hs
    exact fin J rv q
  | next=>
    obtain ⟨σ',H',J,q⟩:=hs
    exact fin (v:=V.non) (u:=Value.none) J rfl q
  | brk=>
    obtain ⟨_,_,_,q⟩:=hs
    exact False.elim q
  | cont=>
    obtain ⟨_,_,_,q⟩:=hs
    exact False.elim q
end L2
namespace L2
open PySem PySem.Spec PyProof.Rows
section
variable {X : Cx} {x : Str} {p pos : Pos} {e : Expr} {es : List Expr} {t : TA} {id T : String} {r : List V→Hp→VK→Prop}
def tCB (r : List V→Hp→VK→Prop) (t : TA) : TE:=fun σ H Q=>t σ H fun vs H1=>r vs H1 Q
theorem pe_callB (hc : CallR X (.builtin id) r) (hg : Gl X x) (hm : X.mg x=none) (hv : bootBuiltins x=some (.builtin id)) (ha : PA X (e :: es) t) (hn : x ≠ "__name__" := by decide) (hdb : (x == ("__debug__" : Str))=false:=by decide)
    (he : starEach (e :: es) X.env=(false,eval e X.env) :: starEach es X.env:=by rfl) (hpl : (backTo pos (starEach es X.env)).any (·.1)=false:=by rfl) : PE X (.Call (.Name x p) (e :: es) [] pos) (tCB r t):=by
  refine ⟨?_⟩
  intro pins s σ H Q I h
  refine wpAny_Call_Name_kw (ld_blt I hg hm hv ?_ hn hdb)
  exact PyProof.Rows.callWith_builtin1 (thn (ha pos pins s σ H _ I h) fun us s1 ⟨vs,H1,I1,r1,q1⟩=>hc pins s1 σ H1 vs us Q I1 r1 q1) he hpl
theorem pe_callTy (hc : CallR X (.type T) r) (hg : Gl X x) (hm : X.mg x=none) (hv : bootBuiltins x=some (.type T)) (ha : PA X (e :: es) t) (hn : x ≠ "__name__" := by decide) (hdb : (x == ("__debug__" : Str))=false:=by decide)
    (he : starEach (e :: es) X.env=(false,eval e X.env) :: starEach es X.env:=by rfl) (hpl : (backTo pos (starEach es X.env)).any (·.1)=false:=by rfl) : PE X (.Call (.Name x p) (e :: es) [] pos) (tCB r t):=by
  refine ⟨?_⟩
  intro pins s σ H Q I h
  refine wpAny_Call_Name_kw (ld_blt I hg hm hv ?_ hn hdb)
  exact PyProof.Rows.callWith_type1 (thn (ha pos pins s σ H _ I h) fun us s1 ⟨vs,H1,I1,r1,q1⟩=>hc pins s1 σ H1 vs us Q I1 r1 q1) he hpl
end
end L2
namespace HT
open PySem PyProof.Rows
section
open PySem.SeqAt
open PySem.AutoSeq1 (wpAny_loadPart')
open PySem.MeetsSeq PySem.MeetsSeq2 PySem.MeetsSeq3
end
section
variable {prog : Program} {w : World} {A : Around} {E : Value→Shared→Prop} {s : Shared}
def sIx (n d : Nat) : Option Int→Nat
  | none=>d
  | some v=>if v < 0 then (v + (n : Int)).toNat else min v.toNat n
end
end HT
namespace L2
open PySem PySem.Spec PyProof.Rows
abbrev TO:=St→Hp→(Option Int→Hp→Prop)→Prop
def PO0 (X : Cx) (e : Option Expr) (t : TO) : Prop:=
  ∀ (pins : List (Addr×Obj)) (s : Shared) (σ : St) (H : Hp) (Q : Option Int→Hp→Prop),Inv X pins σ H s→t σ H Q→
    wpAny (model X.prog X.w) X.A (evalPart e X.env) (fun u s'=>∃ o H',Inv X pins σ H' s'∧IsPart u o∧Q o H') X.xe s
structure PO (X : Cx) (e : Option Expr) (t : TO) : Prop where
  out : PO0 X e t
instance {X : Cx} {e : Option Expr} {t : TO} : CoeFun (PO X e t) (fun _=>PO0 X e t):=⟨PO.out⟩
def tNoPart : TO:=fun _ H Q=>Q none H
def tPart (t : TE) : TO:=fun σ H Q=>t σ H fun x H1=>∃ i,x = .int i∧Q (some i) H1
section
variable {X : Cx} {e : Expr} {te : TE} {lo hi : Option Expr} {tl th : TO} {pos p2 : Pos}
theorem po_none : PO X none tNoPart:=by
  refine ⟨?_⟩
  intro pins s σ H Q I h
  rw [evalPart_none]
  exact wpAny_pure ⟨none,H,I,.none,h⟩
theorem po_some (h : PE X e te) : PO X (some e) (tPart te):=by
  refine ⟨?_⟩
  intro pins s σ H Q I hw
  rw [evalPart_some]
  refine thn (h pins s σ H _ I hw) fun u s1 ⟨x,H1,I1,r1,q1⟩=>?_
  obtain ⟨i,rfl,q⟩:=q1
  obtain ⟨t,rfl⟩:=r1
  exact ⟨some i,H1,I1,.int i t,q⟩
def SlR (X : Cx) (r : V→Option Int→Option Int→Hp→VK→Prop) : Prop:=
  ∀ (pins : List (Addr×Obj)) (s : Shared) (σ : St) (H : Hp) (x : V) (v vl vu : Value) (lo hi : Option Int) (sl : Addr) (Q : VK),Inv X pins σ H s→RelV x v→s.heap.IsSliceOf sl vl vu .none→IsPart vl lo→IsPart vu hi→r x lo hi H Q→
    ∃ T id,typeLookup (.type T) "__getitem__" = pure (some (.builtin id))∧s.TypeIs v T∧wpAny (model X.prog X.w) X.A (getItem v (.ref sl)) (EP X pins σ Q) X.xe s
def tSl (r : V→Option Int→Option Int→Hp→VK→Prop) (te : TE) (tl th : TO) : TE:=fun σ H Q=>te σ H fun x H1=>tl σ H1 fun l H2=>th σ H2 fun u H3=>r x l u H3 Q
theorem pe_slice {r : V→Option Int→Option Int→Hp→VK→Prop} (hr : SlR X r) (he : PE X e te) (hl : PO X lo tl) (hu : PO X hi th) : PE X (.Subscript e (.Slice lo hi none p2) pos) (tSl r te tl th):=by
  refine ⟨?_⟩
  intro pins s σ H Q I h
  refine Subscript_ (thn (he pins s σ H _ I h) fun v s1 ⟨x,H1,I1,r1,q1⟩=>?_)
  refine wpAny_Slice (thn (hl pins s1 σ H1 _ I1 q1) fun vl s2 ⟨l,H2,I2,pl,q2⟩=>thn (hu pins s2 σ H2 _ I2 q2) fun vu s3 ⟨u,H3,I3,pu,q3⟩=>?_)
  rw [evalPart_none]
  refine wpAny_pure ?_
  have I4 : Inv X pins σ H3 { s3 with heap:=s3.heap.push { cls:=.type "slice",data:=.fields #[vl,vu,.none] } }:=I3.kept (t':=s3.toks) fun b ob q=>Heap.get?_push_of_some _ q
  obtain ⟨T,id,hT,ht,hg⟩:=hr pins { s3 with heap:=s3.heap.push { cls:=.type "slice",data:=.fields #[vl,vu,.none] } } σ H3 x v vl vu l u s3.heap.objs.size Q I4 r1 (Heap.IsSliceOf.new ..) pl pu q3
  show wpAny (model X.prog X.w) X.A (subscriptTail e (.Slice lo hi none p2) v (.ref s3.heap.objs.size)) (EP X pins σ Q) X.xe { s3 with heap:=s3.heap.push { cls:=.type "slice",data:=.fields #[vl,vu,.none] } }
  exact tail_any (ops:=[.ref s3.heap.objs.size,v]) ht hT hg (by with_unfolding_all rfl)
def cutV (xs : List V) (lo hi : Option Int) : List V:=(xs.drop (HT.sIx xs.length 0 lo)).take (HT.sIx xs.length xs.length hi - HT.sIx xs.length 0 lo)
theorem cutV_length (xs : List V) (lo hi : Option Int) : (cutV xs lo hi).length≤xs.length:=by
  unfold cutV
  rw [List.length_take,List.length_drop]
  omega
end
end L2
namespace L2
open PySem PySem.Spec PyProof.Rows
def ixN (n : Nat) (i : Int) : Option Nat:=if 0≤i then (if i < n then some i.toNat else none) else if -(n : Int)≤i then some (i + n).toNat else none
def atI {α : Type} (xs : List α) (i : Int) : Option α:=(ixN xs.length i).bind fun j=>xs[j]?
theorem ixN_seq {n : Nat} {i : Int} {j : Nat} (h : ixN n i=some j) : seqIndex? i n=some j∧j < n∧-(n : Int)≤i∧i < n:=by
  unfold ixN at h
  by_cases h0 : 0≤i
  · rw [if_pos h0] at h
    by_cases h1 : i < n
    · rw [if_pos h1] at h
      have e : i.toNat=j:=Option.some.inj h
      exact ⟨by rw [seqIndex_of h0 h1,e],by omega,by omega,h1⟩
    · rw [if_neg h1] at h; cases h
  · rw [if_neg h0] at h
    by_cases h1 : -(n : Int)≤i
    · rw [if_pos h1] at h
      have e : (i + n).toNat=j:=Option.some.inj h
      exact ⟨by rw [seqIndex_neg (by omega) h1,e],by omega,h1,by omega⟩
    · rw [if_neg h1] at h; cases h
theorem atI_get {α : Type} {xs : List α} {i : Int} {v : α} (h : atI xs i=some v) : ∃ j,seqIndex? i xs.length=some j∧xs[j]? = some v∧j < xs.length∧-(xs.length : Int)≤i∧i < xs.length:=by
  unfold atI at h
  cases e : ixN xs.length i with
  | none=>rw [e] at h; cases h
  | some j=>
    rw [e] at h
    obtain ⟨h1,h2,h3,h4⟩:=ixN_seq e
    exact ⟨j,h1,h,h2,h3,h4⟩
theorem atI_nat {α : Type} {xs : List α} {j : Nat} {v : α} (h : xs[j]? = some v) : atI xs (j : Int)=some v:=by
  have hj : j < xs.length:=(List.getElem?_eq_some_iff.mp h).1
  have e : ixN xs.length (j : Int)=some j:=by
    unfold ixN
    rw [if_pos (by omega),if_pos (by omega)]; simp
  unfold atI; rw [e]; exact h
def PlainIx (b : Expr) : Prop:=∀ o i,subscripted b false o i=operate [o,i] (getItem o i)
def IxR (X : Cx) (r : R2) : Prop:=
  ∀ (value slice : Expr) (pins : List (Addr×Obj)) (s : Shared) (σ : St) (H : Hp) (x y : V) (v u : Value) (Q : VK),Inv X pins σ H s→RelV x v→RelV y u→r x y H Q→
    subscripted slice false v u=operate [v,u] (getItem v u)→wpAny (model X.prog X.w) X.A (subscriptTail value slice v u) (EP X pins σ Q) X.xe s
def MtR (X : Cx) (id : String) (r : V→List V→Hp→VK→Prop) : Prop:=
  ∀ (pins : List (Addr×Obj)) (s : Shared) (σ : St) (H : Hp) (x : V) (xs : List V) (v : Value) (us : List Value) (Q : VK),Inv X pins σ H s→RelV x v→Vals xs us→r x xs H Q→
    wpAny (model X.prog X.w) X.A (call (.builtin id) (v :: us)) (EP X pins σ Q) X.xe s
section
variable {X : Cx} {a b : Expr} {ta tb : TE} {pos : Pos}
theorem pe_ix {r : R2} (hr : IxR X r) (ha : PE X a ta) (hb : PE X b tb) (hs : PlainIx b) : PE X (.Subscript a b pos) (tOp r ta tb):=by
  refine ⟨?_⟩
  intro pins s σ H Q I h
  exact Subscript_ (binT ha hb I h fun v u s2 x y H2 I2 rx ry q=>hr a b pins s2 σ H2 x y v u Q I2 rx ry q (hs _ _))
def rIxL (K : PySem.W.Frag) : R2:=fun x y H Q=>∃ p xs i v,x = .ref p∧y = .int i∧SqL K H p xs∧atI xs i=some v∧Q v H
def rIxT (K : PySem.W.Frag) : R2:=fun x y H Q=>∃ p xs i v,x = .ref p∧y = .int i∧SqT K H p xs∧atI xs i=some v∧Q v H
theorem ix_list : IxR X (rIxL X.K):=by
  intro value slice pins s σ H x y v u Q I rx ry h hs
  obtain ⟨p,xs,i,z,rfl,rfl,hq,he,q⟩:=h
  cases rx
  obtain ⟨t,rfl⟩:=ry
  obtain ⟨its,r,pl,hz⟩:=I.list hq
  obtain ⟨j,h1,h2,h3,h4,h5⟩:=atI_get he
  obtain ⟨w,ew,rw'⟩:=r.get h2
  have hl:=r.length
  have hn:=line63
  have fin : EP X pins σ Q w s:=⟨z,H,I,rw',q⟩
  by_cases h0 : 0≤i
  · have hj : i.toNat=j:=by
      rw [seqIndex_of h0 h5] at h1
      exact Option.some.inj h1
    exact item_listR pl.isList h0 (by omega) (by rw [hj]; simpa using ew) fin hs
  · have hj : (i + (its.toArray.size : Int)).toNat=j:=by
      rw [seqIndex_neg (by omega) h4] at h1
      rw [List.size_toArray,← hl]
      exact Option.some.inj h1
    exact subscriptTail_builtinR (x:=w) pl.isList.typeIs slot_list_getitem.lookup
      (wpAny_getItem_list_neg (Q:=fun r s'=>r=w∧EP X pins σ Q r s') pl.isList (by omega) (by rw [List.size_toArray] <;> omega) (by omega) (by rw [hj]; simpa using ew) ⟨rfl,fin⟩) hs
theorem ix_tup : IxR X (rIxT X.K):=by
  intro value slice pins s σ H x y v u Q I rx ry h hs
  obtain ⟨p,xs,i,z,rfl,rfl,hq,he,q⟩:=h
  cases rx
  obtain ⟨t,rfl⟩:=ry
  obtain ⟨its,r,pl,hz⟩:=I.tuple hq
  obtain ⟨j,h1,h2,h3,h4,h5⟩:=atI_get he
  obtain ⟨w,ew,rw'⟩:=r.get h2
  have hl:=r.length
  have hn:=line63
  have fin : EP X pins σ Q w s:=⟨z,H,I,rw',q⟩
  exact subscriptTail_builtinR (x:=w) pl.typeIs slot_tuple_getitem.lookup
    (getItem_tuple (j:=j) (Q:=fun r s'=>r=w∧EP X pins σ Q r s') pl (by omega) (by omega) (by rw [List.size_toArray,← hl]; exact h1) (by simpa using ew) ⟨rfl,fin⟩) hs
theorem mapSeq_set (its : List Value) (n j : Nat) (u : Value) : Obj.mapSeq (·.setIfInBounds j u) { cls:=.type "list",data:=.seq its.toArray n } = { cls:=.type "list",data:=.seq (its.set j u).toArray n }:=by
  simp [Obj.mapSeq]
theorem Inv.lst {pins : List (Addr×Obj)} {σ : St} {H : Hp} {s : Shared} {p : Addr} {xs : List V} (I : Inv X pins σ H s) (h : H p=some (.lst xs)) :
    ∃ (its : List Value) (n : Nat),Vals xs its∧s.heap.get? p=some { cls:=.type "list",data:=.seq its.toArray n }∧xs.length≤sizeLine:=by
  obtain ⟨z,its,n,r,e⟩:=I.hok p _ h
  exact ⟨its,n,r,e,z⟩
theorem Inv.lstUpd {pins : List (Addr×Obj)} {σ : St} {H : Hp} {s : Shared} {p : Addr} {xs ys : List V} {its its' : List Value} {n n' : Nat} {f : Obj→Obj} (I : Inv X pins σ H s) (h : H p=some (.lst xs))
    (ho : s.heap.get? p=some { cls:=.type "list",data:=.seq its.toArray n }) (hf : f { cls:=.type "list",data:=.seq its.toArray n } = { cls:=.type "list",data:=.seq its'.toArray n' }) (r : Vals ys its') (hz : ys.length≤sizeLine) (t : Nat) :
    Inv X pins σ (upd H p (.lst ys)) { s with heap:=s.heap.update p f,toks:=t }:=by
  have e : (s.heap.update p f).get? p=some { cls:=.type "list",data:=.seq its'.toArray n' }:=by
    rw [Heap.get?_update_self f ho (by rw [hf] <;> rfl),hf]
  refine I.write (x:=p) (e:=p) (by rw [h]; trivial) (.inl rfl) (fun b u hb q=>(Heap.get?_update_other _ _ (Ne.symm hb)).trans q) ⟨_,e⟩ ?_
  exact ⟨hz,its',n',r,e⟩
def rSetL : V→V→V→Hp→(Hp→Prop)→Prop:=fun o i v H Q=>∃ p xs k j,o = .ref p∧i = .int k∧H p=some (.lst xs)∧ixN xs.length k=some j∧Q (upd H p (.lst (xs.set j v)))
theorem set_list : PSet X rSetL:=by
  intro pins s σ H o i v ov iv u Q I ro ri rv h
  obtain ⟨p,xs,k,j,rfl,rfl,hp,hj,q⟩:=h
  cases ro
  obtain ⟨t,rfl⟩:=ri
  obtain ⟨its,n,r,ho,hz⟩:=I.lst hp
  obtain ⟨h1,h2,h3,h4⟩:=ixN_seq hj
  have hl:=r.length
  have hn:=line63
  have I' : Inv X pins σ (upd H p (.lst (xs.set j v))) { s with heap:=s.heap.update p (Obj.mapSeq (·.setIfInBounds j u)) }:=
    I.lstUpd hp ho (mapSeq_set its n j u) (r.set rv j) (by rw [List.length_set]; exact hz) s.toks
  by_cases h0 : 0≤k
  · have hk : k.toNat=j:=by
      rw [seqIndex_of h0 h4] at h1
      exact Option.some.inj h1
    exact PySem.W.ki_setAt ho h0 (by omega) (by rw [List.size_toArray,← hl]; exact h4) (by rw [hk]; exact ⟨_,I',q⟩)
  · have hk : (k + (its.toArray.size : Int)).toNat=j:=by
      rw [seqIndex_neg (by omega) h3] at h1
      rw [List.size_toArray,← hl]
      exact Option.some.inj h1
    exact PySem.W.ki_setBack ho (by omega) (by rw [List.size_toArray,← hl]; exact h3) (by omega) (by rw [hk]; exact ⟨_,I',q⟩)
theorem slice_bounds (lo hi : Option Int) (n : Nat) : (sliceBounds lo hi none n).1=((HT.sIx n 0 lo : Nat) : Int)∧(sliceBounds lo hi none n).2.1=((HT.sIx n n hi : Nat) : Int)∧(sliceBounds lo hi none n).2.2=1:=by
  refine ⟨?_,?_,rfl⟩
  · cases lo with
    | none=>simp [sliceBounds,HT.sIx]
    | some i=>
      simp only [sliceBounds,HT.sIx,Option.getD_none,show (1 : Int) > 0 by decide,if_true]
      by_cases h : i < 0
      · simp only [h,if_true] <;> omega
      · simp only [h,if_false] <;> omega
  · cases hi with
    | none=>simp [sliceBounds,HT.sIx]
    | some i=>
      simp only [sliceBounds,HT.sIx,Option.getD_none,show (1 : Int) > 0 by decide,if_true]
      by_cases h : i < 0
      · simp only [h,if_true] <;> omega
      · simp only [h,if_false] <;> omega
theorem slicePick_cut (its : List Value) (lo hi : Option Int) : slicePick its.toArray lo hi none=((its.drop (HT.sIx its.length 0 lo)).take (HT.sIx its.length its.length hi - HT.sIx its.length 0 lo)).toArray:=by
  obtain ⟨h1,h2,h3⟩:=slice_bounds lo hi its.toArray.size
  unfold slicePick
  rw [h1,h2,h3]
  simp only [sliceRange_one,pick_run,List.size_toArray] <;> rfl
def rSlL (K : PySem.W.Frag) : V→Option Int→Option Int→Hp→VK→Prop:=fun x lo hi H Q=>∃ a xs,x = .ref a∧SqL K H a xs∧∀ p,H p=none→Q (.ref p) (upd H p (.lst (cutV xs lo hi)))
theorem sl_list : SlR X (rSlL X.K):=by
  intro pins s σ H x v vl vu lo hi sl Q I rx hs pl pu h
  obtain ⟨a,xs,rfl,hx,q⟩:=h
  cases rx
  obtain ⟨its,r,ht,hz⟩:=I.list hx
  have hlen:=r.length
  refine ⟨"list",_,slot_list_getitem.lookup,ht.isList.typeIs,?_⟩
  refine wpAny_getItem_list_slice ht.isList hs pl pu .none (by simp) ?_ (by rw [List.size_toArray] <;> omega)
  rw [slicePick_cut,← hlen]
  refine ⟨.ref s.heap.objs.size,_,I.laid (t':=s.toks) (o:=.lst (cutV xs lo hi)) (fun b ob q=>Heap.get?_push_of_some _ q) (Nat.le_refl _) ?_,rfl,q _ (I.hok.fresh (Nat.le_refl _))⟩
  exact ⟨Nat.le_trans (cutV_length xs lo hi) hz,_,0,(r.drop (HT.sIx xs.length 0 lo)).take (HT.sIx xs.length xs.length hi - HT.sIx xs.length 0 lo),Heap.get?_push_size _ rfl⟩
def flatV : V→Bool
  | .non=>true
  | .bl _=>true
  | .int _=>true
  | .str _=>true
  | _=>false
def eqV : V→V→Bool
  | .non,.non=>true
  | .bl a,.bl b=>a == b
  | .bl a,.int b=>(if a then 1 else 0) == b
  | .int a,.bl b=>a == (if b then 1 else 0)
  | .int a,.int b=>a == b
  | .str a,.str b=>a == b
  | _,_=>false
theorem eqAt_V {A : Around} {s : Shared} {y x : V} {u v : Value} (ry : RelV y u) (rx : RelV x v) (fy : flatV y=true) (fx : flatV x=true) : SeqAt.EqAt A s u v (eqV y x):=by
  cases y with
  | non=>
    cases ry
    cases x with
    | non=>cases rx; exact SeqAt.EqAt.same _
    | bl b=>cases rx; exact SeqAt.EqAt.none_bool b
    | int b=>obtain ⟨t,rfl⟩:=rx; exact SeqAt.EqAt.none_int b t
    | str b=>obtain ⟨t,rfl⟩:=rx; exact SeqAt.EqAt.none_str b t
    | _=>exact absurd (show false=true from fx) Bool.false_ne_true
  | bl a=>
    cases ry
    cases x with
    | non=>cases rx; exact SeqAt.EqAt.bool_none a
    | bl b=>cases rx; exact SeqAt.EqAt.bool_bool a b
    | int b=>obtain ⟨t,rfl⟩:=rx; exact SeqAt.EqAt.bool_int a b t
    | str b=>obtain ⟨t,rfl⟩:=rx; exact SeqAt.EqAt.bool_str a b t
    | _=>exact absurd (show false=true from fx) Bool.false_ne_true
  | int a=>
    obtain ⟨t',rfl⟩:=ry
    cases x with
    | non=>cases rx; exact SeqAt.EqAt.int_none a t'
    | bl b=>cases rx; exact SeqAt.EqAt.int_bool a t' b
    | int b=>obtain ⟨t,rfl⟩:=rx; exact SeqAt.EqAt.int_int a t' b t
    | str b=>obtain ⟨t,rfl⟩:=rx; exact SeqAt.EqAt.int_str a t' b t
    | _=>exact absurd (show false=true from fx) Bool.false_ne_true
  | str a=>
    obtain ⟨t',rfl⟩:=ry
    cases x with
    | non=>cases rx; exact SeqAt.EqAt.str_none a t'
    | bl b=>cases rx; exact SeqAt.EqAt.str_bool a t' b
    | int b=>obtain ⟨t,rfl⟩:=rx; exact SeqAt.EqAt.str_int a t' b t
    | str b=>obtain ⟨t,rfl⟩:=rx; exact SeqAt.EqAt.str_str a t' b t
    | _=>exact absurd (show false=true from fx) Bool.false_ne_true
  | _=>exact absurd (show false=true from fy) Bool.false_ne_true
theorem call_len_seq : CallR X (.builtin "len") (fun xs H Q=>∃ p ys,xs=[.ref p]∧(SqL X.K H p ys∨SqT X.K H p ys)∧Q (.int ys.length) H):=by
  intro pins s σ H xs us Q I r h
  obtain ⟨p,ys,rfl,hq,q⟩:=h
  obtain ⟨u,rfl,rx⟩:=vals1 r
  cases rx
  have hn:=line63
  rcases hq with hq | hq
  · obtain ⟨its,r',pl,hz⟩:=I.list hq
    have hlen:=r'.length
    exact Calls.call_len_list pl.isList (by simp only [List.size_toArray] <;> omega) ⟨.int ys.length,H,I.tok _,⟨s.toks + 1,by rw [List.size_toArray,hlen]⟩,q⟩
  · obtain ⟨its,r',pl,hz⟩:=I.tuple hq
    have hlen:=r'.length
    exact len_tuple pl (by simp only [List.size_toArray] <;> omega) ⟨.int ys.length,H,I.tok _,⟨s.toks + 1,by rw [List.size_toArray,hlen]⟩,q⟩
theorem call_list_of : CallR X (.type "list") (fun xs H Q=>∃ p ys,xs=[.ref p]∧(SqL X.K H p ys∨SqT X.K H p ys)∧∀ l,H l=none→Q (.ref l) (upd H l (.lst ys))):=by
  intro pins s σ H xs us Q I r h
  obtain ⟨p,ys,rfl,hq,q⟩:=h
  obtain ⟨u,rfl,rx⟩:=vals1 r
  cases rx
  have fin : ∀ (its : List Value),Vals ys its→ys.length≤sizeLine→∀ (h' : Heap) (c' : Nat),(∀ b o',s.heap.get? b=some o'→h'.get? b=some o')→
      h'.get? s.heap.objs.size=some { cls:=.type "list",dict:=none,data:=.seq its.toArray c',slots:=#[] }→EP X pins σ Q (.ref s.heap.objs.size) { s with heap:=h' }:=fun its r' hz h' c' kp e =>
    ⟨.ref s.heap.objs.size,_,I.laid (t':=s.toks) kp (Nat.le_refl _) (show ObjOk X.prog X.w _ h' _ (.lst ys) from ⟨hz,its,c',r',e⟩),rfl,q _ (I.hok.fresh (Nat.le_refl _))⟩
  rcases hq with hq | hq
  · obtain ⟨its,r',pl,hz⟩:=I.list hq
    have hlen:=r'.length
    obtain ⟨o,ho,hc,n,hd⟩:=pl.isList
    exact call_list_seq p (.inl rfl) ho hc hd (fun h' c' kp e=>fin its r' hz h' c' kp e) (by simp only [List.size_toArray] <;> omega)
  · obtain ⟨its,r',pl,hz⟩:=I.tuple hq
    have hlen:=r'.length
    obtain ⟨o,ho,hc,n,hd⟩:=pl
    exact call_list_seq p (.inr rfl) ho hc hd (fun h' c' kp e=>fin its r' hz h' c' kp e) (by simp only [List.size_toArray] <;> omega)
def tyV (K : PySem.W.Frag) (T : String) (x : V) (H : Hp) : Prop:=match x with
  | .str _=>T = "str"
  | .int _=>T = "int"
  | .ref p=>(T = "list" ∧ ∃ xs,SqL K H p xs)∨(T = "tuple" ∧ ∃ o,K.lookup p=some o∧o.cls = .type "tuple" ∧ o.dict=none) ∨
      (T = "dict" ∧ ((∃ kvs,H p=some (.dK kvs))∨∃ kvs,H p=some (.dT kvs)))∨(T = "set" ∧ ∃ S n,H p=some (.set S n))
  | _=>False
theorem tyV_is {pins : List (Addr×Obj)} {σ : St} {H : Hp} {s : Shared} {T : String} {x : V} {v : Value} (I : Inv X pins σ H s) (r : RelV x v) (ty : tyV X.K T x H) :
    s.TypeIs v T∧∀ a,v = .ref a→∃ ob,s.heap.get? a=some ob∧ob.dict=none:=by
  cases x with
  | str z=>
    obtain ⟨t,rfl⟩:=r
    cases (show T = "str" from ty)
    exact ⟨typeIs_str s z t,fun _ e=>nomatch e⟩
  | int i=>
    obtain ⟨t,rfl⟩:=r
    cases (show T = "int" from ty)
    exact ⟨typeIs_int s i t,fun _ e=>nomatch e⟩
  | ref p=>
    cases r
    rcases ty with ⟨rfl,xs,hq⟩ | ⟨rfl,o,hk,hc,hd⟩ | ⟨rfl,hk⟩ | ⟨rfl,S,n,hk⟩
    · obtain ⟨its,_,pl,_⟩:=I.list hq
      refine ⟨pl.isList.typeIs,fun a e=>?_⟩
      cases e
      obtain ⟨o,n,e,c,hd,_⟩:=pl
      exact ⟨o,e,hd⟩
    · refine ⟨⟨o,I.kIn p o hk,hc⟩,fun a e=>?_⟩
      cases e
      exact ⟨o,I.kIn _ o hk,hd⟩
    · have z : ∃ o,s.heap.get? p=some o∧o.ExactDict:=by
        rcases hk with ⟨kvs,hk⟩ | ⟨kvs,hk⟩
        · obtain ⟨_,_,_,_,o,_,_,e,ex,_⟩:=I.hok p _ hk
          exact ⟨o,e,ex⟩
        · obtain ⟨_,_,_,_,o,_,_,e,ex,_⟩:=I.hok p _ hk
          exact ⟨o,e,ex⟩
      obtain ⟨o,e,ex⟩:=z
      refine ⟨⟨o,e,ex.1⟩,fun a e2=>?_⟩
      cases e2
      exact ⟨o,e,ex.2.1⟩
    · obtain ⟨o,_,_,_,e,ex,_⟩:=I.hok p _ hk
      refine ⟨⟨o,e,ex.1⟩,fun a e2=>?_⟩
      cases e2
      exact ⟨o,e,ex.2.1⟩
  | _=>exact False.elim ty
def tBM (K : PySem.W.Frag) (T : String) (r : V→List V→Hp→VK→Prop) (to : TE) (t : TA) : TE:=fun σ H Q=>to σ H fun x H1=>tyV K T x H1∧t σ H1 fun xs H2=>r x xs H2 Q
variable {o e : Expr} {es : List Expr} {to : TE} {t : TA} {name : Str} {apos cpos : Pos} {T id : String} {r : V→List V→Hp→VK→Prop}
theorem pe_bm (pa : PlainAttrs T) (slot : Slot T name id) (hty : typeOf (.builtin id)=pure (.type "method_descriptor")) (hm : MtR X id r) (ho : PE X o to) (ha : PA X (e :: es) t)
    (hbase : attributeBase o name X.env (eval o X.env)=eval o X.env:=by rfl)
    (hfew : ((backTo cpos (starEach (e :: es) X.env)).all (fun x=>!x.1) && (backToKw cpos (keywordEach [] X.env)).all (fun x=>x.1.isSome)
      && decide ((e :: es).length + ([] : List Keyword).length + (if ([] : List Keyword).isEmpty then 0 else 1) < 30))=true:=by rfl)
    (hline : (apos.endLine == cpos.line)=true:=by rfl) (hs : starEach (e :: es) X.env=(false,eval e X.env) :: starEach es X.env:=by rfl) (hplain : (backTo cpos (starEach es X.env)).any (·.1)=false:=by rfl) :
    PE X (.Call (.Attribute o name apos) (e :: es) [] cpos) (tBM X.K T r to t):=by
  refine ⟨?_⟩
  intro pins s σ H Q I h
  refine wpAny_Call_method_late hbase hfew hline rfl (thn (ho pins s σ H _ I h) fun v s1 ⟨x,H1,I1,r1,ty,q1⟩=>?_)
  obtain ⟨h1,h2⟩:=tyV_is I1 r1 ty
  refine ⟨T,id,pa,slot,hty,h1,h2,?_⟩
  have hA:=ha cpos pins s1 σ H1 _ I1 q1
  rw [hs] at hA ⊢
  refine Calls.callWith_builtin (by show (false || (backTo cpos (starEach es X.env)).any (·.1))=false; rw [hplain] <;> rfl) (Calls.evalArgs_plain ?_)
  exact thn hA fun us s2 ⟨vs,H2,I2,r2,q2⟩=>hm pins s2 σ H2 x vs v us Q I2 r1 r2 q2
end
end L2
namespace L2
open PySem PySem.Spec PyProof.Rows
def MtM (X : Cx) (id : String) (r : V→List V→Hp→VK→Prop) : Prop:=
  ∀ (pins : List (Addr×Obj)) (s : Shared) (σ : St) (H : Hp) (x : V) (xs : List V) (v : Value) (us : List Value) (Q : VK),Inv X pins σ H s→RelV x v→Vals xs us→r x xs H Q→
    wpAny (model X.prog X.w) X.A (call (.builtin id) (v :: us)) (EP X pins σ Q) X.xe s
theorem Vals.one : ∀ {x : V} {us : List Value},Vals [x] us→∃ u,us=[u]∧RelV x u
  | _,_,.cons r .nil=>⟨_,rfl,r⟩
theorem Vals.two : ∀ {x y : V} {us : List Value},Vals [x,y] us→∃ u v,us=[u,v]∧RelV x u∧RelV y v
  | _,_,_,.cons r (.cons q .nil)=>⟨_,_,rfl,r,q⟩
theorem Vals.rep {xs : List V} {us : List Value} (h : Vals xs us) : ∀ k : Nat,Vals (List.replicate k xs).flatten (List.replicate k us).flatten
  | 0=>.nil
  | k + 1=>by
    rw [List.replicate_succ,List.replicate_succ,List.flatten_cons,List.flatten_cons]
    exact Vals.append h (Vals.rep h k)
theorem foldl_rep (its : List Value) : ∀ (k : Nat) (acc : List Value),
    List.foldl (fun x1 x2=>x1 ++ x2) acc.toArray (List.replicate k its.toArray)=(acc ++ (List.replicate k its).flatten).toArray
  | 0,acc=>by simp
  | k + 1,acc=>by
    have e : acc.toArray ++ its.toArray=(acc ++ its).toArray:=by simp
    have e2 : (acc ++ its) ++ (List.replicate k its).flatten=acc ++ (List.replicate (k + 1) its).flatten:=by
      rw [List.replicate_succ,List.flatten_cons,List.append_assoc]
    rw [← e2,← foldl_rep its k (acc ++ its),← e,List.replicate_succ,List.foldl_cons]
section
variable {X : Cx} {pins : List (Addr×Obj)} {σ : St} {H : Hp} {s : Shared} {l b : Addr} {xs ys zs : List V}
theorem Inv.lset {its its' : List Value} {n : Nat} {f : Array Value→Array Value} {t' : Nat} (I : Inv X pins σ H s) (hH : H l=some (.lst xs))
    (e : s.heap.get? l=some { cls:=.type "list",data:=.seq its.toArray n }) (hf : f its.toArray=its'.toArray) (hv : Vals ys its') (hz : ys.length≤sizeLine) :
    Inv X pins σ (upd H l (.lst ys)) { s with heap:=s.heap.update l (Obj.mapSeq f),toks:=t' }:=by
  have q:=PySem.IsL.update e f
  rw [hf] at q
  refine I.write (x:=l) (e:=l) (by rw [hH]; exact trivial) (.inl rfl) (fun b' u hb hu=>(Heap.get?_update_other s.heap (Obj.mapSeq f) (Ne.symm hb)).trans hu) ⟨_,q⟩ ?_
  exact ⟨hz,its',_,hv,q⟩
theorem Inv.lnew {its : List Value} {t' : Nat} (I : Inv X pins σ H s) (hv : Vals ys its) (hz : ys.length≤sizeLine) :
    Inv X pins σ (upd H s.heap.objs.size (.lst ys)) { s with heap:=s.heap.push { cls:=.type "list",data:=.seq its.toArray },toks:=t' } :=
  I.laid (fun _ _ q=>Heap.get?_push_of_some _ q) (Nat.le_refl _) ⟨hz,its,0,hv,Heap.get?_push_size _ rfl⟩
theorem Inv.fresh (I : Inv X pins σ H s) : H s.heap.objs.size=none:=I.hok.fresh (Nat.le_refl _)
theorem Inv.lstM (I : Inv X pins σ H s) (hH : H l=some (.lst xs)) : xs.length≤sizeLine∧∃ (its : List Value) (n : Nat),Vals xs its∧xs.length=its.length∧s.heap.get? l=some { cls:=.type "list",data:=.seq its.toArray n }:=by
  obtain ⟨z,its,n,r,e⟩:=I.hok l _ hH
  exact ⟨z,its,n,r,r.length,e⟩
theorem notLongL {n : Nat} (h : n≤sizeLine) : Builtin.List.listTooLong n=false:=by
  unfold Builtin.List.listTooLong
  exact decide_eq_false (by omega)
end
section
variable {X : Cx}
def rAppend : V→List V→Hp→VK→Prop:=fun x vs H Q=>∃ l xs y,x = .ref l∧vs=[y]∧H l=some (.lst xs)∧xs.length < sizeLine∧Q .non (upd H l (.lst (xs ++ [y])))
theorem mt_append : MtM X "list.append" rAppend:=by
  intro pins s σ H x vs v us Q I rx rv h
  obtain ⟨l,xs,y,rfl,rfl,hH,hz,q⟩:=h
  cases rx
  obtain ⟨u,rfl,ru⟩:=rv.one
  obtain ⟨z,its,n,r,hl,e⟩:=I.lstM hH
  refine call_meets F.slot_list_append ⟨_,e,rfl⟩ F.entry_list_append (F.args_list_append_2 _ _) (PySem.list_append l its.toArray n u (by rw [List.size_toArray]; omega)) ⟨e,?_⟩
  refine ⟨.non,_,I.lset (its':=its ++ [u]) hH e (by simp) (r.append (.cons ru .nil)) ?_,rfl,q⟩
  rw [List.length_append,List.length_singleton]
  omega
def rCat : R2:=fun x y H Q=>∃ l b xs zs,x = .ref l∧y = .ref b∧H l=some (.lst xs)∧H b=some (.lst zs)∧xs.length + zs.length≤sizeLine∧∀ p,H p=none→Q (.ref p) (upd H p (.lst (xs ++ zs)))
theorem op_cat : OpR X (binaryOp .Add) rCat:=by
  intro pins s σ H x y v u Q I rx ry h
  obtain ⟨l,b,xs,zs,rfl,rfl,hH,hB,hz,q⟩:=h
  cases rx
  cases ry
  obtain ⟨z,its,n,r,hl,e⟩:=I.lstM hH
  obtain ⟨z2,its2,n2,r2,hl2,e2⟩:=I.lstM hB
  refine PySem.P.add_list e e2 ?_ (by rw [List.size_toArray,List.size_toArray]; omega)
  have ea : its.toArray ++ its2.toArray=(its ++ its2).toArray:=by simp
  rw [ea]
  exact ⟨.ref _,_,I.lnew (t':=s.toks) (r.append r2) (by rw [List.length_append]; omega),rfl,q _ I.fresh⟩
def rRep : R2:=fun x y H Q=>∃ l k xs,x = .ref l∧y = .int k∧H l=some (.lst xs)∧-(2 ^ 63)≤k∧k < 2 ^ 63∧xs.length * k.toNat≤sizeLine∧
  ∀ p,H p=none→Q (.ref p) (upd H p (.lst (List.replicate k.toNat xs).flatten))
theorem len_rep {α : Type} (xs : List α) (k : Nat) : (List.replicate k xs).flatten.length=k * xs.length:=by
  induction k with
  | zero=>simp
  | succ k ih=>rw [List.replicate_succ,List.flatten_cons,List.length_append,ih,Nat.succ_mul,Nat.add_comm]
theorem op_rep : OpR X (binaryOp .Mult) rRep:=by
  intro pins s σ H x y v u Q I rx ry h
  obtain ⟨l,k,xs,rfl,rfl,hH,h1,h2,hz,q⟩:=h
  cases rx
  obtain ⟨t,rfl⟩:=ry
  obtain ⟨z,its,n,r,hl,e⟩:=I.lstM hH
  have hlen : its.toArray.size * k.toNat≤sizeLine:=by rw [List.size_toArray,← hl]; exact hz
  have hcap : ¬ its.toArray.size * k.toNat > (2 ^ 63 - 1) / 8:=by
    have : (sizeLine : Nat)≤(2 ^ 63 - 1) / 8:=by decide
    omega
  have hfit : ¬ (!Builtin.List.listFitsIndex k)=true:=by
    rw [fitsIndex_both h1 h2]
    exact Bool.false_ne_true
  have hlong : ¬ Builtin.List.listTooLong (its.toArray.size * k.toNat)=true:=by
    rw [notLongL hlen]
    exact Bool.false_ne_true
  have hnew : List.foldl (fun x1 x2=>x1 ++ x2) #[] (List.replicate (if its.toArray.isEmpty=true then 0 else k.toNat) its.toArray)=(List.replicate k.toNat its).flatten.toArray:=by
    have f0 : ∀ m : Nat,List.foldl (fun x1 x2=>x1 ++ x2) #[] (List.replicate m its.toArray)=(List.replicate m its).flatten.toArray:=fun m=>by
      have:=foldl_rep its m []
      rw [List.nil_append] at this
      exact this
    rw [f0]
    cases its with
    | nil=>simp
    | cons a r'=>rw [if_neg (by simp)]
  refine wpAny_binaryOp_repeat_ref (T := "list") (U := "int") (by decide) ⟨_,e,rfl⟩ (fun s'=>typeIs_int s' k t) noFill_list_mul F.fills_int_mul F.slot_int_rmul repeat_list F.slot_int_index.lookup
    (call_meets F.slot_int_rmul (typeIs_int s k t) F.entry_int_rmul (F.args_int_rmul_2 _ _) (int___rmul___int_list k t l its.toArray n)
      ⟨e,rfl,⟨_,e,rfl⟩,call_meets F.slot_list_mul ⟨_,e,rfl⟩ F.entry_list_mul (F.args_list_mul_2 _ _) (AutoListH.list___mul___list_int_3 l its.toArray n k t hfit hcap hlong) ⟨e,?_⟩⟩)
  rw [hnew]
  exact ⟨.ref _,_,I.lnew (t':=s.toks) (r.rep k.toNat) (by rw [len_rep,Nat.mul_comm]; exact hz),rfl,q _ I.fresh⟩
end
section
variable {prog : Program} {w : World} {A : Around} {E : Value→Shared→Prop} {s : Shared}
end
section
variable {X : Cx}
end
end L2
namespace Att
open PySem PySem.W PySem.Calls PyProof.Rows
theorem ints_of_wellAll {P : Params} {h : Heap} : ∀ (ns : List Int) (vs : List Value),WellAll P h vs (ns.map WData.int)→IntsAre vs ns:=by
  intro ns
  induction ns with
  | nil=>
    intro vs w
    rw [List.map_nil] at w
    cases w
    exact .nil
  | cons n ns ih=>
    intro vs w
    rw [List.map_cons] at w
    cases w with
    | cons a b=>
      cases a
      exact .cons _ _ (ih _ b)
theorem script_of {l : OpenLaw} {n : Nat} (hn : l.most=some n) {P : Params} {h : Heap} {args : List WData} {vals : List Value}
    (hpre : l.row.toRowW.claim.pre args=true) (hwl : WellAll P h vals args) :
    ∃ a vs ns,vals=[Value.ref a]∧args=[WData.list (ns.map WData.int)]∧h.get? a=some { cls:=.type "list",data:=.seq vs.toArray }∧IntsAre vs ns∧ns.length≤n:=by
  have hsh : WShape.hasAll [] args [.list .int]=true:=(pre_splitW hpre).1
  have hc : l.pre.holds [] { args:=args } = true:=(pre_splitW hpre).2
  obtain ⟨d,r,rfl,h1,h2⟩:=hasAllW_cons hsh
  obtain rfl:=hasAllW_nil h2
  obtain ⟨xs,rfl,h3⟩:=hasW_list h1
  obtain ⟨ns,rfl⟩:=items_int h3
  have hlen : ns.length≤n:=by
    unfold OpenLaw.pre at hc
    have h4 : (WTm.not (.lt (.lit (.int (n : Int))) (.len (.arg 0)))).holds [] { args:=[.list (ns.map .int)] } = true:=by
      have h4:=(holds_andW hc).1
      rw [hn] at h4
      exact h4
    have h5:=condW_of h4 (w_not (w_lt w_lit (w_len_list (w_arg rfl))))
    rw [List.length_map] at h5
    refine Nat.le_of_not_lt fun q=>?_
    have q' : (n : Int) < ((ns.length : Nat) : Int):=by omega
    first
      | (rw [decide_eq_true q'] at h5; exact absurd h5 (by decide))
      | (simp at h5; omega)
  cases hwl with
  | cons w1 w2=>
    cases w2
    cases w1 with
    | list ho hall=>exact ⟨_,_,ns,rfl,rfl,ho,ints_of_wellAll ns _ hall,hlen⟩
theorem post_true (l : OpenLaw) (args : List WData) : l.row.toRowW.claim.post args (.bool true) args=true:=
  postW_of (r:=l.row.toRowW) (X:=(true == true))
    (show WShape.has [] (.bool true) .bool=true by first | rfl | decide | simp [WShape.has,WShape.arms,WShape.armsAll])
    (show (WTm.eq .res (.lit (.bool true))).value [] { args:=args,res:=some (.bool true),after:=args } = some (.bool (true == true)) from w_eq_bool (w_res rfl) w_lit) rfl
theorem attach_call {l : OpenLaw} {n : Nat} {q : Program} {loose : List Str} {XP : (Str→Option Value)→Heap→Prop} {YP : World→Heap→Prop} {d : DefRec}
    (hn : l.most=some n) (hdf : d.params.defaults=[])
    (call : ∀ (w : World) (s₀ s₁ : Shared) (mg mb : Str→Option Value) (fa : Addr) (o : Obj) (pm cd doc : Value) (a : Addr) (vs : List Value) (ns : List Int),
      Ground q loose [] XP w s₀ mg mb s₁.heap→YP w s₁.heap→
      s₁.heap.get? fa=some o→o.data = .func (docDef d.name d.params d.body d.scope pm cd doc)→s₁.heap.CodeRec cd d.name→mg d.name=some (.ref fa)→
      s₁.heap.get? a=some { cls:=.type "list",data:=.seq vs.toArray }→IntsAre vs ns→ns.length≤n→s₁.gens = #[] →
      codeAny (model l.prog w) callerA (.call (.ref fa) ⟨[.ref a],[]⟩) (fun r s'=>r = .ok (.ret (.bool true))∧OldK s₁.heap s'.heap∧s'.os=s₁.os∧AllBare s'.gens) s₁) :
    WalkO q loose XP YP l.row.toRowW d [] (fun f vs=>PySem.call f vs):=by
  intro w s₀ s₁ mg mb G Y fa o pm cd doc dV kV ho hd hcd hD hmg hg args vals as hpre hlay hrd hwl hlo
  obtain rfl : dV = .none:=Dflts.none hD hdf
  obtain rfl : kV = .none:=Dflts.noKw hD
  obtain ⟨a,vs,ns,rfl,rfl,hobj,hints,hlen⟩:=script_of hn hpre hwl
  refine enter_call (codeAny_mono (call w s₀ s₁ mg mb fa o pm cd doc a vs ns G Y ho (fd_plain hd) hcd hmg hobj hints hlen hg) fun r s' hq=>?_)
  obtain ⟨rfl,h2,h3,h4⟩:=hq
  exact ⟨.inl ⟨.bool true,.bool true,[],rfl,fun _=>rfl,.bool true,post_true l _,fun _=>⟨List.Pairwise.nil,fun _ hm=>(nomatch hm)⟩⟩,h2,h3,h4⟩
section
variable {prog : Program} {w : World} {A : Around} {E : Value→Shared→Prop} {s : Shared} {K : Frag}
end
end Att
namespace L2
open PySem PySem.Spec PyProof.Rows
theorem vals_ints : ∀ {vs : List Value} {ns : List Int},IntsAre vs ns→Vals (ns.map V.int) vs
  | _,_,.nil=>.nil
  | _,_,.cons n t h=>.cons ⟨t,rfl⟩ (vals_ints h)
end L2
namespace L2
open PySem PySem.Spec PyProof.Rows
end L2
namespace L2
open PySem PySem.Spec PyProof.Rows
def defArgs (s : Stmt) : Arguments:=match s with
  | .FunctionDef _ a _ _ _ _ _ _ _ _=>a
  | _=>{ posonlyargs:=[],args:=[],vararg:=none,kwonlyargs:=[],kw_defaults:=[],kwarg:=none,defaults:=[] }
def defBody (s : Stmt) : List Stmt:=match s with
  | .FunctionDef _ _ b _ _ _ _ _ _ _=>b
  | _=>[]
def defScope (s : Stmt) : Scope:=match s with
  | .FunctionDef _ _ _ _ _ _ sc _ _ _=>sc
  | _=>{ kind:=.function,names:=[],isGenerator:=false,isCoroutine:=false }
abbrev CX0 : CXT:=fun _ _ _ _ _ _=>False
abbrev E0 : XK:=fun _ _ _=>False
theorem pass0 {X : Cx} : Passes CX0 X E0:=fun _ _ _ _ _ _ _ h=>h.elim
structure Fun (K : PySem.W.Frag) (x qual : Str) (st : Stmt) (f : Addr) (fd : FuncData) : Prop where
  ex : ∃ (oc : Value) (od : Option Addr) (kV doc pm : Value) (an : Option Addr) (cdv ct : Value) (osl : Array (Option Value)),
    fd=PySem.W.fnOf x qual (defArgs st) (defBody st) (defScope st) .none kV doc pm an cdv ct∧K.lookup f=some ⟨oc,od,.func fd,osl⟩∧PySem.W.codeIn K cdv qual=true
  kp : PySem.W.keepIn K (.ref f)=true
section
variable {P : Program} {w : World} {K : PySem.W.Frag} {mg : Str→Option Value} {base : Heap}
theorem Fun.ok {x qual : Str} {st : Stmt} {f : Addr} {fd : FuncData} {N ps : List Str} {k : Nat} {sp : Sp} (F : Fun K x qual st f fd) (S : FnScope N ps (defScope st)) (len : ∀ vs H Q E,sp vs H Q E→vs.length=ps.length)
    (hbody : ∀ (cdv : Value) (A : Around) (outer : List Env) (s : Shared) (H : Hp) (vs : List V) (Q : VK) (E : XK),Room k (A.deeper (envOfC qual (defScope st) s.heap.objs.size f cdv))→sp vs H Q E→
      ∃ t,PSs (cxOf CX0 P w K mg base N qual (defScope st) f cdv A outer s H E).nox (defBody st) t∧t { nx:=fun _ H'=>Q .non H',rt:=Q } (start N vs) H) : FnOk P w K mg base CX0 (k + 1) f fd ps sp:=by
  obtain ⟨oc,od,kV,doc,pm,an,cdv,ct,osl,rfl,lk,hcd⟩:=F.ex
  refine fn_of lk hcd S len fun A outer s H vs Q E hr hsp=>?_
  obtain ⟨t,h,q⟩:=hbody cdv A outer s H vs Q E hr hsp
  exact ⟨t,h.nox,q⟩
theorem Fun.binds {x qual : Str} {st : Stmt} {f : Addr} {fd : FuncData} {ps : List Str} (F : Fun K x qual st f fd)
    (h : ∀ (kV doc pm : Value) (an : Option Addr) (cdv ct : Value) (us : List Value),us.length=ps.length→bindArgs (PySem.W.fnOf x qual (defArgs st) (defBody st) (defScope st) .none kV doc pm an cdv ct) ⟨us,[]⟩=pure (ps.zip us)) : Binds K fd ps []:=by
  obtain ⟨oc,od,kV,doc,pm,an,cdv,ct,osl,rfl,lk,hcd⟩:=F.ex
  exact .all (h kV doc pm an cdv ct)
theorem fun_mk {x qual : Str} {st : Stmt} {f : Addr} {oc : Value} {od an : Option Addr} {osl : Array (Option Value)} {kV doc pm cdv ct : Value} (l : K.lookup f=some ⟨oc,od,.func (PySem.W.fnOf x qual (defArgs st) (defBody st) (defScope st) .none kV doc pm an cdv ct),osl⟩)
    (c : PySem.W.codeIn K cdv qual=true) (k : PySem.W.keepIn K (.ref f)=true) : Fun K x qual st f (PySem.W.fnOf x qual (defArgs st) (defBody st) (defScope st) .none kV doc pm an cdv ct):=⟨⟨oc,od,kV,doc,pm,an,cdv,ct,osl,rfl,l,c⟩,k⟩
end
theorem hu_of {A : Around} {k : Nat} (hr : Room k A) : A.units + 1 < cLine:=Nat.lt_of_le_of_lt (Nat.add_le_add_left (by decide : 1≤64) _) hr.units
theorem small1000 {n : Nat} (h : n≤1000) : n < sizeLine:=Nat.lt_of_le_of_lt h (by decide)
section
variable {X : Cx}
theorem pv (i : Nat) {x : Str} {pos : Pos} (hN : X.N[i]? = some x:=by rfl) (hv : Vis X.env.scope x:=by first | exact Or.inl rfl | exact Or.inr (Or.inl rfl) | exact Or.inr (Or.inr rfl)) (hd : (x == ("__debug__" : Str))=false:=by decide)
    (hcd : (x == ("__classdict__" : Str))=false:=by decide) : PE X (.Name x pos) (tVar i):=pe_var hN hv hd hcd
end
theorem iteF {A B : Prop} (h : B) : if false=true then A else B:=by
  rw [if_neg Bool.false_ne_true]
  exact h
theorem iteT {A B : Prop} (h : A) : if true=true then A else B:=by
  rw [if_pos rfl]
  exact h
theorem ite2 {c A B : Prop} [Decidable c] (h1 : c→A) (h2 : ¬ c→B) : if c then A else B:=by
  by_cases h : c
  · rw [if_pos h]
    exact h1 h
  · rw [if_neg h]
    exact h2 h
theorem iteNS {c A B : Prop} [Decidable c] (hc : c) (h : B) : if (!decide c)=true then A else B:=by
  rw [decide_eq_true hc]
  exact iteF h
def Same (H H' : Hp) : Prop:=∀ b o,H b=some o→H' b=some o
theorem Same.refl (H : Hp) : Same H H:=fun _ _ h=>h
theorem Same.trans {H H1 H2 : Hp} (a : Same H H1) (b : Same H1 H2) : Same H H2:=fun c o h=>b c o (a c o h)
theorem Same.free {H H' : Hp} (e : Same H H') {l : Addr} (h : H' l=Option.none) : H l=Option.none:=by
  cases q : H l with
  | none=>rfl
  | some o=>
    rw [e l o q] at h
    cases h
end L2
set_option maxHeartbeats 4000000
namespace L2
open PySem PySem.Spec PyProof.Rows
theorem objThere {P : Program} {w : World} {H : Hp} {h : Heap} {a : Addr} {o : HO} (x : ObjOk P w H h a o) : ∃ ob,h.get? a=some ob:=by
  induction o with
  | lst xs=>obtain ⟨_,_,_,_,e⟩:=x; exact ⟨_,e⟩
  | tup xs=>obtain ⟨_,_,_,ob,e,_⟩:=x; exact ⟨_,e⟩
  | dK kvs=>obtain ⟨_,_,_,_,o,_,_,e,_⟩:=x; exact ⟨_,e⟩
  | dT kvs=>obtain ⟨_,_,_,_,o,_,_,e,_⟩:=x; exact ⟨_,e⟩
  | set S n=>obtain ⟨o,_,_,_,e,_⟩:=x; exact ⟨_,e⟩
  | ins C dx fs=>obtain ⟨_,_,_,e,_⟩:=x; exact ⟨_,e⟩
  | own y=>obtain ⟨_,e⟩:=x; exact ⟨_,e⟩
  | xd fs=>obtain ⟨_,⟨_,_,_,e,_⟩,_⟩:=x; exact ⟨_,e⟩
  | rng lo hi=>obtain ⟨_,_,_,e⟩:=x; exact ⟨_,e⟩
  | frz ob u _=>obtain ⟨e,_⟩:=x; exact ⟨_,e⟩
  | tbl ps=>exact ⟨_,(show h.get? a=some _ from x)⟩
  | met f y=>exact ⟨_,(show h.get? a=some _ from x)⟩
  | ext φ=>obtain ⟨_,e,_⟩:=x; exact e
  | cod q pos=>rcases x with e | ⟨_,e,_⟩ <;> exact ⟨_,e⟩
structure UnB (fs : List Addr) (H H' : Hp) (h B h' : Heap) : Prop where
  keep : ∀ b o,h.get? b=some o→H b=none→b ∉ fs→B.get? b=some o
  slot : ∀ b o,h.get? b=some o→H b=none→b∈fs→∃ sl,h'.get? b=some { o with slots:=sl }
  free : ∀ b o,h.get? b=some o→H b=none→H' b=none
  there : ∀ b o,h.get? b=some o→b∈fs∨∃ o',B.get? b=some o'
  tups : ∀ b xs,H b=some (.tup xs)→H' b=some (.tup xs)
  frzs : ∀ b o u,H b=some (.frz o u)→H' b=some (.frz o u)
  tbls : ∀ b ps,H b=some (.tbl ps)→∃ more,H' b=some (.tbl (ps ++ more))
def CXE (P : Program) (w : World) : CXT:=fun outer H s E e s'=>∃ (a : Addr) (cls a0 : Value) (H' : Hp) (B : Heap),e = .ref a∧s'.os=s.os∧AllBare s'.gens∧E cls none H'∧HOk P w H' B∧H' a=none∧s.heap.get? a=none∧
  Heap.FlyingW B outer a cls a0 s'.heap∧UnB (frs outer) H H' s.heap B s'.heap
section
variable {X : Cx} {pins : List (Addr×Obj)} {σ : St} {H : Hp} {s s' : Shared} {E : XK}
theorem raise_leaves {CX : CXT} {P : Program} {w : World} {K : PySem.W.Frag} {mg : Str→Option Value} {base : Heap} {N : List Str} {qual : Str} {scope : Scope} {f : Addr} {cd : Value} {A : Around} {outer : List Env} {s₀ : Shared} {H₀ : Hp}
    {pins : List (Addr×Obj)} {σ : St} {H : Hp} {s : Shared} {h' : Heap} {e : Addr} {cls : Value} {args : List Value}
    (I : Inv (cxOf (CXE P w) P w K mg base N qual scope f cd A outer s₀ H₀ E) pins σ H s) (hx : Heap.MadeExcOf s.heap h' e cls args) (hE : E cls none H) :
    (cxOf (CXE P w) P w K mg base N qual scope f cd A outer s₀ H₀ E).xe (.ref e) { s with heap:=h' }:=by
  have hst:=I.stack
  have hlt:=I.lt
  have hnoex : ∀ b : Addr,b ∉ ([] : List Addr):=fun b z=>nomatch z
  show wpAny (model P w) (A.deeper (envOfC qual scope s₀.heap.objs.size f cd)) (leaving (envOfC qual scope s₀.heap.objs.size f cd) (.ref e)) (fun _ s''=>CXE P w outer H₀ s₀ E (.ref e) s'') (fun e' s''=>CXE P w outer H₀ s₀ E e' s'') { s with heap:=h' }
  refine wpAny_leaves_madeW (base:=PySem.W.hideAll s.heap (frs (envOfC qual scope s₀.heap.objs.size f cd :: outer))) (h:=s.heap) (L:=s₀.heap.objs.size) I.ok.frames rfl (fun b o q=>PySem.W.of_hideAll _ q)
    (PySem.W.funFrames_hide hst fun env he b hb=>List.mem_filterMap.mpr ⟨env,he,hb⟩) hx fun h'' t fly _ _ upto=>?_
  have hsub : ∀ b,b∈frs outer→b∈frs (envOfC qual scope s₀.heap.objs.size f cd :: outer):=fun b hb=>by
    obtain ⟨env,he,hf⟩:=List.mem_filterMap.mp hb
    exact List.mem_filterMap.mpr ⟨env,.tail _ he,hf⟩
  have hnot : ∀ b o,s₀.heap.get? b=some o→b ∉ frs outer→b ∉ frs (envOfC qual scope s₀.heap.objs.size f cd :: outer):=fun b o q nb hb=>by
    rcases List.mem_cons.mp (I.stkSub b hb) with z | z
    · exact absurd (Heap.lt_size q) (by rw [z]; exact Nat.lt_irrefl _)
    · exact nb z
  have hfree : ∀ b∈frs (envOfC qual scope s₀.heap.objs.size f cd :: outer),H b=none:=I.stkFree
  have nohid : ∀ b u,H b=some u→b ∉ frs (envOfC qual scope s₀.heap.objs.size f cd :: outer):=fun b u q hb=>by rw [hfree b hb] at q; cases q
  refine ⟨e,cls,.ref t,H,_,rfl,I.os,I.bare,hE,fun b u q=>?_,?_,?_,fly,?_⟩
  · refine (I.hok b u q).stay (fun c v hc r=>PySem.W.hideAll_get _ r ?_) (fun _ r=>r) fun _ _ r=>r
    rcases hc with z | z
    · rw [z]; exact nohid b u q
    · exact nohid c _ z
  · cases q : H e with
    | none=>rfl
    | some u=>
      obtain ⟨ob,e1⟩:=objThere (I.hok e u q)
      rw [hx.new] at e1; cases e1
  · cases q : s₀.heap.get? e with
    | none=>rfl
    | some o=>
      obtain ⟨o',e1⟩:=I.base.there e o q (hnoex e)
      rw [hx.new] at e1; cases e1
  · refine ⟨fun b o q n nb=>PySem.W.hideAll_get _ (I.base.keep b o q n nb (hnoex b)) (hnot b o q nb),fun b o q n hb=>?_,fun b o q n=>I.base.free b o q n (hnoex b),fun b o q=>?_,I.base.tups,I.base.frzs,I.base.tbls⟩
    · obtain ⟨sl,e1⟩:=I.base.slot b o q n hb (hnoex b)
      obtain ⟨_,ob,e2,nf⟩:=hst.mem (hsub b hb)
      rw [e1] at e2; cases e2
      have e3:=hx.keeps b _ e1
      obtain ⟨sl',e4⟩:=upto b _ e3 nf
      exact ⟨sl',e4⟩
    · by_cases hb : b∈frs outer
      · exact .inl hb
      · obtain ⟨o',e1⟩:=I.base.there b o q (hnoex b)
        exact .inr ⟨o',PySem.W.hideAll_get _ e1 (hnot b o q hb)⟩
theorem passE {P : Program} {w : World} {K : PySem.W.Frag} {mg : Str→Option Value} {base : Heap} {N : List Str} {qual : Str} {scope : Scope} {f : Addr} {cd : Value} {A : Around} {outer : List Env} {s₀ : Shared} {H₀ : Hp} {E E' : XK}
    (hE : ∀ cls H,E' cls none H→E cls none H) : Passes (CXE P w) (cxOf (CXE P w) P w K mg base N qual scope f cd A outer s₀ H₀ E) E':=by
  intro pins σ H s e s' I h
  obtain ⟨a,cls,a0,H',B,rfl,hos,hb,hE',hok,hna,hfr,fly,u⟩:=h
  have hnoex : ∀ b : Addr,b ∉ ([] : List Addr):=fun b z=>nomatch z
  have hsub : ∀ b,b∈frs outer→b∈frs (envOfC qual scope s₀.heap.objs.size f cd :: outer):=fun b hb=>by
    obtain ⟨env,he,hf⟩:=List.mem_filterMap.mp hb
    exact List.mem_filterMap.mpr ⟨env,.tail _ he,hf⟩
  have hnot : ∀ b o,s₀.heap.get? b=some o→b ∉ frs outer→b ∉ frs (envOfC qual scope s₀.heap.objs.size f cd :: outer):=fun b o q nb hb=>by
    rcases List.mem_cons.mp (I.stkSub b hb) with z | z
    · exact absurd (Heap.lt_size q) (by rw [z]; exact Nat.lt_irrefl _)
    · exact nb z
  show wpAny (model P w) (A.deeper (envOfC qual scope s₀.heap.objs.size f cd)) (leaving (envOfC qual scope s₀.heap.objs.size f cd) (.ref a)) (fun _ s''=>CXE P w outer H₀ s₀ E (.ref a) s'') (fun e' s''=>CXE P w outer H₀ s₀ E e' s'') s'
  refine wpAny_leaves_onW (L:=s₀.heap.objs.size) I.ok.frames rfl fly fun h'' fly' upto=>?_
  refine ⟨a,cls,a0,H',B,rfl,hos.trans I.os,hb,hE cls H' hE',hok,hna,?_,fly',?_⟩
  · cases q : s₀.heap.get? a with
    | none=>rfl
    | some o=>
      obtain ⟨o',e1⟩:=I.base.there a o q (hnoex a)
      rw [hfr] at e1; cases e1
  · refine ⟨fun b o q n nb=>u.keep b o (I.base.keep b o q n nb (hnoex b)) (I.base.free b o q n (hnoex b)) (hnot b o q nb),fun b o q n hb=>?_,fun b o q n=>?_,fun b o q=>?_,fun b xs q=>u.tups b xs (I.base.tups b xs q),fun b o x q=>u.frzs b o x (I.base.frzs b o x q),fun b ps q=>?_⟩
    · obtain ⟨sl,e1⟩:=I.base.slot b o q n hb (hnoex b)
      obtain ⟨sl',e2⟩:=u.slot b _ e1 (I.base.free b o q n (hnoex b)) (hsub b hb)
      obtain ⟨_,ob,e3,nf⟩:=fly.2.2.1.mem (hsub b hb)
      rw [e2] at e3; cases e3
      obtain ⟨sl'',e4⟩:=upto b _ e2 nf
      exact ⟨sl'',e4⟩
    · obtain ⟨o',e1⟩:=I.base.there b o q (hnoex b)
      exact u.free b o' e1 (I.base.free b o q n (hnoex b))
    · by_cases hb : b∈frs outer
      · exact .inl hb
      · obtain ⟨o',e1⟩:=I.base.there b o q (hnoex b)
        rcases u.there b o' e1 with z | z
        · exact absurd z (hnot b o q hb)
        · exact .inr z
    · obtain ⟨m1,e1⟩:=I.base.tbls b ps q
      obtain ⟨m2,e2⟩:=u.tbls b _ e1
      exact ⟨m1 ++ m2,by rw [e2,Array.append_assoc]⟩
end
end L2
namespace L2
open PySem PySem.Spec PyProof.Rows PySem.Builtin.ObjectAttr PySem.Builtin.Getset_descriptor
section
variable {prog : Program} {w : World} {A : Around} {E : Value→Shared→Prop} {K : PySem.W.Frag} {x D : Addr} {s : Shared}
end
end L2
namespace L2
open PySem PySem.Spec PyProof.Rows
theorem exc_obj {K : PySem.W.Frag} {h : Heap} {C : Addr} {bmB : List Value} {newId : String} (X : K.In h) (q : PySem.W.excIn K C bmB newId=true) :
    ∃ bm N nm qn bs hd sn sub ab col dd k0 k1 k2 k3 k5 mN,h.get? C=some (excClassObj nm qn C N bs bm hd sn sub ab col dd k0 k1 k2 k3 k5 newId)∧h.Ns N mN∧mN "__init__" = none∧OwnTail h bmB bm:=by
  unfold PySem.W.excIn at q
  split at q
  · rename_i dd cd sl look
    split at q
    · rename_i C2 bm k0 k1 k2 k3 n k5 hmro hsl
      simp only [Bool.and_eq_true,beq_iff_eq,Bool.not_eq_true'] at q
      obtain ⟨⟨⟨⟨⟨rfl,rfl⟩,hde⟩,htl⟩,hns⟩,hin⟩:=q
      obtain ⟨nm,bs,mro,ns,qn,hd,sn,sub,ab,col,del⟩:=cd
      dsimp only at hmro hde hns hin
      subst hmro hde
      have es : sl = #[k0,k1,k2,k3,some (.builtin n),k5]:=by
        obtain ⟨ls⟩:=sl
        have e1 : ls=[k0,k1,k2,k3,some (.builtin n),k5]:=hsl
        rw [e1]
      subst es
      exact ⟨bm,ns,nm,qn,bs,hd,sn,sub,ab,col,dd,k0,k1,k2,k3,k5,_,X _ _ look,.of_isNs (PySem.W.isNs_of_in X hns),PySem.W.nsMap_none_of_in X hns hin,PySem.W.tail_of_in X htl⟩
    · cases q
  · cases q
section
variable {X : Cx}
def tRaise (C : Addr) (E : XK) (t : TA) : TS:=fun D σ H=>t σ H fun vs H1=>vs.length≤sizeLine∧E (.ref C) none H1
def Makes (X : Cx) (E : XK) : Prop:=∀ (pins : List (Addr×Obj)) (σ : St) (H : Hp) (s : Shared) (h' : Heap) (e : Addr) (cls : Value) (args : List Value),Inv X pins σ H s→Heap.MadeExcOf s.heap h' e cls args→E cls none H→X.xe (.ref e) { s with heap:=h' }
theorem makesE {P : Program} {w : World} {K : PySem.W.Frag} {mg : Str→Option Value} {base : Heap} {N : List Str} {qual : Str} {scope : Scope} {f : Addr} {cd : Value} {A : Around} {outer : List Env} {s₀ : Shared} {H₀ : Hp} {E : XK} :
    Makes (cxOf (CXE P w) P w K mg base N qual scope f cd A outer s₀ H₀ E) E:=fun _ _ _ _ _ _ _ _ I hx hE=>raise_leaves (CX:=CXE P w) I hx hE
theorem ps_raise {x : Str} {C : Addr} {B newId initId : String} {bmB : List Value} {e₀ : Expr} {rest : List Expr} {np cpos pos : Pos} {t : TA} {E : XK} (hg : Gl X x) (hm : X.mg x=some (.ref C)) (hq : PySem.W.excIn X.K C bmB newId=true)
    (FB : ExcBaseFacts B newId initId bmB) (hcalm : X.calm=true) (hxe : Makes X E) (ha : PA X (e₀ :: rest) t) (hd : (x == ("__debug__" : Str))=false:=by decide)
    (he : starEach (e₀ :: rest) X.env=(false,eval e₀ X.env) :: starEach rest X.env:=by rfl) (hpl : (backTo cpos (starEach rest X.env)).any (·.1)=false:=by rfl) :
    PS X (.Raise (some (.Call (.Name x np) (e₀ :: rest) [] cpos)) none pos) (tRaise C E t):=by
  refine ⟨?_⟩
  intro pins s σ H D I h
  obtain ⟨bm,N,nm,qn,bs,hdd,sn,sub,ab,col,dd,k0,k1,k2,k3,k5,mN,hC,hN,hni,T⟩:=exc_obj (bmB:=bmB) I.mod.kin hq
  refine wpAny_Raise_call_subT (C:=C) (N:=N) (bm:=bm) (nm:=nm) (q:=qn) (bs:=bs) (hdct:=hdd) (sn:=sn) (sub:=sub) (ab:=ab) (col:=col) (dd:=dd) (k0:=k0) (k1:=k1) (k2:=k2) (k3:=k3) (k5:=k5) FB (mN:=mN) (T.hasType FB.hasBase) (I.ok.hd hcalm)
    (by rw [he]; show (false || (backTo cpos (starEach rest X.env)).any (·.1))=false; rw [hpl]; rfl) hni (ld_glob I hg hm ⟨rfl,?_⟩ hd)
  have h1:=ha cpos pins s σ H _ I h
  rw [he] at h1 ⊢
  refine Calls.evalArgs_plain (thn h1 fun us s1 ⟨vs,H1,I1,r1,q1⟩=>?_)
  exact ⟨rfl,(by rw [← r1.length]; exact q1.1),I1.bk _ _ hC,hN.keeps I1.bk,T.keeps I1.bk,fun h' e hx=>hxe pins σ H1 s1 h' e _ _ I1 hx q1.2⟩
theorem Inv.track {pins : List (Addr×Obj)} {σ : St} {H : Hp} {s : Shared} {a : Addr} {o : HO} (I : Inv X pins σ H s) (hs : X.s₀.heap.get? a=none) (hn : H a=none) (hL : a≠X.env.locals) (hc : ∀ x c,X.env.cells.lookup x=some c→c≠a)
    (hp : ∀ p∈X.pn ++ pins,p.1≠a) (new : ObjOk X.prog X.w (upd H a o) s.heap a o) : Inv X pins σ (upd H a o) s:=by
  have ne : ∀ b ob,X.s₀.heap.get? b=some ob→b≠a:=fun b ob e z=>by rw [z,hs] at e; cases e
  have nt : ∀ b u,H b=some u→b≠a:=fun b u e z=>by rw [z,hn] at e; cases e
  refine ⟨I.ok,I.os,I.bare,⟨I.base.keep,I.base.slot,fun b ob e n hx=>by rw [upd_ne (ne b ob e)]; exact I.base.free b ob e n hx,I.base.there,fun b xs e=>?_,fun b ob xs e=>?_,fun b ps e=>?_⟩,I.loc,I.cell,by rw [upd_ne hL.symm]; exact I.free,fun x c e=>by rw [upd_ne (hc x c e)]; exact I.freeC x c e,fun p hp'=>?_,fun b u e=>?_,I.len⟩
  · have e1:=I.base.tups b xs e
    rw [upd_ne (nt b _ e1)]; exact e1
  · have e1:=I.base.frzs b ob xs e
    rw [upd_ne (nt b _ e1)]; exact e1
  · obtain ⟨more,e1⟩:=I.base.tbls b ps e
    exact ⟨more,by rw [upd_ne (nt b _ e1)]; exact e1⟩
  · obtain ⟨e,n,r⟩:=I.pin p hp'
    exact ⟨e,by rw [upd_ne (hp p hp')]; exact n,r⟩
  · by_cases z : b=a
    · subst z
      rw [upd_same] at e
      cases e
      exact new
    · rw [upd_ne z] at e
      exact (I.hok b u e).stay (fun _ _ _ q=>q) (fun c q=>by rw [upd_ne (nt c _ q)]; exact q) fun c xs q=>by rw [upd_ne (nt c _ q)]; exact q
end
end L2
namespace L2
open PySem PySem.Spec PyProof.Rows
def clOf (env : Env) : List (Str×NameKind)→List (Str×Addr)→List (Str×Addr)
  | [],cs=>cs
  | (n,k) :: r,cs=>clOf env r (if k == .free then (n,(env.cells.lookup n).getD 0) :: cs else cs)
theorem closureFor_cl {scope : Scope} {env : Env} (h : ∀ y∈scope.names,y.2 = .free→∃ c,env.cells.lookup y.1=some c) : closureFor scope env=pure (clOf env scope.names []):=by
  have all : ∀ (l : List (Str×NameKind)) (cs : List (Str×Addr)),(∀ y∈l,y.2 = .free→∃ c,env.cells.lookup y.1=some c)→
      (forIn l cs fun (x : Str×NameKind) r=>(if (x.2 == NameKind.free)=true then do let a ← cellOf env x.1; pure (ForInStep.yield ((x.1,a) :: r)) else pure (ForInStep.yield r) : Sem (ForInStep (List (Str×Addr)))))=pure (clOf env l cs):=by
    intro l
    induction l with
    | nil=>intro cs _; rfl
    | cons x r ih=>
      intro cs hl
      obtain ⟨n,k⟩:=x
      rw [List.forIn_cons]
      by_cases hk : (k == NameKind.free)=true
      · obtain ⟨c,hc⟩:=hl (n,k) (.head _) (by simpa using hk)
        have e : cellOf env n=pure c:=by unfold cellOf; rw [show env.cells.lookup n=some c from hc]
        simp only [hk,if_true,e,pure_bind]
        rw [ih _ fun y hy=>hl y (.tail _ hy)]
        show _=pure (clOf env r (if k == .free then _ else _))
        rw [if_pos hk,show env.cells.lookup n=some c from hc]
        rfl
      · simp only [hk,Bool.false_eq_true,if_false,pure_bind]
        rw [ih _ fun y hy=>hl y (.tail _ hy)]
        show _=pure (clOf env r (if k == .free then _ else _))
        rw [if_neg hk]
  unfold closureFor
  have:=all scope.names [] h
  simp only [bind_pure] at this ⊢
  exact this
theorem mem_clOf {env : Env} : ∀ (l : List (Str×NameKind)) (cs : List (Str×Addr)) {p : Str×Addr},p∈clOf env l cs→p∈cs∨((p.1,NameKind.free)∈l∧p.2=(env.cells.lookup p.1).getD 0)
  | [],cs,p,h=>.inl h
  | (n,k) :: r,cs,p,h=>by
    unfold clOf at h
    rcases mem_clOf r _ h with z | ⟨z1,z2⟩
    · split at z
      · rename_i hk
        have hk' : k = .free:=by simpa using hk
        rcases List.mem_cons.mp z with rfl | z
        · exact .inr ⟨by rw [hk']; exact .head _,rfl⟩
        · exact .inl z
      · exact .inl z
    · exact .inr ⟨.tail _ z1,z2⟩
theorem clOf_grows {env : Env} : ∀ (l : List (Str×NameKind)) (cs : List (Str×Addr)) {p : Str×Addr},p∈cs→p∈clOf env l cs
  | [],cs,p,h=>h
  | (n,k) :: r,cs,p,h=>by
    unfold clOf
    refine clOf_grows r _ ?_
    split
    · exact .tail _ h
    · exact h
theorem clOf_has {env : Env} : ∀ (l : List (Str×NameKind)) (cs : List (Str×Addr)) {x : Str},(x,NameKind.free)∈l→(x,(env.cells.lookup x).getD 0)∈clOf env l cs
  | (n,k) :: r,cs,x,h=>by
    unfold clOf
    rcases List.mem_cons.mp h with e | h
    · cases e
      refine clOf_grows r _ ?_
      rw [if_pos (by decide)]
      exact .head _
    · exact clOf_has r _ h
theorem lookup_of_mem {α : Type} : ∀ {l : List (Str×α)} {x : Str} {v : α},(x,v)∈l→∃ u,l.lookup x=some u
  | (n,k) :: r,x,v,h=>by
    by_cases e : x=n
    · exact ⟨k,by rw [List.lookup_cons,e]; simp⟩
    · rcases List.mem_cons.mp h with z | z
      · cases z; exact absurd rfl e
      · obtain ⟨u,hu⟩:=lookup_of_mem z
        exact ⟨u,by rw [List.lookup_cons]; rw [show (x == n)=false from by simpa using e]; exact hu⟩
def cxComp (X : Cx) (N' : List Str) (scope : Scope) (C : Addr) (s : Shared) (H : Hp) (fp : List Addr) : Cx where
  prog:=X.prog
  w:=X.w
  K:=X.K
  mg:=X.mg
  base:=X.base
  A:=X.A
  N:=N'
  s₀:=s
  H₀:=H
  env:=compEnvC scope (clOf X.env scope.names []) C X.env
  outer:=X.stack
  stack:=X.stack
  ex:=fp
  fn:=fun _=>false
  calm:=true
  pn:=[]
  xe:=fun _ _=>False
structure CompScope (X : Cx) (N' : List Str) (ix : List (Option Nat)) (scope : Scope) : Prop where
  kind : scope.kind = .function
  nocell : ∀ y∈scope.names,y.2≠.cell
  loc : ∀ y∈scope.names,y.2 = .local→scope.names.lookup y.1=some .local
  nd : N'.Nodup
  len : ix.length=N'.length
  free : ∀ y∈scope.names,y.2 = .free→X.env.kindOf y.1=some .cell
  out : ∀ (k j : Nat) (x : Str),N'[k]? = some x→ix[k]? = some (some j)→X.N[j]? = some x∧(x,NameKind.free)∈scope.names∧(relabel scope X.env).names.lookup x=some .cell
def compSt (ix : List (Option Nat)) (σ : St) : St:=ix.map fun o=>o.bind fun j=>(σ[j]?).join
theorem relabel_back {scope : Scope} {env : Env} {x : Str} {k : NameKind} (hc : ∀ y∈scope.names,y.2≠.cell) (h : (relabel scope env).names.lookup x=some k) (hk : k = .cell∨k = .free) : (x,NameKind.free)∈scope.names:=by
  have m:=PySem.mem_of_lookup h
  unfold relabel at m
  obtain ⟨⟨n,k0⟩,h1,h2⟩:=List.mem_map.mp m
  dsimp only at h2
  split at h2
  · rename_i q
    cases h2
    have : k0 = .free:=by
      simp only [Bool.and_eq_true,beq_iff_eq] at q
      exact q.1.1
    rw [this] at h1
    exact h1
  · cases h2
    rcases hk with rfl | rfl
    · exact absurd rfl (hc _ h1)
    · exact h1
section
variable {X : Cx} {N' : List Str} {ix : List (Option Nat)} {scope : Scope}
theorem cl_cells {pins : List (Addr×Obj)} {σ : St} {H : Hp} {s : Shared} (I : Inv X pins σ H s) (S : CompScope X N' ix scope) {x : Str} {c : Addr} (h : (clOf X.env scope.names []).lookup x=some c) : X.env.cells.lookup x=some c:=by
  rcases mem_clOf _ _ (PySem.mem_of_lookup h) with z | ⟨z1,z2⟩
  · cases z
  · obtain ⟨c',hc⟩:=I.ok.has x (.inl (S.free _ z1 rfl))
    dsimp only at z2
    rw [hc] at z2
    rw [hc,z2]
    rfl
theorem inv_comp {pins : List (Addr×Obj)} {σ : St} {H : Hp} {s : Shared} {h' : Heap} {tk : Nat} {fp : List Addr} (I : Inv X pins σ H s) (hcalm : X.calm=true) (S : CompScope X N' ix scope) (hf : ∀ b∈fp,FpOk X pins H b) (hlt : ∀ b∈fp,b < s.heap.objs.size)
    (hns : h'.Ns s.heap.objs.size (fun _=>none)) (hk : ∀ b o,s.heap.get? b=some o→h'.get? b=some o) : Inv (cxComp X N' scope s.heap.objs.size s H fp) [] (compSt ix σ) H { s with heap:=h',toks:=tk }:=by
  have noL : H s.heap.objs.size=none:=I.hok.fresh (Nat.le_refl _)
  refine ⟨⟨I.ok.mod,S.kind,I.ok.glob,I.ok.blt,Nat.le_refl _,fun x y c h1 h2=>I.ok.inj x y c (cl_cells I S h1) (cl_cells I S h2),fun x hx=>?_,(fun x c z=>nomatch z),fun _=>I.ok.hd hcalm,I.ok.frames,.inl rfl,fun b hb=>⟨Nat.ne_of_lt (hlt b hb),fun x c h=>?_⟩,I.bs,Nat.le_trans I.ok.bsz I.sz,fun b o q hb=>?_,fun b hb=>?_,I.stack,I.stkFree⟩,
    rfl,I.bare,Un.kept hk,⟨_,hns,fun k x v h1 h2 h3=>?_⟩,fun x c h=>?_,noL,fun x c h=>I.freeC x c (cl_cells I S h),(fun p hp=>absurd (show p∈([] : List (Addr×Obj)) from hp) (by simp)),I.hok.kept hk,?_⟩
  · have hx' : (relabel scope X.env).names.lookup x=some .cell∨(relabel scope X.env).names.lookup x=some .free:=hx
    have m : (x,NameKind.free)∈scope.names:=by
      rcases hx' with z | z
      · exact relabel_back S.nocell z (.inl rfl)
      · exact relabel_back S.nocell z (.inr rfl)
    exact lookup_of_mem (clOf_has (env:=X.env) scope.names [] m)
  · exact (hf b hb).2.2.2.2.1 x c (cl_cells I S h)
  · rcases (hf b hb).2.2.2.1 with z | z
    · exact I.ok.noex b o q z
    · exact absurd (Nat.lt_of_lt_of_le (Heap.lt_size (I.ok.bs b o q).1) z) (Nat.lt_irrefl _)
  · intro z
    rcases List.mem_cons.mp (I.stkSub b z) with e | e
    · exact (hf b hb).2.1 e
    · exact (hf b hb).2.2.1 e
  · have e2 : (compSt ix σ)[k]? = some (some v):=h2
    unfold compSt at e2
    rw [List.getElem?_map] at e2
    cases e3 : ix[k]? with
    | none=>rw [e3] at e2; cases e2
    | some o=>
      rw [e3] at e2
      cases o with
      | none=>cases e2
      | some j=>
        obtain ⟨n1,n2,n3⟩:=S.out k j x h1 e3
        have e4 : σ[j]? = some (some v):=by
          have : (σ[j]?).join=some v:=Option.some.inj e2
          cases e5 : σ[j]? with
          | none=>rw [e5] at this; cases this
          | some w=>rw [e5] at this; exact congrArg some this
        have kc:=S.free _ n2 rfl
        obtain ⟨m,hn,hl⟩:=I.loc
        obtain ⟨u,r,l⟩:=hl j x v n1 e4 (.inr (.inl kc))
        refine ⟨u,r,?_⟩
        rcases l with ⟨z,_⟩ | ⟨_,c,hc,hcell⟩
        · dsimp only at kc
          rw [kc] at z; cases z
        · obtain ⟨c',hc'⟩:=lookup_of_mem (clOf_has (env:=X.env) scope.names [] n2)
          have ec:=cl_cells I S hc'
          rw [hc] at ec
          cases ec
          exact .inr ⟨.inl n3,c,hc',hcell.keeps hk⟩
  · obtain ⟨v,q⟩:=I.cell x c (cl_cells I S h)
    exact ⟨v,q.keeps hk⟩
  · unfold compSt
    rw [List.length_map]
    exact S.len
end
end L2
namespace L2
open PySem PySem.Spec PyProof.Rows
def PIfs0 (X : Cx) (ifs : List Expr) (t : TT) : Prop:=
  ∀ (pins : List (Addr×Obj)) (s : Shared) (σ : St) (H : Hp) (Q : Bool→Hp→Prop),Inv X pins σ H s→t σ H Q→
    wpAny (model X.prog X.w) X.A (forIn ifs true fun c r=>if r=true then do let ok ← isTrue c X.env (eval c X.env); pure (ForInStep.yield ok) else pure (ForInStep.yield r)) (TP X pins σ Q) X.xe s
structure PIfs (X : Cx) (ifs : List Expr) (t : TT) : Prop where
  out : PIfs0 X ifs t
instance {X : Cx} {ifs : List Expr} {t : TT} : CoeFun (PIfs X ifs t) (fun _=>PIfs0 X ifs t):=⟨PIfs.out⟩
def tIf0 : TT:=fun _ H Q=>Q true H
theorem pifs_nil {X : Cx} : PIfs X [] tIf0:=⟨fun pins s σ H Q I h=>wpAny_pure ⟨H,I,h⟩⟩
theorem pifs_one {X : Cx} {c : Expr} {t : TT} (h : PT X c t) : PIfs X [c] t:=⟨fun pins s σ H Q I q=>wpAny_tests_one (h pins s σ H Q I q)⟩
def tComp (ix : List (Option Nat)) (wi : TI) (g : TG) (ti : TT) (te : TE) : TE:=fun σ H Q=>wi σ H fun J H1=>∀ D,H1 D=none→∃ W : Nat→Nat→Hp→Prop,(∃ m,W 0 m (upd H1 D (.lst [])))∧∀ i m H,W i m H→
  (J.stop i H∧Q (.ref D) H)∨(J.go i H∧∀ x H',J.yld i H x H'→g x (compSt ix σ) H' fun σ2 H2=>(∀ (k : Nat) v,(compSt ix σ)[k]? = some (some v)→σ2[k]? = some (some v))∧ti σ2 H2 fun b H3=>
    if b=true then te σ2 H3 fun y H4=>∃ zs,H4 D=some (.lst zs)∧zs.length < sizeLine∧∃ m',m' < m∧W (i + 1) m' (upd H4 D (.lst (zs ++ [y]))) else ∃ m',m' < m∧W (i + 1) m' H3)
section
variable {X : Cx} {N' : List Str} {ix : List (Option Nat)} {scope : Scope} {elt tg iter : Expr} {ifs : List Expr} {pos : Pos} {wi : TI} {g : TG} {ti : TT} {te : TE}
def CompEnd (X : Cx) (pins : List (Addr×Obj)) (σ : St) (Q : VK) (acc : Value) (C : Addr) (r : Result) (s' : Shared) : Prop:=
  ∃ D H',acc = .ref D∧(∃ f,r = .ok f)∧Inv X pins σ H' s'∧FpOk X pins H' C∧(∃ m,s'.heap.Ns C m)∧Q (.ref D) H'
theorem comp_loop {X' : Cx} {σ₀ : St} {H : Hp} {s : Shared} {Q : VK} {it D : Addr} {fp : List Addr} {tn : Nat→Heap→Prop} {J : It} {W : Nat→Nat→Hp→Prop} {m0 : Nat} (I : Inv X' [] σ₀ H s) (hcalm : X'.calm=true) (hxe : X'.xe=fun _ _=>False)
    (T : Turn X'.prog X'.w X'.K tg J fp it tn) (st : tn 0 s.heap) (hf : ∀ b∈fp,FpOk X' [] H b) (hg : PG X' tg g) (hi : PIfs X' ifs ti) (he : PE X' elt te) (w0 : W 0 m0 H)
    (turn : ∀ i m H,W i m H→(J.stop i H∧Q (.ref D) H)∨(J.go i H∧∀ x H',J.yld i H x H'→g x σ₀ H' fun σ2 H2=>(∀ (k : Nat) v,σ₀[k]? = some (some v)→σ2[k]? = some (some v))∧ti σ2 H2 fun b H3=>
        if b=true then te σ2 H3 fun y H4=>∃ zs,H4 D=some (.lst zs)∧zs.length < sizeLine∧∃ m',m' < m∧W (i + 1) m' (upd H4 D (.lst (zs ++ [y]))) else ∃ m',m' < m∧W (i + 1) m' H3)) :
    codeAny (model X'.prog X'.w) X'.A (.compStart (.ListComp elt [⟨tg,iter,ifs,0⟩] scope pos) 0 (.ref it) (.ref D) X'.env) (fun r s'=>(∃ f,r = .ok f)∧∃ H',Inv X' [] σ₀ H' s'∧Q (.ref D) H') s:=by
  have stat : ∀ {H' : Hp},(∀ b∈fp,H' b=none)→∀ b∈fp,FpOk X' [] H' b:=fun hn b hb=>⟨hn b hb,(hf b hb).2⟩
  have loop : codeAny (model X'.prog X'.w) X'.A (.compLoop (.ListComp elt [⟨tg,iter,ifs,0⟩] scope pos) 0 (.ref it) (.ref D) X'.env) (fun r s'=>(∃ f,r = .ok f)∧∃ H',Inv X' [] σ₀ H' s'∧Q (.ref D) H') s:=by
    refine codeAny_loop rfl (fun n s'=>∃ i H',Inv X' [] σ₀ H' s'∧tn i s'.heap∧(∀ b∈fp,H' b=none)∧W i n H') ?_ m0 ⟨0,H,I,st,fun b hb=>(hf b hb).1,w0⟩
    rintro n s1 ⟨i,H1,I1,st1,fr1,w1⟩
    show wpAny _ X'.A ((compTurn (.ListComp elt [⟨tg,iter,ifs,0⟩] scope pos) 0 (.ref it) (.ref D) X'.env).onRaise (fun x=>do noteFrame x X'.env; theTreesLotGoes x)) _ _ s1
    refine wpAny_noted ?_
    have noE : ∀ {α : Type} {t : Sem α} {P : α→Shared→Prop} {F : Value→Shared→Prop} {s : Shared},wpAny (model X'.prog X'.w) X'.A t P X'.xe s→wpAny (model X'.prog X'.w) X'.A t P F s:=fun h=>wpAny_mono h (fun _ _ x=>x) fun e s' x=>by rw [hxe] at x; exact x.elim
    rw [compTurn_list]
    refine wpAny_bind (wpAny_standAt (wpAny_bind ?_))
    rcases turn i n H1 w1 with ⟨stop,qn⟩ | ⟨go,step⟩
    · refine thn (T.done X' rfl rfl rfl hcalm i [] s1 σ₀ H1 _ I1 (stat fr1) st1 stop) fun r s2 ⟨hr,I2⟩=>?_
      subst hr
      exact wpAny_pure ⟨⟨_,rfl⟩,H1,I2,qn⟩
    · refine thn (T.item X' rfl rfl rfl hcalm i [] s1 σ₀ H1 _ I1 (stat fr1) st1 go) fun r s2 ⟨u,hr,h2⟩=>?_
      subst hr
      refine wpAny_bind (thn h2 fun _ s3 ⟨x,H3,I3,r3,y3,st3,fr3⟩=>?_)
      have I3':=I3.pinned (stat fr3) (T.obj _ _ st3)
      refine wpAny_bind (noE (thn (hg _ s3 σ₀ H3 x u _ I3' r3 (step x H3 y3)) fun _ s4 ⟨σ4,H4,I4,hk4,q4⟩=>?_))
      refine wpAny_bind (noE (thn (hi _ s4 σ4 H4 _ I4 q4) fun ok s5 ⟨H5,I5,q5⟩=>?_))
      have again' : ∀ {s7 : Shared} {H7 : Hp} {m' : Nat},Inv X' ([] ++ pinsAt fp s3.heap) σ4 H7 s7→m' < n→W (i + 1) m' H7→∃ m,m < n∧∃ i H',Inv X' [] σ₀ H' s7∧tn i s7.heap∧(∀ b∈fp,H' b=none)∧W i m H':=fun {s7 H7 m'} I7 hm w7=>by
        refine ⟨m',hm,i + 1,H7,I7.unpinned.weak (by rw [I3.len,I7.len]) hk4,T.keep _ _ _ st3 fun b hb o e=>(I7.pin (b,o) (List.mem_append_right _ (List.mem_append_right _ (mem_pinsAt hb e)))).1,fun b hb=>?_,w7⟩
        obtain ⟨o,e,d⟩:=T.obj _ _ st3 b hb
        exact (I7.pin (b,o) (List.mem_append_right _ (List.mem_append_right _ (mem_pinsAt hb e)))).2.1
      cases ok with
      | false=>
        obtain ⟨m',hm,w7⟩:=q5
        exact wpAny_pure ⟨rfl,again' I5 hm w7⟩
      | true=>
        refine wpAny_bind (wpAny_bind (noE (thn (he _ s5 σ4 H5 _ I5 q5) fun y s6 ⟨yv,H6,I6,r6,zs,hD,hz,m',hm,w7⟩=>?_)))
        refine wpAny_bind (noE (thn (mt_append (X:=X') _ s6 σ4 H6 (.ref D) [yv] (.ref D) [y] (fun v H7=>H7=upd H6 D (.lst (zs ++ [yv]))) I6 rfl (.cons r6 .nil) ⟨D,zs,yv,rfl,rfl,hD,hz,rfl⟩) fun v s7 ⟨vv,H7,I7,_,e7⟩=>?_))
        subst e7
        exact wpAny_pure (wpAny_pure ⟨rfl,again' I7 hm w7⟩)
  refine codeAny_compStart_list loop (T.self _ 0 s _ _ st loop)
theorem comp_block {pins : List (Addr×Obj)} {σ : St} {H : Hp} {s : Shared} {Q : VK} {it : Addr} {fp : List Addr} {tn : Nat→Heap→Prop} {J : It} {E : Value→Shared→Prop} (I : Inv X pins σ H s) (hcalm : X.calm=true) (S : CompScope X N' ix scope)
    (T : Turn X.prog X.w X.K tg J fp it tn) (st : tn 0 s.heap) (hf : ∀ b∈fp,FpOk X pins H b)
    (hg : ∀ C s H fp,PG (cxComp X N' scope C s H fp) tg g) (hi : ∀ C s H fp,PIfs (cxComp X N' scope C s H fp) ifs ti) (he : ∀ C s H fp,PE (cxComp X N' scope C s H fp) elt te)
    (h : ∀ D,H D=none→∃ W : Nat→Nat→Hp→Prop,(∃ m,W 0 m (upd H D (.lst [])))∧∀ i m H,W i m H→
      (J.stop i H∧Q (.ref D) H)∨(J.go i H∧∀ x H',J.yld i H x H'→g x (compSt ix σ) H' fun σ2 H2=>(∀ (k : Nat) v,(compSt ix σ)[k]? = some (some v)→σ2[k]? = some (some v))∧ti σ2 H2 fun b H3=>
        if b=true then te σ2 H3 fun y H4=>∃ zs,H4 D=some (.lst zs)∧zs.length < sizeLine∧∃ m',m' < m∧W (i + 1) m' (upd H4 D (.lst (zs ++ [y]))) else ∃ m',m' < m∧W (i + 1) m' H3)) :
    wpAny (model X.prog X.w) X.A (newList []) (fun acc s3=>wpAny (model X.prog X.w) X.A (newFunctionEnv scope X.env.globals (clOf X.env scope.names []) [] X.env.qual none .none (some X.env)) (fun cenv s4=>
      codeAny (model X.prog X.w) X.A (.compStart (.ListComp elt [⟨tg,iter,ifs,0⟩] scope pos) 0 (.ref it) acc { cenv with scope:=relabel scope X.env }) (CompEnd X pins σ Q acc cenv.locals) s4) E s3) E s:=by
  refine wpAny_newList ?_
  have fresh0 : H s.heap.objs.size=none:=I.hok.fresh (Nat.le_refl _)
  have I3 : Inv X pins σ (upd H s.heap.objs.size (.lst [])) { s with heap:=s.heap.push { cls:=.type "list",data:=.seq ([] : List Value).toArray } } :=
    I.laid (t':=s.toks) (fun b u e=>Heap.get?_push_of_some _ e) (Nat.le_refl _) ⟨by show 0≤sizeLine; exact Nat.zero_le _,[],0,.nil,Heap.get?_push_size _ rfl⟩
  obtain ⟨W,⟨m0,w0⟩,turn⟩:=h s.heap.objs.size fresh0
  generalize hD : s.heap.objs.size=D at *
  have lt0 : ∀ b∈fp,b < s.heap.objs.size:=fun b hb=>by obtain ⟨o,e,_⟩:=T.obj 0 _ st b hb; exact Heap.lt_size e
  have hf3 : ∀ b∈fp,FpOk X pins (upd H D (.lst [])) b:=fun b hb=>by
    have nb : b≠D:=by rw [← hD]; exact Nat.ne_of_lt (lt0 b hb)
    obtain ⟨f0,fr⟩:=hf b hb
    exact ⟨by rw [upd_ne nb]; exact f0,fr⟩
  have st3 : tn 0 (s.heap.push { cls:=.type "list",data:=.seq ([] : List Value).toArray }):=T.keep _ _ _ st fun b hb o e=>Heap.get?_push_of_some _ e
  revert I3 st3
  generalize (s.heap.push { cls:=.type "list",data:=.seq ([] : List Value).toArray })=h3
  intro I3 st3
  have lt3 : ∀ b∈fp,b < h3.objs.size:=fun b hb=>by obtain ⟨o,e,_⟩:=T.obj 0 _ st3 b hb; exact Heap.lt_size e
  refine wpAny_newFunctionEnv S.nocell (fun x hx=>nomatch hx) (fun h4 hns hsb=>?_) S.kind
  have k4 : ∀ b o,h3.get? b=some o→h4.get? b=some o:=fun b o e=>(hsb.2 b (Nat.ne_of_lt (Heap.lt_size e))).trans (Heap.get?_push_of_some _ e)
  have J4 : Inv (cxComp X N' scope h3.objs.size { s with heap:=h3 } (upd H D (.lst [])) fp) [] (compSt ix σ) (upd H D (.lst [])) { s with heap:=h4,toks:=s.toks + ([] : List (Str×Value)).length }:=
    inv_comp (s:={ s with heap:=h3 }) (tk:=s.toks + ([] : List (Str×Value)).length) I3 hcalm S hf3 lt3 hns k4
  have st4 : tn 0 ({ s with heap:=h4,toks:=s.toks + ([] : List (Str×Value)).length } : Shared).heap:=T.keep _ _ _ st3 fun b hb o e=>k4 b o e
  have fr4 : ∀ b∈fp,upd H D (.lst []) b=none:=fun b hb=>(hf3 b hb).1
  revert J4 st4
  generalize ({ s with heap:=h4,toks:=s.toks + ([] : List (Str×Value)).length } : Shared)=s4
  intro J4 st4
  have hf4 : ∀ b∈fp,FpOk (cxComp X N' scope h3.objs.size { s with heap:=h3 } (upd H D (.lst [])) fp) [] (upd H D (.lst [])) b:=fun b hb=>
    ⟨fr4 b hb,Nat.ne_of_lt (lt3 b hb),J4.ok.exfs b hb,.inl hb,fun x c e=>(J4.ok.exf b hb).2 x c e,fun p hp=>nomatch hp⟩
  refine codeAny_mono (comp_loop (X':=cxComp X N' scope h3.objs.size { s with heap:=h3 } (upd H D (.lst [])) fp) (Q:=Q) (D:=D) J4 rfl rfl T st4 hf4 (hg _ _ _ _) (hi _ _ _ _) (he _ _ _ _) w0 turn) fun r s' ⟨hr,H',J',q'⟩=>?_
  refine ⟨D,H',rfl,hr,I3.call' J'.os J'.base J'.hok J'.bare fun b hb=>?_,?_,?_,q'⟩
  · obtain ⟨_,f1,_,f3,f4,f5⟩:=hf3 b hb
    exact ⟨f3,f1,f4,f5⟩
  · exact I3.fpOk (H':=H') (Nat.le_refl _) J'.free
  · obtain ⟨m,hn,_⟩:=J'.loc
    exact ⟨m,hn⟩
end
end L2
namespace L2
open PySem PySem.Spec PyProof.Rows
section
variable {X : Cx} {N' : List Str} {ix : List (Option Nat)} {scope : Scope} {elt tg iter : Expr} {ifs : List Expr} {pos : Pos} {wi : TI} {g : TG} {ti : TT} {te : TE}
theorem comp_closure {pins : List (Addr×Obj)} {σ : St} {H : Hp} {s : Shared} (I : Inv X pins σ H s) (S : CompScope X N' ix scope) : closureFor scope X.env=pure (clOf X.env scope.names []):=
  closureFor_cl fun y hy e=>I.ok.has y.1 (.inl (S.free y hy e))
theorem pe_comp (hcalm : X.calm=true) (S : CompScope X N' ix scope) (hit : PI X tg iter wi)
    (hg : ∀ C s H fp,PG (cxComp X N' scope C s H fp) tg g) (hi : ∀ C s H fp,PIfs (cxComp X N' scope C s H fp) ifs ti) (he : ∀ C s H fp,PE (cxComp X N' scope C s H fp) elt te)
    (hs : ∀ x,foldedSetIterable iter X.env x=pure x:=by intro _; rfl) : PE X (.ListComp elt [⟨tg,iter,ifs,0⟩] scope pos) (tComp ix wi g ti te):=by
  refine ⟨?_⟩
  intro pins s σ H Q I h
  rw [eval_ListComp]
  refine wpAny_comprehension_free (use:=none) rfl hs (comp_closure I S) S.kind S.loc (thn (hit pins s σ H _ I h) fun v s1 h1=>thn h1 fun itv s2 h2=>?_)
  obtain ⟨it,fp,tn,J,H2,rfl,I2,T,st2,f2,q2⟩:=h2
  refine thn (comp_block (E:=X.xe) (elt:=elt) (iter:=iter) (pos:=pos) I2 hcalm S T st2 f2 hg hi he q2) fun acc s3 h3=>thn h3 fun cenv s4 h4=>codeAny_mono h4 fun r s' hr=>?_
  obtain ⟨D,H',rfl,⟨f,rfl⟩,I',⟨g0,g1,_,g3,g4,g5⟩,⟨m,hm⟩,q'⟩:=hr
  exact ⟨m,hm,fun h' hsb=>⟨.ref D,H',I'.turned (t':=s'.toks) (fun b o hb e=>(hsb.2 b hb).trans e) g0 g1 g3 g4 g5,rfl,q'⟩⟩
end
end L2
namespace L2
open PySem PySem.Spec PyProof.Rows PySem.Builtin.SmallTypes
def SqI (h : Heap) (b : Bool) (it a : Addr) (k : Nat) : Prop:=match b with
  | true=>h.IsListIter it a k
  | false=>h.IsTupleIter it a k
def SqH (h : Heap) (b : Bool) (a : Addr) (its : Array Value) : Prop:=match b with
  | true=>h.IsList a its
  | false=>h.IsTuple a its
theorem SqI.ext {h h' : Heap} {b : Bool} {it a c : Addr} {k : Nat} (x : SqI h b it a k) (e : Heap.ExtBut c h h') (n : it≠c) : SqI h' b it a k:=by
  cases b with
  | true=>exact Heap.IsListIter.at (h:=h) x fun o q=>e it o n q
  | false=>exact Heap.IsTupleIter.at (h:=h) x fun o q=>e it o n q
theorem SqI.keep {h h' : Heap} {b : Bool} {it a : Addr} {k : Nat} (x : SqI h b it a k) (e : ∀ o,h.get? it=some o→h'.get? it=some o) : SqI h' b it a k:=by
  cases b with
  | true=>exact Heap.IsListIter.at (h:=h) x e
  | false=>exact Heap.IsTupleIter.at (h:=h) x e
theorem SqH.ext {h h' : Heap} {b : Bool} {a c : Addr} {its : Array Value} (x : SqH h b a its) (e : Heap.ExtBut c h h') (n : a≠c) : SqH h' b a its:=by
  cases b with
  | true=>exact Heap.IsList.at (h:=h) x fun o q=>e a o n q
  | false=>
    obtain ⟨o,h1,h2⟩:=(show h.IsTuple a its from x)
    exact (show h'.IsTuple a its from ⟨o,e a o n h1,h2⟩)
theorem SqI.obj {h : Heap} {b : Bool} {it a : Addr} {k : Nat} (x : SqI h b it a k) : ∃ o,h.get? it=some o∧∃ vs,o.data = .fields vs:=by
  cases b with
  | true=>obtain ⟨o,h1,_,h3⟩:=(show h.IsListIter it a k from x); exact ⟨o,h1,_,h3⟩
  | false=>obtain ⟨o,h1,_,h3⟩:=(show h.IsTupleIter it a k from x); exact ⟨o,h1,_,h3⟩
section
variable {prog : Program} {w : World} {A : Around} {E : Value→Shared→Prop} {s : Shared}
theorem tupIt_next {it t : Addr} {i : Nat} {its : Array Value} {x : Value} {Q : Value→Shared→Prop} (hi : s.heap.IsTupleIter it t i) (ht : s.heap.IsTuple t its) (hx : its[i]? = some x)
    (hq : ∀ h',h'.IsTupleIter it t (i + 1)→Heap.SameBut it s.heap h'→Q x { s with heap:=h' }) : wpAny (model prog w) A (nextOf (.ref it)) Q E s:=by
  obtain ⟨oi,e1,ec,ed⟩:=id hi
  obtain ⟨ot,e2,_,nt,et⟩:=ht
  (unfold nextOf; refine wpAny_bind (wpAny_callSpecial?_slot (name:=Str.ofString "__next__") hi.typeIs F.slot_tuple_iterator_next (wpAny_call_entry F.slot_tuple_iterator_next hi.typeIs F.entry_tuple_iterator_next ?_ (F.args_tuple_iterator_next_1 _))))
  (show wpAny _ _ (field (.ref it) 0 >>= _) _ _ s; refine wpAny_bind (wpAny_field e1 ed (x:=.ref t) rfl ?_))
  (show wpAny _ _ (if (Value.ref t == Value.none)=true then _ else _) _ _ s; rw [if_neg (show ¬ ((Value.ref t == Value.none)=true) from Bool.false_ne_true)])
  (show wpAny _ _ (field (.ref it) 1 >>= _) _ _ s; refine wpAny_bind (wpAny_field e1 ed (x:=.int i 0) rfl ?_))
  (show wpAny _ _ (seqItems? (.ref t) >>= _) _ _ s; refine wpAny_bind (wpAny_seqItems e2 et ?_))
  simp only [Int.toNat_natCast,hx]
  refine wpAny_bind (wpAny_setField e1 ed (by simp) (wpAny_pure ⟨x,rfl,wpAny_pure (hq _ ?_ (Heap.SameBut.update ..))⟩))
  exact ⟨_,Heap.get?_update_self _ e1 (Obj.isFreed_of_fields (Obj.data_mapFields ed _)),(Obj.cls_mapFields ..).trans ec,by rw [Obj.data_mapFields ed]; simp [rawInt]⟩
theorem tupIt_end {it t : Addr} {i : Nat} {its : Array Value} {Q : Value→Shared→Prop} (hh : A.handled=none) (hi : s.heap.IsTupleIter it t i) (ht : s.heap.IsTuple t its) (hx : its[i]? = none)
    (hE : ∀ h' e,Heap.ExtBut it s.heap h'→(∃ o,h'.get? e=some o∧o.cls = .type "StopIteration")→E (.ref e) { s with heap:=h' }) : wpAny (model prog w) A (nextOf (.ref it)) Q E s:=by
  obtain ⟨oi,e1,ec,ed⟩:=id hi
  obtain ⟨ot,e2,_,nt,et⟩:=ht
  (unfold nextOf; refine wpAny_bind (wpAny_callSpecial?_slot (name:=Str.ofString "__next__") hi.typeIs F.slot_tuple_iterator_next (wpAny_call_entry F.slot_tuple_iterator_next hi.typeIs F.entry_tuple_iterator_next ?_ (F.args_tuple_iterator_next_1 _))))
  (show wpAny _ _ (field (.ref it) 0 >>= _) _ _ s; refine wpAny_bind (wpAny_field e1 ed (x:=.ref t) rfl ?_))
  (show wpAny _ _ (if (Value.ref t == Value.none)=true then _ else _) _ _ s; rw [if_neg (show ¬ ((Value.ref t == Value.none)=true) from Bool.false_ne_true)])
  (show wpAny _ _ (field (.ref it) 1 >>= _) _ _ s; refine wpAny_bind (wpAny_field e1 ed (x:=.int i 0) rfl ?_))
  (show wpAny _ _ (seqItems? (.ref t) >>= _) _ _ s; refine wpAny_bind (wpAny_seqItems e2 et ?_))
  simp only [Int.toNat_natCast,hx]
  refine wpAny_bind (wpAny_rule (wpAny_bind (wpAny_setField e1 ed (by simp) ?_)))
  (show wpAny _ _ (newExc (.type "StopIteration") [] >>= _) _ _ _; refine wpAny_bind ?_)
  (simp only [newExc,newTuple]; refine wpAny_bind (wpAny_newObj_type ?_ (by size_fits)))
  refine wpAny_bind (m:=firstArgMember _ _) (wpAny_of_eq (a:=Value.none) (by rfl) ?_)
  refine wpAny_newObj_type ?_ (by size_fits)
  (simp only [raiseNew]; refine wpAny_bind (wpAny_handled ?_))
  rw [show A.in1.handled=none from hh]
  refine wpAny_bind (wpAny_pure (wpAny_throw ?_))
  exact hE _ _ (((Heap.SameBut.update ..).extBut.push _).push _) ⟨_,Heap.get?_push_size _ rfl,rfl⟩
theorem sq_next {b : Bool} {it a : Addr} {i : Nat} {its : Array Value} {x : Value} {Q : Value→Shared→Prop} (hi : SqI s.heap b it a i) (ha : SqH s.heap b a its) (hx : its[i]? = some x)
    (hq : ∀ h',SqI h' b it a (i + 1)→Heap.SameBut it s.heap h'→Q x { s with heap:=h' }) : wpAny (model prog w) A (nextOf (.ref it)) Q E s:=by
  cases b with
  | true=>exact wpAny_nextOf_list_item hi ha hx hq
  | false=>exact tupIt_next hi ha hx hq
theorem sq_end {b : Bool} {it a : Addr} {i : Nat} {its : Array Value} {Q : Value→Shared→Prop} (hh : A.handled=none) (hi : SqI s.heap b it a i) (ha : SqH s.heap b a its) (hx : its[i]? = none)
    (hE : ∀ h' e,Heap.ExtBut it s.heap h'→(∃ o,h'.get? e=some o∧o.cls = .type "StopIteration")→E (.ref e) { s with heap:=h' }) : wpAny (model prog w) A (nextOf (.ref it)) Q E s:=by
  cases b with
  | true=>exact wpAny_nextOf_list_end hh hi ha hx hE
  | false=>exact tupIt_end hh hi ha hx hE
variable {z TI TO i1 i2 l1 l2 : Addr} {b1 b2 : Bool} {k1 k2 : Nat} {xs ys : Array Value} {x y a b : Value}
theorem zipS_item {Q : Value→Shared→Prop} (D : ZipApart z TI TO i1 i2 l1 l2) (hz : IsZip s.heap z TI TO .none) (hTI : IsPair s.heap TI (.ref i1) (.ref i2)) (hTO : IsPair s.heap TO a b)
    (h1 : SqI s.heap b1 i1 l1 k1) (h2 : SqI s.heap b2 i2 l2 k2) (hl1 : SqH s.heap b1 l1 xs) (hl2 : SqH s.heap b2 l2 ys) (hx : xs[k1]? = some x) (hy : ys[k2]? = some y)
    (hq : ∀ h',IsZip h' z TI TO (rawInt s.heap.objs.size)→IsPair h' TO x y→SqI h' b1 i1 l1 (k1 + 1)→SqI h' b2 i2 l2 (k2 + 1)→IsPair h' s.heap.objs.size x y→h'.objs.size=s.heap.objs.size + 1→
      (∀ c o,c≠z→c≠TO→c≠i1→c≠i2→s.heap.get? c=some o→h'.get? c=some o)→Q (.ref s.heap.objs.size) { s with heap:=h' }) :
    wpAny (model prog w) A (Builtin.«zip.__next__» ⟨[.ref z],[]⟩) (fun fin s'=>∃ v,fin = .done (.ret v)∧Q v s') E s:=by
  (show wpAny _ _ (field (.ref z) 2 >>= _) _ _ _; refine wpAny_bind (wpAny_field hz rfl (x:=.bool false) rfl ?_))
  (show wpAny _ _ (field (.ref z) 3 >>= _) _ _ _; refine wpAny_bind (wpAny_field hz rfl (x:=.ref TI) rfl (wpAny_bind (wpAny_seqItems hTI rfl ?_))))
  (show wpAny _ _ (ownedTupleIsFree (.ref z) >>= _) _ _ _; refine wpAny_bind ?_)
  (unfold ownedTupleIsFree; refine wpAny_bind (wpAny_field hz rfl (x:=.none) rfl (wpAny_pure ?_)))
  (simp only [if_true]; refine wpAny_bind (wpAny_rule (wpAny_bind (wpAny_field hz rfl (x:=.ref TO) rfl ?_))))
  refine wpAny_bind (wpAny_setField_rec hz (by simp) fun g1 z1 s1=>?_)
  replace z1 : IsZip g1 z TI TO .ellipsis:=z1
  (refine wpAny_bind ?_; simp only [List.zipIdx_cons,List.zipIdx_nil,List.forIn_cons,List.forIn_nil])
  (refine wpAny_bind (wpAny_bind (wpAny_onRaise ?_)); show wpAny _ _ (nextOf (.ref i1) >>= _) _ _ _)
  refine wpAny_bind (sq_next (h1.ext s1.extBut D.i1z) (hl1.ext s1.extBut D.l1z) hx fun g2 p2 s2=>wpAny_pure ?_)
  have t2 : IsPair g2 TO a b:=s2.extBut _ _ D.TOi1 (s1.extBut _ _ D.TOz hTO)
  refine wpAny_bind (wpAny_seqItems t2 rfl (wpAny_bind (wpAny_updateSeq_pair t2 fun g3 t3 s3=>?_)))
  replace t3 : IsPair g3 TO x b:=t3
  (refine wpAny_bind (wpAny_letGo (wpAny_pure ?_)); refine wpAny_bind (wpAny_bind (wpAny_onRaise ?_)); show wpAny _ _ (nextOf (.ref i2) >>= _) _ _ _)
  refine wpAny_bind (sq_next (((h2.ext s1.extBut D.i2z).ext s2.extBut D.i12.symm).ext s3.extBut D.TOi2.symm) (((hl2.ext s1.extBut D.l2z).ext s2.extBut D.l2i1).ext s3.extBut D.l2TO) hy fun g4 p4 s4=>wpAny_pure ?_)
  have t4 : IsPair g4 TO x b:=s4.extBut _ _ D.TOi2 t3
  refine wpAny_bind (wpAny_seqItems t4 rfl (wpAny_bind (wpAny_updateSeq_pair t4 fun g5 t5 s5=>?_)))
  replace t5 : IsPair g5 TO x y:=t5
  (refine wpAny_bind (wpAny_letGo (wpAny_pure (wpAny_pure ?_))); refine wpAny_bind (wpAny_seqItems t5 rfl (wpAny_bind (wpAny_newTuple ?_))))
  have ez : g5.objs.size=s.heap.objs.size:=by rw [s5.1,s4.1,s3.1,s2.1,s1.1]
  have z5 : IsZip g5 z TI TO .ellipsis:=s5.extBut _ _ D.TOz.symm (s4.extBut _ _ D.i2z.symm (s3.extBut _ _ D.TOz.symm (s2.extBut _ _ D.i1z.symm z1)))
  have kp : ∀ c o,c≠z→c≠TO→c≠i1→c≠i2→s.heap.get? c=some o→g5.get? c=some o:=fun c o c1 c2 c3 c4 e=>s5.extBut _ _ c2 (s4.extBut _ _ c4 (s3.extBut _ _ c2 (s2.extBut _ _ c3 (s1.extBut _ _ c1 e))))
  have p1 : SqI g5 b1 i1 l1 (k1 + 1):=((p2.ext s3.extBut D.TOi1.symm).ext s4.extBut D.i12).ext s5.extBut D.TOi1.symm
  have p5 : SqI g5 b2 i2 l2 (k2 + 1):=p4.ext s5.extBut D.TOi2.symm
  have q1 : i1 < g5.objs.size:=let ⟨_,e,_⟩:=p1.obj; Heap.lt_size e
  have q2 : i2 < g5.objs.size:=let ⟨_,e,_⟩:=p5.obj; Heap.lt_size e
  (show wpAny _ _ (ownedTupleHandOut (.ref z) (.ref g5.objs.size) >>= _) _ _ _; refine wpAny_bind ?_; unfold ownedTupleHandOut)
  have z6 : IsZip (g5.push { cls:=.type "tuple",data:=.seq #[x,y] }) z TI TO .ellipsis:=Heap.get?_push_of_some _ z5
  refine wpAny_bind (wpAny_setField_rec z6 (by simp) fun g7 z7 s7=>?_)
  replace z7 : IsZip g7 z TI TO (rawInt g5.objs.size):=z7
  refine wpAny_setField_rec z7 (by simp) fun g8 z8 s8=>?_
  replace z8 : IsZip g8 z TI TO (rawInt g5.objs.size):=z8
  have up : ∀ c o,c≠z→g5.get? c=some o→g8.get? c=some o:=fun c o c1 e=>s8.extBut _ _ c1 (s7.extBut _ _ c1 (Heap.get?_push_of_some _ e))
  have nT : g5.objs.size≠z:=Nat.ne_of_gt (Heap.lt_size z5)
  have T8 : IsPair g8 g5.objs.size x y:=s8.extBut _ _ nT (s7.extBut _ _ nT (Heap.get?_push_size _ rfl))
  have e8 : g8.objs.size=g5.objs.size + 1:=by rw [s8.1,s7.1,Heap.size_push]
  refine wpAny_pure ⟨_,rfl,?_⟩
  rw [ez] at z8 T8 e8 ⊢
  exact hq g8 z8 (up _ _ D.TOz t5) (p1.keep fun o e=>up _ o D.i1z e) (p5.keep fun o e=>up _ o D.i2z e) T8 e8 fun c o c1 c2 c3 c4 e=>up c o c1 (kp c o c1 c2 c3 c4 e)
theorem zipS_end {Q : Fin→Shared→Prop} (hh : A.handled=none) (D : ZipApart z TI TO i1 i2 l1 l2) (hz : IsZip s.heap z TI TO .none) (hTI : IsPair s.heap TI (.ref i1) (.ref i2)) (hTO : IsPair s.heap TO a b)
    (h1 : SqI s.heap b1 i1 l1 k1) (h2 : SqI s.heap b2 i2 l2 k2) (hl1 : SqH s.heap b1 l1 xs) (hl2 : SqH s.heap b2 l2 ys) (hend : xs[k1]? = none∨ys[k2]? = none)
    (hE : ∀ h' e,(∀ c o,c≠z→c≠TO→c≠i1→c≠i2→s.heap.get? c=some o→h'.get? c=some o)→(∃ o,h'.get? e=some o∧o.cls = .type "StopIteration")→E (.ref e) { s with heap:=h' }) :
    wpAny (model prog w) A (Builtin.«zip.__next__» ⟨[.ref z],[]⟩) Q E s:=by
  (show wpAny _ _ (field (.ref z) 2 >>= _) _ _ _; refine wpAny_bind (wpAny_field hz rfl (x:=.bool false) rfl ?_))
  (show wpAny _ _ (field (.ref z) 3 >>= _) _ _ _; refine wpAny_bind (wpAny_field hz rfl (x:=.ref TI) rfl (wpAny_bind (wpAny_seqItems hTI rfl ?_))))
  (show wpAny _ _ (ownedTupleIsFree (.ref z) >>= _) _ _ _; refine wpAny_bind ?_)
  (unfold ownedTupleIsFree; refine wpAny_bind (wpAny_field hz rfl (x:=.none) rfl (wpAny_pure ?_)))
  (simp only [if_true]; refine wpAny_bind (wpAny_rule (wpAny_bind (wpAny_field hz rfl (x:=.ref TO) rfl ?_))))
  refine wpAny_bind (wpAny_setField_rec hz (by simp) fun g1 z1 s1=>?_)
  replace z1 : IsZip g1 z TI TO .ellipsis:=z1
  (refine wpAny_bind ?_; simp only [List.zipIdx_cons,List.zipIdx_nil,List.forIn_cons,List.forIn_nil])
  (refine wpAny_bind (wpAny_bind (wpAny_onRaise ?_)); show wpAny _ _ (nextOf (.ref i1) >>= _) _ _ _)
  cases ex : xs[k1]? with
  | none=>
    refine wpAny_bind (sq_end hh (h1.ext s1.extBut D.i1z) (hl1.ext s1.extBut D.l1z) ex fun g2 e s2 ⟨oe,he,ce⟩=>?_)
    have z2 : IsZip g2 z TI TO .ellipsis:=s2 _ _ D.i1z.symm z1
    have nez : e≠z:=fun q=>by subst q; rw [z2] at he; cases he; simp at ce
    exact wpAny_setField_rec z2 (by simp) fun g3 _ s3=>hE g3 e (fun c o c1 _ c3 _ q=>s3.extBut _ _ c1 (s2 _ _ c3 (s1.extBut _ _ c1 q))) ⟨oe,s3.extBut _ _ nez he,ce⟩
  | some x=>
    have ey : ys[k2]? = none:=by rcases hend with q | q; rw [ex] at q; cases q; exact q
    refine wpAny_bind (sq_next (h1.ext s1.extBut D.i1z) (hl1.ext s1.extBut D.l1z) ex fun g2 p2 s2=>wpAny_pure ?_)
    have t2 : IsPair g2 TO a b:=s2.extBut _ _ D.TOi1 (s1.extBut _ _ D.TOz hTO)
    refine wpAny_bind (wpAny_seqItems t2 rfl (wpAny_bind (wpAny_updateSeq_pair t2 fun g3 t3 s3=>?_)))
    (refine wpAny_bind (wpAny_letGo (wpAny_pure ?_)); refine wpAny_bind (wpAny_bind (wpAny_onRaise ?_)); show wpAny _ _ (nextOf (.ref i2) >>= _) _ _ _)
    refine wpAny_bind (sq_end hh (((h2.ext s1.extBut D.i2z).ext s2.extBut D.i12.symm).ext s3.extBut D.TOi2.symm) (((hl2.ext s1.extBut D.l2z).ext s2.extBut D.l2i1).ext s3.extBut D.l2TO) ey fun g4 e s4 ⟨oe,he,ce⟩=>?_)
    have z4 : IsZip g4 z TI TO .ellipsis:=s4 _ _ D.i2z.symm (s3.extBut _ _ D.TOz.symm (s2.extBut _ _ D.i1z.symm z1))
    have nez : e≠z:=fun q=>by subst q; rw [z4] at he; cases he; simp at ce
    exact wpAny_setField_rec z4 (by simp) fun g5 _ s5=>hE g5 e (fun c o c1 c2 c3 c4 q=>s5.extBut _ _ c1 (s4 _ _ c4 (s3.extBut _ _ c2 (s2.extBut _ _ c3 (s1.extBut _ _ c1 q))))) ⟨oe,s5.extBut _ _ nez he,ce⟩
end
end L2
namespace L2
open PySem PySem.Spec PyProof.Rows PySem.Builtin.SmallTypes
def itName : Bool→String
  | true => "list_iterator"
  | false => "tuple_iterator"
abbrev zg1 (h : Heap) (b1 : Bool) (l1 : Addr) : Heap:=h.push { cls:=.type (itName b1),data:=.fields #[.ref l1,.int 0 0] }
abbrev zg2 (h : Heap) (b1 b2 : Bool) (l1 l2 : Addr) : Heap:=(zg1 h b1 l1).push { cls:=.type (itName b2),data:=.fields #[.ref l2,.int 0 0] }
abbrev zg3 (h : Heap) (b1 b2 : Bool) (l1 l2 : Addr) : Heap:=(zg2 h b1 b2 l1 l2).push { cls:=.type "tuple",data:=.seq #[.ref h.objs.size,.ref (zg1 h b1 l1).objs.size] }
abbrev zg4 (h : Heap) (b1 b2 : Bool) (l1 l2 : Addr) : Heap:=(zg3 h b1 b2 l1 l2).push { cls:=.type "tuple",data:=.seq #[.none,.none] }
abbrev zg5 (h : Heap) (b1 b2 : Bool) (l1 l2 : Addr) : Heap:=(zg4 h b1 b2 l1 l2).push { cls:=.type "zip",data:=.fields #[.none,.bool false,.bool false,.ref (zg2 h b1 b2 l1 l2).objs.size,.ref (zg3 h b1 b2 l1 l2).objs.size] }
theorem meetsZip (b1 b2 : Bool) (l1 l2 : Addr) (xs ys : Array Value) :
    Meets (Builtin.«zip.__new__» ⟨[.type "zip",.ref l1,.ref l2],[]⟩) (fun _ R s=>SqH s.heap b1 l1 xs∧SqH s.heap b2 l2 ys ∧
      R (.ok (.ret (.ref (zg4 s.heap b1 b2 l1 l2).objs.size))) { s with heap:=zg5 s.heap b1 b2 l1 l2 }):=
  .of_wp fun prog w A R s h=>by
    obtain ⟨hp,g,d,tk,os⟩:=s; obtain ⟨q1,q2,h⟩:=h
    have hsub:=sub_zip
    cases b1 with
    | true=>
      have g1 : Heap.IsList (Shared.heap ⟨hp,g,d,tk,os⟩) l1 xs:=q1
      cases b2 with
      | true=>
        have g2 : Heap.IsList (Shared.heap ⟨hp.push { cls:=.type "list_iterator",data:=.fields #[.ref l1,.int 0 0] },g,d,tk,os⟩) l2 ys:=Heap.IsList.push (show hp.IsList l2 ys from q2) _
        wp_walk using wpAny_pyIter_list g1,wpAny_pyIter_list g2
        exact ⟨_,rfl,h⟩
      | false=>
        have g2 : Heap.IsTuple (Shared.heap ⟨hp.push { cls:=.type "list_iterator",data:=.fields #[.ref l1,.int 0 0] },g,d,tk,os⟩) l2 ys:=Heap.IsTuple.push (show hp.IsTuple l2 ys from q2) _
        wp_walk using wpAny_pyIter_list g1,wpAny_pyIter_tuple g2
        exact ⟨_,rfl,h⟩
    | false=>
      have g1 : Heap.IsTuple (Shared.heap ⟨hp,g,d,tk,os⟩) l1 xs:=q1
      cases b2 with
      | true=>
        have g2 : Heap.IsList (Shared.heap ⟨hp.push { cls:=.type "tuple_iterator",data:=.fields #[.ref l1,.int 0 0] },g,d,tk,os⟩) l2 ys:=Heap.IsList.push (show hp.IsList l2 ys from q2) _
        wp_walk using wpAny_pyIter_tuple g1,wpAny_pyIter_list g2
        exact ⟨_,rfl,h⟩
      | false=>
        have g2 : Heap.IsTuple (Shared.heap ⟨hp.push { cls:=.type "tuple_iterator",data:=.fields #[.ref l1,.int 0 0] },g,d,tk,os⟩) l2 ys:=Heap.IsTuple.push (show hp.IsTuple l2 ys from q2) _
        wp_walk using wpAny_pyIter_tuple g1,wpAny_pyIter_tuple g2
        exact ⟨_,rfl,h⟩
theorem sqi_new {h : Heap} {b : Bool} {it a : Addr} (e : h.get? it=some { cls:=.type (itName b),data:=.fields #[.ref a,.int 0 0] }) : SqI h b it a 0:=by
  cases b with
  | true=>exact (show h.IsListIter it a 0 from ⟨_,e,rfl,rfl⟩)
  | false=>exact (show h.IsTupleIter it a 0 from ⟨_,e,rfl,rfl⟩)
section
variable {prog : Program} {w : World} {A : Around} {E : Value→Shared→Prop} {s : Shared}
theorem call_zipS {b1 b2 : Bool} {l1 l2 : Addr} {xs ys : Array Value} {Q : Value→Shared→Prop} (q1 : SqH s.heap b1 l1 xs) (q2 : SqH s.heap b2 l2 ys)
    (hq : ∀ h',IsZip h' (s.heap.objs.size + 4) (s.heap.objs.size + 2) (s.heap.objs.size + 3) .none→IsPair h' (s.heap.objs.size + 2) (.ref s.heap.objs.size) (.ref (s.heap.objs.size + 1))→IsPair h' (s.heap.objs.size + 3) .none .none→
      SqI h' b1 s.heap.objs.size l1 0→SqI h' b2 (s.heap.objs.size + 1) l2 0→(∀ c o,s.heap.get? c=some o→h'.get? c=some o)→Q (.ref (s.heap.objs.size + 4)) { s with heap:=h' }) :
    wpAny (model prog w) A (call (.type "zip") [.ref l1,.ref l2]) Q E s:=by
  refine callType_new F.called_zip (by decide) (F.typeCall_zip_2 _ _) (F.newCall_zip_2 _ _) (fun obj=>F.args_object_init_3 obj _ _) F.entry_zip_new (meetsZip b1 b2 l1 l2 xs ys) ⟨q1,q2,?_⟩
  have n1 : (zg1 s.heap b1 l1).objs.size=s.heap.objs.size + 1:=Heap.size_push ..
  have n2 : (zg2 s.heap b1 b2 l1 l2).objs.size=s.heap.objs.size + 2:=by rw [Heap.size_push,n1]
  have n3 : (zg3 s.heap b1 b2 l1 l2).objs.size=s.heap.objs.size + 3:=by rw [Heap.size_push,n2]
  have n4 : (zg4 s.heap b1 b2 l1 l2).objs.size=s.heap.objs.size + 4:=by rw [Heap.size_push,n3]
  have p5 : (zg5 s.heap b1 b2 l1 l2).get? (zg4 s.heap b1 b2 l1 l2).objs.size=some _:=Heap.get?_push_size _ rfl
  have p4 : (zg5 s.heap b1 b2 l1 l2).get? (zg3 s.heap b1 b2 l1 l2).objs.size=some _:=Heap.get?_push_of_some _ (Heap.get?_push_size _ rfl)
  have p3 : (zg5 s.heap b1 b2 l1 l2).get? (zg2 s.heap b1 b2 l1 l2).objs.size=some _:=Heap.get?_push_of_some _ (Heap.get?_push_of_some _ (Heap.get?_push_size _ rfl))
  have p2 : (zg5 s.heap b1 b2 l1 l2).get? (zg1 s.heap b1 l1).objs.size=some _:=Heap.get?_push_of_some _ (Heap.get?_push_of_some _ (Heap.get?_push_of_some _ (Heap.get?_push_size _ rfl)))
  have p1 : (zg5 s.heap b1 b2 l1 l2).get? s.heap.objs.size=some _:=Heap.get?_push_of_some _ (Heap.get?_push_of_some _ (Heap.get?_push_of_some _ (Heap.get?_push_of_some _ (Heap.get?_push_size _ rfl))))
  rw [n2,n3,n4] at p5
  rw [n1,n2] at p3
  rw [n3] at p4
  rw [n1] at p2
  show _∧_
  rw [n4]
  exact ⟨⟨_,p5,rfl⟩,hq _ p5 p3 p4 (sqi_new p1) (sqi_new p2) fun c o e=>Heap.get?_push_of_some _ (Heap.get?_push_of_some _ (Heap.get?_push_of_some _ (Heap.get?_push_of_some _ (Heap.get?_push_of_some _ e))))⟩
variable {z TI TO i1 i2 l1 l2 : Addr} {b1 b2 : Bool} {k1 k2 : Nat} {xs ys : Array Value} {x y a b : Value}
theorem nextZip_item {Q : Option Value→Shared→Prop} (D : ZipApart z TI TO i1 i2 l1 l2) (hz : IsZip s.heap z TI TO .none) (hTI : IsPair s.heap TI (.ref i1) (.ref i2)) (hTO : IsPair s.heap TO a b)
    (h1 : SqI s.heap b1 i1 l1 k1) (h2 : SqI s.heap b2 i2 l2 k2) (hl1 : SqH s.heap b1 l1 xs) (hl2 : SqH s.heap b2 l2 ys) (hx : xs[k1]? = some x) (hy : ys[k2]? = some y)
    (hq : ∀ h',IsZip h' z TI TO (rawInt s.heap.objs.size)→IsPair h' TO x y→SqI h' b1 i1 l1 (k1 + 1)→SqI h' b2 i2 l2 (k2 + 1)→IsPair h' s.heap.objs.size x y→
      (∀ c o,c≠z→c≠TO→c≠i1→c≠i2→s.heap.get? c=some o→h'.get? c=some o)→Q (some (.ref s.heap.objs.size)) { s with heap:=h' }) : wpAny (model prog w) A (pyNext (.ref z)) Q E s:=by
  have ty : s.TypeIs (.ref z) "zip" := ⟨_,hz,rfl⟩
  (unfold pyNext; exact wpAny_bind (wpAny_attempt (wpAny_callSpecial?_slot (name:=Str.ofString "__next__") ty F.slot_zip_next (wpAny_call_entry F.slot_zip_next ty F.entry_zip_next (zipS_item D hz hTI hTO h1 h2 hl1 hl2 hx hy fun h' a1 a2 a3 a4 a5 _ a7=>wpAny_pure (hq h' a1 a2 a3 a4 a5 a7)) (F.args_zip_next_1 _)))))
theorem nextZip_end {Q : Option Value→Shared→Prop} (hh : A.handled=none) (D : ZipApart z TI TO i1 i2 l1 l2) (hz : IsZip s.heap z TI TO .none) (hTI : IsPair s.heap TI (.ref i1) (.ref i2)) (hTO : IsPair s.heap TO a b)
    (h1 : SqI s.heap b1 i1 l1 k1) (h2 : SqI s.heap b2 i2 l2 k2) (hl1 : SqH s.heap b1 l1 xs) (hl2 : SqH s.heap b2 l2 ys) (hend : xs[k1]? = none∨ys[k2]? = none)
    (hq : ∀ h',(∀ c o,c≠z→c≠TO→c≠i1→c≠i2→s.heap.get? c=some o→h'.get? c=some o)→Q none { s with heap:=h' }) : wpAny (model prog w) A (pyNext (.ref z)) Q E s:=by
  have ty : s.TypeIs (.ref z) "zip" := ⟨_,hz,rfl⟩
  (unfold pyNext; refine wpAny_bind (wpAny_attempt (wpAny_callSpecial?_slot (name:=Str.ofString "__next__") ty F.slot_zip_next (wpAny_call_entry F.slot_zip_next ty F.entry_zip_next (zipS_end hh D hz hTI hTO h1 h2 hl1 hl2 hend fun h' e hk ⟨o,ho,hc⟩=>?_) (F.args_zip_next_1 _)))))
  exact wpAny_bind (wpAny_isInstance (T := "StopIteration") (b:=true) ⟨o,ho,hc⟩ isSubtype_stop (wpAny_pure (hq _ hk)))
end
end L2
namespace L2
open PySem PySem.Spec PyProof.Rows
def SqB (K : PySem.W.Frag) (H : Hp) (b : Bool) (a : Addr) (xs : List V) : Prop:=match b with
  | true=>SqL K H a xs
  | false=>SqT K H a xs
section
variable {X : Cx} {pins : List (Addr×Obj)} {σ : St} {H : Hp} {s : Shared}
theorem Inv.sqB {b : Bool} {a : Addr} {xs : List V} (I : Inv X pins σ H s) (h : SqB X.K H b a xs) : ∃ its : List Value,Vals xs its∧SqH s.heap b a its.toArray:=by
  cases b with
  | true=>obtain ⟨its,r,p,_⟩:=I.list h; exact ⟨its,r,p.isList⟩
  | false=>obtain ⟨its,r,p,_⟩:=I.tuple h; exact ⟨its,r,p⟩
theorem Inv.sqB_inj {b : Bool} {a : Addr} {xs ys : List V} (I : Inv X pins σ H s) (h : SqB X.K H b a xs) (h' : SqB X.K H b a ys) : xs=ys:=by
  cases b with
  | true=>exact I.list_inj h h'
  | false=>exact I.tuple_inj h h'
theorem Inv.turnedL {h' : Heap} {t' : Nat} {ch : List Addr} (I : Inv X pins σ H s) (hf : ∀ b∈ch,FpOk X pins H b) (k : ∀ b o,b ∉ ch→s.heap.get? b=some o→h'.get? b=some o) : Inv X pins σ H { s with heap:=h',toks:=t' }:=by
  have nt : ∀ b u,H b=some u→b ∉ ch:=fun b u e z=>by rw [(hf b z).1] at e; cases e
  have hL : X.env.locals ∉ ch:=fun z=>(hf _ z).2.1 rfl
  refine I.step (g':=s.gens) (d':=s.drawn) (ch:=ch) (fun b hb=>⟨(hf b hb).2.2.2.1,(hf b hb).2.1,(hf b hb).2.2.2.2.1,(hf b hb).2.2.2.2.2⟩) (fun b o _ _ hc e _=>k b o hc e) (fun b o _ _ hc e _=>⟨o.slots,k b o hc e⟩) (fun _ _ _ _ n=>n)
    (fun b o hc e=>⟨o,k b o hc e⟩) (fun _ _ e=>e) (fun _ _ _ e=>e) (fun b ps e=>⟨#[],by rw [e]; simp⟩) (fun m hm=>?_) (fun b u e=>?_) I.bare
  · obtain ⟨o,es,ep,ho,r⟩:=hm
    exact ⟨o,es,ep,k _ o hL ho,r⟩
  · refine (I.hok b u e).stay (fun c v hc q=>k c v ?_ q) (fun _ q=>q) fun _ _ q=>q
    rcases hc with z | z
    · rw [z]; exact nt b u e
    · exact nt c _ z
theorem Inv.trackNew {h' : Heap} {t' : Nat} {a : Addr} {o : HO} (I0 : Inv X pins σ H s) (I : Inv X pins σ H { s with heap:=h',toks:=t' }) (ha : s.heap.objs.size≤a) (new : ObjOk X.prog X.w (upd H a o) h' a o) : Inv X pins σ (upd H a o) { s with heap:=h',toks:=t' }:=by
  refine I.track (Heap.get?_none_of_le (Nat.le_trans I0.sz ha)) (I0.hok.fresh ha) (Nat.ne_of_gt (Nat.lt_of_lt_of_le I0.lt ha)) (fun x c e z=>?_) (fun p hp z=>?_) new
  · obtain ⟨v,q⟩:=I0.cell x c e
    exact absurd (Nat.lt_of_lt_of_le q.lt (by rw [z]; exact ha)) (Nat.lt_irrefl _)
  · exact absurd (Nat.lt_of_lt_of_le (Heap.lt_size (I0.pin p hp).1) (by rw [z]; exact ha)) (Nat.lt_irrefl _)
end
def Itz (K : PySem.W.Frag) (b1 b2 : Bool) (l1 l2 : Addr) : It:=
  ⟨fun i H=>∃ xs ys x y,SqB K H b1 l1 xs∧SqB K H b2 l2 ys∧xs[i]? = some x∧ys[i]? = some y,
   fun i H v H'=>∃ p x y,v = .ref p∧H p=none∧H' = upd H p (.tup [x,y])∧∀ xs ys,SqB K H b1 l1 xs→SqB K H b2 l2 ys→xs[i]? = some x∧ys[i]? = some y,
   fun i H=>∃ xs ys,SqB K H b1 l1 xs∧SqB K H b2 l2 ys∧(xs.length≤i∨ys.length≤i)⟩
def zipTn (z TI TO i1 i2 l1 l2 : Addr) (b1 b2 : Bool) (i : Nat) (h : Heap) : Prop:=IsZip h z TI TO .none∧IsPair h TI (.ref i1) (.ref i2)∧(∃ a b,IsPair h TO a b)∧SqI h b1 i1 l1 i∧SqI h b2 i2 l2 i
theorem turn_zip {P : Program} {w : World} {K : PySem.W.Frag} {es : List Expr} {x1 : Nat} {tp : Pos} {z TI TO i1 i2 l1 l2 : Addr} {b1 b2 : Bool} (D : ZipApart z TI TO i1 i2 l1 l2) :
    Turn P w K (.Tuple es x1 tp) (Itz K b1 b2 l1 l2) [z,TI,TO,i1,i2] z (zipTn z TI TO i1 i2 l1 l2 b1 b2) where
  mem:=by simp
  obj:=fun i h ⟨t1,t2,⟨a,b,t3⟩,t4,t5⟩ c hc=>by
    simp only [List.mem_cons,List.not_mem_nil,or_false] at hc
    rcases hc with rfl | rfl | rfl | rfl | rfl
    · exact ⟨_,t1,fun v q=>by cases q⟩
    · exact ⟨_,t2,fun v q=>by cases q⟩
    · exact ⟨_,t3,fun v q=>by cases q⟩
    · obtain ⟨o,e,vs,d⟩:=t4.obj; exact ⟨o,e,fun v q=>by rw [d] at q; cases q⟩
    · obtain ⟨o,e,vs,d⟩:=t5.obj; exact ⟨o,e,fun v q=>by rw [d] at q; cases q⟩
  keep:=fun i h h' ⟨t1,t2,⟨a,b,t3⟩,t4,t5⟩ k=>⟨k z (by simp) _ t1,k TI (by simp) _ t2,⟨a,b,k TO (by simp) _ t3⟩,t4.keep fun o e=>k i1 (by simp) o e,t5.keep fun o e=>k i2 (by simp) o e⟩
  item:=by
    intro X hP hw hK hc i pins s σ H E I hf st hg
    subst hP hw hK
    obtain ⟨t1,t2,⟨a,b,t3⟩,t4,t5⟩:=st
    obtain ⟨xs,ys,x,y,q1,q2,e1,e2⟩:=hg
    obtain ⟨us,r1,p1⟩:=I.sqB q1
    obtain ⟨vs,r2,p2⟩:=I.sqB q2
    obtain ⟨u,eu,ru⟩:=r1.get e1
    obtain ⟨v,ev,rv⟩:=r2.get e2
    refine nextZip_item (x:=u) (y:=v) D t1 t2 t3 t4 t5 p1 p2 (by simpa using eu) (by simpa using ev) fun h' a1 a2 a3 a4 a5 a7=>?_
    refine ⟨_,rfl,wpAny_letOwnedTupleGo_zip a1 fun h'' c1 c2=>?_⟩
    have nz : s.heap.objs.size≠z:=Nat.ne_of_gt (Heap.lt_size t1)
    have I1 : Inv X pins σ H { s with heap:=h'',toks:=s.toks }:=I.turnedL hf fun c o hc q=>by
      simp only [List.mem_cons,List.not_mem_nil,or_false,not_or] at hc
      exact c2.extBut c o hc.1 (a7 c o hc.1 hc.2.2.1 hc.2.2.2.1 hc.2.2.2.2 q)
    have I2:=I.trackNew (t':=s.toks) (o:=.tup [x,y]) I1 (Nat.le_refl _) ⟨by show 2≤sizeLine; decide,[u,v],.cons ru (.cons rv .nil),⟨_,c2.extBut _ _ nz a5,rfl,_,rfl⟩⟩
    have fr : H s.heap.objs.size=none:=I.hok.fresh (Nat.le_refl _)
    refine ⟨.ref s.heap.objs.size,_,I2,rfl,⟨s.heap.objs.size,x,y,rfl,fr,rfl,fun xs' ys' q1' q2'=>⟨by rw [I.sqB_inj q1' q1]; exact e1,by rw [I.sqB_inj q2' q2]; exact e2⟩⟩,⟨c1,c2.extBut _ _ D.TIz (a7 TI _ D.TIz D.TITO D.TIi1 D.TIi2 t2),⟨u,v,c2.extBut _ _ D.TOz a2⟩,a3.ext c2.extBut D.i1z,a4.ext c2.extBut D.i2z⟩,fun c hc=>?_⟩
    obtain ⟨o,eo⟩ : ∃ o,s.heap.get? c=some o:=by
      simp only [List.mem_cons,List.not_mem_nil,or_false] at hc
      rcases hc with rfl | rfl | rfl | rfl | rfl
      · exact ⟨_,t1⟩
      · exact ⟨_,t2⟩
      · exact ⟨_,t3⟩
      · obtain ⟨o,e,_⟩:=t4.obj; exact ⟨o,e⟩
      · obtain ⟨o,e,_⟩:=t5.obj; exact ⟨o,e⟩
    rw [upd_ne (Nat.ne_of_lt (Heap.lt_size eo))]
    exact (hf c hc).1
  done:=by
    intro X hP hw hK hc i pins s σ H E I hf st hg
    subst hP hw hK
    obtain ⟨t1,t2,⟨a,b,t3⟩,t4,t5⟩:=st
    obtain ⟨xs,ys,q1,q2,hl⟩:=hg
    obtain ⟨us,r1,p1⟩:=I.sqB q1
    obtain ⟨vs,r2,p2⟩:=I.sqB q2
    have n1:=r1.length
    have n2:=r2.length
    refine nextZip_end (I.ok.hd hc) D t1 t2 t3 t4 t5 p1 p2 ?_ fun h' kk=>⟨rfl,I.turnedL (t':=s.toks) hf fun c o hc q=>?_⟩
    · rcases hl with z | z
      · exact .inl (by simp; omega)
      · exact .inr (by simp; omega)
    · simp only [List.mem_cons,List.not_mem_nil,or_false,not_or] at hc
      exact kk c o hc.1 hc.2.2.1 hc.2.2.2.1 hc.2.2.2.2 q
  self:=fun _ _ _ _ _ st h=>wpAny_pyIter_zip st.1 h
section
variable {X : Cx} {es : List Expr} {x1 : Nat} {tp : Pos}
def iZip (K : PySem.W.Frag) (ta : TA) : TI:=fun σ H R=>ta σ H fun vs H1=>∃ b1 b2 l1 l2 xs ys,vs=[.ref l1,.ref l2]∧SqB K H1 b1 l1 xs∧SqB K H1 b2 l2 ys∧R (Itz K b1 b2 l1 l2) H1
theorem pi_zip {a b : Expr} {ta : TA} {p pos : Pos} (hg : Gl X "zip") (hm : X.mg "zip" = none) (ha : PA X [a,b] ta) (hs : starEach [a,b] X.env=[(false,eval a X.env),(false,eval b X.env)]:=by rfl) (hs2 : starEach [b] X.env=[(false,eval b X.env)]:=by rfl) :
    PI X (.Tuple es x1 tp) (.Call (.Name "zip" p) [a,b] [] pos) (iZip X.K ta):=by
  refine ⟨?_⟩
  intro pins s σ H R I h
  refine Call_ (ld_blt I hg hm boot_zip (PyProof.Rows.callWith_type1 (thn (ha pos pins s σ H _ I h) fun us s1 ⟨vs,H1,I1,r1,q1⟩=>?_) (by rw [hs,hs2]) (by rw [hs2]; rfl)))
  obtain ⟨b1,b2,l1,l2,xs,ys,rfl,q1,q2,q⟩:=q1
  obtain ⟨u,v,rfl,ru,rv⟩:=r1.two
  cases ru; cases rv
  obtain ⟨us1,_,p1⟩:=I1.sqB q1
  obtain ⟨us2,_,p2⟩:=I1.sqB q2
  have n1 : l1 < s1.heap.objs.size:=by
    cases b1 with
    | true=>obtain ⟨o,e,_⟩:=(show s1.heap.IsList l1 _ from p1); exact Heap.lt_size e
    | false=>obtain ⟨o,e,_⟩:=(show s1.heap.IsTuple l1 _ from p1); exact Heap.lt_size e
  have n2 : l2 < s1.heap.objs.size:=by
    cases b2 with
    | true=>obtain ⟨o,e,_⟩:=(show s1.heap.IsList l2 _ from p2); exact Heap.lt_size e
    | false=>obtain ⟨o,e,_⟩:=(show s1.heap.IsTuple l2 _ from p2); exact Heap.lt_size e
  refine call_zipS p1 p2 fun h' a1 a2 a3 a4 a5 kk=>?_
  refine wpAny_pyIter_zip a1 ?_
  have I2 : Inv X pins σ H1 { s1 with heap:=h',toks:=s1.toks }:=I1.kept kk
  refine ⟨_,[s1.heap.objs.size + 4,s1.heap.objs.size + 2,s1.heap.objs.size + 3,s1.heap.objs.size,s1.heap.objs.size + 1],_,_,H1,rfl,I2,turn_zip (zipApart_new n1 n2),⟨a1,a2,⟨_,_,a3⟩,a4,a5⟩,fun c hc=>?_,q⟩
  have hge : s1.heap.objs.size≤c:=by
    simp only [List.mem_cons,List.not_mem_nil,or_false] at hc
    rcases hc with rfl | rfl | rfl | rfl | rfl <;> omega
  exact I1.fpOk (H':=H1) hge (I1.hok.fresh hge)
end
end L2
namespace L2
open PySem PySem.Spec PyProof.Rows
section
variable {X : Cx}
theorem vals_bools : ∀ {bs : List Bool} {us : List Value},Vals (bs.map V.bl) us→us=bs.map Value.bool
  | [],_,.nil=>rfl
  | b :: r,_,.cons x t=>by rw [show _=Value.bool b from x,vals_bools t]; rfl
theorem range_all {bs : List Bool} : (List.range bs.length).all (fun i=>bs.getD i false)=bs.all id:=by
  rw [Bool.eq_iff_iff,List.all_eq_true,List.all_eq_true]
  constructor
  · intro h b hb
    obtain ⟨i,hi,rfl⟩:=List.mem_iff_getElem.mp hb
    have:=h i (List.mem_range.mpr hi)
    simpa [List.getD_eq_getElem?_getD,hi] using this
  · intro h i hi
    have hi':=List.mem_range.mp hi
    have:=h _ (List.getElem_mem hi')
    simpa [List.getD_eq_getElem?_getD,hi'] using this
theorem bools_at {bs : List Bool} {i : Nat} {v : Value} (h : (bs.map Value.bool).toArray[i]? = some v) : v = .bool (bs.getD i false):=by
  have h' : (bs.map Value.bool)[i]? = some v:=by simpa using h
  rw [List.getElem?_map] at h'
  cases e : bs[i]? with
  | none=>rw [e] at h'; cases h'
  | some b=>
    rw [e] at h'
    rw [List.getD_eq_getElem?_getD,e]
    exact (Option.some.inj h').symm
theorem call_allB (hc : X.calm=true) : CallR X (.builtin "all") (fun xs H Q=>∃ (p : Addr) (bs : List Bool),xs=[.ref p]∧SqL X.K H p (bs.map V.bl)∧Q (.bl (bs.all id)) H):=by
  intro pins s σ H xs us Q I r h
  obtain ⟨p,bs,rfl,hq,q⟩:=h
  obtain ⟨u,rfl,ru⟩:=r.one
  cases ru
  obtain ⟨its,rv,pl,hz⟩:=I.list hq
  have e:=vals_bools rv
  subst e
  have nl : p≠s.heap.objs.size:=by obtain ⟨o,e,_⟩:=pl.isList; exact Nat.ne_of_lt (Heap.lt_size e)
  refine call_all_walk (wpAny_pyIter_list pl.isList ?_)
  refine ⟨s.heap.objs.size,_,_,_,_,_,fun i=>bs.getD i false,rfl,Walks.list (A:=X.A.in1) (I.ok.hd hc) s.heap.objs.size p nl (bs.map Value.bool).toArray,⟨⟨_,Heap.get?_push_size _ rfl,rfl,rfl⟩,pl.isList.push _⟩,?_,fun h' tk k=>?_⟩
  · intro i v s' Q' E' hP hq'
    rw [bools_at hP]
    exact wpAny_pure hq'
  · have e2 : (bs.map Value.bool).toArray.size=bs.length:=by simp
    rw [e2,range_all]
    refine ⟨.bl _,H,I.kept (t':=tk) (h':=h') fun b o e=>k b o ?_ (Heap.get?_push_of_some _ e),rfl,q⟩
    intro z
    have z' : b=s.heap.objs.size:=by simpa using z
    exact absurd (Heap.lt_size e) (by rw [z']; exact Nat.lt_irrefl _)
def CDivL (i j : Int) : Prop:=0 < j∧j < 18446744073709551616
theorem op_fdivL : OpR X (binaryOp .FloorDiv) (rI CDivL fun i j=>.int (i / j)):=opI fun i j _ _ _ _ _ hc q=>by
  have hj : j.natAbs.log2 < 9000:=by
    have h0 : j.natAbs≠0:=by have:=hc.1; omega
    have h1 : j.natAbs < 2 ^ 64:=by
      have h2:=hc.1
      have h3 : j < 2 ^ 64:=hc.2
      omega
    have:=(Nat.log2_lt h0).mpr h1
    omega
  have e : i / j=i.fdiv j:=(Int.fdiv_eq_ediv_of_nonneg i (Int.le_of_lt hc.1)).symm
  rw [e] at q
  exact floordiv_int (by have:=hc.1; omega) q (.inl (PyProof.noPylong_of_log2 hj))
def clsV : V→Option Value
  | .ty n=>some (.type n)
  | .ref a=>some (.ref a)
  | _=>none
theorem clsV_rel {c : V} {u w : Value} (r : RelV c u) (h : clsV c=some w) : u=w:=by
  cases c with
  | ty n=>cases h; exact r
  | ref a=>cases h; exact r
  | _=>cases h
def rIsi (K : PySem.W.Frag) : List V→Hp→VK→Prop:=fun xs H Q=>∃ x c t w b,xs=[x,c]∧clsV c=some w∧TyOf K H x t∧PySem.W.kitOne K t w=some b∧Q (.bl b) H
theorem call_isi : CallR X (.builtin "isinstance") (rIsi X.K):=by
  intro pins s σ H xs us Q I r h
  obtain ⟨x,c,t,w,b,rfl,hw,ty,e,q⟩:=h
  obtain ⟨u,v,rfl,ru,rv⟩:=r.two
  rw [clsV_rel rv hw]
  exact isinst_ok I ru ty e fun tk=>⟨.bl b,H,I.tok tk,rfl,q⟩
end
end L2
namespace L2
open PySem PySem.Spec PyProof.Rows
section
variable {X : Cx} {pins : List (Addr×Obj)} {σ : St} {H : Hp} {s : Shared}
theorem tyof_kit {x : V} {u t : Value} (I : Inv X pins σ H s) (rx : RelV x u) (ty : TyOf X.K H x t) : ∃ φ : Heap→Prop,PySem.W.KitX X.K u t φ∧φ s.heap∧u≠.builtin "__main__.__loader__#opaque" := by
  cases ty with
  | non=>cases (show u=Value.none from rx); exact ⟨_,PySem.W.kitx_none,True.intro,(fun z=>nomatch z)⟩
  | bl y=>cases (show u=Value.bool y from rx); exact ⟨_,PySem.W.kitx_bool,True.intro,(fun z=>nomatch z)⟩
  | int i=>obtain ⟨t,q⟩:=(show ∃ t,u=Value.int i t from rx); cases q; exact ⟨_,PySem.W.kitx_int,True.intro,(fun z=>nomatch z)⟩
  | str y=>obtain ⟨t,q⟩:=(show ∃ t,u=Value.str y t from rx); cases q; exact ⟨_,PySem.W.kitx_str,True.intro,(fun z=>nomatch z)⟩
  | flt y=>obtain ⟨t,q⟩:=(show ∃ t,u=Value.float y t from rx); cases q; exact ⟨_,PySem.W.kitx_float,True.intro,(fun z=>nomatch z)⟩
  | @lst a xs ea=>
    cases (show u=Value.ref a from rx)
    obtain ⟨_,_,n,_,h1⟩:=(show ObjOk X.prog X.w H s.heap a (.lst xs) from I.hok a _ ea)
    exact ⟨_,PySem.W.kitx_list,⟨_,h1,rfl⟩,(fun z=>nomatch z)⟩
  | @frz a ob xs ea=>
    cases (show u=Value.ref a from rx)
    obtain ⟨_,_,_,n,_,h1⟩:=(show ObjOk X.prog X.w H s.heap a (.frz ob (.lst xs)) from I.hok a _ ea)
    exact ⟨_,PySem.W.kitx_list,⟨_,h1,rfl⟩,(fun z=>nomatch z)⟩
  | @tup a xs ea=>
    cases (show u=Value.ref a from rx)
    obtain ⟨_,_,_,p⟩:=(show ObjOk X.prog X.w H s.heap a (.tup xs) from I.hok a _ ea)
    obtain ⟨o,h1,h2,_⟩:=p
    exact ⟨_,PySem.W.kitx_tuple,⟨o,h1,h2⟩,(fun z=>nomatch z)⟩
  | @dK a kvs ea=>
    cases (show u=Value.ref a from rx)
    obtain ⟨_,_,vs,_,p⟩:=(show ObjOk X.prog X.w H s.heap a (.dK kvs) from I.hok a _ ea)
    obtain ⟨o,es,ep,h1,h2,_⟩:=p
    exact ⟨_,PySem.W.kitx_dict,⟨o,h1,h2.1⟩,(fun z=>nomatch z)⟩
  | @dT a kvs ea=>
    cases (show u=Value.ref a from rx)
    obtain ⟨_,_,xs,_,o,es,ep,h1,h2,_⟩:=(show ObjOk X.prog X.w H s.heap a (.dT kvs) from I.hok a _ ea)
    exact ⟨_,PySem.W.kitx_dict,⟨o,h1,h2.1⟩,(fun z=>nomatch z)⟩
  | @ins a C dx fs ea cl ha hn htk hm=>
    cases (show u=Value.ref a from rx)
    obtain ⟨mA,O,_⟩:=ins_get I.hok ea
    obtain ⟨od,J,_⟩:=O.look
    exact ⟨_,PySem.W.kitx_own (cl.get _) cl.hd ha hn htk hm,J,(fun z=>nomatch z)⟩
theorem cls_all : ∀ {cs : List V} {us ws : List Value},Vals cs us→cs.map clsV=ws.map some→us=ws
  | [],_,[],.nil,_=>rfl
  | c :: cs,_,w :: ws,.cons r t,e=>by
    rw [List.map_cons,List.map_cons] at e
    injection e with e1 e2
    rw [clsV_rel r e1,cls_all t e2]
def rIsT (K : PySem.W.Frag) : List V→Hp→VK→Prop:=fun xs H Q=>∃ x p cs t ws b,xs=[x,.ref p]∧H p=some (.tup cs)∧cs.map clsV=ws.map some∧TyOf K H x t∧PySem.W.kitAny K t ws=some b∧Q (.bl b) H
theorem call_isT : CallR X (.builtin "isinstance") (rIsT X.K):=by
  intro pins s σ H xs us Q I r h
  obtain ⟨x,p,cs,t,ws,b,rfl,hp,hc,ty,e,q⟩:=h
  obtain ⟨u,v,rfl,ru,rv⟩:=r.two
  cases rv
  obtain ⟨φ,Z,hφ,hne⟩:=tyof_kit I ru ty
  obtain ⟨_,its,rs,⟨ob,h1,h2,n,h3⟩⟩:=(show ObjOk X.prog X.w H s.heap p (.tup cs) from I.hok p _ hp)
  have ei:=cls_all rs hc
  subst ei
  obtain ⟨oc,od,dt,sl⟩:=ob
  dsimp only at h2 h3
  subst h2 h3
  exact PySem.W.kia_tup Z I.kIn hφ h1 e hne fun tk=>⟨.bl b,H,I.tok tk,rfl,q⟩
end
inductive EqD (H : Hp) : Nat→V→V→Prop
  | flat {n : Nat} {v : V} (h : flatV v=true) : EqD H n v v
  | tup {n : Nat} {p q : Addr} {xs ys : List V} (h1 : H p=some (.tup xs)) (h2 : H q=some (.tup ys)) (hl : xs.length=ys.length) (hs : xs.length≤1000) (h : ∀ (i : Nat) x y,xs[i]? = some x→ys[i]? = some y→EqD H n x y) : EqD H (n + 1) (.ref p) (.ref q)
  | lst {n : Nat} {p q : Addr} {xs ys : List V} (h1 : H p=some (.lst xs)) (h2 : H q=some (.lst ys)) (hl : xs.length=ys.length) (hs : xs.length≤1000) (h : ∀ (i : Nat) x y,xs[i]? = some x→ys[i]? = some y→EqD H n x y) : EqD H (n + 1) (.ref p) (.ref q)
theorem EqD.same {H H' : Hp} (s : Same H H') : ∀ {n : Nat} {v u : V},EqD H n v u→EqD H' n v u:=by
  intro n v u h
  induction h with
  | flat h=>exact .flat h
  | tup h1 h2 hl hs _ ih=>exact .tup (s _ _ h1) (s _ _ h2) hl hs fun i x y a b=>ih i x y a b
  | lst h1 h2 hl hs _ ih=>exact .lst (s _ _ h1) (s _ _ h2) hl hs fun i x y a b=>ih i x y a b
theorem same_new {H : Hp} {p : Addr} (h : H p=none) (o : HO) : Same H (upd H p o):=fun b u q=>by rw [upd_ne (ne_of_none q h)]; exact q
def plainE : Expr→Bool
  | .Starred ..=>false
  | _=>true
theorem star_plain {e : Expr} {es : List Expr} {env : Env} (h : plainE e=true) : starEach (e :: es) env=(false,eval e env) :: starEach es env:=by
  cases e <;> first | rfl | cases h
theorem pa_c {X : Cx} {e : Expr} {es : List Expr} {te : TE} {t : TA} (ha : PE X e te) (hr : PA X es t) (hn : plainE e=true:=by rfl) : PA X (e :: es) (tCons te t):=pa_cons ha hr (star_plain hn)
end L2
namespace L2
open PySem PySem.Spec PyProof.Rows
inductive EqB (K : PySem.W.Frag) (H : Hp) : Nat→V→V→Bool→Prop
  | flat {n : Nat} {x y : V} (hx : flatV x=true) (hy : flatV y=true) : EqB K H n x y (eqV x y)
  | same {n : Nat} {p : Addr} : EqB K H n (.ref p) (.ref p) true
  | tup {n : Nat} {a b : Addr} {xs ys : List V} (e : Nat→Bool) (hn : a≠b) (h1 : SqT K H a xs) (h2 : SqT K H b ys) (he : ∀ j x y,xs[j]? = some x→ys[j]? = some y→EqB K H n x y (e j)) : EqB K H (n + 1) (.ref a) (.ref b) ((List.range (min xs.length ys.length)).all e && xs.length == ys.length)
  | lst {n : Nat} {a b : Addr} {xs ys : List V} (e : Nat→Bool) (hn : a≠b) (hl : xs.length=ys.length) (h1 : SqL K H a xs) (h2 : SqL K H b ys) (he : ∀ j x y,xs[j]? = some x→ys[j]? = some y→EqB K H n x y (e j)) : EqB K H (n + 1) (.ref a) (.ref b) ((List.range xs.length).all e)
  | lsn {n : Nat} {a b : Addr} {xs ys : List V} (hl : xs.length≠ys.length) (h1 : SqL K H a xs) (h2 : SqL K H b ys) : EqB K H (n + 1) (.ref a) (.ref b) false
theorem in1_units {A : Around} : A.in1.units=A.units + 1:=rfl
section
variable {X : Cx} {pins : List (Addr×Obj)} {σ : St} {H : Hp} {s : Shared}
theorem items_eqAt {A : Around} {n : Nat} {xs ys : List V} {us vs : List Value} {e : Nat→Bool} (rx : Vals xs us) (ry : Vals ys vs) (h : ∀ j x y u v,xs[j]? = some x→ys[j]? = some y→RelV x u→RelV y v→SeqAt.EqAt A s u v (e j)) :
    ∀ j (h1 : j < us.toArray.size) (h2 : j < vs.toArray.size),SeqAt.EqAt A s us.toArray[j] vs.toArray[j] (e j):=fun j h1 h2=>by
  have l1:=rx.length
  have l2:=ry.length
  have g1 : j < xs.length:=by simp at h1; omega
  have g2 : j < ys.length:=by simp at h2; omega
  obtain ⟨u,eu,ru⟩:=rx.get (List.getElem?_eq_getElem g1)
  obtain ⟨v,ev,rv⟩:=ry.get (List.getElem?_eq_getElem g2)
  have e1 : us.toArray[j]=u:=by
    have:=List.getElem?_eq_some_iff.mp eu
    obtain ⟨_,e⟩:=this
    simpa using e
  have e2 : vs.toArray[j]=v:=by
    have:=List.getElem?_eq_some_iff.mp ev
    obtain ⟨_,e⟩:=this
    simpa using e
  rw [e1,e2]
  exact h j _ _ u v (List.getElem?_eq_getElem g1) (List.getElem?_eq_getElem g2) ru rv
theorem EqB.eqAt (I : Inv X pins σ H s) {n : Nat} {x y : V} {b : Bool} (h : EqB X.K H n x y b) : ∀ (A : Around) (u v : Value),A.units + n < cLine→RelV x u→RelV y v→SeqAt.EqAt A s u v b:=by
  induction h with
  | flat hx hy=>exact fun A u v _ rx ry=>eqAt_V rx ry hx hy
  | same=>intro A u v _ rx ry; cases rx; cases ry; exact SeqAt.EqAt.same _
  | @tup n a b xs ys e hn h1 h2 he ih=>
    intro A u v hu rx ry
    cases rx; cases ry
    obtain ⟨us,r1,p1,_⟩:=I.tuple h1
    obtain ⟨vs,r2,p2,_⟩:=I.tuple h2
    refine SeqAt.EqAt.of_refs hn ?_
    have:=SeqAt.RcAt.tuples (s:=s) (A:=A) (e:=e) p1 p2 (by omega) (items_eqAt (n:=n) r1 r2 fun j x y u v e1 e2 ru rv=>ih j x y e1 e2 A.in1 u v (by rw [in1_units]; omega) ru rv)
    have l1:=r1.length
    have l2:=r2.length
    simpa [l1,l2] using this
  | @lst n a b xs ys e hn hl h1 h2 he ih=>
    intro A u v hu rx ry
    cases rx; cases ry
    obtain ⟨us,r1,p1,_⟩:=I.list h1
    obtain ⟨vs,r2,p2,_⟩:=I.list h2
    have l1:=r1.length
    have l2:=r2.length
    refine SeqAt.EqAt.of_refs hn ?_
    have:=SeqAt.RcAt.lists (s:=s) (A:=A) (e:=e) p1.isList p2.isList (by simp; omega) (by omega) (items_eqAt (n:=n) r1 r2 fun j x y u v e1 e2 ru rv=>ih j x y e1 e2 A.in1 u v (by rw [in1_units]; omega) ru rv)
    simpa [l1,l2] using this
  | @lsn n a b xs ys hl h1 h2=>
    intro A u v hu rx ry
    cases rx; cases ry
    have hn : a≠b:=fun z=>by subst z; exact hl (by rw [I.list_inj h1 h2])
    obtain ⟨us,r1,p1,_⟩:=I.list h1
    obtain ⟨vs,r2,p2,_⟩:=I.list h2
    have l1:=r1.length
    have l2:=r2.length
    refine SeqAt.EqAt.of_refs hn ?_
    exact SeqAt.RcAt.lists_lengths (s:=s) (A:=A) p1.isList p2.isList (by simp; omega) (by omega)
def rCmpL (K : PySem.W.Frag) (neg : Bool) : R2:=fun x y H Q=>∃ a b xs ys,x = .ref a∧y = .ref b∧SqL K H a xs∧SqL K H b ys∧
  ((xs.length≠ys.length∧Q (.bl neg) H)∨(xs.length=ys.length∧∃ (n : Nat) (e : Nat→Bool),n≤32∧(∀ j x y,xs[j]? = some x→ys[j]? = some y→EqB K H n x y (e j))∧Q (.bl (neg != (List.range xs.length).all e)) H))
theorem op_eqL (hu : X.A.units + 64 < cLine) : OpR X (compareOp .Eq) (rCmpL X.K false):=by
  intro pins s σ H x y v u Q I rx ry h
  obtain ⟨a,b,xs,ys,rfl,rfl,h1,h2,h⟩:=h
  cases rx; cases ry
  obtain ⟨us,r1,p1,_⟩:=I.list h1
  obtain ⟨vs,r2,p2,_⟩:=I.list h2
  have l1:=r1.length
  have l2:=r2.length
  rcases h with ⟨hl,q⟩ | ⟨hl,n,e,hn,he,q⟩
  · exact SeqAt.RcAt.lists_lengths (s:=s) (A:=X.A) p1.isList p2.isList (by simp; omega) (by omega) _ _ _ _ ⟨.bl _,H,I,rfl,q⟩
  · refine SeqAt.RcAt.lists (s:=s) (A:=X.A) (e:=e) p1.isList p2.isList (by simp; omega) (by omega) (items_eqAt (n:=n) r1 r2 fun j x y u v e1 e2 ru rv=>(he j x y e1 e2).eqAt I _ u v (by rw [in1_units]; omega) ru rv) _ _ _ _ ⟨.bl _,H,I,rfl,?_⟩
    simpa [l1] using q
theorem op_neL (hu : X.A.units + 64 < cLine) : OpR X (compareOp .NotEq) (rCmpL X.K true):=by
  intro pins s σ H x y v u Q I rx ry h
  obtain ⟨a,b,xs,ys,rfl,rfl,h1,h2,h⟩:=h
  cases rx; cases ry
  obtain ⟨us,r1,p1,_⟩:=I.list h1
  obtain ⟨vs,r2,p2,_⟩:=I.list h2
  have l1:=r1.length
  have l2:=r2.length
  rcases h with ⟨hl,q⟩ | ⟨hl,n,e,hn,he,q⟩
  · exact SeqAt.RcNeAt.lists_lengths (s:=s) (A:=X.A) p1.isList p2.isList (by simp; omega) (by omega) _ _ _ _ ⟨.bl _,H,I,rfl,q⟩
  · refine SeqAt.RcNeAt.lists (s:=s) (A:=X.A) (e:=e) p1.isList p2.isList (by simp; omega) (by omega) (items_eqAt (n:=n) r1 r2 fun j x y u v e1 e2 ru rv=>(he j x y e1 e2).eqAt I _ u v (by rw [in1_units]; omega) ru rv) _ _ _ _ ⟨.bl _,H,I,rfl,?_⟩
    simpa [l1] using q
end
structure Cal (P : Program) (w : World) (K : PySem.W.Frag) (mg : Str→Option Value) (base : Heap) (CX : CXT) (k : Nat) (x : Str) (ps : List Str) (sp : Sp) : Prop where
  ex : ∃ (f : Addr) (fd : FuncData),FnOk P w K mg base CX k f fd ps sp∧Binds K fd ps []∧PySem.W.keepIn K (.ref f)=true∧mg x=some (.ref f)
theorem pe_cal {X : Cx} {CX : CXT} {k j : Nat} {ps : List Str} {sp : Sp} {E : XK} {x : Str} {p pos : Pos} {e : Expr} {es : List Expr} {t : TA} (F : Cal X.prog X.w X.K X.mg X.base CX k x ps sp) (hr : Room j X.A) (hg : Gl X x) (hx : Passes CX X E) (ha : PA X (e :: es) t)
    (hk : k≤j:=by decide) (hdb : (x == ("__debug__" : Str))=false:=by decide) (he : starEach (e :: es) X.env=(false,eval e X.env) :: starEach es X.env:=by rfl) (hpl : (backTo pos (starEach es X.env)).any (·.1)=false:=by rfl) :
    PE X (.Call (.Name x p) (e :: es) [] pos) (tCall sp [] E t):=by
  obtain ⟨f,fd,h1,h2,h3,h4⟩:=F.ex
  exact pe_call (h1.mono hk) hr hg h4 h3 h2 .nil hx ha hdb he hpl
end L2
namespace L2
open PySem PySem.Spec PyProof.Rows
section
variable {X : Cx} {es : List Expr} {x1 : Nat} {tp : Pos}
end
end L2
namespace L2
open PySem PySem.Spec PyProof.Rows
def relabelD (scope D : Scope) : List (Str×NameKind):=scope.names.map fun (n,k)=>if (k == .free && D.kind == .function && D.names.lookup n == some .cell) then (n,.cell) else (n,k)
def compOk (N N' : List Str) (ix : List (Option Nat)) (scope D : Scope) : Bool:=
  (scope.kind == .function) && (scope.names.all fun y=>(y.2 == .local && scope.names.lookup y.1 == some .local) || (y.2 == .free && D.names.lookup y.1 == some .cell) || (y.2 != .local && y.2 != .free && y.2 != .cell)) && decide N'.Nodup && (ix.length == N'.length) &&
  ((List.range N'.length).all fun k=>match ix[k]?,N'[k]? with
    | some (some j),some x=>N[j]? == some x && scope.names.contains (x,.free) && (relabelD scope D).lookup x == some .cell
    | _,_=>true)
theorem comp_scope {X : Cx} {N' : List Str} {ix : List (Option Nat)} {scope : Scope} {N : List Str} {D : Scope} (h : compOk N N' ix scope D=true) (hN : X.N=N:=by rfl) (hD : X.env.scope=D:=by rfl) : CompScope X N' ix scope:=by
  unfold compOk at h
  simp only [Bool.and_eq_true,decide_eq_true_eq] at h
  obtain ⟨⟨⟨⟨h1,h2⟩,h3⟩,h4⟩,h5⟩:=h
  have hall:=List.all_eq_true.mp h2
  refine ⟨by simpa using h1,fun y hy=>?_,fun y hy e=>?_,h3,by simpa using h4,fun y hy e=>?_,fun k j x e1 e2=>?_⟩
  · have:=hall y hy
    intro z
    rw [z] at this
    simp at this
  · have:=hall y hy
    rw [e] at this
    simpa using this
  · have:=hall y hy
    rw [e] at this
    have q : D.names.lookup y.1=some .cell:=by simpa using this
    show X.env.scope.names.lookup y.1=some .cell
    rw [hD]; exact q
  · have hk : k < N'.length:=(List.getElem?_eq_some_iff.mp e1).1
    have:=List.all_eq_true.mp h5 k (List.mem_range.mpr hk)
    rw [e1,e2] at this
    simp only [Bool.and_eq_true,beq_iff_eq] at this
    obtain ⟨⟨a1,a2⟩,a3⟩:=this
    refine ⟨by rw [hN]; exact a1,by simpa using a2,?_⟩
    show (relabelD scope X.env.scope).lookup x=some .cell
    rw [hD]; exact a3
end L2
namespace L2
open PySem PySem.Spec PyProof.Rows
section
variable {X : Cx}
end
end L2
namespace L2
open PySem PySem.Spec PyProof.Rows
section
variable {K : PySem.W.Frag} {c d : Addr} {b : Bool} {v : Value}
end
end L2
namespace L2
open PySem PySem.Spec PyProof.Rows
theorem Fun.okE {P : Program} {w : World} {K : PySem.W.Frag} {mg : Str→Option Value} {base : Heap} {x qual : Str} {st : Stmt} {f : Addr} {fd : FuncData} {N ps : List Str} {k : Nat} {sp : Sp} (F : Fun K x qual st f fd) (S : FnScope N ps (defScope st))
    (len : ∀ vs H Q E,sp vs H Q E→vs.length=ps.length)
    (hbody : ∀ (cdv : Value) (A : Around) (outer : List Env) (s : Shared) (H : Hp) (vs : List V) (Q : VK) (E : XK),Room k (A.deeper (envOfC qual (defScope st) s.heap.objs.size f cdv))→sp vs H Q E→
      ∃ t,PSs (cxOf (CXE P w) P w K mg base N qual (defScope st) f cdv A outer s H E) (defBody st) t∧t { nx:=fun _ H'=>Q .non H',rt:=Q } (start N vs) H) : FnOk P w K mg base (CXE P w) (k + 1) f fd ps sp:=by
  obtain ⟨oc,od,kV,doc,pm,an,cdv,ct,osl,rfl,lk,hcd⟩:=F.ex
  exact fn_of lk hcd S len fun A outer s H vs Q E hr hsp=>hbody cdv A outer s H vs Q E hr hsp
theorem tSeq_by {t u : TS} {D : Ends} {σ : St} {H : Hp} (R : St→Hp→Prop) (h1 : ∀ D' : Ends,(∀ σ' H',R σ' H'→D'.nx σ' H')→D'.rt=D.rt→t D' σ H) (h2 : ∀ σ' H',R σ' H'→u D σ' H') : tSeq t u D σ H:=h1 { D with nx:=u D } h2 rfl
structure Bn (mg : Str→Option Value) : Prop where
  len : mg "len" = none
  list : mg "list" = none
  isi : mg "isinstance" = none
  bool : mg "bool" = none
  int : mg "int" = none
  str : mg "str" = none
  tuple : mg "tuple" = none
  all : mg "all" = none
  any : mg "any" = none
  zip : mg "zip" = none
  range : mg "range" = none
  max : mg "max" = none
  min : mg "min" = none
  enumerate : mg "enumerate" = none
  sum : mg "sum" = none
  sorted : mg "sorted" = none
  verr : mg "ValueError" = none
def KeepBut (a : Addr) (H H' : Hp) : Prop:=∀ b o,b≠a→H b=some o→H' b=some o
theorem KeepBut.refl {a : Addr} {H : Hp} : KeepBut a H H:=fun _ _ _ h=>h
theorem KeepBut.trans {a : Addr} {H H1 H2 : Hp} (x : KeepBut a H H1) (y : KeepBut a H1 H2) : KeepBut a H H2:=fun b o n h=>y b o n (x b o n h)
theorem KeepBut.upd {a : Addr} {H H1 : Hp} {o : HO} (x : KeepBut a H H1) : KeepBut a H (L2.upd H1 a o):=fun b u n h=>by rw [upd_ne n]; exact x b u n h
theorem KeepBut.new {a p : Addr} {H H1 : Hp} {o : HO} (x : KeepBut a H H1) (hp : H1 p=none) : KeepBut a H (L2.upd H1 p o):=fun b u n h=>by
  have:=x b u n h
  rw [upd_ne (ne_of_none this hp)]; exact this
theorem KeepBut.young {a p : Addr} {H H1 : Hp} {o : HO} (x : KeepBut a H H1) (hp : H p=none) : KeepBut a H (L2.upd H1 p o):=fun b u n h=>by
  rw [upd_ne (ne_of_none h hp)]; exact x b u n h
theorem KeepBut.of_same {a : Addr} {H H1 : Hp} (x : Same H H1) : KeepBut a H H1:=fun b o _ h=>x b o h
theorem KeepBut.none {a p : Addr} {H H' : Hp} (k : KeepBut a H H') (n : p≠a) (h : H' p=Option.none) : H p=Option.none:=by
  cases q : H p with
  | none=>rfl
  | some o=>rw [k p o n q] at h; cases h
theorem Same.young {p : Addr} {H H1 : Hp} {o : HO} (x : Same H H1) (hp : H p=none) : Same H (L2.upd H1 p o):=fun b u h=>by
  rw [upd_ne (ne_of_none h hp)]; exact x b u h
def Draw (H : Hp) (a c : Addr) (ns : List Int) (i x y z : Int) : Prop:=H a=some (.lst [.ref c,.int i,.int x,.int y,.int z])∧H c=some (.lst (ns.map V.int))∧c≠a∧0≤i∧0≤y∧y < 1000000007
def DrawAt (H : Hp) (a c : Addr) : Prop:=∃ ns i x y z,Draw H a c ns i x y z
theorem DrawAt.new {H : Hp} {a c p : Addr} {o : HO} (d : DrawAt H a c) (hp : H p=none) : DrawAt (L2.upd H p o) a c:=by
  obtain ⟨ns,i,x,y,z,h1,h2,r⟩:=d
  exact ⟨ns,i,x,y,z,by rw [upd_ne (ne_of_none h1 hp)]; exact h1,by rw [upd_ne (ne_of_none h2 hp)]; exact h2,r⟩
theorem DrawAt.upd {H : Hp} {a c p : Addr} {o : HO} (d : DrawAt H a c) (na : p≠a) (nc : p≠c) : DrawAt (L2.upd H p o) a c:=by
  obtain ⟨ns,i,x,y,z,h1,h2,r⟩:=d
  exact ⟨ns,i,x,y,z,by rw [upd_ne na.symm]; exact h1,by rw [upd_ne nc.symm]; exact h2,r⟩
theorem DrawAt.same {H H' : Hp} {a c : Addr} (d : DrawAt H a c) (s : Same H H') : DrawAt H' a c:=by
  obtain ⟨ns,i,x,y,z,h1,h2,r⟩:=d
  exact ⟨ns,i,x,y,z,s _ _ h1,s _ _ h2,r⟩
theorem DrawAt.there {H : Hp} {a c : Addr} (d : DrawAt H a c) : ∃ o,H a=some o:=by
  obtain ⟨ns,i,x,y,z,h1,_⟩:=d
  exact ⟨_,h1⟩
theorem DrawAt.ne {H : Hp} {a c p : Addr} (d : DrawAt H a c) (hp : H p=none) : p≠a:=by
  obtain ⟨o,e⟩:=d.there
  exact (ne_of_none e hp).symm
theorem DrawAt.nc {H : Hp} {a c p : Addr} (d : DrawAt H a c) (hp : H p=none) : p≠c:=by
  obtain ⟨ns,i,x,y,z,_,h2,_⟩:=d
  exact (ne_of_none h2 hp).symm
theorem DrawAt.neT {H : Hp} {a c p : Addr} {xs : List V} (d : DrawAt H a c) (hp : H p=some (.tup xs)) : p≠a:=by
  obtain ⟨_,_,_,_,_,h,_⟩:=d
  exact ne_of hp h (by intro z; cases z)
def spBegin (K : PySem.W.Frag) : Sp:=fun vs H Q _=>∃ (a : Addr) (ns : List Int),vs=[.ref a]∧SqL K H a (ns.map V.int)∧ns.length≤63∧∀ l c H',H l=none→H c=none→Same H H'→DrawAt H' l c→Q (.ref l) H'
def spPick : Sp:=fun vs H Q _=>∃ (a c : Addr) (m : Int),vs=[.ref a,.int m]∧DrawAt H a c∧0 < m∧m < 18446744073709551616∧∀ r H',0≤r→r < m→DrawAt H' a c→KeepBut a H H'→Q (.int r) H'
def spSome : Sp:=fun vs H Q _=>∃ a c : Addr,vs=[.ref a]∧DrawAt H a c∧∀ r H',0≤r→r≤400→DrawAt H' a c→KeepBut a H H'→Q (.int r) H'
theorem cut_ints (ns : List Int) (lo hi : Option Int) : ∃ ms : List Int,cutV (ns.map V.int) lo hi=ms.map V.int∧ms.length≤ns.length:=by
  unfold cutV
  rw [← List.map_drop,← List.map_take]
  exact ⟨_,rfl,by rw [List.length_take,List.length_drop]; omega⟩
theorem at_int {xs : List V} (h : ∀ x∈xs,∃ v,x=V.int v) {r : Int} (h0 : 0≤r) (h1 : r < (xs.length : Int)) : ∃ v,atI xs r=some (.int v):=by
  have hk : r.toNat < xs.length:=by omega
  obtain ⟨v,ev⟩:=h _ (List.getElem_mem hk)
  refine ⟨v,?_⟩
  have:=atI_nat (xs:=xs) (j:=r.toNat) (v:=.int v) (by rw [List.getElem?_eq_getElem hk,ev])
  rw [show ((r.toNat : Nat) : Int)=r by omega] at this
  exact this
theorem atI_some {xs : List V} {r : Int} {v : V} (h0 : 0≤r) (h : xs[r.toNat]? = some v) : atI xs r=some v:=by
  have:=atI_nat (xs:=xs) (j:=r.toNat) (v:=v) h
  rw [show ((r.toNat : Nat) : Int)=r by omega] at this
  exact this
def Rows (H : Hp) (a : Addr) (rs : List (List Int)) : Prop:=∃ ps : List Addr,H a=some (.lst (ps.map V.ref))∧ps.length=rs.length∧∀ (i : Nat) p r,ps[i]? = some p→rs[i]? = some r→H p=some (.tup (r.map V.int))
theorem Rows.same {H H' : Hp} {a : Addr} {rs : List (List Int)} (h : Rows H a rs) (s : Same H H') : Rows H' a rs:=by
  obtain ⟨ps,h1,h2,h3⟩:=h
  exact ⟨ps,s _ _ h1,h2,fun i p r e1 e2=>s _ _ (h3 i p r e1 e2)⟩
theorem Rows.keep {H H' : Hp} {a l c : Addr} {rs : List (List Int)} (h : Rows H a rs) (n : a≠l) (d : DrawAt H l c) (k : KeepBut l H H') : Rows H' a rs:=by
  obtain ⟨ps,h1,h2,h3⟩:=h
  exact ⟨ps,k _ _ n h1,h2,fun i p r e1 e2=>k _ _ (d.neT (h3 i p r e1 e2)) (h3 i p r e1 e2)⟩
theorem Rows.there {H : Hp} {a : Addr} {rs : List (List Int)} (h : Rows H a rs) : ∃ o,H a=some o:=by
  obtain ⟨ps,h1,_⟩:=h
  exact ⟨_,h1⟩
theorem Rows.get {H : Hp} {a : Addr} {rs : List (List Int)} (h : Rows H a rs) : ∃ xs : List V,H a=some (.lst xs)∧xs.length=rs.length∧∀ (i : Nat) x,xs[i]? = some x→∃ p r,x = .ref p∧rs[i]? = some r∧H p=some (.tup (r.map V.int)):=by
  obtain ⟨ps,h1,h2,h3⟩:=h
  refine ⟨_,h1,by rw [List.length_map,h2],fun i x e=>?_⟩
  rw [List.getElem?_map] at e
  cases q : ps[i]? with
  | none=>rw [q] at e; cases e
  | some p=>
    rw [q] at e
    have hi:=(List.getElem?_eq_some_iff.mp q).1
    have hr : rs[i]? = some (rs[i]'(by omega)):=List.getElem?_eq_getElem (by omega)
    exact ⟨p,_,(Option.some.inj e).symm,hr,h3 i p _ q hr⟩
theorem Rows.push {H : Hp} {a p : Addr} {rs : List (List Int)} {xs : List V} {r : List Int} (h : Rows H a rs) (hx : H a=some (.lst xs)) (hp : H p=none) : Rows (L2.upd (L2.upd H p (.tup (r.map V.int))) a (.lst (xs ++ [.ref p]))) a (rs ++ [r]):=by
  obtain ⟨ps,h1,h2,h3⟩:=h
  rw [hx] at h1
  cases h1
  refine ⟨ps ++ [p],by rw [upd_same,List.map_append]; rfl,by rw [List.length_append,List.length_append,h2]; rfl,fun i q r' e1 e2=>?_⟩
  by_cases hi : i < ps.length
  · rw [List.getElem?_append_left hi] at e1
    rw [List.getElem?_append_left (by omega)] at e2
    have:=h3 i q r' e1 e2
    rw [upd_ne (ne_of this hx (by intro z; cases z)),upd_ne (ne_of_none this hp)]
    exact this
  · have hi' : i=ps.length:=by
      have:=(List.getElem?_eq_some_iff.mp e1).1
      rw [List.length_append,List.length_singleton] at this
      omega
    subst hi'
    rw [List.getElem?_append_right (Nat.le_refl _),Nat.sub_self] at e1
    rw [h2,List.getElem?_append_right (Nat.le_refl _),Nat.sub_self] at e2
    cases e1
    cases e2
    rw [upd_ne (ne_of_none hx hp).symm,upd_same]
theorem Rows.nil {H : Hp} {a : Addr} (h : H a=some (.lst [])) : Rows H a []:=⟨[],h,rfl,fun i p r e=>by cases e⟩
def LotIn (lo n sc : Int) (r : List Int) : Prop:=∃ d c u : Int,r=[d,c,u]∧lo≤d∧d < lo + n∧1≤c∧c≤sc∧1≤u∧u≤1000000
def OutIn (lo n sc : Int) (r : List Int) : Prop:=∃ d c : Int,r=[d,c]∧lo≤d∧d < lo + n∧1≤c∧c≤sc
def spSpan : Sp:=fun vs H Q _=>∃ a c : Addr,vs=[.ref a]∧DrawAt H a c∧∀ p lo n H',H p=none→1≤lo→6≤n→lo + n≤1000→DrawAt H' a c→KeepBut a H H'→H' p=some (.tup [.int lo,.int n])→Q (.ref p) H'
def spLots : Sp:=fun vs H Q _=>∃ (a c p : Addr) (m lo n sc : Int),vs=[.ref a,.int m,.ref p,.int sc]∧DrawAt H a c∧0≤m∧m≤900∧H p=some (.tup [.int lo,.int n])∧1≤n∧n≤999∧1≤sc∧sc≤10000000000∧
  ∀ l rs H',H l=none→(∀ r∈rs,LotIn lo n sc r)→(rs.length : Int)≤m→DrawAt H' a c→KeepBut a H H'→Rows H' l rs→Q (.ref l) H'
def spOuts : Sp:=fun vs H Q _=>∃ (a c p : Addr) (m lo n sc : Int),vs=[.ref a,.int m,.ref p,.int sc]∧DrawAt H a c∧0≤m∧m≤900∧H p=some (.tup [.int lo,.int n])∧1≤n∧n≤999∧1≤sc∧sc≤10000000000∧
  ∀ l rs H',H l=none→(∀ r∈rs,OutIn lo n sc r)→(rs.length : Int)≤m→DrawAt H' a c→KeepBut a H H'→Rows H' l rs→Q (.ref l) H'
def spCase : Sp:=fun vs H Q _=>∃ (a c : Addr) (m : Int),vs=[.ref a,.int m]∧DrawAt H a c∧0≤m∧m≤900∧
  ∀ (q l o : Addr) (tm lo n sc : Int) ls os H',H l=none→H o=none→l≠o→0≤tm→tm≤400→1≤lo→6≤n→lo + n≤1000→1≤sc→sc≤10000000000→(∀ r∈ls,LotIn lo n sc r)→(∀ r∈os,OutIn lo n sc r)→(ls.length : Int)≤m→(os.length : Int)≤m→
    DrawAt H' a c→KeepBut a H H'→Rows H' l ls→Rows H' o os→H' q=some (.tup [.ref l,.ref o,.int tm])→Q (.ref q) H'
end L2
namespace K14
open PySem L2
def top (i : Nat) : Stmt:=PySem.Challenge.pw_drawback_k14_dealings_judged.main.body.getD i (.Pass ⟨0,0,0,0⟩)
abbrev s_begin : Stmt:=top 33
abbrev n_begin : List Str:=["_law_script"]
abbrev p_begin : List Str:=["_law_script"]
theorem sc_begin : FnScope n_begin p_begin (defScope s_begin):=⟨rfl,rfl,rfl,by decide +kernel,rfl,by decide +kernel,by decide +kernel⟩
abbrev s_pick : Stmt:=top 32
abbrev n_pick : List Str:=["_law_draw","_law_many","_law_cell","_law_got"]
abbrev p_pick : List Str:=["_law_draw","_law_many"]
theorem sc_pick : FnScope n_pick p_pick (defScope s_pick):=⟨rfl,rfl,rfl,by decide +kernel,rfl,by decide +kernel,by decide +kernel⟩
abbrev s_span : Stmt:=top 34
abbrev n_span : List Str:=["_law_draw","_law_span_here"]
abbrev p_span : List Str:=["_law_draw"]
theorem sc_span : FnScope n_span p_span (defScope s_span):=⟨rfl,rfl,rfl,by decide +kernel,rfl,by decide +kernel,by decide +kernel⟩
abbrev s_some_term : Stmt:=top 35
abbrev n_some_term : List Str:=["_law_draw"]
abbrev p_some_term : List Str:=["_law_draw"]
theorem sc_some_term : FnScope n_some_term p_some_term (defScope s_some_term):=⟨rfl,rfl,rfl,by decide +kernel,rfl,by decide +kernel,by decide +kernel⟩
abbrev s_some_lots : Stmt:=top 36
abbrev n_some_lots : List Str:=["_law_draw","_law_most_here","_law_days","_law_scale","_law_dear","_law_found","_law_k","_law_day","_law_count"]
abbrev p_some_lots : List Str:=["_law_draw","_law_most_here","_law_days","_law_scale"]
theorem sc_some_lots : FnScope n_some_lots p_some_lots (defScope s_some_lots):=⟨rfl,rfl,rfl,by decide +kernel,rfl,by decide +kernel,by decide +kernel⟩
abbrev s_some_outs : Stmt:=top 37
abbrev n_some_outs : List Str:=["_law_draw","_law_most_here","_law_days","_law_scale","_law_found","_law_k","_law_day"]
abbrev p_some_outs : List Str:=["_law_draw","_law_most_here","_law_days","_law_scale"]
theorem sc_some_outs : FnScope n_some_outs p_some_outs (defScope s_some_outs):=⟨rfl,rfl,rfl,by decide +kernel,rfl,by decide +kernel,by decide +kernel⟩
abbrev s_case : Stmt:=top 38
abbrev n_case : List Str:=["_law_draw","_law_most_here","_law_days","_law_term","_law_scale","_law_lots"]
abbrev p_case : List Str:=["_law_draw","_law_most_here"]
theorem sc_case : FnScope n_case p_case (defScope s_case):=⟨rfl,rfl,rfl,by decide +kernel,rfl,by decide +kernel,by decide +kernel⟩
section
variable {P : Program} {w : World} {K : PySem.W.Frag} {mg : Str→Option Value} {base : Heap} {f : Addr} {fd : FuncData}
theorem ok_begin (F : Fun K "_law_begin" "_law_begin" s_begin f fd) (B : Bn mg) : FnOk P w K mg base CX0 1 f fd p_begin (spBegin K):=by
  refine F.ok sc_begin (fun vs H Q E h=>?_) (fun cdv A outer s H vs Q E hr h=>?_)
  · obtain ⟨a,ns,rfl,_⟩:=h; rfl
  obtain ⟨a,ns,rfl,hS,hl,q⟩:=h
  refine ⟨_,(pss_one (ps_ret (pe_lst (pa_c (pe_callTy call_list_of rfl B.list PyProof.Rows.boot_list (pa_c (pe_slice sl_list (pv 0) po_none (po_some pe_int)) pa_nil)) (pa_c pe_int (pa_c pe_int (pa_c pe_int (pa_c pe_int pa_nil)))))))),?_⟩
  refine ⟨_,rfl,_,rfl,a,_,rfl,hS,fun p hp=>?_⟩
  obtain ⟨ms,em,hm⟩:=cut_ints ns none (some 63)
  refine ⟨p,_,rfl,.inl (SqL.of upd_same),fun c hc=>?_⟩
  refine ⟨by show 5≤sizeLine; decide,fun l hl'=>?_⟩
  have s1 : Same H (L2.upd H p (.lst (cutV (ns.map V.int) none (some 63)))):=same_new hp _
  have s2:=s1.trans (same_new hc (.lst (cutV (ns.map V.int) none (some 63))))
  have s3:=s2.trans (same_new hl' (.lst [.ref c,.int 0,.int 0,.int 1,.int 0]))
  have ncl : c≠l:=ne_of_none (upd_same (H:=L2.upd H p _) (o:=.lst (cutV (ns.map V.int) none (some 63)))) hl'
  refine q l c _ (s2.free hl') (s1.free hc) s3 ⟨ms,0,0,1,0,upd_same,?_,ncl,by decide,by decide,by decide⟩
  rw [upd_ne ncl,upd_same,em]
theorem ok_pick (F : Fun K "_law_pick" "_law_pick" s_pick f fd) (B : Bn mg) : FnOk P w K mg base CX0 1 f fd p_pick spPick:=by
  refine F.ok sc_pick (fun vs H Q E h=>?_) (fun cdv A outer s H vs Q E hr h=>?_)
  · obtain ⟨a,c,m,rfl,_⟩:=h; rfl
  obtain ⟨a,c,m,rfl,⟨ns,i,x,y,z,d1,d2,nca,hi,hy,hy2⟩,hm,hm2,q⟩:=h
  refine ⟨_,(pss_cons (ps_if (PW.pt (pw_and (pt_cmpR op_lt (pe_ix ix_list (pv 0) pe_int (fun _ _=>rfl)) (pv 1) (nomark _)) (pw_and1 (pt_cmpR op_lt (pe_ix ix_list (pv 0) pe_int (fun _ _=>rfl)) (pe_callB call_len_seq rfl B.len PySem.boot_len (pa_c (pe_ix ix_list (pv 0) pe_int (fun _ _=>rfl)) pa_nil)) (nomark _))))) (pss_cons (ps_set (i:=2) sc_pick.nd rfl (Or.inl rfl) (pe_ix ix_list (pe_ix ix_list (pv 0) pe_int (fun _ _=>rfl)) (pe_ix ix_list (pv 0) pe_int (fun _ _=>rfl)) (fun _ _=>rfl)))
      (pss_cons (ps_asg (pe_op op_add (pe_ix ix_list (pv 0) pe_int (fun _ _=>rfl)) pe_int) (pg_sub (pv 0) pe_int set_list))
      (pss_cons (ps_asg pe_int (pg_sub (pv 0) pe_int set_list))
      (pss_one (ps_if (pt_cmpR op_ge (pv 2) (pe_op op_pow pe_int pe_int) (nomark _)) (pss_one (ps_asg (pv 2) (pg_sub (pv 0) pe_int set_list))) (pss_one (ps_asg (pe_op op_mod (pe_op op_add (pe_ix ix_list (pv 0) pe_int (fun _ _=>rfl)) (pv 2)) pe_int) (pg_sub (pv 0) pe_int set_list)))))))) pss_nil)
    (pss_cons (ps_if (pt_cmpR op_ge (pe_ix ix_list (pv 0) pe_int (fun _ _=>rfl)) (pv 1) (nomark _)) (pss_cons (ps_set (i:=3) sc_pick.nd rfl (Or.inl rfl) (pe_op op_mod (pe_ix ix_list (pv 0) pe_int (fun _ _=>rfl)) (pv 1)))
      (pss_cons (ps_asg (pe_op op_fdivL (pe_ix ix_list (pv 0) pe_int (fun _ _=>rfl)) (pv 1)) (pg_sub (pv 0) pe_int set_list))
      (pss_one (ps_ret (pv 3))))) pss_nil)
    (pss_cons (ps_asg (pe_op op_add (pe_ix ix_list (pv 0) pe_int (fun _ _=>rfl)) pe_int) (pg_sub (pv 0) pe_int set_list))
    (pss_cons (ps_asg (pe_op op_mod (pe_op op_add (pe_op op_add (pe_op op_pow (pe_ix ix_list (pv 0) pe_int (fun _ _=>rfl)) pe_int) (pe_op op_mul pe_int (pe_ix ix_list (pv 0) pe_int (fun _ _=>rfl)))) pe_int) pe_int) (pg_sub (pv 0) pe_int set_list))
    (pss_one (ps_ret (pe_op op_mod (pe_op op_fdivL (pe_ix ix_list (pv 0) pe_int (fun _ _=>rfl)) pe_int) (pv 1)))))))),?_⟩
  refine (show ∀ (u : TS),(∀ (cv : Option V) (H1 : Hp) (i x y z : Int),Draw H1 a c ns i x y z→KeepBut a H H1→u { nx:=fun _ H'=>Q .non H',rt:=Q } [some (.ref a),some (.int m),cv,none] H1)→tSeq _ u _ _ _ from fun u hu=>?_) _ ?_
  · -- if draw[2] < many and draw[1] < len(draw[0])
    refine ⟨_,rfl,a,_,_,.int x,rfl,rfl,SqL.of d1,rfl,_,rfl,_,_,rfl,rfl,_,rfl,?_⟩
    by_cases c1 : x < m
    · rw [decide_eq_true c1]
      refine iteT ⟨_,rfl,a,_,_,.int i,rfl,rfl,SqL.of d1,rfl,_,rfl,a,_,_,.ref c,rfl,rfl,SqL.of d1,rfl,c,_,rfl,.inl (SqL.of d2),_,_,rfl,rfl,_,rfl,?_⟩
      rw [List.length_map]
      by_cases c2 : i < (ns.length : Int)
      · rw [decide_eq_true c2]
        have hk : i.toNat < ns.length:=by omega
        have ei : ((i.toNat : Nat) : Int)=i:=by omega
        have eat : atI (ns.map V.int) i=some (.int ns[i.toNat]):=by
          have:=atI_nat (xs:=ns.map V.int) (j:=i.toNat) (v:=.int ns[i.toNat]) (by rw [List.getElem?_map,List.getElem?_eq_getElem hk]; rfl)
          rw [ei] at this; exact this
        refine iteT ⟨_,rfl,a,_,_,.ref c,rfl,rfl,SqL.of d1,rfl,_,rfl,a,_,_,.int i,rfl,rfl,SqL.of d1,rfl,c,_,_,.int ns[i.toNat],rfl,rfl,SqL.of d2,eat,?_⟩
        generalize ns[i.toNat]=v
        refine ⟨_,rfl,a,_,_,.int i,rfl,rfl,SqL.of d1,rfl,_,_,rfl,rfl,_,rfl,a,_,_,1,rfl,rfl,d1,rfl,?_⟩
        refine ⟨_,rfl,a,_,_,2,rfl,rfl,upd_same,rfl,?_⟩
        rw [upd_upd]
        have e2 : L2.upd H a (.lst [.ref c,.int (i + 1),.int 0,.int y,.int z]) c=some (.lst (ns.map V.int)):=by rw [upd_ne nca]; exact d2
        refine ⟨_,rfl,_,_,rfl,rfl,⟨by decide,by decide,by decide⟩,_,_,rfl,rfl,_,rfl,?_⟩
        refine ite2 (fun _=>?_) (fun _=>?_)
        · refine ⟨_,rfl,_,rfl,a,_,_,2,rfl,rfl,upd_same,rfl,?_⟩
          rw [upd_upd]
          exact hu _ _ (i + 1) v y z ⟨upd_same,by rw [upd_ne nca]; exact d2,nca,by omega,hy,hy2⟩ KeepBut.refl.upd
        · refine ⟨_,rfl,a,_,_,.int y,rfl,rfl,SqL.of upd_same,rfl,_,rfl,_,_,rfl,rfl,_,_,rfl,rfl,(by show (0 : Int) < 1000000007; decide),_,rfl,a,_,_,3,rfl,rfl,upd_same,rfl,?_⟩
          rw [upd_upd]
          exact hu _ _ (i + 1) 0 ((y + v) % 1000000007) z ⟨upd_same,by rw [upd_ne nca]; exact d2,nca,by omega,by omega,by omega⟩ KeepBut.refl.upd
      · rw [decide_eq_false c2]
        exact iteF (hu _ H i x y z ⟨d1,d2,nca,hi,hy,hy2⟩ KeepBut.refl)
    · rw [decide_eq_false c1]
      exact iteF (iteF (hu _ H i x y z ⟨d1,d2,nca,hi,hy,hy2⟩ KeepBut.refl))
  · -- the rest
    clear d1 d2 hi hy hy2 i x y z
    rintro cv H1 i x y z ⟨d1,d2,_,hi,hy,hy2⟩ kb
    refine ⟨_,rfl,a,_,_,.int x,rfl,rfl,SqL.of d1,rfl,_,rfl,_,_,rfl,rfl,_,rfl,?_⟩
    by_cases c1 : m≤x
    · rw [decide_eq_true c1]
      refine iteT ⟨_,rfl,a,_,_,.int x,rfl,rfl,SqL.of d1,rfl,_,rfl,_,_,rfl,rfl,hm,?_⟩
      refine ⟨_,rfl,a,_,_,.int x,rfl,rfl,SqL.of d1,rfl,_,rfl,_,_,rfl,rfl,⟨hm,hm2⟩,_,rfl,a,_,_,2,rfl,rfl,d1,rfl,?_⟩
      refine ⟨_,rfl,?_⟩
      exact q _ _ (Int.emod_nonneg _ (by omega)) (Int.emod_lt_of_pos _ hm) ⟨ns,i,x / m,y,z,upd_same,by rw [upd_ne nca]; exact d2,nca,hi,hy,hy2⟩ kb.upd
    · rw [decide_eq_false c1]
      refine iteF ?_
      refine ⟨_,rfl,a,_,_,.int z,rfl,rfl,SqL.of d1,rfl,_,_,rfl,rfl,_,rfl,a,_,_,4,rfl,rfl,d1,rfl,?_⟩
      refine ⟨_,rfl,a,_,_,.int y,rfl,rfl,SqL.of upd_same,rfl,_,_,rfl,rfl,⟨by decide,by decide,by omega⟩,_,rfl,a,_,_,.int (z + 1),rfl,rfl,SqL.of upd_same,rfl,_,_,rfl,rfl,.inl ⟨by decide,by decide⟩,_,_,rfl,rfl,_,_,rfl,rfl,_,_,rfl,rfl,(by show (0 : Int) < 1000000007; decide),_,rfl,a,_,_,3,rfl,rfl,upd_same,rfl,?_⟩
      rw [upd_upd]
      have hy4 : 0≤(y ^ (3 : Int).toNat + 40503 * (z + 1) + 17) % 1000000007∧(y ^ (3 : Int).toNat + 40503 * (z + 1) + 17) % 1000000007 < 1000000007:=⟨Int.emod_nonneg _ (by decide),Int.emod_lt_of_pos _ (by decide)⟩
      refine ⟨_,rfl,a,_,_,.int ((y ^ (3 : Int).toNat + 40503 * (z + 1) + 17) % 1000000007),rfl,rfl,SqL.of upd_same,rfl,_,_,rfl,rfl,⟨by decide,by decide⟩,_,rfl,_,_,rfl,rfl,hm,?_⟩
      exact q _ _ (Int.emod_nonneg _ (by omega)) (Int.emod_lt_of_pos _ hm) ⟨ns,i,x,(y ^ (3 : Int).toNat + 40503 * (z + 1) + 17) % 1000000007,z + 1,upd_same,by rw [upd_ne nca]; exact d2,nca,hi,hy4.1,hy4.2⟩ kb.upd
variable (B : Bn mg) (G_pick : Cal P w K mg base CX0 1 "_law_pick" p_pick spPick)
include B G_pick
theorem ok_some_term (F : Fun K "_law_some_term" "_law_some_term" s_some_term f fd) : FnOk P w K mg base CX0 2 f fd p_some_term spSome:=by
  refine F.ok sc_some_term (fun vs H Q E h=>?_) (fun cdv A outer s H vs Q E hr h=>?_)
  · obtain ⟨a,c,rfl,_⟩:=h; rfl
  obtain ⟨a,c,rfl,d,q⟩:=h
  refine ⟨_,(pss_one (ps_ret (pe_ix ix_tup (pe_tup (pa_c pe_int (pa_c pe_int (pa_c pe_int (pa_c (pe_cal G_pick hr rfl pass0 (pa_c (pv 0) (pa_c pe_int pa_nil))) (pa_c (pe_cal G_pick hr rfl pass0 (pa_c (pv 0) (pa_c pe_int pa_nil))) (pa_c pe_int pa_nil))))))) (pe_cal G_pick hr rfl pass0 (pa_c (pv 0) (pa_c pe_int pa_nil))) (fun _ _=>rfl)))),?_⟩
  refine ⟨_,rfl,a,c,12,rfl,d,by decide,by decide,fun r1 H1 a1 c1 d1 kb1=>?_⟩
  refine ⟨_,rfl,a,c,60,rfl,d1,by decide,by decide,fun r2 H2 a2 c2 d2 kb2=>?_⟩
  refine ⟨by show 6≤sizeLine; decide,fun p hp=>?_⟩
  refine ⟨_,rfl,a,c,6,rfl,d2.new hp,by decide,by decide,fun r3 H3 a3 c3 d3 kb3=>?_⟩
  have ht:=kb3 p _ (d2.ne hp) upd_same
  have hv : ∃ v,atI [V.int 0,.int 1,.int 3,.int r1,.int r2,.int 400] r3=some (.int v)∧0≤v∧v≤400:=by
    have : r3=0∨r3=1∨r3=2∨r3=3∨r3=4∨r3=5:=by omega
    rcases this with rfl | rfl | rfl | rfl | rfl | rfl
    · exact ⟨0,rfl,by omega,by omega⟩
    · exact ⟨1,rfl,by omega,by omega⟩
    · exact ⟨3,rfl,by omega,by omega⟩
    · exact ⟨r1,rfl,by omega,by omega⟩
    · exact ⟨r2,rfl,by omega,by omega⟩
    · exact ⟨400,rfl,by omega,by omega⟩
  obtain ⟨v,ev,v0,v1⟩:=hv
  exact ⟨p,_,_,.int v,rfl,rfl,SqT.of ht,ev,q v H3 v0 v1 d3 ((kb1.trans (kb2.new hp)).trans kb3)⟩
theorem ok_span (F : Fun K "_law_span" "_law_span" s_span f fd) : FnOk P w K mg base CX0 2 f fd p_span spSpan:=by
  refine F.ok sc_span (fun vs H Q E h=>?_) (fun cdv A outer s H vs Q E hr h=>?_)
  · obtain ⟨a,c,rfl,_⟩:=h; rfl
  obtain ⟨a,c,rfl,d,q⟩:=h
  refine ⟨_,(pss_cons (ps_set (i:=1) sc_span.nd rfl (Or.inl rfl) (pe_ix ix_tup (pe_tup (pa_c pe_int (pa_c pe_int (pa_c pe_int (pa_c pe_int pa_nil))))) (pe_cal G_pick hr rfl pass0 (pa_c (pv 0) (pa_c pe_int pa_nil))) (fun _ _=>rfl)))
    (pss_one (ps_ret (pe_tup (pa_c (pe_op op_add pe_int (pe_cal G_pick hr rfl pass0 (pa_c (pv 0) (pa_c (pe_op op_sub pe_int (pv 1)) pa_nil)))) (pa_c (pv 1) pa_nil)))))),?_⟩
  refine ⟨by show 4≤sizeLine; decide,fun p0 hp0=>?_⟩
  refine ⟨_,rfl,a,c,4,rfl,d.new hp0,by decide,by decide,fun r1 H1 a1 c1 d1 kb1=>?_⟩
  have ht:=kb1 p0 _ (d.ne hp0) upd_same
  have hv : ∃ v,atI [V.int 6,.int 20,.int 60,.int 999] r1=some (.int v)∧6≤v∧v≤999:=by
    have : r1=0∨r1=1∨r1=2∨r1=3:=by omega
    rcases this with rfl | rfl | rfl | rfl
    · exact ⟨6,rfl,by omega,by omega⟩
    · exact ⟨20,rfl,by omega,by omega⟩
    · exact ⟨60,rfl,by omega,by omega⟩
    · exact ⟨999,rfl,by omega,by omega⟩
  obtain ⟨v,ev,v0,v1⟩:=hv
  refine ⟨p0,_,_,.int v,rfl,rfl,SqT.of ht,ev,?_⟩
  refine ⟨_,rfl,_,rfl,_,_,rfl,rfl,a,c,1000 - v,rfl,d1,by omega,by omega,fun r2 H2 a2 c2 d2 kb2=>?_⟩
  refine ⟨_,_,rfl,rfl,_,rfl,by show 2≤sizeLine; decide,fun p hp=>?_⟩
  have k : KeepBut a H H2:=((KeepBut.refl.new hp0).trans kb1).trans kb2
  exact q p (1 + r2) v _ (k.none (d2.ne hp) hp) (by omega) (by omega) (by omega) (d2.new hp) (k.new hp) upd_same
theorem ok_some_lots (F : Fun K "_law_some_lots" "_law_some_lots" s_some_lots f fd) : FnOk P w K mg base CX0 2 f fd p_some_lots spLots:=by
  refine F.ok sc_some_lots (fun vs H Q E h=>?_) (fun cdv A outer s H vs Q E hr h=>?_)
  · obtain ⟨a,c,p,m,lo,n,sc,rfl,_⟩:=h; rfl
  obtain ⟨a,c,p,m,lo,n,sc,rfl,d,m0,m1,hp,n0,n1,s0,s1,q⟩:=h
  refine ⟨_,(pss_cons (ps_set (i:=4) sc_some_lots.nd rfl (Or.inl rfl) (pe_ix ix_tup (pe_tup (pa_c pe_int (pa_c pe_int (pa_c pe_int (pa_c (pe_op op_pow pe_int pe_int) pa_nil))))) (pe_cal G_pick hr rfl pass0 (pa_c (pv 0) (pa_c pe_int pa_nil))) (fun _ _=>rfl)))
    (pss_cons (ps_set (i:=5) sc_some_lots.nd rfl (Or.inl rfl) (pe_lst pa_nil))
    (pss_cons (ps_for PassesOwn.never rfl (pi_range1 rfl B.range (pa_c (pe_cal G_pick hr rfl pass0 (pa_c (pv 0) (pa_c (pe_op op_add (pv 1) pe_int) pa_nil))) pa_nil)) (pg_name (i:=6) sc_some_lots.nd rfl (Or.inl rfl)) (pss_cons (ps_set (i:=7) sc_some_lots.nd rfl (Or.inl rfl) (pe_op op_add (pe_ix ix_tup (pv 2) pe_int (fun _ _=>rfl)) (pe_cal G_pick hr rfl pass0 (pa_c (pv 0) (pa_c (pe_ix ix_tup (pv 2) pe_int (fun _ _=>rfl)) pa_nil)))))
      (pss_cons (ps_set (i:=8) sc_some_lots.nd rfl (Or.inl rfl) (pe_op op_add pe_int (pe_cal G_pick hr rfl pass0 (pa_c (pv 0) (pa_c (pv 3) pa_nil)))))
      (pss_one (ps_expr (pe_bm PySem.F.plainAttrs_list PySem.F.slot_list_append PySem.F.type_list_append mt_append (pv 5) (pa_c (pe_tup (pa_c (pv 7) (pa_c (pv 8) (pa_c (pe_op op_add pe_int (pe_cal G_pick hr rfl pass0 (pa_c (pv 0) (pa_c (pv 4) pa_nil)))) pa_nil)))) pa_nil)))))))
    (pss_one (ps_ret (pv 5)))))),?_⟩
  refine ⟨_,_,rfl,rfl,⟨by decide,by decide,by decide⟩,by show 4≤sizeLine; decide,fun p0 hp0=>?_⟩
  refine ⟨_,rfl,a,c,4,rfl,d.new hp0,by decide,by decide,fun r1 H1 a1 c1 d1 kb1=>?_⟩
  have ht:=kb1 p0 _ (d.ne hp0) upd_same
  have hv : ∃ v,atI [V.int 2,.int 5,.int 40,.int (10 ^ (6 : Int).toNat)] r1=some (.int v)∧1≤v∧v≤1000000:=by
    have : r1=0∨r1=1∨r1=2∨r1=3:=by omega
    rcases this with rfl | rfl | rfl | rfl
    · exact ⟨2,rfl,by omega,by omega⟩
    · exact ⟨5,rfl,by omega,by omega⟩
    · exact ⟨40,rfl,by omega,by omega⟩
    · exact ⟨1000000,rfl,by omega,by omega⟩
  obtain ⟨dear,ev,v0,v1⟩:=hv
  refine ⟨p0,_,_,.int dear,rfl,rfl,SqT.of ht,ev,?_⟩
  refine ⟨by show 0≤sizeLine; decide,fun l hl=>?_⟩
  have k1 : KeepBut a H H1:=(KeepBut.refl.new hp0).trans kb1
  have fl : H l=none:=k1.none (d1.ne hl) hl
  have dl:=d1.new (o:=.lst []) hl
  have pa : p≠a:=d.neT hp
  refine ⟨_,rfl,_,rfl,_,_,rfl,rfl,a,c,m + 1,rfl,dl,by omega,by omega,fun r2 H2 a2 c2 d2 kb2=>?_⟩
  have k2 : KeepBut a H H2:=(k1.new hl).trans kb2
  have hl2:=kb2 l _ (d1.ne hl) upd_same
  refine ⟨r2,rfl,by omega,by omega,for_range (n:=r2.toNat) (fun i σ H3=>∃ o6 o7 o8 rs,σ=[some (.ref a),some (.int m),some (.ref p),some (.int sc),some (.int dear),some (.ref l),o6,o7,o8]∧DrawAt H3 a c∧KeepBut a H H3∧Rows H3 l rs∧rs.length=i∧∀ r∈rs,LotIn lo n sc r) ⟨_,_,_,[],rfl,d2,k2,Rows.nil hl2,rfl,fun r hr=>by cases hr⟩ ?_ ?_⟩
  · rintro i σ H3 hi ⟨o6,o7,o8,rs,rfl,d3,k3,hR,hlen,hall⟩
    refine ⟨_,rfl,p,_,_,.int lo,rfl,rfl,SqT.of (k3 p _ pa hp),rfl,?_⟩
    refine ⟨_,rfl,_,rfl,p,_,_,.int n,rfl,rfl,SqT.of (k3 p _ pa hp),rfl,a,c,n,rfl,d3,by omega,by omega,fun x1 H4 a4 c4 d4 kb4=>⟨_,_,rfl,rfl,?_⟩⟩
    refine ⟨_,rfl,_,rfl,a,c,sc,rfl,d4,by omega,by omega,fun x2 H5 a5 c5 d5 kb5=>⟨_,_,rfl,rfl,?_⟩⟩
    have nla : l≠a:=d1.ne hl
    have R5:=(hR.keep nla d3 kb4).keep nla d4 kb5
    refine ⟨_,rfl,.inl ⟨rfl,?_⟩,?_⟩
    · obtain ⟨xs,e,_⟩:=R5.get
      exact ⟨_,SqL.of e⟩
    refine ⟨_,rfl,_,rfl,_,rfl,_,rfl,a,c,dear,rfl,d5,by omega,by omega,fun x3 H6 a6 c6 d6 kb6=>⟨_,_,rfl,rfl,by show 3≤sizeLine; decide,fun t ht=>?_⟩⟩
    have R6:=R5.keep nla d5 kb6
    obtain ⟨xs,ex,exl,_⟩:=R6.get
    refine ⟨l,xs,.ref t,rfl,rfl,by rw [upd_ne (ne_of_none ex ht)]; exact ex,small1000 (by omega),?_⟩
    have k6 : KeepBut a H H6:=((k3.trans kb4).trans kb5).trans kb6
    have dn:=(d6.new (o:=.tup [.int (lo + x1),.int (1 + x2),.int (1 + x3)]) ht).upd (o:=.lst (xs ++ [.ref t])) nla (d1.nc hl)
    refine ⟨_,_,_,rs ++ [[lo + x1,1 + x2,1 + x3]],rfl,dn,(k6.new ht).young fl,R6.push (r:=[lo + x1,1 + x2,1 + x3]) ex ht,by rw [List.length_append,hlen]; rfl,fun r hr=>?_⟩
    rcases List.mem_append.mp hr with z | z
    · exact hall r z
    · rw [List.mem_singleton.mp z]
      exact ⟨_,_,_,rfl,by omega,by omega,by omega,by omega,by omega,by omega⟩
  · rintro σ H3 ⟨o6,o7,o8,rs,rfl,d3,k3,hR,hlen,hall⟩
    exact ⟨_,rfl,q l rs H3 fl hall (by omega) d3 k3 hR⟩
theorem ok_some_outs (F : Fun K "_law_some_outs" "_law_some_outs" s_some_outs f fd) : FnOk P w K mg base CX0 2 f fd p_some_outs spOuts:=by
  refine F.ok sc_some_outs (fun vs H Q E h=>?_) (fun cdv A outer s H vs Q E hr h=>?_)
  · obtain ⟨a,c,p,m,lo,n,sc,rfl,_⟩:=h; rfl
  obtain ⟨a,c,p,m,lo,n,sc,rfl,d,m0,m1,hp,n0,n1,s0,s1,q⟩:=h
  refine ⟨_,(pss_cons (ps_set (i:=4) sc_some_outs.nd rfl (Or.inl rfl) (pe_lst pa_nil))
    (pss_cons (ps_for PassesOwn.never rfl (pi_range1 rfl B.range (pa_c (pe_cal G_pick hr rfl pass0 (pa_c (pv 0) (pa_c (pe_op op_add (pv 1) pe_int) pa_nil))) pa_nil)) (pg_name (i:=5) sc_some_outs.nd rfl (Or.inl rfl)) (pss_cons (ps_set (i:=6) sc_some_outs.nd rfl (Or.inl rfl) (pe_op op_add (pe_ix ix_tup (pv 2) pe_int (fun _ _=>rfl)) (pe_cal G_pick hr rfl pass0 (pa_c (pv 0) (pa_c (pe_ix ix_tup (pv 2) pe_int (fun _ _=>rfl)) pa_nil)))))
      (pss_one (ps_expr (pe_bm PySem.F.plainAttrs_list PySem.F.slot_list_append PySem.F.type_list_append mt_append (pv 4) (pa_c (pe_tup (pa_c (pv 6) (pa_c (pe_op op_add pe_int (pe_cal G_pick hr rfl pass0 (pa_c (pv 0) (pa_c (pv 3) pa_nil)))) pa_nil))) pa_nil))))))
    (pss_one (ps_ret (pv 4))))),?_⟩
  refine ⟨by show 0≤sizeLine; decide,fun l hl=>?_⟩
  have nla : l≠a:=d.ne hl
  have pa : p≠a:=d.neT hp
  refine ⟨_,rfl,_,rfl,_,_,rfl,rfl,a,c,m + 1,rfl,d.new hl,by omega,by omega,fun r2 H2 a2 c2 d2 kb2=>?_⟩
  have k2 : KeepBut a H H2:=(KeepBut.refl.new hl).trans kb2
  have hl2:=kb2 l _ nla upd_same
  refine ⟨r2,rfl,by omega,by omega,for_range (n:=r2.toNat) (fun i σ H3=>∃ o6 o7 rs,σ=[some (.ref a),some (.int m),some (.ref p),some (.int sc),some (.ref l),o6,o7]∧DrawAt H3 a c∧KeepBut a H H3∧Rows H3 l rs∧rs.length=i∧∀ r∈rs,OutIn lo n sc r) ⟨_,_,[],rfl,d2,k2,Rows.nil hl2,rfl,fun r hr=>by cases hr⟩ ?_ ?_⟩
  · rintro i σ H3 hi ⟨o6,o7,rs,rfl,d3,k3,hR,hlen,hall⟩
    refine ⟨_,rfl,p,_,_,.int lo,rfl,rfl,SqT.of (k3 p _ pa hp),rfl,?_⟩
    refine ⟨_,rfl,_,rfl,p,_,_,.int n,rfl,rfl,SqT.of (k3 p _ pa hp),rfl,a,c,n,rfl,d3,by omega,by omega,fun x1 H4 a4 c4 d4 kb4=>⟨_,_,rfl,rfl,?_⟩⟩
    have R5:=hR.keep nla d3 kb4
    refine ⟨_,rfl,.inl ⟨rfl,?_⟩,?_⟩
    · obtain ⟨xs,e,_⟩:=R5.get
      exact ⟨_,SqL.of e⟩
    refine ⟨_,rfl,_,rfl,_,rfl,a,c,sc,rfl,d4,by omega,by omega,fun x3 H6 a6 c6 d6 kb6=>⟨_,_,rfl,rfl,by show 2≤sizeLine; decide,fun t ht=>?_⟩⟩
    have R6:=R5.keep nla d4 kb6
    obtain ⟨xs,ex,exl,_⟩:=R6.get
    refine ⟨l,xs,.ref t,rfl,rfl,by rw [upd_ne (ne_of_none ex ht)]; exact ex,small1000 (by omega),?_⟩
    have k6 : KeepBut a H H6:=(k3.trans kb4).trans kb6
    have dn:=(d6.new (o:=.tup [.int (lo + x1),.int (1 + x3)]) ht).upd (o:=.lst (xs ++ [.ref t])) nla (d.nc hl)
    refine ⟨_,_,rs ++ [[lo + x1,1 + x3]],rfl,dn,(k6.new ht).young hl,R6.push (r:=[lo + x1,1 + x3]) ex ht,by rw [List.length_append,hlen]; rfl,fun r hr=>?_⟩
    rcases List.mem_append.mp hr with z | z
    · exact hall r z
    · rw [List.mem_singleton.mp z]
      exact ⟨_,_,rfl,by omega,by omega,by omega,by omega⟩
  · rintro σ H3 ⟨o6,o7,rs,rfl,d3,k3,hR,hlen,hall⟩
    exact ⟨_,rfl,q l rs H3 hl hall (by omega) d3 k3 hR⟩
theorem ok_case (G_span : Cal P w K mg base CX0 2 "_law_span" p_span spSpan) (G_some_term : Cal P w K mg base CX0 2 "_law_some_term" p_some_term spSome) (G_some_lots : Cal P w K mg base CX0 2 "_law_some_lots" p_some_lots spLots) (G_some_outs : Cal P w K mg base CX0 2 "_law_some_outs" p_some_outs spOuts)
    (F : Fun K "_law_case" "_law_case" s_case f fd) : FnOk P w K mg base CX0 3 f fd p_case spCase:=by
  refine F.ok sc_case (fun vs H Q E h=>?_) (fun cdv A outer s H vs Q E hr h=>?_)
  · obtain ⟨a,c,m,rfl,_⟩:=h; rfl
  obtain ⟨a,c,m,rfl,d,m0,m1,q⟩:=h
  refine ⟨_,(pss_cons (ps_set (i:=2) sc_case.nd rfl (Or.inl rfl) (pe_cal G_span hr rfl pass0 (pa_c (pv 0) pa_nil)))
    (pss_cons (ps_set (i:=3) sc_case.nd rfl (Or.inl rfl) (pe_cal G_some_term hr rfl pass0 (pa_c (pv 0) pa_nil)))
    (pss_cons (ps_set (i:=4) sc_case.nd rfl (Or.inl rfl) (pe_ix ix_tup (pe_tup (pa_c pe_int (pa_c pe_int (pa_c pe_int (pa_c (pe_op op_pow pe_int pe_int) pa_nil))))) (pe_cal G_pick hr rfl pass0 (pa_c (pv 0) (pa_c pe_int pa_nil))) (fun _ _=>rfl)))
    (pss_cons (ps_set (i:=5) sc_case.nd rfl (Or.inl rfl) (pe_cal G_some_lots hr rfl pass0 (pa_c (pv 0) (pa_c (pv 1) (pa_c (pv 2) (pa_c (pv 4) pa_nil))))))
    (pss_one (ps_ret (pe_tup (pa_c (pv 5) (pa_c (pe_cal G_some_outs hr rfl pass0 (pa_c (pv 0) (pa_c (pv 1) (pa_c (pv 2) (pa_c (pv 4) pa_nil))))) (pa_c (pv 3) pa_nil)))))))))),?_⟩
  refine ⟨_,rfl,a,c,rfl,d,fun p lo n H1 hp lo1 n6 h1000 d1 kb1 e1=>?_⟩
  have pa : p≠a:=d.ne hp
  refine ⟨_,rfl,a,c,rfl,d1,fun tm H2 t0 t4 d2 kb2=>?_⟩
  refine ⟨_,_,rfl,rfl,⟨by decide,by decide,by decide⟩,by show 4≤sizeLine; decide,fun p0 hp0=>?_⟩
  refine ⟨_,rfl,a,c,4,rfl,d2.new hp0,by decide,by decide,fun r3 H3 a3 c3 d3 kb3=>?_⟩
  have ht:=kb3 p0 _ (d2.ne hp0) upd_same
  have hv : ∃ v,atI [V.int 3,.int 12,.int 1000,.int (10 ^ (10 : Int).toNat)] r3=some (.int v)∧1≤v∧v≤10000000000:=by
    have : r3=0∨r3=1∨r3=2∨r3=3:=by omega
    rcases this with rfl | rfl | rfl | rfl
    · exact ⟨3,rfl,by omega,by omega⟩
    · exact ⟨12,rfl,by omega,by omega⟩
    · exact ⟨1000,rfl,by omega,by omega⟩
    · exact ⟨10000000000,rfl,by omega,by omega⟩
  obtain ⟨sc,ev,v0,v1⟩:=hv
  refine ⟨p0,_,_,.int sc,rfl,rfl,SqT.of ht,ev,?_⟩
  have k3 : KeepBut a H1 H3:=(kb2.new hp0).trans kb3
  have e3:=k3 p _ pa e1
  refine ⟨_,rfl,_,rfl,_,rfl,_,rfl,a,c,p,m,lo,n,sc,rfl,d3,m0,m1,e3,by omega,by omega,v0,v1,fun l ls H4 hl hls lsn d4 kb4 R4=>?_⟩
  refine ⟨_,rfl,_,rfl,_,rfl,_,rfl,_,rfl,a,c,p,m,lo,n,sc,rfl,d4,m0,m1,kb4 p _ pa e3,by omega,by omega,v0,v1,fun o os H5 ho hos osn d5 kb5 R5=>?_⟩
  refine ⟨_,rfl,by show 3≤sizeLine; decide,fun t ht'=>?_⟩
  have k13 : KeepBut a H H3:=kb1.trans k3
  have nla : l≠a:=d3.ne hl
  have noa : o≠a:=d4.ne ho
  have nlo : l≠o:=by obtain ⟨z,e⟩:=R4.there; exact ne_of_none e ho
  refine q t l o tm lo n sc ls os _ (k13.none nla hl) ((k13.trans kb4).none noa ho) nlo t0 t4 lo1 n6 h1000 v0 v1 hls hos lsn osn (d5.new ht') (((k13.trans kb4).trans kb5).new ht') ((R4.keep nla d4 kb5).same (same_new ht' _)) (R5.same (same_new ht' _)) upd_same
end
end K14
namespace L2
open PySem PySem.W PyProof.Rows
def okW {α : Type} (n : Nat) (lt : Nat→Nat→Bool) (Q : α→Prop) : KasT α→Prop
  | .ret a=>Q a
  | .ask i j k=>i < n∧j < n∧okW n lt Q (k (lt i j))
theorem okW_mono {α : Type} {n : Nat} {lt : Nat→Nat→Bool} {Q Q' : α→Prop} (h : ∀ a,Q a→Q' a) : ∀ {t : KasT α},okW n lt Q t→okW n lt Q' t
  | .ret a,q=>h a q
  | .ask _ _ _,⟨a,b,q⟩=>⟨a,b,okW_mono h q⟩
theorem okW_bind {α β : Type} {n : Nat} {lt : Nat→Nat→Bool} {Q : β→Prop} {f : α→KasT β} : ∀ {t : KasT α},okW n lt (fun a=>okW n lt Q (f a)) t→okW n lt Q (t.bind f)
  | .ret a,q=>q
  | .ask _ _ _,⟨a,b,q⟩=>⟨a,b,okW_bind q⟩
theorem okW_wp {α : Type} {n : Nat} {lt : Nat→Nat→Bool} {cmp : Nat→Nat→(Bool→Shared→Prop)→Shared→Prop} {s : Shared} (hc : ∀ i j C,i < n→j < n→C (lt i j) s→cmp i j C s) {Q : α→Shared→Prop} : ∀ {t : KasT α},okW n lt (fun a=>Q a s) t→t.kasWp cmp Q s
  | .ret _,q=>q
  | .ask i j _,⟨a,b,q⟩=>hc i j _ a b (okW_wp hc q)
structure Ordr (lt : Nat→Nat→Bool) : Prop where
  irr : ∀ i,lt i i=false
  tr : ∀ i j k,lt j i=false→lt k j=false→lt k i=false
  asy : ∀ i j,lt i j=true→lt j i=false
section
variable {n : Nat} {lt : Nat→Nat→Bool}
abbrev gA (p : Array Nat) (i : Nat) : Nat:=p.getD i 0
abbrev leA (lt : Nat→Nat→Bool) (i j : Nat) : Prop:=lt j i=false
def PermN (n : Nat) (p : Array Nat) : Prop:=p.toList.Perm (List.range n)
def Up (lt : Nat→Nat→Bool) (p : Array Nat) (m : Nat) : Prop:=∀ i j,i≤j→j < m→leA lt (gA p i) (gA p j)
def Down (lt : Nat→Nat→Bool) (p : Array Nat) (m : Nat) : Prop:=∀ i j,i≤j→j < m→leA lt (gA p j) (gA p i)
theorem gA_eq (p : Array Nat) (i : Nat) : gA p i=(p[i]?).getD 0:=by simp [gA]
theorem PermN.size {p : Array Nat} (h : PermN n p) : p.size=n:=by
  have:=List.Perm.length_eq h
  simpa using this
theorem PermN.below {p : Array Nat} (h : PermN n p) (h0 : 0 < n) (i : Nat) : gA p i < n:=by
  rw [gA_eq]
  cases e : p[i]? with
  | none=>exact h0
  | some v=>
    have hm : v∈p.toList:=by
      obtain ⟨hi,rfl⟩:=Array.getElem?_eq_some_iff.mp e
      simp
    exact List.mem_range.mp ((List.Perm.mem_iff h).mp hm)
theorem PermN.rev {p : Array Nat} (h : PermN n p) (i j : Nat) : PermN n (kas_rev p i j):=((mirror_perm p i j _).toList).trans h
theorem PermN.bub {p : Array Nat} (h : PermN n p) (k d : Nat) : PermN n (bubble p k d):=((bubble_perm p k d).toList).trans h
theorem gA_rev {p : Array Nat} {i j : Nat} (hj : j≤p.size) (k : Nat) : gA (kas_rev p i j) k=if i≤k∧k < j then gA p (i + j - 1 - k) else gA p k:=by
  rw [gA_eq,gA_eq,gA_eq]
  unfold kas_rev
  rw [getElem?_mirror_all hj]
  split <;> rfl
theorem gA_bub {p : Array Nat} {src d : Nat} (hs : src < p.size) (hd : d≤src) (k : Nat) : gA (bubble p src d) k=if k=src - d then gA p src else if src - d < k∧k≤src then gA p (k - 1) else gA p k:=by
  rw [gA_eq,gA_eq,gA_eq,gA_eq,getElem?_bubble hs d hd]
  split
  · rfl
  · split <;> rfl
variable (O : Ordr lt)
include O
theorem up_succ {p : Array Nat} {m : Nat} (h : Up lt p m) (h1 : 1≤m) (c : leA lt (gA p (m - 1)) (gA p m)) : Up lt p (m + 1):=by
  intro i j hij hj
  by_cases e : j < m
  · exact h i j hij e
  · have : j=m:=by omega
    subst this
    by_cases e2 : i=j
    · subst e2; exact O.irr _
    · exact O.tr _ _ _ (h i (j - 1) (by omega) (by omega)) c
theorem down_succ {p : Array Nat} {m : Nat} (h : Down lt p m) (h1 : 1≤m) (c : leA lt (gA p m) (gA p (m - 1))) : Down lt p (m + 1):=by
  intro i j hij hj
  by_cases e : j < m
  · exact h i j hij e
  · have : j=m:=by omega
    subst this
    by_cases e2 : i=j
    · subst e2; exact O.irr _
    · exact O.tr _ _ _ c (h i (j - 1) (by omega) (by omega))
theorem ok_asc {p : Array Nat} (hp : PermN n p) (h0 : 0 < n) : ∀ (f m : Nat),1≤m→m + f≤n→Up lt p m→
    okW n lt (fun r=>m≤r∧r≤m + f∧Up lt p r∧(r=m + f∨lt (gA p r) (gA p (r - 1))=true)) (kas_asc p f m)
  | 0,m,h1,hf,hu=>⟨Nat.le_refl _,Nat.le_refl _,hu,.inl rfl⟩
  | f + 1,m,h1,hf,hu=>by
    refine ⟨hp.below h0 m,hp.below h0 (m - 1),?_⟩
    by_cases c : lt (gA p m) (gA p (m - 1))=true
    · show okW n lt _ (if lt (gA p m) (gA p (m - 1))=true then KasT.ret m else kas_asc p f (m + 1))
      rw [if_pos c]
      exact ⟨Nat.le_refl _,by omega,hu,.inr c⟩
    · show okW n lt _ (if lt (gA p m) (gA p (m - 1))=true then KasT.ret m else kas_asc p f (m + 1))
      rw [if_neg c]
      have c' : lt (gA p m) (gA p (m - 1))=false:=by simpa using c
      refine okW_mono (fun r ⟨a,b,u,d⟩=>⟨by omega,by omega,u,?_⟩) (ok_asc hp h0 f (m + 1) (by omega) (by omega) (up_succ O hu h1 c'))
      rcases d with d | d
      · exact .inl (by omega)
      · exact .inr d
def Alike (lt : Nat→Nat→Bool) (p : Array Nat) (m q : Nat) : Prop:=∀ i,m - (q + 1)≤i→i < m→leA lt (gA p i) (gA p (m - 1))∧leA lt (gA p (m - 1)) (gA p i)
theorem rev_alike {p : Array Nat} {m q : Nat} (hs : m≤p.size) (hq : q + 1≤m) (h : Alike lt p m q) (k : Nat) : leA lt (gA (kas_rev p (m - (q + 1)) m) k) (gA p k)∧leA lt (gA p k) (gA (kas_rev p (m - (q + 1)) m) k):=by
  rw [gA_rev hs]
  by_cases c : m - (q + 1)≤k∧k < m
  · rw [if_pos c]
    have a:=h (m - (q + 1) + m - 1 - k) (by omega) (by omega)
    have b:=h k c.1 c.2
    exact ⟨O.tr _ _ _ a.1 b.2,O.tr _ _ _ b.1 a.2⟩
  · rw [if_neg c]
    exact ⟨O.irr _,O.irr _⟩
theorem down_rev {p : Array Nat} {m q : Nat} (hs : m≤p.size) (hq : q + 1≤m) (h : Alike lt p m q) (d : Down lt p m) : Down lt (kas_rev p (m - (q + 1)) m) m:=fun i j hij hj=>
  O.tr _ _ _ (rev_alike O hs hq h j).1 (O.tr _ _ _ (d i j hij hj) (rev_alike O hs hq h i).2)
theorem ok_desc (h0 : 0 < n) : ∀ (f : Nat) (p : Array Nat) (m q : Nat),PermN n p→1≤m→m + f≤n→q + 1≤m→Down lt p m→Alike lt p m q→
    okW n lt (fun r=>PermN n r.1∧1≤r.2.1∧r.2.1≤n∧m≤r.2.1∧r.2.1≤m + f∧r.2.2 + 1≤r.2.1∧Down lt r.1 r.2.1∧Alike lt r.1 r.2.1 r.2.2) (kas_desc f p m q)
  | 0,p,m,q,hp,h1,hf,hq,d,al=>⟨hp,h1,by show m≤n; omega,Nat.le_refl _,Nat.le_refl _,hq,d,al⟩
  | f + 1,p,m,q,hp,h1,hf,hq,d,al=>by
    have hs : m≤p.size:=by rw [hp.size]; omega
    have one : ∀ p' : Array Nat,Alike lt p' (m + 1) 0:=fun p' i a b=>by
      have : i=m:=by omega
      subst this
      exact ⟨O.irr _,O.irr _⟩
    refine ⟨hp.below h0 m,hp.below h0 (m - 1),?_⟩
    show okW n lt _ (if lt (gA p m) (gA p (m - 1))=true then (if q > 0 then kas_desc f (kas_rev p (m - (q + 1)) m) (m + 1) 0 else kas_desc f p (m + 1) 0) else KasT.ask (p.getD (m - 1) 0) (p.getD m 0) fun d=>if d=true then KasT.ret (p,m,q) else kas_desc f p (m + 1) (q + 1))
    by_cases c : lt (gA p m) (gA p (m - 1))=true
    · rw [if_pos c]
      by_cases cq : q > 0
      · rw [if_pos cq]
        have d1:=down_rev O hs hq al d
        have e : leA lt (gA (kas_rev p (m - (q + 1)) m) m) (gA (kas_rev p (m - (q + 1)) m) (m - 1)):=by
          have a1:=(rev_alike O hs hq al m).1
          have a2:=(rev_alike O hs hq al (m - 1)).2
          exact O.tr _ _ _ a1 (O.tr _ _ _ (O.asy _ _ c) a2)
        refine okW_mono (fun r ⟨a,b,c,x,y,z⟩=>⟨a,b,c,by omega,by omega,z⟩) (ok_desc h0 f _ (m + 1) 0 (hp.rev _ _) (by omega) (by omega) (by omega) (down_succ O d1 h1 e) (one _))
      · rw [if_neg cq]
        refine okW_mono (fun r ⟨a,b,c,x,y,z⟩=>⟨a,b,c,by omega,by omega,z⟩) (ok_desc h0 f p (m + 1) 0 hp (by omega) (by omega) (by omega) (down_succ O d h1 (O.asy _ _ c)) (one _))
    · rw [if_neg c]
      have c' : lt (gA p m) (gA p (m - 1))=false:=by simpa using c
      refine ⟨hp.below h0 (m - 1),hp.below h0 m,?_⟩
      by_cases c2 : lt (gA p (m - 1)) (gA p m)=true
      · show okW n lt _ (if lt (gA p (m - 1)) (gA p m)=true then KasT.ret (p,m,q) else kas_desc f p (m + 1) (q + 1))
        rw [if_pos c2]
        exact ⟨hp,h1,by show m≤n; omega,Nat.le_refl _,by show m≤m + (f + 1); omega,hq,d,al⟩
      · show okW n lt _ (if lt (gA p (m - 1)) (gA p m)=true then KasT.ret (p,m,q) else kas_desc f p (m + 1) (q + 1))
        rw [if_neg c2]
        have c2' : lt (gA p (m - 1)) (gA p m)=false:=by simpa using c2
        refine okW_mono (fun r ⟨a,b,c,x,y,z⟩=>⟨a,b,c,by omega,by omega,z⟩) (ok_desc h0 f p (m + 1) (q + 1) hp (by omega) (by omega) (by omega) (down_succ O d h1 c2') ?_)
        intro i a b
        by_cases e : i=m
        · subst e; exact ⟨O.irr _,O.irr _⟩
        · have:=al i (by omega) (by omega)
          exact ⟨O.tr _ _ _ this.1 c',O.tr _ _ _ c2' this.2⟩
theorem up_rev {p : Array Nat} {m : Nat} (hs : m≤p.size) (d : Down lt p m) : Up lt (kas_rev p 0 m) m:=by
  intro i j hij hj
  rw [gA_rev hs,gA_rev hs,if_pos ⟨Nat.zero_le _,by omega⟩,if_pos ⟨Nat.zero_le _,hj⟩]
  exact d _ _ (by omega) (by omega)
abbrev RunOk (n : Nat) (lt : Nat→Nat→Bool) (N : Nat) (r : Nat×Array Nat) : Prop:=PermN n r.2∧1≤r.1∧r.1≤N∧Up lt r.2 r.1
theorem ok_tail3 (h0 : 0 < n) {p : Array Nat} {m : Nat} (hp : PermN n p) (h1 : 1≤m) (hm : m≤n) (d : Down lt p m) : okW n lt (RunOk n lt n) (kas_tail3 m n p):=by
  unfold kas_tail3
  have hs : m≤p.size:=by rw [hp.size]; omega
  refine okW_bind (okW_mono (fun r ⟨a,b,u,_⟩=>?_) (ok_asc O (hp.rev 0 m) h0 (n - m) m h1 (by omega) (up_rev O hs d)))
  exact ⟨hp.rev 0 m,by show 1≤r; omega,by show r≤n; omega,u⟩
theorem ok_descPart (h0 : 0 < n) {p : Array Nat} {m : Nat} (hp : PermN n p) (hm : m + 1≤n) (d : Down lt p (m + 1)) : okW n lt (RunOk n lt n) (kas_descPart m n p):=by
  unfold kas_descPart
  refine okW_bind (okW_mono (fun r ⟨a,b,c,x,y,z,dd,al⟩=>?_) (ok_desc O h0 (n - (m + 1)) p (m + 1) 0 hp (by omega) (by omega) (by omega) d ?_))
  · intro i a b
    have : i=m:=by omega
    subst this
    exact ⟨O.irr _,O.irr _⟩
  · by_cases cq : r.2.2 > 0
    · rw [if_pos cq]
      exact ok_tail3 O h0 (a.rev _ _) b c (down_rev O (by rw [a.size]; exact c) z al dd)
    · rw [if_neg cq]
      exact ok_tail3 O h0 a b c dd
theorem ok_count (h2 : 2≤n) {p : Array Nat} (hp : PermN n p) : okW n lt (RunOk n lt n) (kas_count n p):=by
  unfold kas_count
  have h0 : 0 < n:=by omega
  refine okW_bind (okW_mono (fun r ⟨a,b,u,e⟩=>?_) (ok_asc O hp h0 (n - 1) 1 (by omega) (by omega) ?_))
  · intro i j hij hj
    have : i=j:=by omega
    subst this
    exact O.irr _
  · by_cases c1 : (r == n)=true
    · rw [if_pos c1]
      have : r=n:=by simpa using c1
      exact ⟨hp,a,by show r≤n; omega,u⟩
    · rw [if_neg c1]
      have rn : r≠n:=by simpa using c1
      have lst : lt (gA p r) (gA p (r - 1))=true:=by
        rcases e with e | e
        · exact absurd (by omega) rn
        · exact e
      have hs : r≤p.size:=by rw [hp.size]; omega
      by_cases c2 : r > 1
      · rw [if_pos c2]
        refine ⟨hp.below h0 0,hp.below h0 (r - 1),?_⟩
        by_cases c3 : lt (gA p 0) (gA p (r - 1))=true
        · show okW n lt _ (if lt (gA p 0) (gA p (r - 1))=true then KasT.ret (r,p) else kas_descPart r n (kas_rev p 0 r))
          rw [if_pos c3]
          exact ⟨hp,a,by show r≤n; omega,u⟩
        · show okW n lt _ (if lt (gA p 0) (gA p (r - 1))=true then KasT.ret (r,p) else kas_descPart r n (kas_rev p 0 r))
          rw [if_neg c3]
          have c3' : lt (gA p 0) (gA p (r - 1))=false:=by simpa using c3
          refine ok_descPart O h0 (hp.rev 0 r) (by omega) (down_succ O ?_ a ?_)
          · intro i j hij hj
            rw [gA_rev hs,gA_rev hs,if_pos ⟨Nat.zero_le _,hj⟩,if_pos ⟨Nat.zero_le _,by omega⟩]
            exact u _ _ (by omega) (by omega)
          · rw [gA_rev hs,gA_rev hs,if_neg (by omega),if_pos ⟨Nat.zero_le _,by omega⟩]
            have e0 : 0 + r - 1 - (r - 1)=0:=by omega
            rw [e0]
            exact O.tr _ _ _ (O.asy _ _ lst) c3'
      · rw [if_neg c2]
        have r1 : r=1:=by omega
        subst r1
        refine ok_descPart O h0 hp (by omega) (down_succ O ?_ (Nat.le_refl _) (O.asy _ _ lst))
        intro i j hij hj
        have : i=j:=by omega
        subst this
        exact O.irr _
theorem ok_place (h0 : 0 < n) {p : Array Nat} {k : Nat} (hp : PermN n p) (u : Up lt p k) : ∀ (f l r : Nat),l≤r→r≤k→r - l≤f→(∀ i,i < l→leA lt (gA p i) (gA p k))→(∀ i,r≤i→i < k→leA lt (gA p k) (gA p i))→
    okW n lt (fun x=>x≤k∧(∀ i,i < x→leA lt (gA p i) (gA p k))∧∀ i,x≤i→i < k→leA lt (gA p k) (gA p i)) (kas_place p k f l r)
  | 0,l,r,h1,h2,hf,a,b=>⟨by omega,a,fun i x y=>b i (by omega) y⟩
  | f + 1,l,r,h1,h2,hf,a,b=>by
    show okW n lt _ (if l ≥ r then KasT.ret l else _)
    by_cases c : l ≥ r
    · rw [if_pos c]
      exact ⟨by omega,a,fun i x y=>b i (by omega) y⟩
    · rw [if_neg c]
      refine ⟨hp.below h0 k,hp.below h0 _,?_⟩
      show okW n lt _ (if lt (gA p k) (gA p ((l + r) / 2))=true then kas_place p k f l ((l + r) / 2) else kas_place p k f ((l + r) / 2 + 1) r)
      by_cases d : lt (gA p k) (gA p ((l + r) / 2))=true
      · rw [if_pos d]
        refine ok_place h0 hp u f l _ (by omega) (by omega) (by omega) a fun i x y=>?_
        exact O.tr _ _ _ (O.asy _ _ d) (u _ i x y)
      · rw [if_neg d]
        have d' : lt (gA p k) (gA p ((l + r) / 2))=false:=by simpa using d
        refine ok_place h0 hp u f _ r (by omega) h2 (by omega) (fun i x=>?_) b
        exact O.tr _ _ _ (u i ((l + r) / 2) (by omega) (by omega)) d'
theorem ok_bin (h0 : 0 < n) : ∀ (f : Nat) (p : Array Nat) (k : Nat),PermN n p→f + k=n→Up lt p k→okW n lt (fun r=>PermN n r∧Up lt r n) (kas_bin f p k)
  | 0, p, k, hp, hk, u => ⟨hp, by have : k = n := by omega
                                  subst this; exact u⟩
  | f + 1,p,k,hp,hk,u=>by
    show okW n lt _ ((kas_place p k k 0 k).bind fun l=>kas_bin f (bubble p k (k - l)) (k + 1))
    refine okW_bind (okW_mono (fun l ⟨hl,a,b⟩=>?_) (ok_place O h0 hp u k 0 k (Nat.zero_le _) (Nat.le_refl _) (by omega) (fun i x=>by omega) fun i x y=>by omega))
    refine ok_bin h0 f _ (k + 1) (hp.bub _ _) (by omega) ?_
    have hs : k < p.size:=by rw [hp.size]; omega
    have g:=gA_bub (p:=p) (src:=k) (d:=k - l) hs (by omega)
    have e : k - (k - l)=l:=by omega
    rw [e] at g
    intro i j hij hj
    rw [g i,g j]
    by_cases ci : i=l
    · rw [if_pos ci]
      by_cases cj : j=l
      · rw [if_pos cj]; exact O.irr _
      · rw [if_neg cj,if_pos ⟨by omega,by omega⟩]
        exact b _ (by omega) (by omega)
    · rw [if_neg ci]
      by_cases cj : j=l
      · rw [if_pos cj,if_neg (by omega)]
        exact a i (by omega)
      · rw [if_neg cj]
        by_cases di : l < i∧i≤k
        · rw [if_pos di,if_pos ⟨by omega,by omega⟩]
          exact u _ _ (by omega) (by omega)
        · rw [if_neg di]
          by_cases dj : l < j∧j≤k
          · rw [if_pos dj]
            exact u _ _ (by omega) (by omega)
          · rw [if_neg dj]
            exact u _ _ hij (by omega)
theorem ok_sort (h2 : 2≤n) : okW n lt (fun p=>PermN n p∧Up lt p n) (kas_sort n):=by
  unfold kas_sort
  have h0 : 0 < n:=by omega
  refine okW_bind (okW_mono (fun r ⟨a,b,c,u⟩=>?_) (ok_count O h2 (p:=List.toArray (List.range n)) (by unfold PermN; simp)))
  have e : max r.1 1=r.1:=by omega
  rw [e]
  by_cases d : r.1 < n
  · rw [if_pos d]
    exact ok_bin O h0 (n - r.1) r.2 r.1 a (by omega) u
  · rw [if_neg d]
    have : r.1=n:=by omega
    rw [this] at u
    exact ⟨a,u⟩
end
end L2
namespace L2
open PySem PySem.Spec PyProof.Rows
section
variable {X : Cx} {a b e : Expr} {es : List Expr} {pos : Pos}
end
end L2
namespace L2
open PySem PySem.Spec PyProof.Rows
theorem pe_glI {X : Cx} {x : Str} {v : Int} {pos : Pos} (hg : Gl X x) (hm : ∃ t,X.mg x=some (.int v t)) (hd : (x == ("__debug__" : Str))=false:=by decide) : PE X (.Name x pos) (tC (.int v)):=by
  obtain ⟨t,h⟩:=hm
  exact pe_glob hg h ⟨_,rfl⟩ hd
abbrev inB (v hi : Int) : Prop:=1≤v∧v≤hi
def rowBad : List Int→Option Nat
  | [d,c]=>if inB d 999 then if inB c 10000000000 then none else some 1 else some 0
  | [d,c,u]=>if inB d 999 then if inB c 10000000000 then if inB u 1000000 then none else some 2 else some 1 else some 0
  | _=>none
def rowsBad (rs : List (List Int)) : Option Nat:=rs.findSome? rowBad
theorem rowsBad_take {rs : List (List Int)} {i : Nat} {r : List Int} (h : rowsBad (rs.take i)=none) (e : rs[i]? = some r) (b : rowBad r=none) : rowsBad (rs.take (i + 1))=none:=by
  obtain ⟨hi,e'⟩:=List.getElem?_eq_some_iff.mp e
  unfold rowsBad at *
  rw [List.take_succ_eq_append_getElem hi,List.findSome?_append,h,e']
  simp [b]
theorem rowsBad_hit {rs : List (List Int)} {i j : Nat} {r : List Int} (h : rowsBad (rs.take i)=none) (e : rs[i]? = some r) (b : rowBad r=some j) : rowsBad rs=some j:=by
  obtain ⟨hi,e'⟩:=List.getElem?_eq_some_iff.mp e
  unfold rowsBad at *
  have : rs=rs.take i ++ r :: rs.drop (i + 1):=by rw [← e',← List.drop_eq_getElem_cons hi,List.take_append_drop]
  rw [this,List.findSome?_append,h]
  simp [b]
theorem take_next {rs : List (List Int)} {i : Nat} {r : List Int} (e : rs[i]? = some r) : rs.take i ++ [r]=rs.take (i + 1):=by
  obtain ⟨hi,e'⟩:=List.getElem?_eq_some_iff.mp e
  rw [List.take_succ_eq_append_getElem hi,e']
def spIn (c : Addr) (hi : Int) : Sp:=fun vs H Q E=>∃ v : Int,vs=[.int v]∧(inB v hi→Q .non H)∧(¬ inB v hi→E (.ref c) none H)
def spIsDay : Sp:=fun vs H Q _=>∃ d : Int,vs=[.int d]∧Q (.bl (decide (inB d 999))) H
def spMany (cR : Addr) : Sp:=fun vs H Q E=>∃ a xs,vs=[.ref a]∧H a=some (.lst xs)∧(xs.length≤30→Q .non H)∧(30 < xs.length→E (.ref cR) none H)
def spChk (cR : Addr) (cls : Nat→Addr) (w : Nat) : Sp:=fun vs H Q E=>∃ a rs,vs=[.ref a]∧Rows H a rs∧(∀ r∈rs,r.length=w)∧(30 < rs.length→E (.ref cR) none H)∧
  (rs.length≤30→∀ j,rowsBad rs=some j→∀ H',Same H H'→E (.ref (cls j)) none H')∧(rs.length≤30→rowsBad rs=none→∀ l H',H l=none→Same H H'→Rows H' l rs→Q (.ref l) H')
theorem len2 {r : List Int} (h : r.length=2) : ∃ d c,r=[d,c]:=match r,h with | [d,c],_=>⟨d,c,rfl⟩
theorem len3 {r : List Int} (h : r.length=3) : ∃ d c u,r=[d,c,u]:=match r,h with | [d,c,u],_=>⟨d,c,u,rfl⟩
theorem chain_in {v hi : Int} {R : Bool→Prop} (h : R (decide (inB v hi))) : ∃ i j : Int,V.int 1 = .int i∧V.int v = .int j∧∃ b,V.bl (decide (i≤j)) = .bl b∧if b=true then ∃ i' j' : Int,V.int v = .int i'∧V.int hi = .int j'∧∃ b',V.bl (decide (i'≤j')) = .bl b'∧R b' else ∃ b',V.bl false = .bl b'∧R b':=by
  refine ⟨_,_,rfl,rfl,_,rfl,?_⟩
  refine ite2 (fun c=>?_) (fun c=>?_)
  · have c1 : (1 : Int)≤v:=of_decide_eq_true c
    refine ⟨_,_,rfl,rfl,_,rfl,?_⟩
    have e : decide (v≤hi)=decide (inB v hi):=by by_cases z : v≤hi <;> simp [z,c1,inB]
    rw [e]; exact h
  · have c1 : ¬ (1 : Int)≤v:=of_decide_eq_false (Bool.eq_false_iff.mpr c)
    have e : false=decide (inB v hi):=by simp [inB,c1]
    exact ⟨_,rfl,by rw [e]; exact h⟩
end L2
namespace L2
open PySem PySem.Spec PyProof.Rows
theorem all_true (n : Nat) : (List.range n).all (fun _=>true)=true:=by simp
theorem cut_to (r : List Int) {k : Int} (h0 : 0≤k) (h1 : k < r.length) : cutV (r.map V.int) none (some k)=(r.take k.toNat).map V.int∧¬ (HT.sIx (r.map V.int).length 0 none=0∧HT.sIx (r.map V.int).length (r.map V.int).length (some k)=(r.map V.int).length):=by
  have e : HT.sIx (r.map V.int).length (r.map V.int).length (some k)=k.toNat:=by
    show (if k < 0 then (k + ((r.map V.int).length : Int)).toNat else min k.toNat (r.map V.int).length)=k.toNat
    rw [if_neg (by omega),List.length_map]
    omega
  refine ⟨?_,fun z=>by rw [e,List.length_map] at z; omega⟩
  unfold cutV
  rw [e]
  show ((r.map V.int).drop 0).take (k.toNat - 0)=_
  rw [List.drop_zero,Nat.sub_zero,← List.map_take]
theorem cut_from (r : List Int) {k : Int} (h0 : 1≤k) (h1 : k≤r.length) : cutV (r.map V.int) (some k) none=(r.drop k.toNat).map V.int∧¬ (HT.sIx (r.map V.int).length 0 (some k)=0∧HT.sIx (r.map V.int).length (r.map V.int).length none=(r.map V.int).length):=by
  have e : HT.sIx (r.map V.int).length 0 (some k)=k.toNat:=by
    show (if k < 0 then (k + ((r.map V.int).length : Int)).toNat else min k.toNat (r.map V.int).length)=k.toNat
    rw [if_neg (by omega),List.length_map]
    omega
  refine ⟨?_,fun z=>by rw [e] at z; omega⟩
  unfold cutV
  rw [e]
  show ((r.map V.int).drop k.toNat).take ((r.map V.int).length - k.toNat)=_
  rw [← List.map_drop,List.take_of_length_le (by rw [List.length_map,List.length_map,List.length_drop]; omega)]
end L2
namespace L2
open PySem PySem.Spec PySem.W PyProof.Rows
theorem ints_of : ∀ {ns : List Int} {us : List Value},Vals (ns.map V.int) us→IntsAre us ns
  | [],_,.nil=>.nil
  | n :: r,_,.cons x t=>by
    obtain ⟨k,rfl⟩:=x
    exact .cons n k (ints_of t)
def lexB : List Int→List Int→Bool
  | a :: as,b :: bs=>if a=b then lexB as bs else decide (a < b)
  | [],_ :: _=>true
  | _,[]=>false
theorem lex_irr : ∀ a : List Int,lexB a a=false
  | []=>rfl
  | a :: as=>by show (if a=a then lexB as as else _)=false; rw [if_pos rfl]; exact lex_irr as
theorem lex_asy : ∀ {a b : List Int},lexB a b=true→lexB b a=false
  | [],[],h=>by cases h
  | [],b :: bs,_=>rfl
  | a :: as,[],h=>by cases h
  | a :: as,b :: bs,h=>by
    show (if b=a then lexB bs as else decide (b < a))=false
    have h' : (if a=b then lexB as bs else decide (a < b))=true:=h
    by_cases e : a=b
    · rw [if_pos e] at h'
      rw [if_pos e.symm]
      exact lex_asy h'
    · rw [if_neg e] at h'
      rw [if_neg (Ne.symm e)]
      have:=of_decide_eq_true h'
      exact decide_eq_false (by omega)
theorem lex_tr : ∀ {a b c : List Int},lexB b a=false→lexB c b=false→lexB c a=false
  | [],[],[],_,_=>rfl
  | [],[],_ :: _,_,_=>rfl
  | [],_ :: _,[],_,h=>by cases h
  | [],_ :: _,_ :: _,_,_=>rfl
  | _ :: _,[],_,h,_=>by cases h
  | _ :: _,_ :: _,[],_,h=>by cases h
  | a :: as,b :: bs,c :: cs,h,g=>by
    have h' : (if b=a then lexB bs as else decide (b < a))=false:=h
    have g' : (if c=b then lexB cs bs else decide (c < b))=false:=g
    show (if c=a then lexB cs as else decide (c < a))=false
    by_cases e1 : b=a
    · rw [if_pos e1] at h'
      subst e1
      by_cases e2 : c=b
      · rw [if_pos e2] at g'
        rw [if_pos e2]
        exact lex_tr h' g'
      · rw [if_neg e2] at g' ⊢
        exact g'
    · rw [if_neg e1] at h'
      have h1:=of_decide_eq_false h'
      by_cases e2 : c=b
      · subst e2
        rw [if_neg e1]
        exact h'
      · rw [if_neg e2] at g'
        have g1:=of_decide_eq_false g'
        rw [if_neg (by omega)]
        exact decide_eq_false (by omega)
def ltOf (rs : List (List Int)) (i j : Nat) : Bool:=lexB (rs.getD i []) (rs.getD j [])
theorem ordr_of (rs : List (List Int)) : Ordr (ltOf rs):=⟨fun _=>lex_irr _,fun _ _ _ a b=>lex_tr a b,fun _ _ a=>lex_asy a⟩
section
variable {prog : Program} {w : World} {A : Around} {E : Value→Shared→Prop} {s : Shared}
theorem katLex_ints {Q : Bool→Shared→Prop} : ∀ {xs ys : List Value} {as bs : List Int} (i : Nat),IntsAre xs as→IntsAre ys bs→as.length=bs.length→Q (lexB as bs) s→KatLex prog w A true false Q (xs.zip ys) i s
  | _,_,_,_,i,.nil,.nil,_,q=>q
  | _,_,_,_,i,.cons n t r,.cons m u r',hl,q=>by
    show KatLex prog w A true false Q ((Value.int n t,Value.int m u) :: _) i s
    refine kat_cons (wpAny_eqBool_int ?_)
    by_cases e : n=m
    · rw [show (n == m)=true by simpa using e]
      refine kat_yes (katLex_ints (i + 1) r r' (by simpa using hl) ?_)
      have q' : Q (if n=m then lexB _ _ else _) s:=q
      rw [if_pos e] at q'
      exact q'
    · rw [show (n == m)=false by simpa using e]
      refine kat_no ?_
      have q' : Q (if n=m then lexB _ _ else decide (n < m)) s:=q
      rw [if_neg e] at q'
      by_cases c : (true && i == 0)=true
      · rw [c]; exact oneLt_int q'
      · rw [Bool.eq_false_iff.mpr c]
        exact kat_one _ _ (lt_int q')
  | _,_,_,_,i,.nil,.cons _ _ _,hl,q=>by simp at hl
  | _,_,_,_,i,.cons _ _ _,.nil,hl,q=>by simp at hl
def TupsAt (h : Heap) (bs : List Addr) (rs : List (List Int)) : Prop:=bs.length=rs.length∧∀ (i : Nat) b r,bs[i]? = some b→rs[i]? = some r→∃ its : List Value,IsTup h b its.toArray∧IntsAre its r
theorem TupsAt.tail {h : Heap} {b : Addr} {bs : List Addr} {r : List Int} {rs : List (List Int)} (t : TupsAt h (b :: bs) (r :: rs)) : TupsAt h bs rs:=⟨by simpa using t.1,fun i c q e1 e2=>t.2 (i + 1) c q (by simpa using e1) (by simpa using e2)⟩
theorem TupsAt.kat {h : Heap} : ∀ {bs : List Addr} {rs : List (List Int)},TupsAt h bs rs→(∀ r∈rs,r≠[])→∃ fs : List Value,fs.length=bs.length∧KatTups h (bs.map Value.ref) fs∧∀ v∈fs,∃ n t,v = .int n t
  | [],[],_,_=>⟨[],rfl,trivial,fun v hv=>by cases hv⟩
  | [],_ :: _,t,_=>by have:=t.1; simp at this
  | _ :: _,[],t,_=>by have:=t.1; simp at this
  | b :: bs,r :: rs,t,hn=>by
    obtain ⟨fs,h1,h2,h3⟩:=t.tail.kat fun q hq=>hn q (.tail _ hq)
    obtain ⟨its,⟨o,ho,hc,n,hd⟩,ia⟩:=t.2 0 b r rfl rfl
    cases ia with
    | nil=>exact absurd rfl (hn [] (.head _))
    | cons m k ia=>
      refine ⟨.int m k :: fs,by simp [h1],⟨⟨b,o,_,n,rfl,ho,hc,hd,rfl⟩,h2⟩,fun v hv=>?_⟩
      rcases List.mem_cons.mp hv with rfl | hv
      · exact ⟨m,k,rfl⟩
      · exact h3 v hv
theorem TupsAt.ask {bs : List Addr} {rs : List (List Int)} {wd : Nat} (t : TupsAt s.heap bs rs) (hw : ∀ r∈rs,r.length=wd) (i j : Nat) (C : Bool→Shared→Prop) (hi : i < bs.length) (hj : j < bs.length) (q : C (ltOf rs i j) s) : kas_ask prog w A (tuples' true) (bs.map Value.ref) i j C s:=by
  have hi' : i < rs.length:=by rw [← t.1]; exact hi
  have hj' : j < rs.length:=by rw [← t.1]; exact hj
  obtain ⟨xs,⟨o,ho,_,n,hd⟩,ia⟩:=t.2 i bs[i] rs[i] (by simp [hi]) (by simp [hi'])
  obtain ⟨ys,⟨o',ho',_,n',hd'⟩,ib⟩:=t.2 j bs[j] rs[j] (by simp [hj]) (by simp [hj'])
  unfold kas_ask
  rw [show (bs.map Value.ref).getD i Value.none = .ref bs[i] by simp [hi],show (bs.map Value.ref).getD j Value.none = .ref bs[j] by simp [hj]]
  have la : xs.length=wd:=by rw [IntsAre.length ia]; exact hw _ (List.getElem_mem hi')
  have lb : ys.length=wd:=by rw [IntsAre.length ib]; exact hw _ (List.getElem_mem hj')
  refine kat_lt ho hd ho' hd' ?_
  rw [show decide (xs.toArray.size < ys.toArray.size)=false by simp [la,lb]]
  have q' : C (lexB rs[i] rs[j]) s:=by
    unfold ltOf at q
    rw [show rs.getD i []=rs[i] by simp [hi'],show rs.getD j []=rs[j] by simp [hj']] at q
    exact q
  exact katLex_ints 0 ia ib (by rw [hw _ (List.getElem_mem hi'),hw _ (List.getElem_mem hj')]) q'
theorem up_small {lt : Nat→Nat→Bool} (O : Ordr lt) {p : Array Nat} {m : Nat} (h : m < 2) : Up lt p m:=fun i j hij hj=>by
  have : i=j:=by omega
  subst this
  exact O.irr _
end
section
variable {X : Cx}
def rSum (K : PySem.W.Frag) : List V→Hp→VK→Prop:=fun xs H Q=>∃ (p : Addr) (ns : List Int),xs=[.ref p]∧SqL K H p (ns.map V.int)∧Q (.int ns.sum) H
theorem call_sumI (hc : X.calm=true) : CallR X (.builtin "sum") (rSum X.K):=by
  intro pins s σ H xs us Q I r h
  obtain ⟨p,ns,rfl,hq,q⟩:=h
  obtain ⟨u,rfl,ru⟩:=r.one
  cases ru
  obtain ⟨its,rv,pl,hz⟩:=I.list hq
  have ia:=ints_of rv
  obtain ⟨ys,ey⟩:=ia.allInts.items
  have hl:=pl.isList
  have e2 : (numsOf its.toArray.toList).sum=ns.sum:=by rw [show its.toArray.toList=its by simp,ia.numsOf]
  rw [ey] at hl e2
  refine sum_intListG (I.ok.hd hc) hl fun h' tk t' kk=>⟨.int ns.sum,H,I.kept (t':=tk) kk,⟨t',?_⟩,q⟩
  rw [nums_intItems] at e2
  rw [preSum_eq,List.take_of_length_le (by simp),e2]
end
end L2
namespace L2
open PySem PySem.Spec PySem.W PyProof.Rows
section
variable {X : Cx}
def rRng1 : List V→Hp→VK→Prop:=fun xs H Q=>∃ n : Int,xs=[.int n]∧∀ l,H l=none→Q (.ref l) (upd H l (.rng 0 n))
theorem call_rng1 : CallR X (.type "range") rRng1:=by
  intro pins s σ H xs us Q I r h
  obtain ⟨n,rfl,q⟩:=h
  obtain ⟨u,rfl,ru⟩:=r.one
  obtain ⟨t,rfl⟩:=ru
  refine call_range_1 ?_
  exact ⟨.ref _,_,I.laid (t':=s.toks + 1 + 1) (a:=s.heap.objs.size) (o:=.rng 0 n) (fun b o e=>Heap.get?_push_of_some _ e) (Nat.le_refl _) ⟨_,_,_,Heap.get?_push_size _ rfl⟩,rfl,q _ (I.hok.fresh (Nat.le_refl _))⟩
def uptoN (n : Nat) : List Int:=(List.range n).map fun i=>((i : Nat) : Int)
theorem uptoN_length (n : Nat) : (uptoN n).length=n:=by simp [uptoN]
def rListRng : List V→Hp→VK→Prop:=fun xs H Q=>∃ (p : Addr) (n : Nat),xs=[.ref p]∧H p=some (.rng 0 n)∧n≤1000∧∀ l,H l=none→Q (.ref l) (upd H l (.lst ((uptoN n).map V.int)))
theorem items_rng {acc : Array Value} {n : Nat} (h : ItemsOf (fun i v=>∃ t,v=Value.int (0 + (i : Int) * 1) t) acc n) : Vals ((uptoN n).map V.int) acc.toList:=by
  obtain ⟨h1,h2⟩:=h
  have go : ∀ (l : List Value) (k : Nat),(∀ (j : Nat) v,l[j]? = some v→∃ t,v=Value.int ((k + j : Nat) : Int) t)→Vals ((List.range' k l.length).map fun i=>V.int ((i : Nat) : Int)) l:=by
    intro l
    induction l with
    | nil=>intro k _; exact .nil
    | cons a r ih=>
      intro k hl
      rw [List.length_cons,List.range'_succ,List.map_cons]
      obtain ⟨t,e⟩:=hl 0 a rfl
      refine .cons ⟨t,?_⟩ (ih (k + 1) fun j v ev=>?_)
      · rw [e,Nat.add_zero]
      · obtain ⟨t,e⟩:=hl (j + 1) v (by simpa using ev)
        exact ⟨t,by rw [e]; congr 1; omega⟩
  have:=go acc.toList 0 fun j v ev=>by
    obtain ⟨t,e⟩:=h2 j v (by simpa using ev)
    exact ⟨t,by rw [e]; congr 1; omega⟩
  rw [Array.length_toList,h1] at this
  unfold uptoN
  rw [List.map_map,List.range_eq_range']
  exact this
theorem call_list_rng (hc : X.calm=true) : CallR X (.type "list") rListRng:=by
  intro pins s σ H xs us Q I r h
  obtain ⟨p,n,rfl,hp,hn,q⟩:=h
  obtain ⟨u,rfl,ru⟩:=r.one
  cases ru
  obtain ⟨t1,t2,t3,ho⟩:=(show ObjOk X.prog X.w H s.heap p (.rng 0 n) from I.hok p _ hp)
  refine call_list_range (a:=0) (b:=(n : Int)) (c:=1) (n:=n) (I.ok.hd hc) ho (small_one (by decide) (by decide) (by omega) (by omega)) ?_ (by omega) fun h' tk acc' c' kk e it=>?_
  · rw [rangeSize_one]
    split <;> omega
  · refine ⟨.ref _,_,I.laid (t':=tk) (a:=s.heap.objs.size) (o:=.lst ((uptoN n).map V.int)) kk (Nat.le_refl _) ⟨?_,acc'.toList,c',items_rng it,by simpa using e⟩,rfl,q _ (I.hok.fresh (Nat.le_refl _))⟩
    rw [List.length_map,uptoN_length,sizeLine_eq]; omega
end
end L2
namespace L2
open PySem PySem.Spec PySem.W PyProof.Rows
theorem uptoN_succ (n : Nat) : uptoN (n + 1)=uptoN n ++ [((n : Nat) : Int)]:=by
  unfold uptoN
  rw [List.range_succ,List.map_append]; rfl
theorem uptoN_mem {n : Nat} {i : Int} : i∈uptoN n↔0≤i∧i < n:=by
  unfold uptoN
  rw [List.mem_map]
  constructor
  · rintro ⟨k,hk,rfl⟩
    have:=List.mem_range.mp hk
    omega
  · intro h
    exact ⟨i.toNat,List.mem_range.mpr (by omega),by omega⟩
abbrev colAt (rs : List (List Int)) (k : Nat) (i : Int) : Int:=(rs.getD i.toNat []).getD k 0
def keyE (rs : List (List Int)) (i : Int) : List Int:=[colAt rs 0 i,i]
def keyD (rs : List (List Int)) (i : Int) : List Int:=[-(colAt rs 2 i),colAt rs 0 i,i]
def Ordered (key : Int→List Int) (n : Nat) (os : List Int) : Prop:=os.Perm (uptoN n)∧os.Pairwise (fun i j=>lexB (key j) (key i)=false)
def okE (r : List Int) : Prop:=1≤r.length
def okD (r : List Int) : Prop:=r.length=3
theorem row_at {rs : List (List Int)} {i : Nat} {r : List Int} (e : rs[i]? = some r) : rs.getD ((i : Nat) : Int).toNat []=r:=by
  rw [Int.toNat_natCast,List.getD_eq_getElem?_getD,e]; rfl
end L2
namespace L2
open PySem PySem.Spec PySem.W PyProof.Rows
def GoodTo (rs : List (List Int)) (ts : List Int) (i : Nat) : Prop:=∀ (j : Nat) r u,j < i→rs[j]? = some r→ts[j]? = some u→0≤u∧u≤r.getD 1 0
def TakenOk (rs : List (List Int)) (ts : List Int) : Prop:=ts.length=rs.length∧GoodTo rs ts rs.length
def dutyOk (r : List Int) : Prop:=r.length=3∧-(2 ^ 64) < r.getD 2 0∧r.getD 2 0 < 2 ^ 64
def IntsAt (H : Hp) (b : Addr) (ts : List Int) : Prop:=H b=some (.lst (ts.map V.int))
theorem ints_at {os : List Int} {i : Nat} {x : V} (e : (os.map V.int)[i]? = some x) : ∃ v,x = .int v∧os[i]? = some v:=by
  rw [List.getElem?_map] at e
  cases q : os[i]? with
  | none=>rw [q] at e; cases e
  | some v=>rw [q] at e; exact ⟨v,(Option.some.inj e).symm,rfl⟩
theorem atI_ints {os : List Int} {r : Int} {i : Nat} (hr : r=(i : Int)) (h : i < os.length) : atI (os.map V.int) r=some (.int os[i]):=by
  subst hr
  exact atI_nat (by rw [List.getElem?_map,List.getElem?_eq_getElem h]; rfl)
end L2
namespace L2
open PySem PySem.Spec PySem.W PyProof.Rows
def vbm : List Value:=[.type "ValueError",.type "Exception",.type "BaseException",.type "object"]
theorem passN {P : Program} {w : World} {X : Cx} : Passes (CXE P w) X E0:=fun _ _ _ _ _ _ _ h=>by
  obtain ⟨_,_,_,_,_,_,_,_,h,_⟩:=h
  exact h.elim
abbrev okTerm (t : Int) : Prop:=0≤t∧t≤400
def spTerm (c : Addr) : Sp:=fun vs H Q E=>∃ v : Int,vs=[.int v]∧(okTerm v→Q .non H)∧(¬ okTerm v→E (.ref c) none H)
theorem chain_lo {lo v hi : Int} {R : Bool→Prop} (h : R (decide (lo≤v∧v≤hi))) : ∃ i j : Int,V.int lo = .int i∧V.int v = .int j∧∃ b,V.bl (decide (i≤j)) = .bl b∧if b=true then ∃ i' j' : Int,V.int v = .int i'∧V.int hi = .int j'∧∃ b',V.bl (decide (i'≤j')) = .bl b'∧R b' else ∃ b',V.bl false = .bl b'∧R b':=by
  refine ⟨_,_,rfl,rfl,_,rfl,?_⟩
  refine ite2 (fun c=>?_) (fun c=>?_)
  · have c1 : lo≤v:=of_decide_eq_true c
    refine ⟨_,_,rfl,rfl,_,rfl,?_⟩
    have e : decide (v≤hi)=decide (lo≤v∧v≤hi):=by by_cases z : v≤hi <;> simp [z,c1]
    rw [e]; exact h
  · have c1 : ¬ lo≤v:=of_decide_eq_false (Bool.eq_false_iff.mpr c)
    have e : false=decide (lo≤v∧v≤hi):=by simp [c1]
    exact ⟨_,rfl,by rw [e]; exact h⟩
def clCol (cl : Nat→Addr) : Nat→Addr
  | 0=>cl 1
  | 1=>cl 3
  | _=>cl 4
def goesB (tm f l : Int) (r : List Int) : Bool:=decide (f≤r.getD 0 0∧r.getD 0 0≤l + tm)
def goingOf (rs : List (List Int)) (tm f l : Int) : Int:=((rs.filter (goesB tm f l)).map fun r=>r.getD 1 0).sum
theorem filter_take {α : Type} {rs : List α} {i : Nat} {r : α} (p : α→Bool) (e : rs[i]? = some r) : (rs.take (i + 1)).filter p=(rs.take i).filter p ++ if p r=true then [r] else []:=by
  obtain ⟨hi,e'⟩:=List.getElem?_eq_some_iff.mp e
  rw [List.take_succ_eq_append_getElem hi,List.filter_append,e']
  congr 1
  by_cases z : p r=true
  · rw [if_pos z,List.filter_cons_of_pos z]; rfl
  · rw [if_neg z,List.filter_cons_of_neg z]; rfl
def rGetN (K : PySem.W.Frag) : V→V→Hp→VK→Prop:=fun x y H Q=>∃ p xs i v,x = .ref p∧y = .int i∧SqL K H p xs∧0≤i∧xs[i.toNat]? = some v∧Q v H
theorem get_list {X : Cx} : PGet X (rGetN X.K):=by
  intro pins s σ H o i ov iv Q I ro ri h
  obtain ⟨p,xs,k,v,rfl,rfl,hS,h0,hv,q⟩:=h
  cases ro
  obtain ⟨t,rfl⟩:=ri
  obtain ⟨its,r,pl,hz⟩:=I.list hS
  obtain ⟨w,ew,rw'⟩:=r.get hv
  have hk:=(List.getElem?_eq_some_iff.mp hv).1
  have hn:=line63
  exact wpAny_getItem_list pl.isList h0 (by omega) (by simpa using ew) ⟨v,H,I,rw',q⟩
def sumAt (ps : List (List Int)) (j : Nat) : Int:=((ps.filter fun r=>decide (r.getD 0 0=(j : Int))).map fun r=>r.getD 1 0).sum
def summedOf (n : Nat) (ps : List (List Int)) : List Int:=(List.range n).map (sumAt ps)
theorem summed_len {n : Nat} {ps : List (List Int)} : (summedOf n ps).length=n:=by unfold summedOf; rw [List.length_map,List.length_range]
theorem summed_nil {n : Nat} : summedOf n []=List.replicate n 0:=by
  unfold summedOf
  refine List.ext_getElem (by simp) fun i h1 h2=>?_
  rw [List.getElem_map,List.getElem_replicate]; rfl
theorem sumAt_take {ps : List (List Int)} {i : Nat} {a c : Int} (e : ps[i]? = some [a,c]) (j : Nat) : sumAt (ps.take (i + 1)) j=if a=(j : Int) then sumAt (ps.take i) j + c else sumAt (ps.take i) j:=by
  unfold sumAt
  rw [filter_take _ e]
  by_cases z : a=(j : Int)
  · rw [if_pos z,if_pos (by simpa using z),List.map_append,List.sum_append]
    show _ + (c + 0)=_
    omega
  · rw [if_neg z,if_neg (by simpa using z),List.append_nil]
theorem summed_take {n : Nat} {ps : List (List Int)} {i : Nat} {a c : Int} (e : ps[i]? = some [a,c]) (h0 : 0≤a) (h1 : a < (n : Int)) : summedOf n (ps.take (i + 1))=(summedOf n (ps.take i)).set a.toNat (sumAt (ps.take i) a.toNat + c):=by
  refine List.ext_getElem (by rw [List.length_set,summed_len,summed_len]) fun j h1' h2'=>?_
  have hj : j < n:=by rw [summed_len] at h1'; exact h1'
  have g1 : ∀ (qs : List (List Int)) (hh : j < (summedOf n qs).length),(summedOf n qs)[j]=sumAt qs j:=fun qs hh=>by simp [summedOf]
  rw [g1,List.getElem_set]
  by_cases z : a.toNat=j
  · rw [if_pos z,sumAt_take e,if_pos (by omega),z]
  · rw [if_neg z,g1,sumAt_take e,if_neg (by omega)]
theorem summed_get {n : Nat} {ps : List (List Int)} {a : Int} (h0 : 0≤a) (h1 : a < (n : Int)) : (summedOf n ps)[a.toNat]? = some (sumAt ps a.toNat):=by
  unfold summedOf
  rw [List.getElem?_map,List.getElem?_range (by omega)]; rfl
def spSummed : Sp:=fun vs H Q _=>∃ (n : Int) (p : Addr) (ps : List (List Int)),vs=[.int n,.ref p]∧0≤n∧n≤100∧Rows H p ps∧(∀ r∈ps,r.length=2∧0≤r.getD 0 0∧r.getD 0 0 < n)∧∀ l H',H l=none→Same H H'→IntsAt H' l (summedOf n.toNat ps)→Q (.ref l) H'
def byLots (ts : List (List Int)) : List (List Int):=ts.map fun r=>[r.getD 0 0,r.getD 2 0]
theorem cmp_nil {K : PySem.W.Frag} {H : Hp} {l e : Addr} {xs : List V} {neg : Bool} {Q : VK} (hl : H l=some (.lst xs)) (he : H e=some (.lst [])) (q : Q (.bl (neg != decide (xs.length=0))) H) : rCmpL K neg (.ref l) (.ref e) H Q:=by
  refine ⟨l,e,xs,[],rfl,rfl,SqL.of hl,SqL.of he,?_⟩
  by_cases z : xs.length=0
  · refine .inr ⟨z,0,fun _=>true,by decide,fun j x y e1 e2=>(by cases e2),?_⟩
    rw [z] at q ⊢
    exact q
  · refine .inl ⟨z,?_⟩
    rw [decide_eq_false z] at q
    cases neg <;> exact q
end L2
namespace K14
open PySem L2
structure Txt (K : PySem.W.Frag) (mg : Str→Option Value) (cl : Nat→Addr) : Prop where
  FIRST_DAY : ∃ t,mg "FIRST_DAY" = some (.int 1 t)
  LAST_DAY : ∃ t,mg "LAST_DAY" = some (.int 999 t)
  MOST_TERM : ∃ t,mg "MOST_TERM" = some (.int 400 t)
  MOST_ROWS : ∃ t,mg "MOST_ROWS" = some (.int 30 t)
  MOST_COUNT : ∃ t,mg "MOST_COUNT" = some (.int 10000000000 t)
  MOST_DUTY : ∃ t,mg "MOST_DUTY" = some (.int 1000000 t)
  gCustomsError : mg "CustomsError" = some (.ref (cl 0))
  gBadDay : mg "BadDay" = some (.ref (cl 1))
  gBadTerm : mg "BadTerm" = some (.ref (cl 2))
  gBadCount : mg "BadCount" = some (.ref (cl 3))
  gBadDuty : mg "BadDuty" = some (.ref (cl 4))
  gBadRows : mg "BadRows" = some (.ref (cl 5))
  eBadDay : PySem.W.excIn K (cl 1) vbm "ValueError.__new__" = true
  eBadTerm : PySem.W.excIn K (cl 2) vbm "ValueError.__new__" = true
  eBadCount : PySem.W.excIn K (cl 3) vbm "ValueError.__new__" = true
  eBadDuty : PySem.W.excIn K (cl 4) vbm "ValueError.__new__" = true
  eBadRows : PySem.W.excIn K (cl 5) vbm "ValueError.__new__" = true
abbrev s_is_day : Stmt:=top 11
abbrev n_is_day : List Str:=["day"]
abbrev p_is_day : List Str:=["day"]
theorem sc_is_day : FnScope n_is_day p_is_day (defScope s_is_day):=⟨rfl,rfl,rfl,by decide +kernel,rfl,by decide +kernel,by decide +kernel⟩
abbrev s_check_day : Stmt:=top 12
abbrev n_check_day : List Str:=["day"]
abbrev p_check_day : List Str:=["day"]
theorem sc_check_day : FnScope n_check_day p_check_day (defScope s_check_day):=⟨rfl,rfl,rfl,by decide +kernel,rfl,by decide +kernel,by decide +kernel⟩
abbrev s_check_term : Stmt:=top 13
abbrev n_check_term : List Str:=["term"]
abbrev p_check_term : List Str:=["term"]
theorem sc_check_term : FnScope n_check_term p_check_term (defScope s_check_term):=⟨rfl,rfl,rfl,by decide +kernel,rfl,by decide +kernel,by decide +kernel⟩
abbrev s_check_many : Stmt:=top 19
abbrev n_check_many : List Str:=["rows"]
abbrev p_check_many : List Str:=["rows"]
theorem sc_check_many : FnScope n_check_many p_check_many (defScope s_check_many):=⟨rfl,rfl,rfl,by decide +kernel,rfl,by decide +kernel,by decide +kernel⟩
abbrev s_check_count : Stmt:=top 20
abbrev n_check_count : List Str:=["count"]
abbrev p_check_count : List Str:=["count"]
theorem sc_check_count : FnScope n_check_count p_check_count (defScope s_check_count):=⟨rfl,rfl,rfl,by decide +kernel,rfl,by decide +kernel,by decide +kernel⟩
abbrev s_check_duty : Stmt:=top 21
abbrev n_check_duty : List Str:=["duty"]
abbrev p_check_duty : List Str:=["duty"]
theorem sc_check_duty : FnScope n_check_duty p_check_duty (defScope s_check_duty):=⟨rfl,rfl,rfl,by decide +kernel,rfl,by decide +kernel,by decide +kernel⟩
abbrev s_checked_lots : Stmt:=top 22
abbrev n_checked_lots : List Str:=["lots","told","day","count","duty"]
abbrev p_checked_lots : List Str:=["lots"]
theorem sc_checked_lots : FnScope n_checked_lots p_checked_lots (defScope s_checked_lots):=⟨rfl,rfl,rfl,by decide +kernel,rfl,by decide +kernel,by decide +kernel⟩
abbrev s_checked_outs : Stmt:=top 23
abbrev n_checked_outs : List Str:=["outs","told","day","count"]
abbrev p_checked_outs : List Str:=["outs"]
theorem sc_checked_outs : FnScope n_checked_outs p_checked_outs (defScope s_checked_outs):=⟨rfl,rfl,rfl,by decide +kernel,rfl,by decide +kernel,by decide +kernel⟩
abbrev s_summed : Stmt:=top 28
abbrev n_summed : List Str:=["many","pairs","told","at","count"]
abbrev p_summed : List Str:=["many","pairs"]
theorem sc_summed : FnScope n_summed p_summed (defScope s_summed):=⟨rfl,rfl,rfl,by decide +kernel,rfl,by decide +kernel,by decide +kernel⟩
section
variable {P : Program} {w : World} {K : PySem.W.Frag} {mg : Str→Option Value} {base : Heap} {f : Addr} {fd : FuncData} {cl : Nat→Addr} (T : Txt K mg cl) (B : Bn mg)
include T B
theorem ok_is_day (F : Fun K "is_day" "is_day" s_is_day f fd) : FnOk P w K mg base CX0 1 f fd p_is_day spIsDay:=by
  refine F.ok sc_is_day (fun vs H Q E h=>?_) (fun cdv A outer s H vs Q E hr h=>?_)
  · obtain ⟨d,rfl,_⟩:=h; rfl
  obtain ⟨d,rfl,q⟩:=h
  refine ⟨_,(pss_one (ps_ret (pe_chain op_le op_le (pe_glI rfl T.FIRST_DAY) (pv 0) (pe_glI rfl T.LAST_DAY)))),?_⟩
  refine ⟨_,rfl,_,_,rfl,rfl,_,rfl,?_⟩
  refine ite2 (fun c=>?_) (fun c=>?_)
  · have c1 : (1 : Int)≤d:=of_decide_eq_true c
    refine ⟨_,_,rfl,rfl,?_⟩
    have e : decide (d≤999)=decide (inB d 999):=by by_cases z : d≤999 <;> simp [z,c1,inB]
    show Q (.bl (decide (d≤999))) H
    rw [e]; exact q
  · have c1 : ¬ (1 : Int)≤d:=of_decide_eq_false (Bool.eq_false_iff.mpr c)
    have e : false=decide (inB d 999):=by simp [inB,c1]
    show Q (.bl false) H
    rw [e]; exact q
theorem ok_check_day (G_is_day : Cal P w K mg base CX0 1 "is_day" p_is_day spIsDay) (F : Fun K "check_day" "check_day" s_check_day f fd) : FnOk P w K mg base (CXE P w) 2 f fd p_check_day (spIn (cl 1) 999):=by
  refine F.okE sc_check_day (fun vs H Q E h=>?_) (fun cdv A outer s H vs Q E hr h=>?_)
  · obtain ⟨d,rfl,_⟩:=h; rfl
  obtain ⟨d,rfl,q1,q2⟩:=h
  refine ⟨_,pss_one (ps_if (pt_not (pt_truth (pe_cal G_is_day hr rfl pass0 (pa_c (pv 0) pa_nil)) (fun _=>rfl))) (pss_one (ps_raise (E:=E) rfl T.gBadDay T.eBadDay PySem.F.excBase_ValueError rfl makesE (pa_c pe_str pa_nil))) pss_nil),?_⟩
  refine ⟨_,rfl,d,rfl,_,rfl,?_⟩
  by_cases c : inB d 999
  · rw [decide_eq_true c]
    exact iteF (q1 c)
  · rw [decide_eq_false c]
    exact iteT ⟨by show 1≤sizeLine; decide,q2 c⟩
theorem ok_check_term (F : Fun K "check_term" "check_term" s_check_term f fd) : FnOk P w K mg base (CXE P w) 2 f fd p_check_term (spTerm (cl 2)):=by
  refine F.okE sc_check_term (fun vs H Q E h=>?_) (fun cdv A outer s H vs Q E hr h=>?_)
  · obtain ⟨d,rfl,_⟩:=h; rfl
  obtain ⟨d,rfl,q1,q2⟩:=h
  refine ⟨_,(pss_one (ps_if (pt_not (pt_chain op_le op_le pe_int (pv 0) (pe_glI rfl T.MOST_TERM))) (pss_one (ps_raise (E:=E) rfl T.gBadTerm T.eBadTerm PySem.F.excBase_ValueError rfl makesE (pa_c pe_str pa_nil))) pss_nil)),?_⟩
  refine ⟨_,rfl,?_⟩
  refine chain_lo (lo:=0) (v:=d) (hi:=400) ?_
  by_cases c : okTerm d
  · rw [decide_eq_true c]
    exact iteF (q1 c)
  · rw [decide_eq_false c]
    exact iteT ⟨by show 1≤sizeLine; decide,q2 c⟩
theorem ok_check_many (F : Fun K "check_many" "check_many" s_check_many f fd) : FnOk P w K mg base (CXE P w) 2 f fd p_check_many (spMany (cl 5)):=by
  refine F.okE sc_check_many (fun vs H Q E h=>?_) (fun cdv A outer s H vs Q E hr h=>?_)
  · obtain ⟨a,xs,rfl,_⟩:=h; rfl
  obtain ⟨a,xs,rfl,ha,q1,q2⟩:=h
  refine ⟨_,(pss_one (ps_if (pt_cmpR op_gt (pe_callB call_len_seq rfl B.len PySem.boot_len (pa_c (pv 0) pa_nil)) (pe_glI rfl T.MOST_ROWS) (nomark _)) (pss_one (ps_raise (E:=E) rfl T.gBadRows T.eBadRows PySem.F.excBase_ValueError rfl makesE (pa_c pe_str pa_nil))) pss_nil)),?_⟩
  refine ⟨_,rfl,a,_,rfl,.inl (SqL.of ha),_,_,rfl,rfl,_,rfl,?_⟩
  by_cases c : (30 : Int) < xs.length
  · rw [decide_eq_true c]
    exact iteT ⟨by show 1≤sizeLine; decide,q2 (by omega)⟩
  · rw [decide_eq_false c]
    exact iteF (q1 (by omega))
theorem ok_check_count (F : Fun K "check_count" "check_count" s_check_count f fd) : FnOk P w K mg base (CXE P w) 2 f fd p_check_count (spIn (cl 3) 10000000000):=by
  refine F.okE sc_check_count (fun vs H Q E h=>?_) (fun cdv A outer s H vs Q E hr h=>?_)
  · obtain ⟨d,rfl,_⟩:=h; rfl
  obtain ⟨d,rfl,q1,q2⟩:=h
  refine ⟨_,(pss_one (ps_if (pt_not (pt_chain op_le op_le pe_int (pv 0) (pe_glI rfl T.MOST_COUNT))) (pss_one (ps_raise (E:=E) rfl T.gBadCount T.eBadCount PySem.F.excBase_ValueError rfl makesE (pa_c pe_str pa_nil))) pss_nil)),?_⟩
  refine ⟨_,rfl,?_⟩
  refine chain_in (v:=d) (hi:=10000000000) ?_
  by_cases c : inB d 10000000000
  · rw [decide_eq_true c]
    exact iteF (q1 c)
  · rw [decide_eq_false c]
    exact iteT ⟨by show 1≤sizeLine; decide,q2 c⟩
theorem ok_check_duty (F : Fun K "check_duty" "check_duty" s_check_duty f fd) : FnOk P w K mg base (CXE P w) 2 f fd p_check_duty (spIn (cl 4) 1000000):=by
  refine F.okE sc_check_duty (fun vs H Q E h=>?_) (fun cdv A outer s H vs Q E hr h=>?_)
  · obtain ⟨d,rfl,_⟩:=h; rfl
  obtain ⟨d,rfl,q1,q2⟩:=h
  refine ⟨_,(pss_one (ps_if (pt_not (pt_chain op_le op_le pe_int (pv 0) (pe_glI rfl T.MOST_DUTY))) (pss_one (ps_raise (E:=E) rfl T.gBadDuty T.eBadDuty PySem.F.excBase_ValueError rfl makesE (pa_c pe_str pa_nil))) pss_nil)),?_⟩
  refine ⟨_,rfl,?_⟩
  refine chain_in (v:=d) (hi:=1000000) ?_
  by_cases c : inB d 1000000
  · rw [decide_eq_true c]
    exact iteF (q1 c)
  · rw [decide_eq_false c]
    exact iteT ⟨by show 1≤sizeLine; decide,q2 c⟩
theorem ok_checked_lots (G_check_many : Cal P w K mg base (CXE P w) 2 "check_many" p_check_many (spMany (cl 5))) (G_check_day : Cal P w K mg base (CXE P w) 2 "check_day" p_check_day (spIn (cl 1) 999)) (G_check_count : Cal P w K mg base (CXE P w) 2 "check_count" p_check_count (spIn (cl 3) 10000000000)) (G_check_duty : Cal P w K mg base (CXE P w) 2 "check_duty" p_check_duty (spIn (cl 4) 1000000)) (F : Fun K "checked_lots" "checked_lots" s_checked_lots f fd) : FnOk P w K mg base (CXE P w) 3 f fd p_checked_lots (spChk (cl 5) (clCol cl) 3):=by
  refine F.okE sc_checked_lots (fun vs H Q E h=>?_) (fun cdv A outer s H vs Q E hr h=>?_)
  · obtain ⟨a,rs,rfl,_⟩:=h; rfl
  obtain ⟨a,rs,rfl,hR,h3,q1,q2,q3⟩:=h
  refine ⟨_,(pss_cons (ps_expr (pe_cal (E:=E) G_check_many hr rfl (passE fun _ _ z=>z) (pa_c (pv 0) pa_nil)))
    (pss_cons (ps_set (i:=1) sc_checked_lots.nd rfl (Or.inl rfl) (pe_lst pa_nil))
    (pss_cons (ps_for PassesOwn.leaving rfl (pi_list (pv 0)) (pg_tup rfl (pgs_cons (pg_name (i:=2) sc_checked_lots.nd rfl (Or.inl rfl)) (pgs_cons (pg_name (i:=3) sc_checked_lots.nd rfl (Or.inl rfl)) (pgs_cons (pg_name (i:=4) sc_checked_lots.nd rfl (Or.inl rfl)) pgs_nil)))) (pss_cons (ps_expr (pe_cal (E:=E) G_check_day hr rfl (passE fun _ _ z=>z) (pa_c (pv 2) pa_nil)))
      (pss_cons (ps_expr (pe_cal (E:=E) G_check_count hr rfl (passE fun _ _ z=>z) (pa_c (pv 3) pa_nil)))
      (pss_cons (ps_expr (pe_cal (E:=E) G_check_duty hr rfl (passE fun _ _ z=>z) (pa_c (pv 4) pa_nil)))
      (pss_one (ps_expr (pe_bm PySem.F.plainAttrs_list PySem.F.slot_list_append PySem.F.type_list_append mt_append (pv 1) (pa_c (pe_tup (pa_c (pv 2) (pa_c (pv 3) (pa_c (pv 4) pa_nil)))) pa_nil))))))))
    (pss_one (ps_ret (pv 1)))))),?_⟩
  obtain ⟨xs,ex,exl,exi⟩:=hR.get
  refine ⟨_,rfl,a,xs,rfl,ex,fun c=>?_,fun c=>q1 (by omega)⟩
  have c30 : rs.length≤30:=by omega
  refine ⟨by show 0≤sizeLine; decide,fun l hl=>?_⟩
  refine ⟨_,rfl,a,rfl,⟨xs,SqL.of (by rw [upd_ne (ne_of_none ex hl)]; exact ex)⟩,?_⟩
  refine for_list (xs:=xs) (fun i σ H3=>∃ o2 o3 o4,σ=[some (.ref a),some (.ref l),o2,o3,o4]∧Same H H3∧Rows H3 l (rs.take i)∧rowsBad (rs.take i)=none) ⟨_,_,_,rfl,same_new hl _,Rows.nil upd_same,rfl⟩ ?_ ?_ ?_
  · rintro i σ H3 hi ⟨o2,o3,o4,rfl,sm,_⟩
    exact SqL.of (sm _ _ ex)
  · rintro i x σ H3 exi' ⟨o2,o3,o4,rfl,sm,R3,hb⟩
    obtain ⟨p,r,rfl,er,hp⟩:=exi i x exi'
    obtain ⟨d,c,u,rfl⟩:=len3 (h3 r (List.mem_of_getElem? er))
    refine ⟨p,_,rfl,SqT.of (sm _ _ hp),rfl,_,_,rfl,_,_,rfl,_,_,rfl,rfl,?_⟩
    have bad : ∀ j,rowBad [d,c,u]=some j→E (.ref (clCol cl j)) none H3:=fun j e=>q2 c30 j (rowsBad_hit hb er e) H3 sm
    refine ⟨_,rfl,d,rfl,fun c1=>?_,fun c1=>bad 0 (by simp only [rowBad,if_neg c1])⟩
    refine ⟨_,rfl,c,rfl,fun c2=>?_,fun c2=>bad 1 (by simp only [rowBad,if_pos c1,if_neg c2])⟩
    refine ⟨_,rfl,u,rfl,fun c3=>?_,fun c3=>bad 2 (by simp only [rowBad,if_pos c1,if_pos c2,if_neg c3])⟩
    have good : rowBad [d,c,u]=none:=by simp only [rowBad,if_pos c1,if_pos c2,if_pos c3]
    obtain ⟨ys,ey,eyl,_⟩:=R3.get
    refine ⟨_,rfl,.inl ⟨rfl,_,SqL.of ey⟩,?_⟩
    refine ⟨_,rfl,_,rfl,_,rfl,by show 3≤sizeLine; decide,fun t ht=>?_⟩
    refine ⟨l,ys,.ref t,rfl,rfl,by rw [upd_ne (ne_of_none ey ht)]; exact ey,small1000 (by rw [eyl,List.length_take]; omega),?_⟩
    refine ⟨_,_,_,rfl,(sm.trans (same_new ht _)).young hl,?_,rowsBad_take hb er good⟩
    rw [← take_next er]
    exact R3.push (r:=[d,c,u]) ey ht
  · rintro σ H3 ⟨o2,o3,o4,rfl,sm,R3,hb⟩
    rw [exl,List.take_length] at R3 hb
    exact ⟨_,rfl,q3 c30 hb l H3 hl sm R3⟩
theorem ok_checked_outs (G_check_many : Cal P w K mg base (CXE P w) 2 "check_many" p_check_many (spMany (cl 5))) (G_check_day : Cal P w K mg base (CXE P w) 2 "check_day" p_check_day (spIn (cl 1) 999)) (G_check_count : Cal P w K mg base (CXE P w) 2 "check_count" p_check_count (spIn (cl 3) 10000000000)) (F : Fun K "checked_outs" "checked_outs" s_checked_outs f fd) : FnOk P w K mg base (CXE P w) 3 f fd p_checked_outs (spChk (cl 5) (clCol cl) 2):=by
  refine F.okE sc_checked_outs (fun vs H Q E h=>?_) (fun cdv A outer s H vs Q E hr h=>?_)
  · obtain ⟨a,rs,rfl,_⟩:=h; rfl
  obtain ⟨a,rs,rfl,hR,h3,q1,q2,q3⟩:=h
  refine ⟨_,(pss_cons (ps_expr (pe_cal (E:=E) G_check_many hr rfl (passE fun _ _ z=>z) (pa_c (pv 0) pa_nil)))
    (pss_cons (ps_set (i:=1) sc_checked_outs.nd rfl (Or.inl rfl) (pe_lst pa_nil))
    (pss_cons (ps_for PassesOwn.leaving rfl (pi_list (pv 0)) (pg_tup rfl (pgs_cons (pg_name (i:=2) sc_checked_outs.nd rfl (Or.inl rfl)) (pgs_cons (pg_name (i:=3) sc_checked_outs.nd rfl (Or.inl rfl)) pgs_nil))) (pss_cons (ps_expr (pe_cal (E:=E) G_check_day hr rfl (passE fun _ _ z=>z) (pa_c (pv 2) pa_nil)))
      (pss_cons (ps_expr (pe_cal (E:=E) G_check_count hr rfl (passE fun _ _ z=>z) (pa_c (pv 3) pa_nil)))
      (pss_one (ps_expr (pe_bm PySem.F.plainAttrs_list PySem.F.slot_list_append PySem.F.type_list_append mt_append (pv 1) (pa_c (pe_tup (pa_c (pv 2) (pa_c (pv 3) pa_nil))) pa_nil)))))))
    (pss_one (ps_ret (pv 1)))))),?_⟩
  obtain ⟨xs,ex,exl,exi⟩:=hR.get
  refine ⟨_,rfl,a,xs,rfl,ex,fun c=>?_,fun c=>q1 (by omega)⟩
  have c30 : rs.length≤30:=by omega
  refine ⟨by show 0≤sizeLine; decide,fun l hl=>?_⟩
  refine ⟨_,rfl,a,rfl,⟨xs,SqL.of (by rw [upd_ne (ne_of_none ex hl)]; exact ex)⟩,?_⟩
  refine for_list (xs:=xs) (fun i σ H3=>∃ o2 o3,σ=[some (.ref a),some (.ref l),o2,o3]∧Same H H3∧Rows H3 l (rs.take i)∧rowsBad (rs.take i)=none) ⟨_,_,rfl,same_new hl _,Rows.nil upd_same,rfl⟩ ?_ ?_ ?_
  · rintro i σ H3 hi ⟨o2,o3,rfl,sm,_⟩
    exact SqL.of (sm _ _ ex)
  · rintro i x σ H3 exi' ⟨o2,o3,rfl,sm,R3,hb⟩
    obtain ⟨p,r,rfl,er,hp⟩:=exi i x exi'
    obtain ⟨d,c,rfl⟩:=len2 (h3 r (List.mem_of_getElem? er))
    refine ⟨p,_,rfl,SqT.of (sm _ _ hp),rfl,_,_,rfl,_,_,rfl,rfl,?_⟩
    have bad : ∀ j,rowBad [d,c]=some j→E (.ref (clCol cl j)) none H3:=fun j e=>q2 c30 j (rowsBad_hit hb er e) H3 sm
    refine ⟨_,rfl,d,rfl,fun c1=>?_,fun c1=>bad 0 (by simp only [rowBad,if_neg c1])⟩
    refine ⟨_,rfl,c,rfl,fun c2=>?_,fun c2=>bad 1 (by simp only [rowBad,if_pos c1,if_neg c2])⟩
    have good : rowBad [d,c]=none:=by simp only [rowBad,if_pos c1,if_pos c2]
    obtain ⟨ys,ey,eyl,_⟩:=R3.get
    refine ⟨_,rfl,.inl ⟨rfl,_,SqL.of ey⟩,?_⟩
    refine ⟨_,rfl,_,rfl,by show 2≤sizeLine; decide,fun t ht=>?_⟩
    refine ⟨l,ys,.ref t,rfl,rfl,by rw [upd_ne (ne_of_none ey ht)]; exact ey,small1000 (by rw [eyl,List.length_take]; omega),?_⟩
    refine ⟨_,_,rfl,(sm.trans (same_new ht _)).young hl,?_,rowsBad_take hb er good⟩
    rw [← take_next er]
    exact R3.push (r:=[d,c]) ey ht
  · rintro σ H3 ⟨o2,o3,rfl,sm,R3,hb⟩
    rw [exl,List.take_length] at R3 hb
    exact ⟨_,rfl,q3 c30 hb l H3 hl sm R3⟩
theorem ok_summed (F : Fun K "summed" "summed" s_summed f fd) : FnOk P w K mg base CX0 1 f fd p_summed spSummed:=by
  refine F.ok sc_summed (fun vs H Q E h=>?_) (fun cdv A outer s H vs Q E hr h=>?_)
  · obtain ⟨n,p,ps,rfl,_⟩:=h; rfl
  obtain ⟨n,p,ps,rfl,n0,n1,hR,hps,q⟩:=h
  refine ⟨_,(pss_cons (ps_set (i:=2) sc_summed.nd rfl (Or.inl rfl) (pe_op op_rep (pe_lst (pa_c pe_int pa_nil)) (pv 0)))
    (pss_cons (ps_for PassesOwn.never rfl (pi_list (pv 1)) (pg_tup rfl (pgs_cons (pg_name (i:=3) sc_summed.nd rfl (Or.inl rfl)) (pgs_cons (pg_name (i:=4) sc_summed.nd rfl (Or.inl rfl)) pgs_nil))) (pss_one (ps_augS (pv 2) (pv 3) get_list (pv 4) ip_add set_list)))
    (pss_one (ps_ret (pv 2))))),?_⟩
  obtain ⟨xs,ex,exl,exi⟩:=hR.get
  refine ⟨by show 1≤sizeLine; decide,fun z hz=>⟨_,rfl,z,n,_,rfl,rfl,upd_same,by omega,by omega,?_,fun l hl=>?_⟩⟩
  · show 1 * n.toNat≤sizeLine
    exact Nat.le_of_lt (small1000 (by omega))
  have s1:=(same_new (H:=H) hz (.lst [.int 0])).trans (same_new hl (.lst (List.replicate n.toNat [V.int 0]).flatten))
  have hl0 : H l=none:=(same_new (H:=H) hz (.lst [.int 0])).free hl
  have e1 : L2.upd (L2.upd H z (.lst [.int 0])) l (.lst (List.replicate n.toNat [V.int 0]).flatten) l=some (.lst ((summedOf n.toNat (ps.take 0)).map V.int)):=by
    rw [upd_same,List.take_zero,summed_nil,List.map_replicate]
    congr 2
    induction n.toNat with
    | zero=>rfl
    | succ k ih=>rw [List.replicate_succ,List.flatten_cons,ih]; rfl
  generalize L2.upd (L2.upd H z (.lst [.int 0])) l (.lst (List.replicate n.toNat [V.int 0]).flatten)=H1 at s1 e1 ⊢
  refine ⟨_,rfl,p,rfl,⟨xs,SqL.of (s1 _ _ ex)⟩,?_⟩
  refine for_list (xs:=xs) (fun i σ H3=>∃ o3 o4,σ=[some (.int n),some (.ref p),some (.ref l),o3,o4]∧Same H H3∧H3 l=some (.lst ((summedOf n.toNat (ps.take i)).map V.int))) ⟨_,_,rfl,s1,e1⟩ ?_ ?_ ?_
  · rintro i σ H3 hi ⟨o3,o4,rfl,sm,_⟩
    exact SqL.of (sm _ _ ex)
  · rintro i x σ H3 exi' ⟨o3,o4,rfl,sm,e3⟩
    obtain ⟨pr,r,rfl,er,hpr⟩:=exi i x exi'
    obtain ⟨r2,r0,rn⟩:=hps r (List.mem_of_getElem? er)
    obtain ⟨a,c,rfl⟩:=len2 r2
    have a0 : 0≤a:=r0
    have an : a < (n.toNat : Int):=by have : a < n:=rn; omega
    refine ⟨pr,_,rfl,SqT.of (sm _ _ hpr),rfl,_,_,rfl,_,_,rfl,rfl,?_⟩
    refine ⟨_,rfl,_,rfl,l,_,a,.int (sumAt (ps.take i) a.toNat),rfl,rfl,SqL.of e3,a0,by rw [List.getElem?_map,summed_get a0 an]; rfl,_,rfl,_,_,rfl,rfl,?_⟩
    refine ⟨l,_,a,a.toNat,rfl,rfl,e3,by unfold ixN; rw [List.length_map,summed_len,if_pos a0,if_pos an],?_⟩
    refine ⟨_,_,rfl,sm.young hl0,?_⟩
    rw [upd_same,summed_take er a0 an,List.map_set]
  · rintro σ H3 ⟨o3,o4,rfl,sm,e3⟩
    rw [exl,List.take_length] at e3
    exact ⟨_,rfl,q l H3 hl0 sm e3⟩
end
end K14
namespace L2
open PySem PySem.Spec PySem.W PyProof.Rows
section
variable {X : Cx} {a b c d e : Expr} {ta tb tc td te : TE} {pos p2 : Pos}
end
theorem keep_refl {σ₀ : St} : ∀ (k : Nat) v,σ₀[k]? = some (some v)→σ₀[k]? = some (some v):=fun _ _ h=>h
theorem keep_set {σ₀ σ : St} {j : Nat} {x : Option V} (h : ∀ (k : Nat) v,σ₀[k]? = some (some v)→σ[k]? = some (some v)) (hj : σ₀[j]? = some none) : ∀ (k : Nat) v,σ₀[k]? = some (some v)→(σ.set j x)[k]? = some (some v):=fun k v e=>by
  have : j≠k:=fun z=>by rw [z,e] at hj; cases hj
  rw [List.getElem?_set_ne this]
  exact h k v e
theorem comp_by {K : PySem.W.Frag} {a D : Addr} {xs : List V} {g : TG} {ti : TT} {te : TE} {σ₀ : St} {H1 : Hp} {R : Hp→Prop} (P : Nat→List V→Hp→Prop) (hD : H1 D=none) (hx : H1 a=some (.lst xs)) (hn : xs.length≤1000)
    (st : ∀ i zs H H',P i zs H→(∀ b o,b≠D→H b=some o→H' b=some o)→P i zs H') (h0 : P 0 [] H1)
    (step : ∀ i x zs H,xs[i]? = some x→Same H1 H→P i zs H→∀ (K1 : V→Hp→Prop) (K2 : Hp→Prop),(∀ y H4,Same H H4→P (i + 1) (zs ++ [y]) H4→K1 y H4)→(∀ H3,Same H H3→P (i + 1) zs H3→K2 H3)→
      g x σ₀ H fun σ2 H2=>(∀ (k : Nat) v,σ₀[k]? = some (some v)→σ2[k]? = some (some v))∧ti σ2 H2 fun b H3=>if b=true then te σ2 H3 K1 else K2 H3)
    (fin : ∀ zs H,Same H1 H→P xs.length zs H→zs.length≤xs.length→H D=some (.lst zs)→R H) :
    ∃ W : Nat→Nat→Hp→Prop,(∃ m,W 0 m (upd H1 D (.lst [])))∧∀ i m H,W i m H→((Itl K a).stop i H∧R H)∨((Itl K a).go i H∧∀ x H',(Itl K a).yld i H x H'→g x σ₀ H' fun σ2 H2=>(∀ (k : Nat) v,σ₀[k]? = some (some v)→σ2[k]? = some (some v))∧ti σ2 H2 fun b H3=>
      if b=true then te σ2 H3 fun y H4=>∃ zs,H4 D=some (.lst zs)∧zs.length < sizeLine∧∃ m',m' < m∧W (i + 1) m' (upd H4 D (.lst (zs ++ [y]))) else ∃ m',m' < m∧W (i + 1) m' H3):=by
  refine ⟨fun i m H=>i + m=xs.length∧Same H1 H∧∃ zs,H D=some (.lst zs)∧zs.length≤i∧P i zs H,⟨xs.length,by omega,same_new hD _,[],upd_same,Nat.le_refl _,st _ _ _ _ h0 fun b o hb e=>by rw [upd_ne hb]; exact e⟩,?_⟩
  rintro i m H ⟨him,s1,zs,hz,hl,hp⟩
  have ex:=s1 _ _ hx
  by_cases hi : i < xs.length
  · refine .inr ⟨⟨xs,_,SqL.of ex,List.getElem?_eq_getElem hi⟩,?_⟩
    rintro x H' ⟨rfl,hy⟩
    refine step i x zs H' (hy _ (SqL.of ex)) s1 hp _ _ (fun y H4 s4 p4=>⟨zs,s4 _ _ hz,small1000 (by omega),m - 1,by omega,by omega,(s1.trans s4).young hD,zs ++ [y],upd_same,by rw [List.length_append,List.length_singleton]; omega,st _ _ _ _ p4 fun b o hb e=>by rw [upd_ne hb]; exact e⟩) fun H3 s3 p3=>⟨m - 1,by omega,by omega,s1.trans s3,zs,s3 _ _ hz,by omega,p3⟩
  · have e : i=xs.length:=by omega
    subst e
    exact .inl ⟨⟨xs,SqL.of ex,Nat.le_refl _⟩,fin zs H s1 hp hl hz⟩
def Tups (H : Hp) (xs : List V) (rs : List (List Int)) : Prop:=xs.length=rs.length∧∀ (i : Nat) x r,xs[i]? = some x→rs[i]? = some r→∃ p,x = .ref p∧H p=some (.tup (r.map V.int))
theorem Tups.one {H : Hp} {p : Addr} {r : List Int} (h : H p=some (.tup (r.map V.int))) : Tups H [.ref p] [r]:=⟨rfl,fun i x r' e1 e2=>by
  match i,e1,e2 with
  | 0,e1,e2=>cases e1; cases e2; exact ⟨p,rfl,h⟩
  | i + 1,e1,_=>cases e1⟩
theorem Tups.append {H : Hp} {xs ys : List V} {rs ts : List (List Int)} (h : Tups H xs rs) (h' : Tups H ys ts) : Tups H (xs ++ ys) (rs ++ ts):=by
  refine ⟨by rw [List.length_append,List.length_append,h.1,h'.1],fun i x r e1 e2=>?_⟩
  by_cases hi : i < xs.length
  · rw [List.getElem?_append_left hi] at e1
    rw [List.getElem?_append_left (by rw [← h.1]; exact hi)] at e2
    exact h.2 i x r e1 e2
  · rw [List.getElem?_append_right (by omega)] at e1
    rw [List.getElem?_append_right (by rw [← h.1]; omega),← h.1] at e2
    exact h'.2 _ x r e1 e2
theorem Tups.take {H : Hp} {xs : List V} {rs : List (List Int)} (h : Tups H xs rs) (n : Nat) : Tups H (xs.take n) (rs.take n):=by
  refine ⟨by rw [List.length_take,List.length_take,h.1],fun i x r e1 e2=>?_⟩
  have hi : i < n:=by have:=(List.getElem?_eq_some_iff.mp e1).1; rw [List.length_take] at this; omega
  rw [List.getElem?_take_of_lt hi] at e1 e2
  exact h.2 i x r e1 e2
theorem Tups.drop {H : Hp} {xs : List V} {rs : List (List Int)} (h : Tups H xs rs) (n : Nat) : Tups H (xs.drop n) (rs.drop n):=by
  refine ⟨by rw [List.length_drop,List.length_drop,h.1],fun i x r e1 e2=>?_⟩
  rw [List.getElem?_drop] at e1 e2
  exact h.2 _ x r e1 e2
theorem Tups.keep {H H' : Hp} {xs : List V} {rs : List (List Int)} (h : Tups H xs rs) (k : ∀ (p : Addr) (z : List V),H p=some (.tup z)→H' p=some (.tup z)) : Tups H' xs rs:=⟨h.1,fun i x r e1 e2=>by
  obtain ⟨p,e,hp⟩:=h.2 i x r e1 e2
  exact ⟨p,e,k _ _ hp⟩⟩
theorem Tups.same {H H' : Hp} {xs : List V} {rs : List (List Int)} (h : Tups H xs rs) (s : Same H H') : Tups H' xs rs:=h.keep fun _ _ e=>s _ _ e
theorem Tups.but {H H' : Hp} {D : Addr} {ys xs : List V} {rs : List (List Int)} (h : Tups H xs rs) (hD : H D=some (.lst ys)) (k : ∀ b o,b≠D→H b=some o→H' b=some o) : Tups H' xs rs:=h.keep fun p z e=>k _ _ (ne_of e hD (by intro z; cases z)) e
theorem Tups.draw {H H' : Hp} {a c : Addr} {xs : List V} {rs : List (List Int)} (h : Tups H xs rs) (d : DrawAt H a c) (k : KeepBut a H H') : Tups H' xs rs:=h.keep fun p z e=>k _ _ (d.neT e) e
theorem Tups.at {H : Hp} {xs : List V} {rs : List (List Int)} (h : Tups H xs rs) {i : Nat} {x : V} (e : xs[i]? = some x) : ∃ p r,x = .ref p∧rs[i]? = some r∧H p=some (.tup (r.map V.int)):=by
  have hi:=(List.getElem?_eq_some_iff.mp e).1
  have hr : rs[i]? = some (rs[i]'(by rw [← h.1]; exact hi)):=List.getElem?_eq_getElem (by rw [← h.1]; exact hi)
  obtain ⟨p,e',hp⟩:=h.2 i x _ e hr
  exact ⟨p,_,e',hr,hp⟩
theorem Tups.rows {H : Hp} {a : Addr} {xs : List V} {rs : List (List Int)} (h : Tups H xs rs) (ha : H a=some (.lst xs)) : Rows H a rs:=by
  obtain ⟨ps,e⟩ : ∃ ps : List Addr,xs=ps.map V.ref:=by
    have : ∀ (xs : List V) (rs : List (List Int)),Tups H xs rs→∃ ps : List Addr,xs=ps.map V.ref:=by
      intro xs
      induction xs with
      | nil=>exact fun _ _=>⟨[],rfl⟩
      | cons x r ih=>
        intro rs h
        obtain ⟨p,_,e,_⟩:=h.at (i:=0) rfl
        obtain ⟨ps,e'⟩:=ih (rs.drop 1) (by simpa using h.drop 1)
        exact ⟨p :: ps,by rw [e,e']; rfl⟩
    exact this xs rs h
  subst e
  refine ⟨ps,ha,by rw [← h.1,List.length_map],fun i p r e1 e2=>?_⟩
  obtain ⟨q,e,hq⟩:=h.2 i (.ref p) r (by rw [List.getElem?_map,e1]; rfl) e2
  cases e
  exact hq
theorem Rows.tups {H : Hp} {a : Addr} {rs : List (List Int)} (h : Rows H a rs) : ∃ xs,H a=some (.lst xs)∧Tups H xs rs:=by
  obtain ⟨ps,h1,h2,h3⟩:=h
  refine ⟨_,h1,by rw [List.length_map,h2],fun i x r e1 e2=>?_⟩
  rw [List.getElem?_map] at e1
  cases q : ps[i]? with
  | none=>rw [q] at e1; cases e1
  | some p=>rw [q] at e1; cases e1; exact ⟨p,rfl,h3 i p r q e2⟩
theorem getElem_next {α : Type} {rs : List α} {i : Nat} {r : α} (e : rs[i]? = some r) : rs.take (i + 1)=rs.take i ++ [r]:=by
  obtain ⟨hi,e'⟩:=List.getElem?_eq_some_iff.mp e
  rw [List.take_succ_eq_append_getElem hi,e']
def colNo : Nat→Nat
  | 0=>1
  | 1=>3
  | _=>4
theorem clCol_no (cl : Nat→Addr) (j : Nat) : clCol cl j=cl (colNo j):=by
  match j with
  | 0=>rfl
  | 1=>rfl
  | j + 2=>rfl
def rowsNo (rs : List (List Int)) : Option Nat:=if 30 < rs.length then some 5 else (rowsBad rs).map colNo
def bothNo (rs os : List (List Int)) (tm : Int) : Option Nat:=match rowsNo rs with
  | some n=>some n
  | none=>match rowsNo os with
    | some n=>some n
    | none=>if okTerm tm then none else some 2
theorem rowsNo_many {rs : List (List Int)} (h : 30 < rs.length) : rowsNo rs=some 5:=by unfold rowsNo; rw [if_pos h]
theorem rowsNo_bad {rs : List (List Int)} {j : Nat} (h : rs.length≤30) (e : rowsBad rs=some j) : rowsNo rs=some (colNo j):=by unfold rowsNo; rw [if_neg (by omega),e]; rfl
theorem rowsNo_ok {rs : List (List Int)} (h : rs.length≤30) (e : rowsBad rs=none) : rowsNo rs=none:=by unfold rowsNo; rw [if_neg (by omega),e]; rfl
theorem bothNo_lots {rs os : List (List Int)} {tm : Int} {n : Nat} (h : rowsNo rs=some n) : bothNo rs os tm=some n:=by unfold bothNo; rw [h]
theorem bothNo_outs {rs os : List (List Int)} {tm : Int} {n : Nat} (h : rowsNo rs=none) (h' : rowsNo os=some n) : bothNo rs os tm=some n:=by unfold bothNo; rw [h,h']
theorem bothNo_term {rs os : List (List Int)} {tm : Int} (h : rowsNo rs=none) (h' : rowsNo os=none) : bothNo rs os tm=if okTerm tm then none else some 2:=by unfold bothNo; rw [h,h']
def spBoth (cl : Nat→Addr) : Sp:=fun vs H Q E=>∃ (a b : Addr) (tm : Int) (rs os : List (List Int)),vs=[.ref a,.ref b,.int tm]∧Rows H a rs∧(∀ r∈rs,r.length=3)∧Rows H b os∧(∀ r∈os,r.length=2)∧
  (∀ n,bothNo rs os tm=some n→∀ H',Same H H'→E (.ref (cl n)) none H')∧(bothNo rs os tm=none→∀ t l o H',H t=none→H l=none→H o=none→Same H H'→Rows H' l rs→Rows H' o os→H' t=some (.tup [.ref l,.ref o])→Q (.ref t) H')
end L2
namespace K14
open PySem L2
abbrev s_checked_both : Stmt:=top 24
abbrev n_checked_both : List Str:=["lots","outs","term","goods","gone"]
abbrev p_checked_both : List Str:=["lots","outs","term"]
theorem sc_checked_both : FnScope n_checked_both p_checked_both (defScope s_checked_both):=⟨rfl,rfl,rfl,by decide +kernel,rfl,by decide +kernel,by decide +kernel⟩
section
variable {P : Program} {w : World} {K : PySem.W.Frag} {mg : Str→Option Value} {base : Heap} {f : Addr} {fd : FuncData} {cl : Nat→Addr} (T : Txt K mg cl) (B : Bn mg)
include T B
theorem ok_checked_both (G_checked_lots : Cal P w K mg base (CXE P w) 3 "checked_lots" p_checked_lots (spChk (cl 5) (clCol cl) 3)) (G_checked_outs : Cal P w K mg base (CXE P w) 3 "checked_outs" p_checked_outs (spChk (cl 5) (clCol cl) 2)) (G_check_term : Cal P w K mg base (CXE P w) 2 "check_term" p_check_term (spTerm (cl 2))) (F : Fun K "checked_both" "checked_both" s_checked_both f fd) : FnOk P w K mg base (CXE P w) 4 f fd p_checked_both (spBoth cl):=by
  refine F.okE sc_checked_both (fun vs H Q E h=>?_) (fun cdv A outer s H vs Q E hr h=>?_)
  · obtain ⟨a,b,tm,rs,os,rfl,_⟩:=h; rfl
  obtain ⟨a,b,tm,rs,os,rfl,hR,h3,hO,h2,q1,q2⟩:=h
  refine ⟨_,(pss_cons (ps_set (i:=3) sc_checked_both.nd rfl (Or.inl rfl) (pe_cal (E:=E) G_checked_lots hr rfl (passE fun _ _ z=>z) (pa_c (pv 0) pa_nil)))
    (pss_cons (ps_set (i:=4) sc_checked_both.nd rfl (Or.inl rfl) (pe_cal (E:=E) G_checked_outs hr rfl (passE fun _ _ z=>z) (pa_c (pv 1) pa_nil)))
    (pss_cons (ps_expr (pe_cal (E:=E) G_check_term hr rfl (passE fun _ _ z=>z) (pa_c (pv 2) pa_nil)))
    (pss_one (ps_ret (pe_tup (pa_c (pv 3) (pa_c (pv 4) pa_nil)))))))),?_⟩
  refine ⟨_,rfl,a,rs,rfl,hR,h3,fun c=>q1 5 (bothNo_lots (rowsNo_many c)) H (Same.refl H),fun c j e H' sm=>by rw [clCol_no]; exact q1 _ (bothNo_lots (rowsNo_bad c e)) H' sm,fun rn rb l H1 hl s1 R1=>?_⟩
  have r0:=rowsNo_ok rn rb
  refine ⟨_,rfl,b,os,rfl,hO.same s1,h2,fun c=>q1 5 (bothNo_outs r0 (rowsNo_many c)) H1 s1,fun c j e H' sm=>by rw [clCol_no]; exact q1 _ (bothNo_outs r0 (rowsNo_bad c e)) H' (s1.trans sm),fun on ob o H2 ho s2 R2=>?_⟩
  have o0:=rowsNo_ok on ob
  have bt:=bothNo_term (tm:=tm) r0 o0
  have s12:=s1.trans s2
  refine ⟨_,rfl,tm,rfl,fun c=>?_,fun c=>q1 2 (by rw [bt,if_neg c]) H2 s12⟩
  rw [if_pos c] at bt
  refine ⟨_,rfl,_,rfl,by show 2≤sizeLine; decide,fun t ht=>?_⟩
  have s3:=same_new (H:=H2) ht (.tup [.ref l,.ref o])
  exact q2 bt t l o _ (s12.free ht) hl (s1.free ho) (s12.trans s3) ((R1.same s2).same s3) (R2.same s3) upd_same
end
end K14
namespace L2
open PySem PySem.Spec PyProof.Rows
section
variable {κ : Type} [DecidableEq κ]
end
theorem kV_is {P : Program} {w : World} {k : Key} {u : Value} (r : RelV (kV k) u) : (mixKind P w).is k u=true:=by
  cases k with
  | inl i=>obtain ⟨t,e⟩:=(show ∃ t,u=Value.int i t from r); subst e; exact mixKind_int P w i t
  | inr x=>obtain ⟨t,e⟩:=(show ∃ t,u=Value.str x t from r); subst e; exact mixKind_str P w x t
theorem items_are {P : Program} {w : World} : ∀ {ks : List Key} {us : List Value},Vals (ks.map kV) us→ItemsAre (mixKind P w) ks us
  | [],_,r=>by rw [List.map_nil] at r; cases r; exact .nil
  | k :: ks,_,r=>by
    rw [List.map_cons] at r
    cases r with
    | cons h t=>exact .cons (kV_is h) (items_are t)
section
variable {P : Program} {w : World} {H : Hp} {h : Heap} {a : Addr}
theorem key_of {ks : List Key} (ok : HOk P w H h) (e : H a=some (.tup (ks.map kV))) : (tupleKind (mixKind P w)).is h ks a:=by
  obtain ⟨_,its,r,o,h1,h2,n,h3⟩:=(show ObjOk P w H h a (.tup (ks.map kV)) from ok a _ e)
  exact ⟨o,its.toArray,n,h1,h2,h3,by simpa using items_are r⟩
end
section
variable {X : Cx} {pins : List (Addr×Obj)} {σ : St} {H : Hp} {s : Shared} {a : Addr} {y v : V} {u r : Value} {o : Option V} {A : Around} {E : Value→Shared→Prop}
theorem d_write {h' : Heap} {t' : Nat} {ob : HO} (I : Inv X pins σ H s) (mu : Mut (H a)) (hs : Heap.SameBut a s.heap h') (he : ∃ q,h'.get? a=some q) (new : ObjOk X.prog X.w (upd H a ob) h' a ob) :
    Inv X pins σ (upd H a ob) { s with heap:=h',toks:=t' }:=
  I.write (x:=a) (e:=a) mu (.inl rfl) (fun b q hb z=>(hs.2 b hb).trans z) he new
end
section
variable {X : Cx} {pins : List (Addr×Obj)} {σ : St} {H : Hp} {s : Shared} {a : Addr} {kvs : List (Key×V)} {k : Key} {u : Value} {A : Around} {E : Value→Shared→Prop}
end
section
variable {X : Cx} {o i e value : Expr} {pos pos' tpos : Pos} {td ty tv : TE}
end
section
variable {X : Cx} {pos : Pos}
end
section
variable {X : Cx} {pins : List (Addr×Obj)} {σ : St} {H : Hp} {s : Shared} {a : Addr} {y d : V} {u r : Value} {o : Option V} {A : Around} {E : Value→Shared→Prop}
end
section
variable {X : Cx} {o e f : Expr} {apos cpos : Pos} {td ty tx : TE}
end
section
variable {X : Cx} {pins : List (Addr×Obj)} {σ : St} {H : Hp} {s : Shared} {a : Addr} {kvs : List (Key×V)} {A : Around} {E : Value→Shared→Prop}
end
section
variable {X : Cx} {pins : List (Addr×Obj)} {σ : St} {H : Hp} {s : Shared} {a : Addr} {y : V} {u : Value} {A : Around} {E : Value→Shared→Prop}
end
end L2
namespace L2
open PySem PySem.Spec PyProof.Rows
section
variable {X : Cx} {pins : List (Addr×Obj)} {σ : St} {H : Hp} {s : Shared}
end
section
variable {X : Cx} {N' : List Str} {ix : List (Option Nat)} {scope : Scope} {kx vx tg iter : Expr} {ifs : List Expr} {pos : Pos} {wi : TI} {g : TG} {ti : TT} {tk tv : TE}
end
end L2
namespace L2
open PySem PySem.Spec PyProof.Rows
section
variable {prog : Program} {w : World} {A : Around} {E : Value→Shared→Prop} {s : Shared}
end
section
variable {prog : Program} {w : World} {A : Around} {E : Value→Shared→Prop} {s : Shared}
end
section
variable {X : Cx} {es : List Expr} {x1 : Nat} {tp : Pos} {oe : Expr} {td : TE} {apos cpos : Pos}
end
section
variable {X : Cx} {tg : Expr} {oe : Expr} {td : TE} {apos cpos : Pos}
end
end L2
namespace L2
open PySem PySem.Spec PyProof.Rows
section
variable {prog : Program} {w : World} {A : Around} {R : Result→Shared→Prop} {s : Shared}
end
section
variable {X : Cx} {N' : List Str} {ix : List (Option Nat)} {scope : Scope} {elt tg iter : Expr} {ifs : List Expr} {pos : Pos} {wi : TI} {g : TG} {ti : TT} {te : TE}
variable {t1 i1 : Expr} {wi1 : TI} {g1 : TG}
end
end L2
namespace L2
open PySem PySem.Spec PyProof.Rows
def Rise (xs : Array Nat) : Prop:=∀ (i j : Nat) (hi : i < xs.size) (hj : j < xs.size),i < j→xs[i] < xs[j]
theorem below_go {xs : Array Nat} {j : Nat} (h : Rise xs) : ∀ (fuel lo hi : Nat),lo≤hi→hi≤xs.size→hi - lo≤fuel→(∀ (k : Nat) (hk : k < xs.size),k < lo→xs[k] < j)→(∀ (k : Nat) (hk : k < xs.size),hi≤k→j≤xs[k])→
    SetTable.below.go xs j fuel lo hi≤xs.size∧(∀ (k : Nat) (hk : k < xs.size),k < SetTable.below.go xs j fuel lo hi→xs[k] < j)∧∀ (k : Nat) (hk : k < xs.size),SetTable.below.go xs j fuel lo hi≤k→j≤xs[k]:=by
  intro fuel
  induction fuel with
  | zero=>
    intro lo hi h1 h2 h3 h4 h5
    have e : lo=hi:=by omega
    subst e
    exact ⟨h2,h4,h5⟩
  | succ n ih=>
    intro lo hi h1 h2 h3 h4 h5
    unfold SetTable.below.go
    by_cases c : lo < hi
    · rw [if_pos c]
      dsimp only
      have hm : (lo + hi) / 2 < xs.size:=by omega
      have eg : xs.getD ((lo + hi) / 2) j=xs[(lo + hi) / 2]:=by rw [Array.getD_eq_getD_getElem?,Array.getElem?_eq_getElem hm]; rfl
      rw [eg]
      by_cases c2 : xs[(lo + hi) / 2] < j
      · rw [if_pos c2]
        refine ih _ _ (by omega) h2 (by omega) (fun k hk hlt=>?_) h5
        by_cases c3 : k=(lo + hi) / 2
        · subst c3; exact c2
        · have:=h k ((lo + hi) / 2) hk hm (by omega)
          omega
      · rw [if_neg c2]
        refine ih _ _ (by omega) (by omega) (by omega) h4 (fun k hk hge=>?_)
        by_cases c3 : k=(lo + hi) / 2
        · subst c3; omega
        · have:=h ((lo + hi) / 2) k hm hk (by omega)
          omega
    · rw [if_neg c]
      have e : lo=hi:=by omega
      subst e
      exact ⟨h2,h4,h5⟩
theorem below_at {xs : Array Nat} (h : Rise xs) (j : Nat) : SetTable.below xs j≤xs.size∧(∀ (k : Nat) (hk : k < xs.size),k < SetTable.below xs j→xs[k] < j)∧∀ (k : Nat) (hk : k < xs.size),SetTable.below xs j≤k→j≤xs[k]:=
  below_go h xs.size 0 xs.size (Nat.zero_le _) (Nat.le_refl _) (by omega) (fun k _ z=>absurd z (Nat.not_lt_zero _)) (fun k hk z=>absurd hk (by omega))
theorem size_insert {α : Type} (xs : Array α) (p : Nat) (x : α) (hp : p≤xs.size) : (SetTable.insertAt xs p x).size=xs.size + 1:=by
  unfold SetTable.insertAt
  rw [Array.size_append,Array.size_push,Array.size_extract,Array.size_extract]
  omega
theorem get_insert {α : Type} (xs : Array α) (p : Nat) (x : α) (hp : p≤xs.size) (i : Nat) : (SetTable.insertAt xs p x)[i]? = if i < p then xs[i]? else if i=p then some x else xs[i - 1]?:=by
  unfold SetTable.insertAt
  have s1 : ((xs.extract 0 p).push x).size=p + 1:=by rw [Array.size_push,Array.size_extract]; omega
  by_cases c1 : i < p
  · rw [if_pos c1,Array.getElem?_append_left (by omega),Array.getElem?_push_lt (by rw [Array.size_extract]; omega)]
    rw [← Array.getElem?_eq_getElem,Array.getElem?_extract]
    rw [if_pos (by omega)]
    congr 1
    omega
  · rw [if_neg c1]
    by_cases c2 : i=p
    · subst c2
      rw [if_pos rfl,Array.getElem?_append_left (by omega),Array.getElem?_push,if_pos (by rw [Array.size_extract]; omega)]
    · rw [if_neg c2,Array.getElem?_append_right (by omega),Array.getElem?_extract,s1]
      by_cases c3 : i - (p + 1) < xs.size - p
      · rw [if_pos (by omega)]
        congr 1
        omega
      · rw [if_neg (by omega),Array.getElem?_eq_none (by omega)]
theorem rise_insert {xs : Array Nat} (h : Rise xs) {j : Nat} (hn : xs[SetTable.below xs j]?≠some j) : Rise (SetTable.insertAt xs (SetTable.below xs j) j):=by
  obtain ⟨b1,b2,b3⟩:=below_at h j
  generalize SetTable.below xs j=p at *
  have val : ∀ (i : Nat) (hi : i < (SetTable.insertAt xs p j).size),some (SetTable.insertAt xs p j)[i]=if i < p then xs[i]? else if i=p then some j else xs[i - 1]?:=fun i hi=>by rw [← get_insert xs p j b1 i,Array.getElem?_eq_getElem hi]
  have above : ∀ (k : Nat) (hk : k < xs.size),p≤k→j < xs[k]:=fun k hk hpk=>by
    have hp : p < xs.size:=by omega
    have h1:=b3 p hp (Nat.le_refl _)
    have h2 : xs[p]≠j:=fun z=>hn (by rw [Array.getElem?_eq_getElem hp,z])
    by_cases c : k=p
    · subst c; omega
    · have:=h p k hp hk (by omega)
      omega
  intro i k hi hk hik
  have sz:=size_insert xs p j b1
  have vi:=val i hi
  have vk:=val k hk
  by_cases c1 : k < p
  · rw [if_pos (by omega),Array.getElem?_eq_getElem (by omega)] at vi
    rw [if_pos c1,Array.getElem?_eq_getElem (by omega)] at vk
    rw [Option.some.inj vi,Option.some.inj vk]
    exact h i k (by omega) (by omega) hik
  · rw [if_neg c1] at vk
    by_cases c2 : k=p
    · rw [if_pos c2] at vk
      rw [if_pos (by omega),Array.getElem?_eq_getElem (by omega)] at vi
      rw [Option.some.inj vi,Option.some.inj vk]
      exact b2 i (by omega) (by omega)
    · rw [if_neg c2,Array.getElem?_eq_getElem (by omega)] at vk
      rw [Option.some.inj vk]
      by_cases c3 : i < p
      · rw [if_pos c3,Array.getElem?_eq_getElem (by omega)] at vi
        rw [Option.some.inj vi]
        exact h i (k - 1) (by omega) (by omega) (by omega)
      · rw [if_neg c3] at vi
        by_cases c4 : i=p
        · rw [if_pos c4] at vi
          rw [Option.some.inj vi]
          exact above (k - 1) (by omega) (by omega)
        · rw [if_neg c4,Array.getElem?_eq_getElem (by omega)] at vi
          rw [Option.some.inj vi]
          exact h (i - 1) (k - 1) (by omega) (by omega) (by omega)
end L2
namespace L2
open PySem PySem.Spec PyProof.Rows
section
variable {prog : Program} {w : World} {A : Around} {E : Value→Shared→Prop} {s : Shared}
end
end L2
namespace L2
open PySem PySem.Spec PyProof.Rows
theorem compTurn_set (elt target iter : Expr) (ifs : List Expr) (scope : Scope) (pos : Pos) (it acc : Value) (env : Env) :
    compTurn (.SetComp elt [⟨target,iter,ifs,0⟩] scope pos) 0 it acc env=(do
      standAt iter.pos
      match ← pyNext it with
      | none=>pure (.done .next)
      | some v=>
        letOwnedTupleGo target it v
        assign target env v
        let mut ok:=true
        for c in ifs do
          if ok then ok ← isTrue c env (eval c env)
        if ok then
          (do let v ← eval elt env; standAt elt.pos; let _ ← call (.builtin "set.add") [acc,v])
        again (.compLoop (.SetComp elt [⟨target,iter,ifs,0⟩] scope pos) 0 it acc env)):=by rfl
section
variable {prog : Program} {w : World} {A : Around} {R : Result→Shared→Prop} {s : Shared}
theorem compStart_set {elt target iter ifs scope pos it acc env}
    (h0 : codeAny (model prog w) A (.compLoop (.SetComp elt [⟨target,iter,ifs,0⟩] scope pos) 0 it acc env) R s)
    (h : wpAny (model prog w) A (pyIter it) (fun it' s'=>codeAny (model prog w) A (.compLoop (.SetComp elt [⟨target,iter,ifs,0⟩] scope pos) 0 it' acc env) R s') (notedBy (model prog w) A env fun x s'=>R (.error x) s') s) :
    codeAny (model prog w) A (.compStart (.SetComp elt [⟨target,iter,ifs,0⟩] scope pos) 0 it acc env) R s:=by
  refine codeAny_of_tree ?_
  show wpAny _ _ ((compStart (.SetComp elt [⟨target,iter,ifs,0⟩] scope pos) 0 it acc env).onRaise (fun x=>do noteFrame x env; standAt theWindowsPlace)) _ _ s
  refine wpAny_notedAt ?_
  unfold compStart
  show wpAny _ _ (ask >>= _) _ _ s
  refine wpAny_bind (wpAny_askSetting (wpAny_ite ?_))
  split
  · first | exact wpAny_bind (wpAny_pure (wpAny_pure (And.intro rfl h0))) | exact wpAny_pure (And.intro rfl h0)
  · refine wpAny_bind (wpAny_rule ?_)
    show wpAny _ _ (standAt iter.pos >>= _) _ _ s
    exact wpAny_bind (wpAny_standAt (wpAny_bind (wpAny_mono h (fun it' s' h'=>wpAny_pure (And.intro rfl h')) fun _ _ x=>x)))
end
section
variable {X : Cx} {N' : List Str} {ix : List (Option Nat)} {scope : Scope} {elt tg iter : Expr} {ifs : List Expr} {pos : Pos} {wi : TI} {g : TG} {ti : TT} {te : TE}
end
end L2
namespace L2
open PySem PySem.Spec PyProof.Rows
section
variable {prog : Program} {w : World} {A : Around} {E : Value→Shared→Prop} {s : Shared}
end
section
variable {prog : Program} {w : World} {A : Around} {E : Value→Shared→Prop} {s : Shared}
end
end L2
namespace L2
open PySem PySem.Spec PyProof.Rows
section
variable {prog : Program} {w : World} {A : Around} {E : Value→Shared→Prop} {s : Shared}
end
end L2
namespace L2
open PySem PySem.Spec PySem.W PyProof.Rows
variable {X : Cx}
end L2
namespace L2
open PySem PySem.Spec PySem.W PyProof.Rows
section
variable {prog : Program} {w : World} {A : Around} {E : Value→Shared→Prop} {s : Shared}
end
end L2
namespace L2
open PySem PySem.Spec PySem.W PyProof.Rows
section
variable {X : Cx}
end
end L2
namespace L2
open PySem PySem.Spec PySem.W PyProof.Rows
section
variable {o : Obj} {kvs : List (List Key×V)} {a D : Addr} {g : TG} {ti : TT} {te tk tv : TE} {σ₀ : St} {H1 : Hp} {R : Hp→Prop}
end
end L2
namespace L2
open PySem PySem.Spec PySem.W PyProof.Rows
def DaysOf (rs : List (List Int)) (ds : List Int) : Prop:=ds.Pairwise (· < ·)∧(∀ d,d∈ds↔∃ r∈rs,r.getD 0 0=d)∧ds.length≤rs.length
def strOf (ds : List Int) : List (Int×Int):=ds.flatMap fun f=>(ds.filter fun l=>decide (f≤l)).map fun l=>(f,l)
def lessF (v : Int→Int→Int) (day u : Int) : Int→Int→Int:=fun f l=>if f≤day∧day≤l then v f l - u else v f l
def FreeIs (ks : List (Int×Int)) (v : Int→Int→Int) (day left M : Int) : Prop:=M≤left∧(∀ p∈ks,p.1≤day→day≤p.2→M≤v p.1 p.2)∧(M=left∨∃ p∈ks,p.1≤day∧day≤p.2∧M=v p.1 p.2)
theorem nodup_of_lt {ds : List Int} (h : ds.Pairwise (· < ·)) : ds.Nodup:=h.imp fun z=>Int.ne_of_lt z
theorem mem_str {ds : List Int} {f l : Int} : (f,l)∈strOf ds↔f∈ds∧l∈ds∧f≤l:=by
  unfold strOf
  constructor
  · intro h
    obtain ⟨f',hf,h'⟩:=List.mem_flatMap.mp h
    obtain ⟨l',hl,e⟩:=List.mem_map.mp h'
    cases e
    obtain ⟨h1,h2⟩:=List.mem_filter.mp hl
    exact ⟨hf,h1,of_decide_eq_true h2⟩
  · rintro ⟨h1,h2,h3⟩
    exact List.mem_flatMap.mpr ⟨f,h1,List.mem_map.mpr ⟨l,List.mem_filter.mpr ⟨h2,decide_eq_true h3⟩,rfl⟩⟩
end L2
namespace L2
end L2
namespace L2
open PySem PySem.Spec PySem.W PyProof.Rows
def freeF (v : Int→Int→Int) (day left : Int) : List (Int×Int)→Int
  | []=>left
  | p :: ks=>if p.1≤day∧day≤p.2∧v p.1 p.2 < freeF v day left ks then v p.1 p.2 else freeF v day left ks
theorem freeF_is (v : Int→Int→Int) (day left : Int) : ∀ ks,FreeIs ks v day left (freeF v day left ks)
  | []=>⟨Int.le_refl _,fun p hp=>(by cases hp),.inl rfl⟩
  | p :: ks=>by
    obtain ⟨h1,h2,h3⟩:=freeF_is v day left ks
    unfold freeF
    split
    · rename_i c
      refine ⟨by omega,fun q hq a b=>?_,.inr ⟨p,.head _,c.1,c.2.1,rfl⟩⟩
      rcases List.mem_cons.mp hq with e | e
      · subst e; exact Int.le_refl _
      · have:=h2 q e a b; omega
    · rename_i c
      refine ⟨h1,fun q hq a b=>?_,?_⟩
      · rcases List.mem_cons.mp hq with e | e
        · subst e
          exact Int.not_lt.mp fun z=>c ⟨a,b,z⟩
        · exact h2 q e a b
      · rcases h3 with z | ⟨q,hq,a,b,e⟩
        · exact .inl z
        · exact .inr ⟨q,.tail _ hq,a,b,e⟩
theorem FreeIs.uniq {ks : List (Int×Int)} {v : Int→Int→Int} {day left M M' : Int} (h : FreeIs ks v day left M) (h' : FreeIs ks v day left M') : M=M':=by
  obtain ⟨a1,a2,a3⟩:=h
  obtain ⟨b1,b2,b3⟩:=h'
  refine Int.le_antisymm ?_ ?_
  · rcases b3 with z | ⟨p,hp,x,y,e⟩
    · rw [z]; exact a1
    · rw [e]; exact a2 p hp x y
  · rcases a3 with z | ⟨p,hp,x,y,e⟩
    · rw [z]; exact b1
    · rw [e]; exact b2 p hp x y
def stepN (ks : List (Int×Int)) (rs : List (List Int)) (v : Int→Int→Int) (i : Int) : Int:=freeF v (colAt rs 0 i) (colAt rs 1 i) ks
def bestGo (ks : List (Int×Int)) (rs : List (List Int)) : List Int→(Int→Int→Int)→List Int→(Int→Int→Int)×List Int
  | [],v,cs=>(v,cs)
  | i :: os,v,cs=>bestGo ks rs os (lessF v (colAt rs 0 i) (stepN ks rs v i)) (cs.set i.toNat (stepN ks rs v i))
theorem bestGo_append (ks : List (Int×Int)) (rs : List (List Int)) : ∀ (os ps : List Int) (v : Int→Int→Int) (cs : List Int),bestGo ks rs (os ++ ps) v cs=bestGo ks rs ps (bestGo ks rs os v cs).1 (bestGo ks rs os v cs).2
  | [],ps,v,cs=>rfl
  | i :: os,ps,v,cs=>bestGo_append ks rs os ps _ _
theorem bestGo_len (ks : List (Int×Int)) (rs : List (List Int)) : ∀ (os : List Int) (v : Int→Int→Int) (cs : List Int),(bestGo ks rs os v cs).2.length=cs.length
  | [],v,cs=>rfl
  | i :: os,v,cs=>by
    show (bestGo ks rs os _ _).2.length=_
    rw [bestGo_len,List.length_set]
def nN (ks : List (Int×Int)) (v : Int→Int→Int) : Prop:=∀ p∈ks,0≤v p.1 p.2
def Within (rs : List (List Int)) (cs : List Int) : Prop:=∀ (j : Nat) u,cs[j]? = some u→0≤u∧u≤colAt rs 1 (j : Int)
theorem step_in {ks : List (Int×Int)} {rs : List (List Int)} {v : Int→Int→Int} {i : Int} (hv : nN ks v) (hc : 0≤colAt rs 1 i) : 0≤stepN ks rs v i∧stepN ks rs v i≤colAt rs 1 i∧nN ks (lessF v (colAt rs 0 i) (stepN ks rs v i)):=by
  obtain ⟨h1,h2,h3⟩:=freeF_is v (colAt rs 0 i) (colAt rs 1 i) ks
  refine ⟨?_,h1,fun p hp=>?_⟩
  · rcases h3 with z | ⟨p,hp,_,_,e⟩
    · unfold stepN; rw [z]; exact hc
    · unfold stepN; rw [e]; exact hv p hp
  · unfold lessF
    split
    · rename_i c
      have:=h2 p hp c.1 c.2
      unfold stepN
      omega
    · exact hv p hp
theorem bestGo_in {ks : List (Int×Int)} {rs : List (List Int)} : ∀ (os : List Int) (v : Int→Int→Int) (cs : List Int),(∀ i∈os,0≤i∧0≤colAt rs 1 i)→nN ks v→Within rs cs→nN ks (bestGo ks rs os v cs).1∧Within rs (bestGo ks rs os v cs).2
  | [],v,cs,_,hv,hc=>⟨hv,hc⟩
  | i :: os,v,cs,ho,hv,hc=>by
    obtain ⟨i0,i1⟩:=ho i (.head _)
    obtain ⟨a1,a2,a3⟩:=step_in hv i1
    refine bestGo_in os _ _ (fun j hj=>ho j (.tail _ hj)) a3 fun j u e=>?_
    rw [List.getElem?_set] at e
    split at e
    · rename_i z
      split at e
      · cases e
        have : ((j : Nat) : Int)=i:=by omega
        rw [this]
        exact ⟨a1,a2⟩
      · cases e
    · exact hc j u e
def BestIs (rs os : List (List Int)) (tm : Int) (cs : List Int) : Prop:=∃ ds ord,DaysOf rs ds∧Ordered (keyD rs) rs.length ord∧cs=(bestGo (strOf ds) rs ord (goingOf os tm) (List.replicate rs.length 0)).2
theorem BestIs.len {rs os : List (List Int)} {tm : Int} {cs : List Int} (h : BestIs rs os tm cs) : cs.length=rs.length:=by
  obtain ⟨ds,ord,_,_,rfl⟩:=h
  rw [bestGo_len,List.length_replicate]
theorem days_uniq {rs rs' : List (List Int)} {ds ds' : List Int} (h : DaysOf rs ds) (h' : DaysOf rs' ds') (e : ∀ d,(∃ r∈rs,r.getD 0 0=d)↔∃ r∈rs',r.getD 0 0=d) : ds=ds':=by
  refine List.Perm.eq_of_pairwise (le:=(· < ·)) (fun a b _ _ x y=>by omega) h.1 h'.1 ?_
  refine (List.perm_ext_iff_of_nodup (nodup_of_lt h.1) (nodup_of_lt h'.1)).mpr fun d=>?_
  rw [h.2.1 d,h'.2.1 d]
  exact e d
theorem going_nn {os : List (List Int)} (h : ∀ r∈os,0≤r.getD 1 0) (tm f l : Int) : 0≤goingOf os tm f l:=by
  unfold goingOf
  have : ∀ qs : List (List Int),(∀ r∈qs,0≤r.getD 1 0)→0≤(qs.map fun r=>r.getD 1 0).sum:=by
    intro qs
    induction qs with
    | nil=>intro _; exact Int.le_refl _
    | cons r qs ih=>
      intro hh
      rw [List.map_cons,List.sum_cons]
      have:=hh r (.head _)
      have:=ih fun r hr=>hh r (.tail _ hr)
      omega
  exact this _ fun r hr=>h r (List.mem_filter.mp hr).1
theorem col_nn {rs : List (List Int)} (h : ∀ r∈rs,0≤r.getD 1 0) (i : Int) : 0≤colAt rs 1 i:=by
  unfold colAt
  rw [List.getD_eq_getElem?_getD (l:=rs)]
  cases e : rs[i.toNat]? with
  | none=>exact Int.le_refl _
  | some r=>exact h r (List.mem_of_getElem? e)
theorem BestIs.taken {rs os : List (List Int)} {tm : Int} {cs : List Int} (h : BestIs rs os tm cs) (hr : ∀ r∈rs,0≤r.getD 1 0) (ho : ∀ r∈os,0≤r.getD 1 0) : TakenOk rs cs:=by
  refine ⟨h.len,fun j r u hj er eu=>?_⟩
  obtain ⟨ds,ord,_,hord,rfl⟩:=h
  have w:=(bestGo_in (rs:=rs) (ks:=strOf ds) ord (goingOf os tm) (List.replicate rs.length 0) (fun i hi=>⟨(uptoN_mem.mp (hord.1.mem_iff.mp hi)).1,col_nn hr i⟩) (fun p _=>going_nn ho _ _ _) (fun j u e=>by
    have:=List.mem_of_getElem? e
    rw [(List.mem_replicate.mp this).2]
    exact ⟨Int.le_refl _,col_nn hr _⟩)).2 j u eu
  rw [show colAt rs 1 (j : Int)=r.getD 1 0 by unfold colAt; rw [row_at er]] at w
  exact w
theorem both_ok {rs os : List (List Int)} {tm : Int} (h : bothNo rs os tm=none) : rs.length≤30∧os.length≤30∧rowsBad rs=none∧rowsBad os=none:=by
  have one : ∀ {qs : List (List Int)},rowsNo qs=none→qs.length≤30∧rowsBad qs=none:=by
    intro qs e
    unfold rowsNo at e
    split at e
    · cases e
    · rename_i z
      exact ⟨by omega,Option.map_eq_none_iff.mp e⟩
  unfold bothNo at h
  cases e1 : rowsNo rs with
  | some n=>rw [e1] at h; cases h
  | none=>
    rw [e1] at h
    cases e2 : rowsNo os with
    | some n=>rw [e2] at h; cases h
    | none=>exact ⟨(one e1).1,(one e2).1,(one e1).2,(one e2).2⟩
end L2
namespace L2
open PySem PySem.Spec PySem.W PyProof.Rows
def slackTo (rs : List (List Int)) (ts : List Int) (v : Int→Int→Int) : Nat→Int→Int→Int
  | 0=>v
  | n + 1=>lessF (slackTo rs ts v n) (colAt rs 0 (n : Int)) (ts.getD n 0)
def takenTo (rs : List (List Int)) (ts : List Int) (f l : Int) : Nat→Int
  | 0=>0
  | n + 1=>takenTo rs ts f l n + if f≤colAt rs 0 (n : Int)∧colAt rs 0 (n : Int)≤l then ts.getD n 0 else 0
theorem slack_taken (rs : List (List Int)) (ts : List Int) (v : Int→Int→Int) (f l : Int) : ∀ n,slackTo rs ts v n f l=v f l - takenTo rs ts f l n
  | 0=>by show v f l=v f l - 0; omega
  | n + 1=>by
    have ih:=slack_taken rs ts v f l n
    show lessF (slackTo rs ts v n) (colAt rs 0 (n : Int)) (ts.getD n 0) f l=v f l - (takenTo rs ts f l n + if f≤colAt rs 0 (n : Int)∧colAt rs 0 (n : Int)≤l then ts.getD n 0 else 0)
    unfold lessF
    split <;> omega
def slackF (rs os : List (List Int)) (tm : Int) (ts : List Int) : Int→Int→Int:=slackTo rs ts (goingOf os tm) rs.length
end L2
namespace L2
open PySem PySem.Spec PySem.W PyProof.Rows
def reachB (tm d b : Int) : Bool:=decide (max 1 (d - tm)≤b∧b≤d)
def spReach (cl : Nat→Addr) : Sp:=fun vs H Q E=>∃ d tm : Int,vs=[.int d,.int tm]∧(¬ inB d 999→E (.ref (cl 1)) none H)∧(inB d 999→(¬ okTerm tm→E (.ref (cl 2)) none H)∧(okTerm tm→∀ p H',H p=none→Same H H'→H' p=some (.tup [.int (max 1 (d - tm)),.int d])→Q (.ref p) H'))
def spReaches : Sp:=fun vs H Q _=>∃ d tm b : Int,vs=[.int d,.int tm,.int b]∧inB d 999∧okTerm tm∧∀ H',Same H H'→Q (.bl (reachB tm d b)) H'
theorem both_term {rs os : List (List Int)} {tm : Int} (h : bothNo rs os tm=none) : okTerm tm:=by
  have h':=h
  unfold bothNo at h
  cases e1 : rowsNo rs with
  | some n=>rw [e1] at h; cases h
  | none=>
    rw [e1] at h
    cases e2 : rowsNo os with
    | some n=>rw [e2] at h; cases h
    | none=>
      rw [bothNo_term e1 e2] at h'
      by_cases c : okTerm tm
      · exact c
      · rw [if_neg c] at h'; cases h'
theorem out_day {os : List (List Int)} (h : rowsBad os=none) (h2 : ∀ r∈os,r.length=2) : ∀ r∈os,r.length=2∧inB (r.getD 0 0) 999:=by
  unfold rowsBad at h
  rw [List.findSome?_eq_none_iff] at h
  intro r hr
  have e:=h r hr
  refine ⟨h2 r hr,?_⟩
  obtain ⟨d,c,rfl⟩:=len2 (h2 r hr)
  simp only [rowBad] at e
  split at e
  · rename_i z; exact z
  · cases e
end L2
namespace K14
open PySem L2
abbrev s_reach : Stmt:=top 14
abbrev n_reach : List Str:=["day","term"]
abbrev p_reach : List Str:=["day","term"]
theorem sc_reach : FnScope n_reach p_reach (defScope s_reach):=⟨rfl,rfl,rfl,by decide +kernel,rfl,by decide +kernel,by decide +kernel⟩
abbrev s_reaches : Stmt:=top 26
abbrev n_reaches : List Str:=["day","term","back","first","last"]
abbrev p_reaches : List Str:=["day","term","back"]
theorem sc_reaches : FnScope n_reaches p_reaches (defScope s_reaches):=⟨rfl,rfl,rfl,by decide +kernel,rfl,by decide +kernel,by decide +kernel⟩
section
variable {P : Program} {w : World} {K : PySem.W.Frag} {mg : Str→Option Value} {base : Heap} {f : Addr} {fd : FuncData} {cl : Nat→Addr} (T : Txt K mg cl) (B : Bn mg)
include T B
theorem ok_reach (G_check_day : Cal P w K mg base (CXE P w) 2 "check_day" p_check_day (spIn (cl 1) 999)) (G_check_term : Cal P w K mg base (CXE P w) 2 "check_term" p_check_term (spTerm (cl 2))) (F : Fun K "reach" "reach" s_reach f fd) : FnOk P w K mg base (CXE P w) 3 f fd p_reach (spReach cl):=by
  refine F.okE sc_reach (fun vs H Q E h=>?_) (fun cdv A outer s H vs Q E hr h=>?_)
  · obtain ⟨d,tm,rfl,_⟩:=h; rfl
  obtain ⟨d,tm,rfl,q1,q2⟩:=h
  refine ⟨_,(pss_cons (ps_expr (pe_cal (E:=E) G_check_day hr rfl (passE fun _ _ z=>z) (pa_c (pv 0) pa_nil)))
    (pss_cons (ps_expr (pe_cal (E:=E) G_check_term hr rfl (passE fun _ _ z=>z) (pa_c (pv 1) pa_nil)))
    (pss_one (ps_ret (pe_tup (pa_c (pe_callB (call_max2 rfl) rfl B.max PyProof.Rows.boot_max (pa_c (pe_glI rfl T.FIRST_DAY) (pa_c (pe_op op_sub (pv 0) (pv 1)) pa_nil))) (pa_c (pv 0) pa_nil))))))),?_⟩
  refine ⟨_,rfl,d,rfl,fun c=>?_,q1⟩
  obtain ⟨q3,q4⟩:=q2 c
  refine ⟨_,rfl,tm,rfl,fun c2=>?_,q3⟩
  refine ⟨_,rfl,_,rfl,_,_,rfl,rfl,_,_,rfl,_,rfl,by show 2≤sizeLine; decide,fun p hp=>?_⟩
  refine q4 c2 p _ hp (same_new hp _) ?_
  have e : (if d - tm > 1 then d - tm else 1)=max 1 (d - tm):=by split <;> omega
  rw [← e]
  exact upd_same
theorem ok_reaches (G_reach : Cal P w K mg base (CXE P w) 3 "reach" p_reach (spReach cl)) (F : Fun K "reaches" "reaches" s_reaches f fd) : FnOk P w K mg base CX0 4 f fd p_reaches spReaches:=by
  refine F.ok sc_reaches (fun vs H Q E h=>?_) (fun cdv A outer s H vs Q E hr h=>?_)
  · obtain ⟨d,tm,b,rfl,_⟩:=h; rfl
  obtain ⟨d,tm,b,rfl,hd,ht,q⟩:=h
  refine ⟨_,(pss_cons (ps_asg (pe_cal G_reach hr rfl passN (pa_c (pv 0) (pa_c (pv 1) pa_nil))) (pg_tup rfl (pgs_cons (pg_name (i:=3) sc_reaches.nd rfl (Or.inl rfl)) (pgs_cons (pg_name (i:=4) sc_reaches.nd rfl (Or.inl rfl)) pgs_nil))))
    (pss_one (ps_ret (pe_chain op_le op_le (pv 3) (pv 2) (pv 4))))),?_⟩
  refine ⟨_,rfl,_,rfl,d,tm,rfl,fun z=>absurd hd z,fun _=>⟨fun z=>absurd ht z,fun _ p H1 hp s1 e1=>?_⟩⟩
  refine ⟨p,_,rfl,SqT.of e1,rfl,_,_,rfl,_,_,rfl,rfl,?_⟩
  have e : ∀ z : Bool,z=reachB tm d b→Q (.bl z) H1:=fun z ez=>by rw [ez]; exact q H1 s1
  refine ⟨_,rfl,_,rfl,_,_,rfl,rfl,_,rfl,?_⟩
  refine ite2 (fun c=>?_) (fun c=>?_)
  · have c1:=of_decide_eq_true c
    refine ⟨_,rfl,_,_,rfl,rfl,e _ ?_⟩
    unfold reachB
    by_cases z : b≤d
    · rw [decide_eq_true z,decide_eq_true ⟨c1,z⟩]
    · rw [decide_eq_false z,decide_eq_false fun y=>z y.2]
  · have c1:=of_decide_eq_false (Bool.eq_false_iff.mpr c)
    refine e _ ?_
    unfold reachB
    rw [decide_eq_false fun y=>c1 y.1]
end
end K14
namespace L2
open PySem PySem.Spec PyProof.Rows
def lpw (m : Nat) (h : Int) : Nat→Nat×Nat
  | 0=>(SetTable.bits h % (m + 1),SetTable.bits h)
  | k + 1=>SetTable.leap m (lpw m h k).1 (lpw m h k).2
def rlw (m i : Nat) : Nat:=SetTable.runEnd m i - i
theorem rlw_le (m i : Nat) : rlw m i≤9:=by unfold rlw SetTable.runEnd; split <;> omega
theorem rlw_run (m i : Nat) : SetTable.runEnd m i=i + rlw m i:=by unfold rlw SetTable.runEnd; split <;> omega
theorem rlw_in {m i r : Nat} (hi : i≤m) (h : r≤rlw m i) : i + r≤m:=by
  unfold rlw SetTable.runEnd at h; split at h <;> omega
theorem lpw_le (m : Nat) (h : Int) : ∀ k,(lpw m h k).1≤m
  | 0=>Nat.le_of_lt_succ (Nat.mod_lt _ (Nat.succ_pos _))
  | k + 1=>Nat.le_of_lt_succ (Nat.mod_lt _ (Nat.succ_pos _))
theorem lpw_pert (m : Nat) (h : Int) : ∀ k,(lpw m h k).2=SetTable.bits h / 32 ^ k
  | 0=>by rw [Nat.pow_zero,Nat.div_one]; rfl
  | k + 1=>by
    show (lpw m h k).2 / 32=_
    rw [lpw_pert m h k,Nat.div_div_eq_div_mul,Nat.pow_succ]
theorem lpw_late (m : Nat) (h : Int) (k : Nat) (hk : 13≤k) : (lpw m h k).2=0:=by
  rw [lpw_pert]
  refine Nat.div_eq_of_lt ?_
  have h1 : SetTable.bits h < 2 ^ 64:=by
    unfold SetTable.bits
    have:=Int.emod_lt_of_pos h (show (0 : Int) < 2 ^ 64 by decide)
    have:=Int.emod_nonneg h (show (2 ^ 64 : Int)≠0 by decide)
    omega
  exact Nat.lt_of_lt_of_le h1 (Nat.le_trans (show 2 ^ 64≤32 ^ 13 by decide) (Nat.pow_le_pow_right (by decide) hk))
def itw (m : Nat) : Nat→Nat→Nat
  | 0,i=>i
  | k + 1,i=>(itw m k i * 5 + 1) % (m + 1)
theorem itw_add (m : Nat) : ∀ a b i,itw m (a + b) i=itw m a (itw m b i)
  | 0,b,i=>by rw [Nat.zero_add]; rfl
  | a + 1,b,i=>by
    rw [show a + 1 + b=(a + b) + 1 by omega]
    show (itw m (a + b) i * 5 + 1) % (m + 1)=(itw m a (itw m b i) * 5 + 1) % (m + 1)
    rw [itw_add m a b i]
theorem lpw_it (m : Nat) (h : Int) : ∀ d,(lpw m h (13 + d)).1=itw m d (lpw m h 13).1
  | 0=>rfl
  | d + 1=>by
    show ((lpw m h (13 + d)).1 * 5 + 1 + (lpw m h (13 + d)).2 / 32) % (m + 1)=(itw m d (lpw m h 13).1 * 5 + 1) % (m + 1)
    rw [lpw_late m h (13 + d) (by omega),lpw_it m h d,Nat.zero_div,Nat.add_zero]
def FullW (m : Nat) : Prop:=itw m (m + 1) 0=0∧∀ e,e≤m→∃ d,d≤m∧itw m d 0=e
theorem fullW_of {m : Nat} (h0 : itw m (m + 1) 0=0) (h : ((List.range (m + 1)).all fun e=>((List.range (m + 1)).map fun d=>itw m d 0).contains e)=true) : FullW m:=by
  refine ⟨h0,fun e he=>?_⟩
  have h1:=List.all_eq_true.mp h e (List.mem_range.mpr (by omega))
  obtain ⟨d,hd,e1⟩:=List.mem_map.mp (List.contains_iff_mem.mp h1)
  exact ⟨d,Nat.le_of_lt_succ (List.mem_range.mp hd),e1⟩
theorem full7 : FullW 7:=fullW_of (by decide +kernel) (by decide +kernel)
theorem full31 : FullW 31:=fullW_of (by decide +kernel) (by decide +kernel)
theorem full127 : FullW 127:=fullW_of (by decide +kernel) (by decide +kernel)
theorem FullW.reach {m : Nat} (F : FullW m) (h : Int) {e : Nat} (he : e≤m) : ∃ K,K≤13 + m∧(lpw m h K).1=e:=by
  obtain ⟨f0,f1⟩:=F
  obtain ⟨a,ha,ea⟩:=f1 _ (lpw_le m h 13)
  obtain ⟨b,hb,eb⟩:=f1 e he
  by_cases c : a≤b
  · refine ⟨13 + (b - a),by omega,?_⟩
    rw [lpw_it,← ea,← itw_add,show b - a + a=b by omega]; exact eb
  · refine ⟨13 + (m + 1 - a + b),by omega,?_⟩
    rw [lpw_it,← ea,← itw_add,show m + 1 - a + b + a=b + (m + 1) by omega,itw_add,f0]; exact eb
def BefW (m : Nat) (h : Int) (P : Nat→Prop) (k r : Nat) : Prop:=(∀ k',k' < k→∀ r',r'≤rlw m (lpw m h k').1→P ((lpw m h k').1 + r'))∧∀ r',r' < r→P ((lpw m h k).1 + r')
theorem BefW.zero {m : Nat} {h : Int} {P : Nat→Prop} : BefW m h P 0 0:=⟨fun k' hk=>absurd hk (Nat.not_lt_zero _),fun r' hr=>absurd hr (Nat.not_lt_zero _)⟩
theorem BefW.next {m : Nat} {h : Int} {P : Nat→Prop} {k r : Nat} (b : BefW m h P k r) (p : P ((lpw m h k).1 + r)) : BefW m h P k (r + 1):=
  ⟨b.1,fun r' hr=>(Nat.lt_succ_iff_lt_or_eq.mp hr).elim (b.2 r') fun e=>e ▸ p⟩
theorem BefW.leap {m : Nat} {h : Int} {P : Nat→Prop} {k r : Nat} (b : BefW m h P k r) (p : P ((lpw m h k).1 + r)) (hr : rlw m (lpw m h k).1≤r) : BefW m h P (k + 1) 0:=
  ⟨fun k' hk r' hr'=>(Nat.lt_succ_iff_lt_or_eq.mp hk).elim (fun z=>b.1 k' z r' hr') fun e=>by
    subst e
    by_cases c : r' < r
    · exact b.2 r' c
    · rw [show r' = r by omega]; exact p,fun r' hr=>absurd hr (Nat.not_lt_zero _)⟩
theorem BefW.mono {m : Nat} {h : Int} {P R : Nat→Prop} {k r : Nat} (b : BefW m h P k r) (f : ∀ j,P j→R j) : BefW m h R k r:=⟨fun k' hk r' hr=>f _ (b.1 k' hk r' hr),fun r' hr=>f _ (b.2 r' hr)⟩
def OnW (m : Nat) (h : Int) (P : Nat→Prop) (j : Nat) : Prop:=∃ k r,r≤rlw m (lpw m h k).1∧j=(lpw m h k).1 + r∧BefW m h P k r
theorem OnW.mono {m : Nat} {h : Int} {P R : Nat→Prop} {j : Nat} (b : OnW m h P j) (f : ∀ j,P j→R j) : OnW m h R j:=let ⟨k,r,h1,h2,h3⟩:=b; ⟨k,r,h1,h2,h3.mono f⟩
theorem OnW.le {m : Nat} {h : Int} {P : Nat→Prop} {j : Nat} (b : OnW m h P j) : j≤m:=let ⟨k,r,h1,h2,_⟩:=b; h2 ▸ rlw_in (lpw_le m h k) h1
theorem onW_first {m : Nat} {h : Int} {P R : Nat→Prop} {k r j : Nat} (hr : r≤rlw m (lpw m h k).1) (b : BefW m h P k r) (o : OnW m h R j) (n1 : ¬ R ((lpw m h k).1 + r)) (n2 : ¬ P j) : j=(lpw m h k).1 + r:=by
  obtain ⟨k2,r2,h1,rfl,b2⟩:=o
  rcases Nat.lt_trichotomy k2 k with z | z | z
  · exact absurd (b.1 k2 z r2 h1) n2
  · subst z
    rcases Nat.lt_trichotomy r2 r with y | y | y
    · exact absurd (b.2 r2 y) n2
    · rw [y]
    · exact absurd (b2.2 r y) n1
  · exact absurd (b2.1 k z r hr) n1
def prw (m : Nat) (h : Int) (k r : Nat) : SetTable.Probe:={ j:=(lpw m h k).1 + r,more:=rlw m (lpw m h k).1 - r,i:=(lpw m h k).1,perturb:=(lpw m h k).2,dummy:=none }
theorem prw_start (t : SetTable) (h : Int) : t.probeStart h=prw t.mask h 0 0:=rfl
theorem prw_next {t : SetTable} {h : Int} {k r : Nat} (hr : r < rlw t.mask (lpw t.mask h k).1) : t.advance (prw t.mask h k r)=prw t.mask h k (r + 1):=by
  unfold SetTable.advance prw
  dsimp only
  rw [if_pos (by omega)]
  congr 1
theorem prw_leap {t : SetTable} {h : Int} {k r : Nat} (hr : rlw t.mask (lpw t.mask h k).1≤r) : t.advance (prw t.mask h k r)=prw t.mask h (k + 1) 0:=by
  unfold SetTable.advance prw
  dsimp only
  rw [if_neg (by omega)]
  rfl
def Liv (p : Array Nat) (j : Nat) : Prop:=∃ i : Nat,p[i]? = some j
theorem rise_inj {p : Array Nat} (R : Rise p) {i k j : Nat} (h1 : p[i]? = some j) (h2 : p[k]? = some j) : i=k:=by
  obtain ⟨a1,b1⟩:=Array.getElem?_eq_some_iff.mp h1
  obtain ⟨a2,b2⟩:=Array.getElem?_eq_some_iff.mp h2
  rcases Nat.lt_trichotomy i k with z | z | z
  · have:=R i k a1 a2 z; omega
  · exact z
  · have:=R k i a2 a1 z; omega
theorem slot_live {t : SetTable} (R : Rise t.place) {i j : Nat} (h : t.place[i]? = some j) : t.slot j = .live i:=by
  obtain ⟨b1,b2,b3⟩:=below_at R j
  obtain ⟨a1,a2⟩:=Array.getElem?_eq_some_iff.mp h
  have e : SetTable.below t.place j=i:=by
    rcases Nat.lt_trichotomy (SetTable.below t.place j) i with z | z | z
    · have h1:=b3 _ (by omega) (Nat.le_refl _)
      have h2:=R _ i (by omega) a1 z
      omega
    · exact z
    · have:=b2 i a1 z; omega
  unfold SetTable.slot
  dsimp only
  rw [e,h]
  simp
theorem slot_none {t : SetTable} {j : Nat} (hd : t.dummies = #[]) (h : ¬ Liv t.place j) : t.slot j = .empty:=by
  unfold SetTable.slot
  dsimp only
  rw [if_neg (fun e=>h ⟨_,by simpa using e⟩),hd]
  simp [SetTable.has]
theorem slot_cases {t : SetTable} (R : Rise t.place) (hd : t.dummies = #[]) (j : Nat) : (∃ i,t.place[i]? = some j∧t.slot j = .live i)∨(¬ Liv t.place j∧t.slot j = .empty):=by
  by_cases c : Liv t.place j
  · obtain ⟨i,e⟩:=c; exact .inl ⟨i,e,slot_live R e⟩
  · exact .inr ⟨c,slot_none hd c⟩
theorem free_slot {p : Array Nat} {m : Nat} (R : Rise p) (hz : p.size≤m) : ∃ e,e≤m∧¬ Liv p e:=by
  apply Classical.byContradiction
  intro n
  have all : ∀ e,e≤m→Liv p e:=fun e he=>Classical.byContradiction fun c=>n ⟨e,he,c⟩
  have ge : ∀ e,e≤m→∀ i : Nat,p[i]? = some e→e≤i:=by
    intro e
    induction e with
    | zero=>intro _ i _; omega
    | succ e ih=>
      intro he i hi
      obtain ⟨k,hk⟩:=all e (by omega)
      have:=ih (by omega) k hk
      obtain ⟨a1,a2⟩:=Array.getElem?_eq_some_iff.mp hi
      obtain ⟨c1,c2⟩:=Array.getElem?_eq_some_iff.mp hk
      rcases Nat.lt_trichotomy i k with z | z | z
      · have:=R i k a1 c1 z; omega
      · subst z; omega
      · omega
  obtain ⟨i,hi⟩:=all m (Nat.le_refl _)
  have:=ge m (Nat.le_refl _) i hi
  obtain ⟨a1,_⟩:=Array.getElem?_eq_some_iff.mp hi
  omega
end L2
namespace L2
open PySem PySem.Spec PyProof.Rows
def OwnW (ow : Array (Option Nat)) (j : Nat) : Prop:=∃ k,ow.getD j none=some k
theorem getD_some0 {ow : Array (Option Nat)} {j : Nat} (h : j < ow.size) : ow.getD j (some 0)=ow.getD j none:=by
  rw [Array.getD_eq_getD_getElem?,Array.getD_eq_getD_getElem?,Array.getElem?_eq_getElem h]; rfl
theorem free_go {m : Nat} {h : Int} {ow : Array (Option Nat)} (hz : ow.size=m + 1) : ∀ (fuel k K : Nat),BefW m h (OwnW ow) k 0→k≤K→K - k < fuel→ow.getD (lpw m h K).1 none=none→
    ∃ j,SetTable.layClean.free m ow fuel (lpw m h k).1 (lpw m h k).2=some j∧OnW m h (OwnW ow) j∧ow.getD j none=none:=by
  intro fuel
  induction fuel with
  | zero=>intro k K _ _ z; omega
  | succ f ih=>
    intro k K b hk hf he
    have hi:=lpw_le m h k
    have rl:=rlw_run m (lpw m h k).1
    have atj : ∀ r,r≤rlw m (lpw m h k).1→ow.getD ((lpw m h k).1 + r) (some 0)=ow.getD ((lpw m h k).1 + r) none:=fun r hr=>getD_some0 (by have:=rlw_in hi hr; omega)
    unfold SetTable.layClean.free
    have el : SetTable.runEnd m (lpw m h k).1 + 1 - (lpw m h k).1=rlw m (lpw m h k).1 + 1:=by rw [rl]; omega
    rw [el]
    cases q : (List.range (rlw m (lpw m h k).1 + 1)).find? fun r=>(ow.getD ((lpw m h k).1 + r) (some 0)).isNone with
    | some r=>
      obtain ⟨p1,p2,p3⟩:=List.find?_range_eq_some.mp q
      have hr : r≤rlw m (lpw m h k).1:=Nat.le_of_lt_succ (List.mem_range.mp p2)
      refine ⟨_,rfl,⟨k,r,hr,rfl,b.1,fun r' hr'=>?_⟩,?_⟩
      · have:=p3 r' hr'
        rw [atj r' (by omega)] at this
        cases c : ow.getD ((lpw m h k).1 + r') none with
        | none=>rw [c] at this; simp at this
        | some v=>exact ⟨v,c⟩
      · rw [← atj r hr]; simpa using p1
    | none=>
      have no:=List.find?_range_eq_none.mp q
      have all : ∀ r,r≤rlw m (lpw m h k).1→OwnW ow ((lpw m h k).1 + r):=fun r hr=>by
        have:=no r (by omega)
        rw [atj r hr] at this
        cases c : ow.getD ((lpw m h k).1 + r) none with
        | none=>rw [c] at this; simp at this
        | some v=>exact ⟨v,c⟩
      have nk : k≠K:=fun e=>by
        obtain ⟨v,e1⟩:=all 0 (Nat.zero_le _)
        rw [Nat.add_zero,e,he] at e1
        cases e1
      refine ih (k + 1) K ⟨fun k' hk' r' hr'=>?_,fun r' hr'=>absurd hr' (Nat.not_lt_zero _)⟩ (by omega) (by omega) he
      rcases Nat.lt_succ_iff_lt_or_eq.mp hk' with z | z
      · exact b.1 k' z r' hr'
      · subst z; exact all r' hr'
def cntW (m : Nat) (f : Nat→Bool) : Nat:=(List.range (m + 1)).countP f
theorem cnt_bump {f g : Nat→Bool} {j0 : Nat} (h1 : f j0=false) (h2 : g j0=true) (h3 : ∀ j,j≠j0→g j=f j) : ∀ n,(List.range n).countP g=(List.range n).countP f + if j0 < n then 1 else 0
  | 0=>rfl
  | n + 1=>by
    rw [List.range_succ,List.countP_append,List.countP_append,cnt_bump h1 h2 h3 n,List.countP_singleton,List.countP_singleton]
    by_cases c : n=j0
    · subst c; simp [h1,h2]
    · rw [h3 n c]
      have : (j0 < n + 1)=(j0 < n):=propext ⟨fun z=>by omega,fun z=>by omega⟩
      simp only [this]
      omega
theorem cnt_free {m : Nat} {f : Nat→Bool} (h : cntW m f≤m) : ∃ e,e≤m∧f e=false:=by
  apply Classical.byContradiction
  intro n
  have : cntW m f=m + 1:=by
    unfold cntW
    have:=List.countP_eq_length (p:=f) (l:=List.range (m + 1))
    rw [List.length_range] at this
    refine this.mpr fun a ha=>?_
    cases c : f a with
    | true=>rfl
    | false=>exact absurd ⟨a,Nat.le_of_lt_succ (List.mem_range.mp ha),c⟩ n
  omega
structure LayW (m : Nat) (ds : List Int) (ow : Array (Option Nat)) : Prop where
  sz : ow.size=m + 1
  cnt : cntW m (fun j=>(ow.getD j none).isSome)=ds.length
  has : ∀ k h,ds[k]? = some h→∃ j,ow.getD j none=some k∧OnW m h (OwnW ow) j
  low : ∀ j k,ow.getD j none=some k→∃ h,ds[k]? = some h∧OnW m h (OwnW ow) j
theorem layW_step {m : Nat} (F : FullW m) {ds : List Int} {ow : Array (Option Nat)} (L : LayW m ds ow) (hm : ds.length≤m) (h : Int) :
    ∃ j,SetTable.layClean.free m ow (SetTable.turns m) (SetTable.bits h % (m + 1)) (SetTable.bits h)=some j∧LayW m (ds ++ [h]) (ow.setIfInBounds j (some ds.length)):=by
  obtain ⟨e,he,fe⟩:=cnt_free (m:=m) (f:=fun j=>(ow.getD j none).isSome) (by rw [L.cnt]; exact hm)
  have fe' : ow.getD e none=none:=by cases c : ow.getD e none with
    | none=>rfl
    | some v=>rw [c] at fe; cases fe
  obtain ⟨K,hK,eK⟩:=F.reach h he
  obtain ⟨j,h1,h2,h3⟩:=free_go L.sz (SetTable.turns m) 0 K BefW.zero (Nat.zero_le _) (by unfold SetTable.turns; omega) (by rw [eK]; exact fe')
  have hj:=h2.le
  have gs : ∀ i,(ow.setIfInBounds j (some ds.length)).getD i none=if i=j then some ds.length else ow.getD i none:=fun i=>by
    rw [Array.getD_eq_getD_getElem?,Array.getD_eq_getD_getElem?,Array.getElem?_setIfInBounds]
    by_cases c : i=j
    · subst c; rw [if_pos rfl,if_pos rfl,if_pos (by rw [L.sz]; omega)]; rfl
    · rw [if_neg (fun z=>c z.symm),if_neg c]
  have grow : ∀ i,OwnW ow i→OwnW (ow.setIfInBounds j (some ds.length)) i:=fun i ⟨k,hk⟩=>by
    refine ⟨k,?_⟩
    rw [gs,if_neg (fun z=>by rw [z,h3] at hk; cases hk)]; exact hk
  refine ⟨j,h1,by rw [Array.size_setIfInBounds]; exact L.sz,?_,?_,?_⟩
  · unfold cntW
    rw [cnt_bump (f:=fun j=>(ow.getD j none).isSome) (j0:=j) (by rw [h3]; rfl) (by rw [gs,if_pos rfl]; rfl) (fun i hi=>by rw [gs,if_neg hi]),if_pos (by omega),List.length_append]
    have:=L.cnt
    unfold cntW at this
    rw [this]
    rfl
  · intro k g hk
    by_cases c : k < ds.length
    · rw [List.getElem?_append_left c] at hk
      obtain ⟨i,q1,q2⟩:=L.has k g hk
      refine ⟨i,?_,q2.mono grow⟩
      rw [gs,if_neg (fun z=>by rw [z,h3] at q1; cases q1)]; exact q1
    · have c2 : k=ds.length:=by
        have:=(List.getElem?_eq_some_iff.mp hk).1
        rw [List.length_append,List.length_singleton] at this
        omega
      subst c2
      rw [List.getElem?_append_right (Nat.le_refl _),Nat.sub_self] at hk
      cases hk
      exact ⟨j,by rw [gs,if_pos rfl],h2.mono grow⟩
  · intro i k hk
    rw [gs] at hk
    by_cases c : i=j
    · rw [if_pos c] at hk
      cases hk
      subst c
      exact ⟨h,by rw [List.getElem?_append_right (Nat.le_refl _),Nat.sub_self]; rfl,h2.mono grow⟩
    · rw [if_neg c] at hk
      obtain ⟨g,q1,q2⟩:=L.low i k hk
      exact ⟨g,by rw [List.getElem?_append_left (List.getElem?_eq_some_iff.mp q1).1]; exact q1,q2.mono grow⟩
theorem layW_fold {m : Nat} (F : FullW m) : ∀ (hs ds : List Int) (ow : Array (Option Nat)),LayW m ds ow→ds.length + hs.length≤m + 1→
    ∃ ow',hs.foldl (fun (acc : Option (Array (Option Nat)×Nat)) h=>do
      let (owner,k) ← acc
      let j ← SetTable.layClean.free m owner (SetTable.turns m) (SetTable.bits h % (m + 1)) (SetTable.bits h)
      pure (owner.setIfInBounds j (some k),k + 1)) (some (ow,ds.length))=some (ow',ds.length + hs.length)∧LayW m (ds ++ hs) ow'
  | [],ds,ow,L,_=>⟨ow,rfl,by rw [List.append_nil]; exact L⟩
  | h :: hs,ds,ow,L,hm=>by
    rw [List.length_cons] at hm
    obtain ⟨j,e,L'⟩:=layW_step F L (by omega) h
    obtain ⟨ow',e2,L2⟩:=layW_fold F hs (ds ++ [h]) _ L' (by rw [List.length_append,List.length_singleton]; omega)
    refine ⟨ow',?_,by rw [List.append_assoc] at L2; exact L2⟩
    rw [List.foldl_cons]
    have : (do
      let (owner,k) ← (some (ow,ds.length) : Option (Array (Option Nat)×Nat))
      let j ← SetTable.layClean.free m owner (SetTable.turns m) (SetTable.bits h % (m + 1)) (SetTable.bits h)
      pure (owner.setIfInBounds j (some k),k + 1))=some (ow.setIfInBounds j (some ds.length),ds.length + 1):=by
      show (SetTable.layClean.free m ow (SetTable.turns m) (SetTable.bits h % (m + 1)) (SetTable.bits h)).bind _=_
      rw [e]; rfl
    rw [this]
    rw [List.length_append,List.length_singleton] at e2
    rw [e2,List.length_cons]
    congr 2
    omega
theorem layW_clean {m : Nat} (F : FullW m) (hs : Array Int) (hm : hs.size≤m + 1) : ∃ ow,SetTable.layClean m hs=some ow∧LayW m hs.toList ow:=by
  have L0 : LayW m [] (Array.replicate (m + 1) none):=by
    have g0 : ∀ j,(Array.replicate (m + 1) (none : Option Nat)).getD j none=none:=fun j=>by
      rw [Array.getD_eq_getD_getElem?,Array.getElem?_replicate]; split <;> rfl
    refine ⟨Array.size_replicate,?_,fun k h hk=>by simp at hk,fun j k hk=>by rw [g0] at hk; cases hk⟩
    unfold cntW
    rw [List.length_nil]
    exact List.countP_eq_zero.mpr fun a _=>by rw [g0]; simp
  obtain ⟨ow,e,L⟩:=layW_fold F hs.toList [] _ L0 (by rw [List.length_nil,Array.length_toList]; omega)
  refine ⟨ow,?_,by simpa using L⟩
  unfold SetTable.layClean
  rw [← Array.foldl_toList]
  rw [List.length_nil] at e
  rw [e]
  rfl
theorem laid_ok {m fi mv : Nat} {led pl : Bool} (F : FullW m) (hs : Array Int) (hm : hs.size≤m + 1) : ∃ t order,SetTable.laid m fi mv led pl hs=some (t,order)∧t.mask=m∧t.dummies = #[]∧t.moves=mv∧t.led=led∧Rise t.place∧t.place.size=hs.size∧order.size=hs.size∧
    (∀ (i k : Nat),order[i]? = some k→∃ j h,t.place[i]? = some j∧hs[k]? = some h∧OnW m h (Liv t.place) j)∧∀ k,k < hs.size→∃ i : Nat,order[i]? = some k:=by
  obtain ⟨ow,e,L⟩:=layW_clean F hs hm
  have live_len : ((List.range (m + 1)).filterMap fun j=>(ow.getD j none).map (j,·)).length=hs.size:=by
    rw [List.length_filterMap_eq_countP,← Array.length_toList,← L.cnt]
    unfold cntW
    congr 1
    funext j
    rw [Option.isSome_map]
  have mem_of : ∀ j k,ow.getD j none=some k→(j,k)∈(List.range (m + 1)).filterMap fun j=>(ow.getD j none).map (j,·):=fun j k hk=>by
    refine List.mem_filterMap.mpr ⟨j,List.mem_range.mpr ?_,by rw [hk]; rfl⟩
    apply Classical.byContradiction
    intro c
    rw [Array.getD_eq_getD_getElem?,Array.getElem?_eq_none (by rw [L.sz]; omega)] at hk
    cases hk
  have of_mem : ∀ p,p∈((List.range (m + 1)).filterMap fun j=>(ow.getD j none).map (j,·))→ow.getD p.1 none=some p.2:=fun p hp=>by
    obtain ⟨j,_,e1⟩:=List.mem_filterMap.mp hp
    cases q : ow.getD j none with
    | none=>rw [q] at e1; cases e1
    | some v=>rw [q] at e1; cases e1; exact q
  have pw : (((List.range (m + 1)).filterMap fun j=>(ow.getD j none).map (j,·)).map (·.1)).Pairwise (· < ·):=by
    rw [List.pairwise_map]
    refine List.Pairwise.filterMap (R:=(· < ·)) _ (fun a a' haa b hb b' hb'=>?_) List.pairwise_lt_range
    cases q1 : ow.getD a none with
    | none=>rw [q1] at hb; cases hb
    | some v1=>
      cases q2 : ow.getD a' none with
      | none=>rw [q2] at hb'; cases hb'
      | some v2=>rw [q1] at hb; rw [q2] at hb'; cases hb; cases hb'; exact haa
  refine ⟨_,_,by unfold SetTable.laid; rw [e]; rfl,rfl,rfl,rfl,rfl,?_,?_,?_,?_,?_⟩
  · intro i j hi hj hij
    have:=List.pairwise_iff_getElem.mp pw i j (by simpa using hi) (by simpa using hj) hij
    simpa using this
  · show (List.toArray _).size=_
    rw [List.size_toArray,List.length_map]; exact live_len
  · show (List.toArray _).size=_
    rw [List.size_toArray,List.length_map]; exact live_len
  · intro i k hk
    rw [List.getElem?_toArray,List.getElem?_map] at hk
    obtain ⟨p,e1,e2⟩:=Option.map_eq_some_iff.mp hk
    obtain ⟨h,q1,q2⟩:=L.low p.1 p.2 (of_mem p (List.mem_of_getElem? e1))
    refine ⟨p.1,h,by show (List.toArray _)[_]? = _; rw [List.getElem?_toArray,List.getElem?_map,e1]; rfl,?_,q2.mono fun j ⟨v,hv⟩=>?_⟩
    · rw [← Array.getElem?_toList,← e2]; exact q1
    · obtain ⟨i',hi'⟩:=List.mem_iff_getElem?.mp (mem_of j v hv)
      exact ⟨i',by show (List.toArray _)[_]? = _; rw [List.getElem?_toArray,List.getElem?_map,hi']; rfl⟩
  · intro k hk
    obtain ⟨j,q1,_⟩:=L.has k _ (List.getElem?_eq_getElem (by rw [Array.length_toList]; exact hk))
    obtain ⟨i,hi⟩:=List.mem_iff_getElem?.mp (mem_of j k q1)
    exact ⟨i,by rw [List.getElem?_toArray,List.getElem?_map,hi]; rfl⟩
end L2
namespace L2
open PySem PySem.Spec PyProof.Rows
structure TabT (es : Array (Int×Value)) (t : SetTable) : Prop where
  dum : t.dummies = #[]
  ris : Rise t.place
  sz : t.place.size=es.size
  msk : t.mask=7∨t.mask=31∨t.mask=127
  few : es.size * 5 < t.mask * 3
  on : ∀ (i : Nat) e j,es[i]? = some e→t.place[i]? = some j→OnW t.mask e.1 (Liv t.place) j
theorem TabT.full {es : Array (Int×Value)} {t : SetTable} (T : TabT es t) : FullW t.mask:=by
  rcases T.msk with e | e | e <;> rw [e]
  · exact full7
  · exact full31
  · exact full127
theorem TabT.fits {es : Array (Int×Value)} {t : SetTable} (T : TabT es t) : t.fits es.size=true:=by
  have h1:=T.sz
  have h2:=T.few
  simp only [SetTable.fits,SetTable.fill,T.dum,Bool.and_eq_true,beq_iff_eq,decide_eq_true_eq]
  exact ⟨h1,by rw [h1]; simp; omega⟩
theorem TabT.gave {es : Array (Int×Value)} {t : SetTable} (T : TabT es t) : t.gaveWay=false:=by
  unfold SetTable.gaveWay
  rcases T.msk with e | e | e <;> rw [e] <;> rfl
theorem probe_way {t : SetTable} {hashAt : Nat→Int} {h : Int} {P : Nat→Prop} {K : Nat} (R : Rise t.place) (hd : t.dummies = #[]) (hP : ∀ (i : Nat) j,t.place[i]? = some j→hashAt i≠h→P j) (hK : ¬ Liv t.place (lpw t.mask h K).1) :
    ∀ (fuel k r : Nat),r≤rlw t.mask (lpw t.mask h k).1→BefW t.mask h P k r→(k < K∨(k=K∧r=0))→10 * (K - k) - r < fuel→
      ∃ k' r',r'≤rlw t.mask (lpw t.mask h k').1∧BefW t.mask h P k' r'∧10 * (K - k') - r'≤10 * (K - k) - r∧
        ((¬ Liv t.place ((lpw t.mask h k').1 + r')∧SetTable.probe.go t hashAt h fuel (prw t.mask h k r)=some (.empty ((lpw t.mask h k').1 + r') none))∨
         ∃ i,k' < K∧t.place[i]? = some ((lpw t.mask h k').1 + r')∧hashAt i=h∧SetTable.probe.go t hashAt h fuel (prw t.mask h k r)=some (.candidate ((lpw t.mask h k').1 + r') i (t.advance (prw t.mask h k' r')))):=by
  intro fuel
  induction fuel with
  | zero=>intro k r _ _ _ z; omega
  | succ f ih=>
    intro k r hr b hk hf
    unfold SetTable.probe.go
    show ∃ k' r',_∧_∧_∧((_∧(match t.slot ((lpw t.mask h k).1 + r) with
      | .empty=>some (SetTable.Met.empty ((lpw t.mask h k).1 + r) none)
      | .dummy=>SetTable.probe.go t hashAt h f (t.advance { prw t.mask h k r with dummy:=some ((lpw t.mask h k).1 + r) })
      | .live i=>if hashAt i == h then some (.candidate ((lpw t.mask h k).1 + r) i (t.advance (prw t.mask h k r))) else SetTable.probe.go t hashAt h f (t.advance (prw t.mask h k r)))=_)∨∃ i,_∧_∧_∧(match t.slot ((lpw t.mask h k).1 + r) with
      | .empty=>some (SetTable.Met.empty ((lpw t.mask h k).1 + r) none)
      | .dummy=>SetTable.probe.go t hashAt h f (t.advance { prw t.mask h k r with dummy:=some ((lpw t.mask h k).1 + r) })
      | .live i=>if hashAt i == h then some (.candidate ((lpw t.mask h k).1 + r) i (t.advance (prw t.mask h k r))) else SetTable.probe.go t hashAt h f (t.advance (prw t.mask h k r)))=_)
    rcases slot_cases R hd ((lpw t.mask h k).1 + r) with ⟨i,hi,e⟩ | ⟨hn,e⟩
    · rw [e]
      dsimp only
      have kK : k < K:=hk.elim id fun z=>by obtain ⟨rfl,rfl⟩:=z; exact absurd ⟨i,hi⟩ hK
      by_cases c : hashAt i=h
      · rw [if_pos (by simpa using c)]
        exact ⟨k,r,hr,b,Nat.le_refl _,.inr ⟨i,kK,hi,c,rfl⟩⟩
      · rw [if_neg (by simpa using c)]
        have p:=hP i _ hi c
        have r9:=rlw_le t.mask (lpw t.mask h k).1
        by_cases cr : r < rlw t.mask (lpw t.mask h k).1
        · rw [prw_next cr]
          obtain ⟨k',r',q1,q2,q3,q4⟩:=ih k (r + 1) cr (b.next p) (.inl kK) (by omega)
          exact ⟨k',r',q1,q2,by omega,q4⟩
        · rw [prw_leap (by omega)]
          obtain ⟨k',r',q1,q2,q3,q4⟩:=ih (k + 1) 0 (Nat.zero_le _) (b.leap p (by omega)) (by omega) (by omega)
          exact ⟨k',r',q1,q2,by omega,q4⟩
    · rw [e]
      exact ⟨k,r,hr,b,Nat.le_refl _,.inl ⟨hn,rfl⟩⟩
section
variable {prog : Program} {w : World} {A : Around} {E : Value→Shared→Prop} {s : Shared}
abbrev TKn (prog : Program) (w : World) : HeapKind prog w (List Key):=tupleKind (mixKind prog w)
def SetT (prog : Program) (w : World) (a : Addr) (xs : List (List Key×Addr)) (h : Heap) : Prop:=∃ o es ep t,h.get? a=some o∧o.ExactSet∧o.data = .set es ep t∧es.size=xs.length∧
  (∀ e∈es.toList,∃ q∈xs,e=((TKn prog w).hash q.1,.ref q.2))∧(∀ q∈xs,((TKn prog w).hash q.1,Value.ref q.2)∈es.toList)∧TabT es t
theorem class_tup {ks : List Key} {a : Addr} {n : Nat} {Q : Bool→Shared→Prop} (hk : (TKn prog w).is s.heap ks a) (h : Q false s) : wpAny (model prog w) A (ofAClassStatement (n + 1) (.ref a)) Q E s:=by
  have hT : s.TypeIs (.ref a) "tuple" := hk.typeIs
  obtain ⟨o,items,nn,ho,_,hd,hi⟩:=hk
  unfold ofAClassStatement
  refine wpAny_bind (wpAny_typeOf hT ?_)
  dsimp only
  refine wpAny_bind (wpAny_pure ?_)
  simp only [Bool.not_true,Bool.false_eq_true,if_false]
  refine wpAny_bind ?_
  unfold seqItems?
  refine wpAny_bind (wpAny_load ho ?_)
  rw [hd]
  refine wpAny_pure ?_
  dsimp only
  refine wpAny_bind ?_
  rw [← Array.forIn_toList]
  refine wpAny_forIn_list _ (fun rest r s'=>r.1=none∧s' = s∧∀ v∈rest,(∃ i t,v = .int i t)∨∃ x t,v = .str x t) _ ?_ ?_ _ _ ⟨rfl,rfl,?_⟩
  · rintro v rest r s' ⟨hr,rfl,hall⟩
    have e : ofAClassStatement n v=pure false:=by
      rcases hall v List.mem_cons_self with ⟨i,t,rfl⟩ | ⟨x,t,rfl⟩ <;> cases n <;> rfl
    rw [e]
    refine wpAny_bind (wpAny_pure ?_)
    simp only [Bool.false_eq_true,if_false]
    exact wpAny_pure ⟨rfl,rfl,fun u hu'=>hall u (List.mem_cons_of_mem _ hu')⟩
  · rintro ⟨r1,r2⟩ s' ⟨hr,rfl,_⟩
    simp only at hr
    subst hr
    exact wpAny_pure h
  · clear hd ho
    generalize items.toList=l at hi
    induction hi with
    | nil=>intro v hv; exact nomatch hv
    | cons hv _ ih=>
      intro u hu
      rcases List.mem_cons.mp hu with e | hu
      · subst e
        rcases keyIs_shape hv with ⟨i,t,_,e⟩ | ⟨x,t,_,e⟩
        · exact .inl ⟨i,t,e⟩
        · exact .inr ⟨x,t,e⟩
      · exact ih u hu
theorem seen_not {ks : List Key} {p : Addr} {Q : Bool→Shared→Prop} (hk : (TKn prog w).is s.heap ks p) : ∀ (ys : List Value),(∀ y∈ys,∃ q : List Key×Addr,(TKn prog w).is s.heap q.1 q.2∧y = .ref q.2)→Q false s→wpAny (model prog w) A (searchCouldBeSeen (.ref p) ys) Q E s:=by
  intro ys hy h
  unfold searchCouldBeSeen
  refine wpAny_bind ?_
  refine wpAny_forIn_list _ (fun rest r s'=>r.1=none∧s' = s∧∀ y∈rest,∃ q : List Key×Addr,(TKn prog w).is s.heap q.1 q.2∧y = .ref q.2) _ ?_ ?_ _ _ ⟨rfl,rfl,hy⟩
  · rintro v rest r s' ⟨hr,rfl,hall⟩
    have fin : ((none,()) : Option Bool×Unit).1=none∧s' = s'∧∀ y∈rest,∃ q : List Key×Addr,(TKn prog w).is s'.heap q.1 q.2∧y = .ref q.2:=⟨rfl,rfl,fun u hu'=>hall u (List.mem_cons_of_mem _ hu')⟩
    obtain ⟨q,hq,rfl⟩:=hall v List.mem_cons_self
    dsimp only
    split
    · exact wpAny_pure fin
    · refine wpAny_bind ((TKn prog w).quiet hk ?_)
      simp only [Bool.not_true,Bool.false_eq_true,if_false]
      refine wpAny_bind ((TKn prog w).quiet hq ?_)
      simp only [Bool.not_true,Bool.false_eq_true,if_false]
      refine wpAny_bind (class_tup hk ?_)
      simp only [Bool.false_eq_true,if_false]
      refine wpAny_bind (class_tup hq ?_)
      simp only [Bool.false_eq_true,if_false]
      exact wpAny_pure fin
  · rintro ⟨r1,r2⟩ s' ⟨hr,rfl,_⟩
    simp only at hr
    subst hr
    exact wpAny_pure h
def MetT (prog : Program) (w : World) (t : SetTable) (es : Array (Int×Value)) (xs : List (List Key×Addr)) (ks : List Key) (j : Nat) : Prop:=∃ (i : Nat) (q : List Key×Addr),t.place[i]? = some j∧es[i]? = some ((TKn prog w).hash q.1,Value.ref q.2)∧q∈xs∧q.1≠ks
theorem search_way {a p : Addr} {o : Obj} {es : Array (Int×Value)} {ep : Nat} {t : SetTable} {ks : List Key} {xs : List (List Key×Addr)} {Q : SetFound→Shared→Prop} {K : Nat} (hu : A.units < cLine) (ho : s.heap.get? a=some o) (hd : o.data = .set es ep t) (T : TabT es t)
    (he : ∀ e∈es.toList,∃ q∈xs,e=((TKn prog w).hash q.1,.ref q.2)) (hx : ∀ q∈xs,(TKn prog w).is s.heap q.1 q.2) (hk : (TKn prog w).is s.heap ks p) (hK : ¬ Liv t.place (lpw t.mask ((TKn prog w).hash ks) K).1)
    (h1 : (∃ q∈xs,q.1=ks)→Q (.there none) s)
    (h2 : ∀ k r,r≤rlw t.mask (lpw t.mask ((TKn prog w).hash ks) k).1→BefW t.mask ((TKn prog w).hash ks) (MetT prog w t es xs ks) k r→¬ Liv t.place ((lpw t.mask ((TKn prog w).hash ks) k).1 + r)→Q (.free ((lpw t.mask ((TKn prog w).hash ks) k).1 + r) false) s) :
    ∀ (n k r fuel : Nat) (stand : Option SetTable.Probe),stand.getD (t.probeStart ((TKn prog w).hash ks))=prw t.mask ((TKn prog w).hash ks) k r→r≤rlw t.mask (lpw t.mask ((TKn prog w).hash ks) k).1→BefW t.mask ((TKn prog w).hash ks) (MetT prog w t es xs ks) k r→
      (k < K∨(k=K∧r=0))→10 * (K - k) - r≤n→n < fuel→n < 10 * SetTable.turns t.mask→wpAny (model prog w) A (setSearchFrom a (.ref p) ((TKn prog w).hash ks) true fuel stand) Q E s:=by
  intro n
  induction n using Nat.strongRecOn with
  | _ n ih=>
    intro k r fuel stand hst hr b hkK hn hfu htu
    obtain ⟨f,rfl⟩ : ∃ f,fuel=f + 1:=⟨fuel - 1,by omega⟩
    unfold setSearchFrom
    refine wpAny_bind (wpAny_setState_of ho hd T.fits ?_)
    dsimp only
    rw [T.gave]
    simp only [Bool.false_eq_true,if_false]
    rw [hst]
    have hsz : t.place.size=es.size:=T.sz
    have hP : ∀ (hashAt : Nat→Int),(∀ (i : Nat) e,es[i]? = some e→hashAt i=e.1)→∀ (i : Nat) j,t.place[i]? = some j→hashAt i≠(TKn prog w).hash ks→MetT prog w t es xs ks j:=fun hashAt ha i j hi hne=>by
      have hlt : i < es.size:=by rw [← hsz]; exact (Array.getElem?_eq_some_iff.mp hi).1
      obtain ⟨q,hq,e⟩:=he es[i] (Array.getElem_mem_toList hlt)
      refine ⟨i,q,hi,by rw [Array.getElem?_eq_getElem hlt,e],hq,fun z=>hne ?_⟩
      rw [ha i _ (Array.getElem?_eq_getElem hlt),e,z]
    have key : ∀ (hashAt : Nat→Int),(∀ (i : Nat) e,es[i]? = some e→hashAt i=e.1)→_:=fun hashAt ha=>probe_way (t:=t) (hashAt:=hashAt) T.ris T.dum (hP hashAt ha) hK (10 * SetTable.turns t.mask) k r hr b hkK (by omega)
    have ha0 : ∀ (i : Nat) (e : Int×Value),es[i]? = some e→((es[i]?.map (·.1)).getD 0 : Int)=e.1:=fun i e h=>by rw [h]; rfl
    obtain ⟨k',r',hr',b',hm',c⟩:=key _ ha0
    have fin : ∀ (hashAt : Nat→Int),hashAt=(fun i=>((es[i]?.map (·.1)).getD 0 : Int))→t.probe hashAt ((TKn prog w).hash ks) (prw t.mask ((TKn prog w).hash ks) k r)=SetTable.probe.go t (fun i=>((es[i]?.map (·.1)).getD 0 : Int)) ((TKn prog w).hash ks) (10 * SetTable.turns t.mask) (prw t.mask ((TKn prog w).hash ks) k r):=fun hashAt e=>by rw [e]; rfl
    rw [fin]
    case a=>rfl
    rcases c with ⟨nl,e⟩ | ⟨i,kK,hi,hh,e⟩
    · rw [e]
      exact wpAny_pure (h2 k' r' hr' b' nl)
    · rw [e]
      dsimp only
      have hlt : i < es.size:=by rw [← hsz]; exact (Array.getElem?_eq_some_iff.mp hi).1
      obtain ⟨q,hq,eq1⟩:=he es[i] (Array.getElem_mem_toList hlt)
      have ei : es[i]? = some ((TKn prog w).hash q.1,Value.ref q.2):=by rw [Array.getElem?_eq_getElem hlt,eq1]
      have hslot:=slot_live T.ris hi
      have r9:=rlw_le t.mask (lpw t.mask ((TKn prog w).hash ks) k').1
      split
      any_goals
        refine wpAny_bind (seen_not hk _ (fun y hy=>by
          obtain ⟨e0,m0,rfl⟩:=List.mem_map.mp hy
          obtain ⟨q0,hq0,rfl⟩:=he e0 (by rw [Array.toList_filter] at m0; exact (List.mem_filter.mp m0).1)
          exact ⟨q0,hx q0 hq0,rfl⟩) ?_)
        simp only [Bool.false_eq_true,if_false]
      all_goals
        rw [ei]
        dsimp only
        refine wpAny_bind (wpAny_holding ((TKn prog w).eqBool hu (hx q hq) hk ?_))
        refine wpAny_bind (wpAny_setState_of ho hd T.fits ?_)
        dsimp only
        by_cases ce : q.1=ks
        · rw [decide_eq_true ce]
          simp only [Bool.and_self,if_true]
          exact wpAny_pure (h1 ⟨q,hq,ce⟩)
        · rw [decide_eq_false ce]
          have sm : t.sameMemory t.moves t.mask=some true:=by unfold SetTable.sameMemory; simp
          simp only [Bool.and_false,Bool.false_eq_true,if_false,sm,if_true,hslot,ei]
          refine wpAny_bind (wpAny_isSame_ref_self ?_)
          simp only [if_true]
          refine wpAny_bind (wpAny_pure ?_)
          dsimp only
          have pm : MetT prog w t es xs ks ((lpw t.mask ((TKn prog w).hash ks) k').1 + r'):=⟨i,q,hi,ei,hq,ce⟩
          by_cases cr : r' < rlw t.mask (lpw t.mask ((TKn prog w).hash ks) k').1
          · exact ih (n - 1) (by omega) k' (r' + 1) f _ (prw_next cr) cr (b'.next pm) (.inl kK) (by omega) (by omega) (by omega)
          · exact ih (n - 1) (by omega) (k' + 1) 0 f _ (prw_leap (by omega)) (Nat.zero_le _) (b'.leap pm (by omega)) (by omega) (by omega) (by omega) (by omega)
theorem set_search {a p : Addr} {o : Obj} {es : Array (Int×Value)} {ep : Nat} {t : SetTable} {ks : List Key} {xs : List (List Key×Addr)} {Q : SetFound→Shared→Prop} (hu : A.units < cLine) (ho : s.heap.get? a=some o) (hd : o.data = .set es ep t) (T : TabT es t)
    (he : ∀ e∈es.toList,∃ q∈xs,e=((TKn prog w).hash q.1,.ref q.2)) (he2 : ∀ q∈xs,((TKn prog w).hash q.1,Value.ref q.2)∈es.toList) (hx : ∀ q∈xs,(TKn prog w).is s.heap q.1 q.2) (hk : (TKn prog w).is s.heap ks p)
    (h1 : (∃ q∈xs,q.1=ks)→Q (.there none) s)
    (h2 : (∀ q∈xs,q.1≠ks)→∀ j,¬ Liv t.place j→OnW t.mask ((TKn prog w).hash ks) (Liv t.place) j→Q (.free j false) s) : wpAny (model prog w) A (setSearch a (.ref p) ((TKn prog w).hash ks) true) Q E s:=by
  obtain ⟨e,hel,hne⟩:=free_slot (m:=t.mask) T.ris (by rw [T.sz]; have:=T.few; omega)
  obtain ⟨K,hK,eK⟩:=T.full.reach ((TKn prog w).hash ks) hel
  have mk : t.mask≤127:=by rcases T.msk with z | z | z <;> omega
  unfold setSearch
  refine search_way (K:=K) hu ho hd T he hx hk (by rw [eK]; exact hne) h1 (fun k r hr b nl=>h2 (fun q hq ce=>?_) _ nl ⟨k,r,hr,rfl,b.mono fun j ⟨i,_,hi,_⟩=>⟨i,hi⟩⟩) (10 * K) 0 0 100000 none (prw_start _ _) (Nat.zero_le _) BefW.zero (by omega) (by omega) (by omega) (by unfold SetTable.turns; omega)
  obtain ⟨i,hi⟩:=List.mem_iff_getElem?.mp (he2 q hq)
  rw [Array.getElem?_toList] at hi
  have hlt : i < t.place.size:=by rw [T.sz]; exact (Array.getElem?_eq_some_iff.mp hi).1
  have hj : t.place[i]? = some t.place[i]:=Array.getElem?_eq_getElem hlt
  have o1:=T.on i _ _ hi hj
  rw [ce] at o1
  have:=onW_first hr b o1 nl (fun ⟨i2,q2,g1,g2,g3,g4⟩=>by
    have:=rise_inj T.ris g1 hj
    subst this
    rw [hi] at g2
    injection g2 with g2
    injection g2 with _ g5
    injection g5 with g5
    have y:=hx q hq
    rw [g5] at y
    exact g4 (by rw [← ce]; exact (TKn prog w).inj (hx q2 g3) y))
  exact nl ⟨i,by rw [hj,this]⟩
end
end L2
namespace L2
open PySem PySem.Spec PyProof.Rows
theorem put_mask (t : SetTable) (j : Nat) : (t.put j).1.mask=t.mask:=rfl
theorem put_at (t : SetTable) (j : Nat) : (t.put j).2=SetTable.below t.place j:=rfl
theorem put_place (t : SetTable) (j : Nat) : (t.put j).1.place=SetTable.insertAt t.place (SetTable.below t.place j) j:=rfl
theorem put_dum {t : SetTable} {j : Nat} (h : t.dummies = #[]) : (t.put j).1.dummies = #[]:=by
  show (if SetTable.has t.dummies j then _ else t.dummies)=_
  rw [h]; rfl
structure TabU (es : Array (Int×Value)) (t : SetTable) : Prop where
  dum : t.dummies = #[]
  ris : Rise t.place
  sz : t.place.size=es.size
  on : ∀ (i : Nat) e j,es[i]? = some e→t.place[i]? = some j→OnW t.mask e.1 (Liv t.place) j
theorem TabU.put {es : Array (Int×Value)} {t : SetTable} (T : TabT es t) {j : Nat} {h : Int} {v : Value} (nl : ¬ Liv t.place j) (o : OnW t.mask h (Liv t.place) j) : TabU (SetTable.insertAt es (SetTable.below t.place j) (h,v)) (t.put j).1:=by
  obtain ⟨b1,_⟩:=below_at T.ris j
  have b2 : SetTable.below t.place j≤es.size:=by rw [← T.sz]; exact b1
  have grow : ∀ x,Liv t.place x→Liv (t.put j).1.place x:=fun x ⟨i,hi⟩=>by
    rw [put_place]
    by_cases c : i < SetTable.below t.place j
    · exact ⟨i,by rw [get_insert _ _ _ b1,if_pos c]; exact hi⟩
    · exact ⟨i + 1,by rw [get_insert _ _ _ b1,if_neg (by omega),if_neg (by omega),Nat.add_sub_cancel]; exact hi⟩
  refine ⟨put_dum T.dum,by rw [put_place]; exact rise_insert T.ris (fun e=>nl ⟨_,e⟩),by rw [put_place,size_insert _ _ _ b1,size_insert _ _ _ b2,T.sz],fun i e x hi hx=>?_⟩
  rw [put_mask]
  refine OnW.mono ?_ grow
  rw [put_place,get_insert _ _ _ b1] at hx
  rw [get_insert _ _ _ b2] at hi
  by_cases c : i < SetTable.below t.place j
  · rw [if_pos c] at hx hi
    exact T.on i e x hi hx
  · rw [if_neg c] at hx hi
    by_cases c2 : i=SetTable.below t.place j
    · rw [if_pos c2] at hx hi
      cases hx; cases hi
      exact o
    · rw [if_neg c2] at hx hi
      exact T.on _ e x hi hx
theorem mem_insertAt {α : Type} {xs : Array α} {p : Nat} {x y : α} (hp : p≤xs.size) : y∈(SetTable.insertAt xs p x).toList↔y=x∨y∈xs.toList:=by
  rw [List.mem_iff_getElem?,List.mem_iff_getElem?]
  constructor
  · rintro ⟨i,e⟩
    rw [Array.getElem?_toList,get_insert _ _ _ hp] at e
    by_cases c : i < p
    · rw [if_pos c] at e; exact .inr ⟨i,by rw [Array.getElem?_toList]; exact e⟩
    · rw [if_neg c] at e
      by_cases c2 : i=p
      · rw [if_pos c2] at e; cases e; exact .inl rfl
      · rw [if_neg c2] at e; exact .inr ⟨i - 1,by rw [Array.getElem?_toList]; exact e⟩
  · rintro (rfl | ⟨i,e⟩)
    · exact ⟨p,by rw [Array.getElem?_toList,get_insert _ _ _ hp,if_neg (by omega),if_pos rfl]⟩
    · rw [Array.getElem?_toList] at e
      by_cases c : i < p
      · exact ⟨i,by rw [Array.getElem?_toList,get_insert _ _ _ hp,if_pos c]; exact e⟩
      · exact ⟨i + 1,by rw [Array.getElem?_toList,get_insert _ _ _ hp,if_neg (by omega),if_neg (by omega),Nat.add_sub_cancel]; exact e⟩
theorem relaid_ok {es : Array (Int×Value)} {t : SetTable} {n : Nat} (hm : SetTable.sizeAbove n - 1=31∨SetTable.sizeAbove n - 1=127) (hf : es.size * 5 < (SetTable.sizeAbove n - 1) * 3) :
    ∃ t' order,t.relaid (es.map (·.1)) n=some (t',order)∧TabT (order.filterMap (es[·]?)) t'∧(order.filterMap (es[·]?)).size=es.size∧∀ e,e∈(order.filterMap (es[·]?)).toList↔e∈es.toList:=by
  have F : FullW (SetTable.sizeAbove n - 1):=hm.elim (fun e=>by rw [e]; exact full31) fun e=>by rw [e]; exact full127
  have hz : (es.map (·.1)).size=es.size:=Array.size_map
  obtain ⟨t',order,e,h1,h2,_,_,h3,h4,h5,h6,h7⟩:=laid_ok (fi:=t.finger) (mv:=t.movedTo (SetTable.sizeAbove n - 1)) (led:=t.led) (pl:=t.plain) F (es.map (·.1)) (by omega)
  have low : ∀ k∈order.toList,k < es.size:=fun k hk=>by
    obtain ⟨i,hi⟩:=List.mem_iff_getElem?.mp hk
    obtain ⟨_,h,_,q,_⟩:=h6 i k (by rw [Array.getElem?_toList] at hi; exact hi)
    rw [← hz]; exact (Array.getElem?_eq_some_iff.mp q).1
  have fm : (order.filterMap (es[·]?)).toList=order.toList.map fun k=>es.getD k (0,.none):=by
    rw [Array.toList_filterMap]
    generalize order.toList=l at low
    induction l with
    | nil=>rfl
    | cons k l ih=>
      have hk:=low k (.head _)
      rw [List.filterMap_cons,Array.getElem?_eq_getElem hk]
      dsimp only
      rw [ih fun x hx=>low x (.tail _ hx),List.map_cons,Array.getD_eq_getD_getElem?,Array.getElem?_eq_getElem hk]
      rfl
  have sz : (order.filterMap (es[·]?)).size=es.size:=by rw [← Array.length_toList,fm,List.length_map,Array.length_toList,h5,hz]
  have at' : ∀ i e',(order.filterMap (es[·]?))[i]? = some e'→∃ k,order[i]? = some k∧es[k]? = some e':=fun i e' hi=>by
    rw [← Array.getElem?_toList,fm,List.getElem?_map] at hi
    obtain ⟨k,q1,q2⟩:=Option.map_eq_some_iff.mp hi
    have hk:=low k (List.mem_of_getElem? q1)
    rw [Array.getElem?_toList] at q1
    refine ⟨k,q1,?_⟩
    rw [Array.getD_eq_getD_getElem?,Array.getElem?_eq_getElem hk] at q2
    rw [Array.getElem?_eq_getElem hk]
    exact congrArg some q2
  refine ⟨t',order,e,⟨h2,h3,by rw [h4,sz,hz],by rw [h1]; exact .inr hm,by rw [sz,h1]; exact hf,fun i e' j hi hj=>?_⟩,sz,fun e'=>⟨fun m=>?_,fun m=>?_⟩⟩
  · obtain ⟨k,q1,q2⟩:=at' i e' hi
    obtain ⟨j2,h,q3,q4,q5⟩:=h6 i k q1
    rw [hj] at q3
    cases q3
    rw [Array.getElem?_map,q2] at q4
    cases q4
    rw [h1]; exact q5
  · obtain ⟨i,hi⟩:=List.mem_iff_getElem?.mp m
    obtain ⟨k,_,q2⟩:=at' i e' (by rw [Array.getElem?_toList] at hi; exact hi)
    exact List.mem_iff_getElem?.mpr ⟨k,by rw [Array.getElem?_toList]; exact q2⟩
  · obtain ⟨k,hk⟩:=List.mem_iff_getElem?.mp m
    rw [Array.getElem?_toList] at hk
    obtain ⟨hlt,hv⟩:=Array.getElem?_eq_some_iff.mp hk
    obtain ⟨i,hi⟩:=h7 k (by rw [hz]; exact hlt)
    rw [fm]
    refine List.mem_map.mpr ⟨k,List.mem_iff_getElem?.mpr ⟨i,by rw [Array.getElem?_toList]; exact hi⟩,?_⟩
    rw [Array.getD_eq_getD_getElem?,hk]
    rfl
section
variable {prog : Program} {w : World} {A : Around} {E : Value→Shared→Prop} {s : Shared}
theorem items_flat {ks : List Key} {l : List Value} (hi : PySem.ItemsAre (mixKind prog w) ks l) : ∀ v∈l,(∃ i t,v = .int i t)∨∃ x t,v = .str x t:=by
  induction hi with
  | nil=>intro v hv; exact nomatch hv
  | cons hv _ ih=>
    intro u hu
    rcases List.mem_cons.mp hu with e | hu
    · subst e
      rcases keyIs_shape hv with ⟨i,t,_,e⟩ | ⟨x,t,_,e⟩
      · exact .inl ⟨i,t,e⟩
      · exact .inr ⟨x,t,e⟩
    · exact ih u hu
theorem hash_tup {ks : List Key} {p : Addr} {n : Nat} {Q : Bool→Shared→Prop} (hk : (TKn prog w).is s.heap ks p) (h : ∀ b,Q b s) : wpAny (model prog w) A (hashByValue (n + 1) (.ref p)) Q E s:=by
  have hT : s.TypeIs (.ref p) "tuple" := hk.typeIs
  obtain ⟨o,items,nn,ho,_,hd,hi⟩:=hk
  unfold hashByValue
  refine wpAny_bind (wpAny_specialOf hT F.slot_tuple_hash.lookup ?_)
  split
  · refine wpAny_bind ?_
    unfold seqItems?
    refine wpAny_bind (wpAny_load ho ?_)
    rw [hd]
    refine wpAny_pure ?_
    dsimp only [Option.getD]
    refine wpAny_bind ?_
    rw [← Array.forIn_toList]
    refine wpAny_forIn_list _ (fun rest r s'=>s' = s∧∀ v∈rest,(∃ i t,v = .int i t)∨∃ x t,v = .str x t) _ ?_ ?_ _ _ ⟨rfl,items_flat hi⟩
    · rintro v rest r s' ⟨rfl,hall⟩
      have e : ∃ b,hashByValue n v=pure b:=by
        rcases hall v List.mem_cons_self with ⟨i,t,rfl⟩ | ⟨x,t,rfl⟩ <;> cases n <;> exact ⟨_,rfl⟩
      obtain ⟨b,e⟩:=e
      rw [e]
      refine wpAny_bind (wpAny_pure ?_)
      split
      · exact wpAny_pure (wpAny_pure (h _))
      · exact wpAny_pure ⟨rfl,fun u hu'=>hall u (List.mem_cons_of_mem _ hu')⟩
    · rintro ⟨r1,r2⟩ s' ⟨rfl,_⟩
      dsimp only
      split <;> exact wpAny_pure (h _)
  · rename_i heq; simp at heq
  · rename_i heq; simp at heq
  · exact wpAny_pure (h _)
  · exact wpAny_pure (h _)
theorem store_at {a : Addr} {o : Obj} {es es' : Array (Int×Value)} {ep : Nat} {t t' : SetTable} {h : Heap} (ho : h.get? a=some o) (hd : o.data = .set es ep t) : (h.update a (Obj.putSet es' t')).get? a=some { o with data:=.set es' (ep + 1) t' }:=by
  have:=Heap.get?_update_self (Obj.putSet es' t') ho (by rw [putSet_of es' t' hd]; rfl)
  rw [putSet_of es' t' hd] at this
  exact this
theorem set_addT {a p : Addr} {ks : List Key} {xs : List (List Key×Addr)} {Q : Bool→Shared→Prop} (hu : A.units < cLine) (S : SetT prog w a xs s.heap) (hx : ∀ q∈xs,(TKn prog w).is s.heap q.1 q.2) (hk : (TKn prog w).is s.heap ks p) (hn : xs.length < 76)
    (h : ∀ b h' tk xs',s.toks≤tk→Heap.SameBut a s.heap h'→SetT prog w a xs' h'→((∃ q∈xs,q.1=ks)∧xs' = xs∨(∀ q∈xs,q.1≠ks)∧xs' = xs ++ [(ks,p)])→Q b { s with heap:=h',toks:=tk }) : wpAny (model prog w) A (setAdd a (.ref p)) Q E s:=by
  unfold setAdd
  refine wpAny_holding (wpAny_bind ((TKn prog w).pyHash hu hk ?_))
  obtain ⟨o,es,ep,t,ho,hex,hd,hsz,he,he2,T⟩:=S
  unfold setAddHashed setAddHashedIn
  refine wpAny_holding (wpAny_bind (wpAny_setState_of (s:={ s with toks:=s.toks + (TKn prog w).draws ks }) ho hd T.fits ?_))
  dsimp only
  rw [show byScan (.ref p) es=false from rfl]
  simp only [Bool.false_eq_true,if_false]
  refine wpAny_bind (set_search (s:={ s with toks:=s.toks + (TKn prog w).draws ks }) hu ho hd T he he2 hx hk (fun hin=>?_) fun hno j nl on=>?_)
  · dsimp only
    exact wpAny_pure (h _ s.heap _ xs (Nat.le_add_right _ _) (Heap.SameBut.refl a s.heap) ⟨o,es,ep,t,ho,hex,hd,hsz,he,he2,T⟩ (.inl ⟨hin,rfl⟩))
  · dsimp only
    refine wpAny_bind (wpAny_setState_of (s:={ s with toks:=s.toks + (TKn prog w).draws ks }) ho hd T.fits ?_)
    dsimp only
    have U:=TabU.put (v:=.ref p) T nl on
    rw [put_at]
    have b2 : SetTable.below t.place j≤es.size:=by rw [← T.sz]; exact (below_at T.ris j).1
    have sz1 : (SetTable.insertAt es (SetTable.below t.place j) ((TKn prog w).hash ks,Value.ref p)).size=es.size + 1:=size_insert _ _ _ b2
    have me : ∀ e,e∈(SetTable.insertAt es (SetTable.below t.place j) ((TKn prog w).hash ks,Value.ref p)).toList↔e=((TKn prog w).hash ks,Value.ref p)∨e∈es.toList:=fun e=>mem_insertAt b2
    have hm:=T.msk
    have hf:=T.few
    generalize SetTable.insertAt es (SetTable.below t.place j) ((TKn prog w).hash ks,Value.ref p)=es1 at U sz1 me ⊢
    have all1 : ∀ es2 : Array (Int×Value),(∀ e,e∈es2.toList↔e∈es1.toList)→(∀ e∈es2.toList,∃ q∈xs ++ [(ks,p)],e=((TKn prog w).hash q.1,.ref q.2))∧(∀ q∈xs ++ [(ks,p)],((TKn prog w).hash q.1,Value.ref q.2)∈es2.toList):=fun es2 m2=>by
      refine ⟨fun e hm=>?_,fun q hq=>?_⟩
      · rcases (me e).mp ((m2 e).mp hm) with z | z
        · exact ⟨(ks,p),by simp,z⟩
        · obtain ⟨q,hq,e1⟩:=he e z
          exact ⟨q,List.mem_append_left _ hq,e1⟩
      · refine (m2 _).mpr ((me _).mpr ?_)
        rcases List.mem_append.mp hq with z | z
        · exact .inr (he2 q z)
        · rw [List.mem_singleton.mp z]; exact .inl rfl
    have put : ∀ t2 : SetTable,TabU es1 t2→t2.mask=t.mask→wpAny (model prog w) A (do
        storeSet a es1 t2
        if (!false && t2.tooFull)=true then do
            setRelay a (SetTable.grown (es.size + 1))
            pure true
          else pure true) Q E { s with toks:=s.toks + (TKn prog w).draws ks }:=fun t2 U2 m2=>by
      have mk : t2.mask=7∨t2.mask=31∨t2.mask=127:=by rw [m2]; exact hm
      have small : es1.size≤t2.mask:=by rw [sz1,m2]; omega
      have ft : t2.fits es1.size=true:=by
        simp only [SetTable.fits,SetTable.fill,U2.dum,U2.sz,Bool.and_eq_true,beq_iff_eq,decide_eq_true_eq]
        exact ⟨trivial,by simpa using small⟩
      have tf : t2.tooFull=decide (t.mask * 3≤(es.size + 1) * 5):=by
        unfold SetTable.tooFull SetTable.fill
        rw [U2.dum,U2.sz,sz1,m2]; rfl
      refine wpAny_bind (wpAny_storeSet_of ho hd ?_ (fits_of_scanBound (by rw [sz1]; unfold scanBound; omega)))
      have o1:=store_at (es':=es1) (t':=t2) ho hd
      have u1:=Heap.SameBut.update s.heap a (Obj.putSet es1 t2)
      rw [tf]
      by_cases c : t.mask * 3≤(es.size + 1) * 5
      · rw [decide_eq_true c]
        simp only [Bool.not_false,Bool.and_self,if_true]
        have hg : (SetTable.sizeAbove (SetTable.grown (es.size + 1)) - 1=31∨SetTable.sizeAbove (SetTable.grown (es.size + 1)) - 1=127)∧(es.size + 1) * 5 < (SetTable.sizeAbove (SetTable.grown (es.size + 1)) - 1) * 3:=by
          rcases hm with z | z | z
          · have e4 : es.size=4:=by omega
            rw [e4]; decide
          · have e4 : es.size=18:=by omega
            rw [e4]; decide
          · omega
        obtain ⟨t3,order,e3,T3,s3,m3⟩:=relaid_ok (es:=es1) (t:=t2) hg.1 (by rw [sz1]; exact hg.2)
        unfold setRelay
        refine wpAny_bind (wpAny_bind (wpAny_setState_of o1 rfl ft ?_))
        dsimp only
        rw [if_neg (by unfold sizeLine; rcases hg.1 with z | z <;> omega),e3]
        have re : ∀ c : Bool,c=((order.filterMap (es1[·]?)).size != es1.size)→c=false:=fun c z=>by rw [z,s3]; simp
        refine wpAny_bind (wpAny_of_eq (show _=pure (order.filterMap (es1[·]?),t3) from ?_) ?_)
        · change (if ((order.filterMap (es1[·]?)).size != es1.size)=true then _ else _)=_
          rw [re _ rfl]
          simp only [Bool.false_eq_true,if_false]
        · dsimp only
          refine wpAny_storeSet_of o1 rfl ?_ (fits_of_scanBound (by rw [s3,sz1]; unfold scanBound; omega))
          have o2:=store_at (es':=order.filterMap (es1[·]?)) (t':=t3) o1 rfl
          obtain ⟨a1,a2⟩:=all1 (order.filterMap (es1[·]?)) m3
          exact wpAny_pure (h _ _ _ _ (Nat.le_add_right _ _) (u1.trans (Heap.SameBut.update _ a _)) ⟨_,_,_,t3,o2,hex,rfl,by rw [s3,sz1,hsz,List.length_append]; rfl,a1,a2,T3⟩ (.inr ⟨hno,rfl⟩))
      · rw [decide_eq_false c]
        simp only [Bool.and_false,Bool.false_eq_true,if_false]
        obtain ⟨a1,a2⟩:=all1 es1 fun e=>Iff.rfl
        exact wpAny_pure (h _ _ _ _ (Nat.le_add_right _ _) u1 ⟨_,es1,ep + 1,t2,o1,hex,rfl,by rw [sz1,hsz,List.length_append]; rfl,a1,a2,⟨U2.dum,U2.ris,U2.sz,mk,by rw [sz1,m2]; omega,U2.on⟩⟩ (.inr ⟨hno,rfl⟩))
    split
    · refine wpAny_bind (hash_tup hk fun b=>?_)
      refine put _ ?_ ?_
      · cases b
        · exact ⟨U.dum,U.ris,U.sz,U.on⟩
        · exact U
      · cases b <;> rfl
    · exact wpAny_bind (wpAny_pure (put _ U rfl))
end
end L2
namespace L2
open PySem PySem.Spec PyProof.Rows
def HT (prog : Program) (w : World) (a : Addr) (xs : List (List Key×Addr)) : HO:=.ext (SetT prog w a xs)
theorem SetT.keep {prog : Program} {w : World} {a : Addr} {xs : List (List Key×Addr)} {h h' : Heap} (S : SetT prog w a xs h) (k : ∀ o,h.get? a=some o→h'.get? a=some o) : SetT prog w a xs h':=let ⟨o,es,ep,t,ho,r⟩:=S; ⟨o,es,ep,t,k o ho,r⟩
theorem ht_ok {P Q : Program} {w : World} {H : Hp} {h : Heap} {a : Addr} {xs : List (List Key×Addr)} (S : SetT Q w a xs h) : ObjOk P w H h a (HT Q w a xs):=⟨S,(let ⟨o,_,_,_,ho,_⟩:=S; ⟨o,ho⟩),fun h1 h2 S1 k=>S1.keep k⟩
theorem ht_at {X : Cx} {pins : List (Addr×Obj)} {σ : St} {H : Hp} {s : Shared} {a : Addr} {xs : List (List Key×Addr)} (I : Inv X pins σ H s) (e : H a=some (HT X.prog X.w a xs)) : SetT X.prog X.w a xs s.heap:=(show ObjOk X.prog X.w H s.heap a (HT X.prog X.w a xs) from I.hok a _ e).1
def InsT (xs : List (List Key×Addr)) (ks : List Key) (p : Addr) (xs' : List (List Key×Addr)) : Prop:=(∃ q∈xs,q.1=ks)∧xs' = xs∨(∀ q∈xs,q.1≠ks)∧xs' = xs ++ [(ks,p)]
def TupsT (H : Hp) (xs : List (List Key×Addr)) : Prop:=∀ q∈xs,H q.2=some (.tup (q.1.map kV))
theorem set_newT {prog : Program} {w : World} {A : Around} {E : Value→Shared→Prop} {s : Shared} {Q : Value→Shared→Prop} (h : ∀ h',(∀ b o,s.heap.get? b=some o→h'.get? b=some o)→h'.objs.size=s.heap.objs.size + 1→SetT prog w s.heap.objs.size [] h'→Q (.ref s.heap.objs.size) { s with heap:=h' }) : wpAny (model prog w) A (newSet (.type "set")) Q E s:=by
  unfold newSet setsByText
  refine wpAny_bind (wpAny_bind (wpAny_askSetting (wpAny_pure ?_)))
  dsimp only
  simp only [newObj]
  refine wpAny_bind (wpAny_alloc (wpAny_pure (h _ (fun b o e=>Heap.get?_push_of_some _ e) (Heap.size_push ..) ⟨_,#[],0,_,Heap.get?_push_size _ rfl,⟨rfl,rfl,rfl⟩,rfl,rfl,(fun e he=>by simp at he),(fun q hq=>by simp at hq),⟨rfl,(fun i j hi=>by simp [SetTable.fresh] at hi),rfl,.inl rfl,(show 0 * 5 < 7 * 3 by decide),(fun i e j hi=>by simp at hi)⟩⟩)))
theorem t_add {X : Cx} {pins : List (Addr×Obj)} {σ : St} {H : Hp} {s : Shared} {a p : Addr} {xs : List (List Key×Addr)} {ks : List Key} {A : Around} {E : Value→Shared→Prop} {Q : Value→Shared→Prop} (hu : A.units + 1 < cLine) (I : Inv X pins σ H s) (e : H a=some (HT X.prog X.w a xs)) (hp : H p=some (.tup (ks.map kV))) (hq : TupsT H xs) (hn : xs.length < 76)
    (h : ∀ xs' s',InsT xs ks p xs'→Inv X pins σ (upd H a (HT X.prog X.w a xs')) s'→Q .none s') : wpAny (model X.prog X.w) A (call (.builtin "set.add") [.ref a,.ref p]) Q E s:=by
  have S:=ht_at I e
  have hT : s.TypeIs (.ref a) "set" := let ⟨o,_,_,_,ho,hc,_⟩:=S; ⟨o,ho,hc.1⟩
  refine wpAny_call_entry PySem.F.slot_set_add hT PySem.F.entry_set_add ?_ (PySem.F.args_set_add_2 _ _)
  unfold Builtin.«set.add» Builtin.Frozenset.oneOther
  simp only [List.isEmpty_nil,bind_assoc]
  unfold Builtin.Frozenset.addrOf
  refine wpAny_bind (wpAny_pure ?_)
  try dsimp only
  refine wpAny_bind (wpAny_pure ?_)
  try dsimp only
  refine wpAny_bind (set_addT (show A.in1.units < cLine from hu) S (fun q hq'=>key_of I.hok (hq q hq')) (key_of I.hok hp) hn fun b h' tk xs' _ sb S' ii=>?_)
  exact wpAny_pure ⟨_,rfl,h xs' _ ii (d_write I (by rw [e]; exact True.intro) sb (let ⟨o,_,_,_,ho,_⟩:=S'; ⟨o,ho⟩) (ht_ok S'))⟩
section
variable {X : Cx} {N' : List Str} {ix : List (Option Nat)} {scope : Scope} {elt tg iter : Expr} {ifs : List Expr} {pos : PySem.Pos} {wi : TI} {g : TG} {ti : TT} {te : TE}
def tSCompT (prog : Program) (w : World) (ix : List (Option Nat)) (wi : TI) (g : TG) (ti : TT) (te : TE) : TE:=fun σ H Q=>wi σ H fun J H1=>∀ D,H1 D=none→∃ W : Nat→Nat→Hp→Prop,(∃ m,W 0 m (upd H1 D (HT prog w D [])))∧∀ i m H,W i m H→
  (J.stop i H∧Q (.ref D) H)∨(J.go i H∧∀ x H',J.yld i H x H'→g x (compSt ix σ) H' fun σ2 H2=>(∀ (k : Nat) v,(compSt ix σ)[k]? = some (some v)→σ2[k]? = some (some v))∧ti σ2 H2 fun b H3=>
    if b=true then te σ2 H3 fun y H4=>∃ xs ks p,H4 D=some (HT prog w D xs)∧y = .ref p∧H4 p=some (.tup (List.map kV ks))∧TupsT H4 xs∧xs.length < 76∧∃ m',m' < m∧∀ xs',InsT xs ks p xs'→W (i + 1) m' (upd H4 D (HT prog w D xs')) else ∃ m',m' < m∧W (i + 1) m' H3)
theorem scompT_loop {X' : Cx} {σ₀ : St} {H : Hp} {s : Shared} {Q : VK} {it D : Addr} {fp : List Addr} {tn : Nat→Heap→Prop} {J : It} {W : Nat→Nat→Hp→Prop} {m0 : Nat} (hu : X'.A.units + 1 < cLine) (I : Inv X' [] σ₀ H s) (hcalm : X'.calm=true) (hxe : X'.xe=fun _ _=>False)
    (T : Turn X'.prog X'.w X'.K tg J fp it tn) (st : tn 0 s.heap) (hf : ∀ b∈fp,FpOk X' [] H b) (hg : PG X' tg g) (hi : PIfs X' ifs ti) (he : PE X' elt te) (w0 : W 0 m0 H)
    (turn : ∀ i m H,W i m H→(J.stop i H∧Q (.ref D) H)∨(J.go i H∧∀ x H',J.yld i H x H'→g x σ₀ H' fun σ2 H2=>(∀ (k : Nat) v,σ₀[k]? = some (some v)→σ2[k]? = some (some v))∧ti σ2 H2 fun b H3=>
        if b=true then te σ2 H3 fun y H4=>∃ xs ks p,H4 D=some (HT X'.prog X'.w D xs)∧y = .ref p∧H4 p=some (.tup (List.map kV ks))∧TupsT H4 xs∧xs.length < 76∧∃ m',m' < m∧∀ xs',InsT xs ks p xs'→W (i + 1) m' (upd H4 D (HT X'.prog X'.w D xs')) else ∃ m',m' < m∧W (i + 1) m' H3)) :
    codeAny (model X'.prog X'.w) X'.A (.compStart (.SetComp elt [⟨tg,iter,ifs,0⟩] scope pos) 0 (.ref it) (.ref D) X'.env) (fun r s'=>(∃ f,r = .ok f)∧∃ H',Inv X' [] σ₀ H' s'∧Q (.ref D) H') s:=by
  have stat : ∀ {H' : Hp},(∀ b∈fp,H' b=none)→∀ b∈fp,FpOk X' [] H' b:=fun hn b hb=>⟨hn b hb,(hf b hb).2⟩
  have loop : codeAny (model X'.prog X'.w) X'.A (.compLoop (.SetComp elt [⟨tg,iter,ifs,0⟩] scope pos) 0 (.ref it) (.ref D) X'.env) (fun r s'=>(∃ f,r = .ok f)∧∃ H',Inv X' [] σ₀ H' s'∧Q (.ref D) H') s:=by
    refine codeAny_loop rfl (fun n s'=>∃ i H',Inv X' [] σ₀ H' s'∧tn i s'.heap∧(∀ b∈fp,H' b=none)∧W i n H') ?_ m0 ⟨0,H,I,st,fun b hb=>(hf b hb).1,w0⟩
    rintro n s1 ⟨i,H1,I1,st1,fr1,w1⟩
    show wpAny _ X'.A ((compTurn (.SetComp elt [⟨tg,iter,ifs,0⟩] scope pos) 0 (.ref it) (.ref D) X'.env).onRaise (fun x=>do noteFrame x X'.env; theTreesLotGoes x)) _ _ s1
    refine wpAny_noted ?_
    have noE : ∀ {α : Type} {t : Sem α} {P : α→Shared→Prop} {F : Value→Shared→Prop} {s : Shared},wpAny (model X'.prog X'.w) X'.A t P X'.xe s→wpAny (model X'.prog X'.w) X'.A t P F s:=fun h=>wpAny_mono h (fun _ _ x=>x) fun e s' x=>by rw [hxe] at x; exact x.elim
    rw [compTurn_set]
    refine wpAny_bind (wpAny_standAt (wpAny_bind ?_))
    rcases turn i n H1 w1 with ⟨stop,qn⟩ | ⟨go,step⟩
    · refine thn (T.done X' rfl rfl rfl hcalm i [] s1 σ₀ H1 _ I1 (stat fr1) st1 stop) fun r s2 ⟨hr,I2⟩=>?_
      subst hr
      exact wpAny_pure ⟨⟨_,rfl⟩,H1,I2,qn⟩
    · refine thn (T.item X' rfl rfl rfl hcalm i [] s1 σ₀ H1 _ I1 (stat fr1) st1 go) fun r s2 ⟨u,hr,h2⟩=>?_
      subst hr
      refine wpAny_bind (thn h2 fun _ s3 ⟨x,H3,I3,r3,y3,st3,fr3⟩=>?_)
      have I3':=I3.pinned (stat fr3) (T.obj _ _ st3)
      refine wpAny_bind (noE (thn (hg _ s3 σ₀ H3 x u _ I3' r3 (step x H3 y3)) fun _ s4 ⟨σ4,H4,I4,hk4,q4⟩=>?_))
      refine wpAny_bind (noE (thn (hi _ s4 σ4 H4 _ I4 q4) fun ok s5 ⟨H5,I5,q5⟩=>?_))
      have again' : ∀ {s7 : Shared} {H7 : Hp} {m' : Nat},Inv X' ([] ++ pinsAt fp s3.heap) σ4 H7 s7→m' < n→W (i + 1) m' H7→∃ m,m < n∧∃ i H',Inv X' [] σ₀ H' s7∧tn i s7.heap∧(∀ b∈fp,H' b=none)∧W i m H':=fun {s7 H7 m'} I7 hm w7=>by
        refine ⟨m',hm,i + 1,H7,I7.unpinned.weak (by rw [I3.len,I7.len]) hk4,T.keep _ _ _ st3 fun b hb o e=>(I7.pin (b,o) (List.mem_append_right _ (List.mem_append_right _ (mem_pinsAt hb e)))).1,fun b hb=>?_,w7⟩
        obtain ⟨o,e,d⟩:=T.obj _ _ st3 b hb
        exact (I7.pin (b,o) (List.mem_append_right _ (List.mem_append_right _ (mem_pinsAt hb e)))).2.1
      cases ok with
      | false=>
        obtain ⟨m',hm,w7⟩:=q5
        exact wpAny_pure ⟨rfl,again' I5 hm w7⟩
      | true=>
        refine wpAny_bind (wpAny_bind (noE (thn (he _ s5 σ4 H5 _ I5 q5) fun y s6 ⟨yv,H6,I6,r6,xs6,ks6,p6,hD,ey,hp6,hq6,hz,m',hm,w7⟩=>?_)))
        subst ey
        cases (show y=Value.ref p6 from r6)
        refine wpAny_bind (wpAny_standAt (wpAny_bind ?_))
        exact t_add hu I6 hD hp6 hq6 hz fun xs8 s8 ii I8=>wpAny_pure (wpAny_pure ⟨rfl,again' I8 hm (w7 _ ii)⟩)
  refine compStart_set loop (T.self _ 0 s _ _ st loop)
theorem scompT_block {pins : List (Addr×Obj)} {σ : St} {H : Hp} {s : Shared} {Q : VK} {it : Addr} {fp : List Addr} {tn : Nat→Heap→Prop} {J : It} {E : Value→Shared→Prop} (hu : X.A.units + 1 < cLine) (I : Inv X pins σ H s) (hcalm : X.calm=true) (S : CompScope X N' ix scope)
    (T : Turn X.prog X.w X.K tg J fp it tn) (st : tn 0 s.heap) (hf : ∀ b∈fp,FpOk X pins H b)
    (hg : ∀ C s H fp,PG (cxComp X N' scope C s H fp) tg g) (hi : ∀ C s H fp,PIfs (cxComp X N' scope C s H fp) ifs ti) (he : ∀ C s H fp,PE (cxComp X N' scope C s H fp) elt te)
    (h : ∀ D,H D=none→∃ W : Nat→Nat→Hp→Prop,(∃ m,W 0 m (upd H D (HT X.prog X.w D [])))∧∀ i m H,W i m H→
      (J.stop i H∧Q (.ref D) H)∨(J.go i H∧∀ x H',J.yld i H x H'→g x (compSt ix σ) H' fun σ2 H2=>(∀ (k : Nat) v,(compSt ix σ)[k]? = some (some v)→σ2[k]? = some (some v))∧ti σ2 H2 fun b H3=>
        if b=true then te σ2 H3 fun y H4=>∃ xs ks p,H4 D=some (HT X.prog X.w D xs)∧y = .ref p∧H4 p=some (.tup (List.map kV ks))∧TupsT H4 xs∧xs.length < 76∧∃ m',m' < m∧∀ xs',InsT xs ks p xs'→W (i + 1) m' (upd H4 D (HT X.prog X.w D xs')) else ∃ m',m' < m∧W (i + 1) m' H3)) :
    wpAny (model X.prog X.w) X.A (newSet (.type "set")) (fun acc s3=>wpAny (model X.prog X.w) X.A (newFunctionEnv scope X.env.globals (clOf X.env scope.names []) [] X.env.qual none .none (some X.env)) (fun cenv s4 =>
      codeAny (model X.prog X.w) X.A (.compStart (.SetComp elt [⟨tg,iter,ifs,0⟩] scope pos) 0 (.ref it) acc { cenv with scope:=relabel scope X.env }) (CompEnd X pins σ Q acc cenv.locals) s4) E s3) E s:=by
  refine set_newT (w:=X.w) fun h3 kk hsz S3=>?_
  have fresh0 : H s.heap.objs.size=none:=I.hok.fresh (Nat.le_refl _)
  obtain ⟨W,⟨m0,w0⟩,turn⟩:=h s.heap.objs.size fresh0
  have lt0 : ∀ b∈fp,b < s.heap.objs.size:=fun b hb=>by obtain ⟨o,e,_⟩:=T.obj 0 _ st b hb; exact Heap.lt_size e
  generalize hD : s.heap.objs.size=D at *
  have I3 : Inv X pins σ (upd H D (HT X.prog X.w D [])) { s with heap:=h3 }:=I.laid (a:=D) (o:=HT X.prog X.w D []) (t':=s.toks) kk (Nat.le_of_eq hD) (ht_ok S3)
  have hf3 : ∀ b∈fp,FpOk X pins (upd H D (HT X.prog X.w D [])) b:=fun b hb=>by
    obtain ⟨f0,fr⟩:=hf b hb
    exact ⟨by rw [upd_ne (Nat.ne_of_lt (lt0 b hb))]; exact f0,fr⟩
  have st3 : tn 0 h3:=T.keep _ _ _ st fun b hb o e=>kk b o e
  have lt3 : ∀ b∈fp,b < h3.objs.size:=fun b hb=>by obtain ⟨o,e,_⟩:=T.obj 0 _ st3 b hb; exact Heap.lt_size e
  refine wpAny_newFunctionEnv S.nocell (fun x hx=>nomatch hx) (fun h4 hns hsb=>?_) S.kind
  have k4 : ∀ b o,h3.get? b=some o→h4.get? b=some o:=fun b o e=>(hsb.2 b (Nat.ne_of_lt (Heap.lt_size e))).trans (Heap.get?_push_of_some _ e)
  have J4 : Inv (cxComp X N' scope h3.objs.size { s with heap:=h3 } (upd H D (HT X.prog X.w D [])) fp) [] (compSt ix σ) (upd H D (HT X.prog X.w D [])) { s with heap:=h4,toks:=s.toks + ([] : List (Str×Value)).length }:=
    inv_comp (s:={ s with heap:=h3 }) (tk:=s.toks + ([] : List (Str×Value)).length) I3 hcalm S hf3 lt3 hns k4
  have st4 : tn 0 ({ s with heap:=h4,toks:=s.toks + ([] : List (Str×Value)).length } : Shared).heap:=T.keep _ _ _ st3 fun b hb o e=>k4 b o e
  have fr4 : ∀ b∈fp,upd H D (HT X.prog X.w D []) b=none:=fun b hb=>(hf3 b hb).1
  revert J4 st4
  generalize ({ s with heap:=h4,toks:=s.toks + ([] : List (Str×Value)).length } : Shared)=s4
  intro J4 st4
  have hf4 : ∀ b∈fp,FpOk (cxComp X N' scope h3.objs.size { s with heap:=h3 } (upd H D (HT X.prog X.w D [])) fp) [] (upd H D (HT X.prog X.w D [])) b:=fun b hb=>
    ⟨fr4 b hb,Nat.ne_of_lt (lt3 b hb),J4.ok.exfs b hb,.inl hb,fun x c e=>(J4.ok.exf b hb).2 x c e,fun p hp=>nomatch hp⟩
  refine codeAny_mono (scompT_loop (X':=cxComp X N' scope h3.objs.size { s with heap:=h3 } (upd H D (HT X.prog X.w D [])) fp) (Q:=Q) (D:=D) hu J4 rfl rfl T st4 hf4 (hg _ _ _ _) (hi _ _ _ _) (he _ _ _ _) w0 turn) fun r s' ⟨hr,H',J',q'⟩=>?_
  refine ⟨D,H',rfl,hr,I3.call' J'.os J'.base J'.hok J'.bare fun b hb=>?_,?_,?_,q'⟩
  · obtain ⟨_,f1,_,f3,f4,f5⟩:=hf3 b hb
    exact ⟨f3,f1,f4,f5⟩
  · exact I3.fpOk (H':=H') (Nat.le_refl _) J'.free
  · obtain ⟨m,hn,_⟩:=J'.loc
    exact ⟨m,hn⟩
theorem pe_scompT (hu : X.A.units + 1 < cLine) (hcalm : X.calm=true) (S : CompScope X N' ix scope) (hit : PI X tg iter wi)
    (hg : ∀ C s H fp,PG (cxComp X N' scope C s H fp) tg g) (hi : ∀ C s H fp,PIfs (cxComp X N' scope C s H fp) ifs ti) (he : ∀ C s H fp,PE (cxComp X N' scope C s H fp) elt te)
    (hs : ∀ x,foldedSetIterable iter X.env x=pure x:=by intro _; rfl) : PE X (.SetComp elt [⟨tg,iter,ifs,0⟩] scope pos) (tSCompT X.prog X.w ix wi g ti te):=by
  refine ⟨?_⟩
  intro pins s σ H Q I h
  show wpAny _ X.A (comprehension (.SetComp elt [⟨tg,iter,ifs,0⟩] scope pos) scope X.env _ (newSet (.type "set")) false (eval iter X.env)) _ _ s
  refine wpAny_comprehension_free (use:=none) rfl hs (comp_closure I S) S.kind S.loc (thn (hit pins s σ H _ I h) fun v s1 h1=>thn h1 fun itv s2 h2=>?_)
  obtain ⟨it,fp,tn,J,H2,rfl,I2,T,st2,f2,q2⟩:=h2
  refine thn (scompT_block (E:=X.xe) (elt:=elt) (iter:=iter) (pos:=pos) hu I2 hcalm S T st2 f2 hg hi he q2) fun acc s3 h3=>thn h3 fun cenv s4 h4=>codeAny_mono h4 fun r s' hr=>?_
  obtain ⟨D,H',rfl,⟨f,rfl⟩,I',⟨g0,g1,_,g3,g4,g5⟩,⟨m,hm⟩,q'⟩:=hr
  exact ⟨m,hm,fun h' hsb=>⟨.ref D,H',I'.turned (t':=s'.toks) (fun b o hb e=>(hsb.2 b hb).trans e) g0 g1 g3 g4 g5,rfl,q'⟩⟩
theorem call_lenT : CallR X (.builtin "len") (fun xs H Q=>∃ p ys,xs=[.ref p]∧H p=some (HT X.prog X.w p ys)∧ys.length < 1000∧Q (.int ys.length) H):=by
  intro pins s σ H xs us Q I r h
  obtain ⟨p,ys,rfl,e,hn,q⟩:=h
  obtain ⟨u,rfl,ru⟩:=r.one
  cases ru
  obtain ⟨o,es,ep,t,ho,hex,hd,hsz,_,_,T⟩:=ht_at I e
  exact call_len_set ho hex hd T.fits (by rw [hsz]; omega) ⟨.int ys.length,H,I.tok _,⟨_,by rw [hsz]⟩,q⟩
end
end L2
namespace L2
open PySem PySem.Spec PySem.W PyProof.Rows
theorem TupsT.same {H H' : Hp} {xs : List (List Key×Addr)} (h : TupsT H xs) (s : Same H H') : TupsT H' xs:=fun q hq=>s _ _ (h q hq)
theorem scompT_by {K : PySem.W.Frag} {prog : Program} {w : World} {a D : Addr} {xs : List V} {g : TG} {ti : TT} {te : TE} {σ₀ : St} {H1 : Hp} {R : Hp→Prop} (P : Nat→List (List Key)→Prop) (hD : H1 D=none) (hx : H1 a=some (.lst xs)) (hn : xs.length≤76) (h0 : P 0 [])
    (step : ∀ i x ks0 H,xs[i]? = some x→Same H1 H→P i ks0→∀ (K1 : V→Hp→Prop) (K2 : Hp→Prop),(∀ p ks H4,H4 p=some (.tup (List.map kV ks))→Same H H4→(ks∈ks0→P (i + 1) ks0)→(ks ∉ ks0→P (i + 1) (ks0 ++ [ks]))→K1 (.ref p) H4)→
      g x σ₀ H fun σ2 H2=>(∀ (k : Nat) v,σ₀[k]? = some (some v)→σ2[k]? = some (some v))∧ti σ2 H2 fun b H3=>if b=true then te σ2 H3 K1 else K2 H3)
    (fin : ∀ ys H,Same H1 H→P xs.length (ys.map (·.1))→ys.length≤xs.length→H D=some (HT prog w D ys)→R H) :
    ∃ W : Nat→Nat→Hp→Prop,(∃ m,W 0 m (upd H1 D (HT prog w D [])))∧∀ i m H,W i m H→((Itl K a).stop i H∧R H)∨((Itl K a).go i H∧∀ x H',(Itl K a).yld i H x H'→g x σ₀ H' fun σ2 H2=>(∀ (k : Nat) v,σ₀[k]? = some (some v)→σ2[k]? = some (some v))∧ti σ2 H2 fun b H3=>
      if b=true then te σ2 H3 fun y H4=>∃ xs ks p,H4 D=some (HT prog w D xs)∧y = .ref p∧H4 p=some (.tup (List.map kV ks))∧TupsT H4 xs∧xs.length < 76∧∃ m',m' < m∧∀ xs',InsT xs ks p xs'→W (i + 1) m' (upd H4 D (HT prog w D xs')) else ∃ m',m' < m∧W (i + 1) m' H3):=by
  refine ⟨fun i m H=>i + m=xs.length∧Same H1 H∧∃ ys,H D=some (HT prog w D ys)∧ys.length≤i∧TupsT H ys∧P i (ys.map (·.1)),⟨xs.length,by omega,same_new hD _,[],upd_same,Nat.le_refl _,(fun q hq=>nomatch hq),h0⟩,?_⟩
  rintro i m H ⟨him,s1,ys,hz,hl,ht,hp⟩
  have ex:=s1 _ _ hx
  by_cases hi : i < xs.length
  · refine .inr ⟨⟨xs,_,SqL.of ex,List.getElem?_eq_getElem hi⟩,?_⟩
    rintro x H' ⟨rfl,hy⟩
    refine step i x _ H' (hy _ (SqL.of ex)) s1 hp _ (fun H3=>_) fun p ks H4 hp4 s4 p1 p2=>?_
    have hz4:=s4 _ _ hz
    have ht4:=ht.same s4
    have nd : ∀ (q : Addr) (zs : List V),H4 q=some (.tup zs)→q≠D:=fun q zs e=>ne_of e hz4 (by intro z; cases z)
    refine ⟨ys,ks,p,hz4,rfl,hp4,ht4,by omega,m - 1,by omega,fun xs' ii=>⟨by omega,(s1.trans s4).young hD,xs',upd_same,?_⟩⟩
    rcases ii with ⟨hin,rfl⟩ | ⟨hno,rfl⟩
    · refine ⟨by omega,fun q hq=>by rw [upd_ne (nd _ _ (ht4 q hq))]; exact ht4 q hq,p1 ?_⟩
      obtain ⟨q,hq,e⟩:=hin
      exact List.mem_map.mpr ⟨q,hq,e⟩
    · refine ⟨by rw [List.length_append,List.length_singleton]; omega,fun q hq=>?_,?_⟩
      · rcases List.mem_append.mp hq with z | z
        · rw [upd_ne (nd _ _ (ht4 q z))]; exact ht4 q z
        · rw [List.mem_singleton.mp z,upd_ne (nd _ _ hp4)]; exact hp4
      · rw [List.map_append]
        exact p2 fun z=>by obtain ⟨q,hq,e⟩:=List.mem_map.mp z; exact hno q hq e
  · have e : i=xs.length:=by omega
    subst e
    exact .inl ⟨⟨xs,SqL.of ex,Nat.le_refl _⟩,fin ys H s1 hp hl hz⟩
def pr2 (r : List Int) : Int×Int:=(r.getD 0 0,r.getD 1 0)
def pk2 (q : Int×Int) : List Key:=[.inl q.1,.inl q.2]
theorem pk2_inj {q q' : Int×Int} (h : pk2 q=pk2 q') : q=q':=by
  unfold pk2 at h
  injection h with h1 h2
  injection h2 with h2 _
  injection h1 with h1
  injection h2 with h2
  exact Prod.ext h1 h2
def PrsP (ts : List (List Int)) (i : Nat) (ks : List (List Key)) : Prop:=∃ ps : List (Int×Int),ks=ps.map pk2∧(∀ q,q∈ps↔q∈(ts.take i).map pr2)∧(ps.length=i↔((ts.take i).map pr2).Nodup)∧ps.length≤i
theorem PrsP.zero {ts : List (List Int)} : PrsP ts 0 []:=⟨[],rfl,fun q=>by simp,by simp,Nat.le_refl _⟩
theorem PrsP.old {ts : List (List Int)} {i : Nat} {ks : List (List Key)} {r : List Int} (h : PrsP ts i ks) (e : ts[i]? = some r) (hin : pk2 (pr2 r)∈ks) : PrsP ts (i + 1) ks:=by
  obtain ⟨ps,rfl,h1,h2,h3⟩:=h
  obtain ⟨q,hq,eq⟩:=List.mem_map.mp hin
  have:=pk2_inj eq
  subst this
  have tk : ts.take (i + 1)=ts.take i ++ [r]:=by rw [List.take_succ,e]; rfl
  refine ⟨ps,rfl,fun q=>?_,?_,by omega⟩
  · rw [tk,List.map_append,List.mem_append,← h1 q]
    exact ⟨.inl,fun z=>z.elim id fun y=>by rw [List.map_cons,List.map_nil,List.mem_singleton] at y; rw [y]; exact hq⟩
  · rw [tk,List.map_append]
    refine ⟨fun z=>by omega,fun z=>?_⟩
    exact absurd rfl ((List.nodup_append.mp z).2.2 (pr2 r) ((h1 _).mp hq) (pr2 r) (by simp))
theorem PrsP.new {ts : List (List Int)} {i : Nat} {ks : List (List Key)} {r : List Int} (h : PrsP ts i ks) (e : ts[i]? = some r) (hno : pk2 (pr2 r) ∉ ks) : PrsP ts (i + 1) (ks ++ [pk2 (pr2 r)]):=by
  obtain ⟨ps,rfl,h1,h2,h3⟩:=h
  have nin : pr2 r ∉ ps:=fun z=>hno (List.mem_map.mpr ⟨_,z,rfl⟩)
  have tk : ts.take (i + 1)=ts.take i ++ [r]:=by rw [List.take_succ,e]; rfl
  refine ⟨ps ++ [pr2 r],by rw [List.map_append]; rfl,fun q=>?_,?_,by rw [List.length_append,List.length_singleton]; omega⟩
  · rw [tk,List.map_append,List.mem_append,List.mem_append,h1 q]; rfl
  · rw [tk,List.map_append,List.length_append,List.length_singleton,List.nodup_append]
    refine ⟨fun z=>⟨h2.mp (by omega),by simp,fun a ha b hb e=>?_⟩,fun z=>by rw [h2.mpr z.1]⟩
    rw [List.map_cons,List.map_nil,List.mem_singleton] at hb
    subst hb
    subst e
    exact nin ((h1 _).mpr ha)
theorem PrsP.fin {ts : List (List Int)} {ks : List (List Key)} (h : PrsP ts ts.length ks) : (ks.length < ts.length↔¬ (ts.map pr2).Nodup):=by
  obtain ⟨ps,rfl,h1,h2,h3⟩:=h
  rw [List.take_length] at h2
  rw [List.length_map,← h2]
  omega
theorem tIfw {t : TT} {A B : TS} {D : Ends} {σ : St} {H : Hp} (b : Bool) (h : ∀ Q : Bool→Hp→Prop,Q b H→t σ H Q) (h1 : b=true→A D σ H) (h2 : b=false→B D σ H) : tIfS t A B D σ H:=
  h _ (by
    cases b with
    | true=>exact iteT (h1 rfl)
    | false=>exact iteF (h2 rfl))
theorem getD_row {rs : List (List Int)} {n : Nat} {r : List Int} (h : rs[n]? = some r) : rs.getD n []=r:=by rw [List.getD_eq_getElem?_getD,h]; rfl
def Gvn (ls os : List (List Int)) (tm : Int) (r : List Int) : Prop:=(0≤r.getD 0 0∧r.getD 0 0 < (ls.length : Int))∧(0≤r.getD 1 0∧r.getD 1 0 < (os.length : Int))∧1≤r.getD 2 0∧reachB tm (colAt os 0 (r.getD 1 0)) (colAt ls 0 (r.getD 0 0))=true
def byOuts (ts : List (List Int)) : List (List Int):=ts.map fun r=>[r.getD 1 0,r.getD 2 0]
def NoneAbove (ss : List Int) (rs : List (List Int)) : Prop:=∀ (i : Nat) u r,ss[i]? = some u→rs[i]? = some r→u≤r.getD 1 0
def IsDeal (ls os : List (List Int)) (tm : Int) (ts : List (List Int)) : Prop:=(∀ r∈ts,Gvn ls os tm r)∧(ts.map pr2).Nodup∧NoneAbove (summedOf ls.length (byLots ts)) ls∧NoneAbove (summedOf os.length (byOuts ts)) os
def spGiven : Sp:=fun vs H Q _=>∃ (a b t : Addr) (tm l o c : Int) (ls os : List (List Int)),vs=[.ref a,.ref b,.int tm,.ref t]∧H t=some (.tup [.int l,.int o,.int c])∧Rows H a ls∧(∀ r∈ls,r.length=3)∧Rows H b os∧(∀ r∈os,r.length=2∧inB (r.getD 0 0) 999)∧okTerm tm∧
  ∀ x H',(x=true↔Gvn ls os tm [l,o,c])→Same H H'→Q (.bl x) H'
def spNoneAb : Sp:=fun vs H Q _=>∃ (a b : Addr) (ss : List Int) (rs : List (List Int)),vs=[.ref a,.ref b]∧IntsAt H a ss∧Rows H b rs∧(∀ r∈rs,2≤r.length)∧ss.length=rs.length∧rs.length≤100∧∀ x H',(x=true↔NoneAbove ss rs)→Same H H'→Q (.bl x) H'
def spIsDeal (cl : Nat→Addr) : Sp:=fun vs H Q E=>∃ (a b p : Addr) (tm : Int) (rs os ts : List (List Int)),vs=[.ref a,.ref b,.int tm,.ref p]∧Rows H a rs∧(∀ r∈rs,r.length=3)∧Rows H b os∧(∀ r∈os,r.length=2)∧Rows H p ts∧(∀ r∈ts,r.length=3)∧ts.length≤76∧
  (∀ n,bothNo rs os tm=some n→∀ H',Same H H'→E (.ref (cl n)) none H')∧(bothNo rs os tm=none→∀ x H',(x=true↔IsDeal rs os tm ts)→Same H H'→Q (.bl x) H')
end L2
namespace L2
open PySem PySem.Spec PySem.W PyProof.Rows
theorem comp_rows {K : PySem.W.Frag} {a D : Addr} {xs : List V} {rs : List (List Int)} {g : TG} {te : TE} {σ₀ : St} {H1 : Hp} {R : Hp→Prop} (gm : List Int→List Int) (hD : H1 D=none) (hx : H1 a=some (.lst xs)) (ht : Tups H1 xs rs) (hn : rs.length≤900)
    (step : ∀ (i : Nat) p r H,rs[i]? = some r→Same H1 H→H p=some (.tup (r.map V.int))→∀ (K1 : V→Hp→Prop) (K2 : Hp→Prop),(∀ t,H t=none→K1 (.ref t) (upd H t (.tup ((gm r).map V.int))))→
      g (.ref p) σ₀ H fun σ2 H2=>(∀ (k : Nat) v,σ₀[k]? = some (some v)→σ2[k]? = some (some v))∧tIf0 σ2 H2 fun b H3=>if b=true then te σ2 H3 K1 else K2 H3)
    (fin : ∀ H,Same H1 H→Rows H D (rs.map gm)→R H) :
    ∃ W : Nat→Nat→Hp→Prop,(∃ m,W 0 m (upd H1 D (.lst [])))∧∀ i m H,W i m H→((Itl K a).stop i H∧R H)∨((Itl K a).go i H∧∀ x H',(Itl K a).yld i H x H'→g x σ₀ H' fun σ2 H2=>(∀ (k : Nat) v,σ₀[k]? = some (some v)→σ2[k]? = some (some v))∧
      tIf0 σ2 H2 fun b H3=>if b=true then te σ2 H3 fun y H4=>∃ zs,H4 D=some (.lst zs)∧zs.length < sizeLine∧∃ m',m' < m∧W (i + 1) m' (upd H4 D (.lst (zs ++ [y]))) else ∃ m',m' < m∧W (i + 1) m' H3):=by
  have lx:=ht.1
  refine ⟨fun i m H=>i + m=xs.length∧Same H1 H∧Rows H D ((rs.take i).map gm),⟨xs.length,by omega,same_new hD _,Rows.nil upd_same⟩,?_⟩
  rintro i m H ⟨him,s1,R1⟩
  have ex:=s1 _ _ hx
  by_cases hi : i < xs.length
  · refine .inr ⟨⟨xs,_,SqL.of ex,List.getElem?_eq_getElem hi⟩,?_⟩
    rintro x H' ⟨rfl,hy⟩
    obtain ⟨p,r,rfl,er,hp⟩:=ht.at (hy _ (SqL.of ex))
    refine step i p r H' er s1 (s1 _ _ hp) _ _ fun t htt=>?_
    obtain ⟨ys,ey,eyl,_⟩:=R1.get
    refine ⟨ys,by rw [upd_ne (ne_of_none ey htt)]; exact ey,small1000 (by rw [eyl,List.length_map,List.length_take]; omega),m - 1,by omega,by omega,(s1.trans (same_new htt _)).young hD,?_⟩
    rw [← take_next er,List.map_append]
    exact R1.push (r:=gm r) ey htt
  · have e : rs.take i=rs:=List.take_of_length_le (by omega)
    rw [e] at R1
    exact .inl ⟨⟨xs,SqL.of ex,by omega⟩,fin H s1 R1⟩
end L2
namespace L2
open PySem PySem.Spec PySem.W PyProof.Rows
def BMain (mg : Str→Option Value) (base : Heap) : Prop:=∃ bm ob,mg "__builtins__" = some (.ref bm)∧bm≠builtinsNs∧base.get? bm=some ob∧ob.cls = .type "module" ∧ ob.dict=some builtinsNs∧ob.data = .plain
def without (H : Hp) (a c : Addr) : Hp:=fun b=>if b=a∨b=c then none else H b
theorem without_none {H : Hp} {a c b : Addr} (h : H b=none) : without H a c b=none:=by
  unfold without
  split
  · rfl
  · exact h
theorem without_some {H : Hp} {a c b : Addr} {o : HO} (h : without H a c b=some o) : b≠a∧b≠c∧H b=some o:=by
  unfold without at h
  split at h
  · cases h
  · rename_i n
    exact ⟨fun z=>n (.inl z),fun z=>n (.inr z),h⟩
theorem without_ne {H : Hp} {a c b : Addr} (h1 : b≠a) (h2 : b≠c) : without H a c b=H b:=by
  unfold without
  rw [if_neg (fun z=>z.elim h1 h2)]
theorem without_l {H : Hp} {a c : Addr} : without H a c a=none:=by unfold without; rw [if_pos (.inl rfl)]
theorem without_r {H : Hp} {a c : Addr} : without H a c c=none:=by unfold without; rw [if_pos (.inr rfl)]
def IsCod (q : Str) (o : Obj) : Prop:=∃ vs t,o.data = .fields vs∧vs[1]? = some (.str q t)
section
variable {X : Cx} {pins : List (Addr×Obj)} {σ : St} {H : Hp} {s : Shared}
theorem Inv.fsFree (I : Inv X pins σ H s) {b : Addr} (hb : b∈X.fs) : H b=none:=by
  obtain ⟨_,o,ho,_⟩:=I.ok.funs.mem hb
  exact I.base.free b o ho (I.ok.frf b hb) fun z=>I.ok.exfs b z hb
theorem Inv.notOld (I : Inv X pins σ H s) (hex : X.ex=[]) {b : Addr} {u : HO} (e : H b=some u) : ∀ o,X.s₀.heap.get? b=some o→X.H₀ b≠none:=fun o ho n=>by
  have:=I.base.free b o ho n (by rw [hex]; simp)
  rw [e] at this; cases this
theorem lam_make {A : Around} {E : Value→Shared→Prop} {q : Str} {params : Arguments} {body : Expr} {scope : Scope} {pos : Pos} {c P : Addr} {clos : List (Str×Addr)} {Q : Value→Shared→Prop} (I : Inv X pins σ H s) (hex : X.ex=[])
    (hP : H P=some (.cod q pos)) (hcode : X.env.code = .ref c) (C : codeHdIn X.K c P=true) (B : BMain X.mg X.base) (hcl : closureFor scope X.env=pure clos) (hdef : defaultsOf params X.env=([],[])) (hq : X.env.qual ++ "<lambda>" = q)
    (h : ∀ f c' ctv co s',Inv X ((f,kla_obj "<lambda>" q params body scope clos ((X.mg "__name__").getD .none) c' ctv) :: (P,tabObj #[rawInt pos.line,rawInt pos.col,.ref c']) :: (c',co) :: pins) σ (without H P c') s'→IsCod q co→P≠c'→H f=none→(H c' = none∨H c' = some (.own P)) →
      (∀ o,X.s₀.heap.get? c' = some o→X.H₀ c'≠none)→(∀ p∈X.pn ++ pins,p.1≠P∧p.1≠c')→Q (.ref f) s') :
    wpAny (model X.prog X.w) A (eval (.Lambda params body scope pos) X.env) Q E s:=by
  have Cd : CodeHd s.heap c P:=codeHd_of_K I.kIn C
  have hgs:=I.mod.glob.keeps I.bk
  have nP : ∀ b,H b=none→b≠P:=fun b n z=>by rw [z,hP] at n; cases n
  obtain ⟨bm,ob,b1,b2,b3,b4,b5,b6⟩:=B
  have b3':=I.bs _ _ b3
  have hgP : mainGlobals≠P:=by
    obtain ⟨o,es,ep,e,_⟩:=I.mod.glob
    exact nP _ (I.bs _ _ e).2
  have hbG : bm≠mainGlobals:=fun z=>by
    obtain ⟨o,es,ep,e,hd,_⟩:=I.mod.glob
    rw [z,e] at b3; cases b3; rw [hd] at b6; cases b6
  have BA : s.heap.BuiltinsAt X.mg P:=⟨bm,ob,b1,b2,hbG,nP _ b3'.2,b3'.1,b4,b5,b6⟩
  have Lne : X.env.locals≠P:=nP _ I.free
  refine kla_eval hdef ?_
  rw [hq]
  have fin : ∀ (h' : Heap) (tk : Nat) (f c' : Addr) (ctv : Value),Heap.ExtBut P s.heap h'→s.heap.objs.size≤h'.objs.size→f=h'.objs.size→h'.CodeRec (.ref c') q→h'.get? P=some (tabObj #[rawInt pos.line,rawInt pos.col,.ref c'])→P≠c'→
      (H c' = some (.own P)∨s.heap.objs.size≤c')→Q (.ref f) { s with heap:=h'.push (kla_obj "<lambda>" q params body scope clos ((X.mg "__name__").getD .none) c' ctv),toks:=tk }:=by
    intro h' tk f c' ctv hx hsz ef hrec hT hne hc
    subst ef
    have hcn : H c' = none∨H c' = some (.own P):=by
      rcases hc with z | z
      · exact .inr z
      · exact .inl (I.hok.fresh z)
    have kp : ∀ b o,b≠P→s.heap.get? b=some o→(h'.push (kla_obj "<lambda>" q params body scope clos ((X.mg "__name__").getD .none) c' ctv)).get? b=some o:=fun b o n e=>Heap.get?_push_of_some _ (hx b o n e)
    have ncc : ∀ b u,H b=some u→u≠.own P→b≠c':=fun b u e n z=>by
      rw [z] at e
      rcases hcn with y | y
      · rw [y] at e; cases e
      · rw [y] at e; cases e; exact n rfl
    have npp : ∀ b u,H b=some u→u≠.cod q pos→b≠P:=fun b u e n z=>by
      rw [z,hP] at e; cases e; exact n rfl
    obtain ⟨c₂,co,vs,t,e2,hoc,hd,hv⟩:=hrec
    cases e2
    have J : Inv X pins σ (without H P c') { s with heap:=h'.push (kla_obj "<lambda>" q params body scope clos ((X.mg "__name__").getD .none) c' ctv),toks:=tk }:=by
      refine I.step (g':=s.gens) (d':=s.drawn) (ch:=[]) (fun _ z=>nomatch z) (fun b o _ _ _ e n=>kp b o (nP b n) e) (fun b o _ _ _ e n=>⟨o.slots,kp b o (nP b n) e⟩) (fun b o _ _ n=>without_none n) (fun b o _ e=>?_)
        (fun b xs e=>by rw [without_ne (npp b _ e (by intro z; cases z)) (ncc b _ e (by intro z; cases z))]; exact e) (fun b o u e=>by rw [without_ne (npp b _ e (by intro z; cases z)) (ncc b _ e (by intro z; cases z))]; exact e)
        (fun b ps e=>⟨#[],by rw [without_ne (npp b _ e (by intro z; cases z)) (ncc b _ e (by intro z; cases z)),e]; simp⟩) (fun m hm=>?_) (fun b u e=>?_) I.bare
      · by_cases hb : b=P
        · exact ⟨_,by rw [hb]; exact Heap.get?_push_of_some _ hT⟩
        · exact ⟨o,kp b o hb e⟩
      · obtain ⟨o,es,ep,ho,r⟩:=hm
        exact ⟨o,es,ep,kp _ o Lne ho,r⟩
      · obtain ⟨n1,n2,e'⟩:=without_some e
        refine (I.hok b u e').stay (fun d v hd q=>kp d v ?_ q) (fun d z=>?_) fun d xs z=>?_
        · rcases hd with z | z
          · rw [z]; exact n1
          · exact npp d _ z (by intro y; cases y)
        · rw [without_ne (npp d _ z (by intro y; cases y)) (ncc d _ z (by intro y; cases y; exact n1 rfl))]; exact z
        · rw [without_ne (npp d _ z (by intro y; cases y)) (ncc d _ z (by intro y; cases y))]; exact z
    have hf : H h'.objs.size=none:=I.hok.fresh hsz
    have old : ∀ b u,H b=some u→b≠X.env.locals∧b ∉ X.fs:=fun b u e=>⟨fun z=>(by rw [z,I.free] at e; cases e),fun z=>(by rw [I.fsFree z] at e; cases e)⟩
    have new : ∀ b,s.heap.objs.size≤b→b≠X.env.locals∧b ∉ X.fs:=fun b hb=>⟨Nat.ne_of_gt (Nat.lt_of_lt_of_le I.lt hb),I.nofs hb⟩
    have hc' : c'≠X.env.locals∧c' ∉ X.fs:=by
      rcases hc with z | z
      · exact old _ _ z
      · exact new _ z
    refine h h'.objs.size c' ctv co _ (J.pins_of fun p hp=>?_) ⟨vs,t,hd,hv⟩ hne hf hcn (fun o ho=>?_) fun p hp=>?_
    · rcases List.mem_cons.mp hp with rfl | hp
      · exact ⟨Heap.get?_push_size _ rfl,without_none hf,(new _ hsz).1,(new _ hsz).2,fun v z=>(by cases z)⟩
      · rcases List.mem_cons.mp hp with rfl | hp
        · exact ⟨Heap.get?_push_of_some _ hT,without_l,(old _ _ hP).1,(old _ _ hP).2,fun v z=>(by cases z)⟩
        · rcases List.mem_cons.mp hp with rfl | hp
          · exact ⟨Heap.get?_push_of_some _ hoc,without_r,hc'.1,hc'.2,fun v z=>(by rw [hd] at z; cases z)⟩
          · exact J.pin p (List.mem_append_right _ hp)
    · rcases hc with z | z
      · exact I.notOld hex z o ho
      · exact absurd (Nat.lt_of_lt_of_le (Heap.lt_size ho) (Nat.le_trans I.sz z)) (Nat.lt_irrefl _)
    · obtain ⟨e,n,_⟩:=I.pin p hp
      refine ⟨nP _ n,fun z=>?_⟩
      rcases hc with y | y
      · rw [z,y] at n; cases n
      · exact absurd (Nat.lt_of_lt_of_le (Heap.lt_size e) (z ▸ y)) (Nat.lt_irrefl _)
  rcases (show ObjOk X.prog X.w H s.heap P (.cod q pos) from I.hok P _ hP) with e | ⟨c',e,hw,hrec⟩
  · refine kla_makeFunction (mg:=X.mg) hcl I.ok.glob hgs hcode Cd e trivial rfl hgP BA fun c' ctv h' tk hx hge hlt hrec htb=>?_
    refine fin h' tk _ c' ctv hx (Nat.le_of_lt (Nat.lt_of_le_of_lt hge hlt)) rfl hrec (by rw [htb]; simp) ?_ (.inr hge)
    intro z
    rw [← z] at hge
    exact absurd (Nat.lt_of_lt_of_le (Heap.lt_size e) hge) (Nat.lt_irrefl _)
  · refine kla_makeFunctionHit (mg:=X.mg) hcl I.ok.glob hgs hcode Cd e (by simp [TriplesOk,rawInt]) (cv:=.ref c') (by simp [codeAmong,rawInt]) BA fun ctv h' tk hk hsz=>?_
    refine fin h' tk _ c' ctv (fun b o _ e=>hk b o e) hsz rfl (hrec.keeps hk) (hk _ _ e) ?_ (.inl hw)
    intro z
    rw [← z,hP] at hw; cases hw
theorem Inv.retrack {P c' f : Addr} {fo co : Obj} {q : Str} {pos : Pos} (I : Inv X ((f,fo) :: (P,tabObj #[rawInt pos.line,rawInt pos.col,.ref c']) :: (c',co) :: pins) σ H s) (hq : IsCod q co) (hne : P≠c')
    (nP : ∀ o,X.s₀.heap.get? P=some o→X.H₀ P≠none) (nc : ∀ o,X.s₀.heap.get? c' = some o→X.H₀ c'≠none) (hp : ∀ p∈X.pn ++ pins,p.1≠P∧p.1≠c') : Inv X pins σ (upd (upd H P (.cod q pos)) c' (.own P)) s:=by
  obtain ⟨eP,hP,lP,_,dP⟩:=I.pin (P,tabObj #[rawInt pos.line,rawInt pos.col,.ref c']) (List.mem_append_right _ (.tail _ (.head _)))
  obtain ⟨ec,hc,lc,_,dc⟩:=I.pin (c',co) (List.mem_append_right _ (.tail _ (.tail _ (.head _))))
  dsimp only at eP hP lP dP ec hc lc dc
  have away : ∀ b,b≠P→b≠c'→upd (upd H P (.cod q pos)) c' (.own P) b=H b:=fun b n1 n2=>by rw [upd_ne n2,upd_ne n1]
  have some_away : ∀ b u,H b=some u→b≠P∧b≠c':=fun b u e=>⟨fun z=>(by rw [z,hP] at e; cases e),fun z=>(by rw [z,hc] at e; cases e)⟩
  have keepS : ∀ b u,H b=some u→upd (upd H P (.cod q pos)) c' (.own P) b=some u:=fun b u e=>by
    obtain ⟨n1,n2⟩:=some_away b u e
    rw [away b n1 n2]; exact e
  have atP : upd (upd H P (.cod q pos)) c' (.own P) P=some (.cod q pos):=by rw [upd_ne hne,upd_same]
  have atc : upd (upd H P (.cod q pos)) c' (.own P) c' = some (.own P):=upd_same
  refine ⟨I.ok,I.os,I.bare,⟨I.base.keep,I.base.slot,fun b o e n hx=>?_,I.base.there,fun b xs e=>keepS b _ (I.base.tups b xs e),fun b o xs e=>keepS b _ (I.base.frzs b o xs e),fun b ps e=>?_⟩,I.loc,I.cell,?_,fun x c e=>?_,fun p hp'=>?_,fun b u e=>?_,I.len⟩
  · rw [away b (fun z=>nP o (z ▸ e) (z ▸ n)) (fun z=>nc o (z ▸ e) (z ▸ n))]
    exact I.base.free b o e n hx
  · obtain ⟨more,z⟩:=I.base.tbls b ps e
    exact ⟨more,keepS b _ z⟩
  · rw [away _ (Ne.symm lP) (Ne.symm lc)]; exact I.free
  · obtain ⟨v,o,ho,hd⟩:=I.cell x c e
    rw [away c (fun z=>by rw [z,eP] at ho; cases ho; exact dP v hd) (fun z=>by rw [z,ec] at ho; cases ho; exact dc v hd)]
    exact I.freeC x c e
  · obtain ⟨z1,z2⟩:=hp p hp'
    have hp2 : p∈X.pn ++ ((f,fo) :: (P,tabObj #[rawInt pos.line,rawInt pos.col,.ref c']) :: (c',co) :: pins):=by
      rcases List.mem_append.mp hp' with y | y
      · exact List.mem_append_left _ y
      · exact List.mem_append_right _ (.tail _ (.tail _ (.tail _ y)))
    obtain ⟨e,n,r⟩:=I.pin p hp2
    exact ⟨e,by rw [away _ z1 z2]; exact n,r⟩
  · by_cases hb : b=c'
    · subst hb
      rw [atc] at e; cases e
      exact ⟨co,ec⟩
    · by_cases hb2 : b=P
      · subst hb2
        rw [atP] at e; cases e
        obtain ⟨vs,t,d1,d2⟩:=hq
        exact .inr ⟨c',eP,atc,c',co,vs,t,rfl,ec,d1,d2⟩
      · rw [away b hb2 hb] at e
        exact (I.hok b u e).stay (fun _ _ _ q=>q) (fun d z=>keepS d _ z) fun d xs z=>keepS d _ z
end
end L2
namespace L2
open PySem PySem.Spec PySem.W PyProof.Rows
def cxLam (X : Cx) (A : Around) (N' : List Str) (q : Str) (scope : Scope) (f c' : Addr) (s : Shared) (H : Hp) : Cx where
  prog:=X.prog
  w:=X.w
  K:=X.K
  mg:=X.mg
  base:=X.base
  A:=A.deeper (envX q scope s.heap.objs.size f (.ref c') (clOf X.env scope.names []))
  N:=N'
  s₀:=s
  H₀:=H
  env:=envX q scope s.heap.objs.size f (.ref c') (clOf X.env scope.names [])
  outer:=X.stack
  stack:=envX q scope s.heap.objs.size f (.ref c') (clOf X.env scope.names []) :: X.stack
  ex:=[]
  fn:=fun _=>false
  calm:=true
  pn:=[]
  xe:=fun _ _=>False
structure LamScope (X : Cx) (N' : List Str) (ix : List (Option Nat)) (p : Str) (scope : Scope) : Prop where
  kind : scope.kind = .function
  co : scope.isCoroutine=false
  gen : scope.isGenerator=false
  nocell : ∀ y∈scope.names,y.2≠.cell
  par : N'[0]? = some p
  loc : scope.names.lookup p=some .local
  len : ix.length=N'.length
  pos : 0 < N'.length
  free : ∀ y∈scope.names,y.2 = .free→X.env.kindOf y.1=some .cell
  out : ∀ (k j : Nat) (x : Str),N'[k]? = some x→ix[k]? = some (some j)→X.N[j]? = some x∧(x,NameKind.free)∈scope.names∧scope.names.lookup x=some .free
def lamSt (ix : List (Option Nat)) (σ : St) (v : V) : St:=(compSt ix σ).set 0 (some v)
section
variable {X : Cx} {pins : List (Addr×Obj)} {σ : St} {H : Hp} {s : Shared} {N' : List Str} {ix : List (Option Nat)} {p q : Str} {scope : Scope}
theorem cl_cellsL (I : Inv X pins σ H s) (S : LamScope X N' ix p scope) {x : Str} {c : Addr} (h : (clOf X.env scope.names []).lookup x=some c) : X.env.cells.lookup x=some c:=by
  rcases mem_clOf _ _ (PySem.mem_of_lookup h) with z | ⟨z1,z2⟩
  · cases z
  · obtain ⟨c',hc⟩:=I.ok.has x (.inl (S.free _ z1 rfl))
    dsimp only at z2
    rw [hc] at z2
    rw [hc,z2]
    rfl
theorem inv_lam {A : Around} {f c' : Addr} {h' : Heap} {tk : Nat} {x : V} {u : Value} (I : Inv X pins σ H s) (hcalm : A.handled=none) (hfr : A.frames=some X.stack) (S : LamScope X N' ix p scope) (r : RelV x u)
    (hns : h'.Ns s.heap.objs.size (fun y=>([(p,u)] : List (Str×Value)).reverse.lookup y)) (hk : ∀ b o,s.heap.get? b=some o→h'.get? b=some o) : Inv (cxLam X A N' q scope f c' s H) [] (lamSt ix σ x) H { s with heap:=h',toks:=tk }:=by
  have noL : H s.heap.objs.size=none:=I.hok.fresh (Nat.le_refl _)
  refine ⟨⟨I.ok.mod,S.kind,rfl,rfl,Nat.le_refl _,fun x y c h1 h2=>I.ok.inj x y c (cl_cellsL I S h1) (cl_cellsL I S h2),fun x hx=>?_,(fun x c z=>nomatch z),fun _=>hcalm,Around.frames_deeper hfr,.inr ⟨rfl,rfl⟩,fun b hb=>absurd (show b∈([] : List Addr) from hb) (by simp),I.bs,Nat.le_trans I.ok.bsz I.sz,fun b o q hb=>absurd (show b∈([] : List Addr) from hb) (by simp),fun b hb=>absurd (show b∈([] : List Addr) from hb) (by simp),I.stack,I.stkFree⟩,
    rfl,I.bare,Un.kept hk,⟨_,hns,fun k y v h1 h2 h3=>?_⟩,fun x c h=>?_,noL,fun x c h=>I.freeC x c (cl_cellsL I S h),(fun p hp=>absurd (show p∈([] : List (Addr×Obj)) from hp) (by simp)),I.hok.kept hk,?_⟩
  · have hx' : scope.names.lookup x=some .cell∨scope.names.lookup x=some .free:=hx
    rcases hx' with z | z
    · exact absurd rfl (S.nocell _ (PySem.mem_of_lookup z))
    · exact lookup_of_mem (clOf_has (env:=X.env) scope.names [] (PySem.mem_of_lookup z))
  · have e2 : ((compSt ix σ).set 0 (some x))[k]? = some (some v):=h2
    have h1' : N'[k]? = some y:=h1
    by_cases hk0 : k=0
    · subst hk0
      rw [S.par] at h1'
      cases h1'
      have hl : 0 < (compSt ix σ).length:=by unfold compSt; rw [List.length_map,S.len]; exact S.pos
      rw [List.getElem?_set_self hl] at e2
      cases e2
      refine ⟨u,r,.inl ⟨S.loc,?_⟩⟩
      show ([(p,u)] : List (Str×Value)).lookup p=some u
      rw [List.lookup_cons,show (p == p)=true from by simp]
    · rw [List.getElem?_set_ne (fun z=>hk0 z.symm)] at e2
      unfold compSt at e2
      rw [List.getElem?_map] at e2
      cases e3 : ix[k]? with
      | none=>rw [e3] at e2; cases e2
      | some o=>
        rw [e3] at e2
        cases o with
        | none=>cases e2
        | some j=>
          obtain ⟨n1,n2,n3⟩:=S.out k j y h1' e3
          have e4 : σ[j]? = some (some v):=by
            have : (σ[j]?).join=some v:=Option.some.inj e2
            cases e5 : σ[j]? with
            | none=>rw [e5] at this; cases this
            | some w=>rw [e5] at this; exact congrArg some this
          have kc:=S.free _ n2 rfl
          obtain ⟨m,hn,hl⟩:=I.loc
          obtain ⟨u',r',l⟩:=hl j y v n1 e4 (.inr (.inl kc))
          refine ⟨u',r',?_⟩
          rcases l with ⟨z,_⟩ | ⟨_,c,hc,hcell⟩
          · dsimp only at kc
            rw [kc] at z; cases z
          · obtain ⟨c2,hc2⟩:=lookup_of_mem (clOf_has (env:=X.env) scope.names [] n2)
            have ec:=cl_cellsL I S hc2
            rw [hc] at ec
            cases ec
            exact .inr ⟨.inr n3,c,hc2,hcell.keeps hk⟩
  · obtain ⟨v,z⟩:=I.cell x c (cl_cellsL I S h)
    exact ⟨v,z.keeps hk⟩
  · unfold lamSt compSt
    rw [List.length_set,List.length_map]
    exact S.len
theorem lam_call {A : Around} {f c' : Addr} {params : Arguments} {body : Expr} {pm ctv : Value} {x : V} {u : Value} {tb : TE} {Q : VK} (I : Inv X pins σ H s) (hcalm : A.handled=none) (hfr : A.frames=some X.stack) (hdp : A.depth < recursionLimit) (S : LamScope X N' ix p scope)
    (hf : s.heap.get? f=some (kla_obj "<lambda>" q params body scope (clOf X.env scope.names []) pm c' ctv)) (hc : s.heap.CodeRec (.ref c') q)
    (hb : bindArgs (kla_fn "<lambda>" q params body scope (clOf X.env scope.names []) pm (.ref c') ctv) ⟨[u],[]⟩=pure [(p,u)])
    (he : PE (cxLam X A N' q scope f c' s H) body tb) (r : RelV x u) (h : tb (lamSt ix σ x) H Q) : wpAny (model X.prog X.w) A (call (.ref f) [u]) (EP X pins σ Q) (fun _ _=>False) s:=by
  refine wpAny_call (codeAny_mono (R:=fun r s'=>∃ u,r = .ok (.ret u)∧EP X pins σ Q u s') ?_ fun r s' hq=>?_)
  · refine kla_callFunE hdp hf rfl S.co S.gen rfl hc ?_
    rw [hb]
    refine wpAny_pure (wpAny_newFunctionEnv S.nocell (fun y hy=>?_) (fun h₁ hns hsb=>⟨I.nolimit.fresh _ hsb,?_⟩) S.kind)
    · obtain rfl : y=(p,u):=by simpa using hy
      exact S.loc
    show codeAny _ _ (.expr body (envX q scope s.heap.objs.size f (.ref c') (clOf X.env scope.names []))) _ _
    have hk₁ : ∀ b o,s.heap.get? b=some o→h₁.get? b=some o:=fun b o e=>hsb.extBut b o (Nat.ne_of_lt (Heap.lt_size e)) (Heap.get?_push_of_some _ e)
    have J:=inv_lam (q:=q) (A:=A) (f:=f) (c':=c') (tk:=s.toks + ([(p,u)] : List (Str×Value)).length) I hcalm hfr S r hns hk₁
    refine kla_codeExpr (wpAny_mono (he [] _ _ H Q J h) (fun v s' hv=>?_) fun _ _ z=>z.elim)
    obtain ⟨v',H',J',rv,q'⟩:=hv
    exact ⟨v,rfl,I.after ⟨v',H',J'.os,J'.bare,J'.base,J'.hok,rv,q'⟩⟩
  · obtain ⟨u',rfl,z⟩:=hq
    exact z
end
end L2
namespace L2
open PySem PySem.Spec PySem.W PyProof.Rows
section
variable {X : Cx} {pins : List (Addr×Obj)} {σ : St} {H : Hp} {s : Shared}
theorem Inv.turn1 {t' : Nat} {it : Addr} {o o' : Obj} {h' : Heap} (I : Inv X ((it,o) :: pins) σ H s) (hs : Heap.SameBut it s.heap h') (ho : h'.get? it=some o') (hd : ∀ v,o'.data≠.cell v) (hge : X.s₀.heap.objs.size≤it) (hne : ∀ p∈X.pn ++ pins,p.1≠it) :
    Inv X ((it,o') :: pins) σ H { s with heap:=h',toks:=t' }:=by
  obtain ⟨e,n,l,fs,d⟩:=I.pin (it,o) (List.mem_append_right _ (.head _))
  dsimp only at e n l fs d
  have I0 : Inv X pins σ H s:=I.pins_of fun p hp=>I.pin p (List.mem_append_right _ (.tail _ hp))
  have J:=I0.turned (t':=t') (it:=it) (h':=h') (fun b u nb eb=>(hs.2 b nb).trans eb) n l (.inr hge) (fun x c hc z=>by
    obtain ⟨v,oc,hoc,hdc⟩:=I.cell x c hc
    rw [z,e] at hoc
    cases hoc
    exact d v hdc) hne
  refine J.pins_of fun p hp=>?_
  rcases List.mem_cons.mp hp with rfl | hp
  · exact ⟨ho,n,l,fs,hd⟩
  · exact J.pin p (List.mem_append_right _ hp)
theorem Inv.track1 {it : Addr} {ob : Obj} {o : HO} (I : Inv X ((it,ob) :: pins) σ H s) (hge : X.s₀.heap.objs.size≤it) (hne : ∀ p∈X.pn ++ pins,p.1≠it) (ok : ObjOk X.prog X.w (upd H it o) s.heap it o) : Inv X pins σ (upd H it o) s:=by
  obtain ⟨e,n,l,fs,d⟩:=I.pin (it,ob) (List.mem_append_right _ (.head _))
  dsimp only at e n l fs d
  have I0 : Inv X pins σ H s:=I.pins_of fun p hp=>I.pin p (List.mem_append_right _ (.tail _ hp))
  have ne : ∀ b u,H b=some u→b≠it:=fun b u q z=>by rw [z,n] at q; cases q
  refine I0.step (g':=s.gens) (d':=s.drawn) (t':=s.toks) (h':=s.heap) (ch:=[it]) (fun b hb=>?_) (fun b o _ _ _ e _=>e) (fun b o _ _ _ e _=>⟨o.slots,e⟩) (fun b u hb _ nn=>?_) (fun b o _ e=>⟨o,e⟩) (fun b xs q=>by rw [upd_ne (ne b _ q)]; exact q) (fun b u xs q=>by rw [upd_ne (ne b _ q)]; exact q)
    (fun b ps q=>⟨#[],by rw [upd_ne (ne b _ q),q]; simp⟩) (fun m hm=>hm) (fun b u q=>?_) I.bare
  · obtain rfl : b=it:=by simpa using hb
    refine ⟨.inr hge,l,fun x c hc z=>?_,hne⟩
    obtain ⟨v,oc,hoc,hdc⟩:=I.cell x c hc
    rw [z,e] at hoc
    cases hoc
    exact d v hdc
  · rw [upd_ne fun z=>hb (by rw [z]; exact List.mem_singleton.mpr rfl)]; exact nn
  · by_cases hb : b=it
    · subst hb
      rw [upd_same] at q; cases q
      exact ok
    · rw [upd_ne hb] at q
      exact (I.hok b u q).stay (fun _ _ _ z=>z) (fun c z=>by rw [upd_ne (ne c _ z)]; exact z) fun c xs z=>by rw [upd_ne (ne c _ z)]; exact z
def KeysAt (H : Hp) (bs : List Addr) (ns : List Int) (key : Int→List Int) : Prop:=∀ (j : Nat) b n,bs[j]? = some b→ns[j]? = some n→H b=some (.tup ((key n).map V.int))
theorem sorted_key {A : Around} {E : Value→Shared→Prop} {l f : Addr} {ns : List Int} {key : Int→List Int} {wd : Nat} {Q : Value→Shared→Prop} (I : Inv X pins σ H s) (hl : SqL X.K H l (ns.map V.int)) (h64 : ns.length < 64) (hw : ∀ n∈ns,(key n).length=wd) (hw0 : 0 < wd)
    (hcall : ∀ n∈ns,∀ pins' H2 s2 u,(∀ p∈pins,p∈pins')→Inv X pins' σ H2 s2→Same H H2→RelV (.int n) u→wpAny (model X.prog X.w) A.in1.in1 (call (.ref f) [u]) (EP X pins' σ fun y H3=>∃ b,y = .ref b∧Same H2 H3∧H3 b=some (.tup ((key n).map V.int))) (fun _ _=>False) s2)
    (h : ∀ (D : Addr) (ms : List Int) H3 s3,H D=none→ms.Perm ns→ms.Pairwise (fun a b=>lexB (key b) (key a)=false)→Same H H3→H3 D=some (.lst (ms.map V.int))→Inv X pins σ H3 s3→Q (.ref D) s3) :
    wpAny (model X.prog X.w) A (call (.builtin "sorted") [.ref l] [(Str.ofString "key",.ref f)]) Q E s:=by
  obtain ⟨its,rv,pl,hz⟩:=I.list hl
  have ia:=ints_of rv
  have hlen : its.length=ns.length:=IntsAre.length ia
  have hl':=pl.isList
  refine call_function_entry_kw kind_sorted plain_sorted entry_sorted (ksk_s1 _ _) ?_
  unfold Builtin.«sorted»
  refine wpAny_bind (m:=checkCount "sorted" 1 1 _) (wpAny_pure ?_)
  refine wpAny_bind (collect_list hl' ?_ (by rw [sizeLine_eq]; omega))
  refine wpAny_bind (wpAny_newList ?_ (by rw [sizeLine_eq]; omega))
  have hsz : ((s.heap.push (seqObj "list" #[] 0)).update s.heap.objs.size (Obj.mapSeq (· ++ its.toArray))).objs.size=s.heap.objs.size + 1:=by
    rw [Heap.size_update,size_push']
  have hoL : (((s.heap.push (seqObj "list" #[] 0)).update s.heap.objs.size (Obj.mapSeq (· ++ its.toArray))).push (seqObj "list" its.toArray 0)).get? (s.heap.objs.size + 1)=some (seqObj "list" its.toArray 0):=by
    rw [← hsz]; exact Heap.get?_push_size _ rfl
  have keep : ∀ b o,s.heap.get? b=some o→(((s.heap.push (seqObj "list" #[] 0)).update s.heap.objs.size (Obj.mapSeq (· ++ its.toArray))).push (seqObj "list" its.toArray 0)).get? b=some o:=fun b o q=>by
    have hlt : b < s.heap.objs.size:=Heap.lt_size q
    rw [Heap.get?_push_ne _ _ _ (by rw [hsz]; exact Nat.ne_of_lt (Nat.lt_succ_of_lt hlt)),Heap.get?_update_ne _ _ _ _ (Nat.ne_of_lt hlt),Heap.get?_push_ne _ _ _ (Nat.ne_of_lt hlt)]
    exact q
  have hsz1 : (((s.heap.push (seqObj "list" #[] 0)).update s.heap.objs.size (Obj.mapSeq (· ++ its.toArray))).push (seqObj "list" its.toArray 0)).objs.size=s.heap.objs.size + 2:=by rw [size_push',hsz]
  show wpAny _ _ _ _ _ { s with heap:=((s.heap.push (seqObj "list" #[] 0)).update s.heap.objs.size (Obj.mapSeq (· ++ its.toArray))).push (seqObj "list" its.toArray 0) }
  rw [hsz]
  generalize ((s.heap.push (seqObj "list" #[] 0)).update s.heap.objs.size (Obj.mapSeq (· ++ its.toArray))).push (seqObj "list" its.toArray 0)=h1 at hoL keep hsz1 ⊢
  refine wpAny_bind (wpAny_holding (wpAny_call_entry_kw slot_list_sort ⟨_,hoL,rfl⟩ entry_list_sort ?body (ksk_l1 _ _)))
  case body=>
  show wpAny (model X.prog X.w) A.in1.in1 (Builtin.«list.sort» ⟨[.ref (s.heap.objs.size + 1)],[(Str.ofString "key",.ref f)]⟩) _ _ _
  rw [ksk_t1]
  obtain ⟨D,eD⟩ : ∃ D,s.heap.objs.size + 1=D:=⟨_,rfl⟩
  rw [eD] at hoL ⊢
  have hD1 : D < h1.objs.size:=by omega
  obtain ⟨e1,ho1⟩ : ∃ e1,(h1.update D (Obj.mapSeq fun _=>(#[] : Array Value))).get? D=some (seqObj "list" #[] e1):=⟨_,get?_update_seq hoL fun _=>#[]⟩
  unfold ksk_tree
  refine wpAny_bind (listItems_at hoL rfl ?_)
  refine wpAny_bind (listUpdate_at hoL rfl ?_ (by rw [List.size_toArray,sizeLine_eq]; omega) (Nat.zero_le _))
  refine wpAny_bind (seqEpoch_at ho1 rfl ?_)
  refine wpAny_bind (wpAny_newTuple ?_ (by show its.length≤_; rw [sizeLine_eq]; omega))
  refine wpAny_bind (wpAny_newList ?_ (Nat.zero_le _))
  refine wpAny_holding ?_
  have hkS : ((h1.update D (Obj.mapSeq fun _=>(#[] : Array Value))).push (seqObj "tuple" its.toArray 0)).objs.size=s.heap.objs.size + 3:=by rw [size_push',Heap.size_update,hsz1]
  have keep2 : ∀ b o,s.heap.get? b=some o→(((h1.update D (Obj.mapSeq fun _=>(#[] : Array Value))).push (seqObj "tuple" its.toArray 0)).push (seqObj "list" #[] 0)).get? b=some o:=fun b o q=>by
    have hlt : b < s.heap.objs.size:=Heap.lt_size q
    refine Heap.get?_push_of_some _ (Heap.get?_push_of_some _ ?_)
    rw [Heap.get?_update_ne _ _ _ _ (Nat.ne_of_lt (Nat.lt_trans hlt (by omega)))]
    exact keep b o q
  have ho2 : (((h1.update D (Obj.mapSeq fun _=>(#[] : Array Value))).push (seqObj "tuple" its.toArray 0)).push (seqObj "list" #[] 0)).get? D=some (seqObj "list" #[] e1):=Heap.get?_push_of_some _ (Heap.get?_push_of_some _ ho1)
  have hoS : (((h1.update D (Obj.mapSeq fun _=>(#[] : Array Value))).push (seqObj "tuple" its.toArray 0)).push (seqObj "list" #[] 0)).get? (s.heap.objs.size + 3)=some (seqObj "list" #[] 0):=by
    rw [← hkS]; exact Heap.get?_push_size _ rfl
  show wpAny (model X.prog X.w) A.in1.in1 _ _ _ { s with heap:=((h1.update D (Obj.mapSeq fun _=>(#[] : Array Value))).push (seqObj "tuple" its.toArray 0)).push (seqObj "list" #[] 0) }
  rw [hkS]
  obtain ⟨S,eS⟩ : ∃ S,s.heap.objs.size + 3=S:=⟨_,rfl⟩
  rw [eS] at hoS ⊢
  generalize ((h1.update D (Obj.mapSeq fun _=>(#[] : Array Value))).push (seqObj "tuple" its.toArray 0)).push (seqObj "list" #[] 0)=h2 at keep2 ho2 hoS ⊢
  have hDS : D≠S:=by omega
  have HD : H D=none:=I.hok.fresh (by omega)
  have HS' : H S=none:=I.hok.fresh (by omega)
  have geD : X.s₀.heap.objs.size≤D:=Nat.le_trans I.sz (by omega)
  have geS : X.s₀.heap.objs.size≤S:=Nat.le_trans I.sz (by omega)
  have pinlt : ∀ p∈X.pn ++ pins,p.1 < s.heap.objs.size:=fun p hp=>Heap.lt_size (I.pin p hp).1
  have pinD : ∀ p∈X.pn ++ pins,p.1≠D:=fun p hp=>Nat.ne_of_lt (Nat.lt_trans (pinlt p hp) (by omega))
  have pinS : ∀ p∈X.pn ++ pins,p.1≠S:=fun p hp=>Nat.ne_of_lt (Nat.lt_trans (pinlt p hp) (by omega))
  have pinDS : ∀ o,∀ p∈X.pn ++ ((D,o) :: pins),p.1≠S:=fun o p hp=>by
    rcases List.mem_append.mp hp with z | z
    · exact pinS p (List.mem_append_left _ z)
    · rcases List.mem_cons.mp z with rfl | z
      · exact hDS
      · exact pinS p (List.mem_append_right _ z)
  have I2 : Inv X ((S,seqObj "list" #[] 0) :: (D,seqObj "list" #[] e1) :: pins) σ H { s with heap:=h2 }:=by
    have J:=I.kept (t':=s.toks) keep2
    refine J.pins_of fun p hp=>?_
    rcases List.mem_cons.mp hp with rfl | hp
    · exact ⟨hoS,HS',Nat.ne_of_gt (Nat.lt_of_lt_of_le I.lt (by omega)),I.nofs (by omega),fun v z=>(by cases z)⟩
    · rcases List.mem_cons.mp hp with rfl | hp
      · exact ⟨ho2,HD,Nat.ne_of_gt (Nat.lt_of_lt_of_le I.lt (by omega)),I.nofs (by omega),fun v z=>(by cases z)⟩
      · exact J.pin p (List.mem_append_right _ hp)
  unfold ksk_rest
  refine wpAny_bind (wpAny_rule ?_)
  first
    | rw [List.forIn_toArray]
    | (rw [← Array.forIn_toList]; simp only [List.toList_toArray])
    | rw [← Array.forIn_toList]
  refine wpAny_bind (ksk_fold (fun i s'=>∃ H' bs e,Inv X ((S,seqObj "list" (List.toArray (List.map Value.ref bs)) e) :: (D,seqObj "list" #[] e1) :: pins) σ H' s'∧Same H H'∧bs.length=i∧KeysAt H' bs ns key) its 0 _ ⟨H,[],0,I2,Same.refl H,rfl,fun j b n e=>(by cases e)⟩ (fun j u s' hj hJ=>?_) fun s' hJ=>?_)
  · obtain ⟨H',bs,e,J,sm,hbl,hks⟩:=hJ
    rw [Nat.zero_add] at hbl ⊢
    have hjl : j < its.length:=(List.getElem?_eq_some_iff.mp hj).1
    obtain ⟨n,en⟩ : ∃ n,ns[j]? = some n:=⟨_,List.getElem?_eq_getElem (by omega)⟩
    obtain ⟨u',eu,ru⟩:=rv.get (i:=j) (x:=.int n) (by rw [List.getElem?_map,en]; rfl)
    rw [hj] at eu
    cases eu
    refine wpAny_bind (wpAny_attempt (wpAny_mono (hcall n (List.mem_of_getElem? en) _ H' s' u (fun p hp=>.tail _ (.tail _ hp)) J sm ru) (fun k s'' hk=>?_) fun _ _ hF=>hF.elim))
    obtain ⟨y,H3,J3,ry,b,rfl,sm3,hb⟩:=hk
    cases ry
    obtain ⟨eS3,nS3,lS3,fS3,dS3⟩:=J3.pin (S,seqObj "list" (List.toArray (List.map Value.ref bs)) e) (List.mem_append_right _ (.head _))
    dsimp only at eS3
    have s1:=Heap.SameBut.update s''.heap S (Obj.mapSeq (·.push (.ref b)))
    have ea : (List.toArray (List.map Value.ref bs)).push (.ref b)=List.toArray (List.map Value.ref (bs ++ [b])):=by simp
    obtain ⟨c2,hc2⟩ : ∃ c2,(s''.heap.update S (Obj.mapSeq (·.push (.ref b)))).get? S=some (seqObj "list" (List.toArray (List.map Value.ref (bs ++ [b]))) c2):=⟨_,by rw [← ea]; exact get?_update_seq eS3 (·.push (.ref b))⟩
    try dsimp only
    refine wpAny_bind (listUpdate_at eS3 rfl ?_ (by rw [List.size_toArray,List.length_map,sizeLine_eq]; omega) (Nat.le_trans (Nat.le_of_eq (Array.size_push ..)) (by rw [List.size_toArray,List.length_map,sizeLine_eq]; omega)))
    refine wpAny_pure ⟨rfl,H3,bs ++ [b],c2,J3.turn1 (t':=s''.toks) s1 hc2 (fun v z=>(by cases z)) geS (pinDS _),sm.trans sm3,by rw [List.length_append,List.length_singleton]; omega,fun j' b' n' e1' e2'=>?_⟩
    by_cases hjj : j' < bs.length
    · rw [List.getElem?_append_left hjj] at e1'
      exact sm3 _ _ (hks j' b' n' e1' e2')
    · have : j' = bs.length:=by
        have:=(List.getElem?_eq_some_iff.mp e1').1
        rw [List.length_append,List.length_singleton] at this
        omega
      subst this
      rw [List.getElem?_append_right (Nat.le_refl _),Nat.sub_self] at e1'
      cases e1'
      rw [hbl,en] at e2'
      cases e2'
      exact hb
  · obtain ⟨H',bs,e,J,sm,hbl,hks⟩:=hJ
    rw [Nat.zero_add] at hbl
    obtain ⟨eS3,nS3,lS3,fS3,dS3⟩:=J.pin (S,seqObj "list" (List.toArray (List.map Value.ref bs)) e) (List.mem_append_right _ (.head _))
    obtain ⟨eD3,nD3,_⟩:=J.pin (D,seqObj "list" #[] e1) (List.mem_append_right _ (.tail _ (.head _)))
    dsimp only at eS3 eD3
    try dsimp only
    refine wpAny_bind (listItems_at eS3 rfl ?_)
    unfold ksk_end
    try dsimp only
    rw [if_neg Bool.false_ne_true]
    have hkl : (List.map Value.ref bs).length=its.length:=by rw [List.length_map,hbl]
    have tt : TupsAt s'.heap bs (ns.map key):=⟨by rw [List.length_map]; omega,fun i b r x1 x2=>by
      rw [List.getElem?_map] at x2
      cases en : ns[i]? with
      | none=>rw [en] at x2; cases x2
      | some n=>
        rw [en] at x2
        cases x2
        obtain ⟨_,us,rr,y⟩:=(show ObjOk X.prog X.w H' s'.heap b (.tup ((key n).map V.int)) from J.hok b _ (hks i b n x1 en))
        exact ⟨us,y,ints_of rr⟩⟩
    have hwk : ∀ r∈ns.map key,r.length=wd:=fun r hr=>by
      obtain ⟨n,hn,rfl⟩:=List.mem_map.mp hr
      exact hw n hn
    have tail : ∀ (st' : SortSt) (p : Array Nat),PermN its.length p→Up (ltOf (ns.map key)) p its.length→(arrOf st').map (·.2)=List.toArray (p.toList.map fun i=>its.getD i Value.none)→failedOf st' = none→
        wpAny (model X.prog X.w) A.in1.in1 (ksk_tail D false e1 (.ref S) st') (fun fin s'=>∃ v,fin = .done (.ret v)∧wpAny (model X.prog X.w) A.in1 (pure (PySem.Fin.done (.ret (.ref D)))) (fun fin s'=>∃ v,fin = .done (.ret v)∧Q v s') E s') E s':=by
      intro st' p hp hu har hf
      unfold ksk_tail
      try dsimp only
      rw [har]
      have s1:=Heap.SameBut.update s'.heap S (Obj.mapSeq fun _=>(#[] : Array Value))
      obtain ⟨c1,hc1⟩ : ∃ c1,(s'.heap.update S (Obj.mapSeq fun _=>(#[] : Array Value))).get? S=some (seqObj "list" #[] c1):=⟨_,get?_update_seq eS3 fun _=>#[]⟩
      have eD4 : (s'.heap.update S (Obj.mapSeq fun _=>(#[] : Array Value))).get? D=some (seqObj "list" #[] e1):=(s1.2 D hDS).trans eD3
      have s2:=Heap.SameBut.update (s'.heap.update S (Obj.mapSeq fun _=>(#[] : Array Value))) D (Obj.mapSeq fun _=>List.toArray (p.toList.map fun i=>its.getD i Value.none))
      obtain ⟨c2,hc2⟩ : ∃ c2,((s'.heap.update S (Obj.mapSeq fun _=>(#[] : Array Value))).update D (Obj.mapSeq fun _=>List.toArray (p.toList.map fun i=>its.getD i Value.none))).get? D=some (seqObj "list" (List.toArray (p.toList.map fun i=>its.getD i Value.none)) c2):=⟨_,get?_update_seq eD4 fun _=>List.toArray (p.toList.map fun i=>its.getD i Value.none)⟩
      refine wpAny_bind (listUpdate_at eS3 rfl ?_ (by rw [List.size_toArray,sizeLine_eq]; omega) (Nat.zero_le _))
      refine wpAny_bind (wpAny_letGo ?_)
      refine wpAny_bind (seqEpoch_at eD4 rfl ?_)
      refine wpAny_bind (listUpdate_at eD4 rfl ?_ (Nat.zero_le _) (by
        show (List.toArray (p.toList.map fun i=>its.getD i Value.none)).size≤_
        rw [List.size_toArray,List.length_map,Array.length_toList,hp.size,sizeLine_eq]; omega))
      rw [hf]
      simp only [bne_self_eq_false,Bool.false_eq_true,if_false]
      refine wpAny_pure ⟨_,rfl,wpAny_pure ⟨_,rfl,?_⟩⟩
      have J1:=J.turn1 (t':=s'.toks) s1 hc1 (fun v z=>(by cases z)) geS (pinDS _)
      have J2 : Inv X ((D,seqObj "list" #[] e1) :: pins) σ H' { s' with heap:=s'.heap.update S (Obj.mapSeq fun _=>(#[] : Array Value)) }:=J1.pins_of fun p hp=>J1.pin p (List.mem_append_right _ (.tail _ hp))
      have J3:=J2.turn1 (t':=s'.toks) s2 hc2 (fun v z=>(by cases z)) geD pinD
      have hmem : ∀ i∈p.toList,i < its.length:=fun i hi=>List.mem_range.mp ((List.Perm.mem_iff hp).mp hi)
      have vv : ∀ is : List Nat,(∀ i∈is,i < its.length)→Vals ((is.map fun i=>ns.getD i 0).map V.int) (is.map fun i=>its.getD i Value.none):=fun is his=>by
        induction is with
        | nil=>exact .nil
        | cons i r ih=>
          refine .cons ?_ (ih fun j hj=>his j (.tail _ hj))
          have hi:=his i (.head _)
          obtain ⟨u,eu,ru⟩:=rv.get (i:=i) (x:=.int (ns.getD i 0)) (by
            rw [List.getElem?_map,List.getD_eq_getElem?_getD,List.getElem?_eq_getElem (show i < ns.length by omega)]; rfl)
          show RelV (.int (ns.getD i 0)) (its.getD i Value.none)
          rw [List.getD_eq_getElem?_getD (l:=its),eu]
          exact ru
      refine h D (p.toList.map fun i=>ns.getD i 0) (upd H' D (.lst ((p.toList.map fun i=>ns.getD i 0).map V.int))) _ HD ?_ ?_ (sm.trans (same_new nD3 _)) upd_same (J3.track1 geD pinD ⟨?_,_,c2,vv _ hmem,hc2⟩)
      · have e1 : (List.range its.length).map (fun i=>ns.getD i 0)=ns:=by
          apply List.ext_getElem?
          intro i
          rw [List.getElem?_map]
          by_cases hi : i < its.length
          · rw [List.getElem?_range hi]; simp [show i < ns.length by omega]
          · rw [List.getElem?_eq_none (by simpa using hi),List.getElem?_eq_none (by omega)]; rfl
        have:=hp.map (fun i=>ns.getD i 0)
        rw [e1] at this
        exact this
      · rw [List.pairwise_map,List.pairwise_iff_getElem]
        intro i j hi hj hij
        have hj' : j < its.length:=by rw [Array.length_toList,hp.size] at hj; exact hj
        have:=hu i j (Nat.le_of_lt hij) hj'
        have gi : gA p i=p.toList[i]:=by
          rw [Array.length_toList] at hi
          simp [gA,hi]
        have gj : gA p j=p.toList[j]:=by
          rw [Array.length_toList] at hj
          simp [gA,hj]
        rw [gi,gj] at this
        have kk : ∀ i,i < ns.length→(ns.map key).getD i []=key (ns.getD i 0):=fun i hi=>by simp [hi]
        have this' : lexB ((ns.map key).getD p.toList[j] []) ((ns.map key).getD p.toList[i] [])=false:=this
        rw [kk _ (by have:=hmem _ (List.getElem_mem hj); omega),kk _ (by have:=hmem _ (List.getElem_mem hi); omega)] at this'
        exact this'
      · rw [List.length_map,List.length_map,Array.length_toList,hp.size,sizeLine_eq]; omega
    by_cases h2 : its.toArray.size < 2
    · rw [if_pos h2,if_pos h2]
      refine wpAny_bind (wpAny_pure ?_)
      rw [StateT.run_pure]
      refine wpAny_bind (wpAny_pure ?_)
      rw [if_neg Bool.false_ne_true]
      have pr : PermN its.length (List.toArray (List.range its.length)):=by unfold PermN; simp
      refine tail _ (List.toArray (List.range its.length)) pr (up_small (ordr_of _) (by rw [List.size_toArray] at h2; exact h2)) ?_ rfl
      exact kat_snds (vs:=its) (ks:=List.map Value.ref bs) (p:=List.toArray (List.range its.length)) hkl (by
        have e:=kas_range ((List.map Value.ref bs).toArray.zip its.toArray)
        rw [show ((List.map Value.ref bs).toArray.zip its.toArray).size=its.length by simp [hkl,hbl]] at e
        exact e.symm)
    · rw [if_neg h2,if_neg h2]
      rw [List.size_toArray] at h2
      obtain ⟨fs,f1,f2,f3⟩:=tt.kat fun r hr z=>by have:=hwk r hr; rw [z] at this; simp at this; omega
      refine wpAny_bind (kat_kind (T:=.type "int") f2 (by omega) (fun v hv=>?_) rfl ?_)
      · obtain ⟨m,k,rfl⟩:=f3 v hv
        exact Looks.of_pure rfl
      rw [show ((Value.type "int" : Value) != Value.type "tuple")=true from rfl,if_neg Bool.false_ne_true]
      refine wpAny_bind (wpAny_mono (kat_run (A:=A.in1.in1) (vs:=its) (ks:=List.map Value.ref bs) (κ:=tuples' true)
        (G:=fun p s2=>(PermN its.length p∧Up (ltOf (ns.map key)) p its.length)∧s2=s')
        (Q:=fun st' s2=>∃ p : Array Nat,PermN its.length p∧Up (ltOf (ns.map key)) p its.length∧arrOf st' = p.map (kas_item ((List.map Value.ref bs).toArray.zip its.toArray))∧failedOf st' = none∧s2=s')
        hkl (by omega) (by omega) (fun p' st' s2 a1 a2 a3 a4=>⟨p',a4.1.1,a4.1.2,a2,a3,a4.2⟩) ?_) ?_ fun _ _ e=>e)
      · refine okW_wp (n:=its.length) (lt:=ltOf (ns.map key)) (fun i j C hi hj q=>TupsAt.ask tt hwk i j C (by omega) (by omega) q) (okW_mono (fun p hp=>⟨hp,rfl⟩) (ok_sort (ordr_of _) (by omega)))
      · rintro ⟨⟨⟩,st'⟩ s2 ⟨p,hp,hu,har,hf,rfl⟩
        dsimp only
        exact tail st' p hp hu (kat_snds hkl har) hf
end
end L2
namespace L2
open PySem PySem.Spec PySem.W PyProof.Rows
def SortKR (P : Addr) (q : Str) (lpos : Pos) (ix : List (Option Nat)) (tb : TE) (σ : St) (Q : VK) (v : V) (H1 : Hp) : Prop:=∃ (l : Addr) (ns : List Int) (key : Int→List Int) (wd : Nat),v = .ref l∧H1 l=some (.lst (ns.map V.int))∧ns.length < 64∧H1 P=some (.cod q lpos)∧0 < wd∧(∀ n∈ns,(key n).length=wd)∧
  (∀ n∈ns,∀ H2,(∀ b o,H1 b=some o→o≠.cod q lpos→o≠.own P→H2 b=some o)→tb (lamSt ix σ (.int n)) H2 fun y H3=>∃ b,y = .ref b∧Same H2 H3∧H3 b=some (.tup ((key n).map V.int)))∧
  ∀ (D : Addr) (ms : List Int) H',H1 D=none→ms.Perm ns→ms.Pairwise (fun a b=>lexB (key b) (key a)=false)→Same H1 H'→H' D=some (.lst (ms.map V.int))→Q (.ref D) H'
def tSortK (te : TE) (P : Addr) (q : Str) (lpos : Pos) (ix : List (Option Nat)) (tb : TE) : TE:=fun σ H Q=>te σ H fun v H1=>SortKR P q lpos ix tb σ Q v H1
theorem pe_sortK {X : Cx} {k : Nat} {e body : Expr} {te tb : TE} {P c : Addr} {q p : Str} {N' : List Str} {ix : List (Option Nat)} {params : Arguments} {scope : Scope} {npos lpos kpos pos : Pos} (hr : Room k X.A) (ha : PA X [e] (tCons te tNil)) (hg : Gl X "sorted") (hm : X.mg "sorted" = none) (hv : bootBuiltins "sorted" = some (.builtin "sorted"))
    (hex : X.ex=[]) (hcode : X.env.code = .ref c) (C : codeHdIn X.K c P=true) (B : BMain X.mg X.base) (hdef : defaultsOf params X.env=([],[])) (hq : X.env.qual ++ "<lambda>" = q) (S : LamScope X N' ix p scope)
    (hbnd : ∀ (cl : List (Str×Addr)) (pm : Value) (c' : Addr) (ctv u : Value),bindArgs (kla_fn "<lambda>" q params body scope cl pm (.ref c') ctv) ⟨[u],[]⟩=pure [(p,u)])
    (hb : ∀ (A : Around) (f c' : Addr) (s : Shared) (H : Hp),PE (cxLam X A N' q scope f c' s H) body tb)
    (he : backTo pos (starEach [e] X.env)=(false,eval e X.env) :: backTo pos (starEach [] X.env):=by rfl) (hpl : (backTo pos (starEach [e] X.env)).any (·.1)=false:=by rfl) :
    PE X (.Call (.Name "sorted" npos) [e] [⟨some (Str.ofString "key"),.Lambda params body scope lpos,kpos⟩] pos) (tSortK te P q lpos ix tb):=by
  refine ⟨?_⟩
  intro pins s σ H Q I h
  refine wpAny_Call_Name_kw (ld_blt I hg hm hv ?_ (by decide) (by decide))
  refine callWith_kw (thn (ha pos pins s σ H (fun vs H1=>match vs with | [v]=>SortKR P q lpos ix tb σ Q v H1 | _=>False) I h) fun us s1 ⟨vs,H1,I1,r1,q1⟩=>?_) he hpl
  obtain ⟨v,rfl⟩ : ∃ v,vs=[v]:=by
    match vs,q1 with
    | [v],_=>exact ⟨v,rfl⟩
  obtain ⟨l,ns,key,wd,rfl,hl,h64,hP,hw0,hw,hkey,q⟩:=q1
  obtain ⟨u,rfl,ru⟩:=r1.one
  cases ru
  show wpAny _ _ (evalAll ((do let v ← eval (.Lambda params body scope lpos) X.env; standAt pos; pure v) :: [])) _ _ s1
  refine wpAny_evalAll_cons (wpAny_bind ?_)
  have hcl : closureFor scope X.env=pure (clOf X.env scope.names []):=closureFor_cl fun y hy hf=>I1.ok.has y.1 (.inl (S.free y hy hf))
  refine lam_make I1 hex hP hcode C B hcl hdef hq fun f c' ctv co s2 J hco hne hfn hcn nc hpp=>?_
  refine wpAny_bind (wpAny_standAt (wpAny_pure (wpAny_evalAll_nil ?_)))
  have ncc : ∀ b o,H1 b=some o→o≠.own P→b≠c':=fun b o e n z=>by
    rw [z] at e
    rcases hcn with y | y
    · rw [y] at e; cases e
    · rw [y] at e; cases e; exact n rfl
  have npp : ∀ b o,H1 b=some o→o≠.cod _ lpos→b≠P:=fun b o e n z=>by
    rw [z,hP] at e; cases e; exact n rfl
  have hl2 : without H1 P c' l=some (.lst (ns.map V.int)):=by rw [without_ne (npp _ _ hl (by intro z; cases z)) (ncc _ _ hl (by intro z; cases z))]; exact hl
  show wpAny _ _ (call (.builtin "sorted") [.ref l] [(Str.ofString "key",.ref f)]) _ _ s2
  refine sorted_key J (SqL.of hl2) h64 hw hw0 (fun n hn pins' H2 s3 u hsub J3 sm ru=>?_) fun D ms H3 s3 hD hperm hpw sm hD3 J3=>?_
  · have pf:=J3.pin (f,kla_obj "<lambda>" _ params body scope (clOf X.env scope.names []) ((X.mg "__name__").getD .none) c' ctv) (List.mem_append_right _ (hsub _ (.head _)))
    have pc:=J3.pin (c',co) (List.mem_append_right _ (hsub _ (.tail _ (.tail _ (.head _)))))
    obtain ⟨vs,t,d1,d2⟩:=hco
    refine lam_call J3 hr.hd I1.ok.frames hr.depth S pf.1 ⟨c',co,vs,t,rfl,pc.1,d1,d2⟩ (hbnd _ _ _ _ _) (hb _ f c' s3 H2) ru (hkey n hn H2 fun b o e n1 n2=>sm _ _ ?_)
    rw [without_ne (npp _ _ e n1) (ncc _ _ e n2)]
    exact e
  · have pP:=(J3.pin (P,tabObj #[rawInt lpos.line,rawInt lpos.col,.ref c']) (List.mem_append_right _ (.tail _ (.head _)))).2.1
    have pc:=(J3.pin (c',co) (List.mem_append_right _ (.tail _ (.tail _ (.head _))))).2.1
    dsimp only at pP pc
    have nDP : D≠P:=fun z=>by rw [z,pP] at hD3; cases hD3
    have nDc : D≠c':=fun z=>by rw [z,pc] at hD3; cases hD3
    have J4:=J3.retrack hco hne (I1.notOld hex hP) nc hpp
    refine ⟨.ref D,_,J4,rfl,q D ms _ ?_ hperm hpw (fun b o e=>?_) ?_⟩
    · rw [without_ne nDP nDc] at hD; exact hD
    · by_cases hb : b=c'
      · subst hb
        rw [upd_same]
        rcases hcn with z | z
        · rw [z] at e; cases e
        · rw [z] at e; exact e
      · rw [upd_ne hb]
        by_cases hb2 : b=P
        · subst hb2
          rw [upd_same,← hP]; exact e
        · rw [upd_ne hb2]
          exact sm _ _ (by rw [without_ne hb2 hb]; exact e)
    · rw [upd_ne nDc,upd_ne nDP]; exact hD3
theorem Fun.okC {P : Program} {w : World} {K : PySem.W.Frag} {mg : Str→Option Value} {base : Heap} {x qual : Str} {st : Stmt} {f c : Addr} {fd : FuncData} {N ps : List Str} {k : Nat} {sp : Sp} (F : Fun K x qual st f fd) (hc : fd.code = .ref c) (S : FnScope N ps (defScope st)) (len : ∀ vs H Q E,sp vs H Q E→vs.length=ps.length)
    (hbody : ∀ (A : Around) (outer : List Env) (s : Shared) (H : Hp) (vs : List V) (Q : VK) (E : XK),Room k (A.deeper (envOfC qual (defScope st) s.heap.objs.size f (.ref c)))→sp vs H Q E→
      ∃ t,PSs (cxOf CX0 P w K mg base N qual (defScope st) f (.ref c) A outer s H E).nox (defBody st) t∧t { nx:=fun _ H'=>Q .non H',rt:=Q } (start N vs) H) : FnOk P w K mg base CX0 (k + 1) f fd ps sp:=by
  obtain ⟨oc,od,kV,doc,pm,an,cdv,ct,osl,rfl,lk,hcd⟩:=F.ex
  obtain rfl : cdv = .ref c:=hc
  refine fn_of lk hcd S len fun A outer s H vs Q E hr hsp=>?_
  obtain ⟨t,h,q⟩:=hbody A outer s H vs Q E hr hsp
  exact ⟨t,h.nox,q⟩
def lamOk (N N' : List Str) (ix : List (Option Nat)) (p : Str) (scope D : Scope) : Bool:=
  (scope.kind == .function) && (!scope.isCoroutine) && (!scope.isGenerator) && (scope.names.all fun y=>(y.2 != .cell) && (y.2 != .free || D.names.lookup y.1 == some .cell)) && (N'[0]? == some p) && (scope.names.lookup p == some .local) && (ix.length == N'.length) && decide (0 < N'.length) &&
  ((List.range N'.length).all fun k=>match ix[k]?,N'[k]? with
    | some (some j),some x=>N[j]? == some x && scope.names.contains (x,.free) && scope.names.lookup x == some .free
    | _,_=>true)
theorem lam_scope {X : Cx} {N' : List Str} {ix : List (Option Nat)} {p : Str} {scope : Scope} {N : List Str} {D : Scope} (h : lamOk N N' ix p scope D=true) (hN : X.N=N:=by rfl) (hD : X.env.scope=D:=by rfl) : LamScope X N' ix p scope:=by
  unfold lamOk at h
  simp only [Bool.and_eq_true,decide_eq_true_eq] at h
  obtain ⟨⟨⟨⟨⟨⟨⟨⟨h1,h2⟩,h3⟩,h4⟩,h5⟩,h6⟩,h7⟩,h8⟩,h9⟩:=h
  have hall:=List.all_eq_true.mp h4
  refine ⟨by simpa using h1,by simpa using h2,by simpa using h3,fun y hy z=>?_,by simpa using h5,by simpa using h6,by simpa using h7,h8,fun y hy z=>?_,fun k j x e1 e2=>?_⟩
  · have:=hall y hy
    rw [z] at this
    simp at this
  · have:=hall y hy
    rw [z] at this
    have q : D.names.lookup y.1=some .cell:=by simpa using this
    show X.env.scope.names.lookup y.1=some .cell
    rw [hD]; exact q
  · have hk : k < N'.length:=(List.getElem?_eq_some_iff.mp e1).1
    have:=List.all_eq_true.mp h9 k (List.mem_range.mpr hk)
    rw [e1,e2] at this
    simp only [Bool.and_eq_true] at this
    obtain ⟨⟨a,b⟩,c⟩:=this
    refine ⟨by rw [hN]; simpa using a,by simpa using b,by simpa using c⟩
def lamPos (st : Stmt) : Pos:=match defBody st with
  | [.Return (some (.Call _ _ [⟨_,.Lambda _ _ _ pos,_⟩] _)) _]=>pos
  | _=>⟨0,0,0,0⟩
abbrev Tbs:=List (Addr×Str×Pos)
def Tb (ts : Tbs) (H : Hp) : Prop:=∀ t∈ts,H t.1=some (.cod t.2.1 t.2.2)
theorem Tb.same {ts : Tbs} {H H' : Hp} (h : Tb ts H) (s : Same H H') : Tb ts H':=fun t ht=>s _ _ (h t ht)
theorem Tb.keep {ts : Tbs} {H H' : Hp} {a c : Addr} (h : Tb ts H) (d : DrawAt H a c) (k : KeepBut a H H') : Tb ts H':=fun t ht=>by
  refine k _ _ (fun z=>?_) (h t ht)
  obtain ⟨_,_,_,_,_,e,_⟩:=d
  have:=h t ht
  rw [z,e] at this; cases this
def spOrdT (ts : Tbs) (key : List (List Int)→Int→List Int) (ok : List Int→Prop) : Sp:=fun vs H Q _=>∃ (a : Addr) (rs : List (List Int)),vs=[.ref a]∧Tb ts H∧Rows H a rs∧rs.length≤60∧(∀ r∈rs,ok r)∧
  ∀ (l : Addr) (os : List Int) (H' : Hp),H l=none→Same H H'→Ordered (key rs) rs.length os→H' l=some (.lst (os.map V.int))→Q (.ref l) H'
end L2
namespace L2
def S : List (Int×Int)→Int→Int→Int
  | [],_,_=>0
  | p :: r,f,l=>(if f≤p.1∧p.1≤l then p.2 else 0) + S r f l
def give (tm e : Int) : Int→List (Int×Int)→List (Int×Int)
  | _,[]=>[]
  | c,p :: r=>(p.1,p.2 - (if 0 < min c p.2∧e - tm≤p.1∧p.1≤e then min c p.2 else 0)) :: give tm e (c - (if 0 < min c p.2∧e - tm≤p.1∧p.1≤e then min c p.2 else 0)) r
def deal (tm : Int) : List (Int×Int)→List (Int×Int)→List (Int×Int)
  | [],L=>L
  | o :: O,L=>deal tm O (give tm o.1 o.2 L)
def Pos (L : List (Int×Int)) : Prop:=∀ p∈L,0≤p.2
def Up1 (L : List (Int×Int)) : Prop:=L.Pairwise fun p q=>p.1≤q.1
def Hall (L O : List (Int×Int)) (tm : Int) : Prop:=∀ f l,f≤l→S L f l≤S O f (l + tm)
theorem S_nonneg : ∀ {L : List (Int×Int)},Pos L→∀ f l,0≤S L f l
  | [],_,f,l=>Int.le_refl _
  | p :: r,h,f,l=>by
    have h1:=h p (.head _)
    have h2:=S_nonneg (L:=r) (fun q hq=>h q (.tail _ hq)) f l
    show 0≤(if f≤p.1∧p.1≤l then p.2 else 0) + S r f l
    split <;> omega
theorem S_mono : ∀ {L : List (Int×Int)},Pos L→∀ {f l f' l' : Int},f'≤f→l≤l'→S L f l≤S L f' l'
  | [],_,f,l,f',l',_,_=>Int.le_refl _
  | p :: r,h,f,l,f',l',h1,h2=>by
    have h0:=h p (.head _)
    have h3:=S_mono (L:=r) (fun q hq=>h q (.tail _ hq)) h1 h2
    show (if f≤p.1∧p.1≤l then p.2 else 0) + S r f l≤(if f'≤p.1∧p.1≤l' then p.2 else 0) + S r f' l'
    split <;> split <;> omega
theorem S_none : ∀ {L : List (Int×Int)} {f l : Int},(∀ p∈L,¬ (f≤p.1∧p.1≤l))→S L f l=0
  | [],_,_,_=>rfl
  | p :: r,f,l,h=>by
    show (if f≤p.1∧p.1≤l then p.2 else 0) + S r f l=0
    rw [if_neg (h p (.head _)),S_none fun q hq=>h q (.tail _ hq)]
    rfl
theorem give_days {tm e : Int} : ∀ {c : Int} {L : List (Int×Int)},(give tm e c L).map (·.1)=L.map (·.1)
  | _,[]=>rfl
  | c,p :: r=>by show p.1 :: (give tm e _ r).map (·.1)=p.1 :: r.map (·.1); rw [give_days]
theorem up_days {L M : List (Int×Int)} (h : M.map (·.1)=L.map (·.1)) (hL : Up1 L) : Up1 M:=by
  unfold Up1 at *
  rw [← List.pairwise_map (f:=fun p : Int×Int=>p.1) (R:=(·≤·))] at *
  rw [h]; exact hL
theorem give_pos {tm e : Int} : ∀ {c : Int} {L : List (Int×Int)},Pos L→Pos (give tm e c L)
  | _,[],h=>h
  | c,p :: r,h=>fun q hq=>by
    have h0:=h p (.head _)
    rcases List.mem_cons.mp hq with z | z
    · rw [z]
      show 0≤p.2 - (if 0 < min c p.2∧e - tm≤p.1∧p.1≤e then min c p.2 else 0)
      split <;> omega
    · exact give_pos (fun q hq=>h q (.tail _ hq)) q z
theorem give_le {tm e : Int} : ∀ {c : Int} {L : List (Int×Int)},Pos L→∀ f l,S (give tm e c L) f l≤S L f l
  | _,[],_,_,_=>Int.le_refl _
  | c,p :: r,h,f,l=>by
    have h0:=h p (.head _)
    have ih:=give_le (tm:=tm) (e:=e) (c:=c - (if 0 < min c p.2∧e - tm≤p.1∧p.1≤e then min c p.2 else 0)) (L:=r) (fun q hq=>h q (.tail _ hq)) f l
    show (if f≤p.1∧p.1≤l then p.2 - (if 0 < min c p.2∧e - tm≤p.1∧p.1≤e then min c p.2 else 0) else 0) + S (give tm e _ r) f l≤(if f≤p.1∧p.1≤l then p.2 else 0) + S r f l
    split
    · have : 0≤(if 0 < min c p.2∧e - tm≤p.1∧p.1≤e then min c p.2 else 0):=by split <;> omega
      omega
    · omega
theorem give_zero {tm e : Int} : ∀ {L : List (Int×Int)},give tm e 0 L=L
  | []=>rfl
  | p :: r=>by
    show (p.1,p.2 - (if 0 < min 0 p.2∧e - tm≤p.1∧p.1≤e then min 0 p.2 else 0)) :: give tm e (0 - (if 0 < min 0 p.2∧e - tm≤p.1∧p.1≤e then min 0 p.2 else 0)) r=p :: r
    rw [if_neg (by omega)]
    show (p.1,p.2 - 0) :: give tm e (0 - 0) r=p :: r
    rw [Int.sub_zero,Int.sub_zero,give_zero]
theorem give_most {tm e : Int} : ∀ {c : Int} {L : List (Int×Int)},0≤c→Pos L→∀ f l,S L f l≤(if f≤e∧e≤l + tm then c else 0) + S (give tm e c L) f l
  | c,[],hc,_,f,l=>by
    show (0 : Int)≤_ + 0
    split <;> omega
  | c,p :: r,hc,h,f,l=>by
    have h0:=h p (.head _)
    have y0 : 0≤(if 0 < min c p.2∧e - tm≤p.1∧p.1≤e then min c p.2 else 0)∧(if 0 < min c p.2∧e - tm≤p.1∧p.1≤e then min c p.2 else 0)≤c∧((if 0 < min c p.2∧e - tm≤p.1∧p.1≤e then min c p.2 else 0)=0∨(e - tm≤p.1∧p.1≤e)):=by split <;> omega
    show (if f≤p.1∧p.1≤l then p.2 else 0) + S r f l≤(if f≤e∧e≤l + tm then c else 0) + ((if f≤p.1∧p.1≤l then p.2 - (if 0 < min c p.2∧e - tm≤p.1∧p.1≤e then min c p.2 else 0) else 0) + S (give tm e (c - (if 0 < min c p.2∧e - tm≤p.1∧p.1≤e then min c p.2 else 0)) r) f l)
    generalize (if 0 < min c p.2∧e - tm≤p.1∧p.1≤e then min c p.2 else 0)=y at *
    have ih:=give_most (tm:=tm) (e:=e) (c:=c - y) (L:=r) (by omega) (fun q hq=>h q (.tail _ hq)) f l
    split at ih <;> split <;> omega
theorem give_full {tm e : Int} : ∀ {c : Int} {L : List (Int×Int)},0≤c→Pos L→Up1 L→∀ {d x l : Int},(d,x)∈give tm e c L→0 < x→e - tm≤d→d≤e→d≤l→S L (e - tm) l=c + S (give tm e c L) (e - tm) l
  | _,[],_,_,_,d,x,l,hm,_,_,_,_=>by cases hm
  | c,p :: r,hc,h,hu,d,x,l,hm,hx,h1,h2,h3=>by
    have h0:=h p (.head _)
    have hr : Pos r:=fun q hq=>h q (.tail _ hq)
    obtain ⟨hu1,hu2⟩:=List.pairwise_cons.mp hu
    show (if e - tm≤p.1∧p.1≤l then p.2 else 0) + S r (e - tm) l=c + ((if e - tm≤p.1∧p.1≤l then p.2 - (if 0 < min c p.2∧e - tm≤p.1∧p.1≤e then min c p.2 else 0) else 0) + S (give tm e (c - (if 0 < min c p.2∧e - tm≤p.1∧p.1≤e then min c p.2 else 0)) r) (e - tm) l)
    rcases List.mem_cons.mp hm with z | z
    · have e1 : d=p.1:=congrArg Prod.fst z
      have e2 : x=p.2 - (if 0 < min c p.2∧e - tm≤p.1∧p.1≤e then min c p.2 else 0):=congrArg Prod.snd z
      have hy : (if 0 < min c p.2∧e - tm≤p.1∧p.1≤e then min c p.2 else 0)=c:=by
        split at e2 <;> split <;> omega
      rw [hy,Int.sub_self,give_zero,if_pos (by omega),if_pos (by omega)]
      omega
    · have hd : p.1≤d:=by
        have m : d∈(give tm e (c - (if 0 < min c p.2∧e - tm≤p.1∧p.1≤e then min c p.2 else 0)) r).map (·.1):=List.mem_map.mpr ⟨_,z,rfl⟩
        rw [give_days] at m
        obtain ⟨q,hq,e'⟩:=List.mem_map.mp m
        have:=hu1 q hq
        omega
      have y0 : 0≤(if 0 < min c p.2∧e - tm≤p.1∧p.1≤e then min c p.2 else 0)∧(if 0 < min c p.2∧e - tm≤p.1∧p.1≤e then min c p.2 else 0)≤c∧((if 0 < min c p.2∧e - tm≤p.1∧p.1≤e then min c p.2 else 0)=0∨(e - tm≤p.1∧p.1≤e)):=by split <;> omega
      generalize (if 0 < min c p.2∧e - tm≤p.1∧p.1≤e then min c p.2 else 0)=y at *
      have ih:=give_full (tm:=tm) (e:=e) (c:=c - y) (L:=r) (by omega) hr hu2 z hx h1 h2 h3
      split <;> omega
theorem give_keeps {tm e c : Int} {L O : List (Int×Int)} (ht : 0≤tm) (hc : 0≤c) (hL : Pos L) (hu : Up1 L) (hO : Pos O) (he : ∀ o∈O,e≤o.1) (h : Hall L ((e,c) :: O) tm) : Hall (give tm e c L) O tm:=by
  intro f l hfl
  have H : ∀ f l,f≤l→S L f l≤(if f≤e∧e≤l + tm then c else 0) + S O f (l + tm):=fun f l hfl=>h f l hfl
  have gl:=give_le (tm:=tm) (e:=e) (c:=c) hL
  have gp:=give_pos (tm:=tm) (e:=e) (c:=c) hL
  by_cases c0 : f≤e∧e≤l + tm
  · have low : S L f (e - tm - 1)≤0:=by
      by_cases z : f≤e - tm - 1
      · have:=H f (e - tm - 1) z
        rw [if_neg (by omega),S_none (L:=O) (fun o ho y=>by have:=he o ho; omega)] at this
        omega
      · rw [S_none fun p _ y=>by omega]
        exact Int.le_refl _
    by_cases c1 : ∃ d x,(d,x)∈give tm e c L∧0 < x∧e - tm≤d∧d≤e∧f≤d∧d≤l
    · obtain ⟨d,x,hm,hx,h1,h2,h3,h4⟩:=c1
      have full:=give_full hc hL hu hm hx h1 h2 h4
      have h5:=H (e - tm) l (by omega)
      rw [if_pos (by omega)] at h5
      have h6 : S O (e - tm) (l + tm)≤S O f (l + tm):=by
        have : ∀ (O : List (Int×Int)),Pos O→(∀ o∈O,e≤o.1)→S O (e - tm) (l + tm)≤S O f (l + tm):=by
          intro O
          induction O with
          | nil=>intro _ _; exact Int.le_refl _
          | cons o r ih=>
            intro hp hd
            have i1:=ih (fun q hq=>hp q (.tail _ hq)) (fun q hq=>hd q (.tail _ hq))
            have i2:=hd o (.head _)
            have i3:=hp o (.head _)
            show (if e - tm≤o.1∧o.1≤l + tm then o.2 else 0) + S r (e - tm) (l + tm)≤(if f≤o.1∧o.1≤l + tm then o.2 else 0) + S r f (l + tm)
            split <;> split <;> omega
        exact this O hO he
      have h7 : S (give tm e c L) f l≤S (give tm e c L) f (e - tm - 1) + S (give tm e c L) (e - tm) l:=by
        have : ∀ (M : List (Int×Int)),Pos M→S M f l≤S M f (e - tm - 1) + S M (e - tm) l:=by
          intro M
          induction M with
          | nil=>intro _; exact Int.le_refl _
          | cons p r ih=>
            intro hp
            have i1:=ih (fun q hq=>hp q (.tail _ hq))
            have i2:=hp p (.head _)
            show (if f≤p.1∧p.1≤l then p.2 else 0) + S r f l≤((if f≤p.1∧p.1≤e - tm - 1 then p.2 else 0) + S r f (e - tm - 1)) + ((if e - tm≤p.1∧p.1≤l then p.2 else 0) + S r (e - tm) l)
            split <;> split <;> split <;> omega
        exact this _ gp
      have h8:=gl f (e - tm - 1)
      omega
    · have h9 : S (give tm e c L) f l≤S (give tm e c L) f (e - tm - 1) + S (give tm e c L) (e + 1) l:=by
        have : ∀ (M : List (Int×Int)),Pos M→(∀ d x,(d,x)∈M→¬ (0 < x∧e - tm≤d∧d≤e∧f≤d∧d≤l))→S M f l≤S M f (e - tm - 1) + S M (e + 1) l:=by
          intro M
          induction M with
          | nil=>intro _ _; exact Int.le_refl _
          | cons p r ih=>
            intro hp hn
            have i1:=ih (fun q hq=>hp q (.tail _ hq)) (fun d x hm=>hn d x (.tail _ hm))
            have i2:=hp p (.head _)
            have i3:=hn p.1 p.2 (.head _)
            show (if f≤p.1∧p.1≤l then p.2 else 0) + S r f l≤((if f≤p.1∧p.1≤e - tm - 1 then p.2 else 0) + S r f (e - tm - 1)) + ((if e + 1≤p.1∧p.1≤l then p.2 else 0) + S r (e + 1) l)
            split <;> split <;> split <;> omega
        exact this _ gp fun d x hm z=>c1 ⟨d,x,hm,z⟩
      have h10:=gl f (e - tm - 1)
      have h11:=gl (e + 1) l
      have h12 : S L (e + 1) l≤S O f (l + tm):=by
        by_cases z : e + 1≤l
        · have:=H (e + 1) l z
          rw [if_neg (by omega)] at this
          have:=S_mono hO (f:=e + 1) (l:=l + tm) (f':=f) (l':=l + tm) (by omega) (Int.le_refl _)
          omega
        · rw [S_none fun p _ y=>by omega]
          exact S_nonneg hO _ _
      omega
  · have:=H f l hfl
    rw [if_neg c0] at this
    have:=gl f l
    omega
theorem deal_iff {tm : Int} (ht : 0≤tm) : ∀ {O L : List (Int×Int)},Pos O→Up1 O→Pos L→Up1 L→((∀ p∈deal tm O L,p.2=0)↔Hall L O tm)
  | [],L,_,_,hL,_=>by
    constructor
    · intro h f l _
      have : ∀ (M : List (Int×Int)),(∀ p∈M,p.2=0)→S M f l=0:=by
        intro M
        induction M with
        | nil=>intro _; rfl
        | cons p r ih=>
          intro hm
          have i1:=ih fun q hq=>hm q (.tail _ hq)
          have i2:=hm p (.head _)
          show (if f≤p.1∧p.1≤l then p.2 else 0) + S r f l=0
          split <;> omega
      rw [this L h]
      exact Int.le_refl _
    · intro h p hp
      have h1:=h p.1 p.1 (Int.le_refl _)
      have h2 : p.2≤S L p.1 p.1:=by
        have : ∀ (M : List (Int×Int)),Pos M→p∈M→p.2≤S M p.1 p.1:=by
          intro M
          induction M with
          | nil=>intro _ hm; cases hm
          | cons q r ih=>
            intro hp' hm
            show p.2≤(if p.1≤q.1∧q.1≤p.1 then q.2 else 0) + S r p.1 p.1
            have i0:=hp' q (.head _)
            have i1:=S_nonneg (L:=r) (fun q hq=>hp' q (.tail _ hq)) p.1 p.1
            rcases List.mem_cons.mp hm with z | z
            · rw [← z,if_pos ⟨Int.le_refl _,Int.le_refl _⟩]
              omega
            · have:=ih (fun q hq=>hp' q (.tail _ hq)) z
              split <;> omega
        exact this L hL hp
      have h3:=hL p hp
      have h4 : S ([] : List (Int×Int)) p.1 (p.1 + tm)=0:=rfl
      show p.2=0
      omega
  | o :: O,L,hO,hu,hL,huL=>by
    obtain ⟨e,c⟩:=o
    have hO' : Pos O:=fun q hq=>hO q (.tail _ hq)
    obtain ⟨hu1,hu2⟩:=List.pairwise_cons.mp hu
    have hc : 0≤c:=hO (e,c) (.head _)
    have ih:=deal_iff ht (O:=O) (L:=give tm e c L) hO' hu2 (give_pos hL) (up_days give_days huL)
    show (∀ p∈deal tm O (give tm e c L),p.2=0)↔_
    rw [ih]
    constructor
    · intro h f l hfl
      have h1:=give_most (tm:=tm) (e:=e) hc hL f l
      have h2:=h f l hfl
      show S L f l≤(if f≤e∧e≤l + tm then c else 0) + S O f (l + tm)
      omega
    · exact give_keeps ht hc hL huL hO' hu1
end L2
namespace L2
abbrev Quad:=Int×Int×Int×Int
def SX (f l : Int) : List Quad→Int
  | []=>0
  | (d,c,x,y) :: Z=>(if f≤d∧d≤l then x else 0) + SX f l Z
def one (d x : Int) (Ts : List (Int×Int)) : Int:=(Ts.map fun T=>if T.1≤d∧d≤T.2 then x else 0).sum
def CX (Ts : List (Int×Int)) (Z : List Quad) : Int:=(Ts.map fun T=>SX T.1 T.2 Z).sum
end L2
namespace L2
theorem bestGo_keep {ks : List (Int×Int)} {rs : List (List Int)} {j : Nat} : ∀ (os : List Int) (v : Int→Int→Int) (cs : List Int),(∀ i∈os,i.toNat≠j)→(bestGo ks rs os v cs).2[j]? = cs[j]?
  | [],v,cs,_=>rfl
  | i :: os,v,cs,h=>by
    show (bestGo ks rs os _ _).2[j]? = _
    rw [bestGo_keep os _ _ fun k hk=>h k (.tail _ hk),List.getElem?_set_ne (h i (.head _))]
theorem perm_sum {a b : List Int} (h : a.Perm b) : a.sum=b.sum:=by
  induction h with
  | nil=>rfl
  | cons x _ ih=>rw [List.sum_cons,List.sum_cons,ih]
  | swap x y l=>rw [List.sum_cons,List.sum_cons,List.sum_cons,List.sum_cons]; omega
  | trans _ _ a b=>exact a.trans b
theorem upto_nodup (n : Nat) : (uptoN n).Nodup:=by
  unfold uptoN
  exact List.Pairwise.map _ (fun a b h e=>h (by omega)) List.nodup_range
theorem going_cons (r : List Int) (os : List (List Int)) (tm f l : Int) : goingOf (r :: os) tm f l=(if f≤r.getD 0 0∧r.getD 0 0≤l + tm then r.getD 1 0 else 0) + goingOf os tm f l:=by
  unfold goingOf
  rw [List.filter_cons]
  by_cases c : f≤r.getD 0 0∧r.getD 0 0≤l + tm
  · rw [if_pos (show goesB tm f l r=true from decide_eq_true c),if_pos c,List.map_cons,List.sum_cons]
  · rw [if_neg (fun z : goesB tm f l r=true=>c (of_decide_eq_true z)),if_neg c]; omega
end L2
namespace L2
def lotsBy (rs : List (List Int)) (ts : List Int) (is : List Int) : List (Int×Int):=is.map fun i=>(colAt rs 0 i,ts.getD i.toNat 0)
def outsBy (os : List (List Int)) (js : List Int) : List (Int×Int):=js.map fun j=>(colAt os 0 j,colAt os 1 j)
theorem S_sum (g : Int→Int×Int) (f l : Int) : ∀ is : List Int,S (is.map g) f l=(is.map fun i=>if f≤(g i).1∧(g i).1≤l then (g i).2 else 0).sum
  | []=>rfl
  | i :: is=>by
    rw [List.map_cons,List.map_cons,List.sum_cons,← S_sum g f l is]
    rfl
theorem S_perm (g : Int→Int×Int) (f l : Int) {is js : List Int} (h : is.Perm js) : S (is.map g) f l=S (js.map g) f l:=by
  rw [S_sum,S_sum]
  exact perm_sum (h.map _)
theorem S_append (f l : Int) : ∀ (a b : List (Int×Int)),S (a ++ b) f l=S a f l + S b f l
  | [],b=>by show S b f l=0 + S b f l; omega
  | p :: a,b=>by
    show (if f≤p.1∧p.1≤l then p.2 else 0) + S (a ++ b) f l=(if f≤p.1∧p.1≤l then p.2 else 0) + S a f l + S b f l
    rw [S_append f l a b]; omega
theorem S_taken (rs : List (List Int)) (ts : List Int) (f l : Int) : ∀ n,S (lotsBy rs ts (uptoN n)) f l=takenTo rs ts f l n
  | 0=>rfl
  | n + 1=>by
    unfold lotsBy
    rw [uptoN_succ,List.map_append,S_append]
    have ih:=S_taken rs ts f l n
    unfold lotsBy at ih
    rw [ih]
    show _ + ((if f≤colAt rs 0 (n : Int)∧colAt rs 0 (n : Int)≤l then ts.getD (n : Int).toNat 0 else 0) + 0)=_ + (if f≤colAt rs 0 (n : Int)∧colAt rs 0 (n : Int)≤l then ts.getD n 0 else 0)
    rw [Int.toNat_natCast]
    omega
theorem S_rows (f l : Int) : ∀ os : List (List Int),S (os.map fun r=>(r.getD 0 0,r.getD 1 0)) f l=goingOf os 0 f l
  | []=>rfl
  | r :: os=>by
    rw [going_cons,← S_rows f l os,Int.add_zero]
    rfl
theorem going_at (os : List (List Int)) (tm f l : Int) : goingOf os tm f l=goingOf os 0 f (l + tm):=by
  induction os with
  | nil=>rfl
  | cons r os ih=>rw [going_cons,going_cons,ih,Int.add_zero]
theorem outs_rows (os : List (List Int)) : outsBy os (uptoN os.length)=os.map fun r=>(r.getD 0 0,r.getD 1 0):=by
  unfold outsBy uptoN
  rw [List.map_map]
  refine List.ext_getElem? fun i=>?_
  rw [List.getElem?_map,List.getElem?_map]
  by_cases h : i < os.length
  · rw [List.getElem?_range h,List.getElem?_eq_getElem h]
    show some (colAt os 0 (i : Int),colAt os 1 (i : Int))=_
    unfold colAt
    rw [row_at (List.getElem?_eq_getElem h)]
    rfl
  · rw [List.getElem?_eq_none (by rw [List.length_range]; omega),List.getElem?_eq_none (by omega)]; rfl
theorem S_going {os : List (List Int)} {js : List Int} (h : js.Perm (uptoN os.length)) (tm f l : Int) : S (outsBy os js) f (l + tm)=goingOf os tm f l:=by
  unfold outsBy
  rw [S_perm _ _ _ h]
  have:=outs_rows os
  unfold outsBy at this
  rw [this,S_rows,← going_at]
theorem least_of : ∀ (xs : List Int),xs≠[]→(∃ m∈xs,∀ x∈xs,m≤x)∧∃ m∈xs,∀ x∈xs,x≤m
  | [],h=>absurd rfl h
  | [x],_=>⟨⟨x,.head _,fun y hy=>by rw [List.mem_singleton.mp hy]; exact Int.le_refl _⟩,⟨x,.head _,fun y hy=>by rw [List.mem_singleton.mp hy]; exact Int.le_refl _⟩⟩
  | x :: y :: r,_=>by
    obtain ⟨⟨a,ha,h1⟩,⟨b,hb,h2⟩⟩:=least_of (y :: r) (fun z=>by cases z)
    refine ⟨?_,?_⟩
    · by_cases c : x≤a
      · exact ⟨x,.head _,fun z hz=>by
          rcases List.mem_cons.mp hz with e | e
          · omega
          · have:=h1 z e; omega⟩
      · exact ⟨a,.tail _ ha,fun z hz=>by
          rcases List.mem_cons.mp hz with e | e
          · omega
          · exact h1 z e⟩
    · by_cases c : b≤x
      · exact ⟨x,.head _,fun z hz=>by
          rcases List.mem_cons.mp hz with e | e
          · omega
          · have:=h2 z e; omega⟩
      · exact ⟨b,.tail _ hb,fun z hz=>by
          rcases List.mem_cons.mp hz with e | e
          · omega
          · exact h2 z e⟩
theorem S_in {L : List (Int×Int)} {f l f' l' : Int} : (∀ p∈L,f≤p.1→p.1≤l→f'≤p.1∧p.1≤l')→f≤f'→l'≤l→S L f l=S L f' l':=by
  intro h h1 h2
  induction L with
  | nil=>rfl
  | cons p L ih=>
    have e:=ih fun q hq=>h q (.tail _ hq)
    have hp:=h p (.head _)
    show (if f≤p.1∧p.1≤l then p.2 else 0) + S L f l=(if f'≤p.1∧p.1≤l' then p.2 else 0) + S L f' l'
    rw [e]
    by_cases c : f≤p.1∧p.1≤l
    · rw [if_pos c,if_pos (hp c.1 c.2)]
    · rw [if_neg c,if_neg (by omega)]
theorem slack_hall {rs os : List (List Int)} {tm : Int} {ts ds is js : List Int} (hds : DaysOf rs ds) (hi : is.Perm (uptoN rs.length)) (hj : js.Perm (uptoN os.length)) (ho : ∀ r∈os,0≤r.getD 1 0) : (∀ p∈strOf ds,0≤slackF rs os tm ts p.1 p.2)↔Hall (lotsBy rs ts is) (outsBy os js) tm:=by
  have key : ∀ f l,slackF rs os tm ts f l=S (outsBy os js) f (l + tm) - S (lotsBy rs ts is) f l:=fun f l=>by
    unfold slackF
    rw [slack_taken,S_going hj,← S_taken]
    unfold lotsBy
    rw [S_perm _ _ _ hi]
  have posO : Pos (outsBy os js):=fun p hp=>by
    obtain ⟨j,_,rfl⟩:=List.mem_map.mp hp
    exact col_nn ho j
  constructor
  · intro h f l hfl
    by_cases c : (ds.filter fun d=>decide (f≤d∧d≤l))=[]
    · have : S (lotsBy rs ts is) f l=0:=S_none fun p hp z=>by
        obtain ⟨i,hi',rfl⟩:=List.mem_map.mp hp
        obtain ⟨i0,i1⟩:=uptoN_mem.mp (hi.mem_iff.mp hi')
        have hl : i.toNat < rs.length:=by omega
        have hd : colAt rs 0 i∈ds:=(hds.2.1 _).mpr ⟨rs[i.toNat],List.getElem_mem hl,by unfold colAt; rw [List.getD_eq_getElem?_getD (l:=rs),List.getElem?_eq_getElem hl]; rfl⟩
        have : colAt rs 0 i∈ds.filter fun d=>decide (f≤d∧d≤l):=List.mem_filter.mpr ⟨hd,decide_eq_true z⟩
        rw [c] at this
        cases this
      rw [this]
      exact S_nonneg posO _ _
    · obtain ⟨⟨a,ha,h1⟩,⟨b,hb,h2⟩⟩:=least_of _ c
      obtain ⟨a1,a2⟩:=List.mem_filter.mp ha
      obtain ⟨b1,b2⟩:=List.mem_filter.mp hb
      have a3:=of_decide_eq_true a2
      have b3:=of_decide_eq_true b2
      have ab:=h1 b hb
      have e : S (lotsBy rs ts is) f l=S (lotsBy rs ts is) a b:=S_in (fun p hp z1 z2=>by
        obtain ⟨i,hi',rfl⟩:=List.mem_map.mp hp
        obtain ⟨i0,i1⟩:=uptoN_mem.mp (hi.mem_iff.mp hi')
        have hl : i.toNat < rs.length:=by omega
        have hd : colAt rs 0 i∈ds:=(hds.2.1 _).mpr ⟨rs[i.toNat],List.getElem_mem hl,by unfold colAt; rw [List.getD_eq_getElem?_getD (l:=rs),List.getElem?_eq_getElem hl]; rfl⟩
        have hm : colAt rs 0 i∈ds.filter fun d=>decide (f≤d∧d≤l):=List.mem_filter.mpr ⟨hd,decide_eq_true ⟨z1,z2⟩⟩
        exact ⟨h1 _ hm,h2 _ hm⟩) a3.1 b3.2
      have k:=key a b
      have h0:=h (a,b) (mem_str.mpr ⟨a1,b1,ab⟩)
      dsimp only at h0
      have mo : S (outsBy os js) a (b + tm)≤S (outsBy os js) f (l + tm):=S_mono posO a3.1 (by omega)
      omega
  · intro h p hp
    have:=(mem_str.mp (show (p.1,p.2)∈strOf ds from hp)).2.2
    have:=h p.1 p.2 this
    have:=key p.1 p.2
    omega
end L2
namespace L2
def stepL (rs : List (List Int)) (tm e j : Int) (st : Int×List Int×List (List Int)) (i : Int) : Int×List Int×List (List Int):=
  if 0 < min st.1 (st.2.1.getD i.toNat 0)∧e - tm≤colAt rs 0 i∧colAt rs 0 i≤e then (st.1 - min st.1 (st.2.1.getD i.toNat 0),st.2.1.set i.toNat (st.2.1.getD i.toNat 0 - min st.1 (st.2.1.getD i.toNat 0)),st.2.2 ++ [[i,j,min st.1 (st.2.1.getD i.toNat 0)]]) else st
def outL (rs os : List (List Int)) (tm : Int) (ages : List Int) (st : List Int×List (List Int)) (j : Int) : List Int×List (List Int):=
  (ages.foldl (stepL rs tm (colAt os 0 j) j) (colAt os 1 j,st.1,st.2)).2
def dealL (rs os : List (List Int)) (tm : Int) (ages outs ts : List Int) : List Int×List (List Int):=outs.foldl (outL rs os tm ages) (ts,[])
theorem foldL_keep {rs : List (List Int)} {tm e j : Int} {k : Nat} : ∀ (is : List Int) (st : Int×List Int×List (List Int)),(∀ i∈is,i.toNat≠k)→(is.foldl (stepL rs tm e j) st).2.1[k]? = st.2.1[k]?
  | [],st,_=>rfl
  | i :: is,st,h=>by
    rw [List.foldl_cons,foldL_keep is _ fun m hm=>h m (.tail _ hm)]
    unfold stepL
    split
    · exact List.getElem?_set_ne (h i (.head _))
    · rfl
theorem foldL_len {rs : List (List Int)} {tm e j : Int} : ∀ (is : List Int) (st : Int×List Int×List (List Int)),(is.foldl (stepL rs tm e j) st).2.1.length=st.2.1.length
  | [],st=>rfl
  | i :: is,st=>by
    rw [List.foldl_cons,foldL_len is]
    unfold stepL
    split
    · exact List.length_set
    · rfl
theorem lotsBy_congr {rs : List (List Int)} {a b : List Int} {is : List Int} (h : ∀ i∈is,a[i.toNat]? = b[i.toNat]?) : lotsBy rs a is=lotsBy rs b is:=by
  unfold lotsBy
  refine List.map_congr_left fun i hi=>?_
  rw [List.getD_eq_getElem?_getD,List.getD_eq_getElem?_getD,h i hi]
theorem give_link {rs : List (List Int)} {tm e j : Int} : ∀ (is : List Int) (c : Int) (left : List Int) (told : List (List Int)),is.Nodup→(∀ i∈is,0≤i∧i.toNat < left.length)→lotsBy rs (is.foldl (stepL rs tm e j) (c,left,told)).2.1 is=give tm e c (lotsBy rs left is)
  | [],c,left,told,_,_=>rfl
  | i :: is,c,left,told,nd,hi=>by
    obtain ⟨n1,n2⟩:=List.nodup_cons.mp nd
    obtain ⟨i0,i1⟩:=hi i (.head _)
    have ne : ∀ k∈is,k.toNat≠i.toNat:=fun k hk z=>n1 (by
      have:=(hi k (.tail _ hk)).1
      rw [show i=k by omega]; exact hk)
    rw [List.foldl_cons]
    show (colAt rs 0 i,(is.foldl (stepL rs tm e j) (stepL rs tm e j (c,left,told) i)).2.1.getD i.toNat 0) :: lotsBy rs (is.foldl (stepL rs tm e j) (stepL rs tm e j (c,left,told) i)).2.1 is=(colAt rs 0 i,left.getD i.toNat 0 - (if 0 < min c (left.getD i.toNat 0)∧e - tm≤colAt rs 0 i∧colAt rs 0 i≤e then min c (left.getD i.toNat 0) else 0)) :: give tm e (c - (if 0 < min c (left.getD i.toNat 0)∧e - tm≤colAt rs 0 i∧colAt rs 0 i≤e then min c (left.getD i.toNat 0) else 0)) (lotsBy rs left is)
    rw [List.getD_eq_getElem?_getD,foldL_keep is _ ne]
    by_cases z : 0 < min c (left.getD i.toNat 0)∧e - tm≤colAt rs 0 i∧colAt rs 0 i≤e
    · have st : stepL rs tm e j (c,left,told) i=(c - min c (left.getD i.toNat 0),left.set i.toNat (left.getD i.toNat 0 - min c (left.getD i.toNat 0)),told ++ [[i,j,min c (left.getD i.toNat 0)]]):=by
        unfold stepL
        exact if_pos z
      rw [st,if_pos z,give_link is _ _ _ n2 fun k hk=>⟨(hi k (.tail _ hk)).1,by rw [List.length_set]; exact (hi k (.tail _ hk)).2⟩]
      congr 1
      · dsimp only
        rw [List.getElem?_set_self i1]; rfl
      · congr 1
        exact lotsBy_congr fun k hk=>List.getElem?_set_ne (ne k hk).symm
    · have st : stepL rs tm e j (c,left,told) i=(c,left,told):=by
        unfold stepL
        exact if_neg z
      rw [st,if_neg z,give_link is _ _ _ n2 fun k hk=>hi k (.tail _ hk)]
      congr 1
      · dsimp only
        rw [← List.getD_eq_getElem?_getD,Int.sub_zero]
      · rw [Int.sub_zero]
theorem deal_link {rs os : List (List Int)} {tm : Int} {ages : List Int} (nd : ages.Nodup) : ∀ (outs : List Int) (st : List Int×List (List Int)),(∀ i∈ages,0≤i∧i.toNat < st.1.length)→lotsBy rs (outs.foldl (outL rs os tm ages) st).1 ages=deal tm (outsBy os outs) (lotsBy rs st.1 ages)
  | [],st,_=>rfl
  | j :: outs,st,h=>by
    rw [List.foldl_cons,deal_link nd outs _ fun i hi=>⟨(h i hi).1,by
      show i.toNat < (ages.foldl (stepL rs tm (colAt os 0 j) j) (colAt os 1 j,st.1,st.2)).2.1.length
      rw [foldL_len]; exact (h i hi).2⟩]
    show deal tm (outsBy os outs) (lotsBy rs (ages.foldl (stepL rs tm (colAt os 0 j) j) (colAt os 1 j,st.1,st.2)).2.1 ages)=_
    rw [give_link ages _ _ _ nd h]
    rfl
theorem up_eldest {rs : List (List Int)} {n : Nat} {is : List Int} (h : Ordered (keyE rs) n is) : is.Pairwise fun i j=>colAt rs 0 i≤colAt rs 0 j:=by
  refine h.2.imp fun {i j} z=>?_
  have z' : (if colAt rs 0 j=colAt rs 0 i then (if j=i then false else decide (j < i)) else decide (colAt rs 0 j < colAt rs 0 i))=false:=z
  by_cases c : colAt rs 0 j=colAt rs 0 i
  · omega
  · rw [if_neg c] at z'
    have:=of_decide_eq_false z'
    omega
theorem left_iff {rs os : List (List Int)} {tm : Int} {ts ds ages outs : List Int} (ht : 0≤tm) (hds : DaysOf rs ds) (ha : Ordered (keyE rs) rs.length ages) (hb : Ordered (keyE os) os.length outs) (ho : ∀ r∈os,0≤r.getD 1 0) (hl : ts.length=rs.length) (hts : ∀ u∈ts,0≤u) :
    (∀ i∈ages,(dealL rs os tm ages outs ts).1.getD i.toNat 0=0)↔∀ p∈strOf ds,0≤slackF rs os tm ts p.1 p.2:=by
  have nd : ages.Nodup:=(ha.1.nodup_iff).mpr (upto_nodup _)
  have rng : ∀ i∈ages,0≤i∧i.toNat < ts.length:=fun i hi=>by
    have:=uptoN_mem.mp (ha.1.mem_iff.mp hi)
    exact ⟨this.1,by omega⟩
  rw [slack_hall hds ha.1 hb.1 ho,← deal_iff ht (O:=outsBy os outs) (L:=lotsBy rs ts ages) (fun p hp=>by
    obtain ⟨j,_,rfl⟩:=List.mem_map.mp hp
    exact col_nn ho j) (List.pairwise_map.mpr (up_eldest hb)) (fun p hp=>by
    obtain ⟨i,hi,rfl⟩:=List.mem_map.mp hp
    have:=(rng i hi).2
    show 0≤ts.getD i.toNat 0
    rw [List.getD_eq_getElem?_getD,List.getElem?_eq_getElem this]
    exact hts _ (List.getElem_mem this)) (List.pairwise_map.mpr (up_eldest ha)),← deal_link nd outs (ts,[]) rng]
  show _↔∀ p∈lotsBy rs (dealL rs os tm ages outs ts).1 ages,p.2=0
  constructor
  · intro h p hp
    obtain ⟨i,hi,rfl⟩:=List.mem_map.mp hp
    exact h i hi
  · intro h i hi
    exact h _ (List.mem_map.mpr ⟨i,hi,rfl⟩)
end L2
namespace L2
end L2
namespace L2
end L2
namespace L2
open PySem PySem.Spec PySem.W PyProof.Rows
theorem takenTo_set {rs : List (List Int)} {ts : List Int} {k : Nat} {x f l : Int} (hk : k < ts.length) : ∀ n,takenTo rs (ts.set k x) f l n=takenTo rs ts f l n + if k < n∧f≤colAt rs 0 (k : Int)∧colAt rs 0 (k : Int)≤l then x - ts.getD k 0 else 0
  | 0=>by rw [if_neg (by omega)]; rfl
  | n + 1=>by
    have ih:=takenTo_set (rs:=rs) (x:=x) (f:=f) (l:=l) hk n
    show takenTo rs (ts.set k x) f l n + (if f≤colAt rs 0 (n : Int)∧colAt rs 0 (n : Int)≤l then (ts.set k x).getD n 0 else 0)=takenTo rs ts f l n + (if f≤colAt rs 0 (n : Int)∧colAt rs 0 (n : Int)≤l then ts.getD n 0 else 0) + _
    rw [ih]
    by_cases e : k=n
    · subst e
      have g : (ts.set k x).getD k 0=x:=by rw [List.getD_eq_getElem?_getD,List.getElem?_set_self hk]; rfl
      rw [g,if_neg (fun z : k < k∧_=>Nat.lt_irrefl _ z.1)]
      by_cases c : f≤colAt rs 0 (k : Int)∧colAt rs 0 (k : Int)≤l
      · rw [if_pos c,if_pos c,if_pos ⟨Nat.lt_succ_self _,c⟩]; omega
      · rw [if_neg c,if_neg c,if_neg (fun z=>c z.2)]
    · have g : (ts.set k x).getD n 0=ts.getD n 0:=by rw [List.getD_eq_getElem?_getD,List.getElem?_set_ne e,List.getD_eq_getElem?_getD]
      rw [g]
      generalize (if f≤colAt rs 0 (n : Int)∧colAt rs 0 (n : Int)≤l then ts.getD n 0 else 0)=y
      by_cases c : k < n∧f≤colAt rs 0 (k : Int)∧colAt rs 0 (k : Int)≤l
      · rw [if_pos c,if_pos ⟨by omega,c.2⟩]; omega
      · rw [if_neg c,if_neg (fun z=>c ⟨by omega,z.2⟩)]; omega
theorem slack_set {rs os : List (List Int)} {tm : Int} {ts : List Int} {k : Nat} {x f l : Int} (hk : k < ts.length) (hl : ts.length=rs.length) : slackF rs os tm (ts.set k x) f l=slackF rs os tm ts f l - if f≤colAt rs 0 (k : Int)∧colAt rs 0 (k : Int)≤l then x - ts.getD k 0 else 0:=by
  unfold slackF
  rw [slack_taken,slack_taken,takenTo_set hk]
  by_cases c : f≤colAt rs 0 (k : Int)∧colAt rs 0 (k : Int)≤l
  · rw [if_pos c,if_pos ⟨by omega,c⟩]; omega
  · rw [if_neg c,if_neg (fun z=>c z.2)]; omega
def insD (x : Int) : List Int→List Int
  | []=>[x]
  | d :: ds=>if x < d then x :: d :: ds else if x=d then d :: ds else d :: insD x ds
theorem mem_insD {x z : Int} : ∀ {ds : List Int},z∈insD x ds↔z=x∨z∈ds
  | []=>by simp [insD]
  | d :: ds=>by
    unfold insD
    split
    · simp
    · split
      · rename_i e; subst e; simp
      · rw [List.mem_cons,mem_insD,List.mem_cons]
        constructor
        · rintro (h | h | h) <;> simp [h]
        · rintro (h | h | h) <;> simp [h]
theorem insD_up {x : Int} : ∀ {ds : List Int},ds.Pairwise (· < ·)→(insD x ds).Pairwise (· < ·)
  | [],_=>by simp [insD]
  | d :: ds,h=>by
    obtain ⟨h1,h2⟩:=List.pairwise_cons.mp h
    unfold insD
    split
    · rename_i c
      refine List.pairwise_cons.mpr ⟨fun z hz=>?_,h⟩
      rcases List.mem_cons.mp hz with e | e
      · omega
      · have:=h1 z e; omega
    · rename_i c
      split
      · exact h
      · rename_i e
        refine List.pairwise_cons.mpr ⟨fun z hz=>?_,insD_up h2⟩
        rcases mem_insD.mp hz with y | y
        · omega
        · exact h1 z y
theorem insD_len {x : Int} : ∀ {ds : List Int},(insD x ds).length≤ds.length + 1
  | []=>Nat.le_refl _
  | d :: ds=>by
    unfold insD
    split
    · simp
    · split
      · simp
      · have:=insD_len (x:=x) (ds:=ds)
        simp; omega
theorem days_exist : ∀ rs : List (List Int),∃ ds,DaysOf rs ds
  | []=>⟨[],.nil,fun d=>⟨fun h=>(by cases h),fun ⟨r,h,_⟩=>(by cases h)⟩,Nat.le_refl _⟩
  | r :: rs=>by
    obtain ⟨ds,h1,h2,h3⟩:=days_exist rs
    refine ⟨insD (r.getD 0 0) ds,insD_up h1,fun d=>?_,Nat.le_trans insD_len (by rw [List.length_cons]; omega)⟩
    rw [mem_insD,h2 d]
    constructor
    · rintro (e | ⟨q,hq,e⟩)
      · exact ⟨r,.head _,e.symm⟩
      · exact ⟨q,.tail _ hq,e⟩
    · rintro ⟨q,hq,e⟩
      rcases List.mem_cons.mp hq with z | z
      · subst z; exact .inl e.symm
      · exact .inr ⟨q,z,e⟩
def NoLack (rs os : List (List Int)) (tm : Int) (ts : List Int) : Prop:=∀ ds,DaysOf rs ds→∀ p∈strOf ds,0≤slackF rs os tm ts p.1 p.2
theorem days_same {rs : List (List Int)} {ds ds' : List Int} (h : DaysOf rs ds) (h' : DaysOf rs ds') : ds' = ds:=days_uniq h' h fun _=>Iff.rfl
theorem NoLack.of {rs os : List (List Int)} {tm : Int} {ts ds : List Int} (hds : DaysOf rs ds) (h : ∀ p∈strOf ds,0≤slackF rs os tm ts p.1 p.2) : NoLack rs os tm ts:=fun ds' h'=>by rw [days_same hds h']; exact h
theorem foldL_nn {rs : List (List Int)} {tm e j : Int} : ∀ (is : List Int) (st : Int×List Int×List (List Int)),(∀ x∈st.2.1,0≤x)→∀ x∈(is.foldl (stepL rs tm e j) st).2.1,0≤x
  | [],st,h=>h
  | i :: is,st,h=>by
    rw [List.foldl_cons]
    refine foldL_nn is _ fun x hx=>?_
    unfold stepL at hx
    split at hx
    · rcases List.mem_or_eq_of_mem_set hx with z | z
      · exact h x z
      · rw [z]; omega
    · exact h x hx
theorem dealL_nn {rs os : List (List Int)} {tm : Int} {ages : List Int} : ∀ (outs : List Int) (st : List Int×List (List Int)),(∀ x∈st.1,0≤x)→∀ x∈(outs.foldl (outL rs os tm ages) st).1,0≤x
  | [],st,h=>h
  | j :: outs,st,h=>by
    rw [List.foldl_cons]
    exact dealL_nn outs _ (foldL_nn ages _ h)
theorem dealL_len {rs os : List (List Int)} {tm : Int} {ages : List Int} : ∀ (outs : List Int) (st : List Int×List (List Int)),(outs.foldl (outL rs os tm ages) st).1.length=st.1.length
  | [],st=>rfl
  | j :: outs,st=>by
    rw [List.foldl_cons,dealL_len outs]
    exact foldL_len ages _
theorem foldL_told {rs : List (List Int)} {tm e j : Int} : ∀ (is : List Int) (st : Int×List Int×List (List Int)),(is.foldl (stepL rs tm e j) st).2.2.length≤st.2.2.length + is.length
  | [],st=>Nat.le_refl _
  | i :: is,st=>by
    have a:=foldL_told (rs:=rs) (tm:=tm) (e:=e) (j:=j) is (stepL rs tm e j st i)
    have b : (stepL rs tm e j st i).2.2.length≤st.2.2.length + 1:=by
      unfold stepL
      split
      · rw [List.length_append,List.length_singleton]; exact Nat.le_refl _
      · exact Nat.le_succ _
    rw [List.foldl_cons,List.length_cons]
    omega
theorem dealL_told {rs os : List (List Int)} {tm : Int} {ages : List Int} : ∀ (outs : List Int) (st : List Int×List (List Int)),(outs.foldl (outL rs os tm ages) st).2.length≤st.2.length + outs.length * ages.length
  | [],st=>by rw [List.length_nil,Nat.zero_mul]; exact Nat.le_refl _
  | j :: outs,st=>by
    have a:=dealL_told (rs:=rs) (os:=os) (tm:=tm) (ages:=ages) outs (outL rs os tm ages st j)
    have b : (outL rs os tm ages st j).2.length≤st.2.length + ages.length:=foldL_told (rs:=rs) (tm:=tm) (e:=colAt os 0 j) (j:=j) ages (colAt os 1 j,st.1,st.2)
    rw [List.foldl_cons,List.length_cons,Nat.succ_mul]
    omega
theorem sum_nn0 : ∀ {xs : List Int},(∀ x∈xs,0≤x)→0≤xs.sum∧(xs.sum=0↔∀ x∈xs,x=0)
  | [],_=>⟨Int.le_refl _,by simp⟩
  | x :: xs,h=>by
    obtain ⟨a,b⟩:=sum_nn0 fun y hy=>h y (.tail _ hy)
    have h0:=h x (.head _)
    rw [List.sum_cons]
    refine ⟨by omega,fun z=>?_,fun z=>?_⟩
    · have e : xs.sum=0:=by omega
      exact List.forall_mem_cons.mpr ⟨by omega,b.mp e⟩
    · obtain ⟨z1,z2⟩:=List.forall_mem_cons.mp z
      rw [z1,b.mpr z2]; rfl
theorem left_sum {rs os : List (List Int)} {tm : Int} {ts ages outs : List Int} (ht : 0≤tm) (ha : Ordered (keyE rs) rs.length ages) (hb : Ordered (keyE os) os.length outs) (ho : ∀ r∈os,0≤r.getD 1 0) (hl : ts.length=rs.length) (hts : ∀ u∈ts,0≤u) :
    0≤(dealL rs os tm ages outs ts).1.sum∧((dealL rs os tm ages outs ts).1.sum=0↔NoLack rs os tm ts):=by
  obtain ⟨ds,hds⟩:=days_exist rs
  have nn:=dealL_nn (rs:=rs) (os:=os) (tm:=tm) (ages:=ages) outs (ts,[]) hts
  have ln:=dealL_len (rs:=rs) (os:=os) (tm:=tm) (ages:=ages) outs (ts,[])
  obtain ⟨s0,s1⟩:=sum_nn0 nn
  refine ⟨s0,?_⟩
  have e1 : NoLack rs os tm ts↔∀ p∈strOf ds,0≤slackF rs os tm ts p.1 p.2:=⟨fun h=>h ds hds,fun h=>.of hds h⟩
  rw [e1,← left_iff ht hds ha hb ho hl hts]
  refine s1.trans ?_
  show (∀ x∈(dealL rs os tm ages outs ts).1,x=0)↔_
  have ln' : (dealL rs os tm ages outs ts).1.length=rs.length:=ln.trans hl
  constructor
  · intro h i hi
    have:=uptoN_mem.mp (ha.1.mem_iff.mp hi)
    have hk : i.toNat < (dealL rs os tm ages outs ts).1.length:=by omega
    rw [List.getD_eq_getElem?_getD,List.getElem?_eq_getElem hk]
    exact h _ (List.getElem_mem hk)
  · intro h x hx
    obtain ⟨k,hk,e⟩:=List.getElem_of_mem hx
    have:=h ((k : Nat) : Int) (ha.1.mem_iff.mpr (uptoN_mem.mpr ⟨by omega,by omega⟩))
    rw [Int.toNat_natCast,List.getD_eq_getElem?_getD,List.getElem?_eq_getElem hk,e] at this
    exact this
def FreeL (rs os : List (List Int)) (tm : Int) (ts : List Int) (i M : Int) : Prop:=∀ ds,DaysOf rs ds→FreeIs (strOf ds) (slackF rs os tm ts) (colAt rs 0 i) (colAt rs 1 i - ts.getD i.toNat 0) M
theorem more_iff {rs os : List (List Int)} {tm : Int} {ts ds : List Int} {k : Nat} {m : Int} (hds : DaysOf rs ds) (hk : k < ts.length) (hl : ts.length=rs.length) (h : NoLack rs os tm ts) : NoLack rs os tm (ts.set k (ts.getD k 0 + m))↔∀ p∈strOf ds,p.1≤colAt rs 0 (k : Int)→colAt rs 0 (k : Int)≤p.2→m≤slackF rs os tm ts p.1 p.2:=by
  constructor
  · intro z p hp a b
    have:=z ds hds p hp
    rw [slack_set hk hl,if_pos ⟨a,b⟩] at this
    omega
  · intro z
    refine .of hds fun p hp=>?_
    rw [slack_set hk hl]
    by_cases c : p.1≤colAt rs 0 (k : Int)∧colAt rs 0 (k : Int)≤p.2
    · rw [if_pos c]
      have:=z p hp c.1 c.2
      omega
    · rw [if_neg c]
      have:=h ds hds p hp
      omega
theorem free_of {rs os : List (List Int)} {tm : Int} {ts : List Int} {k : Nat} {M : Int} (hk : k < ts.length) (hl : ts.length=rs.length) (h : NoLack rs os tm ts) (m1 : M≤colAt rs 1 (k : Int) - ts.getD k 0) (ok : NoLack rs os tm (ts.set k (ts.getD k 0 + M)))
    (no : M < colAt rs 1 (k : Int) - ts.getD k 0→¬ NoLack rs os tm (ts.set k (ts.getD k 0 + (M + 1)))) : FreeL rs os tm ts (k : Int) M:=by
  intro ds hds
  rw [more_iff hds hk hl h] at ok
  rw [more_iff hds hk hl h] at no
  refine ⟨by rw [Int.toNat_natCast]; exact m1,ok,?_⟩
  rw [Int.toNat_natCast]
  by_cases c : M=colAt rs 1 (k : Int) - ts.getD k 0
  · exact .inl c
  · refine .inr ?_
    have z:=no (by omega)
    refine Classical.byContradiction fun y=>z fun p hp a b=>?_
    have e:=ok p hp a b
    by_cases w : M=slackF rs os tm ts p.1 p.2
    · exact absurd ⟨p,hp,a,b,w⟩ y
    · omega
theorem bestGo_slack {rs os : List (List Int)} {tm : Int} {ks : List (Int×Int)} : ∀ (is : List Int) (v : Int→Int→Int) (cs : List Int),(∀ f l,v f l=slackF rs os tm cs f l)→is.Nodup→(∀ i∈is,0≤i∧i.toNat < cs.length∧cs.getD i.toNat 0=0)→cs.length=rs.length→∀ f l,(bestGo ks rs is v cs).1 f l=slackF rs os tm (bestGo ks rs is v cs).2 f l
  | [],v,cs,h,_,_,_=>h
  | i :: is,v,cs,h,nd,hi,hl=>by
    obtain ⟨n1,n2⟩:=List.nodup_cons.mp nd
    obtain ⟨i0,i1,i2⟩:=hi i (.head _)
    refine bestGo_slack is _ _ (fun f l=>?_) n2 (fun j hj=>?_) (by rw [List.length_set]; exact hl)
    · rw [slack_set i1 hl,i2,show ((i.toNat : Nat) : Int)=i by omega,← h f l]
      unfold lessF
      split <;> omega
    · obtain ⟨j0,j1,j2⟩:=hi j (.tail _ hj)
      have ne : i.toNat≠j.toNat:=fun z=>n1 (by rw [show i=j by omega]; exact hj)
      refine ⟨j0,by rw [List.length_set]; exact j1,?_⟩
      rw [List.getD_eq_getElem?_getD,List.getElem?_set_ne ne,← List.getD_eq_getElem?_getD]
      exact j2
theorem slack_zero {rs os : List (List Int)} {tm f l : Int} {n : Nat} : slackF rs os tm (List.replicate n 0) f l=goingOf os tm f l:=by
  unfold slackF
  rw [slack_taken]
  have : ∀ m,takenTo rs (List.replicate n 0) f l m=0:=by
    intro m
    induction m with
    | zero=>rfl
    | succ k ih=>
      show takenTo rs (List.replicate n 0) f l k + (if f≤colAt rs 0 (k : Int)∧colAt rs 0 (k : Int)≤l then (List.replicate n (0 : Int)).getD k 0 else 0)=0
      rw [ih,List.getD_eq_getElem?_getD,List.getElem?_replicate]
      have g : ((if k < n then some (0 : Int) else none).getD 0)=0:=by split <;> rfl
      rw [g]
      split <;> rfl
  rw [this]; omega
def gapOf (σ : List (Option V)) : Nat:=match σ[5]?,σ[6]? with
  | some (some (V.int lo)),some (some (V.int hi))=>(hi - lo).toNat
  | _,_=>0
theorem set_cat (ts : List Int) {k : Nat} (x : Int) (h : k < ts.length) : ts.take k ++ [x] ++ ts.drop (k + 1)=ts.set k x:=by
  rw [List.set_eq_take_append_cons_drop,if_pos h,List.append_assoc]; rfl
def spDealT (tb : Tbs) : Sp:=fun vs H Q _=>∃ (a b t : Addr) (tm : Int) (rs os : List (List Int)) (ts : List Int),vs=[.ref a,.ref b,.int tm,.ref t]∧Tb tb H∧Rows H a rs∧(∀ r∈rs,r.length=3)∧rs.length≤31∧Rows H b os∧(∀ r∈os,r.length=2)∧os.length≤31∧IntsAt H t ts∧ts.length=rs.length∧
  ∀ q l ages outs H',H q=none→H l=none→Ordered (keyE rs) rs.length ages→Ordered (keyE os) os.length outs→Same H H'→Rows H' l (dealL rs os tm ages outs ts).2→H' q=some (.tup [.ref l,.int (dealL rs os tm ages outs ts).1.sum])→Q (.ref q) H'
structure LotsOk (rs os : List (List Int)) (tm : Int) : Prop where
  h3 : ∀ r∈rs,r.length=3
  rn : rs.length≤31
  h2 : ∀ r∈os,r.length=2
  on : os.length≤31
  r0 : ∀ r∈rs,0≤r.getD 1 0
  o0 : ∀ r∈os,0≤r.getD 1 0
  t0 : 0≤tm
  rd : ∀ r∈rs,dutyOk r
  rc : ∀ r∈rs,r.getD 1 0≤10000000000
def spMostT (tb : Tbs) : Sp:=fun vs H Q _=>∃ (a b t : Addr) (tm : Int) (rs os : List (List Int)) (ts : List Int) (k : Nat),vs=[.ref a,.ref b,.int tm,.ref t,.int (k : Int)]∧Tb tb H∧Rows H a rs∧Rows H b os∧LotsOk rs os tm∧IntsAt H t ts∧ts.length=rs.length∧k < rs.length∧(∀ u∈ts,0≤u)∧ts.getD k 0≤colAt rs 1 (k : Int)∧NoLack rs os tm ts∧
  ∀ M H',FreeL rs os tm ts (k : Int) M→Same H H'→Q (.int M) H'
def spBestT (tb : Tbs) : Sp:=fun vs H Q _=>∃ (a b : Addr) (tm : Int) (rs os : List (List Int)),vs=[.ref a,.ref b,.int tm]∧Tb tb H∧Rows H a rs∧Rows H b os∧LotsOk rs os tm∧∀ l cs H',H l=none→BestIs rs os tm cs→Same H H'→IntsAt H' l cs→Q (.ref l) H'
end L2
namespace L2
open PySem PySem.Spec PySem.W PyProof.Rows
section
variable {K : PySem.W.Frag} {a c x D : Addr} {g : TG} {te : TE} {σ₀ : St} {H1 : Hp} {R : Hp→Prop}
theorem comp_lstK {xs : List V} (P : Nat→List V→Hp→Prop) (hD : H1 D=none) (hx : H1 x=some (.lst xs)) (nx : x≠a) (d1 : DrawAt H1 a c) (hn : xs.length≤1000) (st : ∀ i zs H H',P i zs H→(H D=none∨∃ l,H D=some (.lst l))→(∀ b o,b≠D→H b=some o→H' b=some o)→P i zs H') (h0 : P 0 [] H1)
    (step : ∀ i y zs H,xs[i]? = some y→H D=some (.lst zs)→KeepBut a H1 H→DrawAt H a c→P i zs H→∀ K1 : V→Hp→Prop,(∀ z H4,KeepBut a H H4→DrawAt H4 a c→P (i + 1) (zs ++ [z]) H4→K1 z H4)→g y σ₀ H fun σ2 H2=>(∀ (k : Nat) v,σ₀[k]? = some (some v)→σ2[k]? = some (some v))∧te σ2 H2 K1)
    (fin : ∀ zs H,KeepBut a H1 H→DrawAt H a c→P xs.length zs H→zs.length=xs.length→H D=some (.lst zs)→R H) :
    ∃ W : Nat→Nat→Hp→Prop,(∃ m,W 0 m (upd H1 D (.lst [])))∧∀ i m H,W i m H→((Itl K x).stop i H∧R H)∨((Itl K x).go i H∧∀ y H',(Itl K x).yld i H y H'→g y σ₀ H' fun σ2 H2=>(∀ (k : Nat) v,σ₀[k]? = some (some v)→σ2[k]? = some (some v))∧tIf0 σ2 H2 fun b H3=>
      if b=true then te σ2 H3 fun y H4=>∃ zs,H4 D=some (.lst zs)∧zs.length < sizeLine∧∃ m',m' < m∧W (i + 1) m' (upd H4 D (.lst (zs ++ [y]))) else ∃ m',m' < m∧W (i + 1) m' H3):=by
  have na:=d1.ne hD
  have nc:=d1.nc hD
  refine ⟨fun i m H=>i + m=xs.length∧KeepBut a H1 H∧DrawAt H a c∧∃ zs,H D=some (.lst zs)∧zs.length=i∧P i zs H,⟨xs.length,by omega,KeepBut.refl.new hD,d1.new hD,[],upd_same,rfl,st _ _ _ _ h0 (.inl hD) fun b o hb e=>by rw [upd_ne hb]; exact e⟩,?_⟩
  rintro i m H ⟨him,k1,d,zs,hz,hl,hp⟩
  have ex:=k1 _ _ nx hx
  by_cases hi : i < xs.length
  · refine .inr ⟨⟨xs,_,SqL.of ex,List.getElem?_eq_getElem hi⟩,?_⟩
    rintro y H' ⟨rfl,hy⟩
    refine step i y zs _ (hy _ (SqL.of ex)) hz k1 d hp _ fun y H4 k4 d4 p4=>⟨zs,k4 _ _ na hz,small1000 (by omega),m - 1,by omega,by omega,(k1.trans k4).young hD,d4.upd na nc,zs ++ [y],upd_same,by rw [List.length_append,List.length_singleton]; omega,st _ _ _ _ p4 (.inr ⟨_,k4 _ _ na hz⟩) fun b o hb e=>by rw [upd_ne hb]; exact e⟩
  · have e : i=xs.length:=by omega
    subst e
    exact .inl ⟨⟨xs,SqL.of ex,Nat.le_refl _⟩,fin zs H k1 d hp hl hz⟩
end
def LotG (r : List Int) : Prop:=∃ d c u : Int,r=[d,c,u]∧1≤d∧d≤999∧1≤c∧c≤10000000000∧1≤u∧u≤1000000
def OutG (r : List Int) : Prop:=∃ d c : Int,r=[d,c]∧1≤d∧d≤999∧1≤c∧c≤10000000000
theorem LotIn.good {lo n sc : Int} {r : List Int} (h : LotIn lo n sc r) (l1 : 1≤lo) (l2 : lo + n≤1000) (s1 : sc≤10000000000) : LotG r:=by
  obtain ⟨d,c,u,rfl,h1,h2,h3,h4,h5,h6⟩:=h
  exact ⟨d,c,u,rfl,by omega,by omega,by omega,by omega,h5,h6⟩
theorem OutIn.good {lo n sc : Int} {r : List Int} (h : OutIn lo n sc r) (l1 : 1≤lo) (l2 : lo + n≤1000) (s1 : sc≤10000000000) : OutG r:=by
  obtain ⟨d,c,rfl,h1,h2,h3,h4⟩:=h
  exact ⟨d,c,rfl,by omega,by omega,by omega,by omega⟩
structure GoodC (ls os : List (List Int)) (tm : Int) : Prop where
  lg : ∀ r∈ls,LotG r
  og : ∀ r∈os,OutG r
  ln : ls.length≤30
  on : os.length≤30
  t0 : 0≤tm
  t4 : tm≤400
theorem lotsG_bad {ls : List (List Int)} (h : ∀ r∈ls,LotG r) : rowsBad ls=none:=by
  unfold rowsBad
  rw [List.findSome?_eq_none_iff]
  intro r hr
  obtain ⟨d,c,u,rfl,h1,h2,h3,h4,h5,h6⟩:=h r hr
  simp only [rowBad]
  rw [if_pos ⟨by omega,by omega⟩,if_pos ⟨by omega,by omega⟩,if_pos ⟨by omega,by omega⟩]
theorem outsG_bad {ls : List (List Int)} (h : ∀ r∈ls,OutG r) : rowsBad ls=none:=by
  unfold rowsBad
  rw [List.findSome?_eq_none_iff]
  intro r hr
  obtain ⟨d,c,rfl,h1,h2,h3,h4⟩:=h r hr
  simp only [rowBad]
  rw [if_pos ⟨by omega,by omega⟩,if_pos ⟨by omega,by omega⟩]
theorem LotG.len {r : List Int} (h : LotG r) : r.length=3:=by obtain ⟨d,c,u,rfl,_⟩:=h; rfl
theorem OutG.len {r : List Int} (h : OutG r) : r.length=2:=by obtain ⟨d,c,rfl,_⟩:=h; rfl
theorem LotG.duty {r : List Int} (h : LotG r) : dutyOk r:=by
  obtain ⟨d,c,u,rfl,_,_,_,_,h5,h6⟩:=h
  exact ⟨rfl,by show -(2 ^ 64) < u; omega,by show u < 2 ^ 64; omega⟩
theorem GoodC.both {ls os : List (List Int)} {tm : Int} (h : GoodC ls os tm) : bothNo ls os tm=none:=by
  rw [bothNo_term (rowsNo_ok h.ln (lotsG_bad h.lg)) (rowsNo_ok h.on (outsG_bad h.og)),if_pos ⟨h.t0,h.t4⟩]
theorem GoodC.h3 {ls os : List (List Int)} {tm : Int} (h : GoodC ls os tm) : ∀ r∈ls,r.length=3:=fun r hr=>(h.lg r hr).len
theorem GoodC.h2 {ls os : List (List Int)} {tm : Int} (h : GoodC ls os tm) : ∀ r∈os,r.length=2:=fun r hr=>(h.og r hr).len
theorem lotsOk_of {ls os : List (List Int)} {tm : Int} (h1 : ∀ r∈ls,LotG r) (h2 : ∀ r∈os,OutG r) (ln : ls.length≤31) (on : os.length≤31) (t0 : 0≤tm) : LotsOk ls os tm:=by
  refine ⟨fun r hr=>(h1 r hr).len,ln,fun r hr=>(h2 r hr).len,on,fun r hr=>?_,fun r hr=>?_,t0,fun r hr=>(h1 r hr).duty,fun r hr=>?_⟩
  · obtain ⟨d,c,u,rfl,_,_,h3,_⟩:=h1 r hr; show (0 : Int)≤c; omega
  · obtain ⟨d,c,rfl,_,_,h3,_⟩:=h2 r hr; show (0 : Int)≤c; omega
  · obtain ⟨d,c,u,rfl,_,_,_,h4,_⟩:=h1 r hr; exact h4
theorem GoodC.ok {ls os : List (List Int)} {tm : Int} (h : GoodC ls os tm) : LotsOk ls os tm:=lotsOk_of h.lg h.og (by have:=h.ln; omega) (by have:=h.on; omega) h.t0
theorem cutTo (xs : List V) {k : Int} (h0 : 0≤k) : cutV xs none (some k)=xs.take k.toNat:=by
  have e : HT.sIx xs.length xs.length (some k)=min k.toNat xs.length:=by
    show (if k < 0 then (k + (xs.length : Int)).toNat else min k.toNat xs.length)=_
    rw [if_neg (by omega)]
  unfold cutV
  rw [e]
  show (xs.drop 0).take (min k.toNat xs.length - 0)=_
  rw [List.drop_zero,Nat.sub_zero]
  by_cases z : k.toNat≤xs.length
  · rw [Nat.min_eq_left z]
  · rw [Nat.min_eq_right (by omega),List.take_length,List.take_of_length_le (by omega)]
def spCountsT (tb : Tbs) : Sp:=fun vs H Q _=>∃ (a c l o : Addr) (tm : Int) (ls os : List (List Int)),vs=[.ref a,.ref l,.ref o,.int tm]∧DrawAt H a c∧Tb tb H∧Rows H l ls∧Rows H o os∧l≠a∧o≠a∧LotsOk ls os tm∧
  ∀ t ts H',H t=none→TakenOk ls ts→DrawAt H' a c→KeepBut a H H'→IntsAt H' t ts→Q (.ref t) H'
theorem takenOk_of {rs : List (List Int)} {ts : List Int} (hl : ts.length=rs.length) (h : ∀ (j : Nat) r u,rs[j]? = some r→ts[j]? = some u→0≤u∧u≤r.getD 1 0) : TakenOk rs ts:=⟨hl,fun j r u _ e1 e2=>h j r u e1 e2⟩
theorem TakenOk.at {rs : List (List Int)} {ts : List Int} (h : TakenOk rs ts) {j : Nat} {r : List Int} {u : Int} (e1 : rs[j]? = some r) (e2 : ts[j]? = some u) : 0≤u∧u≤r.getD 1 0:=h.2 j r u (List.getElem?_eq_some_iff.mp e1).1 e1 e2
theorem TakenOk.nn {rs : List (List Int)} {ts : List Int} (h : TakenOk rs ts) : ∀ u∈ts,0≤u:=fun u hu=>by
  obtain ⟨j,hj,e⟩:=List.getElem_of_mem hu
  exact (h.at (List.getElem?_eq_getElem (show j < rs.length by rw [← h.1]; exact hj)) (by rw [List.getElem?_eq_getElem hj,e])).1
end L2
namespace L2
open PySem
theorem comp_zipF {K : PySem.W.Frag} {a b D : Addr} {xs ys : List V} {g : TG} {ti : TT} {te : TE} {σ₀ : St} {H1 : Hp} {R : Hp→Prop} (P : Nat→List V→Prop) (hD : H1 D=none) (hx : H1 a=some (.lst xs)) (hy : H1 b=some (.lst ys)) (hl : xs.length=ys.length) (hn : xs.length≤1000) (h0 : P 0 [])
    (step : ∀ i x y zs H p,xs[i]? = some x→ys[i]? = some y→Same H1 H→P i zs→H p=none→∀ (K1 : V→Hp→Prop) (K2 : Hp→Prop),(∀ z H4,Same (upd H p (.tup [x,y])) H4→P (i + 1) (zs ++ [z])→K1 z H4)→(∀ H3,Same (upd H p (.tup [x,y])) H3→P (i + 1) zs→K2 H3)→
      g (.ref p) σ₀ (upd H p (.tup [x,y])) fun σ2 H2=>(∀ (k : Nat) v,σ₀[k]? = some (some v)→σ2[k]? = some (some v))∧ti σ2 H2 fun b H3=>if b=true then te σ2 H3 K1 else K2 H3)
    (fin : ∀ zs H,Same H1 H→P xs.length zs→zs.length≤xs.length→H D=some (.lst zs)→R H) :
    ∃ W : Nat→Nat→Hp→Prop,(∃ m,W 0 m (upd H1 D (.lst [])))∧∀ i m H,W i m H→((Itz K true true a b).stop i H∧R H)∨((Itz K true true a b).go i H∧∀ x H',(Itz K true true a b).yld i H x H'→g x σ₀ H' fun σ2 H2=>(∀ (k : Nat) v,σ₀[k]? = some (some v)→σ2[k]? = some (some v))∧ti σ2 H2 fun b H3=>
      if b=true then te σ2 H3 fun y H4=>∃ zs,H4 D=some (.lst zs)∧zs.length < sizeLine∧∃ m',m' < m∧W (i + 1) m' (upd H4 D (.lst (zs ++ [y]))) else ∃ m',m' < m∧W (i + 1) m' H3):=by
  refine ⟨fun i m H=>i + m=xs.length∧Same H1 H∧∃ zs,H D=some (.lst zs)∧zs.length≤i∧P i zs,⟨xs.length,by omega,same_new hD _,[],upd_same,Nat.le_refl _,h0⟩,?_⟩
  rintro i m H ⟨him,s1,zs,hz,hzl,hp⟩
  have ex:=s1 _ _ hx
  have ey:=s1 _ _ hy
  by_cases hi : i < xs.length
  · refine .inr ⟨⟨xs,ys,_,_,SqL.of ex,SqL.of ey,List.getElem?_eq_getElem hi,List.getElem?_eq_getElem (by omega)⟩,?_⟩
    rintro v H' ⟨p,x,y,rfl,hp',rfl,hxy⟩
    obtain ⟨e1,e2⟩:=hxy xs ys (SqL.of ex) (SqL.of ey)
    have sp:=same_new hp' (.tup [x,y])
    refine step i x y zs H p e1 e2 s1 hp hp' _ _ (fun z H4 s4 p4=>⟨zs,s4 _ _ (sp _ _ hz),small1000 (by omega),m - 1,by omega,by omega,((s1.trans sp).trans s4).young hD,zs ++ [z],upd_same,by rw [List.length_append,List.length_singleton]; omega,p4⟩) fun H3 s3 p3=>⟨m - 1,by omega,by omega,(s1.trans sp).trans s3,zs,s3 _ _ (sp _ _ hz),by omega,p3⟩
  · have e : i=xs.length:=by omega
    subst e
    exact .inl ⟨⟨xs,ys,SqL.of ex,SqL.of ey,.inl (Nat.le_refl _)⟩,fin zs H s1 hp hzl hz⟩
end L2
namespace K14
open PySem L2
abbrev s_is_given : Stmt:=top 27
abbrev n_is_given : List Str:=["lots","outs","term","row","lot","out","count"]
abbrev p_is_given : List Str:=["lots","outs","term","row"]
theorem sc_is_given : FnScope n_is_given p_is_given (defScope s_is_given):=⟨rfl,rfl,rfl,by decide +kernel,rfl,by decide +kernel,by decide +kernel⟩
abbrev s_none_above : Stmt:=top 29
abbrev n_none_above : List Str:=["sums","rows"]
abbrev p_none_above : List Str:=["sums","rows"]
theorem sc_none_above : FnScope n_none_above p_none_above (defScope s_none_above):=⟨rfl,rfl,rfl,by decide +kernel,rfl,by decide +kernel,by decide +kernel⟩
abbrev s_is_dealing : Stmt:=top 30
abbrev n_is_dealing : List Str:=["lots","outs","term","rows","goods","gone","by_lots","by_outs"]
abbrev p_is_dealing : List Str:=["lots","outs","term","rows"]
theorem sc_is_dealing : FnScope n_is_dealing p_is_dealing (defScope s_is_dealing):=⟨rfl,rfl,rfl,by decide +kernel,rfl,by decide +kernel,by decide +kernel⟩
section
variable {P : Program} {w : World} {K : PySem.W.Frag} {mg : Str→Option Value} {base : Heap} {f : Addr} {fd : FuncData} {cl : Nat→Addr} (T : Txt K mg cl) (B : Bn mg)
include T B
theorem ok_is_given (G_reaches : Cal P w K mg base CX0 4 "reaches" p_reaches spReaches) (F : Fun K "is_given" "is_given" s_is_given f fd) : FnOk P w K mg base CX0 5 f fd p_is_given spGiven:=by
  refine F.ok sc_is_given (fun vs H Q E h=>?_) (fun cdv A outer s H vs Q E hr h=>?_)
  · obtain ⟨a,b,t,tm,l,o,c,ls,os,rfl,_⟩:=h; rfl
  obtain ⟨a,b,t,tm,l,o,c,ls,os,rfl,ht,hL,h3,hO,h2,htm,q⟩:=h
  refine ⟨_,(pss_cons (ps_asg (pv 3) (pg_tup rfl (pgs_cons (pg_name (i:=4) sc_is_given.nd rfl (Or.inl rfl)) (pgs_cons (pg_name (i:=5) sc_is_given.nd rfl (Or.inl rfl)) (pgs_cons (pg_name (i:=6) sc_is_given.nd rfl (Or.inl rfl)) pgs_nil)))))
    (pss_cons (ps_if (PW.pt (pw_or (pt_not (pt_chain op_le op_lt pe_int (pv 4) (pe_callB call_len_seq rfl B.len PySem.boot_len (pa_c (pv 0) pa_nil)))) (pw_or (pt_not (pt_chain op_le op_lt pe_int (pv 5) (pe_callB call_len_seq rfl B.len PySem.boot_len (pa_c (pv 1) pa_nil)))) (pw_or1 (pt_cmpR op_lt (pv 6) pe_int (nomark _)))))) (pss_one (ps_ret pe_bl)) pss_nil)
    (pss_one (ps_ret (pe_cal G_reaches hr rfl pass0 (pa_c (pe_ix ix_tup (pe_ix ix_list (pv 1) (pv 5) (fun _ _=>rfl)) pe_int (fun _ _=>rfl)) (pa_c (pv 2) (pa_c (pe_ix ix_tup (pe_ix ix_list (pv 0) (pv 4) (fun _ _=>rfl)) pe_int (fun _ _=>rfl)) pa_nil)))))))),?_⟩
  refine ⟨_,rfl,t,_,rfl,SqT.of ht,rfl,_,_,rfl,_,_,rfl,_,_,rfl,rfl,?_⟩
  obtain ⟨xs,ex,hx⟩:=hL.tups
  obtain ⟨ys,ey,hy⟩:=hO.tups
  have lx : (xs.length : Int)=ls.length:=by rw [hx.1]
  have ly : (ys.length : Int)=os.length:=by rw [hy.1]
  dsimp only
  refine tIfw (decide (¬ ((0≤l∧l < (ls.length : Int))∧(0≤o∧o < (os.length : Int))∧1≤c))) (fun Q' hq=>?_) (fun e=>?_) fun e=>?_
  · refine ⟨_,rfl,_,_,rfl,rfl,_,rfl,?_⟩
    by_cases c1 : 0≤l
    · rw [decide_eq_true c1]
      refine iteT ⟨_,rfl,a,_,rfl,.inl (SqL.of ex),_,_,rfl,rfl,_,rfl,?_⟩
      by_cases c2 : l < (xs.length : Int)
      · rw [decide_eq_true c2]
        refine iteF ⟨_,rfl,_,_,rfl,rfl,_,rfl,?_⟩
        by_cases c3 : 0≤o
        · rw [decide_eq_true c3]
          refine iteT ⟨_,rfl,b,_,rfl,.inl (SqL.of ey),_,_,rfl,rfl,_,rfl,?_⟩
          by_cases c4 : o < (ys.length : Int)
          · rw [decide_eq_true c4]
            refine iteF ⟨_,rfl,_,_,rfl,rfl,_,rfl,?_⟩
            have e : decide (c < 1)=decide (¬ ((0≤l∧l < (ls.length : Int))∧(0≤o∧o < (os.length : Int))∧1≤c)):=by
              rw [Bool.eq_iff_iff,decide_eq_true_iff,decide_eq_true_iff]; omega
            rw [e]; exact hq
          · rw [decide_eq_false c4]
            rw [decide_eq_true (by omega)] at hq
            exact iteT hq
        · rw [decide_eq_false c3]
          rw [decide_eq_true (by omega)] at hq
          exact iteF ⟨_,rfl,iteT hq⟩
      · rw [decide_eq_false c2]
        rw [decide_eq_true (by omega)] at hq
        exact iteT hq
    · rw [decide_eq_false c1]
      rw [decide_eq_true (by omega)] at hq
      exact iteF ⟨_,rfl,iteT hq⟩
  · have e:=of_decide_eq_true e
    exact q false H ⟨fun z=>(by cases z),fun z=>absurd ⟨z.1,z.2.1,z.2.2.1⟩ e⟩ (Same.refl H)
  · have e:=Classical.not_not.mp (of_decide_eq_false e)
    obtain ⟨⟨l0,l1⟩,⟨o0,o1⟩,c1⟩:=e
    obtain ⟨r,er⟩ : ∃ r,os[o.toNat]? = some r:=⟨_,List.getElem?_eq_getElem (by omega)⟩
    obtain ⟨x,ex1⟩ : ∃ x,ls[l.toNat]? = some x:=⟨_,List.getElem?_eq_getElem (by omega)⟩
    have colO : colAt os 0 o=r.getD 0 0:=by unfold colAt; rw [getD_row er]
    have colL : colAt ls 0 l=x.getD 0 0:=by unfold colAt; rw [getD_row ex1]
    obtain ⟨v,ev⟩ : ∃ v,ys[o.toNat]? = some v:=⟨_,List.getElem?_eq_getElem (by omega)⟩
    obtain ⟨v',ev'⟩ : ∃ v,xs[l.toNat]? = some v:=⟨_,List.getElem?_eq_getElem (by omega)⟩
    obtain ⟨p1,rfl,hp1⟩:=hy.2 _ _ _ ev er
    obtain ⟨p2,rfl,hp2⟩:=hx.2 _ _ _ ev' ex1
    obtain ⟨r2,rb⟩:=h2 r (List.mem_of_getElem? er)
    obtain ⟨rd,rc,rfl⟩:=len2 r2
    obtain ⟨xd,xc,xu,rfl⟩:=len3 (h3 x (List.mem_of_getElem? ex1))
    refine ⟨_,rfl,_,rfl,b,_,o,_,rfl,rfl,SqL.of ey,atI_some o0 ev,p1,_,0,_,rfl,rfl,SqT.of hp1,rfl,?_⟩
    refine ⟨_,rfl,_,rfl,_,rfl,a,_,l,_,rfl,rfl,SqL.of ex,atI_some l0 ev',p2,_,0,_,rfl,rfl,SqT.of hp2,rfl,?_⟩
    refine ⟨rd,tm,xd,rfl,rb,htm,fun H' sm=>q _ H' ?_ sm⟩
    unfold Gvn
    show _↔(_∧_)∧(_∧_)∧_∧reachB tm (colAt os 0 o) (colAt ls 0 l)=true
    rw [colO,colL]
    exact ⟨fun z=>⟨⟨l0,l1⟩,⟨o0,o1⟩,c1,z⟩,fun z=>z.2.2.2⟩
theorem ok_none_above (F : Fun K "none_above" "none_above" s_none_above f fd) : FnOk P w K mg base CX0 1 f fd p_none_above spNoneAb:=by
  refine F.ok sc_none_above (fun vs H Q E h=>?_) (fun cdv A outer s H vs Q E hr h=>?_)
  · obtain ⟨a,b,ss,rs,rfl,_⟩:=h; rfl
  obtain ⟨a,b,ss,rs,rfl,hI,hR,h2,hl,hn,q⟩:=h
  refine ⟨_,(pss_one (ps_ret (pe_callB (call_allB rfl) rfl B.all PyProof.Rows.boot_all (pa_c (pe_comp (N':=["units","row"]) (ix:=[none,none]) (g:=(gTup K 2 (gCons (gName 0) (gCons (gName 1) gNil)))) (ti:=tIf0) (te:=(tOp (rI0 fun i j=>.bl (decide (i≤j))) (tVar 0) (tOp (rIxT K) (tVar 1) (tC (.int 1))))) rfl (comp_scope (N:=n_none_above) (D:=defScope s_none_above) (by decide +kernel)) (pi_zip rfl B.zip (pa_c (pv 0) (pa_c (pv 1) pa_nil))) (fun C s H fp=>(pg_tup rfl (pgs_cons (pg_name (i:=0) (show (["units","row"] : List Str).Nodup by decide +kernel) rfl (Or.inl rfl)) (pgs_cons (pg_name (i:=1) (show (["units","row"] : List Str).Nodup by decide +kernel) rfl (Or.inl rfl)) pgs_nil)))) (fun C s H fp=>pifs_nil) (fun C s H fp=>(pe_cmpR op_le (pv 0) (pe_ix ix_tup (pv 1) pe_int (fun _ _=>rfl)) (nomark _)))) pa_nil)))),?_⟩
  obtain ⟨ys,ey,ht⟩:=hR.tups
  refine ⟨_,rfl,_,rfl,true,true,a,b,_,ys,rfl,SqL.of hI,SqL.of ey,fun D hD=>?_⟩
  refine comp_zipF (fun i zs=>∃ bs : List Bool,zs=bs.map V.bl∧bs.length=i∧∀ (j : Nat) x u r,bs[j]? = some x→ss[j]? = some u→rs[j]? = some r→(x=true↔u≤r.getD 1 0)) hD hI ey (by rw [List.length_map,ht.1,hl]) (by rw [List.length_map]; omega) ⟨[],rfl,rfl,fun j x u r e=>by cases e⟩ (fun i x y zs H2 p e1 e2 s2 hz hp K1 K2 q1 q2=>?_) fun zs H2 s2 hz ln hD2=>?_
  · obtain ⟨u,rfl,eu⟩:=ints_at e1
    obtain ⟨pr,r,rfl,er,hpr⟩:=ht.at e2
    obtain ⟨bs,rfl,lb,hb⟩:=hz
    have sp:=s2.trans (same_new hp (.tup [.int u,.ref pr]))
    refine ⟨p,_,rfl,SqT.of upd_same,rfl,_,_,rfl,_,_,rfl,rfl,keep_set (keep_set keep_refl rfl) rfl,?_⟩
    obtain ⟨r0,r1,rt,rfl⟩ : ∃ r0 r1 rt,r=r0 :: r1 :: rt:=by
      have:=h2 r (List.mem_of_getElem? er)
      match r,this with
      | r0 :: r1 :: rt,_=>exact ⟨_,_,_,rfl⟩
    refine ⟨_,rfl,_,rfl,pr,_,1,_,rfl,rfl,SqT.of (sp _ _ hpr),atI_some (by decide) rfl,_,_,rfl,rfl,q1 _ _ (Same.refl _) ⟨bs ++ [decide (u≤r1)],by rw [List.map_append]; rfl,by rw [List.length_append,lb]; rfl,fun j x u' r' z1 z2 z3=>?_⟩⟩
    by_cases c : j < bs.length
    · rw [List.getElem?_append_left c] at z1
      exact hb j x u' r' z1 z2 z3
    · have cj : j=bs.length:=by
        have:=(List.getElem?_eq_some_iff.mp z1).1
        rw [List.length_append,List.length_singleton] at this
        omega
      subst cj
      rw [List.getElem?_append_right (Nat.le_refl _),Nat.sub_self] at z1
      rw [lb] at z2 z3
      rw [eu] at z2
      rw [er] at z3
      cases z1; cases z2; cases z3
      exact decide_eq_true_iff
  · obtain ⟨bs,rfl,lb,hb⟩:=hz
    refine ⟨D,bs,rfl,SqL.of hD2,?_⟩
    refine q _ H2 ⟨fun z i u r e1 e2=>?_,fun z=>?_⟩ s2
    · have hi : i < bs.length:=by rw [lb,List.length_map]; exact (List.getElem?_eq_some_iff.mp e1).1
      exact (hb i _ u r (List.getElem?_eq_getElem hi) e1 e2).mp (List.all_eq_true.mp z _ (List.getElem_mem hi))
    · refine List.all_eq_true.mpr fun x hx=>?_
      obtain ⟨i,hi,rfl⟩:=List.getElem_of_mem hx
      have h1 : i < ss.length:=by rw [lb,List.length_map] at hi; exact hi
      exact (hb i _ _ _ (List.getElem?_eq_getElem hi) (List.getElem?_eq_getElem h1) (List.getElem?_eq_getElem (show i < rs.length by omega))).mpr (z i _ _ (List.getElem?_eq_getElem h1) (List.getElem?_eq_getElem (show i < rs.length by omega)))
theorem ok_is_dealing (G_checked_both : Cal P w K mg base (CXE P w) 4 "checked_both" p_checked_both (spBoth cl)) (G_is_given : Cal P w K mg base CX0 5 "is_given" p_is_given spGiven) (G_summed : Cal P w K mg base CX0 1 "summed" p_summed spSummed) (G_none_above : Cal P w K mg base CX0 1 "none_above" p_none_above spNoneAb) (F : Fun K "is_dealing" "is_dealing" s_is_dealing f fd) : FnOk P w K mg base (CXE P w) 6 f fd p_is_dealing (spIsDeal cl):=by
  refine F.okE sc_is_dealing (fun vs H Q E h=>?_) (fun cdv A outer s H vs Q E hr h=>?_)
  · obtain ⟨a,b,p,tm,rs,os,ts,rfl,_⟩:=h; rfl
  obtain ⟨a,b,p,tm,rs,os,ts,rfl,hR,h3,hO,h2,hT,t3,tn,q1,q2⟩:=h
  refine ⟨_,(pss_cons (ps_asg (pe_cal (E:=E) G_checked_both hr rfl (passE fun _ _ z=>z) (pa_c (pv 0) (pa_c (pv 1) (pa_c (pv 2) pa_nil)))) (pg_tup rfl (pgs_cons (pg_name (i:=4) sc_is_dealing.nd rfl (Or.inr rfl)) (pgs_cons (pg_name (i:=5) sc_is_dealing.nd rfl (Or.inr rfl)) pgs_nil))))
    (pss_cons (ps_if (pt_not (pt_truth (pe_callB (call_allB rfl) rfl B.all PyProof.Rows.boot_all (pa_c (pe_comp (N':=["row","goods","gone","term"]) (ix:=[none,some 4,some 5,some 2]) (g:=(gName 0)) (ti:=tIf0) (te:=(tCall spGiven [] E0 (tCons (tVar 1) (tCons (tVar 2) (tCons (tVar 3) (tCons (tVar 0) tNil)))))) rfl (comp_scope (N:=n_is_dealing) (D:=defScope s_is_dealing) (by decide +kernel)) (pi_list (pv 3)) (fun C s H fp=>(pg_name (i:=0) (show (["row","goods","gone","term"] : List Str).Nodup by decide +kernel) rfl (Or.inl rfl))) (fun C s H fp=>pifs_nil) (fun C s H fp=>(pe_cal G_is_given hr rfl pass0 (pa_c (pv 1) (pa_c (pv 2) (pa_c (pv 3) (pa_c (pv 0) pa_nil))))))) pa_nil)) (fun _=>rfl))) (pss_one (ps_ret pe_bl)) pss_nil)
    (pss_cons (ps_if (pt_cmpR op_lt (pe_callB call_lenT rfl B.len PySem.boot_len (pa_c (pe_scompT (hu:=hu_of hr) (N':=["lot","out","count"]) (ix:=[none,none,none]) (g:=(gTup K 3 (gCons (gName 0) (gCons (gName 1) (gCons (gName 2) gNil))))) (ti:=tIf0) (te:=(tTup (tCons (tVar 0) (tCons (tVar 1) tNil)))) rfl (comp_scope (N:=n_is_dealing) (D:=defScope s_is_dealing) (by decide +kernel)) (pi_list (pv 3)) (fun C s H fp=>(pg_tup rfl (pgs_cons (pg_name (i:=0) (show (["lot","out","count"] : List Str).Nodup by decide +kernel) rfl (Or.inl rfl)) (pgs_cons (pg_name (i:=1) (show (["lot","out","count"] : List Str).Nodup by decide +kernel) rfl (Or.inl rfl)) (pgs_cons (pg_name (i:=2) (show (["lot","out","count"] : List Str).Nodup by decide +kernel) rfl (Or.inl rfl)) pgs_nil))))) (fun C s H fp=>pifs_nil) (fun C s H fp=>(pe_tup (pa_c (pv 0) (pa_c (pv 1) pa_nil))))) pa_nil)) (pe_callB call_len_seq rfl B.len PySem.boot_len (pa_c (pv 3) pa_nil)) (nomark _)) (pss_one (ps_ret pe_bl)) pss_nil)
    (pss_cons (ps_set (i:=6) sc_is_dealing.nd rfl (Or.inl rfl) (pe_cal G_summed hr rfl pass0 (pa_c (pe_callB call_len_seq rfl B.len PySem.boot_len (pa_c (pv 4) pa_nil)) (pa_c (pe_comp (N':=["lot","out","count"]) (ix:=[none,none,none]) (g:=(gTup K 3 (gCons (gName 0) (gCons (gName 1) (gCons (gName 2) gNil))))) (ti:=tIf0) (te:=(tTup (tCons (tVar 0) (tCons (tVar 2) tNil)))) rfl (comp_scope (N:=n_is_dealing) (D:=defScope s_is_dealing) (by decide +kernel)) (pi_list (pv 3)) (fun C s H fp=>(pg_tup rfl (pgs_cons (pg_name (i:=0) (show (["lot","out","count"] : List Str).Nodup by decide +kernel) rfl (Or.inl rfl)) (pgs_cons (pg_name (i:=1) (show (["lot","out","count"] : List Str).Nodup by decide +kernel) rfl (Or.inl rfl)) (pgs_cons (pg_name (i:=2) (show (["lot","out","count"] : List Str).Nodup by decide +kernel) rfl (Or.inl rfl)) pgs_nil))))) (fun C s H fp=>pifs_nil) (fun C s H fp=>(pe_tup (pa_c (pv 0) (pa_c (pv 2) pa_nil))))) pa_nil))))
    (pss_cons (ps_set (i:=7) sc_is_dealing.nd rfl (Or.inl rfl) (pe_cal G_summed hr rfl pass0 (pa_c (pe_callB call_len_seq rfl B.len PySem.boot_len (pa_c (pv 5) pa_nil)) (pa_c (pe_comp (N':=["lot","out","count"]) (ix:=[none,none,none]) (g:=(gTup K 3 (gCons (gName 0) (gCons (gName 1) (gCons (gName 2) gNil))))) (ti:=tIf0) (te:=(tTup (tCons (tVar 1) (tCons (tVar 2) tNil)))) rfl (comp_scope (N:=n_is_dealing) (D:=defScope s_is_dealing) (by decide +kernel)) (pi_list (pv 3)) (fun C s H fp=>(pg_tup rfl (pgs_cons (pg_name (i:=0) (show (["lot","out","count"] : List Str).Nodup by decide +kernel) rfl (Or.inl rfl)) (pgs_cons (pg_name (i:=1) (show (["lot","out","count"] : List Str).Nodup by decide +kernel) rfl (Or.inl rfl)) (pgs_cons (pg_name (i:=2) (show (["lot","out","count"] : List Str).Nodup by decide +kernel) rfl (Or.inl rfl)) pgs_nil))))) (fun C s H fp=>pifs_nil) (fun C s H fp=>(pe_tup (pa_c (pv 1) (pa_c (pv 2) pa_nil))))) pa_nil))))
    (pss_one (ps_ret (pe_and (pe_cal G_none_above hr rfl pass0 (pa_c (pv 6) (pa_c (pv 4) pa_nil))) (pe_one (pe_cal G_none_above hr rfl pass0 (pa_c (pv 7) (pa_c (pv 5) pa_nil)))))))))))),?_⟩
  refine ⟨_,rfl,_,rfl,_,rfl,a,b,tm,rs,os,rfl,hR,h3,hO,h2,q1,fun bn t' g o H1 ht' hg ho s1 R1 O1 e1=>?_⟩
  refine ⟨t',_,rfl,SqT.of e1,rfl,_,_,rfl,_,_,rfl,rfl,?_⟩
  have q:=q2 bn
  obtain ⟨xs,ex,ht⟩:=(hT.same s1).tups
  have okT:=both_term bn
  obtain ⟨rn,on,_,ob⟩:=both_ok bn
  have o9:=out_day ob h2
  refine ⟨_,rfl,p,rfl,⟨_,SqL.of ex⟩,fun D hD=>?_⟩
  refine comp_by (fun i zs _=>∃ bs : List Bool,zs=bs.map V.bl∧bs.length=i∧∀ (j : Nat) x r,bs[j]? = some x→ts[j]? = some r→(x=true↔Gvn rs os tm r)) hD ex (by rw [ht.1]; omega) (fun i zs _ _ h _=>h) ⟨[],rfl,rfl,fun j x r e=>by cases e⟩ (fun i x zs H2 e2 s2 hz K1 K2 k1 k2=>?_) fun zs H2 s2 hz ln hD2=>?_
  · obtain ⟨pr,r,rfl,er,hpr⟩:=ht.at e2
    obtain ⟨l,u,c,rfl⟩:=len3 (t3 r (List.mem_of_getElem? er))
    obtain ⟨bs,rfl,lb,hb⟩:=hz
    refine ⟨keep_set keep_refl rfl,?_⟩
    refine ⟨_,rfl,_,rfl,_,rfl,_,rfl,g,o,pr,tm,l,u,c,rs,os,rfl,s2 _ _ hpr,R1.same s2,h3,O1.same s2,o9,okT,fun y H3 hy s3=>k1 _ _ s3 ⟨bs ++ [y],by rw [List.map_append]; rfl,by rw [List.length_append,lb]; rfl,fun j x r' z1 z2=>?_⟩⟩
    by_cases c : j < bs.length
    · rw [List.getElem?_append_left c] at z1
      exact hb j x r' z1 z2
    · have cj : j=bs.length:=by
        have:=(List.getElem?_eq_some_iff.mp z1).1
        rw [List.length_append,List.length_singleton] at this
        omega
      subst cj
      rw [List.getElem?_append_right (Nat.le_refl _),Nat.sub_self] at z1
      rw [lb,er] at z2
      cases z1; cases z2
      exact hy
  obtain ⟨bs,rfl,lb,hb⟩:=hz
  have lbt : bs.length=ts.length:=by rw [lb,ht.1]
  have gv : bs.all id=true↔∀ r∈ts,Gvn rs os tm r:=by
    refine ⟨fun z r hr=>?_,fun z=>List.all_eq_true.mpr fun x hx=>?_⟩
    · obtain ⟨i,hi,rfl⟩:=List.getElem_of_mem hr
      exact (hb i _ _ (List.getElem?_eq_getElem (show i < bs.length by omega)) (List.getElem?_eq_getElem hi)).mp (List.all_eq_true.mp z _ (List.getElem_mem _))
    · obtain ⟨i,hi,rfl⟩:=List.getElem_of_mem hx
      exact (hb i _ _ (List.getElem?_eq_getElem hi) (List.getElem?_eq_getElem (show i < ts.length by omega))).mpr (z _ (List.getElem_mem _))
  refine ⟨D,_,rfl,SqL.of hD2,_,rfl,?_⟩
  have s12:=s1.trans s2
  cases ca : bs.all id with
  | false=>
    refine iteT (q false H2 ⟨fun z=>(by cases z),fun z=>?_⟩ s12)
    rw [ca] at gv
    exact absurd (gv.mpr z.1) (by simp)
  | true=>
    have gvn:=gv.mp ca
    refine iteF ?_
    clear hb hD2 gv ca
    have ex2:=s2 _ _ ex
    refine ⟨_,rfl,p,rfl,⟨_,SqL.of ex2⟩,fun D2 hD'=>?_⟩
    refine scompT_by (PrsP ts) hD' ex2 (by rw [ht.1]; exact tn) PrsP.zero (fun i x ks0 H3 e2 s3 hz K1 K2 k1=>?_) fun ys H3 s3 hz ln hD3=>?_
    · obtain ⟨pr,r,rfl,er,hpr⟩:=ht.at e2
      obtain ⟨l,u,c,rfl⟩:=len3 (t3 r (List.mem_of_getElem? er))
      refine ⟨pr,_,rfl,SqT.of (s3 _ _ (s2 _ _ hpr)),rfl,_,_,rfl,_,_,rfl,_,_,rfl,rfl,keep_set (keep_set (keep_set keep_refl rfl) rfl) rfl,?_⟩
      refine ⟨_,rfl,_,rfl,by show 2≤sizeLine; decide,fun tp htp=>?_⟩
      exact k1 tp (pk2 (l,u)) _ upd_same (same_new htp _) (fun z=>hz.old er z) fun z=>hz.new er z
    have nod:=PrsP.fin (by rw [ht.1] at hz; exact hz)
    rw [List.length_map] at nod
    have s13:=s12.trans s3
    have s23:=s2.trans s3
    refine ⟨D2,ys,rfl,hD3,by omega,_,rfl,p,_,rfl,.inl (SqL.of (s3 _ _ ex2)),_,_,rfl,rfl,_,rfl,?_⟩
    have lxs : xs.length=ts.length:=ht.1
    by_cases c : ((ys.length : Int) < (xs.length : Int))
    · rw [decide_eq_true c]
      refine iteT (q false H3 ⟨fun z=>(by cases z),fun z=>?_⟩ s13)
      exact absurd z.2.1 (nod.mp (by omega))
    · rw [decide_eq_false c]
      refine iteF ?_
      have hnd : (ts.map pr2).Nodup:=Classical.byContradiction fun z=>c (by have:=nod.mpr z; omega)
      obtain ⟨gx,eg,hgx⟩:=(R1.same s23).tups
      obtain ⟨gy,eo,hgy⟩:=(O1.same s23).tups
      have ht3:=ht.same s23
      refine ⟨_,rfl,g,_,rfl,.inl (SqL.of eg),?_⟩
      refine ⟨_,rfl,p,rfl,⟨_,SqL.of (s3 _ _ ex2)⟩,fun D4 hD4=>?_⟩
      have lgx : (gx.length : Int)=rs.length:=by rw [hgx.1]
      have lgy : (gy.length : Int)=os.length:=by rw [hgy.1]
      refine comp_rows (fun r=>[r.getD 0 0,r.getD 2 0]) hD4 (s3 _ _ ex2) ht3 (by omega) (fun i pr r H4 er s4 hpr K1 K2 k1=>?_) fun H4 s4 R4=>?_
      · obtain ⟨l,u,cc,rfl⟩:=len3 (t3 r (List.mem_of_getElem? er))
        exact ⟨pr,_,rfl,SqT.of hpr,rfl,_,_,rfl,_,_,rfl,_,_,rfl,rfl,keep_set (keep_set (keep_set keep_refl rfl) rfl) rfl,_,rfl,_,rfl,by show 2≤sizeLine; decide,fun tp htp=>k1 tp htp⟩
      have n1 : ((gx.length : Int)).toNat=rs.length:=by omega
      have n2 : ((gy.length : Int)).toNat=os.length:=by omega
      refine ⟨(gx.length : Int),D4,byLots ts,rfl,by omega,by omega,R4,fun r hr=>?_,fun bl H5 hbl s5 I5=>?_⟩
      · obtain ⟨r',hr',rfl⟩:=List.mem_map.mp hr
        exact ⟨rfl,(gvn r' hr').1.1,by show r'.getD 0 0 < _; rw [lgx]; exact (gvn r' hr').1.2⟩
      rw [n1] at I5
      have s45:=s4.trans s5
      refine ⟨_,rfl,o,_,rfl,.inl (SqL.of (s45 _ _ eo)),?_⟩
      refine ⟨_,rfl,p,rfl,⟨_,SqL.of (s45 _ _ (s3 _ _ ex2))⟩,fun D6 hD6=>?_⟩
      refine comp_rows (fun r=>[r.getD 1 0,r.getD 2 0]) hD6 (s45 _ _ (s3 _ _ ex2)) (ht3.same s45) (by omega) (fun i pr r H6 er s6 hpr K1 K2 k1=>?_) fun H6 s6 R6=>?_
      · obtain ⟨l,u,cc,rfl⟩:=len3 (t3 r (List.mem_of_getElem? er))
        exact ⟨pr,_,rfl,SqT.of hpr,rfl,_,_,rfl,_,_,rfl,_,_,rfl,rfl,keep_set (keep_set (keep_set keep_refl rfl) rfl) rfl,_,rfl,_,rfl,by show 2≤sizeLine; decide,fun tp htp=>k1 tp htp⟩
      refine ⟨(gy.length : Int),D6,byOuts ts,rfl,by omega,by omega,R6,fun r hr=>?_,fun bo H7 hbo s7 I7=>?_⟩
      · obtain ⟨r',hr',rfl⟩:=List.mem_map.mp hr
        exact ⟨rfl,(gvn r' hr').2.1.1,by show r'.getD 1 0 < _; rw [lgy]; exact (gvn r' hr').2.1.2⟩
      rw [n2] at I7
      have s67:=s6.trans s7
      have s37:=s45.trans s67
      have s17:=s23.trans s37
      have s07:=s1.trans s17
      refine ⟨_,rfl,_,rfl,bl,g,_,rs,rfl,s67 _ _ I5,R1.same s17,fun r hr=>by rw [h3 r hr]; decide,by unfold summedOf; rw [List.length_map,List.length_range],by omega,fun x1 H8 hx1 s8=>?_⟩
      cases x1 with
      | false=>exact ⟨_,rfl,iteF (q false H8 ⟨fun z=>(by cases z),fun z=>hx1.mpr z.2.2.1⟩ (s07.trans s8))⟩
      | true=>
        refine ⟨_,rfl,iteT ⟨_,rfl,_,rfl,bo,o,_,os,rfl,s8 _ _ I7,O1.same (s17.trans s8),fun r hr=>by rw [h2 r hr]; decide,by unfold summedOf; rw [List.length_map,List.length_range],by omega,fun x2 H9 hx2 s9=>?_⟩⟩
        exact q x2 H9 ⟨fun z=>⟨gvn,hnd,hx1.mp rfl,hx2.mp z⟩,fun z=>hx2.mpr z.2.2.2⟩ (s07.trans (s8.trans s9))
end
end K14
namespace K14
open PySem L2
abbrev s_same : Stmt:=top 45
abbrev n_same : List Str:=["_law_found","_law_due"]
abbrev p_same : List Str:=["_law_found","_law_due"]
theorem sc_same : FnScope n_same p_same (defScope s_same):=⟨rfl,rfl,rfl,by decide +kernel,rfl,by decide +kernel,by decide +kernel⟩
def spSame : Nat→Sp
  | 0=>fun _ _ _ _=>False
  | n + 1=>fun vs H Q _=>∃ v u,vs=[v,u]∧EqD H n v u∧∀ H',Same H H'→Q (.bl true) H'
section
variable {P : Program} {w : World} {K : PySem.W.Frag} {mg : Str→Option Value} {base : Heap} {f : Addr} {fd : FuncData}
theorem nd2 : (["_law_one","_law_other"] : List Str).Nodup:=by decide +kernel
abbrev g2 (K : PySem.W.Frag) : TG:=gTup K 2 (gCons (gName 0) (gCons (gName 1) gNil))
theorem same_comp {m : Nat} {H2 : Hp} {a b : Addr} {xs ys : List V} {bb : Bool} {Q : VK} (hl : xs.length=ys.length) (hs : xs.length≤1000) (hx : ∀ (i : Nat) x y,xs[i]? = some x→ys[i]? = some y→EqD H2 m x y) (hb : ∀ H',Same H2 H'→SqB K H' bb a xs∧SqB K H' bb b ys)
    (q : ∀ H',Same H2 H'→Q (.bl true) H') : tComp [none,none] (iZip K (tCons (tVar 0) (tCons (tVar 1) tNil))) (g2 K) tIf0 (tCall (spSame (m + 1)) [] E0 (tCons (tVar 0) (tCons (tVar 1) tNil))) [some (.ref a),some (.ref b)] H2
      (fun x H3=>∃ (p : Addr) (bs : List Bool),[x]=[V.ref p]∧SqL K H3 p (bs.map V.bl)∧Q (.bl (bs.all id)) H3):=by
  obtain ⟨q1,q2⟩:=hb H2 (Same.refl H2)
  refine ⟨_,rfl,_,rfl,bb,bb,a,b,xs,ys,rfl,q1,q2,fun D hD=>⟨fun i m' H4=>i + m' = xs.length∧Same H2 H4∧H4 D=some (.lst (List.replicate i (.bl true))),⟨xs.length,by omega,same_new hD _,upd_same⟩,?_⟩⟩
  rintro i m' H4 ⟨him,sm,hD4⟩
  obtain ⟨r1,r2⟩:=hb H4 sm
  by_cases hi : i < xs.length
  · refine .inr ⟨⟨xs,ys,xs[i],ys[i]'(by omega),r1,r2,List.getElem?_eq_getElem hi,List.getElem?_eq_getElem (by omega)⟩,?_⟩
    rintro x H' ⟨p,x',y',rfl,hp,rfl,hxy⟩
    obtain ⟨e1,e2⟩:=hxy xs ys r1 r2
    refine ⟨p,_,rfl,SqT.of upd_same,rfl,_,_,rfl,_,_,rfl,rfl,?_,?_⟩
    · intro k v e
      match k,e with
      | 0,e=>cases e
      | 1,e=>cases e
      | k + 2,e=>cases e
    · refine ⟨_,rfl,_,rfl,x',y',rfl,(hx i x' y' e1 e2).same (sm.trans (same_new hp _)),fun H5 s5=>?_⟩
      have hD5:=s5 _ _ (show L2.upd H4 p (.tup [x',y']) D=some (.lst (List.replicate i (.bl true))) by rw [upd_ne (ne_of_none hD4 hp)]; exact hD4)
      refine ⟨_,hD5,small1000 (by rw [List.length_replicate]; omega),m' - 1,by omega,by omega,fun c o e=>?_,?_⟩
      · rw [upd_ne (ne_of_none e hD)]
        exact s5 _ _ (same_new hp _ _ _ (sm _ _ e))
      · rw [upd_same,List.replicate_succ']
  · refine .inl ⟨⟨xs,ys,r1,r2,.inl (by omega)⟩,D,List.replicate i true,rfl,SqL.of (by rw [List.map_replicate]; exact hD4),?_⟩
    have e : (List.replicate i true).all id=true:=List.all_eq_true.mpr fun b hb=>by rw [List.eq_of_mem_replicate hb]; rfl
    rw [e]
    exact q H4 sm
theorem ok_same1 {n : Nat} (F : Fun K "_law_same" "_law_same" s_same f fd) (B : Bn mg) (G : FnOk P w K mg base CX0 n f fd n_same (spSame n)) (b1 : Binds K fd n_same []) (k1 : PySem.W.keepIn K (.ref f)=true) (m1 : mg "_law_same" = some (.ref f)) :
    FnOk P w K mg base CX0 (n + 1) f fd n_same (spSame (n + 1)):=by
  refine F.ok sc_same (fun vs H Q E h=>?_) (fun cdv A outer s H vs Q E hr h=>?_)
  · obtain ⟨v,u,rfl,_⟩:=h; rfl
  obtain ⟨v,u,rfl,heq,q⟩:=h
  refine ⟨_,pss_cons (ps_if (pt_cmpR op_isN (pv 1) pe_non (nomark _)) (pss_one (ps_ret (pe_cmpR op_isN (pv 0) pe_non (nomark _)))) pss_nil)
    (pss_cons (ps_if (PW.pt (pw_or (pt_truth (pe_callB call_isi rfl B.isi PyProof.Rows.boot_isinstance (pa_c (pv 1) (pa_c (pe_bltn rfl B.bool PyProof.Rows.boot_bool (v:=.ty "bool") rfl) pa_nil))) (fun _=>rfl)) (pw_or1 (pt_truth (pe_callB call_isi rfl B.isi PyProof.Rows.boot_isinstance (pa_c (pv 0) (pa_c (pe_bltn rfl B.bool PyProof.Rows.boot_bool (v:=.ty "bool") rfl) pa_nil))) (fun _=>rfl)))))
      (pss_one (ps_ret (pe_and (pe_callB call_isi rfl B.isi PyProof.Rows.boot_isinstance (pa_c (pv 1) (pa_c (pe_bltn rfl B.bool PyProof.Rows.boot_bool (v:=.ty "bool") rfl) pa_nil))) (pe_and (pe_callB call_isi rfl B.isi PyProof.Rows.boot_isinstance (pa_c (pv 0) (pa_c (pe_bltn rfl B.bool PyProof.Rows.boot_bool (v:=.ty "bool") rfl) pa_nil))) (pe_one (pe_cmpR op_eq (pv 0) (pv 1) (nomark _))))))) pss_nil)
    (pss_cons (ps_if (pt_truth (pe_callB call_isT rfl B.isi PyProof.Rows.boot_isinstance (pa_c (pv 1) (pa_c (pe_tup (pa_c (pe_bltn rfl B.int PyProof.Rows.boot_int (v:=.ty "int") rfl) (pa_c (pe_bltn rfl B.str PyProof.Rows.boot_str (v:=.ty "str") rfl) pa_nil))) pa_nil))) (fun _=>rfl))
      (pss_one (ps_ret (pe_and (pe_cmpR op_eq (pe_callB call_isi rfl B.isi PyProof.Rows.boot_isinstance (pa_c (pv 0) (pa_c (pe_bltn rfl B.int PyProof.Rows.boot_int (v:=.ty "int") rfl) pa_nil))) (pe_callB call_isi rfl B.isi PyProof.Rows.boot_isinstance (pa_c (pv 1) (pa_c (pe_bltn rfl B.int PyProof.Rows.boot_int (v:=.ty "int") rfl) pa_nil))) (nomark _))
        (pe_and (pe_callB call_isT rfl B.isi PyProof.Rows.boot_isinstance (pa_c (pv 0) (pa_c (pe_tup (pa_c (pe_bltn rfl B.int PyProof.Rows.boot_int (v:=.ty "int") rfl) (pa_c (pe_bltn rfl B.str PyProof.Rows.boot_str (v:=.ty "str") rfl) pa_nil))) pa_nil))) (pe_one (pe_cmpR op_eq (pv 0) (pv 1) (nomark _))))))) pss_nil)
    (pss_cons (ps_if (PW.pt (pw_or (pt_cmpR op_ne (pe_callB call_isi rfl B.isi PyProof.Rows.boot_isinstance (pa_c (pv 0) (pa_c (pe_bltn rfl B.list PyProof.Rows.boot_list (v:=.ty "list") rfl) pa_nil))) (pe_callB call_isi rfl B.isi PyProof.Rows.boot_isinstance (pa_c (pv 1) (pa_c (pe_bltn rfl B.list PyProof.Rows.boot_list (v:=.ty "list") rfl) pa_nil))) (nomark _))
        (pw_or1 (pt_cmpR op_ne (pe_callB call_isi rfl B.isi PyProof.Rows.boot_isinstance (pa_c (pv 0) (pa_c (pe_bltn rfl B.tuple PyProof.Rows.boot_tuple (v:=.ty "tuple") rfl) pa_nil))) (pe_callB call_isi rfl B.isi PyProof.Rows.boot_isinstance (pa_c (pv 1) (pa_c (pe_bltn rfl B.tuple PyProof.Rows.boot_tuple (v:=.ty "tuple") rfl) pa_nil))) (nomark _)))))
      (pss_one (ps_ret pe_bl)) pss_nil)
    (pss_cons (ps_if (pt_cmpR op_ne (pe_callB call_len_seq rfl B.len PySem.boot_len (pa_c (pv 0) pa_nil)) (pe_callB call_len_seq rfl B.len PySem.boot_len (pa_c (pv 1) pa_nil)) (nomark _)) (pss_one (ps_ret pe_bl)) pss_nil)
    (pss_one (ps_ret (pe_callB (call_allB rfl) rfl B.all PyProof.Rows.boot_all (pa_c (pe_comp (N':=["_law_one","_law_other"]) (ix:=[none,none]) (g:=g2 K) (ti:=tIf0) (te:=tCall (spSame n) [] E0 (tCons (tVar 0) (tCons (tVar 1) tNil))) rfl (comp_scope (N:=n_same) (D:=defScope s_same) (by decide +kernel)) (pi_zip rfl B.zip (pa_c (pv 0) (pa_c (pv 1) pa_nil)))
      (fun C s H fp=>pg_tup rfl (pgs_cons (pg_name (i:=0) nd2 rfl (Or.inl rfl)) (pgs_cons (pg_name (i:=1) nd2 rfl (Or.inl rfl)) pgs_nil))) (fun _ _ _ _=>pifs_nil) (fun C s H fp=>pe_call G hr rfl m1 k1 b1 .nil pass0 (pa_c (pv 0) (pa_c (pv 1) pa_nil)))) pa_nil)))))))),?_⟩
  have sN : ∀ {p : Addr} {o : HO},H p=none→Same H (L2.upd H p o):=fun hp=>same_new hp _
  cases heq with
  | flat hf=>
    cases v with
    | non=>
      refine ⟨_,rfl,rfl,_,rfl,?_⟩
      refine iteT ?_
      exact ⟨_,rfl,rfl,q H (Same.refl H)⟩
    | bl b=>
      refine ⟨_,rfl,rfl,_,rfl,?_⟩
      refine iteF ?_
      refine ⟨_,rfl,_,_,_,_,true,rfl,rfl,TyOf.bl b,by kernel_rfl,_,rfl,?_⟩
      refine iteT (iteT ?_)
      refine ⟨_,rfl,_,_,_,_,true,rfl,rfl,TyOf.bl b,by kernel_rfl,_,rfl,?_⟩
      refine iteT ⟨_,rfl,_,_,_,_,true,rfl,rfl,TyOf.bl b,by kernel_rfl,_,rfl,?_⟩
      refine iteT ⟨_,rfl,_,rfl,rfl,?_⟩
      rw [decide_eq_true (rfl : V.bl b=V.bl b)]
      exact q H (Same.refl H)
    | int i=>
      refine ⟨_,rfl,rfl,_,rfl,?_⟩
      refine iteF ?_
      refine ⟨_,rfl,_,_,_,_,false,rfl,rfl,TyOf.int i,by kernel_rfl,_,rfl,?_⟩
      refine iteF ⟨_,rfl,_,_,_,_,false,rfl,rfl,TyOf.int i,by kernel_rfl,_,rfl,?_⟩
      refine iteF ?_
      refine ⟨_,rfl,by show 2≤sizeLine; decide,fun p hp=>⟨_,p,_,_,[.type "int",.type "str"],true,rfl,upd_same,rfl,TyOf.int i,by kernel_rfl,_,rfl,?_⟩⟩
      refine iteT ?_
      refine ⟨_,rfl,_,_,_,_,true,rfl,rfl,TyOf.int i,by kernel_rfl,_,rfl,_,_,_,_,true,rfl,rfl,TyOf.int i,by kernel_rfl,rfl,_,rfl,?_⟩
      refine iteT ⟨_,rfl,by show 2≤sizeLine; decide,fun p2 hp2=>⟨_,p2,_,_,[.type "int",.type "str"],true,rfl,upd_same,rfl,TyOf.int i,by kernel_rfl,_,rfl,?_⟩⟩
      refine iteT ⟨_,rfl,_,rfl,rfl,?_⟩
      rw [decide_eq_true (rfl : V.int i=V.int i)]
      exact q _ ((sN hp).trans (same_new hp2 _))
    | str x=>
      refine ⟨_,rfl,rfl,_,rfl,?_⟩
      refine iteF ?_
      refine ⟨_,rfl,_,_,_,_,false,rfl,rfl,TyOf.str x,by kernel_rfl,_,rfl,?_⟩
      refine iteF ⟨_,rfl,_,_,_,_,false,rfl,rfl,TyOf.str x,by kernel_rfl,_,rfl,?_⟩
      refine iteF ?_
      refine ⟨_,rfl,by show 2≤sizeLine; decide,fun p hp=>⟨_,p,_,_,[.type "int",.type "str"],true,rfl,upd_same,rfl,TyOf.str x,by kernel_rfl,_,rfl,?_⟩⟩
      refine iteT ?_
      refine ⟨_,rfl,_,_,_,_,false,rfl,rfl,TyOf.str x,by kernel_rfl,_,rfl,_,_,_,_,false,rfl,rfl,TyOf.str x,by kernel_rfl,rfl,_,rfl,?_⟩
      refine iteT ⟨_,rfl,by show 2≤sizeLine; decide,fun p2 hp2=>⟨_,p2,_,_,[.type "int",.type "str"],true,rfl,upd_same,rfl,TyOf.str x,by kernel_rfl,_,rfl,?_⟩⟩
      refine iteT ⟨_,rfl,_,rfl,rfl,?_⟩
      rw [decide_eq_true (rfl : V.str x=V.str x)]
      exact q _ ((sN hp).trans (same_new hp2 _))
    | _=>exact absurd (show false=true from hf) Bool.false_ne_true
  | @tup m a b xs ys h1 h2 hl hs hx=>
    refine ⟨_,rfl,rfl,_,rfl,?_⟩
    refine iteF ?_
    refine ⟨_,rfl,_,_,_,_,false,rfl,rfl,TyOf.tup h2,by kernel_rfl,_,rfl,?_⟩
    refine iteF ⟨_,rfl,_,_,_,_,false,rfl,rfl,TyOf.tup h1,by kernel_rfl,_,rfl,?_⟩
    refine iteF ?_
    refine ⟨_,rfl,by show 2≤sizeLine; decide,fun p hp=>?_⟩
    have g1:=sN (o:=.tup [.ty "int",.ty "str"]) hp _ _ h1
    have g2:=sN (o:=.tup [.ty "int",.ty "str"]) hp _ _ h2
    refine ⟨_,p,_,_,[.type "int",.type "str"],false,rfl,upd_same,rfl,TyOf.tup g2,by kernel_rfl,_,rfl,?_⟩
    refine iteF ?_
    refine ⟨_,rfl,_,_,_,_,false,rfl,rfl,TyOf.tup g1,by kernel_rfl,_,rfl,_,_,_,_,false,rfl,rfl,TyOf.tup g2,by kernel_rfl,rfl,_,rfl,?_⟩
    refine iteF ⟨_,rfl,_,_,_,_,true,rfl,rfl,TyOf.tup g1,by kernel_rfl,_,rfl,_,_,_,_,true,rfl,rfl,TyOf.tup g2,by kernel_rfl,rfl,_,rfl,?_⟩
    refine iteF ?_
    refine ⟨_,rfl,a,_,rfl,.inr (SqT.of g1),_,rfl,b,_,rfl,.inr (SqT.of g2),rfl,_,rfl,?_⟩
    refine iteNS (by rw [hl]) ?_
    exact same_comp (bb:=false) hl hs (fun i x y e1 e2=>(hx i x y e1 e2).same (sN hp)) (fun H' sm=>⟨SqT.of (sm _ _ g1),SqT.of (sm _ _ g2)⟩) fun H' sm=>q H' ((sN hp).trans sm)
  | @lst m a b xs ys h1 h2 hl hs hx=>
    refine ⟨_,rfl,rfl,_,rfl,?_⟩
    refine iteF ?_
    refine ⟨_,rfl,_,_,_,_,false,rfl,rfl,TyOf.lst h2,by kernel_rfl,_,rfl,?_⟩
    refine iteF ⟨_,rfl,_,_,_,_,false,rfl,rfl,TyOf.lst h1,by kernel_rfl,_,rfl,?_⟩
    refine iteF ?_
    refine ⟨_,rfl,by show 2≤sizeLine; decide,fun p hp=>?_⟩
    have g1:=sN (o:=.tup [.ty "int",.ty "str"]) hp _ _ h1
    have g2:=sN (o:=.tup [.ty "int",.ty "str"]) hp _ _ h2
    refine ⟨_,p,_,_,[.type "int",.type "str"],false,rfl,upd_same,rfl,TyOf.lst g2,by kernel_rfl,_,rfl,?_⟩
    refine iteF ?_
    refine ⟨_,rfl,_,_,_,_,true,rfl,rfl,TyOf.lst g1,by kernel_rfl,_,rfl,_,_,_,_,true,rfl,rfl,TyOf.lst g2,by kernel_rfl,rfl,_,rfl,?_⟩
    refine iteF ⟨_,rfl,_,_,_,_,false,rfl,rfl,TyOf.lst g1,by kernel_rfl,_,rfl,_,_,_,_,false,rfl,rfl,TyOf.lst g2,by kernel_rfl,rfl,_,rfl,?_⟩
    refine iteF ?_
    refine ⟨_,rfl,a,_,rfl,.inl (SqL.of g1),_,rfl,b,_,rfl,.inl (SqL.of g2),rfl,_,rfl,?_⟩
    refine iteNS (by rw [hl]) ?_
    exact same_comp (bb:=true) hl hs (fun i x y e1 e2=>(hx i x y e1 e2).same (sN hp)) (fun H' sm=>⟨SqL.of (sm _ _ g1),SqL.of (sm _ _ g2)⟩) fun H' sm=>q H' ((sN hp).trans sm)
theorem ok_same (F : Fun K "_law_same" "_law_same" s_same f fd) (B : Bn mg) (b1 : Binds K fd n_same []) (k1 : PySem.W.keepIn K (.ref f)=true) (m1 : mg "_law_same" = some (.ref f)) : ∀ n : Nat,FnOk P w K mg base CX0 n f fd n_same (spSame n)
  | 0=>⟨fun _ _ _ _ h=>False.elim h,fun _ _ _ _ _ _ _ _ _ _ _ _ _ h=>False.elim h⟩
  | n + 1=>ok_same1 F B (ok_same F B b1 k1 m1 n) b1 k1 m1
end
end K14
namespace K14
open PySem L2
abbrev s_eldestL : Stmt:=top 40
abbrev n_eldestL : List Str:=["_law_rows"]
abbrev p_eldestL : List Str:=["_law_rows"]
theorem sc_eldestL : FnScope n_eldestL p_eldestL (defScope s_eldestL):=⟨rfl,rfl,rfl,by decide +kernel,rfl,by decide +kernel,by decide +kernel⟩
abbrev lq_eldestL : Str:=("_law_eldest" : Str) ++ ".<locals>." ++ "<lambda>"
abbrev lp_eldestL : PySem.Pos:=lamPos s_eldestL
abbrev s_dearestL : Stmt:=top 39
abbrev n_dearestL : List Str:=["_law_lots"]
abbrev p_dearestL : List Str:=["_law_lots"]
theorem sc_dearestL : FnScope n_dearestL p_dearestL (defScope s_dearestL):=⟨rfl,rfl,rfl,by decide +kernel,rfl,by decide +kernel,by decide +kernel⟩
abbrev lq_dearestL : Str:=("_law_dearest" : Str) ++ ".<locals>." ++ "<lambda>"
abbrev lp_dearestL : PySem.Pos:=lamPos s_dearestL
abbrev s_deal : Stmt:=top 41
abbrev n_deal : List Str:=["_law_lots","_law_outs","_law_term","_law_taken","_law_left","_law_found","_law_order","_law_out","_law_day","_law_count","_law_lot","_law_some"]
abbrev p_deal : List Str:=["_law_lots","_law_outs","_law_term","_law_taken"]
theorem sc_deal : FnScope n_deal p_deal (defScope s_deal):=⟨rfl,rfl,rfl,by decide +kernel,rfl,by decide +kernel,by decide +kernel⟩
abbrev s_most : Stmt:=top 42
abbrev n_most : List Str:=["_law_lots","_law_outs","_law_term","_law_taken","_law_at","_law_low","_law_high","_law_middle","_law_tried"]
abbrev p_most : List Str:=["_law_lots","_law_outs","_law_term","_law_taken","_law_at"]
theorem sc_most : FnScope n_most p_most (defScope s_most):=⟨rfl,rfl,rfl,by decide +kernel,rfl,by decide +kernel,by decide +kernel⟩
abbrev s_bestL : Stmt:=top 43
abbrev n_bestL : List Str:=["_law_lots","_law_outs","_law_term","_law_taken","_law_at"]
abbrev p_bestL : List Str:=["_law_lots","_law_outs","_law_term"]
theorem sc_bestL : FnScope n_bestL p_bestL (defScope s_bestL):=⟨rfl,rfl,rfl,by decide +kernel,rfl,by decide +kernel,by decide +kernel⟩
section
variable {P : Program} {w : World} {K : PySem.W.Frag} {mg : Str→Option Value} {base : Heap} {f c PT : Addr} {fd : FuncData} {tb : Tbs} (B : Bn mg)
include B
theorem ok_eldestL (BM : BMain mg base) (hc : fd.code = .ref c) (hC : PySem.W.codeHdIn K c PT=true) (ht : (PT,lq_eldestL,lp_eldestL)∈tb) (F : Fun K "_law_eldest" "_law_eldest" s_eldestL f fd) : FnOk P w K mg base CX0 1 f fd p_eldestL (spOrdT tb keyE okE):=by
  refine F.okC hc sc_eldestL (fun vs H Q E h=>?_) (fun A outer s H vs Q E hr h=>?_)
  · obtain ⟨a,rs,rfl,_⟩:=h; rfl
  obtain ⟨a,rs,rfl,hT,hR,h60,hok,q⟩:=h
  refine ⟨_,(pss_one (ps_ret (pe_sortK (N':=["_law_at","_law_rows"]) (ix:=[none,some 0]) (p := "_law_at") (tb:=(tTup (tCons (tOp (rIxT K) (tOp (rIxL K) (tVar 1) (tVar 0)) (tC (.int 0))) (tCons (tVar 0) tNil)))) hr (pa_c (pe_callTy (call_list_rng rfl) rfl B.list PyProof.Rows.boot_list (pa_c (pe_callTy call_rng1 rfl B.range PyProof.Rows.boot_range (pa_c (pe_callB call_len_seq rfl B.len PySem.boot_len (pa_c (pv 0) pa_nil)) pa_nil)) pa_nil)) pa_nil) rfl B.sorted PyProof.Rows.boot_sorted rfl rfl hC BM rfl rfl (lam_scope (N:=n_eldestL) (D:=defScope s_eldestL) (by decide +kernel)) (fun _ _ _ _ _=>rfl) (fun A f c s H=>(pe_tup (pa_c (pe_ix ix_tup (pe_ix ix_list (pv 1) (pv 0) (fun _ _=>rfl)) pe_int (fun _ _=>rfl)) (pa_c (pv 0) pa_nil))))))),?_⟩
  obtain ⟨xs,ex,hx⟩:=hR.tups
  have lx:=hx.1
  refine ⟨_,rfl,a,xs,rfl,.inl (SqL.of ex),(xs.length : Int),rfl,fun g hg=>?_⟩
  refine ⟨g,xs.length,rfl,upd_same,by omega,fun l hl=>?_⟩
  have sg:=same_new (H:=H) hg (.rng 0 (xs.length : Int))
  have sl:=same_new hl (.lst ((uptoN xs.length).map V.int))
  have s1:=sg.trans sl
  refine ⟨l,uptoN xs.length,keyE rs,2,rfl,upd_same,by rw [uptoN_length]; omega,s1 _ _ (hT _ ht),by decide,fun n hn=>rfl,fun n hn H2 h2=>?_,fun D ms H' hD hp ho s2 e2=>?_⟩
  · obtain ⟨n0,n1⟩:=uptoN_mem.mp hn
    obtain ⟨k,rfl⟩ : ∃ k : Nat,n=(k : Int):=⟨n.toNat,by omega⟩
    have hk : k < xs.length:=by omega
    obtain ⟨p,r,ep,er,hp⟩:=hx.at (List.getElem?_eq_getElem hk)
    have eix : atI xs (k : Int)=some (.ref p):=atI_nat (by rw [List.getElem?_eq_getElem hk,ep])
    obtain ⟨d,r',rfl⟩ : ∃ d r',r=d :: r':=by
      match r,hok r (List.mem_of_getElem? er) with
      | d :: r',_=>exact ⟨d,r',rfl⟩
    have ex2 : H2 a=some (.lst xs):=h2 _ _ (s1 _ _ ex) (by intro z; cases z) (by intro z; cases z)
    have hp2 : H2 p=some (.tup ((d :: r').map V.int)):=h2 _ _ (s1 _ _ hp) (by intro z; cases z) (by intro z; cases z)
    refine ⟨_,rfl,_,rfl,a,xs,_,.ref p,rfl,rfl,SqL.of ex2,eix,p,_,_,.int d,rfl,rfl,SqT.of hp2,atI_some (by decide) rfl,_,rfl,by show 2≤sizeLine; decide,fun t ht=>⟨t,rfl,same_new ht _,?_⟩⟩
    have e2 : keyE rs ((k : Nat) : Int)=[d,(k : Int)]:=by
      unfold keyE colAt
      rw [row_at er]; rfl
    rw [e2]
    exact upd_same
  · rw [lx] at hp
    exact q D ms H' (s1.free hD) (s1.trans s2) ⟨hp,ho⟩ e2
theorem ok_dearestL (BM : BMain mg base) (hc : fd.code = .ref c) (hC : PySem.W.codeHdIn K c PT=true) (ht : (PT,lq_dearestL,lp_dearestL)∈tb) (F : Fun K "_law_dearest" "_law_dearest" s_dearestL f fd) : FnOk P w K mg base CX0 1 f fd p_dearestL (spOrdT tb keyD okD):=by
  refine F.okC hc sc_dearestL (fun vs H Q E h=>?_) (fun A outer s H vs Q E hr h=>?_)
  · obtain ⟨a,rs,rfl,_⟩:=h; rfl
  obtain ⟨a,rs,rfl,hT,hR,h60,hok,q⟩:=h
  refine ⟨_,(pss_one (ps_ret (pe_sortK (N':=["_law_at","_law_lots"]) (ix:=[none,some 0]) (p := "_law_at") (tb:=(tTup (tCons (tUn (rU fun i=>.int (-i)) (tOp (rIxT K) (tOp (rIxL K) (tVar 1) (tVar 0)) (tC (.int 2)))) (tCons (tOp (rIxT K) (tOp (rIxL K) (tVar 1) (tVar 0)) (tC (.int 0))) (tCons (tVar 0) tNil))))) hr (pa_c (pe_callTy (call_list_rng rfl) rfl B.list PyProof.Rows.boot_list (pa_c (pe_callTy call_rng1 rfl B.range PyProof.Rows.boot_range (pa_c (pe_callB call_len_seq rfl B.len PySem.boot_len (pa_c (pv 0) pa_nil)) pa_nil)) pa_nil)) pa_nil) rfl B.sorted PyProof.Rows.boot_sorted rfl rfl hC BM rfl rfl (lam_scope (N:=n_dearestL) (D:=defScope s_dearestL) (by decide +kernel)) (fun _ _ _ _ _=>rfl) (fun A f c s H=>(pe_tup (pa_c (pe_un un_neg (pe_ix ix_tup (pe_ix ix_list (pv 1) (pv 0) (fun _ _=>rfl)) pe_int (fun _ _=>rfl))) (pa_c (pe_ix ix_tup (pe_ix ix_list (pv 1) (pv 0) (fun _ _=>rfl)) pe_int (fun _ _=>rfl)) (pa_c (pv 0) pa_nil)))))))),?_⟩
  obtain ⟨xs,ex,hx⟩:=hR.tups
  have lx:=hx.1
  refine ⟨_,rfl,a,xs,rfl,.inl (SqL.of ex),(xs.length : Int),rfl,fun g hg=>?_⟩
  refine ⟨g,xs.length,rfl,upd_same,by omega,fun l hl=>?_⟩
  have sg:=same_new (H:=H) hg (.rng 0 (xs.length : Int))
  have sl:=same_new hl (.lst ((uptoN xs.length).map V.int))
  have s1:=sg.trans sl
  refine ⟨l,uptoN xs.length,keyD rs,3,rfl,upd_same,by rw [uptoN_length]; omega,s1 _ _ (hT _ ht),by decide,fun n hn=>rfl,fun n hn H2 h2=>?_,fun D ms H' hD hp ho s2 e2=>?_⟩
  · obtain ⟨n0,n1⟩:=uptoN_mem.mp hn
    obtain ⟨k,rfl⟩ : ∃ k : Nat,n=(k : Int):=⟨n.toNat,by omega⟩
    have hk : k < xs.length:=by omega
    obtain ⟨p,r,ep,er,hp⟩:=hx.at (List.getElem?_eq_getElem hk)
    have eix : atI xs (k : Int)=some (.ref p):=atI_nat (by rw [List.getElem?_eq_getElem hk,ep])
    obtain ⟨d,cc,u,rfl⟩:=len3 (hok r (List.mem_of_getElem? er))
    have ex2 : H2 a=some (.lst xs):=h2 _ _ (s1 _ _ ex) (by intro z; cases z) (by intro z; cases z)
    have hp2 : H2 p=some (.tup ([d,cc,u].map V.int)):=h2 _ _ (s1 _ _ hp) (by intro z; cases z) (by intro z; cases z)
    refine ⟨_,rfl,_,rfl,a,xs,_,.ref p,rfl,rfl,SqL.of ex2,eix,p,_,_,.int u,rfl,rfl,SqT.of hp2,rfl,u,rfl,_,rfl,_,rfl,a,xs,_,.ref p,rfl,rfl,SqL.of ex2,eix,p,_,_,.int d,rfl,rfl,SqT.of hp2,rfl,_,rfl,by show 3≤sizeLine; decide,fun t ht=>⟨t,rfl,same_new ht _,?_⟩⟩
    have e2 : keyD rs ((k : Nat) : Int)=[-u,d,(k : Int)]:=by
      unfold keyD colAt
      rw [row_at er]; rfl
    rw [e2]
    exact upd_same
  · rw [lx] at hp
    exact q D ms H' (s1.free hD) (s1.trans s2) ⟨hp,ho⟩ e2
theorem ok_deal (G_eldestL : Cal P w K mg base CX0 1 "_law_eldest" p_eldestL (spOrdT tb keyE okE)) (F : Fun K "_law_deal" "_law_deal" s_deal f fd) : FnOk P w K mg base CX0 2 f fd p_deal (spDealT tb):=by
  refine F.ok sc_deal (fun vs H Q E h=>?_) (fun cdv A outer s H vs Q E hr h=>?_)
  · obtain ⟨a,b,t,tm,rs,os,ts,rfl,_⟩:=h; rfl
  obtain ⟨a,b,t,tm,rs,os,ts,rfl,hTb,hR,h3,rn,hO,h2,on,hT,hl,q⟩:=h
  refine ⟨_,(pss_cons (ps_set (i:=4) sc_deal.nd rfl (Or.inl rfl) (pe_callTy call_list_of rfl B.list PyProof.Rows.boot_list (pa_c (pv 3) pa_nil)))
    (pss_cons (ps_set (i:=5) sc_deal.nd rfl (Or.inl rfl) (pe_lst pa_nil))
    (pss_cons (ps_set (i:=6) sc_deal.nd rfl (Or.inl rfl) (pe_cal G_eldestL hr rfl pass0 (pa_c (pv 0) pa_nil)))
    (pss_cons (ps_for PassesOwn.never rfl (pi_list (pe_cal G_eldestL hr rfl pass0 (pa_c (pv 1) pa_nil))) (pg_name (i:=7) sc_deal.nd rfl (Or.inl rfl)) (pss_cons (ps_asg (pe_ix ix_list (pv 1) (pv 7) (fun _ _=>rfl)) (pg_tup rfl (pgs_cons (pg_name (i:=8) sc_deal.nd rfl (Or.inl rfl)) (pgs_cons (pg_name (i:=9) sc_deal.nd rfl (Or.inl rfl)) pgs_nil))))
      (pss_one (ps_for PassesOwn.never rfl (pi_list (pv 6)) (pg_name (i:=10) sc_deal.nd rfl (Or.inl rfl)) (pss_cons (ps_set (i:=11) sc_deal.nd rfl (Or.inl rfl) (pe_callB (call_min2 rfl) rfl B.min PyProof.Rows.boot_min (pa_c (pv 9) (pa_c (pe_ix ix_list (pv 4) (pv 10) (fun _ _=>rfl)) pa_nil))))
        (pss_one (ps_if (PW.pt (pw_and (pt_cmpR op_gt (pv 11) pe_int (nomark _)) (pw_and (pt_cmpR op_le (pe_op op_sub (pv 8) (pv 2)) (pe_ix ix_tup (pe_ix ix_list (pv 0) (pv 10) (fun _ _=>rfl)) pe_int (fun _ _=>rfl)) (nomark _)) (pw_and1 (pt_cmpR op_le (pe_ix ix_tup (pe_ix ix_list (pv 0) (pv 10) (fun _ _=>rfl)) pe_int (fun _ _=>rfl)) (pv 8) (nomark _)))))) (pss_cons (ps_expr (pe_bm PySem.F.plainAttrs_list PySem.F.slot_list_append PySem.F.type_list_append mt_append (pv 5) (pa_c (pe_tup (pa_c (pv 10) (pa_c (pv 7) (pa_c (pv 11) pa_nil)))) pa_nil)))
          (pss_cons (ps_asg (pe_op op_sub (pe_ix ix_list (pv 4) (pv 10) (fun _ _=>rfl)) (pv 11)) (pg_sub (pv 4) (pv 10) set_list))
          (pss_one (ps_set (i:=9) sc_deal.nd rfl (Or.inl rfl) (pe_op op_sub (pv 9) (pv 11)))))) pss_nil)))))))
    (pss_one (ps_ret (pe_tup (pa_c (pv 5) (pa_c (pe_callB (call_sumI rfl) rfl B.sum PyProof.Rows.boot_sum (pa_c (pv 4) pa_nil)) pa_nil))))))))),?_⟩
  refine ⟨_,rfl,t,_,rfl,.inl (SqL.of hT),fun lf hlf=>?_⟩
  have s1:=same_new (H:=H) hlf (.lst (ts.map V.int))
  have I1 : IntsAt (L2.upd H lf (.lst (ts.map V.int))) lf ts:=upd_same
  generalize L2.upd H lf (.lst (ts.map V.int))=H1 at *
  refine ⟨by show 0≤sizeLine; decide,fun tl htl=>?_⟩
  have s2:=same_new (H:=H1) htl (.lst [])
  have I2 : IntsAt (L2.upd H1 tl (.lst [])) lf ts:=s2 _ _ I1
  have R2 : Rows (L2.upd H1 tl (.lst [])) tl []:=Rows.nil upd_same
  have htl0 : H tl=none:=s1.free htl
  have nlt : lf≠tl:=ne_of_none I1 htl
  generalize L2.upd H1 tl (.lst [])=H2 at *
  have s12:=s1.trans s2
  refine ⟨_,rfl,a,rs,rfl,hTb.same s12,hR.same s12,by omega,fun r hr=>by unfold okE; rw [h3 r hr]; decide,fun ag ages H3 hag s3 hages e3=>?_⟩
  have s13:=s12.trans s3
  have I3 : IntsAt H3 lf ts:=s3 _ _ I2
  have R3:=R2.same s3
  have nla : lf≠ag:=ne_of_none I2 hag
  have nta : tl≠ag:=by obtain ⟨z,ez,_⟩:=R2.get; exact ne_of_none ez hag
  have lag : ages.length=rs.length:=by rw [hages.1.length_eq,uptoN_length]
  refine ⟨_,rfl,b,os,rfl,hTb.same s13,hO.same s13,by omega,fun r hr=>by unfold okE; rw [h2 r hr]; decide,fun ol outs H4 hol s4 houts e4=>?_⟩
  have lou : outs.length=os.length:=by rw [houts.1.length_eq,uptoN_length]
  have nlo : lf≠ol:=ne_of_none I3 hol
  have nto : tl≠ol:=by obtain ⟨z,ez,_⟩:=R3.get; exact ne_of_none ez hol
  have s14:=s13.trans s4
  refine ⟨ol,rfl,⟨_,SqL.of e4⟩,?_⟩
  refine for_list (xs:=outs.map V.int) (fun i σ H5=>∃ o7 o8 o9 o10 o11,σ=[some (.ref a),some (.ref b),some (.int tm),some (.ref t),some (.ref lf),some (.ref tl),some (.ref ag),o7,o8,o9,o10,o11]∧Same H H5∧H5 ol=some (.lst (outs.map V.int))∧H5 ag=some (.lst (ages.map V.int))∧IntsAt H5 lf ((outs.take i).foldl (outL rs os tm ages) (ts,[])).1∧Rows H5 tl ((outs.take i).foldl (outL rs os tm ages) (ts,[])).2) ⟨_,_,_,_,_,rfl,s14,e4,s4 _ _ e3,s4 _ _ I3,R3.same s4⟩ ?_ ?_ ?_
  · rintro i σ H5 hi ⟨o7,o8,o9,o10,o11,rfl,sm,e5,_⟩
    exact SqL.of e5
  · rintro i x σ H5 exi ⟨o7,o8,o9,o10,o11,rfl,sm,e5,a5,I5,R5⟩
    obtain ⟨j',rfl,ej⟩:=ints_at exi
    have hj:=uptoN_mem.mp (houts.1.mem_iff.mp (List.mem_of_getElem? ej))
    obtain ⟨j,rfl⟩ : ∃ k : Nat,j' = (k : Int):=⟨j'.toNat,by omega⟩
    obtain ⟨xs,ex,hx⟩:=hR.tups
    obtain ⟨ys,ey,hy⟩:=hO.tups
    have lx:=hx.1
    have ly:=hy.1
    have hjy : j < ys.length:=by omega
    obtain ⟨po,r,ep,er,hpo⟩:=hy.at (List.getElem?_eq_getElem hjy)
    obtain ⟨dd,cc,rfl⟩:=len2 (h2 r (List.mem_of_getElem? er))
    have c0 : colAt os 0 (j : Int)=dd:=by unfold colAt; rw [row_at er]; rfl
    have c1 : colAt os 1 (j : Int)=cc:=by unfold colAt; rw [row_at er]; rfl
    have eix : atI ys (j : Int)=some (.ref po):=atI_nat (by rw [List.getElem?_eq_getElem hjy,ep])
    refine ⟨_,rfl,_,rfl,b,ys,_,.ref po,rfl,rfl,SqL.of (sm _ _ ey),eix,po,_,rfl,SqT.of (sm _ _ hpo),rfl,_,_,rfl,_,_,rfl,rfl,?_⟩
    have fold : (outs.take (i + 1)).foldl (outL rs os tm ages) (ts,[])=(ages.foldl (stepL rs tm dd (j : Int)) (cc,((outs.take i).foldl (outL rs os tm ages) (ts,[])).1,((outs.take i).foldl (outL rs os tm ages) (ts,[])).2)).2:=by
      rw [getElem_next ej,List.foldl_append]
      show outL rs os tm ages _ (j : Int)=_
      unfold outL
      rw [c0,c1]
    rw [fold]
    have len:=dealL_len (rs:=rs) (os:=os) (tm:=tm) (ages:=ages) (outs.take i) (ts,[])
    have len2:=dealL_told (rs:=rs) (os:=os) (tm:=tm) (ages:=ages) (outs.take i) (ts,[])
    have li : (outs.take i).length≤30:=by rw [List.length_take]; have:=(List.getElem?_eq_some_iff.mp ej).1; omega
    generalize ((outs.take i).foldl (outL rs os tm ages) (ts,[])).1=left at *
    generalize ((outs.take i).foldl (outL rs os tm ages) (ts,[])).2=told at *
    have tlen : told.length≤930:=by
      have h9 : (outs.take i).length * ages.length≤30 * 31:=Nat.mul_le_mul li (by omega)
      have h0 : ([] : List (List Int)).length=0:=rfl
      dsimp only at len2
      omega
    have llen : left.length=rs.length:=len.trans hl
    clear fold len len2
    refine ⟨_,rfl,ag,rfl,⟨_,SqL.of a5⟩,?_⟩
    refine for_list (xs:=ages.map V.int) (fun k σ H7=>∃ o10 o11,σ=[some (.ref a),some (.ref b),some (.int tm),some (.ref t),some (.ref lf),some (.ref tl),some (.ref ag),some (.int (j : Int)),some (.int dd),some (.int ((ages.take k).foldl (stepL rs tm dd (j : Int)) (cc,left,told)).1),o10,o11]∧Same H H7∧H7 ol=some (.lst (outs.map V.int))∧H7 ag=some (.lst (ages.map V.int))∧IntsAt H7 lf ((ages.take k).foldl (stepL rs tm dd (j : Int)) (cc,left,told)).2.1∧Rows H7 tl ((ages.take k).foldl (stepL rs tm dd (j : Int)) (cc,left,told)).2.2) ⟨_,_,rfl,sm,e5,a5,I5,R5⟩ ?_ ?_ ?_
    · rintro k σ H7 hk ⟨o10,o11,rfl,s7,_,a7,_⟩
      exact SqL.of a7
    · rintro k x σ H7 exk ⟨o10,o11,rfl,s7,e7,a7,I7,R7⟩
      obtain ⟨v',rfl,ev⟩:=ints_at exk
      have hv:=uptoN_mem.mp (hages.1.mem_iff.mp (List.mem_of_getElem? ev))
      obtain ⟨v,rfl⟩ : ∃ k : Nat,v' = (k : Int):=⟨v'.toNat,by omega⟩
      have fl:=foldL_len (rs:=rs) (tm:=tm) (e:=dd) (j:=(j : Int)) (ages.take k) (cc,left,told)
      have ft:=foldL_told (rs:=rs) (tm:=tm) (e:=dd) (j:=(j : Int)) (ages.take k) (cc,left,told)
      have kl : k < ages.length:=(List.getElem?_eq_some_iff.mp ev).1
      have tk : (ages.take k).length=k:=by rw [List.length_take]; omega
      have next : (ages.take (k + 1)).foldl (stepL rs tm dd (j : Int)) (cc,left,told)=stepL rs tm dd (j : Int) ((ages.take k).foldl (stepL rs tm dd (j : Int)) (cc,left,told)) (v : Int):=by
        rw [getElem_next ev,List.foldl_append]; rfl
      rw [next]
      generalize (ages.take k).foldl (stepL rs tm dd (j : Int)) (cc,left,told)=st at *
      obtain ⟨wt,lft,tld⟩:=st
      dsimp only at fl ft I7 R7 ⊢
      have hvx : v < xs.length:=by omega
      obtain ⟨pl,rl,epl,erl,hpl⟩:=hx.at (List.getElem?_eq_getElem hvx)
      obtain ⟨ld,lc,lu,rfl⟩:=len3 (h3 rl (List.mem_of_getElem? erl))
      have l0 : colAt rs 0 (v : Int)=ld:=by unfold colAt; rw [row_at erl]; rfl
      have eil : atI xs (v : Int)=some (.ref pl):=atI_nat (by rw [List.getElem?_eq_getElem hvx,epl])
      have hvl : v < lft.length:=by omega
      have eiv : atI (lft.map V.int) (v : Int)=some (.int lft[v]):=atI_ints rfl hvl
      have gv : lft.getD (v : Int).toNat 0=lft[v]:=by rw [Int.toNat_natCast,List.getD_eq_getElem?_getD,List.getElem?_eq_getElem hvl]; rfl
      refine ⟨_,rfl,_,rfl,_,rfl,lf,_,_,.int lft[v],rfl,rfl,SqL.of I7,eiv,_,_,rfl,?_⟩
      have em : (if lft[v] < wt then lft[v] else wt)=min wt lft[v]:=by
        split <;> omega
      rw [em]
      have hstep : stepL rs tm dd (j : Int) (wt,lft,tld) (v : Int)=if 0 < min wt lft[v]∧dd - tm≤ld∧ld≤dd then (wt - min wt lft[v],lft.set v (lft[v] - min wt lft[v]),tld ++ [[(v : Int),(j : Int),min wt lft[v]]]) else (wt,lft,tld):=by
        unfold stepL
        dsimp only
        rw [gv,l0,Int.toNat_natCast]
      rw [hstep]
      generalize hm : min wt lft[v]=m
      refine ⟨_,rfl,_,_,rfl,rfl,_,rfl,?_⟩
      by_cases c : 0 < m
      · rw [decide_eq_true c]
        refine iteT ⟨_,rfl,_,rfl,_,_,rfl,rfl,_,rfl,_,rfl,a,xs,_,.ref pl,rfl,rfl,SqL.of (s7 _ _ ex),eil,pl,_,_,.int ld,rfl,rfl,SqT.of (s7 _ _ hpl),rfl,_,_,rfl,rfl,_,rfl,?_⟩
        by_cases d1 : dd - tm≤ld
        · rw [decide_eq_true d1]
          refine iteT ⟨_,rfl,_,rfl,a,xs,_,.ref pl,rfl,rfl,SqL.of (s7 _ _ ex),eil,pl,_,_,.int ld,rfl,rfl,SqT.of (s7 _ _ hpl),rfl,_,rfl,_,_,rfl,rfl,_,rfl,?_⟩
          by_cases d2 : ld≤dd
          · rw [decide_eq_true d2,if_pos ⟨c,d1,d2⟩]
            refine iteT ?_
            obtain ⟨zs,ez,ezl,_⟩:=R7.get
            refine ⟨_,rfl,.inl ⟨rfl,_,SqL.of ez⟩,?_⟩
            refine ⟨_,rfl,_,rfl,_,rfl,by show 3≤sizeLine; decide,fun tp htp=>?_⟩
            refine ⟨tl,zs,.ref tp,rfl,rfl,by rw [upd_ne (ne_of_none ez htp)]; exact ez,small1000 (by omega),?_⟩
            have sT:=same_new (H:=H7) htp (.tup [.int (v : Int),.int (j : Int),.int m])
            have R8 : Rows (L2.upd (L2.upd H7 tp (.tup [.int (v : Int),.int (j : Int),.int m])) tl (.lst (zs ++ [.ref tp]))) tl (tld ++ [[(v : Int),(j : Int),m]]):=R7.push (r:=[(v : Int),(j : Int),m]) ez htp
            have s8 : Same H (L2.upd (L2.upd H7 tp (.tup [.int (v : Int),.int (j : Int),.int m])) tl (.lst (zs ++ [.ref tp]))):=(s7.trans sT).young htl0
            have I8 : IntsAt (L2.upd (L2.upd H7 tp (.tup [.int (v : Int),.int (j : Int),.int m])) tl (.lst (zs ++ [.ref tp]))) lf lft:=by unfold IntsAt; rw [upd_ne nlt]; exact sT _ _ I7
            have e8 : L2.upd (L2.upd H7 tp (.tup [.int (v : Int),.int (j : Int),.int m])) tl (.lst (zs ++ [.ref tp])) ol=some (.lst (outs.map V.int)):=by rw [upd_ne nto.symm]; exact sT _ _ e7
            have a8 : L2.upd (L2.upd H7 tp (.tup [.int (v : Int),.int (j : Int),.int m])) tl (.lst (zs ++ [.ref tp])) ag=some (.lst (ages.map V.int)):=by rw [upd_ne nta.symm]; exact sT _ _ a7
            generalize L2.upd (L2.upd H7 tp (.tup [.int (v : Int),.int (j : Int),.int m])) tl (.lst (zs ++ [.ref tp]))=H8 at *
            refine ⟨_,rfl,_,rfl,lf,_,_,.int lft[v],rfl,rfl,SqL.of I8,eiv,_,rfl,_,_,rfl,rfl,?_⟩
            refine ⟨_,rfl,_,rfl,lf,_,(v : Int),v,rfl,rfl,I8,by unfold ixN; rw [List.length_map,if_pos (by omega),Int.toNat_natCast,if_pos (by omega)],?_⟩
            refine ⟨_,rfl,_,rfl,_,_,rfl,rfl,?_⟩
            obtain ⟨ws,ew,hw⟩:=R8.tups
            refine ⟨_,_,rfl,s8.young hlf,?_,?_,?_,?_⟩
            · rw [upd_ne nlo.symm]; exact e8
            · rw [upd_ne nla.symm]; exact a8
            · unfold IntsAt
              rw [upd_same,List.map_set]
            · refine Tups.rows (xs:=ws) (hw.but I8 fun b o hb e=>by rw [upd_ne hb]; exact e) ?_
              rw [upd_ne nlt.symm]; exact ew
          · rw [decide_eq_false d2,if_neg (fun z=>d2 z.2.2)]
            exact iteF ⟨_,_,rfl,s7,e7,a7,I7,R7⟩
        · rw [decide_eq_false d1,if_neg (fun z=>d1 z.2.1)]
          exact iteF (iteF ⟨_,_,rfl,s7,e7,a7,I7,R7⟩)
      · rw [decide_eq_false c,if_neg (fun z=>c z.1)]
        exact iteF (iteF ⟨_,_,rfl,s7,e7,a7,I7,R7⟩)
    · rintro σ H7 ⟨o10,o11,rfl,s7,e7,a7,I7,R7⟩
      rw [List.length_map,List.take_length] at I7 R7
      exact ⟨_,_,_,_,_,rfl,s7,e7,a7,I7,R7⟩
  · rintro σ H5 ⟨o7,o8,o9,o10,o11,rfl,sm,e5,a5,I5,R5⟩
    rw [List.length_map,List.take_length] at I5 R5
    refine ⟨_,rfl,_,rfl,lf,_,rfl,SqL.of I5,by show 2≤sizeLine; decide,fun qq hqq=>?_⟩
    exact q qq tl ages outs _ (sm.free hqq) htl0 hages houts (sm.trans (same_new hqq _)) (R5.same (same_new hqq _)) upd_same
theorem ok_most (G_deal : Cal P w K mg base CX0 2 "_law_deal" p_deal (spDealT tb)) (F : Fun K "_law_most" "_law_most" s_most f fd) : FnOk P w K mg base CX0 3 f fd p_most (spMostT tb):=by
  refine F.ok sc_most (fun vs H Q E h=>?_) (fun cdv A outer s H vs Q E hr h=>?_)
  · obtain ⟨a,b,t,tm,rs,os,ts,k,rfl,_⟩:=h; rfl
  obtain ⟨a,b,t,tm,rs,os,ts,k,rfl,hTb,hR,hO,ok,hT,hl,hk,hts,hkc,nl,q⟩:=h
  refine ⟨_,(pss_cons (ps_set (i:=5) sc_most.nd rfl (Or.inl rfl) pe_int)
    (pss_cons (ps_set (i:=6) sc_most.nd rfl (Or.inl rfl) (pe_op op_sub (pe_ix ix_tup (pe_ix ix_list (pv 0) (pv 4) (fun _ _=>rfl)) pe_int (fun _ _=>rfl)) (pe_ix ix_list (pv 3) (pv 4) (fun _ _=>rfl))))
    (pss_cons (ps_while PassesOwn.never (pt_cmpR op_lt (pv 5) (pv 6) (nomark _)) (pss_cons (ps_set (i:=7) sc_most.nd rfl (Or.inl rfl) (pe_op op_fdivL (pe_op op_add (pe_op op_add (pv 5) (pv 6)) pe_int) pe_int))
      (pss_cons (ps_set (i:=8) sc_most.nd rfl (Or.inl rfl) (pe_op op_cat (pe_op op_cat (pe_slice sl_list (pv 3) po_none (po_some (pv 4))) (pe_lst (pa_c (pe_op op_add (pe_ix ix_list (pv 3) (pv 4) (fun _ _=>rfl)) (pv 7)) pa_nil))) (pe_slice sl_list (pv 3) (po_some (pe_op op_add (pv 4) pe_int)) po_none)))
      (pss_one (ps_if (pt_cmpR op_eq (pe_ix ix_tup (pe_cal G_deal hr rfl pass0 (pa_c (pv 0) (pa_c (pv 1) (pa_c (pv 2) (pa_c (pv 8) pa_nil))))) pe_int (fun _ _=>rfl)) pe_int (nomark _)) (pss_one (ps_set (i:=5) sc_most.nd rfl (Or.inl rfl) (pv 7))) (pss_one (ps_set (i:=6) sc_most.nd rfl (Or.inl rfl) (pe_op op_sub (pv 7) pe_int))))))))
    (pss_one (ps_ret (pv 5)))))),?_⟩
  obtain ⟨xs,ex,hx⟩:=hR.tups
  have lx:=hx.1
  have hkx : k < xs.length:=by omega
  have hkt : k < ts.length:=by omega
  obtain ⟨pl,rl,epl,erl,hpl⟩:=hx.at (List.getElem?_eq_getElem hkx)
  obtain ⟨ld,lc,lu,rfl⟩:=len3 (ok.h3 rl (List.mem_of_getElem? erl))
  have l1 : colAt rs 1 (k : Int)=lc:=by unfold colAt; rw [row_at erl]; rfl
  have gk : ts.getD k 0=ts[k]:=by rw [List.getD_eq_getElem?_getD,List.getElem?_eq_getElem hkt]; rfl
  have eil : atI xs (k : Int)=some (.ref pl):=atI_nat (by rw [List.getElem?_eq_getElem hkx,epl])
  have eik : atI (ts.map V.int) (k : Int)=some (.int ts[k]):=atI_ints rfl hkt
  rw [l1,gk] at hkc
  refine ⟨_,rfl,_,rfl,a,xs,_,.ref pl,rfl,rfl,SqL.of ex,eil,pl,_,_,.int lc,rfl,rfl,SqT.of hpl,rfl,_,rfl,_,rfl,t,_,_,.int ts[k],rfl,rfl,SqL.of hT,eik,_,_,rfl,rfl,?_⟩
  have z0 : ts.set k (ts.getD k 0 + 0)=ts:=by
    rw [Int.add_zero,gk]; exact List.set_getElem_self hkt
  dsimp only
  refine tSeq_by (fun σ H'=>∃ M o6 o7 o8,σ=[some (.ref a),some (.ref b),some (.int tm),some (.ref t),some (.int (k : Int)),some (.int M),o6,o7,o8]∧Same H H'∧FreeL rs os tm ts (k : Int) M) (fun D' hD' _=>?_) ?_
  · refine while_by (fun σ H'=>∃ lo hi o7 o8,σ=[some (.ref a),some (.ref b),some (.int tm),some (.ref t),some (.int (k : Int)),some (.int lo),some (.int hi),o7,o8]∧Same H H'∧0≤lo∧lo≤hi∧hi≤lc - ts[k]∧NoLack rs os tm (ts.set k (ts.getD k 0 + lo))∧∀ m,hi < m→m≤lc - ts[k]→¬ NoLack rs os tm (ts.set k (ts.getD k 0 + m)))
      (fun σ _=>gapOf σ) ⟨0,lc - ts[k],_,_,rfl,Same.refl H,Int.le_refl _,by omega,Int.le_refl _,by rw [z0]; exact nl,fun m h1 h2=>by omega⟩ ?_ ?_
    · rintro σ H1 ⟨lo,hi,o7,o8,rfl,sm,lo0,lh,hh,okl,noh⟩
      refine ⟨_,rfl,_,rfl,_,_,rfl,rfl,_,rfl,?_⟩
      by_cases c : lo < hi
      · rw [decide_eq_true c]
        refine iteT ?_
        have md : (lo + hi + 1) / 2≤hi∧lo < (lo + hi + 1) / 2:=by omega
        refine ⟨_,rfl,_,rfl,_,_,rfl,rfl,_,_,rfl,rfl,_,_,rfl,rfl,⟨by decide,by decide⟩,?_⟩
        refine ⟨_,rfl,_,rfl,_,rfl,t,_,rfl,SqL.of (sm _ _ hT),fun p1 hp1=>?_⟩
        rw [(cut_to ts (show (0 : Int)≤(k : Int) by omega) (by omega)).1]
        have s1:=same_new (H:=H1) hp1 (.lst ((ts.take (k : Int).toNat).map V.int))
        refine ⟨_,rfl,_,rfl,t,_,_,.int ts[k],rfl,rfl,SqL.of (s1 _ _ (sm _ _ hT)),eik,_,rfl,_,_,rfl,rfl,by show 1≤sizeLine; decide,fun p2 hp2=>?_⟩
        have s2:=same_new hp2 (.lst [V.int (ts[k] + ((lo + hi + 1) / 2))])
        refine ⟨p1,p2,_,_,rfl,rfl,s2 _ _ upd_same,upd_same,?_,fun p3 hp3=>?_⟩
        · rw [List.length_map,List.length_take]
          refine Nat.le_of_lt (small1000 ?_)
          show min _ _ + 1≤1000
          have:=ok.rn
          omega
        have s3:=same_new hp3 (.lst ((ts.take (k : Int).toNat).map V.int ++ [V.int (ts[k] + ((lo + hi + 1) / 2))]))
        refine ⟨_,rfl,_,rfl,_,_,rfl,rfl,_,rfl,t,_,rfl,SqL.of (s3 _ _ (s2 _ _ (s1 _ _ (sm _ _ hT)))),fun p4 hp4=>?_⟩
        rw [(cut_from ts (show (1 : Int)≤(k : Int) + 1 by omega) (by omega)).1]
        have s4:=same_new hp4 (.lst ((ts.drop ((k : Int) + 1).toNat).map V.int))
        have ecat : (ts.take (k : Int).toNat).map V.int ++ [V.int (ts[k] + ((lo + hi + 1) / 2))] ++ (ts.drop ((k : Int) + 1).toNat).map V.int=(ts.set k (ts.getD k 0 + ((lo + hi + 1) / 2))).map V.int:=by
          rw [← set_cat ts (ts.getD k 0 + ((lo + hi + 1) / 2)) hkt,Int.toNat_natCast,show ((k : Int) + 1).toNat=k + 1 by omega,List.map_append,List.map_append,gk]; rfl
        have ltr : (ts.set k (ts.getD k 0 + ((lo + hi + 1) / 2))).length=rs.length:=by rw [List.length_set]; exact hl
        have rn:=ok.rn
        refine ⟨p3,p4,_,_,rfl,rfl,s4 _ _ upd_same,upd_same,?_,fun p5 hp5=>?_⟩
        · rw [← List.length_append,ecat,List.length_map,ltr]
          exact Nat.le_of_lt (small1000 (by omega))
        rw [ecat]
        have s5:=same_new hp5 (.lst ((ts.set k (ts.getD k 0 + ((lo + hi + 1) / 2))).map V.int))
        have sm5:=sm.trans (s1.trans (s2.trans (s3.trans (s4.trans s5))))
        have hnn : ∀ u∈ts.set k (ts.getD k 0 + ((lo + hi + 1) / 2)),0≤u:=fun u hu=>by
          rcases List.mem_or_eq_of_mem_set hu with z | z
          · exact hts u z
          · have:=hts _ (List.getElem_mem hkt)
            rw [z,gk]; omega
        have I5 : IntsAt (L2.upd (L2.upd (L2.upd (L2.upd (L2.upd H1 p1 (.lst ((ts.take (k : Int).toNat).map V.int))) p2 (.lst [V.int (ts[k] + ((lo + hi + 1) / 2))])) p3 (.lst ((ts.take (k : Int).toNat).map V.int ++ [V.int (ts[k] + ((lo + hi + 1) / 2))]))) p4 (.lst ((ts.drop ((k : Int) + 1).toNat).map V.int))) p5 (.lst ((ts.set k (ts.getD k 0 + ((lo + hi + 1) / 2))).map V.int))) p5 (ts.set k (ts.getD k 0 + ((lo + hi + 1) / 2))):=upd_same
        generalize L2.upd (L2.upd (L2.upd (L2.upd (L2.upd H1 p1 (.lst ((ts.take (k : Int).toNat).map V.int))) p2 (.lst [V.int (ts[k] + ((lo + hi + 1) / 2))])) p3 (.lst ((ts.take (k : Int).toNat).map V.int ++ [V.int (ts[k] + ((lo + hi + 1) / 2))]))) p4 (.lst ((ts.drop ((k : Int) + 1).toNat).map V.int))) p5 (.lst ((ts.set k (ts.getD k 0 + ((lo + hi + 1) / 2))).map V.int))=H5 at *
        refine ⟨_,rfl,_,rfl,_,rfl,_,rfl,a,b,p5,tm,rs,os,_,rfl,hTb.same sm5,hR.same sm5,ok.h3,ok.rn,hO.same sm5,ok.h2,ok.on,I5,ltr,fun qq l ages outs H6 hqq hl6 ha hb s6 R6 e6=>?_⟩
        obtain ⟨_,ls⟩:=left_sum ok.t0 ha hb ok.o0 ltr hnn
        refine ⟨qq,_,_,.int _,rfl,rfl,SqT.of e6,rfl,rfl,_,rfl,?_⟩
        generalize (dealL rs os tm ages outs (ts.set k (ts.getD k 0 + ((lo + hi + 1) / 2)))).1.sum=sm0 at ls ⊢
        by_cases c0 : sm0=0
        · rw [decide_eq_true (show V.int sm0=V.int 0 by rw [c0])]
          refine iteT ⟨_,rfl,⟨((lo + hi + 1) / 2),hi,_,_,rfl,sm5.trans s6,by omega,md.1,hh,ls.mp c0,noh⟩,?_⟩
          show (hi - ((lo + hi + 1) / 2)).toNat < (hi - lo).toNat
          omega
        · rw [decide_eq_false (show ¬ V.int sm0=V.int 0 from fun z=>c0 (V.int.inj z))]
          refine iteF ⟨_,rfl,_,_,rfl,rfl,⟨lo,((lo + hi + 1) / 2) - 1,_,_,rfl,sm5.trans s6,lo0,by omega,by omega,okl,fun m h1 h2=>?_⟩,?_⟩
          · intro z
            by_cases hm : hi < m
            · exact noh m hm h2 z
            · refine c0 (ls.mpr ?_)
              obtain ⟨ds,hds⟩:=days_exist rs
              rw [more_iff hds hkt hl nl] at z ⊢
              intro p hp a1 b1
              have:=z p hp a1 b1
              omega
          · show (((lo + hi + 1) / 2) - 1 - lo).toNat < (hi - lo).toNat
            omega
      · rw [decide_eq_false c]
        refine iteF (hD' _ _ ⟨lo,_,_,_,rfl,sm,?_⟩)
        have e : lo=hi:=by omega
        subst e
        refine free_of hkt hl nl (by rw [l1,gk]; exact hh) okl fun z=>?_
        rw [l1,gk] at z
        exact noh (lo + 1) (by omega) (by omega)
    · rintro σ H1 Q1 Q2 hm ⟨v1,e1,v2,e2,i1,i2,r1,r2,b,r3,q1⟩
      exact ⟨v1,e1,v2,e2,i1,i2,r1,r2,b,r3,hm _ _ q1⟩
  · rintro σ H1 ⟨M,o6,o7,o8,rfl,sm,hM⟩
    exact ⟨_,rfl,q M H1 hM sm⟩
theorem ok_bestL (G_dearestL : Cal P w K mg base CX0 1 "_law_dearest" p_dearestL (spOrdT tb keyD okD)) (G_most : Cal P w K mg base CX0 3 "_law_most" p_most (spMostT tb)) (F : Fun K "_law_best" "_law_best" s_bestL f fd) : FnOk P w K mg base CX0 4 f fd p_bestL (spBestT tb):=by
  refine F.ok sc_bestL (fun vs H Q E h=>?_) (fun cdv A outer s H vs Q E hr h=>?_)
  · obtain ⟨a,b,tm,rs,os,rfl,_⟩:=h; rfl
  obtain ⟨a,b,tm,rs,os,rfl,hTb,hR,hO,ok,q⟩:=h
  refine ⟨_,(pss_cons (ps_set (i:=3) sc_bestL.nd rfl (Or.inl rfl) (pe_op op_rep (pe_lst (pa_c pe_int pa_nil)) (pe_callB call_len_seq rfl B.len PySem.boot_len (pa_c (pv 0) pa_nil))))
    (pss_cons (ps_for PassesOwn.never rfl (pi_list (pe_cal G_dearestL hr rfl pass0 (pa_c (pv 0) pa_nil))) (pg_name (i:=4) sc_bestL.nd rfl (Or.inl rfl)) (pss_one (ps_asg (pe_cal G_most hr rfl pass0 (pa_c (pv 0) (pa_c (pv 1) (pa_c (pv 2) (pa_c (pv 3) (pa_c (pv 4) pa_nil)))))) (pg_sub (pv 3) (pv 4) set_list))))
    (pss_one (ps_ret (pv 3))))),?_⟩
  obtain ⟨xs,ex,ht⟩:=hR.tups
  have lx:=ht.1
  have rn:=ok.rn
  refine ⟨by show 1≤sizeLine; decide,fun z hz=>?_⟩
  have sz:=same_new (H:=H) hz (.lst [.int 0])
  refine ⟨_,rfl,a,xs,rfl,.inl (SqL.of (sz _ _ ex)),z,(xs.length : Int),_,rfl,rfl,upd_same,by omega,by omega,?_,fun l hl=>?_⟩
  · show 1 * (xs.length : Int).toNat≤sizeLine
    exact Nat.le_of_lt (small1000 (by omega))
  have s1:=sz.trans (same_new hl (.lst (List.replicate (xs.length : Int).toNat [V.int 0]).flatten))
  have hl0 : H l=none:=sz.free hl
  have e1 : IntsAt (L2.upd (L2.upd H z (.lst [.int 0])) l (.lst (List.replicate (xs.length : Int).toNat [V.int 0]).flatten)) l (List.replicate rs.length 0):=by
    unfold IntsAt
    rw [upd_same,List.map_replicate,Int.toNat_natCast,lx]
    congr 2
    induction rs.length with
    | zero=>rfl
    | succ k ih=>rw [List.replicate_succ,List.flatten_cons,ih]; rfl
  generalize L2.upd (L2.upd H z (.lst [.int 0])) l (.lst (List.replicate (xs.length : Int).toNat [V.int 0]).flatten)=H1 at s1 e1 ⊢
  obtain ⟨ds,hds⟩:=days_exist rs
  refine ⟨_,rfl,a,rs,rfl,hTb.same s1,hR.same s1,by omega,ok.h3,fun dl ord H3 hdl s3 hord e3=>?_⟩
  refine ⟨dl,rfl,⟨_,SqL.of e3⟩,?_⟩
  have nl : l≠dl:=ne_of_none e1 hdl
  have nd : ord.Nodup:=(hord.1.nodup_iff).mpr (upto_nodup _)
  refine for_list (xs:=ord.map V.int) (fun i σ H4=>∃ o4,σ=[some (.ref a),some (.ref b),some (.int tm),some (.ref l),o4]∧Same H H4∧H4 dl=some (.lst (ord.map V.int))∧IntsAt H4 l (bestGo (strOf ds) rs (ord.take i) (goingOf os tm) (List.replicate rs.length 0)).2) ⟨_,rfl,s1.trans s3,e3,s3 _ _ e1⟩ ?_ ?_ ?_
  · rintro i σ H4 hi ⟨o4,rfl,sm,e4,_⟩
    exact SqL.of e4
  · rintro i x σ H4 exi ⟨o4,rfl,sm,e4,I4⟩
    obtain ⟨at',rfl,eat⟩:=ints_at exi
    have hat:=uptoN_mem.mp (hord.1.mem_iff.mp (List.mem_of_getElem? eat))
    obtain ⟨k,rfl⟩ : ∃ k : Nat,at' = (k : Int):=⟨at'.toNat,by omega⟩
    have pre : ∀ j∈ord.take i,0≤j∧j.toNat < rs.length:=fun j hj=>by
      have:=uptoN_mem.mp (hord.1.mem_iff.mp (List.mem_of_mem_take hj))
      exact ⟨this.1,by omega⟩
    have ndi : (ord.take i).Nodup:=nd.sublist (List.take_sublist _ _)
    have kno : ∀ j∈ord.take i,j.toNat≠k:=fun j hj z=>by
      have h1:=(pre j hj).1
      have ej : j=(k : Int):=by omega
      rw [ej] at hj
      obtain ⟨m,hm,em⟩:=List.getElem_of_mem hj
      rw [List.length_take] at hm
      rw [List.getElem_take] at em
      have hi':=(List.getElem?_eq_some_iff.mp eat)
      have:=(List.getElem_inj nd).mp (em.trans hi'.2.symm)
      omega
    have lc : (bestGo (strOf ds) rs (ord.take i) (goingOf os tm) (List.replicate rs.length 0)).2.length=rs.length:=by rw [bestGo_len,List.length_replicate]
    obtain ⟨nn,wi⟩:=bestGo_in (rs:=rs) (ks:=strOf ds) (ord.take i) (goingOf os tm) (List.replicate rs.length 0) (fun j hj=>⟨(pre j hj).1,col_nn ok.r0 j⟩) (fun p _=>going_nn ok.o0 _ _ _) (fun j u e=>by
      have:=List.mem_of_getElem? e
      rw [(List.mem_replicate.mp this).2]
      exact ⟨Int.le_refl _,col_nn ok.r0 _⟩)
    have sl:=bestGo_slack (rs:=rs) (os:=os) (tm:=tm) (ks:=strOf ds) (ord.take i) (goingOf os tm) (List.replicate rs.length 0) (fun f l=>slack_zero.symm) ndi (fun j hj=>⟨(pre j hj).1,by rw [List.length_replicate]; exact (pre j hj).2,by
      rw [List.getD_eq_getElem?_getD,List.getElem?_replicate]; split <;> rfl⟩) List.length_replicate
    have kp:=bestGo_keep (ks:=strOf ds) (rs:=rs) (j:=k) (ord.take i) (goingOf os tm) (List.replicate rs.length 0) kno
    have next : (bestGo (strOf ds) rs (ord.take (i + 1)) (goingOf os tm) (List.replicate rs.length 0)).2=(bestGo (strOf ds) rs (ord.take i) (goingOf os tm) (List.replicate rs.length 0)).2.set k (stepN (strOf ds) rs (bestGo (strOf ds) rs (ord.take i) (goingOf os tm) (List.replicate rs.length 0)).1 (k : Int)):=by
      rw [getElem_next eat,bestGo_append]; rfl
    rw [next]
    generalize (bestGo (strOf ds) rs (ord.take i) (goingOf os tm) (List.replicate rs.length 0)).1=v at *
    generalize (bestGo (strOf ds) rs (ord.take i) (goingOf os tm) (List.replicate rs.length 0)).2=cs at *
    clear next
    have ev : v=slackF rs os tm cs:=funext fun f=>funext fun l=>sl f l
    have gk : cs.getD k 0=0:=by
      rw [List.getD_eq_getElem?_getD,kp,List.getElem?_replicate]; split <;> rfl
    have noL : NoLack rs os tm cs:=.of hds (by rw [← ev]; exact nn)
    have csn : ∀ u∈cs,0≤u:=fun u hu=>by
      obtain ⟨j,hj,e⟩:=List.getElem_of_mem hu
      exact (wi j u (by rw [List.getElem?_eq_getElem hj,e])).1
    refine ⟨_,rfl,_,rfl,_,rfl,_,rfl,_,rfl,a,b,l,tm,rs,os,cs,k,rfl,hTb.same sm,hR.same sm,hO.same sm,ok,I4,lc,by omega,csn,by rw [gk]; exact col_nn ok.r0 _,noL,fun M H5 hM s5=>?_⟩
    have eM : M=stepN (strOf ds) rs v (k : Int):=by
      have h1:=hM ds hds
      rw [Int.toNat_natCast,gk,Int.sub_zero,← ev] at h1
      exact h1.uniq (freeF_is _ _ _ _)
    rw [← eM]
    have I5 : IntsAt H5 l cs:=s5 _ _ I4
    refine ⟨_,rfl,_,rfl,l,_,(k : Int),k,rfl,rfl,I5,by unfold ixN; rw [List.length_map,if_pos (by omega),Int.toNat_natCast,if_pos (by omega)],?_⟩
    refine ⟨_,rfl,(sm.trans s5).young hl0,by rw [upd_ne nl.symm]; exact s5 _ _ e4,?_⟩
    unfold IntsAt
    rw [upd_same,List.map_set]
  · rintro σ H4 ⟨o4,rfl,sm,e4,I4⟩
    rw [List.length_map,List.take_length] at I4
    exact ⟨_,rfl,q l _ H4 hl0 ⟨ds,ord,hds,hord,rfl⟩ sm I4⟩
end
end K14
namespace K14
open PySem L2
abbrev s_some_counts : Stmt:=top 44
abbrev n_some_counts : List Str:=["_law_draw","_law_lots","_law_outs","_law_term","_law_most_here","_law_way","_law_at","_law_more"]
abbrev p_some_counts : List Str:=["_law_draw","_law_lots","_law_outs","_law_term"]
theorem sc_some_counts : FnScope n_some_counts p_some_counts (defScope s_some_counts):=⟨rfl,rfl,rfl,by decide +kernel,rfl,by decide +kernel,by decide +kernel⟩
section
variable {P : Program} {w : World} {K : PySem.W.Frag} {mg : Str→Option Value} {base : Heap} {f : Addr} {fd : FuncData} {tb : Tbs} (B : Bn mg)
include B
theorem ok_some_counts (G_pick : Cal P w K mg base CX0 1 "_law_pick" p_pick spPick) (G_bestL : Cal P w K mg base CX0 4 "_law_best" p_bestL (spBestT tb)) (F : Fun K "_law_some_counts" "_law_some_counts" s_some_counts f fd) : FnOk P w K mg base CX0 5 f fd p_some_counts (spCountsT tb):=by
  refine F.ok sc_some_counts (fun vs H Q E h=>?_) (fun cdv A outer s H vs Q E hr h=>?_)
  · obtain ⟨a,c,l,o,tm,ls,os,rfl,_⟩:=h; rfl
  obtain ⟨a,c,l,o,tm,ls,os,rfl,d,hT,hR,hO,nla,noa,ok,q⟩:=h
  refine ⟨_,(pss_cons (ps_set (i:=4) sc_some_counts.nd rfl (Or.inl rfl) (pe_cal G_bestL hr rfl pass0 (pa_c (pv 1) (pa_c (pv 2) (pa_c (pv 3) pa_nil)))))
    (pss_cons (ps_set (i:=5) sc_some_counts.nd rfl (Or.inl rfl) (pe_cal G_pick hr rfl pass0 (pa_c (pv 0) (pa_c pe_int pa_nil))))
    (pss_cons (ps_if (pt_cmpR op_eq (pv 5) pe_int (nomark _)) (pss_one (ps_ret (pv 4))) pss_nil)
    (pss_cons (ps_if (pt_cmpR op_eq (pv 5) pe_int (nomark _)) (pss_one (ps_ret (pe_comp (N':=["_law_count","_law_draw"]) (ix:=[none,some 0]) (g:=(gName 0)) (ti:=tIf0) (te:=(tCall spPick [] E0 (tCons (tVar 1) (tCons (tOp (rI0 fun i j=>.int (i + j)) (tVar 0) (tC (.int 1))) tNil)))) rfl (comp_scope (N:=n_some_counts) (D:=defScope s_some_counts) (by decide +kernel)) (pi_list (pv 4)) (fun C s H fp=>(pg_name (i:=0) (show (["_law_count","_law_draw"] : List Str).Nodup by decide +kernel) rfl (Or.inl rfl))) (fun C s H fp=>pifs_nil) (fun C s H fp=>(pe_cal G_pick hr rfl pass0 (pa_c (pv 1) (pa_c (pe_op op_add (pv 0) pe_int) pa_nil))))))) pss_nil)
    (pss_cons (ps_if (PW.pt (pw_and (pt_cmpR op_eq (pv 5) pe_int (nomark _)) (pw_and1 (pt_cmpR (op_neL hr.units) (pv 1) (pe_lst pa_nil) (nomark _))))) (pss_cons (ps_set (i:=6) sc_some_counts.nd rfl (Or.inl rfl) (pe_cal G_pick hr rfl pass0 (pa_c (pv 0) (pa_c (pe_callB call_len_seq rfl B.len PySem.boot_len (pa_c (pv 1) pa_nil)) pa_nil))))
      (pss_cons (ps_set (i:=7) sc_some_counts.nd rfl (Or.inl rfl) (pe_op op_add (pe_op op_add (pe_ix ix_list (pv 4) (pv 6) (fun _ _=>rfl)) pe_int) (pe_cal G_pick hr rfl pass0 (pa_c (pv 0) (pa_c pe_int pa_nil)))))
      (pss_one (ps_ret (pe_op op_cat (pe_op op_cat (pe_slice sl_list (pv 4) po_none (po_some (pv 6))) (pe_lst (pa_c (pe_callB (call_min2 rfl) rfl B.min PyProof.Rows.boot_min (pa_c (pe_ix ix_tup (pe_ix ix_list (pv 1) (pv 6) (fun _ _=>rfl)) pe_int (fun _ _=>rfl)) (pa_c (pv 7) pa_nil))) pa_nil))) (pe_slice sl_list (pv 4) (po_some (pe_op op_add (pv 6) pe_int)) po_none)))))) pss_nil)
    (pss_one (ps_ret (pe_comp (N':=["_law_lot","_law_draw"]) (ix:=[none,some 0]) (g:=(gName 0)) (ti:=tIf0) (te:=(tCall spPick [] E0 (tCons (tVar 1) (tCons (tOp (rI0 fun i j=>.int (i + j)) (tOp (rIxT K) (tVar 0) (tC (.int 1))) (tC (.int 1))) tNil)))) rfl (comp_scope (N:=n_some_counts) (D:=defScope s_some_counts) (by decide +kernel)) (pi_list (pv 1)) (fun C s H fp=>(pg_name (i:=0) (show (["_law_lot","_law_draw"] : List Str).Nodup by decide +kernel) rfl (Or.inl rfl))) (fun C s H fp=>pifs_nil) (fun C s H fp=>(pe_cal G_pick hr rfl pass0 (pa_c (pv 1) (pa_c (pe_op op_add (pe_ix ix_tup (pv 0) pe_int (fun _ _=>rfl)) pe_int) pa_nil)))))))))))),?_⟩
  refine ⟨_,rfl,_,rfl,_,rfl,l,o,tm,ls,os,rfl,hT,hR,hO,ok,fun m cs H1 hm hb s1 I1=>?_⟩
  have tk:=hb.taken ok.r0 ok.o0
  have nma : m≠a:=d.ne hm
  have d1:=d.same s1
  have lcs:=hb.len
  have rn:=ok.rn
  refine ⟨_,rfl,a,c,4,rfl,d1,by decide,by decide,fun y H2 y0 y1 d2 kb2=>?_⟩
  have I2 : IntsAt H2 m cs:=kb2 _ _ nma I1
  have k2 : KeepBut a H H2:=(KeepBut.of_same s1).trans kb2
  have L2':=(hR.same s1).keep nla d1 kb2
  refine ⟨_,rfl,rfl,_,rfl,?_⟩
  refine ite2 (fun _=>⟨_,rfl,q m cs H2 hm tk d2 k2 I2⟩) (fun _=>?_)
  refine ⟨_,rfl,rfl,_,rfl,?_⟩
  refine ite2 (fun _=>?_) (fun _=>?_)
  · refine ⟨_,rfl,m,rfl,⟨_,SqL.of I2⟩,fun D hD=>?_⟩
    refine comp_lstK (fun i zs _=>∃ ts : List Int,zs=ts.map V.int∧ts.length=i∧∀ (j : Nat) u v,ts[j]? = some u→cs[j]? = some v→0≤u∧u≤v) hD I2 nma d2 (by rw [List.length_map]; omega) (fun i zs H' H'' h _ _=>h) ⟨[],rfl,rfl,fun j u v e=>(by cases e)⟩ (fun i x zs H' ex hz k' d' ⟨ts,ez,el,hts⟩ K1 q1=>?_) fun zs H3 k3 d3 ⟨ts,ez,el,hts⟩ lz e3=>?_
    · obtain ⟨v,rfl,ev⟩:=ints_at ex
      have hv:=tk.at (List.getElem?_eq_getElem (show i < ls.length by have:=(List.getElem?_eq_some_iff.mp ev).1; omega)) ev
      have hc:=ok.rc _ (List.getElem_mem (show i < ls.length by have:=(List.getElem?_eq_some_iff.mp ev).1; omega))
      refine ⟨keep_set keep_refl rfl,?_⟩
      refine ⟨_,rfl,_,rfl,_,_,rfl,rfl,a,c,v + 1,rfl,d',by omega,by omega,fun r H4 r0 r1 d4 kb4=>?_⟩
      subst ez
      refine q1 (.int r) H4 kb4 d4 ⟨ts ++ [r],by rw [List.map_append]; rfl,by rw [List.length_append,List.length_singleton]; omega,fun j u w e1 e2=>?_⟩
      by_cases hj : j < ts.length
      · rw [List.getElem?_append_left hj] at e1
        exact hts j u w e1 e2
      · have : j=ts.length:=by
          have:=(List.getElem?_eq_some_iff.mp e1).1
          rw [List.length_append,List.length_singleton] at this
          omega
        subst this
        rw [List.getElem?_append_right (Nat.le_refl _),Nat.sub_self] at e1
        cases e1
        rw [el,ev] at e2
        cases e2
        exact ⟨r0,by omega⟩
    · subst ez
      rw [List.length_map] at lz el
      have el' : ts.length=cs.length:=el
      refine q D ts H3 (k2.none (d2.ne hD) hD) (takenOk_of (by omega) fun j r u e1 e2=>?_) d3 (k2.trans k3) e3
      have hj : j < cs.length:=by have:=(List.getElem?_eq_some_iff.mp e2).1; omega
      have h1:=hts j u _ e2 (List.getElem?_eq_getElem hj)
      have h2:=tk.at e1 (List.getElem?_eq_getElem hj)
      exact ⟨h1.1,by omega⟩
  obtain ⟨xs,ex,hx⟩:=L2'.tups
  have lx:=hx.1
  dsimp only [tNext]
  refine tSeq_by (fun σ H3=>σ=[some (.ref a),some (.ref l),some (.ref o),some (.int tm),some (.ref m),some (.int y),none,none]∧KeepBut a H2 H3∧DrawAt H3 a c∧H3 l=some (.lst xs)∧Tups H3 xs ls) (fun D' nx hrt=>?_) ?_
  · refine ⟨_,rfl,rfl,_,rfl,?_⟩
    refine ite2 (fun _=>?_) (fun _=>iteF (nx _ _ ⟨rfl,KeepBut.refl,d2,ex,hx⟩))
    refine ⟨_,rfl,by show 0≤sizeLine; decide,fun e he=>?_⟩
    have sE:=same_new (H:=H2) he (.lst [])
    refine cmp_nil (sE _ _ ex) upd_same ⟨_,rfl,?_⟩
    have d3:=d2.same sE
    have x3:=sE _ _ ex
    have h3:=hx.same sE
    have I3:=sE _ _ I2
    have k3 : KeepBut a H2 (L2.upd H2 e (.lst [])):=KeepBut.of_same sE
    generalize L2.upd H2 e (.lst [])=H3 at *
    by_cases c1 : xs.length=0
    · rw [decide_eq_true c1]
      exact iteF (nx _ _ ⟨rfl,k3,d3,x3,h3⟩)
    · rw [decide_eq_false c1]
      refine iteT ⟨_,rfl,_,rfl,l,_,rfl,.inl (SqL.of x3),a,c,_,rfl,d3,by omega,by omega,fun r H4 r0 r1 d4 kb4=>?_⟩
      obtain ⟨k,rfl⟩ : ∃ k : Nat,r=(k : Int):=⟨r.toNat,by omega⟩
      have hk : k < xs.length:=by omega
      have hkc : k < cs.length:=by omega
      have I4 : IntsAt H4 m cs:=kb4 _ _ nma I3
      have x4:=kb4 _ _ nla x3
      have t4:=h3.draw d3 kb4
      have eik : atI (cs.map V.int) (k : Int)=some (.int cs[k]):=atI_ints rfl hkc
      refine ⟨_,rfl,_,rfl,m,_,_,.int cs[k],rfl,rfl,SqL.of I4,eik,_,_,rfl,rfl,_,rfl,a,c,2,rfl,d4,by decide,by decide,fun z H5 z0 z1 d5 kb5=>⟨_,_,rfl,rfl,?_⟩⟩
      have I5 : IntsAt H5 m cs:=kb5 _ _ nma I4
      have x5:=kb5 _ _ nla x4
      have t5:=t4.draw d4 kb5
      have k5 : KeepBut a H H5:=k2.trans (k3.trans (kb4.trans kb5))
      obtain ⟨pl,rl,epl,erl,hpl⟩:=t5.at (List.getElem?_eq_getElem hk)
      obtain ⟨ld,lc,lu,rfl⟩:=len3 (ok.h3 rl (List.mem_of_getElem? erl))
      have eil : atI xs (k : Int)=some (.ref pl):=atI_nat (by rw [List.getElem?_eq_getElem hk,epl])
      have lc0:=ok.r0 _ (List.mem_of_getElem? erl)
      refine ⟨_,rfl,_,rfl,_,rfl,m,_,rfl,SqL.of I5,fun p1 hp1=>?_⟩
      rw [(cut_to cs (show (0 : Int)≤(k : Int) by omega) (by omega)).1]
      have s1:=same_new (H:=H5) hp1 (.lst ((cs.take (k : Int).toNat).map V.int))
      refine ⟨_,rfl,_,rfl,l,xs,_,.ref pl,rfl,rfl,SqL.of (s1 _ _ x5),eil,pl,_,_,.int lc,rfl,rfl,SqT.of (s1 _ _ hpl),rfl,_,rfl,_,_,rfl,by show 1≤sizeLine; decide,fun p2 hp2=>?_⟩
      obtain ⟨mn,emn⟩ : ∃ mn,(if cs[k] + 1 + z < lc then cs[k] + 1 + z else lc)=mn:=⟨_,rfl⟩
      have hmn : 0≤mn∧mn≤lc:=by
        have h0:=(tk.nn _ (List.getElem_mem hkc))
        have h1 : (0 : Int)≤lc:=lc0
        rw [← emn]
        split <;> omega
      rw [emn]
      have s2:=same_new hp2 (.lst [V.int mn])
      refine ⟨p1,p2,_,_,rfl,rfl,s2 _ _ upd_same,upd_same,?_,fun p3 hp3=>?_⟩
      · rw [List.length_map,List.length_take]
        refine Nat.le_of_lt (small1000 ?_)
        show min _ _ + 1≤1000
        omega
      have s3:=same_new hp3 (.lst ((cs.take (k : Int).toNat).map V.int ++ [V.int mn]))
      refine ⟨_,rfl,_,rfl,_,_,rfl,rfl,_,rfl,m,_,rfl,SqL.of (s3 _ _ (s2 _ _ (s1 _ _ I5))),fun p4 hp4=>?_⟩
      rw [(cut_from cs (show (1 : Int)≤(k : Int) + 1 by omega) (by omega)).1]
      have s4:=same_new hp4 (.lst ((cs.drop ((k : Int) + 1).toNat).map V.int))
      have ecat : (cs.take (k : Int).toNat).map V.int ++ [V.int mn] ++ (cs.drop ((k : Int) + 1).toNat).map V.int=(cs.set k mn).map V.int:=by
        rw [← set_cat cs mn hkc,Int.toNat_natCast,show ((k : Int) + 1).toNat=k + 1 by omega,List.map_append,List.map_append]; rfl
      refine ⟨p3,p4,_,_,rfl,rfl,s4 _ _ upd_same,upd_same,?_,fun p5 hp5=>?_⟩
      · rw [← List.length_append,ecat,List.length_map,List.length_set]
        exact Nat.le_of_lt (small1000 (by omega))
      rw [ecat,hrt]
      have s5:=same_new hp5 (.lst ((cs.set k mn).map V.int))
      have S:=s1.trans (s2.trans (s3.trans (s4.trans s5)))
      refine q p5 (cs.set k mn) _ (k5.none (((d5.same (s1.trans (s2.trans (s3.trans s4)))).ne hp5)) ((s1.trans (s2.trans (s3.trans s4))).free hp5)) (takenOk_of (by rw [List.length_set]; omega) fun j r u e1 e2=>?_) (d5.same S) (k5.trans (KeepBut.of_same S)) upd_same
      by_cases ej : k=j
      · subst ej
        rw [List.getElem?_set_self hkc] at e2
        cases e2
        rw [erl] at e1
        cases e1
        exact hmn
      · rw [List.getElem?_set_ne ej] at e2
        exact tk.at e1 e2
  · rintro σ H3 ⟨rfl,k3,d3,x3,h3⟩
    refine ⟨_,rfl,l,rfl,⟨_,SqL.of x3⟩,fun D hD=>?_⟩
    refine comp_lstK (fun i zs H'=>Tups H' xs ls∧∃ ts : List Int,zs=ts.map V.int∧ts.length=i∧∀ (j : Nat) r u,ls[j]? = some r→ts[j]? = some u→0≤u∧u≤r.getD 1 0) hD x3 nla d3 (by omega) (fun i zs H' H'' ⟨h1,h2⟩ nl hk=>⟨⟨h1.1,fun j x r e1 e2=>?_⟩,h2⟩) ⟨h3,[],rfl,rfl,fun j r u e1 e2=>(by cases e2)⟩ (fun i x zs H' exi hz k' d' ⟨h1,ts,ez,el,hts⟩ K1 q1=>?_) fun zs H4 k4 d4 ⟨h4,ts,ez,el,hts⟩ lz e4=>?_
    · obtain ⟨p,e,hp⟩:=h1.2 j x r e1 e2
      refine ⟨p,e,hk _ _ (fun z=>?_) hp⟩
      rw [z] at hp
      rcases nl with w | ⟨l',w⟩ <;> (rw [w] at hp; cases hp)
    · obtain ⟨p,r,rfl,er,hp⟩:=h1.at exi
      obtain ⟨ld,lc,lu,rfl⟩:=len3 (ok.h3 r (List.mem_of_getElem? er))
      have lc0 : (0 : Int)≤lc:=ok.r0 _ (List.mem_of_getElem? er)
      have lc1 : lc≤10000000000:=ok.rc _ (List.mem_of_getElem? er)
      refine ⟨keep_set keep_refl rfl,?_⟩
      refine ⟨_,rfl,_,rfl,p,_,_,.int lc,rfl,rfl,SqT.of hp,rfl,_,_,rfl,rfl,a,c,lc + 1,rfl,d',by omega,by omega,fun v H4 v0 v1 d4 kb4=>?_⟩
      subst ez
      refine q1 (.int v) H4 kb4 d4 ⟨h1.draw d' kb4,ts ++ [v],by rw [List.map_append]; rfl,by rw [List.length_append,List.length_singleton]; omega,fun j r' u e1 e2=>?_⟩
      by_cases hj : j < ts.length
      · rw [List.getElem?_append_left hj] at e2
        exact hts j r' u e1 e2
      · have : j=ts.length:=by
          have:=(List.getElem?_eq_some_iff.mp e2).1
          rw [List.length_append,List.length_singleton] at this
          omega
        subst this
        rw [List.getElem?_append_right (Nat.le_refl _),Nat.sub_self] at e2
        cases e2
        rw [el,er] at e1
        cases e1
        exact ⟨v0,by show v≤lc; omega⟩
    · subst ez
      exact q D ts H4 ((k2.trans k3).none (d3.ne hD) hD) (takenOk_of (by omega) hts) d4 ((k2.trans k3).trans k4) e4
end
end K14
namespace L2
open PySem PySem.Spec PySem.W PyProof.Rows
def lawSum (c : Nat) (ts : List (List Int)) (j : Int) : Int:=((ts.filter fun q=>decide (q.getD c 0=j)).map fun q=>q.getD 2 0).sum
def lawCnt (ts : List (List Int)) (l o : Int) : Nat:=(ts.filter fun q=>decide (q.getD 0 0=l∧q.getD 1 0=o)).length
structure RowG (ls os : List (List Int)) (tm : Int) (ts : List (List Int)) (r : List Int) : Prop where
  l : 0≤r.getD 0 0∧r.getD 0 0 < (ls.length : Int)
  o : 0≤r.getD 1 0∧r.getD 1 0 < (os.length : Int)
  c : 1≤r.getD 2 0
  d : 0≤colAt os 0 (r.getD 1 0) - colAt ls 0 (r.getD 0 0)∧colAt os 0 (r.getD 1 0) - colAt ls 0 (r.getD 0 0)≤tm
  n : lawCnt ts (r.getD 0 0) (r.getD 1 0)≤1
  sl : lawSum 0 ts (r.getD 0 0)≤colAt ls 1 (r.getD 0 0)
  so : lawSum 1 ts (r.getD 1 0)≤colAt os 1 (r.getD 1 0)
theorem lawSum_lots (ts : List (List Int)) (j : Nat) : lawSum 0 ts (j : Int)=sumAt (byLots ts) j:=by
  unfold lawSum sumAt byLots
  rw [List.filter_map,List.map_map]; rfl
theorem lawSum_outs (ts : List (List Int)) (j : Nat) : lawSum 1 ts (j : Int)=sumAt (byOuts ts) j:=by
  unfold lawSum sumAt byOuts
  rw [List.filter_map,List.map_map]; rfl
theorem lawCnt_eq (ts : List (List Int)) (r : List Int) : lawCnt ts (r.getD 0 0) (r.getD 1 0)=(ts.map pr2).count (pr2 r):=by
  unfold lawCnt
  rw [List.count,List.countP_map,List.countP_eq_length_filter]
  congr 1
  refine List.filter_congr fun q _=>?_
  show decide (q.getD 0 0=r.getD 0 0∧q.getD 1 0=r.getD 1 0)=((q.getD 0 0,q.getD 1 0) == (r.getD 0 0,r.getD 1 0))
  rw [Bool.eq_iff_iff,decide_eq_true_iff,beq_iff_eq,Prod.mk.injEq]
theorem isDeal_iff {ls os : List (List Int)} {tm : Int} {ts : List (List Int)} (g : GoodC ls os tm) : IsDeal ls os tm ts↔∀ r∈ts,RowG ls os tm ts r:=by
  have at1 : ∀ (rs : List (List Int)) (v : Int),0≤v→v < (rs.length : Int)→∃ r,rs[v.toNat]? = some r∧r∈rs∧∀ c,colAt rs c v=r.getD c 0:=fun rs v h0 h1=>by
    have hlt : v.toNat < rs.length:=by omega
    refine ⟨rs[v.toNat],List.getElem?_eq_getElem hlt,List.getElem_mem hlt,fun c=>?_⟩
    unfold colAt
    rw [getD_row (List.getElem?_eq_getElem hlt)]
  constructor
  · rintro ⟨h1,h2,h3,h4⟩ r hr
    obtain ⟨gl,go,gc,gr⟩:=h1 r hr
    obtain ⟨x,ex,mx,cx⟩:=at1 ls _ gl.1 gl.2
    obtain ⟨y,ey,my,cy⟩:=at1 os _ go.1 go.2
    have dr:=of_decide_eq_true gr
    have e1 : ((r.getD 0 0).toNat : Int)=r.getD 0 0:=by omega
    have e2 : ((r.getD 1 0).toNat : Int)=r.getD 1 0:=by omega
    refine ⟨gl,go,gc,by omega,by rw [lawCnt_eq]; exact List.nodup_iff_count.mp h2 _,?_,?_⟩
    · rw [← e1,lawSum_lots,e1,cx]
      exact h3 _ _ x (summed_get gl.1 gl.2) ex
    · rw [← e2,lawSum_outs,e2,cy]
      exact h4 _ _ y (summed_get go.1 go.2) ey
  · intro h
    refine ⟨fun r hr=>?_,?_,?_,?_⟩
    · have G:=h r hr
      obtain ⟨x,ex,mx,cx⟩:=at1 ls _ G.l.1 G.l.2
      refine ⟨G.l,G.o,G.c,decide_eq_true ?_⟩
      have:=G.d
      have lg:=g.lg x mx
      have : 1≤colAt ls 0 (r.getD 0 0):=by
        rw [cx 0]
        obtain ⟨d,cc,u,rfl,q⟩:=lg
        exact q.1
      omega
    · refine List.nodup_iff_count.mpr fun q=>?_
      by_cases c : q∈ts.map pr2
      · obtain ⟨r,hr,rfl⟩:=List.mem_map.mp c
        rw [← lawCnt_eq]; exact (h r hr).n
      · rw [List.count_eq_zero.mpr c]; omega
    · intro i u r e1 e2
      have hi : i < ls.length:=(List.getElem?_eq_some_iff.mp e2).1
      have eu:=summed_get (ps:=byLots ts) (a:=(i : Int)) (by omega) (show (i : Int) < (ls.length : Int) by omega)
      rw [Int.toNat_natCast,e1] at eu
      rw [Option.some.inj eu,← lawSum_lots]
      by_cases c : ∃ q∈ts,q.getD 0 0=(i : Int)
      · obtain ⟨q,hq,eq⟩:=c
        have:=(h q hq).sl
        rw [eq] at this
        refine Int.le_trans this (Int.le_of_eq ?_)
        unfold colAt
        rw [Int.toNat_natCast,getD_row e2]
      · have e0 : lawSum 0 ts (i : Int)=0:=by
          unfold lawSum
          rw [List.filter_eq_nil_iff.mpr fun q hq z=>c ⟨q,hq,of_decide_eq_true z⟩]; rfl
        rw [e0]
        obtain ⟨d,cc,v,rfl,q1,q2,q3,_⟩:=g.lg r (List.mem_of_getElem? e2)
        show (0 : Int)≤cc
        omega
    · intro i u r e1 e2
      have hi : i < os.length:=(List.getElem?_eq_some_iff.mp e2).1
      have eu:=summed_get (ps:=byOuts ts) (a:=(i : Int)) (by omega) (show (i : Int) < (os.length : Int) by omega)
      rw [Int.toNat_natCast,e1] at eu
      rw [Option.some.inj eu,← lawSum_outs]
      by_cases c : ∃ q∈ts,q.getD 1 0=(i : Int)
      · obtain ⟨q,hq,eq⟩:=c
        have:=(h q hq).so
        rw [eq] at this
        refine Int.le_trans this (Int.le_of_eq ?_)
        unfold colAt
        rw [Int.toNat_natCast,getD_row e2]
      · have e0 : lawSum 1 ts (i : Int)=0:=by
          unfold lawSum
          rw [List.filter_eq_nil_iff.mpr fun q hq z=>c ⟨q,hq,of_decide_eq_true z⟩]; rfl
        rw [e0]
        obtain ⟨d,cc,rfl,q1,q2,q3,_⟩:=g.og r (List.mem_of_getElem? e2)
        show (0 : Int)≤cc
        omega
theorem lawCnt_next {ts : List (List Int)} {i : Nat} {r : List Int} {l o : Int} (e : ts[i]? = some r) : lawCnt (ts.take (i + 1)) l o=lawCnt (ts.take i) l o + if r.getD 0 0=l∧r.getD 1 0=o then 1 else 0:=by
  unfold lawCnt
  rw [getElem_next e,List.filter_append,List.length_append]
  by_cases c : r.getD 0 0=l∧r.getD 1 0=o
  · rw [if_pos c,List.filter_cons,if_pos (decide_eq_true c)]; rfl
  · rw [if_neg c,List.filter_cons,if_neg (by simpa using c)]; rfl
def lawRow (c : Nat) (ts : List (List Int)) (j : Int) : List Int:=(ts.filter fun q=>decide (q.getD c 0=j)).map fun q=>q.getD 2 0
theorem lawRow_next {c : Nat} {ts : List (List Int)} {i : Nat} {r : List Int} {j : Int} (e : ts[i]? = some r) : lawRow c (ts.take (i + 1)) j=lawRow c (ts.take i) j ++ if r.getD c 0=j then [r.getD 2 0] else []:=by
  unfold lawRow
  rw [getElem_next e,List.filter_append,List.map_append]
  by_cases h : r.getD c 0=j
  · rw [if_pos h,List.filter_cons,if_pos (decide_eq_true h)]; rfl
  · rw [if_neg h,List.filter_cons,if_neg (by simpa using h)]; rfl
theorem stepL_ok {rs : List (List Int)} {tm e j : Int} {st : Int×List Int×List (List Int)} {i : Int} (h : ∀ r∈st.2.2,r.length=3) : (∀ r∈(stepL rs tm e j st i).2.2,r.length=3)∧(stepL rs tm e j st i).2.2.length≤st.2.2.length + 1:=by
  unfold stepL
  split
  · refine ⟨fun r hr=>?_,by rw [List.length_append,List.length_singleton]; exact Nat.le_refl _⟩
    rcases List.mem_append.mp hr with z | z
    · exact h r z
    · rw [List.mem_singleton.mp z]; rfl
  · exact ⟨h,Nat.le_succ _⟩
theorem foldL_ok {rs : List (List Int)} {tm e j : Int} : ∀ (is : List Int) (st : Int×List Int×List (List Int)),(∀ r∈st.2.2,r.length=3)→(∀ r∈(is.foldl (stepL rs tm e j) st).2.2,r.length=3)∧(is.foldl (stepL rs tm e j) st).2.2.length≤st.2.2.length + is.length
  | [],st,h=>⟨h,Nat.le_refl _⟩
  | i :: is,st,h=>by
    obtain ⟨a,b⟩:=stepL_ok (rs:=rs) (tm:=tm) (e:=e) (j:=j) (i:=i) h
    obtain ⟨c,d⟩:=foldL_ok (rs:=rs) (tm:=tm) (e:=e) (j:=j) is _ a
    rw [List.foldl_cons,List.length_cons]
    exact ⟨c,by omega⟩
theorem dealL_go {rs os : List (List Int)} {tm : Int} {ages : List Int} : ∀ (outs : List Int) (st : List Int×List (List Int)),(∀ r∈st.2,r.length=3)→(∀ r∈(outs.foldl (outL rs os tm ages) st).2,r.length=3)∧(outs.foldl (outL rs os tm ages) st).2.length≤st.2.length + outs.length * ages.length
  | [],st,h=>⟨h,by rw [List.length_nil,Nat.zero_mul]; exact Nat.le_refl _⟩
  | j :: outs,st,h=>by
    obtain ⟨a,b⟩:=foldL_ok (rs:=rs) (tm:=tm) (e:=colAt os 0 j) (j:=j) ages (colAt os 1 j,st.1,st.2) h
    obtain ⟨c,d⟩:=dealL_go (rs:=rs) (os:=os) (tm:=tm) (ages:=ages) outs (outL rs os tm ages st j) a
    have b' : (outL rs os tm ages st j).2.length≤st.2.length + ages.length:=b
    rw [List.foldl_cons,List.length_cons,Nat.succ_mul]
    exact ⟨c,by omega⟩
theorem dealL_ok {rs os : List (List Int)} {tm : Int} {ages outs ts : List Int} : (∀ r∈(dealL rs os tm ages outs ts).2,r.length=3)∧(dealL rs os tm ages outs ts).2.length≤outs.length * ages.length:=by
  have:=dealL_go (rs:=rs) (os:=os) (tm:=tm) (ages:=ages) outs (ts,[]) (fun r hr=>nomatch hr)
  rw [List.length_nil,Nat.zero_add] at this
  exact this
theorem cmp_copy {K : PySem.W.Frag} {H : Hp} {l e : Addr} {xs : List V} {rs : List (List Int)} {neg : Bool} {Q : VK} (h : Tups H xs rs) (hl : H l=some (.lst xs)) (he : H e=some (.lst xs)) (q : Q (.bl (neg != true)) H) : rCmpL K neg (.ref l) (.ref e) H Q:=by
  refine ⟨l,e,xs,xs,rfl,rfl,SqL.of hl,SqL.of he,.inr ⟨rfl,0,fun _=>true,by decide,fun j x y e1 e2=>?_,?_⟩⟩
  · rw [e1] at e2
    cases e2
    obtain ⟨p,r,rfl,_⟩:=h.at e1
    exact .same
  · rw [all_true]; exact q
theorem tIfB_by {t : TT} {A B : TS} {D : Ends} {σ : St} {H : Hp} (R : Bool→Hp→Prop) (h : ∀ Q : Bool→Hp→Prop,(∀ b H',R b H'→Q b H')→t σ H Q) (h1 : ∀ H',R true H'→A D σ H') (h2 : ∀ H',R false H'→B D σ H') : tIfS t A B D σ H:=
  h _ fun b H' r=>by
    cases b with
    | true=>exact iteT (h1 H' r)
    | false=>exact iteF (h2 H' r)
end L2
namespace L2
open PySem PySem.Spec PySem.W PyProof.Rows
theorem cutFrom (xs : List V) {k : Int} (h0 : 0≤k) : cutV xs (some k) none=xs.drop k.toNat:=by
  have e : HT.sIx xs.length 0 (some k)=min k.toNat xs.length:=by
    show (if k < 0 then (k + (xs.length : Int)).toNat else min k.toNat xs.length)=_
    rw [if_neg (by omega)]
  unfold cutV
  rw [e]
  show (xs.drop (min k.toNat xs.length)).take (xs.length - min k.toNat xs.length)=_
  by_cases z : k.toNat≤xs.length
  · rw [Nat.min_eq_left z,List.take_of_length_le (by rw [List.length_drop]; omega)]
  · rw [Nat.min_eq_right (by omega),List.drop_length,List.drop_eq_nil_of_le (by omega),List.take_nil]
end L2
namespace L2
open PySem PySem.Spec PyProof.Rows
variable {X : Cx}
def rIsB (neg : Bool) : R2:=fun x y H Q=>∃ c d : Bool,x = .bl c∧y = .bl d∧Q (.bl (neg != (c == d))) H
theorem op_isB : OpR X (compareOp .Is) (rIsB false):=by
  intro pins s σ H x y v u Q I rx ry h
  obtain ⟨c,d,rfl,rfl,q⟩:=h
  cases rx; cases ry
  refine is_bool ⟨.bl _,H,I,rfl,?_⟩
  cases c <;> cases d <;> exact q
end L2
namespace K14
open PySem L2
abbrev s_good : Stmt:=top 46
abbrev n_good : List Str:=["_law_lots","_law_outs","_law_term","_law_rows","_law_lot","_law_out","_law_count"]
abbrev p_good : List Str:=["_law_lots","_law_outs","_law_term","_law_rows"]
theorem sc_good : FnScope n_good p_good (defScope s_good):=⟨rfl,rfl,rfl,by decide +kernel,rfl,by decide +kernel,by decide +kernel⟩
abbrev s_bent : Stmt:=top 47
abbrev n_bent : List Str:=["_law_draw","_law_rows","_law_way","_law_some","_law_at","_law_lot","_law_out","_law_count","_law_other"]
abbrev p_bent : List Str:=["_law_draw","_law_rows"]
theorem sc_bent : FnScope n_bent p_bent (defScope s_bent):=⟨rfl,rfl,rfl,by decide +kernel,rfl,by decide +kernel,by decide +kernel⟩
abbrev s_law : Stmt:=top 48
abbrev n_law : List Str:=["_law_script","_law_draw","_law_lots","_law_outs","_law_term","_law_k","_law_taken","_law_rows","_law_turn","_law_kept","_law_due"]
abbrev p_law : List Str:=["_law_script"]
theorem sc_law : FnScope n_law p_law (defScope s_law):=⟨rfl,rfl,rfl,by decide +kernel,rfl,by decide +kernel,by decide +kernel⟩
def spLaw (K : PySem.W.Frag) (tb : Tbs) : Sp:=fun vs H Q _=>∃ (a : Addr) (ns : List Int),vs=[.ref a]∧Tb tb H∧SqL K H a (ns.map V.int)∧ns.length≤63∧∀ H',Tb tb H'→Q (.bl true) H'
def spGoodL : Sp:=fun vs H Q _=>∃ (a b p : Addr) (tm : Int) (ls os ts : List (List Int)),vs=[.ref a,.ref b,.int tm,.ref p]∧Rows H a ls∧Rows H b os∧GoodC ls os tm∧Rows H p ts∧(∀ r∈ts,r.length=3)∧ts.length≤76∧∀ x H',(x=true↔IsDeal ls os tm ts)→Same H H'→Q (.bl x) H'
def spBentR : Sp:=fun vs H Q _=>∃ (a c p : Addr) (ts : List (List Int)),vs=[.ref a,.ref p]∧DrawAt H a c∧p≠a∧Rows H p ts∧(∀ r∈ts,r.length=3)∧ts.length≤70∧∀ l us H',H l=none→Rows H' l us→(∀ r∈us,r.length=3)→us.length≤ts.length + 1→DrawAt H' a c→KeepBut a H H'→Q (.ref l) H'
section
variable {P : Program} {w : World} {K : PySem.W.Frag} {mg : Str→Option Value} {base : Heap} {f : Addr} {fd : FuncData} {cl : Nat→Addr} {tb : Tbs} (B : Bn mg)
include B
theorem ok_good (F : Fun K "_law_good" "_law_good" s_good f fd) : FnOk P w K mg base CX0 1 f fd p_good spGoodL:=by
  refine F.ok sc_good (fun vs H Q E h=>?_) (fun cdv A outer s H vs Q E hr h=>?_)
  · obtain ⟨a,b,p,tm,ls,os,ts,rfl,_⟩:=h; rfl
  obtain ⟨a,b,p,tm,ls,os,ts,rfl,hL,hO,g,hT,h3,hn,q⟩:=h
  refine ⟨_,(pss_cons (ps_for PassesOwn.never rfl (pi_list (pv 3)) (pg_tup rfl (pgs_cons (pg_name (i:=4) sc_good.nd rfl (Or.inr rfl)) (pgs_cons (pg_name (i:=5) sc_good.nd rfl (Or.inr rfl)) (pgs_cons (pg_name (i:=6) sc_good.nd rfl (Or.inl rfl)) pgs_nil)))) (pss_cons (ps_if (PW.pt (pw_or (pt_not (pt_chain op_le op_lt pe_int (pv 4) (pe_callB call_len_seq rfl B.len PySem.boot_len (pa_c (pv 0) pa_nil)))) (pw_or (pt_not (pt_chain op_le op_lt pe_int (pv 5) (pe_callB call_len_seq rfl B.len PySem.boot_len (pa_c (pv 1) pa_nil)))) (pw_or1 (pt_cmpR op_lt (pv 6) pe_int (nomark _)))))) (pss_one (ps_ret pe_bl)) pss_nil)
      (pss_cons (ps_if (pt_not (pt_chain op_le op_le pe_int (pe_op op_sub (pe_ix ix_tup (pe_ix ix_list (pv 1) (pv 5) (fun _ _=>rfl)) pe_int (fun _ _=>rfl)) (pe_ix ix_tup (pe_ix ix_list (pv 0) (pv 4) (fun _ _=>rfl)) pe_int (fun _ _=>rfl))) (pv 2))) (pss_one (ps_ret pe_bl)) pss_nil)
      (pss_cons (ps_if (pt_cmpR op_gt (pe_callB call_len_seq rfl B.len PySem.boot_len (pa_c (pe_comp (N':=["_law_row","_law_lot","_law_out"]) (ix:=[none,some 4,some 5]) (g:=(gName 0)) (ti:=(tAnd (tTest (tOp rEq (tOp (rIxT K) (tVar 0) (tC (.int 0))) (tVar 1))) (tTest (tOp rEq (tOp (rIxT K) (tVar 0) (tC (.int 1))) (tVar 2))))) (te:=(tVar 0)) rfl (comp_scope (N:=n_good) (D:=defScope s_good) (by decide +kernel)) (pi_list (pv 3)) (fun C s H fp=>(pg_name (i:=0) (show (["_law_row","_law_lot","_law_out"] : List Str).Nodup by decide +kernel) rfl (Or.inl rfl))) (fun C s H fp=>(pifs_one (PW.pt (pw_and (pt_cmpR op_eq (pe_ix ix_tup (pv 0) pe_int (fun _ _=>rfl)) (pv 1) (nomark _)) (pw_and1 (pt_cmpR op_eq (pe_ix ix_tup (pv 0) pe_int (fun _ _=>rfl)) (pv 2) (nomark _))))))) (fun C s H fp=>(pv 0))) pa_nil)) pe_int (nomark _)) (pss_one (ps_ret pe_bl)) pss_nil)
      (pss_cons (ps_if (pt_cmpR op_gt (pe_callB (call_sumI rfl) rfl B.sum PyProof.Rows.boot_sum (pa_c (pe_comp (N':=["_law_row","_law_lot"]) (ix:=[none,some 4]) (g:=(gName 0)) (ti:=(tTest (tOp rEq (tOp (rIxT K) (tVar 0) (tC (.int 0))) (tVar 1)))) (te:=(tOp (rIxT K) (tVar 0) (tC (.int 2)))) rfl (comp_scope (N:=n_good) (D:=defScope s_good) (by decide +kernel)) (pi_list (pv 3)) (fun C s H fp=>(pg_name (i:=0) (show (["_law_row","_law_lot"] : List Str).Nodup by decide +kernel) rfl (Or.inl rfl))) (fun C s H fp=>(pifs_one (pt_cmpR op_eq (pe_ix ix_tup (pv 0) pe_int (fun _ _=>rfl)) (pv 1) (nomark _)))) (fun C s H fp=>(pe_ix ix_tup (pv 0) pe_int (fun _ _=>rfl)))) pa_nil)) (pe_ix ix_tup (pe_ix ix_list (pv 0) (pv 4) (fun _ _=>rfl)) pe_int (fun _ _=>rfl)) (nomark _)) (pss_one (ps_ret pe_bl)) pss_nil)
      (pss_one (ps_if (pt_cmpR op_gt (pe_callB (call_sumI rfl) rfl B.sum PyProof.Rows.boot_sum (pa_c (pe_comp (N':=["_law_row","_law_out"]) (ix:=[none,some 5]) (g:=(gName 0)) (ti:=(tTest (tOp rEq (tOp (rIxT K) (tVar 0) (tC (.int 1))) (tVar 1)))) (te:=(tOp (rIxT K) (tVar 0) (tC (.int 2)))) rfl (comp_scope (N:=n_good) (D:=defScope s_good) (by decide +kernel)) (pi_list (pv 3)) (fun C s H fp=>(pg_name (i:=0) (show (["_law_row","_law_out"] : List Str).Nodup by decide +kernel) rfl (Or.inl rfl))) (fun C s H fp=>(pifs_one (pt_cmpR op_eq (pe_ix ix_tup (pv 0) pe_int (fun _ _=>rfl)) (pv 1) (nomark _)))) (fun C s H fp=>(pe_ix ix_tup (pv 0) pe_int (fun _ _=>rfl)))) pa_nil)) (pe_ix ix_tup (pe_ix ix_list (pv 1) (pv 5) (fun _ _=>rfl)) pe_int (fun _ _=>rfl)) (nomark _)) (pss_one (ps_ret pe_bl)) pss_nil)))))))
    (pss_one (ps_ret pe_bl))),?_⟩
  obtain ⟨xr,exr,ht⟩:=hT.tups
  obtain ⟨xs,ex0,hx⟩:=hL.tups
  obtain ⟨ys,ey0,hy⟩:=hO.tups
  have lx : (xs.length : Int)=ls.length:=by rw [hx.1]
  have ly : (ys.length : Int)=os.length:=by rw [hy.1]
  have lt : xr.length=ts.length:=ht.1
  have iff:=isDeal_iff (ts:=ts) g
  refine ⟨_,rfl,p,rfl,⟨xr,SqL.of exr⟩,?_⟩
  refine for_list (xs:=xr) (fun i σ H5=>∃ o4 o5 o6,σ=[some (.ref a),some (.ref b),some (.int tm),some (.ref p),o4,o5,o6]∧Same H H5∧∀ r∈ts.take i,RowG ls os tm ts r) ⟨_,_,_,rfl,Same.refl H,fun r hr=>by simp at hr⟩ ?_ ?_ ?_
  · rintro i σ H5 hi ⟨o4,o5,o6,rfl,sm,_⟩
    exact SqL.of (sm _ _ exr)
  · rintro i x σ H5 exi ⟨o4,o5,o6,rfl,sm,hg⟩
    obtain ⟨pr,r,rfl,er,hpr⟩:=ht.at exi
    obtain ⟨l,o,c,rfl⟩:=len3 (h3 r (List.mem_of_getElem? er))
    have no : ∀ H',Same H5 H'→¬ RowG ls os tm ts [l,o,c]→Q (.bl false) H':=fun H' s' z=>q false H' ⟨fun z=>(by cases z),fun y=>absurd (iff.mp y _ (List.mem_of_getElem? er)) z⟩ (sm.trans s')
    have ex:=sm _ _ ex0
    have ey:=sm _ _ ey0
    have hx5:=hx.same sm
    have hy5:=hy.same sm
    have ht5:=ht.same sm
    have exr5:=sm _ _ exr
    refine ⟨pr,_,rfl,SqT.of (sm _ _ hpr),rfl,_,_,rfl,_,_,rfl,_,_,rfl,rfl,?_⟩
    refine tIfw (decide (¬ ((0≤l∧l < (ls.length : Int))∧(0≤o∧o < (os.length : Int))∧1≤c))) (fun Q' hq=>?_) (fun e=>?_) fun e=>?_
    · refine ⟨_,rfl,_,_,rfl,rfl,_,rfl,?_⟩
      by_cases c1 : 0≤l
      · rw [decide_eq_true c1]
        refine iteT ⟨_,rfl,a,_,rfl,.inl (SqL.of ex),_,_,rfl,rfl,_,rfl,?_⟩
        by_cases c2 : l < (xs.length : Int)
        · rw [decide_eq_true c2]
          refine iteF ⟨_,rfl,_,_,rfl,rfl,_,rfl,?_⟩
          by_cases c3 : 0≤o
          · rw [decide_eq_true c3]
            refine iteT ⟨_,rfl,b,_,rfl,.inl (SqL.of ey),_,_,rfl,rfl,_,rfl,?_⟩
            by_cases c4 : o < (ys.length : Int)
            · rw [decide_eq_true c4]
              refine iteF ⟨_,rfl,_,_,rfl,rfl,_,rfl,?_⟩
              have e : decide (c < 1)=decide (¬ ((0≤l∧l < (ls.length : Int))∧(0≤o∧o < (os.length : Int))∧1≤c)):=by
                rw [Bool.eq_iff_iff,decide_eq_true_iff,decide_eq_true_iff]; omega
              rw [e]; exact hq
            · rw [decide_eq_false c4]
              rw [decide_eq_true (by omega)] at hq
              exact iteT hq
          · rw [decide_eq_false c3]
            rw [decide_eq_true (by omega)] at hq
            exact iteF ⟨_,rfl,iteT hq⟩
        · rw [decide_eq_false c2]
          rw [decide_eq_true (by omega)] at hq
          exact iteT hq
      · rw [decide_eq_false c1]
        rw [decide_eq_true (by omega)] at hq
        exact iteF ⟨_,rfl,iteT hq⟩
    · exact no H5 (Same.refl _) fun z=>(of_decide_eq_true e) ⟨z.l,z.o,z.c⟩
    · have e:=Classical.not_not.mp (of_decide_eq_false e)
      obtain ⟨⟨l0,l1⟩,⟨o0,o1⟩,c1⟩:=e
      obtain ⟨r,er1⟩ : ∃ r,os[o.toNat]? = some r:=⟨_,List.getElem?_eq_getElem (by omega)⟩
      obtain ⟨x,ex1⟩ : ∃ x,ls[l.toNat]? = some x:=⟨_,List.getElem?_eq_getElem (by omega)⟩
      obtain ⟨v,ev⟩ : ∃ v,ys[o.toNat]? = some v:=⟨_,List.getElem?_eq_getElem (by omega)⟩
      obtain ⟨v',ev'⟩ : ∃ v,xs[l.toNat]? = some v:=⟨_,List.getElem?_eq_getElem (by omega)⟩
      obtain ⟨p1,rfl,hp1⟩:=hy5.2 _ _ _ ev er1
      obtain ⟨p2,rfl,hp2⟩:=hx5.2 _ _ _ ev' ex1
      obtain ⟨rd,rc,rfl,_⟩:=g.og r (List.mem_of_getElem? er1)
      obtain ⟨xd,xc,xu,rfl,_⟩:=g.lg x (List.mem_of_getElem? ex1)
      have cO : ∀ k,colAt os k o=[rd,rc].getD k 0:=fun k=>by unfold colAt; rw [getD_row er1]
      have cL : ∀ k,colAt ls k l=[xd,xc,xu].getD k 0:=fun k=>by unfold colAt; rw [getD_row ex1]
      dsimp only [tNext]
      refine tIfw (decide (¬ (0≤rd - xd∧rd - xd≤tm))) (fun Q' hq=>?_) (fun e=>?_) fun e=>?_
      · refine ⟨_,rfl,_,rfl,b,_,o,_,rfl,rfl,SqL.of ey,atI_some o0 ev,p1,_,0,_,rfl,rfl,SqT.of hp1,rfl,?_⟩
        refine ⟨_,rfl,_,rfl,a,_,l,_,rfl,rfl,SqL.of ex,atI_some l0 ev',p2,_,0,_,rfl,rfl,SqT.of hp2,rfl,?_⟩
        refine ⟨_,_,rfl,rfl,_,_,rfl,rfl,_,rfl,?_⟩
        by_cases c2 : 0≤rd - xd
        · rw [decide_eq_true c2]
          refine iteT ⟨_,rfl,_,_,rfl,rfl,_,rfl,?_⟩
          have e : (!decide (rd - xd≤tm))=decide (¬ (0≤rd - xd∧rd - xd≤tm)):=by
            rw [Bool.eq_iff_iff,Bool.not_eq_true',decide_eq_false_iff_not,decide_eq_true_iff]; omega
          show Q' (!decide (rd - xd≤tm)) _
          rw [e]; exact hq
        · rw [decide_eq_false c2]
          rw [decide_eq_true (by omega)] at hq
          exact iteF ⟨_,rfl,hq⟩
      · refine no H5 (Same.refl _) fun z=>(of_decide_eq_true e) ?_
        have:=z.d
        have u1:=cO 0
        have u2:=cL 0
        change 0≤colAt os 0 o - colAt ls 0 l∧colAt os 0 o - colAt ls 0 l≤tm at this
        rw [u1,u2] at this
        exact this
      have e2:=Classical.not_not.mp (of_decide_eq_false e)
      dsimp only [tNext]
      refine tIfB_by (fun y H'=>Same H5 H'∧(y=true↔1 < lawCnt ts l o)) (fun Q' hq=>?_) (fun H6 h6=>?_) fun H6 h6=>?_
      · refine ⟨_,rfl,p,rfl,⟨xr,SqL.of exr5⟩,fun D hD=>?_⟩
        refine comp_by (fun i zs _=>zs.length=lawCnt (ts.take i) l o) hD exr5 (by omega) (fun i zs _ _ h _=>h) rfl (fun i x zs H2 e2 s2 hz K1 K2 k1 k2=>?_) fun zs H2 s2 hz ln hD2=>?_
        · obtain ⟨pr,r,rfl,er',hpr'⟩:=ht5.at e2
          obtain ⟨l',o',c',rfl⟩:=len3 (h3 r (List.mem_of_getElem? er'))
          refine ⟨keep_set keep_refl rfl,_,rfl,pr,_,0,_,rfl,rfl,SqT.of (s2 _ _ hpr'),rfl,_,rfl,rfl,_,rfl,?_⟩
          have nx:=lawCnt_next (l:=l) (o:=o) er'
          rw [dec_int]
          by_cases cc : l' = l
          · rw [beq_iff_eq.mpr cc]
            refine iteT ⟨_,rfl,pr,_,1,_,rfl,rfl,SqT.of (s2 _ _ hpr'),rfl,_,rfl,rfl,_,rfl,?_⟩
            rw [dec_int]
            by_cases cd : o' = o
            · rw [if_pos (show [l',o',c'].getD 0 0=l∧[l',o',c'].getD 1 0=o from ⟨cc,cd⟩)] at nx
              rw [beq_iff_eq.mpr cd]
              refine iteT ⟨_,rfl,k1 _ _ (Same.refl _) ?_⟩
              rw [nx,List.length_append,hz]; rfl
            · rw [if_neg (show ¬ ([l',o',c'].getD 0 0=l∧[l',o',c'].getD 1 0=o) from fun z=>cd z.2)] at nx
              rw [beq_eq_false_iff_ne.mpr cd]
              refine iteF (k2 _ (Same.refl _) ?_)
              rw [nx]; exact hz
          · rw [if_neg (show ¬ ([l',o',c'].getD 0 0=l∧[l',o',c'].getD 1 0=o) from fun z=>cc z.1)] at nx
            rw [beq_eq_false_iff_ne.mpr cc]
            refine iteF (iteF (k2 _ (Same.refl _) ?_))
            rw [nx]; exact hz
        · rw [lt,List.take_length] at hz
          refine ⟨D,zs,rfl,.inl (SqL.of hD2),_,_,rfl,rfl,_,rfl,hq _ _ ⟨s2,?_⟩⟩
          rw [decide_eq_true_iff,← hz]; omega
      · exact no H6 h6.1 fun z=>absurd z.n (by have:=h6.2.mp rfl; show ¬ lawCnt ts l o≤1; omega)
      dsimp only [tNext]
      refine tIfB_by (fun y H'=>Same H6 H'∧(y=true↔xc < lawSum 0 ts l)) (fun Q' hq=>?_) (fun H7 h7=>?_) fun H7 h7=>?_
      · refine ⟨_,rfl,p,rfl,⟨xr,SqL.of (h6.1 _ _ exr5)⟩,fun D hD=>?_⟩
        refine comp_by (fun i zs _=>zs=(lawRow 0 (ts.take i) l).map V.int) hD (h6.1 _ _ exr5) (by omega) (fun i zs _ _ h _=>h) rfl (fun i x zs H2 e2 s2 hz K1 K2 k1 k2=>?_) fun zs H2 s2 hz ln hD2=>?_
        · obtain ⟨pr,r,rfl,er',hpr'⟩:=(ht5.same h6.1).at e2
          obtain ⟨l',o',c',rfl⟩:=len3 (h3 r (List.mem_of_getElem? er'))
          refine ⟨keep_set keep_refl rfl,_,rfl,pr,_,0,_,rfl,rfl,SqT.of (s2 _ _ hpr'),rfl,_,rfl,rfl,_,rfl,?_⟩
          have nx:=lawRow_next (c:=0) (j:=l) er'
          rw [dec_int]
          by_cases cc : l' = l
          · rw [if_pos (show [l',o',c'].getD 0 0=l from cc)] at nx
            rw [beq_iff_eq.mpr cc]
            refine iteT ⟨_,rfl,pr,_,2,_,rfl,rfl,SqT.of (s2 _ _ hpr'),rfl,k1 _ _ (Same.refl _) ?_⟩
            rw [nx,List.map_append,← hz]; rfl
          · rw [if_neg (show ¬ [l',o',c'].getD 0 0=l from cc),List.append_nil] at nx
            rw [beq_eq_false_iff_ne.mpr cc]
            refine iteF (k2 _ (Same.refl _) ?_)
            rw [nx]; exact hz
        · rw [lt,List.take_length] at hz
          subst hz
          refine ⟨D,_,rfl,SqL.of hD2,_,rfl,_,rfl,a,_,l,_,rfl,rfl,SqL.of ((h6.1.trans s2) _ _ ex),atI_some l0 ev',p2,_,1,_,rfl,rfl,SqT.of ((h6.1.trans s2) _ _ hp2),rfl,_,_,rfl,rfl,_,rfl,hq _ _ ⟨s2,decide_eq_true_iff⟩⟩
      · refine no H7 (h6.1.trans h7.1) fun z=>absurd z.sl ?_
        show ¬ lawSum 0 ts l≤colAt ls 1 l
        rw [cL 1]
        have:=h7.2.mp rfl
        show ¬ lawSum 0 ts l≤xc
        omega
      dsimp only [tNext]
      have s57:=h6.1.trans h7.1
      refine tIfB_by (fun y H'=>Same H7 H'∧(y=true↔rc < lawSum 1 ts o)) (fun Q' hq=>?_) (fun H8 h8=>?_) fun H8 h8=>?_
      · refine ⟨_,rfl,p,rfl,⟨xr,SqL.of (s57 _ _ exr5)⟩,fun D hD=>?_⟩
        refine comp_by (fun i zs _=>zs=(lawRow 1 (ts.take i) o).map V.int) hD (s57 _ _ exr5) (by omega) (fun i zs _ _ h _=>h) rfl (fun i x zs H2 e2 s2 hz K1 K2 k1 k2=>?_) fun zs H2 s2 hz ln hD2=>?_
        · obtain ⟨pr,r,rfl,er',hpr'⟩:=(ht5.same s57).at e2
          obtain ⟨l',o',c',rfl⟩:=len3 (h3 r (List.mem_of_getElem? er'))
          refine ⟨keep_set keep_refl rfl,_,rfl,pr,_,1,_,rfl,rfl,SqT.of (s2 _ _ hpr'),rfl,_,rfl,rfl,_,rfl,?_⟩
          have nx:=lawRow_next (c:=1) (j:=o) er'
          rw [dec_int]
          by_cases cc : o' = o
          · rw [if_pos (show [l',o',c'].getD 1 0=o from cc)] at nx
            rw [beq_iff_eq.mpr cc]
            refine iteT ⟨_,rfl,pr,_,2,_,rfl,rfl,SqT.of (s2 _ _ hpr'),rfl,k1 _ _ (Same.refl _) ?_⟩
            rw [nx,List.map_append,← hz]; rfl
          · rw [if_neg (show ¬ [l',o',c'].getD 1 0=o from cc),List.append_nil] at nx
            rw [beq_eq_false_iff_ne.mpr cc]
            refine iteF (k2 _ (Same.refl _) ?_)
            rw [nx]; exact hz
        · rw [lt,List.take_length] at hz
          subst hz
          refine ⟨D,_,rfl,SqL.of hD2,_,rfl,_,rfl,b,_,o,_,rfl,rfl,SqL.of ((s57.trans s2) _ _ ey),atI_some o0 ev,p1,_,1,_,rfl,rfl,SqT.of ((s57.trans s2) _ _ hp1),rfl,_,_,rfl,rfl,_,rfl,hq _ _ ⟨s2,decide_eq_true_iff⟩⟩
      · refine no H8 (s57.trans h8.1) fun z=>absurd z.so ?_
        show ¬ lawSum 1 ts o≤colAt os 1 o
        rw [cO 1]
        have:=h8.2.mp rfl
        show ¬ lawSum 1 ts o≤rc
        omega
      refine ⟨_,_,_,rfl,sm.trans (s57.trans h8.1),fun r hr=>?_⟩
      rw [getElem_next er] at hr
      rcases List.mem_append.mp hr with z | z
      · exact hg r z
      · rw [List.mem_singleton.mp z]
        have n6 : ¬ 1 < lawCnt ts l o:=fun z=>absurd (h6.2.mpr z) (by simp)
        have n7 : ¬ xc < lawSum 0 ts l:=fun z=>absurd (h7.2.mpr z) (by simp)
        have n8 : ¬ rc < lawSum 1 ts o:=fun z=>absurd (h8.2.mpr z) (by simp)
        refine ⟨⟨l0,l1⟩,⟨o0,o1⟩,c1,?_,by show lawCnt ts l o≤1; omega,?_,?_⟩
        · show 0≤colAt os 0 o - colAt ls 0 l∧colAt os 0 o - colAt ls 0 l≤tm
          rw [cO 0,cL 0]; exact e2
        · show lawSum 0 ts l≤colAt ls 1 l
          rw [cL 1]; show _≤xc; omega
        · show lawSum 1 ts o≤colAt os 1 o
          rw [cO 1]; show _≤rc; omega
  · rintro σ H5 ⟨o4,o5,o6,rfl,sm,hg⟩
    refine q true H5 ⟨fun _=>iff.mpr fun r hr=>hg r ?_,fun _=>rfl⟩ sm
    rw [lt,List.take_length]; exact hr
theorem ok_bent (G_pick : Cal P w K mg base CX0 1 "_law_pick" p_pick spPick) (F : Fun K "_law_bent" "_law_bent" s_bent f fd) : FnOk P w K mg base CX0 2 f fd p_bent spBentR:=by
  refine F.ok sc_bent (fun vs H Q E h=>?_) (fun cdv A outer s H vs Q E hr h=>?_)
  · obtain ⟨a,c,p,ts,rfl,_⟩:=h; rfl
  obtain ⟨a,c,p,ts,rfl,d0,npa,hT,h3,hn,q⟩:=h
  refine ⟨_,(pss_cons (ps_set (i:=2) sc_bent.nd rfl (Or.inl rfl) (pe_cal G_pick hr rfl pass0 (pa_c (pv 0) (pa_c pe_int pa_nil))))
    (pss_cons (ps_set (i:=3) sc_bent.nd rfl (Or.inl rfl) (pe_ix ix_tup (pe_tup (pa_c pe_int (pa_c pe_int (pa_c (pe_un un_neg pe_int) (pa_c (pe_cal G_pick hr rfl pass0 (pa_c (pv 0) (pa_c pe_int pa_nil))) (pa_c (pe_op op_pow pe_int pe_int) pa_nil)))))) (pe_cal G_pick hr rfl pass0 (pa_c (pv 0) (pa_c pe_int pa_nil))) (fun _ _=>rfl)))
    (pss_cons (ps_if (PW.pt (pw_or (pt_cmpR (op_eqL hr.units) (pv 1) (pe_lst pa_nil) (nomark _)) (pw_or1 (pt_cmpR op_eq (pv 2) pe_int (nomark _))))) (pss_one (ps_ret (pe_op op_cat (pv 1) (pe_lst (pa_c (pe_tup (pa_c (pe_op op_sub (pe_cal G_pick hr rfl pass0 (pa_c (pv 0) (pa_c pe_int pa_nil))) pe_int) (pa_c (pe_op op_sub (pe_cal G_pick hr rfl pass0 (pa_c (pv 0) (pa_c pe_int pa_nil))) pe_int) (pa_c (pv 3) pa_nil)))) pa_nil))))) pss_nil)
    (pss_cons (ps_set (i:=4) sc_bent.nd rfl (Or.inl rfl) (pe_cal G_pick hr rfl pass0 (pa_c (pv 0) (pa_c (pe_callB call_len_seq rfl B.len PySem.boot_len (pa_c (pv 1) pa_nil)) pa_nil))))
    (pss_cons (ps_asg (pe_ix ix_list (pv 1) (pv 4) (fun _ _=>rfl)) (pg_tup rfl (pgs_cons (pg_name (i:=5) sc_bent.nd rfl (Or.inl rfl)) (pgs_cons (pg_name (i:=6) sc_bent.nd rfl (Or.inl rfl)) (pgs_cons (pg_name (i:=7) sc_bent.nd rfl (Or.inl rfl)) pgs_nil)))))
    (pss_cons (ps_if (pt_cmpR op_eq (pv 2) pe_int (nomark _)) (pss_one (ps_ret (pe_op op_cat (pe_slice sl_list (pv 1) po_none (po_some (pv 4))) (pe_slice sl_list (pv 1) (po_some (pe_op op_add (pv 4) pe_int)) po_none)))) pss_nil)
    (pss_cons (ps_if (pt_cmpR op_eq (pv 2) pe_int (nomark _)) (pss_one (ps_ret (pe_op op_cat (pv 1) (pe_lst (pa_c (pe_tup (pa_c (pv 5) (pa_c (pv 6) (pa_c (pv 3) pa_nil)))) pa_nil))))) pss_nil)
    (pss_cons (ps_set (i:=8) sc_bent.nd rfl (Or.inl rfl) (pe_ix ix_tup (pe_tup (pa_c (pe_tup (pa_c (pv 3) (pa_c (pv 6) (pa_c (pv 7) pa_nil)))) (pa_c (pe_tup (pa_c (pv 5) (pa_c (pv 3) (pa_c (pv 7) pa_nil)))) (pa_c (pe_tup (pa_c (pv 5) (pa_c (pv 6) (pa_c (pv 3) pa_nil)))) (pa_c (pe_tup (pa_c (pv 5) (pa_c (pv 6) (pa_c (pe_op op_add (pv 7) pe_int) pa_nil)))) pa_nil))))) (pe_op op_sub (pv 2) pe_int) (fun _ _=>rfl)))
    (pss_one (ps_ret (pe_op op_cat (pe_op op_cat (pe_slice sl_list (pv 1) po_none (po_some (pv 4))) (pe_lst (pa_c (pv 8) pa_nil))) (pe_slice sl_list (pv 1) (po_some (pe_op op_add (pv 4) pe_int)) po_none)))))))))))),?_⟩
  refine ⟨_,rfl,a,c,7,rfl,d0,by decide,by decide,fun way H1 w0 w1 d1 kb1=>?_⟩
  refine ⟨_,rfl,_,rfl,a,c,9,rfl,d1,by decide,by decide,fun r9 H2 _ _ d2 kb2=>?_⟩
  refine ⟨_,_,rfl,rfl,⟨by decide,by decide,by decide⟩,by show 5≤sizeLine; decide,fun tp htp=>?_⟩
  have k2:=kb1.trans kb2
  refine ⟨_,rfl,a,c,5,rfl,d2.new htp,by decide,by decide,fun r5 H3 r50 r51 d3 kb3=>?_⟩
  have k3 : KeepBut a H H3:=(k2.new htp).trans kb3
  have tp3:=kb3 _ _ (d2.ne htp) upd_same
  obtain ⟨sm,esm⟩:=at_int (xs:=[V.int 0,.int 1,.int (-1),.int r9,.int (10 ^ (29 : Int).toNat)]) (fun x hx=>by
    simp only [List.mem_cons,List.not_mem_nil,or_false] at hx
    rcases hx with e | e | e | e | e <;> exact ⟨_,e⟩) r50 r51
  refine ⟨tp,_,r5,_,rfl,rfl,SqT.of tp3,esm,?_⟩
  have R3:=hT.keep npa d0 k3
  obtain ⟨xs,ex,ht⟩:=R3.tups
  clear esm tp3 kb3 kb2 kb1 htp d2 d1
  have fin : ∀ (H' : Hp) (zs : List V) (us : List (List Int)) (l : Addr),DrawAt H' a c→KeepBut a H H'→Tups H' zs us→(∀ r∈us,r.length=3)→us.length≤ts.length + 1→H' l=none→Q (.ref l) (L2.upd H' l (.lst zs)):=fun H' zs us l d' k' hz h' hl hn'=>
    q l us _ (k'.none (d'.ne hn') hn') ((hz.same (same_new hn' _)).rows upd_same) h' hl (d'.new hn') (k'.new hn')
  have lt : xs.length=ts.length:=ht.1
  dsimp only
  refine tIfB_by (fun y H'=>DrawAt H' a c∧KeepBut a H H'∧H' p=some (.lst xs)∧Tups H' xs ts∧(y=false→0 < ts.length∧way≠0)) (fun Q' hq=>?_) (fun H4 h4=>?_) fun H4 h4=>?_
  · refine ⟨_,rfl,by show 0≤sizeLine; decide,fun e he=>?_⟩
    have se:=same_new (H:=H3) he (.lst [])
    have mk : ∀ y : Bool,(y=false→0 < ts.length∧way≠0)→Q' y (L2.upd H3 e (.lst [])):=fun y hy=>hq y _ ⟨d3.new he,k3.new he,se _ _ ex,ht.same se,hy⟩
    refine cmp_nil (se _ _ ex) upd_same ⟨_,rfl,?_⟩
    by_cases c0 : xs.length=0
    · rw [decide_eq_true c0]
      exact iteT (mk true fun z=>by cases z)
    · rw [decide_eq_false c0]
      refine iteF ⟨_,rfl,rfl,_,rfl,?_⟩
      rw [dec_int]
      refine mk _ fun z=>⟨by omega,?_⟩
      intro e0
      rw [e0] at z
      exact absurd z (by decide)
  · obtain ⟨d4,k4,ex4,ht4,_⟩:=h4
    refine ⟨_,rfl,_,rfl,a,c,9,rfl,d4,by decide,by decide,fun x5 H5 _ _ d5 kb5=>⟨_,_,rfl,rfl,_,rfl,a,c,9,rfl,d5,by decide,by decide,fun x6 H6 _ _ d6 kb6=>⟨_,_,rfl,rfl,_,rfl,by show 3≤sizeLine; decide,fun t1 ht1=>⟨by show 1≤sizeLine; decide,fun l1 hl1=>?_⟩⟩⟩⟩
    have kb:=kb5.trans kb6
    have sn:=(same_new ht1 (.tup [.int (x5 - 1),.int (x6 - 1),.int sm])).trans (same_new hl1 (.lst [.ref t1]))
    refine ⟨p,l1,xs,[.ref t1],rfl,rfl,sn _ _ (kb _ _ npa ex4),upd_same,small1000 (by omega),fun l hl=>?_⟩
    refine fin _ _ (ts ++ [[x5 - 1,x6 - 1,sm]]) l ((d6.new ht1).new hl1) (((k4.trans kb).new ht1).new hl1) (((ht4.draw d4 kb).same sn).append (Tups.one (same_new hl1 _ _ _ upd_same))) (fun r hr=>?_) (by rw [List.length_append]; exact Nat.le_refl _) hl
    rcases List.mem_append.mp hr with z | z
    · exact h3 r z
    · rw [List.mem_singleton.mp z]; rfl
  obtain ⟨d4,k4,ex4,ht4,hw⟩:=h4
  obtain ⟨pos,wn⟩:=hw rfl
  dsimp only [tNext]
  refine ⟨_,rfl,_,rfl,p,_,rfl,.inl (SqL.of ex4),a,c,_,rfl,d4,by omega,by omega,fun at_ H5 at0 at1 d5 kb5=>?_⟩
  have ex5:=kb5 _ _ npa ex4
  have ht5:=ht4.draw d4 kb5
  have k5:=k4.trans kb5
  obtain ⟨v,ev⟩ : ∃ v,xs[at_.toNat]? = some v:=⟨_,List.getElem?_eq_getElem (by omega)⟩
  obtain ⟨pr,r,rfl,er,hpr⟩:=ht5.at ev
  obtain ⟨l,o,cc,rfl⟩:=len3 (h3 r (List.mem_of_getElem? er))
  refine ⟨_,rfl,_,rfl,p,_,at_,_,rfl,rfl,SqL.of ex5,atI_some at0 ev,pr,_,rfl,SqT.of hpr,rfl,_,_,rfl,_,_,rfl,_,_,rfl,rfl,?_⟩
  have e1 : (at_ + 1).toNat=at_.toNat + 1:=by omega
  have l3 : ∀ us : List (List Int),(∀ r∈us,r∈ts)→∀ r∈us,r.length=3:=fun us hu r hr=>h3 r (hu r hr)
  have tk3 : ∀ r∈ts.take at_.toNat,r∈ts:=fun r hr=>List.mem_of_mem_take hr
  have dr3 : ∀ r∈ts.drop (at_.toNat + 1),r∈ts:=fun r hr=>List.mem_of_mem_drop hr
  dsimp only
  refine tIfw (way == 1) (fun Q' hq=>?_) (fun _=>?_) fun w1=>?_
  · refine ⟨_,rfl,rfl,_,rfl,?_⟩
    rw [dec_int]; exact hq
  · refine ⟨_,rfl,_,rfl,_,rfl,p,xs,rfl,SqL.of ex5,fun p1 hp1=>?_⟩
    rw [cutTo _ at0]
    have s2:=same_new (H:=H5) hp1 (.lst (xs.take at_.toNat))
    refine ⟨_,rfl,_,rfl,_,_,rfl,rfl,_,rfl,p,xs,rfl,SqL.of (s2 _ _ ex5),fun p3 hp3=>?_⟩
    rw [cutFrom _ (show (0 : Int)≤at_ + 1 by omega),e1]
    have s4:=s2.trans (same_new hp3 (.lst (xs.drop (at_.toNat + 1))))
    refine ⟨p1,p3,_,_,rfl,rfl,same_new hp3 _ _ _ upd_same,upd_same,?_,fun p4 hp4=>?_⟩
    · rw [List.length_take,List.length_drop]; exact Nat.le_of_lt (small1000 (by omega))
    refine fin _ _ (ts.take at_.toNat ++ ts.drop (at_.toNat + 1)) p4 ((d5.new hp1).new hp3) ((k5.new hp1).new hp3) (((ht5.same s4).take _).append ((ht5.same s4).drop _)) (fun r hr=>?_) (by rw [List.length_append,List.length_take,List.length_drop]; omega) hp4
    rcases List.mem_append.mp hr with z | z
    · exact l3 _ tk3 r z
    · exact l3 _ dr3 r z
  dsimp only [tNext]
  refine tIfw (way == 2) (fun Q' hq=>?_) (fun _=>?_) fun w2=>?_
  · refine ⟨_,rfl,rfl,_,rfl,?_⟩
    rw [dec_int]; exact hq
  · refine ⟨_,rfl,_,rfl,_,rfl,_,rfl,by show 3≤sizeLine; decide,fun t1 ht1=>⟨by show 1≤sizeLine; decide,fun l1 hl1=>?_⟩⟩
    have sn:=(same_new ht1 (.tup [.int l,.int o,.int sm])).trans (same_new hl1 (.lst [.ref t1]))
    refine ⟨p,l1,xs,[.ref t1],rfl,rfl,sn _ _ ex5,upd_same,small1000 (by omega),fun l' hl=>?_⟩
    refine fin _ _ (ts ++ [[l,o,sm]]) l' ((d5.new ht1).new hl1) ((k5.new ht1).new hl1) ((ht5.same sn).append (Tups.one (same_new hl1 _ _ _ upd_same))) (fun r hr=>?_) (by rw [List.length_append]; exact Nat.le_refl _) hl
    rcases List.mem_append.mp hr with z | z
    · exact h3 r z
    · rw [List.mem_singleton.mp z]; rfl
  dsimp only [tNext]
  have w12 : 3≤way:=by
    have z1 : way≠1:=by simpa using w1
    have z2 : way≠2:=by simpa using w2
    omega
  refine ⟨_,rfl,_,rfl,_,rfl,by show 3≤sizeLine; decide,fun t1 h1=>?_⟩
  refine ⟨_,rfl,_,rfl,_,rfl,by show 3≤sizeLine; decide,fun t2 h2=>?_⟩
  refine ⟨_,rfl,_,rfl,_,rfl,by show 3≤sizeLine; decide,fun t3 h3'=>?_⟩
  refine ⟨_,rfl,_,rfl,_,rfl,_,_,rfl,rfl,by show 3≤sizeLine; decide,fun t4 h4'=>?_⟩
  have a1:=same_new h1 (.tup [.int sm,.int o,.int cc])
  have a2:=same_new h2 (.tup [.int l,.int sm,.int cc])
  have a3:=same_new h3' (.tup [.int l,.int o,.int sm])
  have a4:=same_new h4' (.tup [.int l,.int o,.int (cc + 1)])
  have b4:=a1.trans (a2.trans (a3.trans a4))
  have dd4:=(((d5.new h1).new h2).new h3').new (o:=.tup [.int l,.int o,.int (cc + 1)]) h4'
  have kk4:=(((k5.new h1).new h2).new h3').new (o:=.tup [.int l,.int o,.int (cc + 1)]) h4'
  have f1:=(a2.trans (a3.trans a4)) _ _ (upd_same (a:=t1) (H:=H5) (o:=.tup [.int sm,.int o,.int cc]))
  have f2:=(a3.trans a4) _ _ (upd_same (a:=t2) (o:=.tup [.int l,.int sm,.int cc]))
  have f3:=a4 _ _ (upd_same (a:=t3) (o:=.tup [.int l,.int o,.int sm]))
  have f4:=upd_same (a:=t4) (H:=L2.upd (L2.upd (L2.upd H5 t1 (.tup [.int sm,.int o,.int cc])) t2 (.tup [.int l,.int sm,.int cc])) t3 (.tup [.int l,.int o,.int sm])) (o:=.tup [.int l,.int o,.int (cc + 1)])
  refine ⟨by show 4≤sizeLine; decide,fun t5 h5=>?_⟩
  change L2.upd (L2.upd (L2.upd (L2.upd H5 t1 (.tup [.int sm,.int o,.int cc])) t2 (.tup [.int l,.int sm,.int cc])) t3 (.tup [.int l,.int o,.int sm])) t4 (.tup [.int l,.int o,.int (cc + 1)]) t5=none at h5
  generalize L2.upd (L2.upd (L2.upd (L2.upd H5 t1 (.tup [.int sm,.int o,.int cc])) t2 (.tup [.int l,.int sm,.int cc])) t3 (.tup [.int l,.int o,.int sm])) t4 (.tup [.int l,.int o,.int (cc + 1)])=H55 at *
  have a5:=same_new h5 (.tup [.ref t1,.ref t2,.ref t3,.ref t4])
  have dd:=dd4.new (o:=.tup [.ref t1,.ref t2,.ref t3,.ref t4]) h5
  have kk:=kk4.new (o:=.tup [.ref t1,.ref t2,.ref t3,.ref t4]) h5
  have s56:=b4.trans a5
  have g1:=a5 _ _ f1
  have g2:=a5 _ _ f2
  have g3:=a5 _ _ f3
  have g4:=a5 _ _ f4
  have g5:=upd_same (H:=H55) (a:=t5) (o:=.tup [.ref t1,.ref t2,.ref t3,.ref t4])
  generalize L2.upd H55 t5 (.tup [.ref t1,.ref t2,.ref t3,.ref t4])=H6 at *
  obtain ⟨pt,rt,hat,hpt,rl⟩ : ∃ pt rt,atI [V.ref t1,.ref t2,.ref t3,.ref t4] (way - 3)=some (.ref pt)∧H6 pt=some (.tup (List.map V.int rt))∧rt.length=3:=by
    have : way=3∨way=4∨way=5∨way=6:=by omega
    rcases this with rfl | rfl | rfl | rfl
    · exact ⟨t1,[sm,o,cc],rfl,g1,rfl⟩
    · exact ⟨t2,[l,sm,cc],rfl,g2,rfl⟩
    · exact ⟨t3,[l,o,sm],rfl,g3,rfl⟩
    · exact ⟨t4,[l,o,cc + 1],rfl,g4,rfl⟩
  clear a5 b4 g1 g2 g3 g4 f1 f2 f3 f4
  refine ⟨_,rfl,_,_,rfl,rfl,t5,_,way - 3,_,rfl,rfl,SqT.of g5,hat,?_⟩
  have ex6:=s56 _ _ ex5
  have ht6:=ht5.same s56
  refine ⟨_,rfl,_,rfl,_,rfl,p,xs,rfl,SqL.of ex6,fun p1 hp1=>?_⟩
  rw [cutTo _ at0]
  have s2:=same_new (H:=H6) hp1 (.lst (xs.take at_.toNat))
  refine ⟨_,rfl,by show 1≤sizeLine; decide,fun p2 hp2=>?_⟩
  have s3:=s2.trans (same_new hp2 (.lst [.ref pt]))
  refine ⟨p1,p2,_,_,rfl,rfl,same_new hp2 _ _ _ upd_same,upd_same,?_,fun p3 hp3=>?_⟩
  · rw [List.length_take]; exact Nat.le_of_lt (small1000 (by show _ + 1≤1000; omega))
  have s4:=s3.trans (same_new hp3 (.lst (xs.take at_.toNat ++ [.ref pt])))
  refine ⟨_,rfl,_,rfl,_,_,rfl,rfl,_,rfl,p,xs,rfl,SqL.of (s4 _ _ ex6),fun p4 hp4=>?_⟩
  rw [cutFrom _ (show (0 : Int)≤at_ + 1 by omega),e1]
  have s5:=s4.trans (same_new hp4 (.lst (xs.drop (at_.toNat + 1))))
  refine ⟨p3,p4,_,_,rfl,rfl,same_new hp4 _ _ _ upd_same,upd_same,?_,fun p5 hp5=>?_⟩
  · rw [List.length_append,List.length_take,List.length_drop]; exact Nat.le_of_lt (small1000 (by show _ + 1 + _≤1000; omega))
  refine fin _ _ (ts.take at_.toNat ++ [rt] ++ ts.drop (at_.toNat + 1)) p5 ((((dd.new hp1).new hp2).new hp3).new hp4) ((((kk.new hp1).new hp2).new hp3).new hp4) ((((ht6.same s5).take _).append (Tups.one (s5 _ _ hpt))).append ((ht6.same s5).drop _)) (fun r hr=>?_) (by rw [List.length_append,List.length_append,List.length_take,List.length_drop]; show _ + 1 + _≤_; omega) hp5
  rcases List.mem_append.mp hr with z | z
  · rcases List.mem_append.mp z with z | z
    · exact l3 _ tk3 r z
    · rw [List.mem_singleton.mp z]; exact rl
  · exact l3 _ dr3 r z
variable (G_begin : Cal P w K mg base CX0 1 "_law_begin" p_begin (spBegin K)) (G_pick : Cal P w K mg base CX0 1 "_law_pick" p_pick spPick) (G_case : Cal P w K mg base CX0 3 "_law_case" p_case spCase) (G_same : Cal P w K mg base CX0 3 "_law_same" n_same (spSame 3))
  (G_deal : Cal P w K mg base CX0 2 "_law_deal" p_deal (spDealT tb)) (G_some_counts : Cal P w K mg base CX0 5 "_law_some_counts" p_some_counts (spCountsT tb)) (G_good : Cal P w K mg base CX0 1 "_law_good" p_good spGoodL) (G_bent : Cal P w K mg base CX0 2 "_law_bent" p_bent spBentR)
  (G_is_dealing : Cal P w K mg base (CXE P w) 6 "is_dealing" p_is_dealing (spIsDeal cl))
include G_begin G_pick G_case G_same G_deal G_some_counts G_good G_bent G_is_dealing
theorem ok_law (F : Fun K "law" "law" s_law f fd) : FnOk P w K mg base CX0 7 f fd p_law (spLaw K tb):=by
  refine F.ok sc_law (fun vs H Q E h=>?_) (fun cdv A outer s H vs Q E hr h=>?_)
  · obtain ⟨a,ns,rfl,_⟩:=h; rfl
  obtain ⟨a0,ns,rfl,hTb,hS,hlen,q⟩:=h
  refine ⟨_,(pss_cons (ps_set (i:=1) sc_law.nd rfl (Or.inl rfl) (pe_cal G_begin hr rfl pass0 (pa_c (pv 0) pa_nil)))
    (pss_cons (ps_asg (pe_cal G_case hr rfl pass0 (pa_c (pv 1) (pa_c pe_int pa_nil))) (pg_tup rfl (pgs_cons (pg_name (i:=2) sc_law.nd rfl (Or.inl rfl)) (pgs_cons (pg_name (i:=3) sc_law.nd rfl (Or.inl rfl)) (pgs_cons (pg_name (i:=4) sc_law.nd rfl (Or.inl rfl)) pgs_nil)))))
    (pss_cons (ps_for PassesOwn.never rfl (pi_range1 rfl B.range (pa_c pe_int pa_nil)) (pg_name (i:=5) sc_law.nd rfl (Or.inl rfl)) (pss_cons (ps_set (i:=6) sc_law.nd rfl (Or.inl rfl) (pe_cal G_some_counts hr rfl pass0 (pa_c (pv 1) (pa_c (pv 2) (pa_c (pv 3) (pa_c (pv 4) pa_nil))))))
      (pss_cons (ps_set (i:=7) sc_law.nd rfl (Or.inl rfl) (pe_ix ix_tup (pe_cal G_deal hr rfl pass0 (pa_c (pv 2) (pa_c (pv 3) (pa_c (pv 4) (pa_c (pv 6) pa_nil))))) pe_int (fun _ _=>rfl)))
      (pss_cons (ps_for PassesOwn.never rfl (pi_range1 rfl B.range (pa_c (pe_ix ix_tup (pe_tup (pa_c pe_int (pa_c pe_int (pa_c pe_int (pa_c pe_int pa_nil))))) (pe_cal G_pick hr rfl pass0 (pa_c (pv 1) (pa_c pe_int pa_nil))) (fun _ _=>rfl)) pa_nil)) (pg_name (i:=8) sc_law.nd rfl (Or.inl rfl)) (pss_one (ps_set (i:=7) sc_law.nd rfl (Or.inl rfl) (pe_cal G_bent hr rfl pass0 (pa_c (pv 1) (pa_c (pv 7) pa_nil))))))
      (pss_cons (ps_set (i:=9) sc_law.nd rfl (Or.inl rfl) (pe_callTy call_list_of rfl B.list PyProof.Rows.boot_list (pa_c (pv 7) pa_nil)))
      (pss_cons (ps_set (i:=10) sc_law.nd rfl (Or.inl rfl) (pe_cal G_good hr rfl pass0 (pa_c (pv 2) (pa_c (pv 3) (pa_c (pv 4) (pa_c (pv 7) pa_nil))))))
      (pss_one (ps_if (PW.pt (pw_or (pt_not (pt_truth (pe_cal G_same hr rfl pass0 (pa_c (pe_cal G_is_dealing hr rfl passN (pa_c (pv 2) (pa_c (pv 3) (pa_c (pv 4) (pa_c (pv 7) pa_nil))))) (pa_c (pv 10) pa_nil))) (fun _=>rfl))) (pw_or1 (pt_cmpR (op_neL hr.units) (pv 7) (pv 9) (nomark _))))) (pss_one (ps_ret pe_bl)) pss_nil))))))))
    (pss_one (ps_ret (pe_cmpR op_isB (pe_cal G_is_dealing hr rfl passN (pa_c (pv 2) (pa_c (pv 3) (pa_c (pv 4) (pa_c (pe_lst pa_nil) pa_nil))))) pe_bl (nomark _))))))),?_⟩
  refine ⟨_,rfl,a0,ns,rfl,hS,hlen,fun a c H1 ha hc s1 d1=>?_⟩
  have T1:=hTb.same s1
  refine ⟨_,rfl,a,c,7,rfl,d1,by decide,by decide,fun t l o tm lo n sc ls os H2 hl ho nlo t0 t4 lo1 n6 h1000 sc0 sc1 hls hos lsn osn d2 kb2 R2l R2o ht=>?_⟩
  have nla : l≠a:=d1.ne hl
  have noa : o≠a:=d1.ne ho
  have g : GoodC ls os tm:=⟨fun r hr=>(hls r hr).good lo1 h1000 sc1,fun r hr=>(hos r hr).good lo1 h1000 sc1,by omega,by omega,t0,t4⟩
  have T2:=T1.keep d1 kb2
  refine ⟨t,_,rfl,SqT.of ht,rfl,_,_,rfl,_,_,rfl,_,_,rfl,rfl,?_⟩
  clear hTb s1 hS T1 d1 kb2 ht hls hos
  have ok:=g.ok
  refine ⟨4,rfl,by decide,by decide,?_⟩
  refine for_range (n:=4) (fun i σ H6=>∃ o5 o6 o7 o8 o9 o10,σ=[some (.ref a0),some (.ref a),some (.ref l),some (.ref o),some (.int tm),o5,o6,o7,o8,o9,o10]∧DrawAt H6 a c∧Rows H6 l ls∧Rows H6 o os∧Tb tb H6) ⟨_,_,_,_,_,_,rfl,d2,R2l,R2o,T2⟩ ?_ ?_
  · rintro i σ H3 hi ⟨o5,o6,o7,o8,o9,o10,rfl,d3,R3l,R3o,T3⟩
    refine ⟨_,rfl,_,rfl,_,rfl,_,rfl,a,c,l,o,tm,ls,os,rfl,d3,T3,R3l,R3o,nla,noa,ok,fun tk ts H4 htk tok d4 kb4 I4=>?_⟩
    have R4l:=R3l.keep nla d3 kb4
    have R4o:=R3o.keep noa d3 kb4
    have T4:=T3.keep d3 kb4
    refine ⟨_,rfl,_,rfl,_,rfl,_,rfl,l,o,tk,tm,ls,os,ts,rfl,T4,R4l,ok.h3,ok.rn,R4o,ok.h2,ok.on,I4,tok.1,fun qq lf ages outs H5 hqq hlf hage houts s5 R5 e5=>?_⟩
    obtain ⟨dl3,dln⟩:=dealL_ok (rs:=ls) (os:=os) (tm:=tm) (ages:=ages) (outs:=outs) (ts:=ts)
    have lag : ages.length=ls.length:=by rw [hage.1.length_eq,uptoN_length]
    have lou : outs.length=os.length:=by rw [houts.1.length_eq,uptoN_length]
    have dl49 : (dealL ls os tm ages outs ts).2.length≤49:=by
      rw [lag,lou] at dln
      exact Nat.le_trans dln (Nat.mul_le_mul (show os.length≤7 by omega) (show ls.length≤7 by omega))
    refine ⟨qq,_,0,_,rfl,rfl,SqT.of e5,rfl,?_⟩
    generalize (dealL ls os tm ages outs ts).2=us at R5 dl3 dl49
    have d5:=d4.same s5
    have R5l:=R4l.same s5
    have R5o:=R4o.same s5
    have T5:=T4.same s5
    have nfa : lf≠a:=d4.ne hlf
    clear s5 e5 hlf hqq dln hage houts lag lou I4 R4l R4o T4 d4 kb4 tok htk d3 R3l R3o T3
    refine ⟨by show 4≤sizeLine; decide,fun tp htp=>?_⟩
    have sp:=same_new (H:=H5) htp (.tup [.int 0,.int 1,.int 1,.int 2])
    refine ⟨_,rfl,a,c,4,rfl,d5.new htp,by decide,by decide,fun r4 H6 r40 r41 d6 kb6=>?_⟩
    have tp6:=kb6 _ _ (d5.ne htp) upd_same
    obtain ⟨m,em,m0,m2⟩ : ∃ m : Int,atI [V.int 0,.int 1,.int 1,.int 2] r4=some (.int m)∧0≤m∧m≤2:=by
      have : r4=0∨r4=1∨r4=2∨r4=3:=by omega
      rcases this with rfl | rfl | rfl | rfl
      · exact ⟨0,rfl,by decide,by decide⟩
      · exact ⟨1,rfl,by decide,by decide⟩
      · exact ⟨1,rfl,by decide,by decide⟩
      · exact ⟨2,rfl,by decide,by decide⟩
    refine ⟨tp,_,r4,_,rfl,rfl,SqT.of tp6,em,?_⟩
    have dn:=d5.new (o:=.tup [.int 0,.int 1,.int 1,.int 2]) htp
    have R6l:=(R5l.same sp).keep nla dn kb6
    have R6o:=(R5o.same sp).keep noa dn kb6
    have T6:=(T5.same sp).keep dn kb6
    have R6:=(R5.same sp).keep nfa dn kb6
    clear em tp6 dn htp sp kb6 d5 R5l R5o T5 R5
    refine ⟨m,rfl,by omega,by omega,?_⟩
    refine for_range (n:=m.toNat) (fun j σ H7=>∃ lf us o8,σ=[some (.ref a0),some (.ref a),some (.ref l),some (.ref o),some (.int tm),some (.int (0 + (i : Int))),some (.ref tk),some (.ref lf),o8,o9,o10]∧DrawAt H7 a c∧Rows H7 l ls∧Rows H7 o os∧Tb tb H7∧lf≠a∧Rows H7 lf us∧(∀ r∈us,r.length=3)∧us.length≤49 + j) ⟨lf,us,_,rfl,d6,R6l,R6o,T6,nfa,R6,dl3,dl49⟩ ?_ ?_
    · rintro j σ H7 hj ⟨lf,us,o8,rfl,d7,R7l,R7o,T7,nfa,R7,u3,un⟩
      refine ⟨_,rfl,_,rfl,a,c,lf,us,rfl,d7,nfa,R7,u3,by omega,fun lf' us' H8 hlf' R8 u3' un' d8 kb8=>?_⟩
      exact ⟨lf',us',_,rfl,d8,R7l.keep nla d7 kb8,R7o.keep noa d7 kb8,T7.keep d7 kb8,d7.ne hlf',R8,u3',by omega⟩
    clear d6 R6l R6o T6 R6 dl3 dl49
    rintro σ H7 ⟨lf,us,o8,rfl,d7,R7l,R7o,T7,nfa,R7,u3,un⟩
    dsimp only
    obtain ⟨xs,ex,hx⟩:=R7.tups
    refine ⟨_,rfl,lf,_,rfl,.inl (SqL.of ex),fun kp hkp=>?_⟩
    have sk:=same_new (H:=H7) hkp (.lst xs)
    have ek:=upd_same (H:=H7) (a:=kp) (o:=.lst xs)
    generalize L2.upd H7 kp (.lst xs)=H8 at *
    refine ⟨_,rfl,_,rfl,_,rfl,_,rfl,l,o,lf,tm,ls,os,us,rfl,R7l.same sk,R7o.same sk,g,R7.same sk,u3,by omega,fun x1 H9 hx1 s9=>?_⟩
    have s79:=sk.trans s9
    refine ⟨_,rfl,_,rfl,_,rfl,_,rfl,l,o,lf,tm,ls,os,us,rfl,R7l.same s79,g.h3,R7o.same s79,g.h2,R7.same s79,u3,by omega,fun n e=>(by rw [g.both] at e; cases e),fun _ x2 H10 hx2 s10=>?_⟩
    have e12 : x2=x1:=Bool.eq_iff_iff.mpr (hx2.trans hx1.symm)
    subst e12
    have s7':=s79.trans s10
    refine ⟨_,rfl,_,_,rfl,.flat rfl,fun H11 s11=>⟨_,rfl,iteF ?_⟩⟩
    have s7f:=s7'.trans s11
    refine ⟨_,rfl,_,rfl,cmp_copy (hx.same s7f) (s7f _ _ ex) ((s9.trans (s10.trans s11)) _ _ ek) ⟨_,rfl,iteF ?_⟩⟩
    exact ⟨_,_,_,_,_,_,rfl,d7.same s7f,R7l.same s7f,R7o.same s7f,T7.same s7f⟩
  · rintro σ H3 ⟨o5,o6,o7,o8,o9,o10,rfl,d3,R3l,R3o,T3⟩
    refine ⟨_,rfl,_,rfl,_,rfl,by show 0≤sizeLine; decide,fun e he=>?_⟩
    have se:=same_new (H:=H3) he (.lst [])
    refine ⟨l,o,e,tm,ls,os,[],rfl,R3l.same se,g.h3,R3o.same se,g.h2,Rows.nil upd_same,(fun r hr=>by simp at hr),(by decide),fun n e=>(by rw [g.both] at e; cases e),fun _ x H4 hx s4=>?_⟩
    have et : x=true:=hx.mpr ((isDeal_iff g).mpr fun r hr=>by simp at hr)
    subst et
    exact ⟨_,_,rfl,rfl,q _ (T3.same (se.trans s4))⟩
end
end K14
namespace L2
open PySem PySem.Spec PySem.W PyProof.Rows
theorem law_callT {P : Program} {w : World} {K : PySem.W.Frag} {mg mb : Str→Option Value} {CX : CXT} {k : Nat} {fa a : Addr} {fd : FuncData} {x : Str} {sp : Sp} {s₁ : Shared} {vs : List Value} {ns : List Int} {tb : Tbs}
    (KX : K.In s₁.heap) (hns : s₁.heap.Ns mainGlobals mg) (hb : s₁.heap.Ns builtinsNs mb) (hbb : ∀ x : Str,x ≠ "__name__" → mb x=bootBuiltins x) (hlim : s₁.heap.NoLimit) (hbm : BMain mg s₁.heap) (hg : s₁.gens = #[])
    (ha : s₁.heap.get? a=some { cls:=.type "list",data:=.seq vs.toArray }) (hi : IntsAre vs ns) (hl : ns.length≤sizeLine) (hr : Room k callerA)
    (hnd : (tb.map (·.1)).Nodup) (htab : ∀ t∈tb,s₁.heap.get? t.1=some (tabObj #[])∧K.lookup t.1=none∧∃ c,codeHdIn K c t.1=true)
    (F : ∀ base : Heap,K.In base→base.Ns mainGlobals mg→BMain mg base→FnOk P w K mg base CX k fa fd [x] sp) (hbind : ∀ (s : Shared) (u : Value),BindsTo s fd ⟨[u],[]⟩ [(x,u)])
    (hsp : ∀ H : Hp,Tb tb H→SqL K H a (ns.map V.int)→sp [.ref a] H (fun v H'=>v = .bl true∧Tb tb H') fun _ _ _=>False)
    (hCX : ∀ H e s',CX [] H s₁ (fun _ _ _=>False) e s'→False) :
    codeAny (model P w) callerA (.call (.ref fa) ⟨[.ref a],[]⟩) (fun r s'=>r = .ok (.ret (.bool true))∧OldK s₁.heap s'.heap∧s'.os=s₁.os∧AllBare s'.gens) s₁:=by
  have rv:=vals_ints hi
  have lenV:=hi.length
  have core : ∀ H : Hp,(∀ b u,H b=some u→(b=a∧∃ o xs,u = .frz o (.lst xs))∨∃ t∈tb,b=t.1∧u = .cod t.2.1 t.2.2)→Tb tb H→SqL K H a (ns.map V.int)→HOk P w H s₁.heap→(H a≠none→K.lookup a=none)→
      codeAny (model P w) callerA (.call (.ref fa) ⟨[.ref a],[]⟩) (fun r s'=>r = .ok (.ret (.bool true))∧OldK s₁.heap s'.heap∧s'.os=s₁.os∧AllBare s'.gens) s₁:=by
    intro H hO hT hS hok hK
    have base_of : ∀ {b : Addr} {o : Obj},s₁.heap.get? b=some o→H b=none→(hidT s₁.heap H).get? b=some o:=fun e n=>hidT_get e n
    have noA : ∀ {b : Addr} {o : Obj},s₁.heap.get? b=some o→o≠{ cls:=.type "list",data:=.seq vs.toArray }→o≠tabObj #[]→H b=none:=fun {b o} e d1 d2=>by
      cases q : H b with
      | none=>rfl
      | some u=>
        rcases hO b u q with ⟨e',_⟩ | ⟨t,ht,e',_⟩
        · rw [e',ha] at e; exact absurd (Option.some.inj e).symm d1
        · rw [e',(htab t ht).1] at e; exact absurd (Option.some.inj e).symm d2
    have nsK : ∀ {b : Addr} {m : Str→Option Value},s₁.heap.Ns b m→(hidT s₁.heap H).Ns b m:=fun {b m} ⟨o,es,ep,e,d,r⟩=>⟨o,es,ep,base_of e (noA e (fun z=>by rw [z] at d; cases d) fun z=>by rw [z] at d; cases d),d,r⟩
    have hKb : K.In (hidT s₁.heap H):=fun b o e=>base_of (KX b o e) (by
      cases q : H b with
      | none=>rfl
      | some u=>
        rcases hO b u q with ⟨e',_⟩ | ⟨t,ht,e',_⟩
        · subst e'
          rw [hK (by rw [q]; simp)] at e; cases e
        · rw [e',(htab t ht).2.1] at e; cases e)
    have hM : Mod K mg (hidT s₁.heap H):=⟨hKb,nsK hns,⟨mb,nsK hb,hbb⟩,let ⟨mc,h1,h2⟩:=hlim; ⟨mc,nsK h1,h2⟩⟩
    have hBM : BMain mg (hidT s₁.heap H):=by
      obtain ⟨bm,ob,b1,b2,b3,b4,b5,b6⟩:=hbm
      exact ⟨bm,ob,b1,b2,base_of b3 (noA b3 (fun z=>by rw [z] at b6; cases b6) fun z=>by rw [z] at b6; cases b6),b4,b5,b6⟩
    have e0 : Env0 P w K mg (hidT s₁.heap H) callerA [] s₁ H:=⟨rfl,hM,fun b o e=>of_hidT e,Nat.le_of_eq (hidT_size _ _),trivial,fun b hb=>absurd (show b∈([] : List Addr) from hb) (by simp),hok,.of_eq hg⟩
    refine codeAny_mono ((F _ hKb (nsK hns) hBM).run callerA [] s₁ H ⟨[.ref a],[]⟩ [.ref a] [.ref a] _ _ hr e0 (hbind s₁ (.ref a)) (.cons rfl .nil) (hsp H hT hS)) fun r s' h=>?_
    cases r with
    | error e=>exact (hCX H e s' h).elim
    | ok fl=>
      cases fl with
      | next=>exact False.elim h
      | brk=>exact False.elim h
      | cont=>exact False.elim h
      | ret u=>
        obtain ⟨v,H',os,bare,un,hok',r',q⟩:=h
        have q' : v = .bl true∧Tb tb H':=q
        obtain ⟨rfl,hT'⟩:=q'
        obtain rfl : u=Value.bool true:=r'
        have old : ∀ b o,s₁.heap.get? b=some o→s'.heap.get? b=some o∨∃ t∈tb,b=t.1:=fun b o e=>by
          cases q : H b with
          | none=>exact .inl (un.keep b o e q (by intro z; exact absurd (show b∈([] : List Addr) from z) (by simp)) (by simp))
          | some u=>
            rcases hO b u q with ⟨e',ob,xs,z⟩ | ⟨t,ht,e',_⟩
            · subst z
              have z2:=un.frzs b ob _ q
              obtain ⟨e1,_⟩:=hok b _ q
              obtain ⟨e2,_⟩:=hok' b _ z2
              rw [e] at e1; cases e1
              exact .inl e2
            · exact .inr ⟨t,ht,e'⟩
        refine ⟨rfl,⟨fun b o e=>?_,fun b o e=>?_⟩,os,bare⟩
        · rcases old b o e with z | ⟨t,ht,rfl⟩
          · exact .inl z
          · obtain ⟨h1,_,c,hc⟩:=htab t ht
            rw [h1] at e; cases e
            have tt : s₁.heap.TableAt c t.1 #[]:=(codeHd_of_K KX hc).tab h1
            rcases (show ObjOk P w H' s'.heap t.1 (.cod t.2.1 t.2.2) from hok' _ _ (hT' t ht)) with z | ⟨c',z,_⟩
            · exact .inl z
            · exact .inr (.inl ⟨tt.isCodeTable,rfl,#[],_,rfl,by rw [z]; simp; rfl⟩)
        · rcases old b o e with z | ⟨t,ht,rfl⟩
          · exact ⟨o,z⟩
          · rcases (show ObjOk P w H' s'.heap t.1 (.cod t.2.1 t.2.2) from hok' _ _ (hT' t ht)) with z | ⟨c',z,_⟩
            · exact ⟨_,z⟩
            · exact ⟨_,z⟩
  have look : ∀ (l : Tbs) (b : Addr),(∃ t∈l,t.1=b∧(l.find? fun t=>t.1 == b)=some t)∨((∀ t∈l,t.1≠b)∧(l.find? fun t=>t.1 == b)=none):=fun l b=>by
    cases e : l.find? fun t=>t.1 == b with
    | none=>exact .inr ⟨fun t ht z=>by have:=List.find?_eq_none.mp e t ht; simp [z] at this,rfl⟩
    | some t=>exact .inl ⟨t,List.mem_of_find?_eq_some e,by simpa using List.find?_some e,rfl⟩
  have uniq : ∀ t∈tb,(tb.find? fun s=>s.1 == t.1)=some t:=fun t ht=>by
    rcases look tb t.1 with ⟨s,hs,e,f⟩ | ⟨n,_⟩
    · rw [f]
      have : s=t:=by
        obtain ⟨i,hi,ei⟩:=List.getElem_of_mem hs
        obtain ⟨j,hj,ej⟩:=List.getElem_of_mem ht
        have h1 : (tb.map (·.1))[i]'(by simpa using hi)=(tb.map (·.1))[j]'(by simpa using hj):=by simp [ei,ej,e]
        have:=(List.getElem_inj hnd).mp h1
        subst this
        rw [← ei,← ej]
      rw [this]
    · exact absurd rfl (n t ht)
  have nat : ∀ t∈tb,t.1≠a:=fun t ht z=>by
    have:=(htab t ht).1
    rw [z,ha] at this; cases this
  cases hk : K.lookup a with
  | some o=>
    have e:=KX a o hk
    rw [ha] at e
    cases e
    refine core (fun b=>(tb.find? fun t=>t.1 == b).map fun t=>.cod t.2.1 t.2.2) (fun b u h=>?_) (fun t ht=>by show (tb.find? fun s=>s.1 == t.1).map _=_; rw [uniq t ht]; rfl) (.inr ⟨_,vs.toArray,_,hk,rfl,rfl,rfl,by rw [List.size_toArray,lenV]; exact hl,by simpa using rv⟩) (fun b u h=>?_) fun z=>?_
    · rcases look tb b with ⟨t,ht,e,f⟩ | ⟨_,f⟩
      · have h' : (tb.find? fun t=>t.1 == b).map (fun t=>HO.cod t.2.1 t.2.2)=some u:=h
        rw [f] at h'; cases h'
        exact .inr ⟨t,ht,e.symm,rfl⟩
      · have h' : (tb.find? fun t=>t.1 == b).map (fun t=>HO.cod t.2.1 t.2.2)=some u:=h
        rw [f] at h'; cases h'
    · rcases look tb b with ⟨t,ht,e,f⟩ | ⟨_,f⟩
      · have h' : (tb.find? fun t=>t.1 == b).map (fun t=>HO.cod t.2.1 t.2.2)=some u:=h
        rw [f] at h'; cases h'
        exact .inl (by rw [← e]; exact (htab t ht).1)
      · have h' : (tb.find? fun t=>t.1 == b).map (fun t=>HO.cod t.2.1 t.2.2)=some u:=h
        rw [f] at h'; cases h'
    · rcases look tb a with ⟨t,ht,e,_⟩ | ⟨_,f⟩
      · exact absurd e (nat t ht)
      · exact absurd (show (tb.find? fun t=>t.1 == a).map (fun t=>HO.cod t.2.1 t.2.2)=none by rw [f]; rfl) z
  | none=>
    refine core (fun b=>if b=a then some (.frz { cls:=.type "list",data:=.seq vs.toArray } (.lst (ns.map V.int))) else (tb.find? fun t=>t.1 == b).map fun t=>.cod t.2.1 t.2.2) (fun b u h=>?_) (fun t ht=>?_) (.inl (.inr ⟨{ cls:=.type "list",data:=.seq vs.toArray },if_pos rfl⟩)) (fun b u h=>?_) fun _=>hk
    · by_cases hb : b=a
      · have h':=(if_pos hb).symm.trans h
        cases h'
        exact .inl ⟨hb,_,_,rfl⟩
      · have h' : (tb.find? fun t=>t.1 == b).map (fun t=>HO.cod t.2.1 t.2.2)=some u:=(if_neg hb).symm.trans h
        rcases look tb b with ⟨t,ht,e,f⟩ | ⟨_,f⟩
        · rw [f] at h'; cases h'
          exact .inr ⟨t,ht,e.symm,rfl⟩
        · rw [f] at h'; cases h'
    · show (if t.1=a then _ else (tb.find? fun s=>s.1 == t.1).map _)=_
      rw [if_neg (nat t ht),uniq t ht]; rfl
    · by_cases hb : b=a
      · have h':=(if_pos hb).symm.trans h
        cases h'
        subst hb
        exact ⟨ha,by rw [List.length_map]; exact hl,vs,_,rv,ha⟩
      · have h' : (tb.find? fun t=>t.1 == b).map (fun t=>HO.cod t.2.1 t.2.2)=some u:=(if_neg hb).symm.trans h
        rcases look tb b with ⟨t,ht,e,f⟩ | ⟨_,f⟩
        · rw [f] at h'; cases h'
          exact .inl (by rw [← e]; exact (htab t ht).1)
        · rw [f] at h'; cases h'
theorem walk_tab {l : PySem.W.OpenLaw} {n k : Nat} {q : Program} {loose : List Str} {XP : (Str→Option Value)→Heap→Prop} {YP : World→Heap→Prop} {d : DefRec} {K : Params→PySem.W.Frag} {ts : List Addr} {x : Str} {sp : PySem.W.Frag→Tbs→Sp}
    (hn : l.most=some n) (hn2 : n≤sizeLine) (hdf : d.params.defaults=[]) (hr : Room k callerA)
    (hY : ∀ (w : World) (h : Heap),YP w h→(K w.params).In h∧∀ P∈ts,h.get? P=some (tabObj #[]))
    (F : ∀ (w : World) (mg : Str→Option Value) (fa : Addr) (h : Heap),(K w.params).In h→h.Ns mainGlobals mg→mg d.name=some (.ref fa)→
      ∃ (fd : FuncData) (tb : Tbs),((tb.map (·.1)).Nodup∧∀ t∈tb,t.1∈ts∧(K w.params).lookup t.1=none∧∃ c,codeHdIn (K w.params) c t.1=true)∧(∀ (s : Shared) (u : Value),BindsTo s fd ⟨[u],[]⟩ [(x,u)])∧
        ∀ base : Heap,(K w.params).In base→base.Ns mainGlobals mg→BMain mg base→FnOk l.prog w (K w.params) mg base CX0 k fa fd [x] (sp (K w.params) tb))
    (hsp : ∀ (K : PySem.W.Frag) (tb : Tbs) (H : Hp) (a : Addr) (ns : List Int),ns.length≤n→Tb tb H→SqL K H a (ns.map V.int)→sp K tb [.ref a] H (fun v H'=>v = .bl true∧Tb tb H') fun _ _ _=>False) :
    PySem.W.WalkO q loose XP YP l.row.toRowW d [] (fun f vs=>PySem.call f vs):=by
  refine Att.attach_call hn hdf fun w s₀ s₁ mg mb fa o pm cd doc a vs ns G Y ho hd hcd hmg hobj hints hlen hg=>?_
  obtain ⟨KX,TX⟩:=hY w _ Y
  obtain ⟨fd,tb,⟨hnd,htb⟩,hb,hF⟩:=F w mg fa _ KX G.T.g hmg
  exact law_callT KX G.T.g G.T.b G.T.builtins G.T.nolimit G.T.bmain hg hobj hints (Nat.le_trans hlen hn2) hr hnd (fun t ht=>⟨TX _ (htb t ht).1,(htb t ht).2⟩) hF hb (fun H hT hS=>hsp (K w.params) tb H a ns hlen hT hS) fun H e s' h=>h
end L2
namespace K14
open PySem L2
def clF (c_0 c_1 c_2 c_3 c_4 c_5 : Addr) : Nat→Addr
  | 0=>c_0
  | 1=>c_1
  | 2=>c_2
  | 3=>c_3
  | 4=>c_4
  | 5=>c_5
  | _=>c_0
theorem all_mk {l : PySem.W.OpenLaw} {w : World} {K : PySem.W.Frag} {h : Heap} {mg : Str→Option Value} {fa f0 f1 f2 f3 f4 f5 f6 f7 f8 f9 f10 f11 f12 f13 f14 f15 f16 f17 f18 f19 f20 f21 f22 f23 f24 f25 f26 f27 f28 f29 f30 f31 c_0 c_1 c_2 c_3 c_4 c_5 cc22 PP22 cc23 PP23 : Addr} {u_FIRST_DAY u_LAST_DAY u_MOST_TERM u_MOST_ROWS u_MOST_COUNT u_MOST_DUTY : Tok} (X : K.In h) (G : h.Ns mainGlobals mg) (hfa : mg "law" = some (.ref fa)) {ts : List Addr}
    {od0 an0 od1 an1 od2 an2 od3 an3 od4 an4 od5 an5 od6 an6 od7 an7 od8 an8 od9 an9 od10 an10 od11 an11 od12 an12 od13 an13 od14 an14 od15 an15 od16 an16 od17 an17 od18 an18 od19 an19 od20 an20 od21 an21 od22 an22 od23 an23 od24 an24 od25 an25 od26 an26 od27 an27 od28 an28 od29 an29 od30 an30 od31 an31 to22 to23 : Option Addr} {sl0 sl1 sl2 sl3 sl4 sl5 sl6 sl7 sl8 sl9 sl10 sl11 sl12 sl13 sl14 sl15 sl16 sl17 sl18 sl19 sl20 sl21 sl22 sl23 sl24 sl25 sl26 sl27 sl28 sl29 sl30 sl31 ts22 ts23 : Array (Option Value)} {tv22 tv23 : Array Value} {tc22 tc23 : Value} {oc0 kV0 dc0 pm0 cd0 ct0 oc1 kV1 dc1 pm1 cd1 ct1 oc2 kV2 dc2 pm2 cd2 ct2 oc3 kV3 dc3 pm3 cd3 ct3 oc4 kV4 dc4 pm4 cd4 ct4 oc5 kV5 dc5 pm5 cd5 ct5 oc6 kV6 dc6 pm6 cd6 ct6 oc7 kV7 dc7 pm7 cd7 ct7 oc8 kV8 dc8 pm8 cd8 ct8 oc9 kV9 dc9 pm9 cd9 ct9 oc10 kV10 dc10 pm10 cd10 ct10 oc11 kV11 dc11 pm11 cd11 ct11 oc12 kV12 dc12 pm12 cd12 ct12 oc13 kV13 dc13 pm13 cd13 ct13 oc14 kV14 dc14 pm14 cd14 ct14 oc15 kV15 dc15 pm15 cd15 ct15 oc16 kV16 dc16 pm16 cd16 ct16 oc17 kV17 dc17 pm17 cd17 ct17 oc18 kV18 dc18 pm18 cd18 ct18 oc19 kV19 dc19 pm19 cd19 ct19 oc20 kV20 dc20 pm20 cd20 ct20 oc21 kV21 dc21 pm21 cd21 ct21 oc22 kV22 dc22 pm22 ct22 oc23 kV23 dc23 pm23 ct23 oc24 kV24 dc24 pm24 cd24 ct24 oc25 kV25 dc25 pm25 cd25 ct25 oc26 kV26 dc26 pm26 cd26 ct26 oc27 kV27 dc27 pm27 cd27 ct27 oc28 kV28 dc28 pm28 cd28 ct28 oc29 kV29 dc29 pm29 cd29 ct29 oc30 kV30 dc30 pm30 cd30 ct30 oc31 kV31 dc31 pm31 cd31 ct31 : Value}
    (a0 : PySem.W.nsIn K mainGlobals "is_day" = some (some (.ref f0)))
    (l0 : K.lookup f0=some ⟨oc0,od0,.func (PySem.W.fnOf "is_day" "is_day" (defArgs s_is_day) (defBody s_is_day) (defScope s_is_day) .none kV0 dc0 pm0 an0 cd0 ct0),sl0⟩)
    (c0 : PySem.W.codeIn K cd0 "is_day" = true)
    (k0 : PySem.W.keepIn K (.ref f0)=true)
    (a1 : PySem.W.nsIn K mainGlobals "check_day" = some (some (.ref f1)))
    (l1 : K.lookup f1=some ⟨oc1,od1,.func (PySem.W.fnOf "check_day" "check_day" (defArgs s_check_day) (defBody s_check_day) (defScope s_check_day) .none kV1 dc1 pm1 an1 cd1 ct1),sl1⟩)
    (c1 : PySem.W.codeIn K cd1 "check_day" = true)
    (k1 : PySem.W.keepIn K (.ref f1)=true)
    (a2 : PySem.W.nsIn K mainGlobals "check_term" = some (some (.ref f2)))
    (l2 : K.lookup f2=some ⟨oc2,od2,.func (PySem.W.fnOf "check_term" "check_term" (defArgs s_check_term) (defBody s_check_term) (defScope s_check_term) .none kV2 dc2 pm2 an2 cd2 ct2),sl2⟩)
    (c2 : PySem.W.codeIn K cd2 "check_term" = true)
    (k2 : PySem.W.keepIn K (.ref f2)=true)
    (a3 : PySem.W.nsIn K mainGlobals "reach" = some (some (.ref f3)))
    (l3 : K.lookup f3=some ⟨oc3,od3,.func (PySem.W.fnOf "reach" "reach" (defArgs s_reach) (defBody s_reach) (defScope s_reach) .none kV3 dc3 pm3 an3 cd3 ct3),sl3⟩)
    (c3 : PySem.W.codeIn K cd3 "reach" = true)
    (k3 : PySem.W.keepIn K (.ref f3)=true)
    (a4 : PySem.W.nsIn K mainGlobals "check_many" = some (some (.ref f4)))
    (l4 : K.lookup f4=some ⟨oc4,od4,.func (PySem.W.fnOf "check_many" "check_many" (defArgs s_check_many) (defBody s_check_many) (defScope s_check_many) .none kV4 dc4 pm4 an4 cd4 ct4),sl4⟩)
    (c4 : PySem.W.codeIn K cd4 "check_many" = true)
    (k4 : PySem.W.keepIn K (.ref f4)=true)
    (a5 : PySem.W.nsIn K mainGlobals "check_count" = some (some (.ref f5)))
    (l5 : K.lookup f5=some ⟨oc5,od5,.func (PySem.W.fnOf "check_count" "check_count" (defArgs s_check_count) (defBody s_check_count) (defScope s_check_count) .none kV5 dc5 pm5 an5 cd5 ct5),sl5⟩)
    (c5 : PySem.W.codeIn K cd5 "check_count" = true)
    (k5 : PySem.W.keepIn K (.ref f5)=true)
    (a6 : PySem.W.nsIn K mainGlobals "check_duty" = some (some (.ref f6)))
    (l6 : K.lookup f6=some ⟨oc6,od6,.func (PySem.W.fnOf "check_duty" "check_duty" (defArgs s_check_duty) (defBody s_check_duty) (defScope s_check_duty) .none kV6 dc6 pm6 an6 cd6 ct6),sl6⟩)
    (c6 : PySem.W.codeIn K cd6 "check_duty" = true)
    (k6 : PySem.W.keepIn K (.ref f6)=true)
    (a7 : PySem.W.nsIn K mainGlobals "checked_lots" = some (some (.ref f7)))
    (l7 : K.lookup f7=some ⟨oc7,od7,.func (PySem.W.fnOf "checked_lots" "checked_lots" (defArgs s_checked_lots) (defBody s_checked_lots) (defScope s_checked_lots) .none kV7 dc7 pm7 an7 cd7 ct7),sl7⟩)
    (c7 : PySem.W.codeIn K cd7 "checked_lots" = true)
    (k7 : PySem.W.keepIn K (.ref f7)=true)
    (a8 : PySem.W.nsIn K mainGlobals "checked_outs" = some (some (.ref f8)))
    (l8 : K.lookup f8=some ⟨oc8,od8,.func (PySem.W.fnOf "checked_outs" "checked_outs" (defArgs s_checked_outs) (defBody s_checked_outs) (defScope s_checked_outs) .none kV8 dc8 pm8 an8 cd8 ct8),sl8⟩)
    (c8 : PySem.W.codeIn K cd8 "checked_outs" = true)
    (k8 : PySem.W.keepIn K (.ref f8)=true)
    (a9 : PySem.W.nsIn K mainGlobals "checked_both" = some (some (.ref f9)))
    (l9 : K.lookup f9=some ⟨oc9,od9,.func (PySem.W.fnOf "checked_both" "checked_both" (defArgs s_checked_both) (defBody s_checked_both) (defScope s_checked_both) .none kV9 dc9 pm9 an9 cd9 ct9),sl9⟩)
    (c9 : PySem.W.codeIn K cd9 "checked_both" = true)
    (k9 : PySem.W.keepIn K (.ref f9)=true)
    (a10 : PySem.W.nsIn K mainGlobals "reaches" = some (some (.ref f10)))
    (l10 : K.lookup f10=some ⟨oc10,od10,.func (PySem.W.fnOf "reaches" "reaches" (defArgs s_reaches) (defBody s_reaches) (defScope s_reaches) .none kV10 dc10 pm10 an10 cd10 ct10),sl10⟩)
    (c10 : PySem.W.codeIn K cd10 "reaches" = true)
    (k10 : PySem.W.keepIn K (.ref f10)=true)
    (a11 : PySem.W.nsIn K mainGlobals "is_given" = some (some (.ref f11)))
    (l11 : K.lookup f11=some ⟨oc11,od11,.func (PySem.W.fnOf "is_given" "is_given" (defArgs s_is_given) (defBody s_is_given) (defScope s_is_given) .none kV11 dc11 pm11 an11 cd11 ct11),sl11⟩)
    (c11 : PySem.W.codeIn K cd11 "is_given" = true)
    (k11 : PySem.W.keepIn K (.ref f11)=true)
    (a12 : PySem.W.nsIn K mainGlobals "summed" = some (some (.ref f12)))
    (l12 : K.lookup f12=some ⟨oc12,od12,.func (PySem.W.fnOf "summed" "summed" (defArgs s_summed) (defBody s_summed) (defScope s_summed) .none kV12 dc12 pm12 an12 cd12 ct12),sl12⟩)
    (c12 : PySem.W.codeIn K cd12 "summed" = true)
    (k12 : PySem.W.keepIn K (.ref f12)=true)
    (a13 : PySem.W.nsIn K mainGlobals "none_above" = some (some (.ref f13)))
    (l13 : K.lookup f13=some ⟨oc13,od13,.func (PySem.W.fnOf "none_above" "none_above" (defArgs s_none_above) (defBody s_none_above) (defScope s_none_above) .none kV13 dc13 pm13 an13 cd13 ct13),sl13⟩)
    (c13 : PySem.W.codeIn K cd13 "none_above" = true)
    (k13 : PySem.W.keepIn K (.ref f13)=true)
    (a14 : PySem.W.nsIn K mainGlobals "is_dealing" = some (some (.ref f14)))
    (l14 : K.lookup f14=some ⟨oc14,od14,.func (PySem.W.fnOf "is_dealing" "is_dealing" (defArgs s_is_dealing) (defBody s_is_dealing) (defScope s_is_dealing) .none kV14 dc14 pm14 an14 cd14 ct14),sl14⟩)
    (c14 : PySem.W.codeIn K cd14 "is_dealing" = true)
    (k14 : PySem.W.keepIn K (.ref f14)=true)
    (a15 : PySem.W.nsIn K mainGlobals "_law_pick" = some (some (.ref f15)))
    (l15 : K.lookup f15=some ⟨oc15,od15,.func (PySem.W.fnOf "_law_pick" "_law_pick" (defArgs s_pick) (defBody s_pick) (defScope s_pick) .none kV15 dc15 pm15 an15 cd15 ct15),sl15⟩)
    (c15 : PySem.W.codeIn K cd15 "_law_pick" = true)
    (k15 : PySem.W.keepIn K (.ref f15)=true)
    (a16 : PySem.W.nsIn K mainGlobals "_law_begin" = some (some (.ref f16)))
    (l16 : K.lookup f16=some ⟨oc16,od16,.func (PySem.W.fnOf "_law_begin" "_law_begin" (defArgs s_begin) (defBody s_begin) (defScope s_begin) .none kV16 dc16 pm16 an16 cd16 ct16),sl16⟩)
    (c16 : PySem.W.codeIn K cd16 "_law_begin" = true)
    (k16 : PySem.W.keepIn K (.ref f16)=true)
    (a17 : PySem.W.nsIn K mainGlobals "_law_span" = some (some (.ref f17)))
    (l17 : K.lookup f17=some ⟨oc17,od17,.func (PySem.W.fnOf "_law_span" "_law_span" (defArgs s_span) (defBody s_span) (defScope s_span) .none kV17 dc17 pm17 an17 cd17 ct17),sl17⟩)
    (c17 : PySem.W.codeIn K cd17 "_law_span" = true)
    (k17 : PySem.W.keepIn K (.ref f17)=true)
    (a18 : PySem.W.nsIn K mainGlobals "_law_some_term" = some (some (.ref f18)))
    (l18 : K.lookup f18=some ⟨oc18,od18,.func (PySem.W.fnOf "_law_some_term" "_law_some_term" (defArgs s_some_term) (defBody s_some_term) (defScope s_some_term) .none kV18 dc18 pm18 an18 cd18 ct18),sl18⟩)
    (c18 : PySem.W.codeIn K cd18 "_law_some_term" = true)
    (k18 : PySem.W.keepIn K (.ref f18)=true)
    (a19 : PySem.W.nsIn K mainGlobals "_law_some_lots" = some (some (.ref f19)))
    (l19 : K.lookup f19=some ⟨oc19,od19,.func (PySem.W.fnOf "_law_some_lots" "_law_some_lots" (defArgs s_some_lots) (defBody s_some_lots) (defScope s_some_lots) .none kV19 dc19 pm19 an19 cd19 ct19),sl19⟩)
    (c19 : PySem.W.codeIn K cd19 "_law_some_lots" = true)
    (k19 : PySem.W.keepIn K (.ref f19)=true)
    (a20 : PySem.W.nsIn K mainGlobals "_law_some_outs" = some (some (.ref f20)))
    (l20 : K.lookup f20=some ⟨oc20,od20,.func (PySem.W.fnOf "_law_some_outs" "_law_some_outs" (defArgs s_some_outs) (defBody s_some_outs) (defScope s_some_outs) .none kV20 dc20 pm20 an20 cd20 ct20),sl20⟩)
    (c20 : PySem.W.codeIn K cd20 "_law_some_outs" = true)
    (k20 : PySem.W.keepIn K (.ref f20)=true)
    (a21 : PySem.W.nsIn K mainGlobals "_law_case" = some (some (.ref f21)))
    (l21 : K.lookup f21=some ⟨oc21,od21,.func (PySem.W.fnOf "_law_case" "_law_case" (defArgs s_case) (defBody s_case) (defScope s_case) .none kV21 dc21 pm21 an21 cd21 ct21),sl21⟩)
    (c21 : PySem.W.codeIn K cd21 "_law_case" = true)
    (k21 : PySem.W.keepIn K (.ref f21)=true)
    (a22 : PySem.W.nsIn K mainGlobals "_law_dearest" = some (some (.ref f22)))
    (l22 : K.lookup f22=some ⟨oc22,od22,.func (PySem.W.fnOf "_law_dearest" "_law_dearest" (defArgs s_dearestL) (defBody s_dearestL) (defScope s_dearestL) .none kV22 dc22 pm22 an22 (.ref cc22) ct22),sl22⟩)
    (tl22 : K.lookup cc22=some ⟨tc22,to22,.fields tv22,ts22⟩)
    (tp22 : tv22[11]? = some (.ref PP22))
    (hd22 : PySem.W.codeHdIn K cc22 PP22=true)
    (nk22 : K.lookup PP22=none)
    (mt22 : PP22∈ts)
    (c22 : PySem.W.codeIn K (.ref cc22) "_law_dearest" = true)
    (k22 : PySem.W.keepIn K (.ref f22)=true)
    (a23 : PySem.W.nsIn K mainGlobals "_law_eldest" = some (some (.ref f23)))
    (l23 : K.lookup f23=some ⟨oc23,od23,.func (PySem.W.fnOf "_law_eldest" "_law_eldest" (defArgs s_eldestL) (defBody s_eldestL) (defScope s_eldestL) .none kV23 dc23 pm23 an23 (.ref cc23) ct23),sl23⟩)
    (tl23 : K.lookup cc23=some ⟨tc23,to23,.fields tv23,ts23⟩)
    (tp23 : tv23[11]? = some (.ref PP23))
    (hd23 : PySem.W.codeHdIn K cc23 PP23=true)
    (nk23 : K.lookup PP23=none)
    (mt23 : PP23∈ts)
    (c23 : PySem.W.codeIn K (.ref cc23) "_law_eldest" = true)
    (k23 : PySem.W.keepIn K (.ref f23)=true)
    (a24 : PySem.W.nsIn K mainGlobals "_law_deal" = some (some (.ref f24)))
    (l24 : K.lookup f24=some ⟨oc24,od24,.func (PySem.W.fnOf "_law_deal" "_law_deal" (defArgs s_deal) (defBody s_deal) (defScope s_deal) .none kV24 dc24 pm24 an24 cd24 ct24),sl24⟩)
    (c24 : PySem.W.codeIn K cd24 "_law_deal" = true)
    (k24 : PySem.W.keepIn K (.ref f24)=true)
    (a25 : PySem.W.nsIn K mainGlobals "_law_most" = some (some (.ref f25)))
    (l25 : K.lookup f25=some ⟨oc25,od25,.func (PySem.W.fnOf "_law_most" "_law_most" (defArgs s_most) (defBody s_most) (defScope s_most) .none kV25 dc25 pm25 an25 cd25 ct25),sl25⟩)
    (c25 : PySem.W.codeIn K cd25 "_law_most" = true)
    (k25 : PySem.W.keepIn K (.ref f25)=true)
    (a26 : PySem.W.nsIn K mainGlobals "_law_best" = some (some (.ref f26)))
    (l26 : K.lookup f26=some ⟨oc26,od26,.func (PySem.W.fnOf "_law_best" "_law_best" (defArgs s_bestL) (defBody s_bestL) (defScope s_bestL) .none kV26 dc26 pm26 an26 cd26 ct26),sl26⟩)
    (c26 : PySem.W.codeIn K cd26 "_law_best" = true)
    (k26 : PySem.W.keepIn K (.ref f26)=true)
    (a27 : PySem.W.nsIn K mainGlobals "_law_some_counts" = some (some (.ref f27)))
    (l27 : K.lookup f27=some ⟨oc27,od27,.func (PySem.W.fnOf "_law_some_counts" "_law_some_counts" (defArgs s_some_counts) (defBody s_some_counts) (defScope s_some_counts) .none kV27 dc27 pm27 an27 cd27 ct27),sl27⟩)
    (c27 : PySem.W.codeIn K cd27 "_law_some_counts" = true)
    (k27 : PySem.W.keepIn K (.ref f27)=true)
    (a28 : PySem.W.nsIn K mainGlobals "_law_same" = some (some (.ref f28)))
    (l28 : K.lookup f28=some ⟨oc28,od28,.func (PySem.W.fnOf "_law_same" "_law_same" (defArgs s_same) (defBody s_same) (defScope s_same) .none kV28 dc28 pm28 an28 cd28 ct28),sl28⟩)
    (c28 : PySem.W.codeIn K cd28 "_law_same" = true)
    (k28 : PySem.W.keepIn K (.ref f28)=true)
    (a29 : PySem.W.nsIn K mainGlobals "_law_good" = some (some (.ref f29)))
    (l29 : K.lookup f29=some ⟨oc29,od29,.func (PySem.W.fnOf "_law_good" "_law_good" (defArgs s_good) (defBody s_good) (defScope s_good) .none kV29 dc29 pm29 an29 cd29 ct29),sl29⟩)
    (c29 : PySem.W.codeIn K cd29 "_law_good" = true)
    (k29 : PySem.W.keepIn K (.ref f29)=true)
    (a30 : PySem.W.nsIn K mainGlobals "_law_bent" = some (some (.ref f30)))
    (l30 : K.lookup f30=some ⟨oc30,od30,.func (PySem.W.fnOf "_law_bent" "_law_bent" (defArgs s_bent) (defBody s_bent) (defScope s_bent) .none kV30 dc30 pm30 an30 cd30 ct30),sl30⟩)
    (c30 : PySem.W.codeIn K cd30 "_law_bent" = true)
    (k30 : PySem.W.keepIn K (.ref f30)=true)
    (a31 : PySem.W.nsIn K mainGlobals "law" = some (some (.ref f31)))
    (l31 : K.lookup f31=some ⟨oc31,od31,.func (PySem.W.fnOf "law" "law" (defArgs s_law) (defBody s_law) (defScope s_law) .none kV31 dc31 pm31 an31 cd31 ct31),sl31⟩)
    (c31 : PySem.W.codeIn K cd31 "law" = true)
    (k31 : PySem.W.keepIn K (.ref f31)=true)
    (z_len : PySem.W.nsIn K mainGlobals "len" = some none)
    (z_list : PySem.W.nsIn K mainGlobals "list" = some none)
    (z_isi : PySem.W.nsIn K mainGlobals "isinstance" = some none)
    (z_bool : PySem.W.nsIn K mainGlobals "bool" = some none)
    (z_int : PySem.W.nsIn K mainGlobals "int" = some none)
    (z_str : PySem.W.nsIn K mainGlobals "str" = some none)
    (z_tuple : PySem.W.nsIn K mainGlobals "tuple" = some none)
    (z_all : PySem.W.nsIn K mainGlobals "all" = some none)
    (z_any : PySem.W.nsIn K mainGlobals "any" = some none)
    (z_zip : PySem.W.nsIn K mainGlobals "zip" = some none)
    (z_range : PySem.W.nsIn K mainGlobals "range" = some none)
    (z_max : PySem.W.nsIn K mainGlobals "max" = some none)
    (z_min : PySem.W.nsIn K mainGlobals "min" = some none)
    (z_enumerate : PySem.W.nsIn K mainGlobals "enumerate" = some none)
    (z_sum : PySem.W.nsIn K mainGlobals "sum" = some none)
    (z_sorted : PySem.W.nsIn K mainGlobals "sorted" = some none)
    (z_verr : PySem.W.nsIn K mainGlobals "ValueError" = some none)
    (g_FIRST_DAY : PySem.W.nsIn K mainGlobals "FIRST_DAY" = some (some (.int 1 u_FIRST_DAY)))
    (g_LAST_DAY : PySem.W.nsIn K mainGlobals "LAST_DAY" = some (some (.int 999 u_LAST_DAY)))
    (g_MOST_TERM : PySem.W.nsIn K mainGlobals "MOST_TERM" = some (some (.int 400 u_MOST_TERM)))
    (g_MOST_ROWS : PySem.W.nsIn K mainGlobals "MOST_ROWS" = some (some (.int 30 u_MOST_ROWS)))
    (g_MOST_COUNT : PySem.W.nsIn K mainGlobals "MOST_COUNT" = some (some (.int 10000000000 u_MOST_COUNT)))
    (g_MOST_DUTY : PySem.W.nsIn K mainGlobals "MOST_DUTY" = some (some (.int 1000000 u_MOST_DUTY)))
    (g_0 : PySem.W.nsIn K mainGlobals "CustomsError" = some (some (.ref c_0)))
    (g_1 : PySem.W.nsIn K mainGlobals "BadDay" = some (some (.ref c_1)))
    (g_2 : PySem.W.nsIn K mainGlobals "BadTerm" = some (some (.ref c_2)))
    (g_3 : PySem.W.nsIn K mainGlobals "BadCount" = some (some (.ref c_3)))
    (g_4 : PySem.W.nsIn K mainGlobals "BadDuty" = some (some (.ref c_4)))
    (g_5 : PySem.W.nsIn K mainGlobals "BadRows" = some (some (.ref c_5)))
    (x_1 : PySem.W.excIn K c_1 vbm "ValueError.__new__" = true)
    (x_2 : PySem.W.excIn K c_2 vbm "ValueError.__new__" = true)
    (x_3 : PySem.W.excIn K c_3 vbm "ValueError.__new__" = true)
    (x_4 : PySem.W.excIn K c_4 vbm "ValueError.__new__" = true)
    (x_5 : PySem.W.excIn K c_5 vbm "ValueError.__new__" = true)
    (nn_L : PP22≠PP23)
    : ∃ (fd : FuncData) (tb : Tbs),((tb.map (·.1)).Nodup∧∀ t∈tb,t.1∈ts∧K.lookup t.1=none∧∃ c,PySem.W.codeHdIn K c t.1=true)∧(∀ (s : Shared) (v : Value),BindsTo s fd ⟨[v],[]⟩ [("_law_script",v)])∧∀ base : Heap,K.In base→base.Ns mainGlobals mg→BMain mg base→FnOk l.prog w K mg base CX0 7 fa fd ["_law_script"] (spLaw K tb):=by
  have e:=hfa.symm.trans (PySem.W.mg_of X G a31)
  cases e
  have F0:=fun_mk (st:=s_is_day) l0 c0 k0
  have F1:=fun_mk (st:=s_check_day) l1 c1 k1
  have F2:=fun_mk (st:=s_check_term) l2 c2 k2
  have F3:=fun_mk (st:=s_reach) l3 c3 k3
  have F4:=fun_mk (st:=s_check_many) l4 c4 k4
  have F5:=fun_mk (st:=s_check_count) l5 c5 k5
  have F6:=fun_mk (st:=s_check_duty) l6 c6 k6
  have F7:=fun_mk (st:=s_checked_lots) l7 c7 k7
  have F8:=fun_mk (st:=s_checked_outs) l8 c8 k8
  have F9:=fun_mk (st:=s_checked_both) l9 c9 k9
  have F10:=fun_mk (st:=s_reaches) l10 c10 k10
  have F11:=fun_mk (st:=s_is_given) l11 c11 k11
  have F12:=fun_mk (st:=s_summed) l12 c12 k12
  have F13:=fun_mk (st:=s_none_above) l13 c13 k13
  have F14:=fun_mk (st:=s_is_dealing) l14 c14 k14
  have F15:=fun_mk (st:=s_pick) l15 c15 k15
  have F16:=fun_mk (st:=s_begin) l16 c16 k16
  have F17:=fun_mk (st:=s_span) l17 c17 k17
  have F18:=fun_mk (st:=s_some_term) l18 c18 k18
  have F19:=fun_mk (st:=s_some_lots) l19 c19 k19
  have F20:=fun_mk (st:=s_some_outs) l20 c20 k20
  have F21:=fun_mk (st:=s_case) l21 c21 k21
  have F22:=fun_mk (st:=s_dearestL) l22 c22 k22
  have F23:=fun_mk (st:=s_eldestL) l23 c23 k23
  have F24:=fun_mk (st:=s_deal) l24 c24 k24
  have F25:=fun_mk (st:=s_most) l25 c25 k25
  have F26:=fun_mk (st:=s_bestL) l26 c26 k26
  have F27:=fun_mk (st:=s_some_counts) l27 c27 k27
  have F28:=fun_mk (st:=s_same) l28 c28 k28
  have F29:=fun_mk (st:=s_good) l29 c29 k29
  have F30:=fun_mk (st:=s_bent) l30 c30 k30
  have F31:=fun_mk (st:=s_law) l31 c31 k31
  have b0:=F0.binds (ps:=p_is_day) fun _ _ _ _ _ _ us hl=>match us,hl with | [_],_=>rfl
  have m0:=PySem.W.mg_of X G a0
  have b1:=F1.binds (ps:=p_check_day) fun _ _ _ _ _ _ us hl=>match us,hl with | [_],_=>rfl
  have m1:=PySem.W.mg_of X G a1
  have b2:=F2.binds (ps:=p_check_term) fun _ _ _ _ _ _ us hl=>match us,hl with | [_],_=>rfl
  have m2:=PySem.W.mg_of X G a2
  have b3:=F3.binds (ps:=p_reach) fun _ _ _ _ _ _ us hl=>match us,hl with | [_,_],_=>rfl
  have m3:=PySem.W.mg_of X G a3
  have b4:=F4.binds (ps:=p_check_many) fun _ _ _ _ _ _ us hl=>match us,hl with | [_],_=>rfl
  have m4:=PySem.W.mg_of X G a4
  have b5:=F5.binds (ps:=p_check_count) fun _ _ _ _ _ _ us hl=>match us,hl with | [_],_=>rfl
  have m5:=PySem.W.mg_of X G a5
  have b6:=F6.binds (ps:=p_check_duty) fun _ _ _ _ _ _ us hl=>match us,hl with | [_],_=>rfl
  have m6:=PySem.W.mg_of X G a6
  have b7:=F7.binds (ps:=p_checked_lots) fun _ _ _ _ _ _ us hl=>match us,hl with | [_],_=>rfl
  have m7:=PySem.W.mg_of X G a7
  have b8:=F8.binds (ps:=p_checked_outs) fun _ _ _ _ _ _ us hl=>match us,hl with | [_],_=>rfl
  have m8:=PySem.W.mg_of X G a8
  have b9:=F9.binds (ps:=p_checked_both) fun _ _ _ _ _ _ us hl=>match us,hl with | [_,_,_],_=>rfl
  have m9:=PySem.W.mg_of X G a9
  have b10:=F10.binds (ps:=p_reaches) fun _ _ _ _ _ _ us hl=>match us,hl with | [_,_,_],_=>rfl
  have m10:=PySem.W.mg_of X G a10
  have b11:=F11.binds (ps:=p_is_given) fun _ _ _ _ _ _ us hl=>match us,hl with | [_,_,_,_],_=>rfl
  have m11:=PySem.W.mg_of X G a11
  have b12:=F12.binds (ps:=p_summed) fun _ _ _ _ _ _ us hl=>match us,hl with | [_,_],_=>rfl
  have m12:=PySem.W.mg_of X G a12
  have b13:=F13.binds (ps:=p_none_above) fun _ _ _ _ _ _ us hl=>match us,hl with | [_,_],_=>rfl
  have m13:=PySem.W.mg_of X G a13
  have b14:=F14.binds (ps:=p_is_dealing) fun _ _ _ _ _ _ us hl=>match us,hl with | [_,_,_,_],_=>rfl
  have m14:=PySem.W.mg_of X G a14
  have b15:=F15.binds (ps:=p_pick) fun _ _ _ _ _ _ us hl=>match us,hl with | [_,_],_=>rfl
  have m15:=PySem.W.mg_of X G a15
  have b16:=F16.binds (ps:=p_begin) fun _ _ _ _ _ _ us hl=>match us,hl with | [_],_=>rfl
  have m16:=PySem.W.mg_of X G a16
  have b17:=F17.binds (ps:=p_span) fun _ _ _ _ _ _ us hl=>match us,hl with | [_],_=>rfl
  have m17:=PySem.W.mg_of X G a17
  have b18:=F18.binds (ps:=p_some_term) fun _ _ _ _ _ _ us hl=>match us,hl with | [_],_=>rfl
  have m18:=PySem.W.mg_of X G a18
  have b19:=F19.binds (ps:=p_some_lots) fun _ _ _ _ _ _ us hl=>match us,hl with | [_,_,_,_],_=>rfl
  have m19:=PySem.W.mg_of X G a19
  have b20:=F20.binds (ps:=p_some_outs) fun _ _ _ _ _ _ us hl=>match us,hl with | [_,_,_,_],_=>rfl
  have m20:=PySem.W.mg_of X G a20
  have b21:=F21.binds (ps:=p_case) fun _ _ _ _ _ _ us hl=>match us,hl with | [_,_],_=>rfl
  have m21:=PySem.W.mg_of X G a21
  have b22:=F22.binds (ps:=p_dearestL) fun _ _ _ _ _ _ us hl=>match us,hl with | [_],_=>rfl
  have m22:=PySem.W.mg_of X G a22
  have b23:=F23.binds (ps:=p_eldestL) fun _ _ _ _ _ _ us hl=>match us,hl with | [_],_=>rfl
  have m23:=PySem.W.mg_of X G a23
  have b24:=F24.binds (ps:=p_deal) fun _ _ _ _ _ _ us hl=>match us,hl with | [_,_,_,_],_=>rfl
  have m24:=PySem.W.mg_of X G a24
  have b25:=F25.binds (ps:=p_most) fun _ _ _ _ _ _ us hl=>match us,hl with | [_,_,_,_,_],_=>rfl
  have m25:=PySem.W.mg_of X G a25
  have b26:=F26.binds (ps:=p_bestL) fun _ _ _ _ _ _ us hl=>match us,hl with | [_,_,_],_=>rfl
  have m26:=PySem.W.mg_of X G a26
  have b27:=F27.binds (ps:=p_some_counts) fun _ _ _ _ _ _ us hl=>match us,hl with | [_,_,_,_],_=>rfl
  have m27:=PySem.W.mg_of X G a27
  have b28:=F28.binds (ps:=p_same) fun _ _ _ _ _ _ us hl=>match us,hl with | [_,_],_=>rfl
  have m28:=PySem.W.mg_of X G a28
  have b29:=F29.binds (ps:=p_good) fun _ _ _ _ _ _ us hl=>match us,hl with | [_,_,_,_],_=>rfl
  have m29:=PySem.W.mg_of X G a29
  have b30:=F30.binds (ps:=p_bent) fun _ _ _ _ _ _ us hl=>match us,hl with | [_,_],_=>rfl
  have m30:=PySem.W.mg_of X G a30
  have B : Bn mg:=⟨PySem.W.mg_none_of X G z_len,PySem.W.mg_none_of X G z_list,PySem.W.mg_none_of X G z_isi,PySem.W.mg_none_of X G z_bool,PySem.W.mg_none_of X G z_int,PySem.W.mg_none_of X G z_str,PySem.W.mg_none_of X G z_tuple,PySem.W.mg_none_of X G z_all,PySem.W.mg_none_of X G z_any,PySem.W.mg_none_of X G z_zip,PySem.W.mg_none_of X G z_range,PySem.W.mg_none_of X G z_max,PySem.W.mg_none_of X G z_min,PySem.W.mg_none_of X G z_enumerate,PySem.W.mg_none_of X G z_sum,PySem.W.mg_none_of X G z_sorted,PySem.W.mg_none_of X G z_verr⟩
  have TY : ∃ cl : Nat→Addr,Txt K mg cl:=by
    refine ⟨(clF c_0 c_1 c_2 c_3 c_4 c_5),⟨⟨_,PySem.W.mg_of X G g_FIRST_DAY⟩,⟨_,PySem.W.mg_of X G g_LAST_DAY⟩,⟨_,PySem.W.mg_of X G g_MOST_TERM⟩,⟨_,PySem.W.mg_of X G g_MOST_ROWS⟩,⟨_,PySem.W.mg_of X G g_MOST_COUNT⟩,⟨_,PySem.W.mg_of X G g_MOST_DUTY⟩,PySem.W.mg_of X G g_0,PySem.W.mg_of X G g_1,PySem.W.mg_of X G g_2,PySem.W.mg_of X G g_3,PySem.W.mg_of X G g_4,PySem.W.mg_of X G g_5,x_1,x_2,x_3,x_4,x_5⟩⟩
  obtain ⟨cl,T⟩:=TY
  refine ⟨PySem.W.fnOf "law" "law" (defArgs s_law) (defBody s_law) (defScope s_law) .none kV31 dc31 pm31 an31 cd31 ct31,[(PP22,lq_dearestL,lp_dearestL),(PP23,lq_eldestL,lp_eldestL)],⟨by simp [nn_L],(List.forall_mem_cons.mpr ⟨⟨mt22,nk22,_,hd22⟩,(List.forall_mem_cons.mpr ⟨⟨mt23,nk23,_,hd23⟩,(fun _ h=>nomatch h)⟩)⟩)⟩,fun s v=>.of_eq rfl,fun base _ _ BM=>?_⟩
  have G0 : Cal l.prog w K mg base CX0 1 "is_day" p_is_day spIsDay:=⟨⟨_,_,ok_is_day T B F0,b0,k0,m0⟩⟩
  have G1 : Cal l.prog w K mg base (CXE l.prog w) 2 "check_day" p_check_day (spIn (cl 1) 999):=⟨⟨_,_,ok_check_day T B G0 F1,b1,k1,m1⟩⟩
  have G2 : Cal l.prog w K mg base (CXE l.prog w) 2 "check_term" p_check_term (spTerm (cl 2)):=⟨⟨_,_,ok_check_term T B F2,b2,k2,m2⟩⟩
  have G3 : Cal l.prog w K mg base (CXE l.prog w) 3 "reach" p_reach (spReach cl):=⟨⟨_,_,ok_reach T B G1 G2 F3,b3,k3,m3⟩⟩
  have G4 : Cal l.prog w K mg base (CXE l.prog w) 2 "check_many" p_check_many (spMany (cl 5)):=⟨⟨_,_,ok_check_many T B F4,b4,k4,m4⟩⟩
  have G5 : Cal l.prog w K mg base (CXE l.prog w) 2 "check_count" p_check_count (spIn (cl 3) 10000000000):=⟨⟨_,_,ok_check_count T B F5,b5,k5,m5⟩⟩
  have G6 : Cal l.prog w K mg base (CXE l.prog w) 2 "check_duty" p_check_duty (spIn (cl 4) 1000000):=⟨⟨_,_,ok_check_duty T B F6,b6,k6,m6⟩⟩
  have G7 : Cal l.prog w K mg base (CXE l.prog w) 3 "checked_lots" p_checked_lots (spChk (cl 5) (clCol cl) 3):=⟨⟨_,_,ok_checked_lots T B G4 G1 G5 G6 F7,b7,k7,m7⟩⟩
  have G8 : Cal l.prog w K mg base (CXE l.prog w) 3 "checked_outs" p_checked_outs (spChk (cl 5) (clCol cl) 2):=⟨⟨_,_,ok_checked_outs T B G4 G1 G5 F8,b8,k8,m8⟩⟩
  have G9 : Cal l.prog w K mg base (CXE l.prog w) 4 "checked_both" p_checked_both (spBoth cl):=⟨⟨_,_,ok_checked_both T B G7 G8 G2 F9,b9,k9,m9⟩⟩
  have G10 : Cal l.prog w K mg base CX0 4 "reaches" p_reaches spReaches:=⟨⟨_,_,ok_reaches T B G3 F10,b10,k10,m10⟩⟩
  have G11 : Cal l.prog w K mg base CX0 5 "is_given" p_is_given spGiven:=⟨⟨_,_,ok_is_given T B G10 F11,b11,k11,m11⟩⟩
  have G12 : Cal l.prog w K mg base CX0 1 "summed" p_summed spSummed:=⟨⟨_,_,ok_summed T B F12,b12,k12,m12⟩⟩
  have G13 : Cal l.prog w K mg base CX0 1 "none_above" p_none_above spNoneAb:=⟨⟨_,_,ok_none_above T B F13,b13,k13,m13⟩⟩
  have G14 : Cal l.prog w K mg base (CXE l.prog w) 6 "is_dealing" p_is_dealing (spIsDeal cl):=⟨⟨_,_,ok_is_dealing T B G9 G11 G12 G13 F14,b14,k14,m14⟩⟩
  have G15 : Cal l.prog w K mg base CX0 1 "_law_pick" p_pick spPick:=⟨⟨_,_,ok_pick F15 B,b15,k15,m15⟩⟩
  have G16 : Cal l.prog w K mg base CX0 1 "_law_begin" p_begin (spBegin K):=⟨⟨_,_,ok_begin F16 B,b16,k16,m16⟩⟩
  have G17 : Cal l.prog w K mg base CX0 2 "_law_span" p_span spSpan:=⟨⟨_,_,ok_span B G15 F17,b17,k17,m17⟩⟩
  have G18 : Cal l.prog w K mg base CX0 2 "_law_some_term" p_some_term spSome:=⟨⟨_,_,ok_some_term B G15 F18,b18,k18,m18⟩⟩
  have G19 : Cal l.prog w K mg base CX0 2 "_law_some_lots" p_some_lots spLots:=⟨⟨_,_,ok_some_lots B G15 F19,b19,k19,m19⟩⟩
  have G20 : Cal l.prog w K mg base CX0 2 "_law_some_outs" p_some_outs spOuts:=⟨⟨_,_,ok_some_outs B G15 F20,b20,k20,m20⟩⟩
  have G21 : Cal l.prog w K mg base CX0 3 "_law_case" p_case spCase:=⟨⟨_,_,ok_case B G15 G17 G18 G19 G20 F21,b21,k21,m21⟩⟩
  have G22 : Cal l.prog w K mg base CX0 1 "_law_dearest" p_dearestL (spOrdT [(PP22,lq_dearestL,lp_dearestL),(PP23,lq_eldestL,lp_eldestL)] keyD okD):=⟨⟨_,_,ok_dearestL B BM rfl hd22 (.head _) F22,b22,k22,m22⟩⟩
  have G23 : Cal l.prog w K mg base CX0 1 "_law_eldest" p_eldestL (spOrdT [(PP22,lq_dearestL,lp_dearestL),(PP23,lq_eldestL,lp_eldestL)] keyE okE):=⟨⟨_,_,ok_eldestL B BM rfl hd23 (.tail _ (.head _)) F23,b23,k23,m23⟩⟩
  have G24 : Cal l.prog w K mg base CX0 2 "_law_deal" p_deal (spDealT [(PP22,lq_dearestL,lp_dearestL),(PP23,lq_eldestL,lp_eldestL)]):=⟨⟨_,_,ok_deal B G23 F24,b24,k24,m24⟩⟩
  have G25 : Cal l.prog w K mg base CX0 3 "_law_most" p_most (spMostT [(PP22,lq_dearestL,lp_dearestL),(PP23,lq_eldestL,lp_eldestL)]):=⟨⟨_,_,ok_most B G24 F25,b25,k25,m25⟩⟩
  have G26 : Cal l.prog w K mg base CX0 4 "_law_best" p_bestL (spBestT [(PP22,lq_dearestL,lp_dearestL),(PP23,lq_eldestL,lp_eldestL)]):=⟨⟨_,_,ok_bestL B G22 G25 F26,b26,k26,m26⟩⟩
  have G27 : Cal l.prog w K mg base CX0 5 "_law_some_counts" p_some_counts (spCountsT [(PP22,lq_dearestL,lp_dearestL),(PP23,lq_eldestL,lp_eldestL)]):=⟨⟨_,_,ok_some_counts B G15 G26 F27,b27,k27,m27⟩⟩
  have G28 : Cal l.prog w K mg base CX0 3 "_law_same" p_same (spSame 3):=⟨⟨_,_,ok_same F28 B b28 k28 m28 3,b28,k28,m28⟩⟩
  have G29 : Cal l.prog w K mg base CX0 1 "_law_good" p_good spGoodL:=⟨⟨_,_,ok_good B F29,b29,k29,m29⟩⟩
  have G30 : Cal l.prog w K mg base CX0 2 "_law_bent" p_bent spBentR:=⟨⟨_,_,ok_bent B G15 F30,b30,k30,m30⟩⟩
  exact ok_law B G16 G15 G21 G28 G24 G27 G29 G30 G14 F31
theorem walk {l : PySem.W.OpenLaw} {q : Program} {loose : List Str} {XP : (Str→Option Value)→Heap→Prop} {YP : World→Heap→Prop} {d : DefRec} {K : Params→PySem.W.Frag} {ts : List Addr} (hn : l.most=some 63) (hdf : d.params.defaults=[])
    (hY : ∀ (w : World) (h : Heap),YP w h→(K w.params).In h∧∀ P∈ts,h.get? P=some (PySem.W.tabObj #[]))
    (F : ∀ (w : World) (mg : Str→Option Value) (fa : Addr) (h : Heap),(K w.params).In h→h.Ns mainGlobals mg→mg d.name=some (.ref fa)→
      ∃ (fd : FuncData) (tb : Tbs),((tb.map (·.1)).Nodup∧∀ t∈tb,t.1∈ts∧(K w.params).lookup t.1=none∧∃ c,PySem.W.codeHdIn (K w.params) c t.1=true)∧(∀ (s : Shared) (u : Value),BindsTo s fd ⟨[u],[]⟩ [("_law_script",u)])∧∀ base : Heap,(K w.params).In base→base.Ns mainGlobals mg→BMain mg base→FnOk l.prog w (K w.params) mg base CX0 7 fa fd ["_law_script"] (spLaw (K w.params) tb)) :
    PySem.W.WalkO q loose XP YP l.row.toRowW d [] (fun f vs=>PySem.call f vs):=
  L2.walk_tab (n:=63) (k:=7) (x := "_law_script") (sp:=spLaw) hn (by decide) hdf ⟨rfl,by decide,by decide⟩ hY F fun _ _ _ a ns hl hT hS=>⟨a,ns,rfl,hT,hS,hl,fun _ T'=>⟨rfl,T'⟩⟩
end K14
def PySem.W.Fast.tw10905746517778158293 : Nat:=0
def PySem.W.Fast.tw1466886503205604473 : Nat:=0
def PySem.W.Fast.tw15540060001668862651 : Nat:=0
def PySem.W.Fast.tw18266949394474585947 : Nat:=0
def PySem.W.Fast.tw2986290290952427252 : Nat:=0
def PySem.W.Fast.tw9158301841413869321 : Nat:=0
def PySem.W.Fast.tw9737472091959689361 : Nat:=0
def PySem.W.Fast.tw13671977325557182095 : Nat:=0
def PySem.W.Fast.tw1535613473336041747 : Nat:=0
def PySem.W.Fast.tw11110908538350776206 : Nat:=0
def PySem.W.Fast.tw17889602093492618191 : Nat:=0
def PySem.W.Fast.tw4492724427125290708 : Nat:=0
def PySem.W.Fast.tw10248993812147856974 : Nat:=0
def PySem.W.Fast.tw2129076398068146382 : Nat:=0
def PySem.W.Fast.tw2396146288263031036 : Nat:=0
def PySem.W.Fast.tw2759065203061010117 : Nat:=0
def PySem.W.Fast.tw12707785035973182771 : Nat:=0
def PySem.W.Fast.tw5149310083683352486 : Nat:=0
def PySem.W.Fast.tw1957276196691812759 : Nat:=0
def PySem.W.Fast.tw15870938983370202595 : Nat:=0
def PySem.W.Fast.tw10192532968155151499 : Nat:=0
def PySem.W.Fast.tw16998062874816901266 : Nat:=0
def PySem.W.Fast.tw12552367311883065465 : Nat:=0
def PySem.W.Fast.tw3322794557137094081 : Nat:=0
def PySem.W.Fast.tw16144728010656870942 : Nat:=0
def PySem.W.Fast.tw4019349247784610147 : Nat:=0
def PySem.W.Fast.tw8777415474792520866 : Nat:=0
def PySem.W.Fast.tw1408226663166222281 : Nat:=0
def PySem.W.Fast.tw10788016382258368675 : Nat:=0
def PySem.W.Fast.tw2406694803876186825 : Nat:=0
def PySem.W.Fast.tw1584354425985142613 : Nat:=0
def PySem.W.Fast.tw3786045188343322619 : Nat:=0
def PySem.W.Fast.tw10773725472464526642 : Nat:=0
def PySem.W.Fast.tw6580048966192117234 : Nat:=0
def PySem.W.Fast.tw3631613517655749352 : Nat:=0
def PySem.W.Fast.tw15701819936231097376 : Nat:=0
def PySem.W.Fast.tw17193873938571969244 : Nat:=0
def PySem.W.Fast.tw11135276330543297866 : Nat:=0
def PySem.W.Fast.tw11411895838903197360 : Nat:=0
def PySem.W.Fast.tw3284279311542185136 : Nat:=0
def PySem.W.Fast.tw17527048395782814331 : Nat:=0
def PySem.W.Fast.tw502264358450601617 : Nat:=0
def PySem.W.Fast.tw3467354156214081339 : Nat:=0
def PySem.W.Fast.tw5720673222045045439 : Nat:=0
def PySem.W.Fast.tw6994096935659903799 : Nat:=0
def PySem.W.Fast.tw8292104759722556512 : Nat:=0
def PySem.W.Fast.tw3211597976823045503 : Nat:=0
def PySem.W.Fast.tw1290604461208106225 : Nat:=0
def PySem.W.Fast.tw14483575457650810615 : Nat:=0
def PySem.W.Fast.tw4069027882118174121 : Nat:=0
def PySem.W.Fast.tw14811391358243977793 : Nat:=0
def PySem.W.Fast.tw135716162585738350 : Nat:=0
def PySem.W.Fast.tw298839020497171369 : Nat:=0
def PySem.W.Fast.tw3444752614253915455 : Nat:=0
def PySem.W.Fast.tw3956264972167765921 : Nat:=0
def PySem.W.Fast.tw1668993986586607692 : Nat:=0
def PySem.W.Fast.tw17951483163039862747 : Nat:=0
def PySem.W.Fast.tw5860083471113694550 : Nat:=0
def PySem.W.Fast.tw12092605576107213198 : Nat:=0
def PySem.W.Fast.tw16887406127334646295 : Nat:=0
def PySem.W.Fast.tw9541441375214651713 : Nat:=0
def PySem.W.Fast.tw16298366856220370470 : Nat:=0
def PySem.W.Fast.tw4614476621519424482 : Nat:=0
def PySem.W.Fast.tw17812653685987904190 : Nat:=0
def PySem.W.Fast.tw2768071745406884718 : Nat:=0
def PySem.W.Fast.tw17470992170118423468 : Nat:=0
def PySem.W.Fast.tw14183707604030993442 : Nat:=0
def PySem.W.Fast.tw6580244375226118157 : Nat:=0
def PySem.W.Fast.tw1698870585255952665 : Nat:=0
def PySem.W.Fast.tw11912478389563442636 : Nat:=0
def PySem.W.Fast.tw3816943798092824197 : Nat:=0
def PySem.W.Fast.tw703152730787418521 : Nat:=0
def PySem.W.Fast.tw16139314613617550521 : Nat:=0
def PySem.W.Fast.tw16346054532901666695 : Nat:=0
def PySem.W.Fast.tw9939617702108956382 : Nat:=0
def PySem.W.Fast.tw6054223655981309024 : Nat:=0
def PySem.W.Fast.tw2232497815379732826 : Nat:=0
def PySem.W.Fast.tw13415996477394444110 : Nat:=0
def PySem.W.Fast.tw268765531776442179 : Nat:=0
def PySem.W.Fast.tw18216154487097642007 : Nat:=0
def PySem.W.Fast.tw9885634897154155476 : Nat:=0
def PySem.W.Fast.tw2735557878305617101 : Nat:=0
def PySem.W.Fast.tw16358822117743341819 : Nat:=0
def PySem.W.Fast.tw8383189659560280073 : Nat:=0
def PySem.W.Fast.tw11351707079195266892 : Nat:=0
def PySem.W.Fast.tw3684823638243616438 : Nat:=0
def PySem.W.Fast.tw13346980813922353497 : Nat:=0
def PySem.W.Fast.tw16542505234093467590 : Nat:=0
def PySem.W.Fast.tw13223678143416890358 : Nat:=0
def PySem.W.Fast.tw18386220571122883415 : Nat:=0
def PySem.W.Fast.tw3759283690897970970 : Nat:=0
def PySem.W.Fast.tw11027603710002108629 : Nat:=0
def PySem.W.Fast.tw14406763230835660232 : Nat:=0
def PySem.W.Fast.tw10008159595662979022 : Nat:=0
def PySem.W.Fast.tw14826225754083160105 : Nat:=0
def PySem.W.Fast.tw4558883115671242494 : Nat:=0
def PySem.W.Fast.tw3108283144846697117 : Nat:=0
def PySem.W.Fast.tw11551931056079968566 : Nat:=0
def PySem.W.Fast.tw11385195785136992960 : Nat:=0
def PySem.W.Fast.tw6120991302130192331 : Nat:=0
def PySem.W.Fast.tw5627025417804839712 : Nat:=0
def PySem.W.Fast.tw13192953199235122569 : Nat:=0
def PySem.W.Fast.tw4249914875630695061 : Nat:=0
def PySem.W.Fast.tw8645902479735026277 : Nat:=0
def PySem.W.Fast.tw5626770313858774153 : Nat:=0
def PySem.W.Fast.tw11282337456260876573 : Nat:=0
def PySem.W.Fast.tw9876903083260115525 : Nat:=0
def PySem.W.Fast.tw995555338486219970 : Nat:=0
def PySem.W.Fast.tw3795588447033508032 : Nat:=0
def PySem.W.Fast.tw12376408714864348675 : Nat:=0
def PySem.W.Fast.tw2876116680318499150 : Nat:=0
def PySem.W.Fast.tw7589080234137929282 : Nat:=0
def PySem.W.Fast.tw15117538562180449125 : Nat:=0
def PySem.W.Fast.tw14734811984037823670 : Nat:=0
def PySem.W.Fast.tw15370624667570003424 : Nat:=0
def PySem.W.Fast.tw6548326594632445466 : Nat:=0
def PySem.W.Fast.tw8159669110017827109 : Nat:=0
def PySem.W.Fast.tw10358433760625049199 : Nat:=0
def PySem.W.Fast.tw3961846615898376649 : Nat:=0
def PySem.W.Fast.tw14618813559159207953 : Nat:=0
def PySem.W.Fast.tw1396525409785029745 : Nat:=0
def PySem.W.Fast.tw14209672637885792586 : Nat:=0
def PySem.W.Fast.tw11494611870570906429 : Nat:=0
def PySem.W.Fast.tw1742519190332696984 : Nat:=0
def PySem.W.Fast.tw927265970042631152 : Nat:=0
def PySem.W.Fast.tw13243837912129980536 : Nat:=0
def PySem.W.Fast.tw474530576912137362 : Nat:=0
def PySem.W.Fast.tw9120878081583431729 : Nat:=0
def PySem.W.Fast.tw8723664410447643487 : Nat:=0
def PySem.W.Fast.tw9204234276246837742 : Nat:=0
def PySem.W.Fast.tw4875269369570957 : Nat:=0
def PySem.W.Fast.tw1272136835984342973 : Nat:=0
def PySem.W.Fast.tw2412850845206292546 : Nat:=0
def PySem.W.Fast.tw10364367959191451310 : Nat:=0
def PySem.W.Fast.tw10750770191095910880 : Nat:=0
def PySem.W.Fast.tw14390354091617185272 : Nat:=0
def PySem.W.Fast.tw475497100040569444 : Nat:=0
def PySem.W.Fast.tw15548617516923847795 : Nat:=0
def PySem.W.Fast.tw15506281628293071263 : Nat:=0
def PySem.W.Fast.tw6315612417266646621 : Nat:=0
def PySem.W.Fast.tw12200334272457573715 : Nat:=0
def PySem.W.Fast.tw6872325794171570965 : Nat:=0
def PySem.W.Fast.tw7998481021026467074 : Nat:=0
def PySem.W.Fast.tw18238439085744799676 : Nat:=0
def PySem.W.Fast.tw14789550773061695909 : Nat:=0
def PySem.W.Fast.tw15276009804115503891 : Nat:=0
def PySem.W.Fast.tw11846661946907316638 : Nat:=0
def PySem.W.Fast.tw14451686085228934506 : Nat:=0
def PySem.W.Fast.tw6363127714459967787 : Nat:=0
def PySem.W.Fast.tw2908134845261553895 : Nat:=0
def PySem.W.Fast.tw4310139903026930758 : Nat:=0
def PySem.W.Fast.tw3822677195584109366 : Nat:=0
def PySem.W.Fast.tw14092055327079483335 : Nat:=0
def PySem.W.Fast.tw13682271133278648151 : Nat:=0
def PySem.W.Fast.tw15056274176451150082 : Nat:=0
def PySem.W.Fast.tw2370645364878436624 : Nat:=0
def PySem.W.Fast.tw892601782581024659 : Nat:=0
def PySem.W.Fast.tw14736234930421479776 : Nat:=0
def PySem.W.Fast.tw9043412200129651772 : Nat:=0
def PySem.W.Fast.tw15134993117556336915 : Nat:=0
def PySem.W.Fast.tw8769605008709864691 : Nat:=0
def PySem.W.Fast.tw11221488868139471630 : Nat:=0
def PySem.W.Fast.tw3418174719160479098 : Nat:=0
def PySem.W.Fast.tw5425138828522832084 : Nat:=0
def PySem.W.Fast.tw1713034312417208704 : Nat:=0
def PySem.W.Fast.tw12279861552474821114 : Nat:=0
def PySem.W.Fast.tw694422931197393269 : Nat:=0
def PySem.W.Fast.tw5374626194852665256 : Nat:=0
def PySem.W.Fast.tw8143389980932171951 : Nat:=0
def PySem.W.Fast.tw1677056691537999064 : Nat:=0
def PySem.W.Fast.tw14554911390134920480 : Nat:=0
def PySem.W.Fast.tw7580671361092298068 : Nat:=0
def PySem.W.Fast.tw9515304120431834634 : Nat:=0
def PySem.W.Fast.tw9607227010956120178 : Nat:=0
def PySem.W.Fast.tw3503355615515842324 : Nat:=0
def PySem.W.Fast.tw12013303512200901843 : Nat:=0
def PySem.W.Fast.tw15024079433104068410 : Nat:=0
def PySem.W.Fast.tw14761029655356218711 : Nat:=0
def PySem.W.Fast.tw12540334842916262811 : Nat:=0
def PySem.W.Fast.tw1150838100632222964 : Nat:=0
def PySem.W.Fast.tw7317104656143029114 : Nat:=0
def PySem.W.Fast.tw6409474958137524933 : Nat:=0
def PySem.W.Fast.tw8975933865690709709 : Nat:=0
def PySem.W.Fast.tw13228383064244956744 : Nat:=0
def PySem.W.Fast.tw2639964571783045877 : Nat:=0
def PySem.W.Fast.tw10044708797056927668 : Nat:=0
def PySem.W.Fast.tw7338320778695642149 : Nat:=0
def PySem.W.Fast.tw17214975483027149113 : Nat:=0
def PySem.W.Fast.tw3415981478010347803 : Nat:=0
def PySem.W.Fast.tw167644248076227213 : Nat:=0
def PySem.W.Fast.tw16624377242576798174 : Nat:=0
def PySem.W.Fast.tw14319839458839919385 : Nat:=0
def PySem.W.Fast.tw11666191401187888478 : Nat:=0
def PySem.W.Fast.tw9807271046435376784 : Nat:=0
def PySem.W.Fast.tw14517357390501524673 : Nat:=0
def PySem.W.Fast.tw5589863287632712806 : Nat:=0
def PySem.W.Fast.tw9571831861472178616 : Nat:=0
def PySem.W.Fast.tw15798083329131808724 : Nat:=0
def PySem.W.Fast.tw14477324697316576517 : Nat:=0
def PySem.W.Fast.tw9454295547419472911 : Nat:=0
def PySem.W.Fast.tw8437430408021129904 : Nat:=0
def PySem.W.Fast.tw16011555861495253333 : Nat:=0
def PySem.W.Fast.tw13437455975268219617 : Nat:=0
def PySem.W.Fast.tw17884416652365862533 : Nat:=0
def PySem.W.Fast.tw11139699262774859641 : Nat:=0
def PySem.W.Fast.tw730212124411190358 : Nat:=0
def PySem.W.Fast.tw4967187399225934634 : Nat:=0
def PySem.W.Fast.tw11843631788532404177 : Nat:=0
def PySem.W.Fast.tw6234744135485933542 : Nat:=0
def PySem.W.Fast.tw11694223492770427064 : Nat:=0
def PySem.W.Fast.tw12494974397608151809 : Nat:=0
open PySem PySem.W PyProof.Rows
set_option maxRecDepth 100000 in
set_option maxHeartbeats 0 in
theorem PySem.Challenge.cw_drawback_k14_dealings_judged_holds : PySem.Challenge.rw_drawback_k14_dealings_judged.Holds := by
  w_on; o_law; k_head; (case hw=>w_witness2)
  k_fill
  refine K14.walk (l:=PySem.Challenge.rw_drawback_k14_dealings_judged) rfl rfl (fun w h Y=>⟨PySem.W.km_in_of Y,PySem.W.km_tabs_of Y⟩) ?F
  case F=>
    intro w mg fa h KX G hmg
    refine' K14.all_mk KX G hmg ?a0 ?l0 ?c0 ?k0 ?a1 ?l1 ?c1 ?k1 ?a2 ?l2 ?c2 ?k2 ?a3 ?l3 ?c3 ?k3 ?a4 ?l4 ?c4 ?k4 ?a5 ?l5 ?c5 ?k5 ?a6 ?l6 ?c6 ?k6 ?a7 ?l7 ?c7 ?k7 ?a8 ?l8 ?c8 ?k8 ?a9 ?l9 ?c9 ?k9 ?a10 ?l10 ?c10 ?k10 ?a11 ?l11 ?c11 ?k11 ?a12 ?l12 ?c12 ?k12 ?a13 ?l13 ?c13 ?k13 ?a14 ?l14 ?c14 ?k14 ?a15 ?l15 ?c15 ?k15 ?a16 ?l16 ?c16 ?k16 ?a17 ?l17 ?c17 ?k17 ?a18 ?l18 ?c18 ?k18 ?a19 ?l19 ?c19 ?k19 ?a20 ?l20 ?c20 ?k20 ?a21 ?l21 ?c21 ?k21 ?a22 ?l22 ?tl22 ?tp22 ?hd22 ?nk22 ?mt22 ?c22 ?k22 ?a23 ?l23 ?tl23 ?tp23 ?hd23 ?nk23 ?mt23 ?c23 ?k23 ?a24 ?l24 ?c24 ?k24 ?a25 ?l25 ?c25 ?k25 ?a26 ?l26 ?c26 ?k26 ?a27 ?l27 ?c27 ?k27 ?a28 ?l28 ?c28 ?k28 ?a29 ?l29 ?c29 ?k29 ?a30 ?l30 ?c30 ?k30 ?a31 ?l31 ?c31 ?k31 ?z_len ?z_list ?z_isi ?z_bool ?z_int ?z_str ?z_tuple ?z_all ?z_any ?z_zip ?z_range ?z_max ?z_min ?z_enumerate ?z_sum ?z_sorted ?z_verr ?g_FIRST_DAY ?g_LAST_DAY ?g_MOST_TERM ?g_MOST_ROWS ?g_MOST_COUNT ?g_MOST_DUTY ?g_0 ?g_1 ?g_2 ?g_3 ?g_4 ?g_5 ?x_1 ?x_2 ?x_3 ?x_4 ?x_5 ?nn_L
    (case a0=>k_is)
    (case l0=>k_is)
    (case c0=>k_is)
    (case k0=>k_is)
    (case a1=>k_is)
    (case l1=>k_is)
    (case c1=>k_is)
    (case k1=>k_is)
    (case a2=>k_is)
    (case l2=>k_is)
    (case c2=>k_is)
    (case k2=>k_is)
    (case a3=>k_is)
    (case l3=>k_is)
    (case c3=>k_is)
    (case k3=>k_is)
    (case a4=>k_is)
    (case l4=>k_is)
    (case c4=>k_is)
    (case k4=>k_is)
    (case a5=>k_is)
    (case l5=>k_is)
    (case c5=>k_is)
    (case k5=>k_is)
    (case a6=>k_is)
    (case l6=>k_is)
    (case c6=>k_is)
    (case k6=>k_is)
    (case a7=>k_is)
    (case l7=>k_is)
    (case c7=>k_is)
    (case k7=>k_is)
    (case a8=>k_is)
    (case l8=>k_is)
    (case c8=>k_is)
    (case k8=>k_is)
    (case a9=>k_is)
    (case l9=>k_is)
    (case c9=>k_is)
    (case k9=>k_is)
    (case a10=>k_is)
    (case l10=>k_is)
    (case c10=>k_is)
    (case k10=>k_is)
    (case a11=>k_is)
    (case l11=>k_is)
    (case c11=>k_is)
    (case k11=>k_is)
    (case a12=>k_is)
    (case l12=>k_is)
    (case c12=>k_is)
    (case k12=>k_is)
    (case a13=>k_is)
    (case l13=>k_is)
    (case c13=>k_is)
    (case k13=>k_is)
    (case a14=>k_is)
    (case l14=>k_is)
    (case c14=>k_is)
    (case k14=>k_is)
    (case a15=>k_is)
    (case l15=>k_is)
    (case c15=>k_is)
    (case k15=>k_is)
    (case a16=>k_is)
    (case l16=>k_is)
    (case c16=>k_is)
    (case k16=>k_is)
    (case a17=>k_is)
    (case l17=>k_is)
    (case c17=>k_is)
    (case k17=>k_is)
    (case a18=>k_is)
    (case l18=>k_is)
    (case c18=>k_is)
    (case k18=>k_is)
    (case a19=>k_is)
    (case l19=>k_is)
    (case c19=>k_is)
    (case k19=>k_is)
    (case a20=>k_is)
    (case l20=>k_is)
    (case c20=>k_is)
    (case k20=>k_is)
    (case a21=>k_is)
    (case l21=>k_is)
    (case c21=>k_is)
    (case k21=>k_is)
    (case a22=>k_is)
    (case l22=>k_is)
    (case tl22=>k_is)
    (case tp22=>exact rfl)
    (case hd22=>kernel_rfl)
    (case nk22=>kernel_rfl)
    (case mt22=>first | k_mem | decide)
    (case c22=>k_is)
    (case k22=>k_is)
    (case a23=>k_is)
    (case l23=>k_is)
    (case tl23=>k_is)
    (case tp23=>exact rfl)
    (case hd23=>kernel_rfl)
    (case nk23=>kernel_rfl)
    (case mt23=>first | k_mem | decide)
    (case c23=>k_is)
    (case k23=>k_is)
    (case a24=>k_is)
    (case l24=>k_is)
    (case c24=>k_is)
    (case k24=>k_is)
    (case a25=>k_is)
    (case l25=>k_is)
    (case c25=>k_is)
    (case k25=>k_is)
    (case a26=>k_is)
    (case l26=>k_is)
    (case c26=>k_is)
    (case k26=>k_is)
    (case a27=>k_is)
    (case l27=>k_is)
    (case c27=>k_is)
    (case k27=>k_is)
    (case a28=>k_is)
    (case l28=>k_is)
    (case c28=>k_is)
    (case k28=>k_is)
    (case a29=>k_is)
    (case l29=>k_is)
    (case c29=>k_is)
    (case k29=>k_is)
    (case a30=>k_is)
    (case l30=>k_is)
    (case c30=>k_is)
    (case k30=>k_is)
    (case a31=>k_is)
    (case l31=>k_is)
    (case c31=>k_is)
    (case k31=>k_is)
    (case z_len=>k_is)
    (case z_list=>k_is)
    (case z_isi=>k_is)
    (case z_bool=>k_is)
    (case z_int=>k_is)
    (case z_str=>k_is)
    (case z_tuple=>k_is)
    (case z_all=>k_is)
    (case z_any=>k_is)
    (case z_zip=>k_is)
    (case z_range=>k_is)
    (case z_max=>k_is)
    (case z_min=>k_is)
    (case z_enumerate=>k_is)
    (case z_sum=>k_is)
    (case z_sorted=>k_is)
    (case z_verr=>k_is)
    (case g_FIRST_DAY=>k_is)
    (case g_LAST_DAY=>k_is)
    (case g_MOST_TERM=>k_is)
    (case g_MOST_ROWS=>k_is)
    (case g_MOST_COUNT=>k_is)
    (case g_MOST_DUTY=>k_is)
    (case g_0=>k_is)
    (case g_1=>k_is)
    (case g_2=>k_is)
    (case g_3=>k_is)
    (case g_4=>k_is)
    (case g_5=>k_is)
    (case x_1=>first | k_is | k_exc)
    (case x_2=>first | k_is | k_exc)
    (case x_3=>first | k_is | k_exc)
    (case x_4=>first | k_is | k_exc)
    (case x_5=>first | k_is | k_exc)
    (case nn_L=>decide)
