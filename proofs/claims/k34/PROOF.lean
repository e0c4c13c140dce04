import PyProof.Rows.All
import Wide.All
import OpenK.AllK
import Wide.FinOn
import Lean
import PyProof.EqAt
import PyProof.EqKinds
import PyProof.TupleCall
import PySem.Challenge.RW_drawback_k34_kinds_and_twins
set_option Elab.async false
set_option linter.all false
set_option maxRecDepth 100000
namespace L2
open PySem PySem.Spec PyProof.Rows
abbrev Key:=Sum Int Str
def keyIs : Key→Value→Bool
  | .inl k,v=>Value.isInt k v
  | .inr x,v=>Value.isStrOf x v
def keyH (w : World) : Key→Int
  | .inl k=>hashInt k
  | .inr x=>hashStr w x
theorem keyIs_shape : ∀ {k : Key} {v : Value},keyIs k v=true→(∃ i t,k=Sum.inl i∧v=Value.int i t)∨(∃ x t,k=Sum.inr x∧v=Value.str x t)
  | .inl i,v,h=>by
    obtain ⟨t,e⟩:=Value.isInt_shape (k:=i) (v:=v) h
    exact .inl ⟨i,t,rfl,e⟩
  | .inr x,v,h=>by
    obtain ⟨t,e⟩:=Value.isStrOf_shape (x:=x) (v:=v) h
    exact .inr ⟨x,t,rfl,e⟩
theorem keyIs_int (i : Int) (t : Tok) : keyIs (.inl i) (.int i t)=true:=by simp [keyIs,Value.isInt]
theorem keyIs_str (x : Str) (t : Tok) : keyIs (.inr x) (.str x t)=true:=by simp [keyIs,Value.isStrOf]
theorem key_ll (a b : Int) : decide ((Sum.inl a : Key)=Sum.inl b)=(a == b):=by
  by_cases e : a=b
  · subst e; simp
  · have h : ¬ (Sum.inl a : Key)=Sum.inl b:=fun q=>e (Sum.inl.inj q)
    rw [decide_eq_false h]
    exact (beq_eq_false_iff_ne.mpr e).symm
theorem key_rr (a b : Str) : decide ((Sum.inr a : Key)=Sum.inr b)=decide (a=b):=by
  by_cases e : a=b
  · subst e; simp
  · have h : ¬ (Sum.inr a : Key)=Sum.inr b:=fun q=>e (Sum.inr.inj q)
    rw [decide_eq_false h,decide_eq_false e]
theorem key_lr (a : Int) (b : Str) : decide ((Sum.inl a : Key)=Sum.inr b)=false:=decide_eq_false (fun q=>nomatch q)
theorem key_rl (a : Str) (b : Int) : decide ((Sum.inr a : Key)=Sum.inl b)=false:=decide_eq_false (fun q=>nomatch q)
def mixKind (prog : Program) (w : World) : PySem.KeyKind prog w Key where
  is:=keyIs
  hash:=keyH w
  inj:=fun v a b ha hb=>by
    rcases keyIs_shape ha with ⟨i,t,rfl,rfl⟩ | ⟨x,t,rfl,rfl⟩
    · rcases keyIs_shape hb with ⟨j,u,rfl,e⟩ | ⟨y,u,rfl,e⟩
      · injection e with e1 _; rw [e1]
      · exact nomatch e
    · rcases keyIs_shape hb with ⟨j,u,rfl,e⟩ | ⟨y,u,rfl,e⟩
      · exact nomatch e
      · injection e with e1 _; rw [e1]
  byValue:=fun k v h=>by
    rcases keyIs_shape h with ⟨i,t,rfl,rfl⟩ | ⟨x,t,rfl,rfl⟩ <;> rfl
  pyHash:=fun hv h=>by
    rcases keyIs_shape hv with ⟨i,t,rfl,rfl⟩ | ⟨x,t,rfl,rfl⟩
    · exact wpAny_pyHash_int h
    · exact wpAny_pyHash_str h
  eqBool:=fun hu hv h=>by
    rcases keyIs_shape hu with ⟨i,t,rfl,rfl⟩ | ⟨x,t,rfl,rfl⟩
    · rcases keyIs_shape hv with ⟨j,u,rfl,rfl⟩ | ⟨y,u,rfl,rfl⟩
      · rw [key_ll] at h; exact wpAny_eqBool_int h
      · rw [key_lr] at h; exact SeqAt.EqAt.int_str i t y u _ _ _ _ h
    · rcases keyIs_shape hv with ⟨j,u,rfl,rfl⟩ | ⟨y,u,rfl,rfl⟩
      · rw [key_rl] at h; exact SeqAt.EqAt.str_int x t j u _ _ _ _ h
      · rw [key_rr] at h; exact wpAny_eqBool_str h
  «strs»:=fun k x t v h=>by
    rcases keyIs_shape h with ⟨i,u,rfl,e⟩ | ⟨y,u,rfl,e⟩
    · exact nomatch e
    · injection e with e1 _
      subst e1
      cases v <;> rfl
theorem mixKind_int (prog : Program) (w : World) (i : Int) (t : Tok) : (mixKind prog w).is (.inl i) (.int i t)=true:=keyIs_int i t
theorem mixKind_str (prog : Program) (w : World) (x : Str) (t : Tok) : (mixKind prog w).is (.inr x) (.str x t)=true:=keyIs_str x t
end L2
namespace L2
open PySem PySem.Spec PyProof.Rows
inductive V where
  | non | bl (b : Bool) | int (i : Int) | str (x : Str) | byt (b : Array UInt8) | flt (b : UInt64) | ref (a : Addr) | ty (n : String)
  deriving DecidableEq
def RelV : V→Value→Prop
  | .non,u=>u=Value.none
  | .bl b,u=>u=Value.bool b
  | .int i,u=>∃ t,u=Value.int i t
  | .str x,u=>∃ t,u=Value.str x t
  | .byt b,u=>∃ t,u=Value.bytes b t
  | .flt b,u=>∃ t,u=Value.float b t
  | .ref a,u=>u=Value.ref a
  | .ty n,u=>u=Value.type n
abbrev Vals : List V→List Value→Prop:=Paired RelV
theorem Vals.length {xs : List V} {us : List Value} (r : Vals xs us) : xs.length=us.length:=Paired.length r
theorem Vals.get : ∀ {xs : List V} {us : List Value} {i : Nat} {x : V},Vals xs us→xs[i]? = some x→∃ u,us[i]? = some u∧RelV x u
  | _,_,_,_,.nil,e=>by simp at e
  | _,_,0,_,.cons r _,e=>by simp at e; subst e; exact ⟨_,rfl,r⟩
  | _,_,i + 1,x,.cons _ t,e=>by
    obtain ⟨u,h1,h2⟩:=Vals.get (i:=i) (x:=x) t (by simpa using e)
    exact ⟨u,by simpa using h1,h2⟩
theorem Vals.set {x : V} {u : Value} (r : RelV x u) : ∀ {xs : List V} {us : List Value} (i : Nat),Vals xs us→Vals (xs.set i x) (us.set i u)
  | _,_,_,.nil=>.nil
  | _,_,0,.cons _ t=>.cons r t
  | _,_,i + 1,.cons q t=>.cons q (Vals.set r i t)
theorem Vals.append : ∀ {xs ys : List V} {us ws : List Value},Vals xs us→Vals ys ws→Vals (xs ++ ys) (us ++ ws)
  | _,_,_,_,.nil,s=>s
  | _,_,_,_,.cons r t,s=>.cons r (Vals.append t s)
theorem Vals.take : ∀ {xs : List V} {us : List Value} (n : Nat),Vals xs us→Vals (xs.take n) (us.take n)
  | _,_,0,_=>.nil
  | _,_,_ + 1,.nil=>.nil
  | _,_,n + 1,.cons r t=>.cons r (Vals.take n t)
theorem Vals.drop : ∀ {xs : List V} {us : List Value} (n : Nat),Vals xs us→Vals (xs.drop n) (us.drop n)
  | _,_,0,r=>r
  | _,_,_ + 1,.nil=>.nil
  | _,_,n + 1,.cons _ t=>Vals.drop n t
def RelO : Option V→Option Value→Prop
  | some v,some u=>RelV v u
  | none,none=>True
  | _,_=>False
def KV {κ : Type} : List (κ×V)→List (κ×Value)→Prop:=Paired fun (p : κ×V) (q : κ×Value)=>p.1=q.1∧RelV p.2 q.2
def kV : Key→V
  | .inl i=>.int i
  | .inr x=>.str x
inductive HO where
  | lst (xs : List V)
  | tup (xs : List V)
  | dK (kvs : List (Key×V)) | dT (kvs : List (List Key×V))
  | set (S : Int→Bool) (n : Nat)
  | ins (C dx : Addr) (fs : List (Str×V))
  | own (x : Addr)
  | xd (fs : List (Str×V))
  | met (f x : Addr)
  | rng (lo hi : Int)
  | frz (o : Obj) (u : HO)
  | tbl (ps : Array Value)
  | ext (φ : Heap→Prop)
  | cod (q : Str) (pos : Pos)
abbrev Hp:=Addr→Option HO
def upd (H : Hp) (a : Addr) (o : HO) : Hp:=fun b=>if b=a then some o else H b
theorem upd_same {H : Hp} {a : Addr} {o : HO} : upd H a o a=some o:=by unfold upd; rw [if_pos rfl]
theorem upd_ne {H : Hp} {a b : Addr} {o : HO} (h : b≠a) : upd H a o b=H b:=by unfold upd; rw [if_neg h]
theorem upd_upd {H : Hp} {a : Addr} {o u : HO} : upd (upd H a o) a u=upd H a u:=by
  funext b; unfold upd; split <;> rfl
theorem ne_of {H : Hp} {a b : Addr} {o u : HO} (h : H a=some o) (h' : H b=some u) (d : o≠u) : a≠b:=by
  intro e; subst e; rw [h] at h'; exact d (Option.some.inj h')
theorem ne_of_none {H : Hp} {a b : Addr} {o : HO} (h : H a=some o) (h' : H b=none) : a≠b:=by
  intro e; subst e; rw [h] at h'; cases h'
section
variable (P : Program) (w : World)
def ObjOk (H : Hp) (h : Heap) (a : Addr) : HO→Prop
  | .lst xs=>xs.length≤sizeLine∧∃ (its : List Value) (n : Nat),Vals xs its∧h.get? a=some { cls:=.type "list",data:=.seq its.toArray n }
  | .tup xs=>xs.length≤sizeLine∧∃ its : List Value,Vals xs its∧IsTup h a its.toArray
  | .dK kvs=>kvs.length≤sizeLine∧(a == sysModules)=false∧∃ vs,KV kvs vs∧h.DictOf (mixKind P w) a vs
  | .dT kvs=>kvs.length≤sizeLine∧(a == sysModules)=false∧∃ xs : List (List Key×Addr×Value),
      Paired (fun (p : List Key×V) (q : List Key×Addr×Value)=>p.1=q.1∧H q.2.1=some (.tup (p.1.map kV))∧RelV p.2 q.2.2) kvs xs∧
      ∃ o es ep,h.get? a=some o∧o.ExactDict∧o.data = .dict es ep∧es.toList=xs.map (entryOfKey (tupleKind (mixKind P w)))∧(xs.map (·.1)).Nodup
  | .set S n=>h.SetOf (intKind P w) a S n
  | .ins C dx fs=>H dx=some (.own a)∧fs.length≤1000∧dx≠a∧h.get? a=some (PySem.W.instObj C dx)∧
      ∃ mA,h.Ns1 dx mA∧(∀ f,RelO (fs.lookup f) (mA f))∧PySem.Within mA (fs.map (·.1))
  | .own _=>∃ o,h.get? a=some o
  | .xd fs=>∃ mA,h.Ns1 a mA∧∀ f,RelO (fs.lookup f) (mA f)
  | .rng lo hi=>∃ t u v,h.get? a=some { cls:=.type "range",data:=.fields #[.int lo t,.int hi u,.int 1 v] }
  | .frz o u=>h.get? a=some o∧ObjOk H h a u
  | .tbl ps=>h.get? a=some { cls:=.none,data:=.fields ps }
  | .met f x=>h.get? a=some (PySem.W.methodObj (.ref f) (.ref x))
  | .ext φ=>φ h∧(∃ o,h.get? a=some o)∧∀ h1 h2 : Heap,φ h1→(∀ o,h1.get? a=some o→h2.get? a=some o)→φ h2
  | .cod q pos=>h.get? a=some { cls:=.none,data:=.fields #[] }∨∃ c,h.get? a=some { cls:=.none,data:=.fields #[rawInt pos.line,rawInt pos.col,.ref c] }∧H c=some (.own a)∧h.CodeRec (.ref c) q
def HOk (H : Hp) (h : Heap) : Prop:=∀ a o,H a=some o→ObjOk P w H h a o
end
section
variable {P : Program} {w : World} {H H' : Hp} {h h' : Heap} {a : Addr} {o : HO}
theorem ObjOk.lt (x : ObjOk P w H h a o) : a < h.objs.size:=by
  cases o with
  | lst xs=>obtain ⟨_,_,_,_,e⟩:=x; exact Heap.lt_size e
  | tup xs=>obtain ⟨_,_,_,p⟩:=x; exact p.lt
  | dK kvs=>obtain ⟨_,_,_,_,o,_,_,e,_⟩:=x; exact Heap.lt_size e
  | dT kvs=>obtain ⟨_,_,_,_,o,_,_,e,_⟩:=x; exact Heap.lt_size e
  | set S n=>obtain ⟨o,_,_,_,e,_⟩:=x; exact Heap.lt_size e
  | ins C dx fs=>obtain ⟨_,_,_,e,_⟩:=x; exact Heap.lt_size e
  | own y=>obtain ⟨_,e⟩:=x; exact Heap.lt_size e
  | xd fs=>obtain ⟨_,⟨_,_,_,e,_⟩,_⟩:=x; exact Heap.lt_size e
  | rng lo hi=>obtain ⟨_,_,_,e⟩:=x; exact Heap.lt_size e
  | frz ob u=>obtain ⟨e,_⟩:=x; exact Heap.lt_size e
  | tbl ps=>exact Heap.lt_size (show h.get? a=some _ from x)
  | met f y=>exact Heap.lt_size (show h.get? a=some _ from x)
  | ext φ=>obtain ⟨_,⟨_,e⟩,_⟩:=x; exact Heap.lt_size e
  | cod q pos=>rcases x with e | ⟨_,e,_⟩ <;> exact Heap.lt_size e
theorem Paired.mapP {α β : Type} {F G : α→β→Prop} : ∀ {l₁ : List α} {l₂ : List β},Paired F l₁ l₂→(∀ a b,F a b→G a b)→Paired G l₁ l₂
  | _,_,.nil,_=>.nil
  | _,_,.cons r t,f=>.cons (f _ _ r) (Paired.mapP t f)
theorem ObjOk.stay (x : ObjOk P w H h a o) (k : ∀ b u,(b=a∨H b=some (.own a))→h.get? b=some u→h'.get? b=some u)
    (ho : ∀ b,H b=some (.own a)→H' b=some (.own a)) (ht : ∀ b xs,H b=some (.tup xs)→H' b=some (.tup xs)) : ObjOk P w H' h' a o:=by
  induction o with
  | lst xs=>obtain ⟨z,its,n,r,e⟩:=x; exact ⟨z,its,n,r,k _ _ (.inl rfl) e⟩
  | tup xs=>obtain ⟨z,its,r,ob,e,c⟩:=x; exact ⟨z,its,r,ob,k _ _ (.inl rfl) e,c⟩
  | dK kvs=>obtain ⟨z,y,vs,r,ob,es,ep,e,c⟩:=x; exact ⟨z,y,vs,r,ob,es,ep,k _ _ (.inl rfl) e,c⟩
  | dT kvs=>
    obtain ⟨z,y,xs,r,ob,es,ep,e,c⟩:=x
    exact ⟨z,y,xs,Paired.mapP r fun p q z=>⟨z.1,ht _ _ z.2.1,z.2.2⟩,ob,es,ep,k _ _ (.inl rfl) e,c⟩
  | set S n=>obtain ⟨ob,es,ep,t,e,c⟩:=x; exact ⟨ob,es,ep,t,k _ _ (.inl rfl) e,c⟩
  | ins C dx fs=>
    obtain ⟨d,z,ne,e,mA,⟨od,es,ep,e2,c⟩,r⟩:=x
    exact ⟨ho _ d,z,ne,k _ _ (.inl rfl) e,mA,⟨od,es,ep,k _ _ (.inr d) e2,c⟩,r⟩
  | own y=>obtain ⟨ob,e⟩:=x; exact ⟨ob,k _ _ (.inl rfl) e⟩
  | xd fs=>obtain ⟨mA,⟨od,es,ep,e,c⟩,r⟩:=x; exact ⟨mA,⟨od,es,ep,k _ _ (.inl rfl) e,c⟩,r⟩
  | rng lo hi=>obtain ⟨t,u,v,e⟩:=x; exact ⟨t,u,v,k _ _ (.inl rfl) e⟩
  | frz ob u ih=>obtain ⟨e,q⟩:=x; exact ⟨k _ _ (.inl rfl) e,ih q⟩
  | tbl ps=>
    have e : h.get? a=some { cls:=.none,data:=.fields ps }:=x
    show h'.get? a=some { cls:=.none,data:=.fields ps }
    exact k a _ (.inl rfl) e
  | met f y=>
    have e : h.get? a=some (PySem.W.methodObj (.ref f) (.ref y)):=x
    show h'.get? a=some (PySem.W.methodObj (.ref f) (.ref y))
    exact k a _ (.inl rfl) e
  | ext φ=>obtain ⟨p,⟨o,e⟩,st⟩:=x; exact ⟨st _ _ p fun o q=>k _ _ (.inl rfl) q,⟨o,k _ _ (.inl rfl) e⟩,st⟩
  | cod q pos=>
    rcases x with e | ⟨c,e,hw,c2,oc,vs,t,e1,e2,r⟩
    · exact .inl (k _ _ (.inl rfl) e)
    · cases e1
      exact .inr ⟨c,k _ _ (.inl rfl) e,ho _ hw,c,oc,vs,t,rfl,k _ _ (.inr hw) e2,r⟩
theorem HOk.lt (x : HOk P w H h) (e : H a=some o) : a < h.objs.size:=(x a o e).lt
theorem HOk.fresh (x : HOk P w H h) (e : h.objs.size≤a) : H a=none:=by
  cases q : H a with
  | none=>rfl
  | some u=>exact absurd (Nat.lt_of_lt_of_le (x.lt q) e) (Nat.lt_irrefl _)
theorem HOk.kept (x : HOk P w H h) (k : ∀ b u,h.get? b=some u→h'.get? b=some u) : HOk P w H h':=fun a o e=>
  (x a o e).stay (fun b u _ q=>k b u q) (fun _ q=>q) fun _ _ q=>q
theorem HOk.laid (x : HOk P w H h) (k : ∀ b u,h.get? b=some u→h'.get? b=some u) (hp : h.objs.size≤a) (new : ObjOk P w (upd H a o) h' a o) : HOk P w (upd H a o) h':=fun b u e=>by
  have hn:=x.fresh hp
  by_cases hb : b=a
  · subst hb; rw [upd_same] at e; cases e; exact new
  · rw [upd_ne hb] at e
    exact (x b u e).stay (fun c v _ q=>k c v q) (fun c q=>by rw [upd_ne (ne_of_none q hn)]; exact q) fun c xs q=>by rw [upd_ne (ne_of_none q hn)]; exact q
end
def Rd (H : Hp) (a : Addr) (u : HO) : Prop:=H a=some u∨∃ o,H a=some (.frz o u)
theorem Rd.ok {P : Program} {w : World} {H : Hp} {h : Heap} {a : Addr} {u : HO} (r : Rd H a u) (x : HOk P w H h) : ObjOk P w H h a u:=by
  rcases r with r | ⟨o,r⟩
  · exact x a u r
  · obtain ⟨_,q⟩:=x a _ r
    exact q
def Mut : Option HO→Prop
  | some (.lst _)=>True
  | some (.dK _)=>True
  | some (.dT _)=>True
  | some (.set _ _)=>True
  | some (.ins _ _ _)=>True
  | some (.ext _)=>True
  | _=>False
section
variable {P : Program} {w : World} {H : Hp} {h h' : Heap} {x e : Addr} {o' : HO}
theorem HOk.write (ok : HOk P w H h) (mu : Mut (H x)) (he : e=x∨H e=some (.own x)) (k : ∀ b u,b≠e→h.get? b=some u→h'.get? b=some u) (heo : ∃ u,h'.get? e=some u)
    (new : ObjOk P w (upd H x o') h' x o') : HOk P w (upd H x o') h':=fun b u q=>by
  have nown : ∀ c y,H c=some (.own y)→c≠x:=fun c y r z=>by subst z; rw [r] at mu; exact mu
  have ntup : ∀ c xs,H c=some (.tup xs)→c≠x:=fun c xs r z=>by subst z; rw [r] at mu; exact mu
  by_cases hb : b=x
  · subst hb; rw [upd_same] at q; cases q; exact new
  · rw [upd_ne hb] at q
    by_cases hbe : b=e
    · have q' : H b=some (.own x):=by
        rcases he with z | z
        · exact absurd (hbe.trans z) hb
        · rw [hbe]; exact z
      rw [q] at q'; cases q'
      obtain ⟨v,hv⟩:=heo
      exact ⟨v,by rw [hbe]; exact hv⟩
    · refine (ok b u q).stay (fun c v hc r=>k c v ?_ r) (fun c r=>by rw [upd_ne (nown c b r)]; exact r) fun c xs r=>by rw [upd_ne (ntup c xs r)]; exact r
      rcases hc with rfl | hc
      · exact hbe
      · rintro rfl
        rcases he with z | z
        · exact nown c b hc z
        · rw [hc] at z; cases z; exact hb rfl
end
structure Un (fs ex : List Addr) (H H' : Hp) (h h' : Heap) : Prop where
  keep : ∀ b o,h.get? b=some o→H b=none→b ∉ fs→b ∉ ex→h'.get? b=some o
  slot : ∀ b o,h.get? b=some o→H b=none→b∈fs→b ∉ ex→∃ sl,h'.get? b=some { o with slots:=sl }
  free : ∀ b o,h.get? b=some o→H b=none→b ∉ ex→H' b=none
  there : ∀ b o,h.get? b=some o→b ∉ ex→∃ o',h'.get? b=some o'
  tups : ∀ b xs,H b=some (.tup xs)→H' b=some (.tup xs)
  frzs : ∀ b o u,H b=some (.frz o u)→H' b=some (.frz o u)
  tbls : ∀ b ps,H b=some (.tbl ps)→∃ more,H' b=some (.tbl (ps ++ more))
section
variable {fs fs' ex ex' : List Addr} {H H1 H2 : Hp} {h h1 h2 h' : Heap} {a x e : Addr} {o : HO}
theorem Un.any (u : Un fs ex H H1 h h1) {b : Addr} {ob : Obj} (q : h.get? b=some ob) (n : H b=none) (hx : b ∉ ex) : ∃ sl,h1.get? b=some { ob with slots:=sl }:=by
  by_cases hb : b∈fs
  · exact u.slot b ob q n hb hx
  · exact ⟨ob.slots,u.keep b ob q n hb hx⟩
theorem Un.kept (k : ∀ b u,h.get? b=some u→h'.get? b=some u) : Un fs ex H H h h':=
  ⟨fun b ob q _ _ _=>k b ob q,fun b ob q _ _ _=>⟨ob.slots,k b ob q⟩,fun _ _ _ n _=>n,fun b ob q _=>⟨ob,k b ob q⟩,fun _ _ q=>q,fun _ _ _ q=>q,fun _ ps q=>⟨#[],by rw [q]; simp⟩⟩
theorem Un.refl : Un fs ex H H h h:=Un.kept fun _ _ q=>q
theorem Un.laid (k : ∀ b u,h.get? b=some u→h'.get? b=some u) (hp : h.objs.size≤a) (hn : H a=none) : Un fs ex H (upd H a o) h h' where
  keep:=fun b u q _ _ _=>k b u q
  slot:=fun b u q _ _ _=>⟨u.slots,k b u q⟩
  free:=fun b u q n _=>by rw [upd_ne (Nat.ne_of_lt (Nat.lt_of_lt_of_le (Heap.lt_size q) hp))]; exact n
  there:=fun b u q _=>⟨u,k b u q⟩
  tups:=fun b xs q=>by rw [upd_ne (ne_of_none q hn)]; exact q
  frzs:=fun b u xs q=>by rw [upd_ne (ne_of_none q hn)]; exact q
  tbls:=fun b ps q=>⟨#[],by rw [upd_ne (ne_of_none q hn),q]; simp⟩
theorem Un.write (mu : Mut (H x)) (he : e=x∨H e=some (.own x)) (k : ∀ b u,b≠e→h.get? b=some u→h'.get? b=some u) (heo : ∃ u,h'.get? e=some u) : Un fs ex H (upd H x o) h h':=by
  have hx : ∀ b,H b=none→b≠x:=fun b n z=>by subst z; rw [n] at mu; exact mu
  have hb : ∀ b,H b=none→b≠e:=fun b n z=>by
    subst z
    rcases he with r | r
    · exact hx b n r
    · rw [n] at r; cases r
  have hm : ∀ b u,H b=some u→¬ Mut (some u)→b≠x:=fun b u q nm z=>by subst z; rw [q] at mu; exact nm mu
  refine ⟨fun b u q n _ _=>k b u (hb b n) q,fun b u q n _ _=>⟨u.slots,k b u (hb b n) q⟩,fun b u q n _=>by rw [upd_ne (hx b n)]; exact n,fun b u q _=>?_,
    fun b xs q=>by rw [upd_ne (hm b _ q fun z=>z)]; exact q,fun b u xs q=>by rw [upd_ne (hm b _ q fun z=>z)]; exact q,fun b ps q=>⟨#[],by rw [upd_ne (hm b _ q fun z=>z),q]; simp⟩⟩
  by_cases hbe : b=e
  · subst hbe; exact heo
  · exact ⟨u,k b u hbe q⟩
end
def trk (h : Heap) (H : Hp) : List Addr:=(List.range h.objs.size).filter fun a=>(H a).isSome
def hidT (h : Heap) (H : Hp) : Heap:=PySem.W.hideAll h (trk h H)
theorem hidT_size (h : Heap) (H : Hp) : (hidT h H).objs.size=h.objs.size:=PySem.W.hideAll_size _ _
theorem hidT_get {h : Heap} {H : Hp} {b : Addr} {o : Obj} (e : h.get? b=some o) (n : H b=none) : (hidT h H).get? b=some o:=
  PySem.W.hideAll_get _ e fun hm=>by
    have q : (H b).isSome=true:=(List.mem_filter.mp hm).2
    rw [n] at q; simp at q
theorem of_hidT {h : Heap} {H : Hp} {b : Addr} {o : Obj} (e : (hidT h H).get? b=some o) : h.get? b=some o∧H b=none:=by
  have e' : h.get? b=some o:=PySem.W.of_hideAll (trk h H) e
  refine ⟨e',?_⟩
  cases q : H b with
  | none=>rfl
  | some x=>
    have hm : b∈trk h H:=List.mem_filter.mpr ⟨List.mem_range.mpr (Heap.lt_size e'),by simp [q]⟩
    have z : (hidT h H).get? b=none:=PySem.W.hideAll_none (trk h H) hm
    rw [z] at e; cases e
def allNews (g h : Heap) (L : Addr) : List (Addr×Obj):=(List.range h.objs.size).filterMap fun a=>if a=L∨(g.get? a).isSome=true then none else (h.get? a).map fun o=>(a,o)
def rest (g h : Heap) (L d : Addr) : List (Addr×Obj):=(allNews g h L).filter fun p=>decide (p.1≠d)
end L2
namespace L2
open PySem PySem.Spec PyProof.Rows
structure Mod (K : PySem.W.Frag) (mg : Str→Option Value) (base : Heap) : Prop where
  kin : K.In base
  glob : base.Ns mainGlobals mg
  blt : ∃ mb,base.Ns builtinsNs mb∧∀ x : Str,x ≠ "__name__" → mb x=bootBuiltins x
  nolimit : base.NoLimit
structure Cx where
  prog : Program
  w : World
  K : PySem.W.Frag
  mg : Str→Option Value
  base : Heap
  A : Around
  N : List Str
  s₀ : Shared
  H₀ : Hp
  env : Env
  outer : List Env
  stack : List Env
  ex : List Addr
  fn : Str→Bool
  calm : Bool
  pn : List (Addr×Obj)
  xe : Value→Shared→Prop
def frs (l : List Env) : List Addr:=l.filterMap (·.frame)
abbrev Cx.fs (X : Cx) : List Addr:=frs X.outer
def Vis (sc : Scope) (x : Str) : Prop:=sc.names.lookup x=some .local∨sc.names.lookup x=some .cell∨sc.names.lookup x=some .free
def Loc (sc : Scope) (x : Str) : Prop:=sc.names.lookup x=some .local∨sc.names.lookup x=some .cell
def Look (env : Env) (h : Heap) (m : Str→Option Value) (x : Str) (u : Value) : Prop:=
  (env.kindOf x=some .local∧m x=some u)∨((env.kindOf x=some .cell∨env.kindOf x=some .free)∧∃ c,env.cells.lookup x=some c∧h.IsCell c (some u))
structure Cx.Ok (X : Cx) : Prop where
  mod : Mod X.K X.mg X.base
  kind : X.env.scope.kind = .function
  glob : X.env.globals=mainGlobals
  blt : X.env.builtins=builtinsNs
  above : X.s₀.heap.objs.size≤X.env.locals
  inj : ∀ x y c,X.env.cells.lookup x=some c→X.env.cells.lookup y=some c→x=y
  has : ∀ x,(X.env.kindOf x=some .cell∨X.env.kindOf x=some .free)→∃ c,X.env.cells.lookup x=some c
  cab : ∀ x c,X.fn x=true→X.env.cells.lookup x=some c→X.s₀.heap.objs.size≤c
  hd : X.calm=true→X.A.handled=none
  frames : X.A.frames=some X.stack
  stk : X.stack=X.outer∨(X.stack=X.env :: X.outer∧X.env.frame=some X.env.locals)
  exf : ∀ b∈X.ex,b≠X.env.locals∧∀ x c,X.env.cells.lookup x=some c→c≠b
  bs : ∀ b o,X.base.get? b=some o→X.s₀.heap.get? b=some o∧X.H₀ b=none
  bsz : X.base.objs.size≤X.s₀.heap.objs.size
  noex : ∀ b o,X.base.get? b=some o→b ∉ X.ex
  exfs : ∀ b∈X.ex,b ∉ X.fs
  funs : X.s₀.heap.FunFrames X.base X.outer
  frf : ∀ b∈X.fs,X.H₀ b=none
structure Inv (X : Cx) (pins : List (Addr×Obj)) (σ : List (Option V)) (H : Hp) (s : Shared) : Prop where
  ok : X.Ok
  os : s.os=X.s₀.os
  bare : AllBare s.gens
  base : Un X.fs X.ex X.H₀ H X.s₀.heap s.heap
  loc : ∃ m,s.heap.Ns X.env.locals m∧∀ (i : Nat) (x : Str) (v : V),X.N[i]? = some x→σ[i]? = some (some v)→Vis X.env.scope x→∃ u,RelV v u∧Look X.env s.heap m x u
  cell : ∀ x c,X.env.cells.lookup x=some c→∃ v,s.heap.IsCell c v
  free : H X.env.locals=none
  freeC : ∀ x c,X.env.cells.lookup x=some c→H c=none
  pin : ∀ p∈X.pn ++ pins,s.heap.get? p.1=some p.2∧H p.1=none∧p.1≠X.env.locals∧p.1 ∉ X.fs∧∀ v,p.2.data≠.cell v
  hok : HOk X.prog X.w H s.heap
  len : σ.length=X.N.length
section
variable {X : Cx} {pins : List (Addr×Obj)} {σ : List (Option V)} {H H' : Hp} {s : Shared} {h' : Heap}
theorem Cx.Ok.nofr (ok : X.Ok) {b : Addr} {o : Obj} (e : X.base.get? b=some o) : b ∉ X.fs:=fun hb=>by
  have:=(ok.funs.mem hb).1
  rw [e] at this; cases this
theorem Inv.bs (I : Inv X pins σ H s) : ∀ b o,X.base.get? b=some o→s.heap.get? b=some o∧H b=none:=fun b o e=>
  ⟨I.base.keep b o (I.ok.bs b o e).1 (I.ok.bs b o e).2 (I.ok.nofr e) (I.ok.noex b o e),I.base.free b o (I.ok.bs b o e).1 (I.ok.bs b o e).2 (I.ok.noex b o e)⟩
theorem Inv.bk (I : Inv X pins σ H s) : ∀ b o,X.base.get? b=some o→s.heap.get? b=some o:=fun b o e=>(I.bs b o e).1
theorem Inv.mod (I : Inv X pins σ H s) : Mod X.K X.mg X.base:=I.ok.mod
theorem Inv.kIn (I : Inv X pins σ H s) : X.K.In s.heap:=I.ok.mod.kin.keeps I.bk
theorem Inv.lt (I : Inv X pins σ H s) : X.env.locals < s.heap.objs.size:=let ⟨_,hn,_⟩:=I.loc; hn.lt
theorem Inv.sz (I : Inv X pins σ H s) : X.s₀.heap.objs.size≤s.heap.objs.size:=Nat.le_trans I.ok.above (Nat.le_of_lt I.lt)
theorem Inv.nofs (I : Inv X pins σ H s) {a : Addr} (h : s.heap.objs.size≤a) : a ∉ X.fs:=fun hb=>by
  obtain ⟨_,o,ho,_⟩:=I.ok.funs.mem hb
  exact absurd (Nat.lt_of_lt_of_le (Heap.lt_size ho) (Nat.le_trans I.sz h)) (Nat.lt_irrefl _)
theorem Inv.cne (I : Inv X pins σ H s) : ∀ x c,X.env.cells.lookup x=some c→c≠X.env.locals:=fun x c e z=>by
  obtain ⟨v,o,ho,hd⟩:=I.cell x c e
  obtain ⟨m,⟨o',es,ep,ho',hd',_⟩,_⟩:=I.loc
  rw [z,ho'] at ho; cases ho; rw [hd'] at hd; cases hd
theorem Inv.funs (I : Inv X pins σ H s) : s.heap.FunFrames X.base X.outer:=by
  have all : ∀ (l : List Env),(∀ b∈frs l,b∈X.fs)→X.s₀.heap.FunFrames X.base l→s.heap.FunFrames X.base l:=by
    intro l
    induction l with
    | nil=>intro _ _; trivial
    | cons env r ih=>
      intro hs hl
      obtain ⟨hk,⟨L,o,hf,hn,ho,hd⟩,hr⟩:=hl
      have hL : L∈X.fs:=hs L (by unfold frs; rw [List.filterMap_cons,hf]; exact List.mem_cons_self)
      obtain ⟨sl,e⟩:=I.base.slot L o ho (I.ok.frf L hL) hL fun z=>I.ok.exfs L z hL
      exact ⟨hk,⟨L,_,hf,hn,e,hd⟩,ih (fun b hb=>hs b (by unfold frs; rw [List.filterMap_cons,hf]; exact List.mem_cons_of_mem _ hb)) hr⟩
  exact all X.outer (fun _ hb=>hb) I.ok.funs
theorem Inv.stack (I : Inv X pins σ H s) : s.heap.FunFrames X.base X.stack:=by
  rcases I.ok.stk with e | ⟨e,hf⟩
  · rw [e]; exact I.funs
  · rw [e]
    obtain ⟨m,hn,_⟩:=I.loc
    refine .cons (by rw [I.ok.kind]; decide) hf hn ?_ I.funs
    exact Heap.get?_none_of_le (Nat.le_trans I.ok.bsz I.ok.above)
theorem Inv.stkSub (I : Inv X pins σ H s) : ∀ b∈frs X.stack,b∈X.env.locals :: X.fs:=fun b hb=>by
  rcases I.ok.stk with e | ⟨e,hf⟩
  · rw [e] at hb; exact List.mem_cons_of_mem _ hb
  · rw [e] at hb
    unfold frs at hb
    rw [List.filterMap_cons,hf] at hb
    exact hb
theorem Inv.stkFree (I : Inv X pins σ H s) : ∀ b∈frs X.stack,H b=none:=fun b hb=>by
  rcases List.mem_cons.mp (I.stkSub b hb) with e | hb
  · rw [e]; exact I.free
  · obtain ⟨_,o,ho,_⟩:=I.ok.funs.mem hb
    exact I.base.free b o ho (I.ok.frf b hb) fun z=>I.ok.exfs b z hb
theorem Inv.step {g' : Array GenState} {t' : Nat} {d' : Drawn} {ch : List Addr} (I : Inv X pins σ H s)
    (hch : ∀ b∈ch,(b∈X.ex∨X.s₀.heap.objs.size≤b)∧b≠X.env.locals∧(∀ x c,X.env.cells.lookup x=some c→c≠b)∧∀ p∈X.pn ++ pins,p.1≠b)
    (keep : ∀ b o,b≠X.env.locals→b ∉ X.fs→b ∉ ch→s.heap.get? b=some o→H b=none→h'.get? b=some o)
    (slot : ∀ b o,b≠X.env.locals→b∈X.fs→b ∉ ch→s.heap.get? b=some o→H b=none→∃ sl,h'.get? b=some { o with slots:=sl }) (free : ∀ b o,b ∉ ch→s.heap.get? b=some o→H b=none→H' b=none)
    (there : ∀ b o,b ∉ ch→s.heap.get? b=some o→∃ o',h'.get? b=some o')
    (tups : ∀ b xs,H b=some (.tup xs)→H' b=some (.tup xs)) (frzs : ∀ b o u,H b=some (.frz o u)→H' b=some (.frz o u)) (tbls : ∀ b ps,H b=some (.tbl ps)→∃ more,H' b=some (.tbl (ps ++ more)))
    (ns : ∀ m,s.heap.Ns X.env.locals m→h'.Ns X.env.locals m) (hok : HOk X.prog X.w H' h') (hg : AllBare g') :
    Inv X pins σ H' { s with heap:=h',gens:=g',drawn:=d',toks:=t' }:=by
  have neL : ∀ b o,X.s₀.heap.get? b=some o→b≠X.env.locals:=fun b o e=>Nat.ne_of_lt (Nat.lt_of_lt_of_le (Heap.lt_size e) I.ok.above)
  have neC : ∀ b o,X.s₀.heap.get? b=some o→b ∉ X.ex→b ∉ ch:=fun b o e hx hb=>by
    rcases (hch b hb).1 with z | z
    · exact hx z
    · exact absurd (Nat.lt_of_lt_of_le (Heap.lt_size e) z) (Nat.lt_irrefl _)
  have cellK : ∀ x c,X.env.cells.lookup x=some c→∀ v,s.heap.IsCell c v→h'.IsCell c v:=fun x c e v ⟨o,ho,hd⟩=>by
    have nch : c ∉ ch:=fun z=>(hch c z).2.2.1 x c e rfl
    by_cases hc : c∈X.fs
    · obtain ⟨sl,q⟩:=slot c o (I.cne x c e) hc nch ho (I.freeC x c e)
      exact ⟨_,q,hd⟩
    · exact ⟨o,keep c o (I.cne x c e) hc nch ho (I.freeC x c e),hd⟩
  refine ⟨I.ok,I.os,hg,⟨fun b o e n hb hx=>?_,fun b o e n hb hx=>?_,fun b o e n hx=>?_,fun b o e hx=>?_,fun b xs e=>tups b xs (I.base.tups b xs e),fun b o xs e=>frzs b o xs (I.base.frzs b o xs e),fun b ps e=>?_⟩,?_,fun x c e=>?_,?_,fun x c e=>?_,fun p hp=>?_,hok,I.len⟩
  · exact keep b o (neL b o e) hb (neC b o e hx) (I.base.keep b o e n hb hx) (I.base.free b o e n hx)
  · obtain ⟨sl,e1⟩:=I.base.slot b o e n hb hx
    obtain ⟨sl',e2⟩:=slot b _ (neL b o e) hb (neC b o e hx) e1 (I.base.free b o e n hx)
    exact ⟨sl',e2⟩
  · obtain ⟨o',e1⟩:=I.base.there b o e hx
    exact free b o' (neC b o e hx) e1 (I.base.free b o e n hx)
  · obtain ⟨o',e1⟩:=I.base.there b o e hx
    exact there b o' (neC b o e hx) e1
  · obtain ⟨m1,e1⟩:=I.base.tbls b ps e
    obtain ⟨m2,e2⟩:=tbls b _ e1
    exact ⟨m1 ++ m2,by rw [e2,Array.append_assoc]⟩
  · obtain ⟨m,hn,hl⟩:=I.loc
    refine ⟨m,ns m hn,fun i x v e1 e2 e3=>?_⟩
    obtain ⟨u,r,l⟩:=hl i x v e1 e2 e3
    refine ⟨u,r,?_⟩
    rcases l with l | ⟨k,c,e,z⟩
    · exact .inl l
    · exact .inr ⟨k,c,e,cellK x c e _ z⟩
  · obtain ⟨v,z⟩:=I.cell x c e
    exact ⟨v,cellK x c e v z⟩
  · obtain ⟨m,⟨o,_,_,ho,_⟩,_⟩:=I.loc
    exact free _ o (fun z=>(hch _ z).2.1 rfl) ho I.free
  · obtain ⟨v,o,ho,hd⟩:=I.cell x c e
    exact free c o (fun z=>(hch c z).2.2.1 x c e rfl) ho (I.freeC x c e)
  · obtain ⟨e,n,ne,nf,d⟩:=I.pin p hp
    have nch : p.1 ∉ ch:=fun z=>(hch p.1 z).2.2.2 p hp rfl
    exact ⟨keep p.1 p.2 ne nf nch e n,free p.1 p.2 nch e n,ne,nf,d⟩
theorem Inv.un {t' : Nat} (I : Inv X pins σ H s) (u : Un X.fs [] H H' s.heap h') (hok : HOk X.prog X.w H' h') : Inv X pins σ H' { s with heap:=h',toks:=t' }:=by
  obtain ⟨m,⟨o,es,ep,ho,r⟩,_⟩:=id I.loc
  obtain ⟨sl,hL⟩:=u.any ho I.free (by simp)
  exact I.step (g':=s.gens) (d':=s.drawn) (ch:=[]) (fun _ z=>nomatch z) (fun b o _ hb _ e n=>u.keep b o e n hb (by simp)) (fun b o _ hb _ e n=>u.slot b o e n hb (by simp)) (fun b o _ e n=>u.free b o e n (by simp)) (fun b o _ e=>u.there b o e (by simp)) u.tups u.frzs u.tbls (fun m' hm=>by
    obtain ⟨o',es',ep',ho',r'⟩:=hm
    rw [ho] at ho'; cases ho'
    exact ⟨_,es',ep',hL,r'⟩) hok I.bare
theorem Inv.call {g' : Array GenState} {t' : Nat} {d' : Drawn} {ch : List Addr} (I : Inv X pins σ H s) (u : Un (frs X.stack) ch H H' s.heap h') (hok : HOk X.prog X.w H' h') (hg : AllBare g')
    (hch : ∀ b∈ch,(b∈X.ex∨X.s₀.heap.objs.size≤b)∧b≠X.env.locals∧(∀ x c,X.env.cells.lookup x=some c→c≠b)∧∀ p∈X.pn ++ pins,p.1≠b) :
    Inv X pins σ H' { s with heap:=h',gens:=g',drawn:=d',toks:=t' }:=by
  obtain ⟨m,⟨o,es,ep,ho,r⟩,_⟩:=id I.loc
  obtain ⟨sl,hL⟩:=u.any ho I.free fun z=>(hch _ z).2.1 rfl
  exact I.step (ch:=ch) hch (fun b o hL hb hc e n=>u.keep b o e n (fun z=>(List.mem_cons.mp (I.stkSub b z)).elim hL hb) hc) (fun b o _ _ hc e n=>u.any e n hc) (fun b o hc e n=>u.free b o e n hc) (fun b o hc e=>u.there b o e hc) u.tups u.frzs u.tbls (fun m' hm=>by
    obtain ⟨o',es',ep',ho',r'⟩:=hm
    rw [ho] at ho'; cases ho'
    exact ⟨_,es',ep',hL,r'⟩) hok hg
theorem Inv.turned {t' : Nat} {it : Addr} (I : Inv X pins σ H s) (k : ∀ b o,b≠it→s.heap.get? b=some o→h'.get? b=some o) (hn : H it=none) (hL : it≠X.env.locals)
    (h1 : it∈X.ex∨X.s₀.heap.objs.size≤it) (h2 : ∀ x c,X.env.cells.lookup x=some c→c≠it) (h3 : ∀ p∈X.pn ++ pins,p.1≠it) : Inv X pins σ H { s with heap:=h',toks:=t' }:=by
  have nit : ∀ b u,H b=some u→b≠it:=fun b u e z=>by rw [z,hn] at e; cases e
  refine I.step (g':=s.gens) (d':=s.drawn) (ch:=[it]) (fun b hb=>?_) (fun b o _ _ hc e _=>k b o (fun z=>hc (by simp [z])) e) (fun b o _ _ hc e _=>⟨o.slots,k b o (fun z=>hc (by simp [z])) e⟩) (fun _ _ _ _ n=>n)
    (fun b o hc e=>⟨o,k b o (fun z=>hc (by simp [z])) e⟩) (fun _ _ e=>e) (fun _ _ _ e=>e) (fun b ps e=>⟨#[],by rw [e]; simp⟩) (fun m hm=>?_) (fun b u e=>?_) I.bare
  · have e : b=it:=by simpa using hb
    subst e
    exact ⟨h1,hL,h2,h3⟩
  · obtain ⟨o,es,ep,ho,r⟩:=hm
    exact ⟨o,es,ep,k _ o (Ne.symm hL) ho,r⟩
  · refine (I.hok b u e).stay (fun c v hc q=>k c v ?_ q) (fun _ q=>q) fun _ _ q=>q
    rcases hc with z | z
    · rw [z]; exact nit b u e
    · exact nit c _ z
theorem Inv.tok (I : Inv X pins σ H s) (t : Nat) : Inv X pins σ H { s with toks:=t }:=I.un (h':=s.heap) (t':=t) Un.refl I.hok
theorem Inv.kept {t' : Nat} (I : Inv X pins σ H s) (k : ∀ b u,s.heap.get? b=some u→h'.get? b=some u) : Inv X pins σ H { s with heap:=h',toks:=t' }:=I.un (Un.kept k) (I.hok.kept k)
theorem Inv.laid {a : Addr} {o : HO} {t' : Nat} (I : Inv X pins σ H s) (k : ∀ b u,s.heap.get? b=some u→h'.get? b=some u) (hp : s.heap.objs.size≤a) (new : ObjOk X.prog X.w (upd H a o) h' a o) :
    Inv X pins σ (upd H a o) { s with heap:=h',toks:=t' }:=I.un (Un.laid k hp (I.hok.fresh hp)) (I.hok.laid k hp new)
theorem Inv.write {x e : Addr} {o : HO} {t' : Nat} (I : Inv X pins σ H s) (mu : Mut (H x)) (he : e=x∨H e=some (.own x)) (k : ∀ b u,b≠e→s.heap.get? b=some u→h'.get? b=some u) (heo : ∃ u,h'.get? e=some u)
    (new : ObjOk X.prog X.w (upd H x o) h' x o) : Inv X pins σ (upd H x o) { s with heap:=h',toks:=t' }:=I.un (Un.write mu he k heo) (I.hok.write mu he k heo new)
theorem Inv.weak {σ' : List (Option V)} (I : Inv X pins σ H s) (hl : σ'.length=σ.length) (w : ∀ (i : Nat) v,σ'[i]? = some (some v)→σ[i]? = some (some v)) : Inv X pins σ' H s:=
  ⟨I.ok,I.os,I.bare,I.base,let ⟨m,hn,hl'⟩:=I.loc; ⟨m,hn,fun i x v e1 e2 e3=>hl' i x v e1 (w i v e2) e3⟩,I.cell,I.free,I.freeC,I.pin,I.hok,hl.trans I.len⟩
theorem Inv.pins_of {pins' : List (Addr×Obj)} (I : Inv X pins σ H s) (h : ∀ p∈pins',s.heap.get? p.1=some p.2∧H p.1=none∧p.1≠X.env.locals∧p.1 ∉ X.fs∧∀ v,p.2.data≠.cell v) : Inv X pins' σ H s:=
  ⟨I.ok,I.os,I.bare,I.base,I.loc,I.cell,I.free,I.freeC,fun p hp=>(List.mem_append.mp hp).elim (fun z=>I.pin p (List.mem_append_left _ z)) (h p),I.hok,I.len⟩
theorem nodup_ix {N : List Str} (hN : N.Nodup) {i j : Nat} {x : Str} (a : N[i]? = some x) (b : N[j]? = some x) : i=j:=by
  obtain ⟨h1,e1⟩:=List.getElem?_eq_some_iff.mp a
  obtain ⟨h2,e2⟩:=List.getElem?_eq_some_iff.mp b
  exact (List.getElem_inj hN).mp (e1.trans e2.symm)
theorem store_ok2 {M : Model} {A : Around} {E : Value→Shared→Prop} {i : Nat} {x : Str} {v : V} {u : Value} {Q : Unit→Shared→Prop} (I : Inv X pins σ H s) (hN : X.N.Nodup) (hi : X.N[i]? = some x) (hx : Loc X.env.scope x) (r : RelV v u)
    (h : ∀ s',Inv X pins (σ.set i (some v)) H s'→(∃ a,Heap.SameBut a s.heap s'.heap∧(a=X.env.locals∨X.env.cells.lookup x=some a))→Q () s') (hf : X.fn x=true∨X.env.scope.names.lookup x=some .local:=by first | exact .inl rfl | exact .inr rfl | assumption) : wpAny M A (storeName X.env x u) Q E s:=by
  obtain ⟨m,hn,hl⟩:=id I.loc
  have hcls : (X.env.scope.kind == .class || (X.env.scope.kind == .module && X.env.locals != X.env.globals))=false:=by rw [I.ok.kind]; rfl
  have hiσ : i < σ.length:=by rw [I.len]; exact (List.getElem?_eq_some_iff.mp hi).1
  have cne:=I.cne
  have tracked : ∀ {a : Addr} {h' : Heap},(∃ o,s.heap.get? a=some o∧H a=none)→Heap.SameBut a s.heap h'→HOk X.prog X.w H h':=fun {a h'} ha hs b ob e=>by
    obtain ⟨_,_,hfree⟩:=ha
    refine (I.hok b ob e).stay (fun c w' hc q=>(hs.2 c ?_).trans q) (fun _ q=>q) fun _ _ q=>q
    rintro rfl
    rcases hc with rfl | hc
    · rw [hfree] at e; cases e
    · rw [hfree] at hc; cases hc
  rcases hx with hk | hk
  · refine wpAny_storeName_local hk hn (fun h' hn' hs=>?_) hcls
    obtain ⟨oL,_,_,hoL,_⟩:=id hn
    refine h _ ⟨I.ok,I.os,I.bare,⟨fun b o e n hb hx=>?_,fun b o e n hb hx=>?_,I.base.free,fun b o e hx=>?_,I.base.tups,I.base.frzs,I.base.tbls⟩,⟨_,hn',fun j y v' e1 e2 e3=>?_⟩,fun y c e=>?_,I.free,I.freeC,fun p hp=>?_,tracked ⟨oL,hoL,I.free⟩ hs,by simpa using I.len⟩ ⟨_,hs,.inl rfl⟩
    · exact (hs.2 b (Nat.ne_of_lt (Nat.lt_of_lt_of_le (Heap.lt_size e) I.ok.above))).trans (I.base.keep b o e n hb hx)
    · obtain ⟨sl,e1⟩:=I.base.slot b o e n hb hx
      exact ⟨sl,(hs.2 b (Nat.ne_of_lt (Nat.lt_of_lt_of_le (Heap.lt_size e) I.ok.above))).trans e1⟩
    · obtain ⟨o',e1⟩:=I.base.there b o e hx
      exact ⟨o',(hs.2 b (Nat.ne_of_lt (Nat.lt_of_lt_of_le (Heap.lt_size e) I.ok.above))).trans e1⟩
    · by_cases hj : j=i
      · subst hj
        rw [hi] at e1; cases e1
        rw [List.getElem?_set_self hiσ] at e2
        cases e2
        exact ⟨u,r,.inl ⟨hk,by simp⟩⟩
      · rw [List.getElem?_set_ne (Ne.symm hj)] at e2
        obtain ⟨u',r',q⟩:=hl j y v' e1 e2 e3
        refine ⟨u',r',?_⟩
        rcases q with ⟨k,e⟩ | ⟨k,c,e,z⟩
        · refine .inl ⟨k,?_⟩
          have : y≠x:=fun e=>hj (nodup_ix hN e1 (e ▸ hi))
          simp [this,e]
        · exact .inr ⟨k,c,e,z.sameBut hs (cne y c e)⟩
    · obtain ⟨w',z⟩:=I.cell y c e
      exact ⟨w',z.sameBut hs (cne y c e)⟩
    · obtain ⟨e,n,ne,nf,d⟩:=I.pin p hp
      exact ⟨(hs.2 p.1 ne).trans e,n,ne,nf,d⟩
  · have hfn : X.fn x=true:=by
      rcases hf with z | z
      · exact z
      · rw [z] at hk; cases hk
    obtain ⟨c,hc⟩:=I.ok.has x (.inl hk)
    obtain ⟨w',z⟩:=I.cell x c hc
    refine wpAny_storeName_cell I.ok.kind hk hc z (fun h' hc' hs=>?_)
    obtain ⟨oc,hoc,hocd⟩:=id z
    refine h { s with heap:=h' } ⟨I.ok,I.os,I.bare,⟨fun b o e n hb hx=>?_,fun b o e n hb hx=>?_,I.base.free,fun b o e hx=>?_,I.base.tups,I.base.frzs,I.base.tbls⟩,⟨m,hn.sameBut hs (Ne.symm (cne x c hc)),fun j y v' e1 e2 e3=>?_⟩,fun y c' e=>?_,I.free,I.freeC,fun p hp=>?_,tracked ⟨oc,hoc,I.freeC x c hc⟩ hs,by simpa using I.len⟩ ⟨c,hs,.inr hc⟩
    · exact (hs.2 b (Nat.ne_of_lt (Nat.lt_of_lt_of_le (Heap.lt_size e) (I.ok.cab x c hfn hc)))).trans (I.base.keep b o e n hb hx)
    · obtain ⟨sl,e1⟩:=I.base.slot b o e n hb hx
      exact ⟨sl,(hs.2 b (Nat.ne_of_lt (Nat.lt_of_lt_of_le (Heap.lt_size e) (I.ok.cab x c hfn hc)))).trans e1⟩
    · obtain ⟨o',e1⟩:=I.base.there b o e hx
      exact ⟨o',(hs.2 b (Nat.ne_of_lt (Nat.lt_of_lt_of_le (Heap.lt_size e) (I.ok.cab x c hfn hc)))).trans e1⟩
    · by_cases hj : j=i
      · subst hj
        rw [hi] at e1; cases e1
        rw [List.getElem?_set_self hiσ] at e2
        cases e2
        exact ⟨u,r,.inr ⟨.inl hk,c,hc,hc'⟩⟩
      · rw [List.getElem?_set_ne (Ne.symm hj)] at e2
        obtain ⟨u',r',q⟩:=hl j y v' e1 e2 e3
        refine ⟨u',r',?_⟩
        rcases q with q | ⟨k,c',e,z'⟩
        · exact .inl q
        · refine .inr ⟨k,c',e,z'.sameBut hs ?_⟩
          rintro rfl
          exact hj (nodup_ix hN e1 (I.ok.inj _ _ _ e hc ▸ hi))
    · by_cases hcc : c' = c
      · subst hcc; exact ⟨_,hc'⟩
      · obtain ⟨w2,z2⟩:=I.cell y c' e
        exact ⟨w2,z2.sameBut hs hcc⟩
    · obtain ⟨e,n,ne,nf,d⟩:=I.pin p hp
      refine ⟨(hs.2 p.1 ?_).trans e,n,ne,nf,d⟩
      intro q
      rw [q,hoc] at e
      have q' : oc=p.2:=Option.some.inj e
      exact d w' (by rw [← q']; exact hocd)
theorem store_ok {M : Model} {A : Around} {E : Value→Shared→Prop} {i : Nat} {x : Str} {v : V} {u : Value} {Q : Unit→Shared→Prop} (I : Inv X pins σ H s) (hN : X.N.Nodup) (hi : X.N[i]? = some x) (hx : Loc X.env.scope x) (r : RelV v u)
    (h : ∀ s',Inv X pins (σ.set i (some v)) H s'→Q () s') (hf : X.fn x=true∨X.env.scope.names.lookup x=some .local:=by first | exact .inl rfl | exact .inr rfl | assumption) : wpAny M A (storeName X.env x u) Q E s:=
  store_ok2 I hN hi hx r (fun s' I' _=>h s' I') hf
theorem Inv.call' {s' : Shared} {ch : List Addr} (I : Inv X pins σ H s) (ho : s'.os=s.os) (u : Un (frs X.stack) ch H H' s.heap s'.heap) (hok : HOk X.prog X.w H' s'.heap) (hg : AllBare s'.gens)
    (hch : ∀ b∈ch,(b∈X.ex∨X.s₀.heap.objs.size≤b)∧b≠X.env.locals∧(∀ x c,X.env.cells.lookup x=some c→c≠b)∧∀ p∈X.pn ++ pins,p.1≠b) : Inv X pins σ H' s':=by
  obtain ⟨h',g',d',t',o'⟩:=s'
  have e : o' = s.os:=ho
  subst e
  exact I.call (g':=g') (t':=t') (d':=d') u hok hg hch
end
abbrev XK:=Value→Option Addr→Hp→Prop
abbrev St:=List (Option V)
abbrev VK:=V→Hp→Prop
abbrev TE:=St→Hp→VK→Prop
abbrev TT:=St→Hp→(Bool→Hp→Prop)→Prop
abbrev TA:=St→Hp→(List V→Hp→Prop)→Prop
structure Ends where
  nx : St→Hp→Prop
  rt : VK
  bk : St→Hp→Prop:=fun _ _=>False
  ct : St→Hp→Prop:=fun _ _=>False
abbrev TS:=Ends→St→Hp→Prop
def EP (X : Cx) (pins : List (Addr×Obj)) (σ : St) (Q : VK) (u : Value) (s' : Shared) : Prop:=∃ v H',Inv X pins σ H' s'∧RelV v u∧Q v H'
def TP (X : Cx) (pins : List (Addr×Obj)) (σ : St) (Q : Bool→Hp→Prop) (b : Bool) (s' : Shared) : Prop:=∃ H',Inv X pins σ H' s'∧Q b H'
def AP (X : Cx) (pins : List (Addr×Obj)) (σ : St) (Q : List V→Hp→Prop) (us : List Value) (s' : Shared) : Prop:=∃ vs H',Inv X pins σ H' s'∧Vals vs us∧Q vs H'
def SP (X : Cx) (pins : List (Addr×Obj)) (D : Ends) (f : Flow) (s' : Shared) : Prop:=
  match f with
  | .next=>∃ σ' H',Inv X pins σ' H' s'∧D.nx σ' H'
  | .brk=>∃ σ' H',Inv X pins σ' H' s'∧D.bk σ' H'
  | .cont=>∃ σ' H',Inv X pins σ' H' s'∧D.ct σ' H'
  | .ret u=>∃ v σ' H',Inv X pins σ' H' s'∧RelV v u∧D.rt v H'
def PE (X : Cx) (e : Expr) (t : TE) : Prop:=
  ∀ (pins : List (Addr×Obj)) (s : Shared) (σ : St) (H : Hp) (Q : VK),Inv X pins σ H s→t σ H Q→wpAny (model X.prog X.w) X.A (eval e X.env) (EP X pins σ Q) X.xe s
def PT (X : Cx) (e : Expr) (t : TT) : Prop:=
  ∀ (pins : List (Addr×Obj)) (s : Shared) (σ : St) (H : Hp) (Q : Bool→Hp→Prop),Inv X pins σ H s→t σ H Q→wpAny (model X.prog X.w) X.A (isTrue e X.env (eval e X.env)) (TP X pins σ Q) X.xe s
def PW (X : Cx) (e : Expr) (t : TT) : Prop:=
  ∀ (whole : Sem Value) (pins : List (Addr×Obj)) (s : Shared) (σ : St) (H : Hp) (Q : Bool→Hp→Prop),Inv X pins σ H s→t σ H Q→wpAny (model X.prog X.w) X.A (isTrue e X.env whole) (TP X pins σ Q) X.xe s
theorem PW.pt {X : Cx} {e : Expr} {t : TT} (h : PW X e t) : PT X e t:=h _
def PA (X : Cx) (es : List Expr) (t : TA) : Prop:=
  ∀ (pos : Pos) (pins : List (Addr×Obj)) (s : Shared) (σ : St) (H : Hp) (Q : List V→Hp→Prop),Inv X pins σ H s→t σ H Q→wpAny (model X.prog X.w) X.A (spliced (backTo pos (starEach es X.env))) (AP X pins σ Q) X.xe s
def PS (X : Cx) (st : Stmt) (t : TS) : Prop:=
  ∀ (pins : List (Addr×Obj)) (s : Shared) (σ : St) (H : Hp) (D : Ends),Inv X pins σ H s→t D σ H→wpAny (model X.prog X.w) X.A (exec st X.env) (SP X pins D) X.xe s
def PSs (X : Cx) (st : List Stmt) (t : TS) : Prop:=
  ∀ (pins : List (Addr×Obj)) (s : Shared) (σ : St) (H : Hp) (D : Ends),Inv X pins σ H s→t D σ H→wpAny (model X.prog X.w) X.A (execs st X.env) (SP X pins D) X.xe s
theorem thn {α : Type} {t : Sem α} {Q Q' : α→Shared→Prop} {M : Model} {A : Around} {E : Value→Shared→Prop} {s : Shared} (h : wpAny M A t Q E s) (hQ : ∀ a s,Q a s→Q' a s) : wpAny M A t Q' E s:=wpAny_mono h hQ fun _ _ x=>x
end L2
namespace L2
open PySem PySem.Spec PyProof.Rows
section
variable {X : Cx}
def tVar (i : Nat) : TE:=fun σ H Q=>∃ v,σ[i]? = some (some v)∧Q v H
def tC (v : V) : TE:=fun _ H Q=>Q v H
theorem pe_var {i : Nat} {x : Str} {pos : Pos} (hN : X.N[i]? = some x) (hv : Vis X.env.scope x) (hd : (x == ("__debug__" : Str))=false:=by decide) (hcd : (x == ("__classdict__" : Str))=false:=by decide) : PE X (.Name x pos) (tVar i):=by
  intro pins s σ H Q I h
  obtain ⟨v,e,h⟩:=h
  obtain ⟨m,hn,hl⟩:=I.loc
  obtain ⟨u,r,l⟩:=hl i x v hN e hv
  have fin : EP X pins σ Q u s:=⟨v,H,I,r,h⟩
  rcases l with ⟨hk,hm⟩ | ⟨hk,c,hc,hcell⟩
  · exact wpAny_Name (wpAny_loadName_local I.ok.kind hk hn hm fin) hd
  · rcases hk with hk | hk
    · exact wpAny_Name (wpAny_loadName_cell I.ok.kind hk hc hcell fin) hd
    · exact wpAny_Name (wpAny_loadName_free I.ok.kind hk hc hcell fin hcd) hd
theorem pe_int {i j pos} : PE X (.Constant (.int i) j pos) (tC (.int i)):=fun _ _ _ H _ I h=>wpAny_Constant_int ⟨.int i,H,I.tok _,⟨_,rfl⟩,h⟩
theorem pe_bl {b j pos} : PE X (.Constant (.bool b) j pos) (tC (.bl b)):=fun _ _ _ H _ I h=>Constant_bool ⟨.bl b,H,I,rfl,h⟩
theorem pe_non {j pos} : PE X (.Constant .none j pos) (tC .non):=fun _ _ _ H _ I h=>Constant_none ⟨.non,H,I,rfl,h⟩
theorem pe_str {x j pos} : PE X (.Constant (.str x) j pos) (tC (.str x)):=fun _ _ _ H _ I h=>Calls.Constant_str ⟨.str x,H,I.tok _,⟨_,rfl⟩,h⟩
def Gl (X : Cx) (x : Str) : Prop:=X.env.kindOf x=some .globalImplicit
theorem ld_glob {E : Value→Shared→Prop} {pins : List (Addr×Obj)} {s : Shared} {σ : St} {H : Hp} {x : Str} {u : Value} {pos : Pos} {Q : Value→Shared→Prop} (I : Inv X pins σ H s) (hg : Gl X x) (hm : X.mg x=some u) (h : Q u s)
    (hd : (x == ("__debug__" : Str))=false:=by decide) : wpAny (model X.prog X.w) X.A (eval (.Name x pos) X.env) Q E s :=
  Calls.Name_function_global I.ok.kind hg (Calls.loadGlobal_global (by rw [I.ok.glob]; exact I.mod.glob.keeps I.bk) hm h) hd
theorem ld_blt {E : Value→Shared→Prop} {pins : List (Addr×Obj)} {s : Shared} {σ : St} {H : Hp} {x : Str} {u : Value} {pos : Pos} {Q : Value→Shared→Prop} (I : Inv X pins σ H s) (hg : Gl X x) (hm : X.mg x=none) (hv : bootBuiltins x=some u) (h : Q u s)
    (hn : x ≠ "__name__" := by decide) (hd : (x == ("__debug__" : Str))=false:=by decide) : wpAny (model X.prog X.w) X.A (eval (.Name x pos) X.env) Q E s:=by
  obtain ⟨mb,h1,h2⟩:=I.mod.blt
  exact Calls.Name_function_global I.ok.kind hg (Calls.loadGlobal_builtin (by rw [I.ok.glob]; exact I.mod.glob.keeps I.bk) hm (by rw [I.ok.blt]; exact h1.keeps I.bk) ((h2 x hn).trans hv) h) hd
theorem pe_glob {x : Str} {v : V} {u : Value} {pos : Pos} (hg : Gl X x) (hm : X.mg x=some u) (r : RelV v u) (hd : (x == ("__debug__" : Str))=false:=by decide) : PE X (.Name x pos) (tC v) :=
  fun _ _ _ H _ I h=>ld_glob I hg hm ⟨v,H,I,r,h⟩ hd
theorem pe_bltn {x : Str} {v : V} {u : Value} {pos : Pos} (hg : Gl X x) (hm : X.mg x=none) (hv : bootBuiltins x=some u) (r : RelV v u) (hn : x ≠ "__name__" := by decide) (hd : (x == ("__debug__" : Str))=false:=by decide) : PE X (.Name x pos) (tC v) :=
  fun _ _ _ H _ I h=>ld_blt I hg hm hv ⟨v,H,I,r,h⟩ hn hd
variable {a b : Expr} {ta tb : TE} {pos : Pos}
variable {tA tB' : TT} {rest : List Expr}
def tAnd (t u : TT) : TT:=fun σ H Q=>t σ H fun c H1=>if c=true then u σ H1 Q else Q false H1
def tOr (t u : TT) : TT:=fun σ H Q=>t σ H fun c H1=>if c=true then Q true H1 else u σ H1 Q
def tNot (t : TT) : TT:=fun σ H Q=>t σ H fun c H1=>Q (!c) H1
theorem pw_and1 (ha : PT X a tA) : PW X (.BoolOp .And [a] pos) tA:=by
  intro wh pins s σ H Q I h
  refine isTrue_and (thn (ha pins s σ H Q I h) fun c s1 e=>?_)
  cases c with
  | true=>exact isTrue_and_nil e
  | false=>exact e
theorem pw_or1 (ha : PT X a tA) : PW X (.BoolOp .Or [a] pos) tA:=by
  intro wh pins s σ H Q I h
  refine isTrue_or (thn (ha pins s σ H Q I h) fun c s1 e=>?_)
  cases c with
  | false=>exact isTrue_or_nil e
  | true=>exact e
theorem pw_and (ha : PT X a tA) (hb : PW X (.BoolOp .And (b :: rest) pos) tB') : PW X (.BoolOp .And (a :: b :: rest) pos) (tAnd tA tB'):=by
  intro wh pins s σ H Q I h
  refine isTrue_and (thn (ha pins s σ H _ I h) fun c s1 ⟨H1,I1,q1⟩=>?_)
  cases c with
  | true=>exact hb wh pins s1 σ H1 Q I1 q1
  | false=>exact ⟨H1,I1,q1⟩
theorem pw_or (ha : PT X a tA) (hb : PW X (.BoolOp .Or (b :: rest) pos) tB') : PW X (.BoolOp .Or (a :: b :: rest) pos) (tOr tA tB'):=by
  intro wh pins s σ H Q I h
  refine isTrue_or (thn (ha pins s σ H _ I h) fun c s1 ⟨H1,I1,q1⟩=>?_)
  cases c with
  | true=>exact ⟨H1,I1,q1⟩
  | false=>exact hb wh pins s1 σ H1 Q I1 q1
theorem pt_not (ha : PT X a tA) : PT X (.UnaryOp .Not a pos) (tNot tA):=by
  intro pins s σ H Q I h
  exact isTrue_not (ha pins s σ H (fun c H1=>Q (!c) H1) I h)
def tAndV (ta tb : TE) : TE:=fun σ H Q=>ta σ H fun x H1=>∃ c,x = .bl c∧if c=true then tb σ H1 Q else Q (.bl false) H1
theorem pe_one {op} {t : TE} (h : PE X a t) : PE X (.BoolOp op [a] pos) t:=fun pins s σ H Q I hw=>BoolOp_one (h pins s σ H Q I hw)
theorem pe_and (ha : PE X a ta) (hb : PE X (.BoolOp .And (b :: rest) pos) tb) : PE X (.BoolOp .And (a :: b :: rest) pos) (tAndV ta tb):=by
  intro pins s σ H Q I h
  refine BoolOp_and (thn (ha pins s σ H _ I h) fun v s1 ⟨x,H1,I1,r1,q1⟩=>?_)
  obtain ⟨c,rfl,q1⟩:=q1
  cases r1
  refine wpAny_truthy_bool ?_
  cases c with
  | true=>exact hb pins s1 σ H1 Q I1 q1
  | false=>exact ⟨.bl false,H1,I1,rfl,q1⟩
end
end L2
namespace L2
open PySem PySem.Spec PyProof.Rows
def SqL (K : PySem.W.Frag) (H : Hp) (a : Addr) (xs : List V) : Prop:=
  Rd H a (.lst xs)∨
    ∃ (o : Obj) (its : Array Value) (n : Nat),K.lookup a=some o∧o.cls = .type "list" ∧ o.dict=none∧o.data = .seq its n∧its.size≤sizeLine∧Vals xs its.toList
def SqT (K : PySem.W.Frag) (H : Hp) (a : Addr) (xs : List V) : Prop:=
  Rd H a (.tup xs)∨
    ∃ (o : Obj) (its : Array Value) (n : Nat),K.lookup a=some o∧o.cls = .type "tuple" ∧ o.data = .seq its n∧its.size≤sizeLine∧Vals xs its.toList
def absV : Value→Option V
  | .none=>some .non
  | .bool b=>some (.bl b)
  | .int i _=>some (.int i)
  | .str x _=>some (.str x)
  | .bytes b _=>some (.byt b)
  | .float b _=>some (.flt b)
  | .ref a=>some (.ref a)
  | .type n=>some (.ty n)
  | _=>none
theorem RelV.abs {x : V} {u : Value} (r : RelV x u) : absV u=some x:=by
  cases x with
  | non=>cases r; rfl
  | bl _=>cases r; rfl
  | int _=>obtain ⟨t,rfl⟩:=r; rfl
  | str _=>obtain ⟨t,rfl⟩:=r; rfl
  | byt _=>obtain ⟨t,rfl⟩:=r; rfl
  | flt _=>obtain ⟨t,rfl⟩:=r; rfl
  | ref _=>cases r; rfl
  | ty _=>cases r; rfl
theorem RelV.inj {x y : V} {u : Value} (r : RelV x u) (q : RelV y u) : x=y:=Option.some.inj (r.abs.symm.trans q.abs)
theorem Vals.inj : ∀ {xs ys : List V} {us : List Value},Vals xs us→Vals ys us→xs=ys
  | _,_,_,.nil,.nil=>rfl
  | _,_,_,.cons r t,.cons r' t'=>by rw [r.inj r',Vals.inj t t']
section
variable {X : Cx} {pins : List (Addr×Obj)} {σ : St} {H : Hp} {s : Shared} {a : Addr} {xs ys : List V}
theorem SqL.of {K : PySem.W.Frag} (h : H a=some (.lst xs)) : SqL K H a xs:=.inl (.inl h)
theorem SqT.of {K : PySem.W.Frag} (h : H a=some (.tup xs)) : SqT K H a xs:=.inl (.inl h)
theorem Inv.list (I : Inv X pins σ H s) (h : SqL X.K H a xs) : ∃ its : List Value,Vals xs its∧PlainL s.heap a its.toArray∧xs.length≤sizeLine:=by
  rcases h with h | ⟨o,its,n,hk,hc,hd,hs,hz,r⟩
  · obtain ⟨z,its,n,r,e⟩:=h.ok I.hok
    exact ⟨its,r,⟨_,n,e,rfl,rfl,rfl⟩,z⟩
  · refine ⟨its.toList,r,⟨o,n,I.kIn a o hk,hc,hd,by simpa using hs⟩,?_⟩
    have e:=r.length
    simp only [Array.length_toList] at e
    omega
theorem Inv.tuple (I : Inv X pins σ H s) (h : SqT X.K H a xs) : ∃ its : List Value,Vals xs its∧IsTup s.heap a its.toArray∧xs.length≤sizeLine:=by
  rcases h with h | ⟨o,its,n,hk,hc,hs,hz,r⟩
  · obtain ⟨z,its,r,p⟩:=h.ok I.hok
    exact ⟨its,r,p,z⟩
  · refine ⟨its.toList,r,⟨o,I.kIn a o hk,hc,n,by simpa using hs⟩,?_⟩
    have e:=r.length
    simp only [Array.length_toList] at e
    omega
theorem Inv.list_inj (I : Inv X pins σ H s) (h : SqL X.K H a xs) (h' : SqL X.K H a ys) : xs=ys:=by
  obtain ⟨its,r,⟨o,n,e,_,_,d⟩,_⟩:=I.list h
  obtain ⟨its',r',⟨o',n',e',_,_,d'⟩,_⟩:=I.list h'
  rw [e] at e'; cases e'
  rw [d] at d'
  injection d' with d1 _
  have : its=its':=by simpa using congrArg Array.toList d1
  subst this
  exact r.inj r'
theorem Inv.tuple_inj (I : Inv X pins σ H s) (h : SqT X.K H a xs) (h' : SqT X.K H a ys) : xs=ys:=by
  obtain ⟨its,r,⟨o,e,_,n,d⟩,_⟩:=I.tuple h
  obtain ⟨its',r',⟨o',e',_,n',d'⟩,_⟩:=I.tuple h'
  rw [e] at e'; cases e'
  rw [d] at d'
  injection d' with d1 _
  have : its=its':=by simpa using congrArg Array.toList d1
  subst this
  exact r.inj r'
end
abbrev Cx.wish (X : Cx) (E : Value→Shared→Prop) : Cx:={ X with xe:=E }
abbrev Cx.nox (X : Cx) : Cx:=X.wish fun _ _=>False
theorem Cx.Ok.wish {X : Cx} (ok : X.Ok) (E : Value→Shared→Prop) : (X.wish E).Ok:=
  ⟨ok.mod,ok.kind,ok.glob,ok.blt,ok.above,ok.inj,ok.has,ok.cab,ok.hd,ok.frames,ok.stk,ok.exf,ok.bs,ok.bsz,ok.noex,ok.exfs,ok.funs,ok.frf⟩
theorem Cx.Ok.unwish {X : Cx} {E : Value→Shared→Prop} (ok : (X.wish E).Ok) : X.Ok:=
  ⟨ok.mod,ok.kind,ok.glob,ok.blt,ok.above,ok.inj,ok.has,ok.cab,ok.hd,ok.frames,ok.stk,ok.exf,ok.bs,ok.bsz,ok.noex,ok.exfs,ok.funs,ok.frf⟩
section
variable {X : Cx} {pins : List (Addr×Obj)} {σ : St} {H : Hp} {s : Shared} {E : Value→Shared→Prop}
theorem Inv.wish (I : Inv X pins σ H s) (E : Value→Shared→Prop) : Inv (X.wish E) pins σ H s:=⟨I.ok.wish E,I.os,I.bare,I.base,I.loc,I.cell,I.free,I.freeC,I.pin,I.hok,I.len⟩
theorem Inv.unwish (I : Inv (X.wish E) pins σ H s) : Inv X pins σ H s:=⟨I.ok.unwish,I.os,I.bare,I.base,I.loc,I.cell,I.free,I.freeC,I.pin,I.hok,I.len⟩
theorem SP.unwish {D : Ends} {f : Flow} {s' : Shared} (h : SP (X.wish E) pins D f s') : SP X pins D f s':=by
  cases f with
  | next=>obtain ⟨σ',H',I,q⟩:=h; exact ⟨σ',H',I.unwish,q⟩
  | brk=>obtain ⟨σ',H',I,q⟩:=h; exact ⟨σ',H',I.unwish,q⟩
  | cont=>obtain ⟨σ',H',I,q⟩:=h; exact ⟨σ',H',I.unwish,q⟩
  | ret u=>obtain ⟨v,σ',H',I,r,q⟩:=h; exact ⟨v,σ',H',I.unwish,r,q⟩
theorem PSs.nox {st : List Stmt} {t : TS} (h : PSs X.nox st t) : PSs X st t:=fun pins s σ H D I hw=>
  wpAny_mono (h pins s σ H D (I.wish _) hw) (fun _ _ q=>q.unwish) fun _ _ z=>False.elim z
end
section
variable {X : Cx} {st : Stmt} {rest : List Stmt} {t u : TS} {e : Expr} {te : TE} {pos : Pos}
def tNext : TS:=fun D σ H=>D.nx σ H
def tSeq (t u : TS) : TS:=fun D σ H=>t { D with nx:=u D } σ H
theorem pss_nil : PSs X [] tNext:=fun _ _ σ H _ I h=>wpAny_execs_nil ⟨σ,H,I,h⟩
theorem pss_cons (h1 : PS X st t) (h2 : PSs X rest u) : PSs X (st :: rest) (tSeq t u):=by
  intro pins s σ H D I h
  refine wpAny_execs_cons (thn (h1 pins s σ H { D with nx:=u D } I h) fun f s1 q=>?_)
  cases f with
  | next=>
    obtain ⟨σ',H',I',q⟩:=q
    exact h2 pins s1 σ' H' D I' q
  | ret v=>exact q
  | brk=>exact q
  | cont=>exact q
theorem pss_one (h1 : PS X st t) : PSs X [st] t:=by
  intro pins s σ H D I h
  refine wpAny_execs_cons (thn (h1 pins s σ H D I h) fun f s1 q=>?_)
  cases f with
  | next=>exact wpAny_execs_nil q
  | ret v=>exact q
  | brk=>exact q
  | cont=>exact q
theorem Inv.quiet {pins : List (Addr×Obj)} {σ : St} {H : Hp} {s : Shared} (I : Inv X pins σ H s) : interactive X.env=false:=by simp [interactive,I.ok.kind]
def tDrop (te : TE) : TS:=fun D σ H=>te σ H fun _ H1=>D.nx σ H1
theorem ps_expr (he : PE X e te) (hs : swapsWith e none pos.line X.env=pure false:=by rfl) : PS X (.Expr e pos) (tDrop te):=by
  intro pins s σ H D I h
  exact wpAny_Expr_any (thn (he pins s σ H _ I h) fun v s1 ⟨x,H1,I1,r1,q1⟩=>⟨σ,H1,I1,q1⟩) I.quiet hs
def tRet (te : TE) : TS:=fun D σ H=>te σ H D.rt
theorem ps_ret (he : PE X e te) : PS X (.Return (some e) pos) (tRet te):=by
  intro pins s σ H D I h
  exact wpAny_Return_some (thn (he pins s σ H _ I h) fun v s1 ⟨x,H1,I1,r1,q1⟩=>⟨x,σ,H1,I1,r1,q1⟩)
def tIfS (c : TT) (t u : TS) : TS:=fun D σ H=>c σ H fun b H1=>if b=true then t D σ H1 else u D σ H1
theorem ps_if {c : Expr} {a b : List Stmt} {tc : TT} (hc : PT X c tc) (ha : PSs X a t) (hb : PSs X b u) : PS X (.If c a b pos) (tIfS tc t u):=by
  intro pins s σ H D I h
  refine wpAny_If (thn (hc pins s σ H _ I h) fun d s1 ⟨H1,I1,q1⟩=>?_)
  cases d with
  | true=>exact ha pins s1 σ H1 D I1 q1
  | false=>exact hb pins s1 σ H1 D I1 q1
end
abbrev TG:=V→St→Hp→(St→Hp→Prop)→Prop
abbrev TGs:=List V→St→Hp→(St→Hp→Prop)→Prop
def PG (X : Cx) (target : Expr) (t : TG) : Prop:=
  ∀ (pins : List (Addr×Obj)) (s : Shared) (σ : St) (H : Hp) (v : V) (u : Value) (Q : St→Hp→Prop),Inv X pins σ H s→RelV v u→t v σ H Q→
    wpAny (model X.prog X.w) X.A (assign target X.env u) (fun _ s'=>∃ σ' H',Inv X pins σ' H' s'∧Q σ' H') X.xe s
def PGs (X : Cx) (ts : List Expr) (t : TGs) : Prop:=
  ∀ (pins : List (Addr×Obj)) (s : Shared) (σ : St) (H : Hp) (vs : List V) (us : List Value) (Q : St→Hp→Prop),Inv X pins σ H s→Vals vs us→t vs σ H Q→
    wpAny (model X.prog X.w) X.A (assignInOrder ((assignEach ts X.env).map (·.2)) us) (fun _ s'=>∃ σ' H',Inv X pins σ' H' s'∧Q σ' H') X.xe s
abbrev TSet:=V→V→V→Hp→(Hp→Prop)→Prop
def PSet (X : Cx) (t : TSet) : Prop:=
  ∀ (pins : List (Addr×Obj)) (s : Shared) (σ : St) (H : Hp) (o i v : V) (ov iv u : Value) (Q : Hp→Prop),Inv X pins σ H s→RelV o ov→RelV i iv→RelV v u→t o i v H Q→
    wpAny (model X.prog X.w) X.A (setItem ov iv u) (fun _ s'=>∃ H',Inv X pins σ H' s'∧Q H') X.xe s
section
variable {X : Cx} {pos : Pos}
def gName (i : Nat) : TG:=fun v σ H Q=>Q (σ.set i (some v)) H
theorem pg_name {i : Nat} {x : Str} (hN : X.N.Nodup) (hi : X.N[i]? = some x) (hx : Loc X.env.scope x) (hf : X.fn x=true∨X.env.scope.names.lookup x=some .local:=by first | exact .inl rfl | exact .inr rfl | assumption) : PG X (.Name x pos) (gName i):=by
  intro pins s σ H v u Q I r h
  exact wpAny_assign_Name (store_ok I hN hi hx r (fun s' I'=>⟨_,H,I',h⟩) hf)
def gNil : TGs:=fun vs σ H Q=>vs=[]∧Q σ H
def gCons (t : TG) (u : TGs) : TGs:=fun vs σ H Q=>∃ v r,vs=v :: r∧t v σ H fun σ' H'=>u r σ' H' Q
theorem pgs_nil : PGs X [] gNil:=by
  intro pins s σ H vs us Q I r h
  obtain ⟨e,h⟩:=h
  subst e
  cases r
  exact assignInOrder_nil ⟨σ,H,I,h⟩
theorem pgs_cons {e : Expr} {es : List Expr} {t : TG} {u : TGs} (h1 : PG X e t) (h2 : PGs X es u)
    (hs : (assignEach (e :: es) X.env).map (·.2)=assign e X.env :: (assignEach es X.env).map (·.2):=by rfl) : PGs X (e :: es) (gCons t u):=by
  intro pins s σ H vs us Q I r h
  obtain ⟨v,vr,e1,h⟩:=h
  subst e1
  cases r with
  | cons r rr=>
    rw [hs]
    refine assignInOrder_cons (thn (h1 pins s σ H _ _ _ I r h) fun _ s1 ⟨σ1,H1,I1,q1⟩=>?_)
    exact h2 pins s1 σ1 H1 _ _ Q I1 rr q1
def gTup (K : PySem.W.Frag) (n : Nat) (t : TGs) : TG:=fun v σ H Q=>∃ a xs,v = .ref a∧SqT K H a xs∧xs.length=n∧t xs σ H Q
theorem pg_tup {es : List Expr} {k : Nat} {t : TGs} {n : Nat} (hc : X.calm=true) (h : PGs X es t)
    (hn : (assignEach es X.env).length=n:=by rfl) (hst : (assignEach es X.env).findIdx? (·.1)=none:=by rfl) : PG X (.Tuple es k pos) (gTup X.K n t):=by
  intro pins s σ H v u Q I r hw
  obtain ⟨a,xs,e1,hq,hl,hw⟩:=hw
  subst e1
  cases r
  obtain ⟨its,rv,ht,hz⟩:=I.tuple hq
  refine assign_Tuple_tuple (I.ok.hd hc) ht (by simp [hn,← hl,rv.length]) hst fun h' hx=>?_
  have I1 : Inv X pins σ H { s with heap:=h' }:=I.kept (t':=s.toks) fun b o e=>hx b o (Nat.ne_of_lt (Heap.lt_size e)) e
  exact h pins _ σ H xs _ Q I1 (by simpa using rv) hw
def gSub (to ti : TE) (t : TSet) : TG:=fun v σ H Q=>to σ H fun o H1=>ti σ H1 fun i H2=>t o i v H2 fun H3=>Q σ H3
theorem pg_sub {o i : Expr} {to ti : TE} {t : TSet} (ho : PE X o to) (hi : PE X i ti) (hs : PSet X t)
    (ha : ∀ v,assign (.Subscript o i pos) X.env v=(do
      let ov ← holding [v] (eval o X.env)
      let iv ← holding [v,ov] (eval i X.env)
      standAt pos
      holding [v,ov,iv] (setItem ov iv v)
      release [v,ov,iv] []):=by intro _; rfl) : PG X (.Subscript o i pos) (gSub to ti t):=by
  intro pins s σ H v u Q I r h
  rw [ha]
  refine wpAny_bind (wpAny_holding (thn (ho pins s σ H _ I h) fun ov s1 ⟨x,H1,I1,r1,q1⟩=>?_))
  refine wpAny_bind (wpAny_holding (thn (hi pins s1 σ H1 _ I1 q1) fun iv s2 ⟨y,H2,I2,r2,q2⟩=>?_))
  refine wpAny_bind (wpAny_standAt (wpAny_bind (wpAny_holding (thn (hs pins s2 σ H2 x y v ov iv u _ I2 r1 r2 r q2) fun _ s3 ⟨H3,I3,q3⟩=>?_))))
  exact wpAny_release ⟨σ,H3,I3,q3⟩
def tAsg (te : TE) (g : TG) : TS:=fun D σ H=>te σ H fun x H1=>g x σ H1 D.nx
theorem ps_asg {tg e : Expr} {te : TE} {g : TG} (he : PE X e te) (hg : PG X tg g) (hs : swapsWithSole [tg] e pos.line X.env=pure false:=by rfl) (hw : swappedStores [tg] e X.env=pure none:=by rfl)
    (h1 : (assignEach [tg] X.env).map (·.2)=[assign tg X.env]:=by rfl) : PS X (.Assign [tg] e pos) (tAsg te g):=by
  intro pins s σ H D I h
  refine wpAny_Assign_stores (thn (he pins s σ H _ I h) fun v s1 ⟨x,H1,I1,r1,q1⟩=>?_) hs hw
  rw [h1]
  exact thn (hg pins s1 σ H1 x v _ I1 r1 q1) fun _ s2 q=>q
theorem ps_set {i : Nat} {x : Str} {e : Expr} {te : TE} {pos' : Pos} (hN : X.N.Nodup) (hi : X.N[i]? = some x) (hx : Loc X.env.scope x) (he : PE X e te) (hs : swapsWith e (some (.Name x pos')) pos.line X.env=pure false:=by rfl) (hf : X.fn x=true∨X.env.scope.names.lookup x=some .local:=by first | exact .inl rfl | exact .inr rfl | assumption) :
    PS X (.Assign [.Name x pos'] e pos) (tAsg te (gName i)):=by
  intro pins s σ H D I h
  refine wpAny_Assign_Name (thn (he pins s σ H _ I h) fun v s1 ⟨y,H1,I1,r1,q1⟩=>?_) hs
  exact store_ok I1 hN hi hx r1 (fun s2 I2=>⟨_,H1,I2,q1⟩) hf
end
section
variable {X : Cx} {pos : Pos}
end
structure It where
  go : Nat→Hp→Prop
  yld : Nat→Hp→V→Hp→Prop
  stop : Nat→Hp→Prop
def FpOk (X : Cx) (pins : List (Addr×Obj)) (H : Hp) (b : Addr) : Prop:=
  H b=none∧b≠X.env.locals∧b ∉ X.fs∧(b∈X.ex∨X.s₀.heap.objs.size≤b)∧(∀ x c,X.env.cells.lookup x=some c→c≠b)∧∀ p∈X.pn ++ pins,p.1≠b
theorem Inv.fpOk {X : Cx} {pins : List (Addr×Obj)} {σ : St} {H H' : Hp} {s : Shared} {b : Addr} (I : Inv X pins σ H s) (hb : s.heap.objs.size≤b) (hn : H' b=none) : FpOk X pins H' b:=by
  refine ⟨hn,Nat.ne_of_gt (Nat.lt_of_lt_of_le I.lt hb),I.nofs hb,.inr (Nat.le_trans I.sz hb),fun x c e z=>?_,fun p hp z=>?_⟩
  · obtain ⟨v,q⟩:=I.cell x c e
    exact absurd (Nat.lt_of_lt_of_le q.lt (by rw [z]; exact hb)) (Nat.lt_irrefl _)
  · exact absurd (Nat.lt_of_lt_of_le (Heap.lt_size (I.pin p hp).1) (by rw [z]; exact hb)) (Nat.lt_irrefl _)
structure Turn (P : Program) (w : World) (K : PySem.W.Frag) (tg : Expr) (J : It) (fp : List Addr) (it : Addr) (tn : Nat→Heap→Prop) : Prop where
  mem : it∈fp
  obj : ∀ i h,tn i h→∀ b∈fp,∃ o,h.get? b=some o∧∀ v,o.data≠.cell v
  keep : ∀ i h h',tn i h→(∀ b∈fp,∀ o,h.get? b=some o→h'.get? b=some o)→tn i h'
  item : ∀ (X : Cx),X.prog=P→X.w=w→X.K=K→X.calm=true→∀ (i : Nat) (pins : List (Addr×Obj)) (s : Shared) (σ : St) (H : Hp) (E : Value→Shared→Prop),Inv X pins σ H s→(∀ b∈fp,FpOk X pins H b)→tn i s.heap→J.go i H→
    wpAny (model P w) X.A (pyNext (.ref it)) (fun r s1=>∃ u,r=some u∧
      wpAny (model P w) X.A (letOwnedTupleGo tg (.ref it) u) (fun _ s2=>∃ x H',Inv X pins σ H' s2∧RelV x u∧J.yld i H x H'∧tn (i + 1) s2.heap∧∀ b∈fp,H' b=none) E s1) E s
  done : ∀ (X : Cx),X.prog=P→X.w=w→X.K=K→X.calm=true→∀ (i : Nat) (pins : List (Addr×Obj)) (s : Shared) (σ : St) (H : Hp) (E : Value→Shared→Prop),Inv X pins σ H s→(∀ b∈fp,FpOk X pins H b)→tn i s.heap→J.stop i H→
    wpAny (model P w) X.A (pyNext (.ref it)) (fun r s1=>r=none∧Inv X pins σ H s1) E s
  self : ∀ (A : Around) (i : Nat) (s : Shared) (Q : Value→Shared→Prop) (E : Value→Shared→Prop),tn i s.heap→Q (.ref it) s→wpAny (model P w) A (pyIter (.ref it)) Q E s
abbrev TI:=St→Hp→(It→Hp→Prop)→Prop
def PIE (X : Cx) (pins : List (Addr×Obj)) (σ : St) (tg : Expr) (R : It→Hp→Prop) (itv : Value) (s2 : Shared) : Prop:=
  ∃ (it : Addr) (fp : List Addr) (tn : Nat→Heap→Prop) (J : It) (H' : Hp),itv = .ref it∧Inv X pins σ H' s2∧Turn X.prog X.w X.K tg J fp it tn∧tn 0 s2.heap∧(∀ b∈fp,FpOk X pins H' b)∧R J H'
def PI (X : Cx) (tg iter : Expr) (wi : TI) : Prop:=
  ∀ (pins : List (Addr×Obj)) (s : Shared) (σ : St) (H : Hp) (R : It→Hp→Prop),Inv X pins σ H s→wi σ H R→
    wpAny (model X.prog X.w) X.A (eval iter X.env) (fun v s1=>wpAny (model X.prog X.w) X.A (pyIter v) (PIE X pins σ tg R) X.xe s1) X.xe s
theorem go_of {M : Model} {A : Around} {E : Value→Shared→Prop} {s : Shared} {tg : Expr} {it : Addr} {u : Value} {o : Obj} {n : String} {vs : Array Value} {Q : Unit→Shared→Prop} (ho : s.heap.get? it=some o) (hc : o.cls = .type n) (hd : o.data = .fields vs)
    (hn : ["enumerate","zip","dict_itemiterator","dict_reverseitemiterator","odict_iterator","itertools.zip_longest","itertools.pairwise"].contains n=false) (hQ : Q () s) : wpAny M A (letOwnedTupleGo tg (.ref it) u) Q E s:=by
  unfold letOwnedTupleGo
  cases tg <;> first
    | exact wpAny_pure hQ
    | (cases u <;> first
        | exact wpAny_pure hQ
        | (refine wpAny_bind (wpAny_load ho ?_)
           rw [hc,hd]
           show wpAny M A (if (["enumerate","zip","dict_itemiterator","dict_reverseitemiterator","odict_iterator","itertools.zip_longest","itertools.pairwise"].contains n && vs[0]? == some (rawInt _))=true then _ else _) Q E s
           rw [if_neg (by intro h; rw [hn,Bool.false_and] at h; cases h)]
           exact wpAny_pure hQ))
def Itl (K : PySem.W.Frag) (a : Addr) : It:=
  ⟨fun i H=>∃ xs x,SqL K H a xs∧xs[i]? = some x,fun i H x H'=>H' = H∧∀ xs,SqL K H a xs→xs[i]? = some x,fun i H=>∃ xs,SqL K H a xs∧xs.length≤i⟩
def Itr (lo : Int) (n : Nat) : It:=⟨fun i _=>i < n,fun i H x H'=>H' = H∧x = .int (lo + i),fun i _=>n≤i⟩
theorem turn_list {P : Program} {w : World} {K : PySem.W.Frag} {tg : Expr} (a it : Addr) : Turn P w K tg (Itl K a) [it] it (fun i h=>h.IsListIter it a i) where
  mem:=by simp
  obj:=fun i h st b hb=>by
    have e : b=it:=by simpa using hb
    subst e
    obtain ⟨o,e,c,d⟩:=st
    exact ⟨o,e,fun v z=>by rw [d] at z; cases z⟩
  keep:=fun i h h' st k=>st.at fun o e=>k it (by simp) o e
  item:=by
    intro X hP hw hK hc i pins s σ H E I hf st hg
    subst hP hw hK
    obtain ⟨xs,x,hq,hx⟩:=hg
    obtain ⟨its,rv,p,hz⟩:=I.list hq
    obtain ⟨u,hu,ru⟩:=rv.get hx
    obtain ⟨f0,f1,f2,f3,f4,f5⟩:=hf it (by simp)
    refine wpAny_pyNext_list_item st p.isList (x:=u) (by simpa using hu) fun h' st' sb=>?_
    have I1 : Inv X pins σ H { s with heap:=h' }:=I.turned (t':=s.toks) (fun b o hb e=>(sb.2 b hb).trans e) f0 f1 f3 f4 f5
    obtain ⟨o,e,c,d⟩:=id st'
    exact ⟨u,rfl,go_of (s:={ s with heap:=h' }) e c d (by decide) ⟨x,H,I1,ru,⟨rfl,fun ys hy=>by rw [I.list_inj hy hq]; exact hx⟩,st',fun b hb=>(hf b hb).1⟩⟩
  done:=by
    intro X hP hw hK hc i pins s σ H E I hf st hg
    subst hP hw hK
    obtain ⟨xs,hq,hx⟩:=hg
    obtain ⟨its,rv,p,hz⟩:=I.list hq
    obtain ⟨f0,f1,f2,f3,f4,f5⟩:=hf it (by simp)
    have hl:=rv.length
    exact wpAny_pyNext_list_end (I.ok.hd hc) st p.isList (by simp; omega) fun h' eb=>⟨rfl,I.turned (t':=s.toks) (fun b o hb e=>eb b o hb e) f0 f1 f3 f4 f5⟩
  self:=fun _ _ _ _ _ st h=>wpAny_pyIter_listiter st h
theorem turn_range {P : Program} {w : World} {K : PySem.W.Frag} {tg : Expr} (it : Addr) (lo : Int) (n : Nat) : Turn P w K tg (Itr lo n) [it] it (fun i h=>IsRangeIter h it (lo + (i : Nat) * 1) ((n : Int) - (i : Nat)) 1) where
  mem:=by simp
  obj:=fun i h st b hb=>by
    have e : b=it:=by simpa using hb
    subst e
    exact ⟨_,st,fun v z=>by
      have z' : Data.fields _=Data.cell v:=z
      cases z'⟩
  keep:=fun i h h' st k=>k it (by simp) _ st
  item:=by
    intro X hP hw hK hc i pins s σ H E I hf st hg
    subst hP hw hK
    obtain ⟨f0,f1,f2,f3,f4,f5⟩:=hf it (by simp)
    have W:=Walks.range (prog:=X.prog) (w:=X.w) (I.ok.hd hc) it lo 1 n
    refine W.item i s _ _ hg st fun v h' tk hv st' kk=>?_
    obtain ⟨t,rfl⟩:=hv
    have I1 : Inv X pins σ H { s with heap:=h',toks:=tk }:=I.turned (fun b o hb e=>kk b o (by simpa using hb) e) f0 f1 f3 f4 f5
    refine ⟨_,rfl,go_of (s:={ s with heap:=h',toks:=tk }) (n := "range_iterator") st' rfl rfl (by decide) ⟨.int (lo + i),H,I1,⟨t,?_⟩,⟨rfl,rfl⟩,st',fun b hb=>(hf b hb).1⟩⟩
    rw [Int.mul_one]
  done:=by
    intro X hP hw hK hc i pins s σ H E I hf st hg
    subst hP hw hK
    obtain ⟨f0,f1,f2,f3,f4,f5⟩:=hf it (by simp)
    exact wpAny_pyNext_range_end (I.ok.hd hc) st (by have : n≤i:=hg; omega) fun h' eb=>⟨rfl,I.turned (t':=s.toks) (fun b o hb e=>eb b o hb e) f0 f1 f3 f4 f5⟩
  self:=fun _ _ _ _ _ st h=>wpAny_pyIter_rangeiter st h
end L2
namespace L2
open PySem PySem.Spec PyProof.Rows
section
variable {X : Cx} {tg : Expr}
def iList (K : PySem.W.Frag) (tl : TE) : TI:=fun σ H R=>tl σ H fun x H1=>∃ a,x = .ref a∧(∃ xs,SqL K H1 a xs)∧R (Itl K a) H1
theorem pi_list {l : Expr} {tl : TE} (hl : PE X l tl) : PI X tg l (iList X.K tl):=by
  intro pins s σ H R I h
  refine thn (hl pins s σ H _ I h) fun v s1 ⟨x,H1,I1,r1,q1⟩=>?_
  obtain ⟨a,e,⟨xs,hq⟩,q⟩:=q1
  subst e
  cases r1
  obtain ⟨its,rv,p,hz⟩:=I1.list hq
  refine wpAny_pyIter_list p.isList ?_
  refine ⟨s1.heap.objs.size,[s1.heap.objs.size],_,_,H1,rfl,I1.kept (t':=s1.toks) fun b o e=>Heap.get?_push_of_some _ e,turn_list a _,⟨_,Heap.get?_push_size _ rfl,rfl,rfl⟩,fun b hb=>?_,q⟩
  have e : b=s1.heap.objs.size:=by simpa using hb
  subst e
  exact I1.fpOk (Nat.le_refl _) (I1.hok.fresh (Nat.le_refl _))
theorem range_it {pins : List (Addr×Obj)} {σ : St} {H : Hp} {s : Shared} {R : It→Hp→Prop} {E : Value→Shared→Prop} {lo hi : Int} {t u v : Tok} {tk : Nat} (I : Inv X pins σ H s) (h1 : -(2 ^ 62)≤lo) (h2 : lo < 2 ^ 62) (h3 : -(2 ^ 62)≤hi) (h4 : hi < 2 ^ 62)
    (q : R (Itr lo (hi - lo).toNat) H) : wpAny (model X.prog X.w) X.A (pyIter (.ref s.heap.objs.size)) (PIE X pins σ tg R) E { s with heap:=s.heap.push { cls:=.type "range",data:=.fields #[.int lo t,.int hi u,.int 1 v] },toks:=tk }:=by
  refine wpAny_pyIter_range (IsRange.new ..) (small_one h1 h2 h3 h4) ?_
  have I1 : Inv X pins σ H { s with heap:=s.heap.push { cls:=.type "range",data:=.fields #[.int lo t,.int hi u,.int 1 v] },toks:=tk }:=I.kept fun b o e=>Heap.get?_push_of_some _ e
  refine ⟨(s.heap.push { cls:=.type "range",data:=.fields #[.int lo t,.int hi u,.int 1 v] }).objs.size,[(s.heap.push { cls:=.type "range",data:=.fields #[.int lo t,.int hi u,.int 1 v] }).objs.size],_,_,H,rfl,
    I1.kept (t':=tk) fun b o e=>Heap.get?_push_of_some _ e,turn_range _ lo (hi - lo).toNat,?_,fun b hb=>?_,q⟩
  · have e1 : lo + ((0 : Nat) : Int) * 1=lo:=by simp
    have e2 : (((hi - lo).toNat : Nat) : Int) - ((0 : Nat) : Int)=Builtin.Range.rangeSize lo hi 1:=by rw [rangeSize_one]; split <;> omega
    show IsRangeIter _ _ (lo + ((0 : Nat) : Int) * 1) ((((hi - lo).toNat : Nat) : Int) - ((0 : Nat) : Int)) 1
    rw [e1,e2]
    exact Heap.get?_push_size _ rfl
  · have e : b=(s.heap.push { cls:=.type "range",data:=.fields #[.int lo t,.int hi u,.int 1 v] }).objs.size:=by simpa using hb
    subst e
    exact I1.fpOk (Nat.le_refl _) (I1.hok.fresh (Nat.le_refl _))
def iRng1 (ta : TA) : TI:=fun σ H R=>ta σ H fun vs H1=>∃ j : Int,vs=[.int j]∧-(2 ^ 62)≤j∧j < 2 ^ 62∧R (Itr 0 j.toNat) H1
theorem pi_range1 {a : Expr} {ta : TA} {p pos : Pos} (hg : Gl X "range") (hm : X.mg "range" = none) (ha : PA X [a] ta) (hs : starEach [a] X.env=[(false,eval a X.env)]:=by rfl) : PI X tg (.Call (.Name "range" p) [a] [] pos) (iRng1 ta):=by
  intro pins s σ H R I h
  refine Call_ (ld_blt I hg hm boot_range (PyProof.Rows.callWith_type1 (thn (ha pos pins s σ H _ I h) fun us s1 ⟨vs,H1,I1,r1,q1⟩=>?_) hs rfl))
  obtain ⟨j,e,q1,q2,q⟩:=q1
  subst e
  cases r1 with
  | cons r rr=>
    cases rr
    obtain ⟨t,rfl⟩:=r
    exact call_range_1 (range_it I1 (by omega) (by omega) q1 q2 (by simpa using q))
def tFor (wi : TI) (g : TG) (tb : TS) : TS:=fun D σ H=>wi σ H fun J H1=>∃ W : Nat→Nat→St→Hp→Prop,(∃ m,W 0 m σ H1)∧∀ i m σ H,W i m σ H→
  (J.stop i H∧D.nx σ H)∨(J.go i H∧∃ N : St→Hp→Prop,(∀ σ' H',N σ' H'→∃ m',m' < m∧W (i + 1) m' σ' H')∧∀ x H',J.yld i H x H'→g x σ H' fun σ2 H2=>tb { D with nx:=N,ct:=N,bk:=D.nx } σ2 H2)
def pinsAt (fp : List Addr) (h : Heap) : List (Addr×Obj):=fp.filterMap fun b=>(h.get? b).map fun o=>(b,o)
theorem mem_pinsAt {fp : List Addr} {h : Heap} {b : Addr} {o : Obj} (hb : b∈fp) (e : h.get? b=some o) : (b,o)∈pinsAt fp h:=List.mem_filterMap.mpr ⟨b,hb,by rw [e]; rfl⟩
theorem of_pinsAt {fp : List Addr} {h : Heap} {p : Addr×Obj} (hp : p∈pinsAt fp h) : p.1∈fp∧h.get? p.1=some p.2:=by
  obtain ⟨b,hb,e⟩:=List.mem_filterMap.mp hp
  cases q : h.get? b with
  | none=>rw [q] at e; cases e
  | some o=>
    rw [q] at e
    have e' : (b,o)=p:=Option.some.inj e
    subst e'
    exact ⟨hb,q⟩
theorem Inv.pinned {pins : List (Addr×Obj)} {σ : St} {H : Hp} {s : Shared} {fp : List Addr} (I : Inv X pins σ H s) (hf : ∀ b∈fp,FpOk X pins H b) (ho : ∀ b∈fp,∃ o,s.heap.get? b=some o∧∀ v,o.data≠.cell v) : Inv X (pins ++ pinsAt fp s.heap) σ H s:=
  I.pins_of fun p hp=>(List.mem_append.mp hp).elim (fun z=>I.pin p (List.mem_append_right _ z)) fun z=>by
    obtain ⟨hb,e⟩:=of_pinsAt z
    obtain ⟨f0,f1,f2,_⟩:=hf p.1 hb
    obtain ⟨o,e',d⟩:=ho p.1 hb
    rw [e] at e'; cases e'
    exact ⟨e,f0,f1,f2,d⟩
theorem Inv.unpinned {pins pl : List (Addr×Obj)} {σ : St} {H : Hp} {s : Shared} (I : Inv X (pins ++ pl) σ H s) : Inv X pins σ H s:=I.pins_of fun p hp=>I.pin p (List.mem_append_right _ (List.mem_append_left _ hp))
theorem ps_for {iter : Expr} {body : List Stmt} {wi : TI} {g : TG} {tb : TS} {pos : Pos} (hp : PassesOwn (model X.prog X.w) X.A X.env X.xe) (hc : X.calm=true) (hi : PI X tg iter wi) (hg : PG X tg g) (hb : PSs X body tb)
    (hs : ∀ x,foldedSetIterable iter X.env x=pure x:=by intro _; rfl) : PS X (.For tg iter body [] pos) (tFor wi g tb):=by
  intro pins s σ H D I h
  refine wpAny_For (thn (hi pins s σ H _ I h) fun v s1 h1=>thn h1 fun itv s2 h2=>?_) hs
  obtain ⟨it,fp,tn,J,H2,e,I2,T,st2,f2,W,⟨m0,w0⟩,turn⟩:=h2
  subst e
  have stat : ∀ {H' : Hp},(∀ b∈fp,H' b=none)→∀ b∈fp,FpOk X pins H' b:=fun hn b hb=>⟨hn b hb,(f2 b hb).2⟩
  refine codeAny_forLoop_any (fun n s'=>∃ i σ' H',Inv X pins σ' H' s'∧tn i s'.heap∧(∀ b∈fp,H' b=none)∧W i n σ' H') ?_ m0 ⟨0,σ,H2,I2,st2,fun b hb=>(f2 b hb).1,w0⟩
  rintro n s3 ⟨i,σ3,H3,I3,st3,fr3,w3⟩
  rcases turn i n σ3 H3 w3 with ⟨stop,qn⟩ | ⟨go,N,hN,step⟩
  · refine wpAny_passesOwn hp (thn (T.done X rfl rfl rfl hc i pins s3 σ3 H3 X.xe I3 (stat fr3) st3 stop) fun r s4 ⟨hr,I4⟩=>?_)
    subst hr
    exact wpAny_execs_nil ⟨σ3,H3,I4,qn⟩
  · refine wpAny_passesOwn hp (thn (T.item X rfl rfl rfl hc i pins s3 σ3 H3 X.xe I3 (stat fr3) st3 go) fun r s4 ⟨u,hr,h4⟩=>?_)
    subst hr
    refine wpAny_passesOwn hp (thn h4 fun _ s5 ⟨x,H5,I5,r5,y5,st5,fr5⟩=>?_)
    have I5':=I5.pinned (stat fr5) (T.obj _ _ st5)
    refine wpAny_passesOwn hp (thn (hg _ s5 σ3 H5 x u _ I5' r5 (step x H5 y5)) fun _ s6 ⟨σ6,H6,I6,q6⟩=>?_)
    refine wpAny_passesOwn hp (thn (hb _ s6 σ6 H6 _ I6 q6) fun f s7 q7=>?_)
    have again : ∀ {σ7 : St} {H7 : Hp},Inv X (pins ++ pinsAt fp s5.heap) σ7 H7 s7→N σ7 H7→∃ m,m < n∧∃ i σ' H',Inv X pins σ' H' s7∧tn i s7.heap∧(∀ b∈fp,H' b=none)∧W i m σ' H':=fun {σ7 H7} I7 n7=>by
      obtain ⟨m',hm,w7⟩:=hN σ7 H7 n7
      refine ⟨m',hm,i + 1,σ7,H7,I7.unpinned,T.keep _ _ _ st5 fun b hb o e=>(I7.pin (b,o) (List.mem_append_right _ (List.mem_append_right _ (mem_pinsAt hb e)))).1,fun b hb=>?_,w7⟩
      obtain ⟨o,e,d⟩:=T.obj _ _ st5 b hb
      exact (I7.pin (b,o) (List.mem_append_right _ (List.mem_append_right _ (mem_pinsAt hb e)))).2.1
    cases f with
    | next=>obtain ⟨σ7,H7,I7,n7⟩:=q7; exact again I7 n7
    | cont=>obtain ⟨σ7,H7,I7,n7⟩:=q7; exact again I7 n7
    | brk=>obtain ⟨σ7,H7,I7,q7⟩:=q7; exact ⟨σ7,H7,I7.unpinned,q7⟩
    | ret v=>obtain ⟨x7,σ7,H7,I7,r7,q7⟩:=q7; exact ⟨x7,σ7,H7,I7.unpinned,r7,q7⟩
end
theorem for_list {K : PySem.W.Frag} {a : Addr} {xs : List V} {g : TG} {tb : TS} {D : Ends} {σ : St} {H : Hp} (Pv : Nat→St→Hp→Prop) (h0 : Pv 0 σ H) (hl : ∀ i σ H,i≤xs.length→Pv i σ H→SqL K H a xs)
    (hs : ∀ i x σ H,xs[i]? = some x→Pv i σ H→g x σ H fun σ2 H2=>tb { D with nx:=Pv (i + 1),ct:=Pv (i + 1),bk:=D.nx } σ2 H2) (hd : ∀ σ H,Pv xs.length σ H→D.nx σ H) :
    ∃ W : Nat→Nat→St→Hp→Prop,(∃ m,W 0 m σ H)∧∀ i m σ H,W i m σ H→
      ((Itl K a).stop i H∧D.nx σ H)∨((Itl K a).go i H∧∃ N : St→Hp→Prop,(∀ σ' H',N σ' H'→∃ m',m' < m∧W (i + 1) m' σ' H')∧∀ x H',(Itl K a).yld i H x H'→g x σ H' fun σ2 H2=>tb { D with nx:=N,ct:=N,bk:=D.nx } σ2 H2):=by
  refine ⟨fun i m σ H=>m=xs.length - i∧i≤xs.length∧Pv i σ H,⟨xs.length,by simp,Nat.zero_le _,h0⟩,?_⟩
  rintro i m σ H ⟨rfl,hi,p⟩
  have q:=hl i σ H hi p
  by_cases hlt : i < xs.length
  · refine .inr ⟨⟨xs,xs[i],q,by simp [hlt]⟩,Pv (i + 1),fun σ' H' p'=>⟨xs.length - (i + 1),by omega,rfl,hlt,p'⟩,fun x H' y=>?_⟩
    obtain ⟨e,y⟩:=y
    subst e
    exact hs i x σ _ (y xs q) p
  · have e : i=xs.length:=by omega
    subst e
    exact .inl ⟨⟨xs,q,Nat.le_refl _⟩,hd σ H p⟩
theorem for_range {lo : Int} {n : Nat} {g : TG} {tb : TS} {D : Ends} {σ : St} {H : Hp} (Pv : Nat→St→Hp→Prop) (h0 : Pv 0 σ H)
    (hs : ∀ i σ H,i < n→Pv i σ H→g (.int (lo + i)) σ H fun σ2 H2=>tb { D with nx:=Pv (i + 1),ct:=Pv (i + 1),bk:=D.nx } σ2 H2) (hd : ∀ σ H,Pv n σ H→D.nx σ H) :
    ∃ W : Nat→Nat→St→Hp→Prop,(∃ m,W 0 m σ H)∧∀ i m σ H,W i m σ H→
      ((Itr lo n).stop i H∧D.nx σ H)∨((Itr lo n).go i H∧∃ N : St→Hp→Prop,(∀ σ' H',N σ' H'→∃ m',m' < m∧W (i + 1) m' σ' H')∧∀ x H',(Itr lo n).yld i H x H'→g x σ H' fun σ2 H2=>tb { D with nx:=N,ct:=N,bk:=D.nx } σ2 H2):=by
  refine ⟨fun i m σ H=>m=n - i∧i≤n∧Pv i σ H,⟨n,by simp,Nat.zero_le _,h0⟩,?_⟩
  rintro i m σ H ⟨rfl,hi,p⟩
  by_cases hlt : i < n
  · refine .inr ⟨hlt,Pv (i + 1),fun σ' H' p'=>⟨n - (i + 1),by omega,rfl,hlt,p'⟩,fun x H' y=>?_⟩
    obtain ⟨e,y⟩:=y
    subst e y
    exact hs i σ _ hlt p
  · have e : i=n:=by omega
    subst e
    exact .inl ⟨Nat.le_refl _,hd σ H p⟩
end L2
namespace L2
open PySem PySem.Spec PyProof.Rows
abbrev R2:=V→V→Hp→VK→Prop
def OpR (X : Cx) (f : Value→Value→Sem Value) (r : R2) : Prop:=
  ∀ (pins : List (Addr×Obj)) (s : Shared) (σ : St) (H : Hp) (x y : V) (v u : Value) (Q : VK),Inv X pins σ H s→RelV x v→RelV y u→r x y H Q→
    wpAny (model X.prog X.w) X.A (f v u) (EP X pins σ Q) X.xe s
def CallR (X : Cx) (f : Value) (r : List V→Hp→VK→Prop) : Prop:=
  ∀ (pins : List (Addr×Obj)) (s : Shared) (σ : St) (H : Hp) (xs : List V) (us : List Value) (Q : VK),Inv X pins σ H s→Vals xs us→r xs H Q→
    wpAny (model X.prog X.w) X.A (call f us) (EP X pins σ Q) X.xe s
def TruR (X : Cx) (r : V→Hp→(Bool→Hp→Prop)→Prop) : Prop:=
  ∀ (pins : List (Addr×Obj)) (s : Shared) (σ : St) (H : Hp) (x : V) (v : Value) (Q : Bool→Hp→Prop),Inv X pins σ H s→RelV x v→r x H Q→
    wpAny (model X.prog X.w) X.A (truthy v) (TP X pins σ Q) X.xe s
def tOp (r : R2) (ta tb : TE) : TE:=fun σ H Q=>ta σ H fun x H1=>tb σ H1 fun y H2=>r x y H2 Q
def rI (C : Int→Int→Prop) (g : Int→Int→V) : R2:=fun x y H Q=>∃ i j,x = .int i∧y = .int j∧C i j∧Q (g i j) H
def rI0 (g : Int→Int→V) : R2:=fun x y H Q=>∃ i j,x = .int i∧y = .int j∧Q (g i j) H
section
variable {X : Cx} {a b c : Expr} {ta tb tc : TE} {pos : Pos}
theorem binT (ha : PE X a ta) (hb : PE X b tb) {pins : List (Addr×Obj)} {s : Shared} {σ : St} {H : Hp} {R : V→V→Hp→Prop} (I : Inv X pins σ H s)
    (h : ta σ H fun x H1=>tb σ H1 fun y H2=>R x y H2) {Q : Value→Shared→Prop} {f : Value→Value→Sem Value}
    (hf : ∀ v u s2 x y H2,Inv X pins σ H2 s2→RelV x v→RelV y u→R x y H2→wpAny (model X.prog X.w) X.A (f v u) Q X.xe s2) :
    wpAny (model X.prog X.w) X.A (eval a X.env) (fun v s₁=>wpAny (model X.prog X.w) X.A (eval b X.env) (fun u s₂=>wpAny (model X.prog X.w) X.A (f v u) Q X.xe s₂) X.xe s₁) X.xe s:=by
  refine thn (ha pins s σ H _ I h) fun v s1 ⟨x,H1,I1,r1,q1⟩=>?_
  refine thn (hb pins s1 σ H1 _ I1 q1) fun u s2 ⟨y,H2,I2,r2,q2⟩=>?_
  exact hf v u s2 x y H2 I2 r1 r2 q2
theorem pe_op {op : Operator} {r : R2} (ho : OpR X (binaryOp op) r) (ha : PE X a ta) (hb : PE X b tb) : PE X (.BinOp a op b pos) (tOp r ta tb):=by
  intro pins s σ H Q I h
  exact wpAny_BinOp (binT ha hb I h fun v u s2 x y H2 I2 rx ry q=>ho pins s2 σ H2 x y v u Q I2 rx ry q)
theorem opI {f : Value→Value→Sem Value} {C : Int→Int→Prop} {g : Int→Int→Int}
    (rule : ∀ (i j : Int) (t u : Tok) (s : Shared) (Q : Value→Shared→Prop) (E : Value→Shared→Prop),C i j→Q (.int (g i j) s.toks) { s with toks:=s.toks + 1 }→wpAny (model X.prog X.w) X.A (f (.int i t) (.int j u)) Q E s) :
    OpR X f (rI C fun i j=>.int (g i j)):=by
  intro pins s σ H x y v u Q I rx ry h
  obtain ⟨i,j,rfl,rfl,hc,q⟩:=h
  obtain ⟨t,rfl⟩:=rx
  obtain ⟨t',rfl⟩:=ry
  exact rule i j t t' s _ _ hc ⟨.int (g i j),H,I.tok _,⟨_,rfl⟩,q⟩
theorem opI0 {f : Value→Value→Sem Value} {g : Int→Int→Int}
    (rule : ∀ (i j : Int) (t u : Tok) (s : Shared) (Q : Value→Shared→Prop) (E : Value→Shared→Prop),Q (.int (g i j) s.toks) { s with toks:=s.toks + 1 }→wpAny (model X.prog X.w) X.A (f (.int i t) (.int j u)) Q E s) :
    OpR X f (rI0 fun i j=>.int (g i j)):=by
  intro pins s σ H x y v u Q I rx ry h
  obtain ⟨i,j,rfl,rfl,q⟩:=h
  obtain ⟨t,rfl⟩:=rx
  obtain ⟨t',rfl⟩:=ry
  exact rule i j t t' s _ _ ⟨.int (g i j),H,I.tok _,⟨_,rfl⟩,q⟩
theorem opB0 {f : Value→Value→Sem Value} {g : Int→Int→Bool}
    (rule : ∀ (i j : Int) (t u : Tok) (s : Shared) (Q : Value→Shared→Prop) (E : Value→Shared→Prop),Q (.bool (g i j)) s→wpAny (model X.prog X.w) X.A (f (.int i t) (.int j u)) Q E s) :
    OpR X f (rI0 fun i j=>.bl (g i j)):=by
  intro pins s σ H x y v u Q I rx ry h
  obtain ⟨i,j,rfl,rfl,q⟩:=h
  obtain ⟨t,rfl⟩:=rx
  obtain ⟨t',rfl⟩:=ry
  exact rule i j t t' s _ _ ⟨.bl (g i j),H,I,rfl,q⟩
def CPow (i j : Int) : Prop:=0≤j∧j≤1000000∧i.natAbs < 2 ^ 64
def CMul (i j : Int) : Prop:=(-(2 ^ 64) < i∧i < 2 ^ 64)∨(-(2 ^ 64) < j∧j < 2 ^ 64)
theorem CMul.ok {i j : Int} (h : CMul i j) : IntMulOk i j:=by
  rcases h with ⟨h1,h2⟩ | ⟨h1,h2⟩
  · exact .of_left (intBits_le_64 h1 h2)
  · exact .of_right (intBits_le_64 h1 h2)
theorem op_add : OpR X (binaryOp .Add) (rI0 fun i j=>.int (i + j)):=opI0 fun _ _ _ _ _ _ _ q=>add_int q
theorem op_sub : OpR X (binaryOp .Sub) (rI0 fun i j=>.int (i - j)):=opI0 fun _ _ _ _ _ _ _ q=>sub_int q
theorem op_mul : OpR X (binaryOp .Mult) (rI CMul fun i j=>.int (i * j)):=opI fun _ _ _ _ _ _ _ hc q=>mul_int q hc.ok
theorem op_mod : OpR X (binaryOp .Mod) (rI (fun _ j=>0 < j) fun i j=>.int (i % j)):=opI fun i j _ _ _ _ _ hc q=>by
  have h1 : (0 : Int) < j:=hc
  exact mod_int' (by omega) (by rw [Int.fmod_eq_emod_of_nonneg i (by omega)]; exact q)
theorem op_pow : OpR X (binaryOp .Pow) (rI CPow fun i j=>.int (i ^ j.toNat)):=opI fun _ _ _ _ _ _ _ hc q=>pow_int_small hc.1 hc.2.1 hc.2.2 q
end
def scal : V→V→Bool
  | .non,.non=>true | .non,.int _=>true | .int _,.non=>true | .non,.bl _=>true | .bl _,.non=>true | .non,.str _=>true | .str _,.non=>true
  | .int _,.int _=>true | .bl _,.bl _=>true | .str _,.str _=>true | .byt _,.byt _=>true
  | .int _,.str _=>true | .str _,.int _=>true | .bl _,.str _=>true | .str _,.bl _=>true
  | _,_=>false
def rEq : R2:=fun x y H Q=>scal x y=true∧Q (.bl (decide (x=y))) H
def rNe : R2:=fun x y H Q=>scal x y=true∧Q (.bl (!decide (x=y))) H
theorem dec_int {i j : Int} : decide (V.int i=V.int j)=(i == j):=by
  rw [Bool.eq_iff_iff]
  simp
theorem dec_bl {i j : Bool} : decide (V.bl i=V.bl j)=(i == j):=by
  rw [Bool.eq_iff_iff]
  simp
theorem dec_str {i j : Str} : decide (V.str i=V.str j)=(i == j):=by
  rw [Bool.eq_iff_iff]
  simp
theorem dec_byt {i j : Array UInt8} : decide (V.byt i=V.byt j)=(i.toList == j.toList):=by
  rw [Bool.eq_iff_iff]
  cases i
  cases j
  simp
section
variable {X : Cx} {a b c : Expr} {ta tb tc : TE} {pos : Pos}
theorem fin_bl {pins : List (Addr×Obj)} {σ : St} {H : Hp} {s : Shared} {Q : VK} {k k' : Bool} (I : Inv X pins σ H s) (q : Q (.bl k) H) (e : k=k') : EP X pins σ Q (.bool k') s:=by
  subst e
  exact ⟨.bl k,H,I,rfl,q⟩
theorem op_eq : OpR X (compareOp .Eq) rEq:=by
  intro pins s σ H x y v u Q I rx ry h
  obtain ⟨hs,q⟩:=h
  cases x with
  | non=>
    cases rx
    cases y with
    | non=>cases ry; exact PySem.EqNone.eq_none_none (fin_bl I q (by simp))
    | bl j=>cases ry; exact PySem.EqNone.eq_none_bool (fin_bl I q (by simp))
    | int j=>obtain ⟨t',rfl⟩:=ry; exact PySem.EqNone.eq_none_int (fin_bl I q (by simp))
    | str j=>obtain ⟨t',rfl⟩:=ry; exact PySem.EqNone.eq_none_str (fin_bl I q (by simp))
    | _=>exact absurd (show false=true from hs) Bool.false_ne_true
  | bl i=>
    cases rx
    cases y with
    | non=>cases ry; exact PySem.EqNone.eq_bool_none (fin_bl I q (by simp))
    | bl j=>cases ry; exact eq_bool (fin_bl I q dec_bl)
    | str j=>obtain ⟨t',rfl⟩:=ry; exact PySem.EqMixed.eq_bool_str (fin_bl I q (by simp))
    | _=>exact absurd (show false=true from hs) Bool.false_ne_true
  | int i=>
    obtain ⟨t,rfl⟩:=rx
    cases y with
    | non=>cases ry; exact PySem.EqNone.eq_int_none (fin_bl I q (by simp))
    | int j=>obtain ⟨t',rfl⟩:=ry; exact eq_int (fin_bl I q dec_int)
    | str j=>obtain ⟨t',rfl⟩:=ry; exact PySem.EqMixed.eq_int_str (fin_bl I q (by simp))
    | _=>exact absurd (show false=true from hs) Bool.false_ne_true
  | str i=>
    obtain ⟨t,rfl⟩:=rx
    cases y with
    | non=>cases ry; exact PySem.EqNone.eq_str_none (fin_bl I q (by simp))
    | bl j=>cases ry; exact PySem.EqMixed.eq_str_bool (fin_bl I q (by simp))
    | int j=>obtain ⟨t',rfl⟩:=ry; exact PySem.EqMixed.eq_str_int (fin_bl I q (by simp))
    | str j=>obtain ⟨t',rfl⟩:=ry; exact eq_str (fin_bl I q dec_str)
    | _=>exact absurd (show false=true from hs) Bool.false_ne_true
  | byt i=>
    obtain ⟨t,rfl⟩:=rx
    cases y with
    | byt j=>obtain ⟨t',rfl⟩:=ry; exact PySem.W.eq_bytes (fin_bl I q dec_byt)
    | _=>exact absurd (show false=true from hs) Bool.false_ne_true
  | _=>cases y <;> exact absurd (show false=true from hs) Bool.false_ne_true
theorem op_ne : OpR X (compareOp .NotEq) rNe:=by
  intro pins s σ H x y v u Q I rx ry h
  obtain ⟨hs,q⟩:=h
  cases x with
  | non=>
    cases rx
    cases y with
    | non=>cases ry; exact PySem.EqNone.ne_none_none (fin_bl I q (by simp))
    | bl j=>cases ry; exact PySem.EqNone.ne_none_bool (fin_bl I q (by simp))
    | int j=>obtain ⟨t',rfl⟩:=ry; exact PySem.EqNone.ne_none_int (fin_bl I q (by simp))
    | str j=>obtain ⟨t',rfl⟩:=ry; exact PySem.EqNone.ne_none_str (fin_bl I q (by simp))
    | _=>exact absurd (show false=true from hs) Bool.false_ne_true
  | bl i=>
    cases rx
    cases y with
    | non=>cases ry; exact PySem.EqNone.ne_bool_none (fin_bl I q (by simp))
    | bl j=>cases ry; exact ne_bool (fin_bl I q (congrArg not dec_bl))
    | str j=>obtain ⟨t',rfl⟩:=ry; exact PySem.EqMixed.ne_bool_str (fin_bl I q (by simp))
    | _=>exact absurd (show false=true from hs) Bool.false_ne_true
  | int i=>
    obtain ⟨t,rfl⟩:=rx
    cases y with
    | non=>cases ry; exact PySem.EqNone.ne_int_none (fin_bl I q (by simp))
    | int j=>obtain ⟨t',rfl⟩:=ry; exact ne_int (fin_bl I q (congrArg not dec_int))
    | str j=>obtain ⟨t',rfl⟩:=ry; exact PySem.EqMixed.ne_int_str (fin_bl I q (by simp))
    | _=>exact absurd (show false=true from hs) Bool.false_ne_true
  | str i=>
    obtain ⟨t,rfl⟩:=rx
    cases y with
    | non=>cases ry; exact PySem.EqNone.ne_str_none (fin_bl I q (by simp))
    | bl j=>cases ry; exact PySem.EqMixed.ne_str_bool (fin_bl I q (by simp))
    | int j=>obtain ⟨t',rfl⟩:=ry; exact PySem.EqMixed.ne_str_int (fin_bl I q (by simp))
    | str j=>obtain ⟨t',rfl⟩:=ry; exact ne_str (fin_bl I q (congrArg not dec_str))
    | _=>exact absurd (show false=true from hs) Bool.false_ne_true
  | byt i=>
    obtain ⟨t,rfl⟩:=rx
    cases y with
    | byt j=>obtain ⟨t',rfl⟩:=ry; exact PySem.W.ne_bytes (fin_bl I q (congrArg not dec_byt))
    | _=>exact absurd (show false=true from hs) Bool.false_ne_true
  | _=>cases y <;> exact absurd (show false=true from hs) Bool.false_ne_true
theorem op_lt : OpR X (compareOp .Lt) (rI0 fun i j=>.bl (decide (i < j))):=opB0 fun _ _ _ _ _ _ _ q=>lt_int q
theorem op_le : OpR X (compareOp .LtE) (rI0 fun i j=>.bl (decide (i≤j))):=opB0 fun _ _ _ _ _ _ _ q=>le_int q
theorem op_gt : OpR X (compareOp .Gt) (rI0 fun i j=>.bl (decide (j < i))):=opB0 fun _ _ _ _ _ _ _ q=>gt_int q
theorem op_ge : OpR X (compareOp .GtE) (rI0 fun i j=>.bl (decide (j≤i))):=opB0 fun _ _ _ _ _ _ _ q=>ge_int q
theorem op_isN : OpR X (compareOp .Is) (fun x y H Q=>y = .non∧Q (.bl (decide (x = .non))) H):=by
  intro pins s σ H x y v u Q I rx ry h
  obtain ⟨rfl,q⟩:=h
  cases ry
  refine is_none_gen (fin_bl I q ?_)
  cases x <;> first
    | (cases rx; rfl)
    | (obtain ⟨t,rfl⟩:=rx; rfl)
theorem nomark (b : Expr) {op : CmpOp} (h : op≠.In:=by decide) (h2 : op≠.NotIn:=by decide) : behindInMarks op b=false:=by
  have e1 : (op == CmpOp.In)=false:=by cases op <;> first | rfl | exact absurd rfl h
  have e2 : (op == CmpOp.NotIn)=false:=by cases op <;> first | rfl | exact absurd rfl h2
  cases b <;> simp [behindInMarks,e1,e2]
theorem pe_cmpR {op : CmpOp} {r : R2} (ho : OpR X (compareOp op) r) (ha : PE X a ta) (hb : PE X b tb) (hm : behindInMarks op b=false) : PE X (.Compare a [op] [b] pos) (tOp r ta tb):=by
  intro pins s σ H Q I h
  exact wpAny_Compare1 (binT ha hb I h fun v u s2 x y H2 I2 rx ry q=>ho pins s2 σ H2 x y v u Q I2 rx ry q) hm
def tTest (t : TE) : TT:=fun σ H Q=>t σ H fun x H'=>∃ k,x = .bl k∧Q k H'
theorem pt_cmpR {op : CmpOp} {r : R2} (ho : OpR X (compareOp op) r) (ha : PE X a ta) (hb : PE X b tb) (hm : behindInMarks op b=false) : PT X (.Compare a [op] [b] pos) (tTest (tOp r ta tb)):=by
  intro pins s σ H Q I h
  refine wpAny_isTrue_Compare1 (thn (ha pins s σ H _ I h) fun v s1 ⟨x,H1,I1,r1,q1⟩=>thn (hb pins s1 σ H1 _ I1 q1) fun u s2 ⟨y,H2,I2,r2,q2⟩=>
    thn (ho pins s2 σ H2 x y v u _ I2 r1 r2 q2) fun c s3 ⟨z,H3,I3,r3,k,e,q3⟩=>?_) hm
  subst e
  cases r3
  exact wpAny_truthy_bool ⟨H3,I3,q3⟩
def tChain (r r' : R2) (ta tb tc : TE) : TE:=fun σ H Q=>ta σ H fun x H1=>tb σ H1 fun y H2=>r x y H2 fun z H3=>∃ k,z = .bl k∧
  (if k=true then tc σ H3 fun w' H4=>r' y w' H4 Q else Q (.bl false) H3)
theorem pt_chain {op op' : CmpOp} {r r' : R2} (ho : OpR X (compareOp op) r) (ho' : OpR X (compareOp op') r') (ha : PE X a ta) (hb : PE X b tb) (hc : PE X c tc)
    (hm : lastMarks [op,op'] [b,c]=false:=by with_unfolding_all rfl) : PT X (.Compare a [op,op'] [b,c] pos) (tTest (tChain r r' ta tb tc)):=by
  intro pins s σ H Q I h
  refine isTrue_chain (thn (ha pins s σ H _ I h) fun v s1 ⟨x,H1,I1,r1,q1⟩=>test_link (thn (hb pins s1 σ H1 _ I1 q1) fun u s2 ⟨y,H2,I2,r2,q2⟩=>
    thn (ho pins s2 σ H2 x y v u _ I2 r1 r2 q2) fun d s3 ⟨z,H3,I3,r3,k,e,q3⟩=>?_)) hm
  subst e
  cases r3
  refine wpAny_truthy_bool ?_
  cases k with
  | false=>
    obtain ⟨k',e',q'⟩:=q3
    cases e'
    exact ite_ff ⟨H3,I3,q'⟩
  | true=>
    refine ite_tt (test_last (thn (hc pins s3 σ H3 _ I3 q3) fun w' s4 ⟨z',H4,I4,r4,q4⟩=>thn (ho' pins s4 σ H4 y z' u w' _ I4 r2 r4 q4) fun d' s5 ⟨z2,H5,I5,r5,k2,e2,q5⟩=>?_))
    subst e2
    cases r5
    exact wpAny_truthy_bool ⟨H5,I5,q5⟩
def TruV (K : PySem.W.Frag) (x : V) (H : Hp) (k : Bool) : Prop:=
  match x with
  | .non=>k=false
  | .bl b=>k=b
  | .int i=>k=(i != 0)
  | .str y=>y.length≤sizeLine∧k=((y.length : Int) != 0)
  | .byt y=>y.size≤sizeLine∧k=((y.size : Int) != 0)
  | .ref p=>(∃ xs,SqL K H p xs∧k = !xs.isEmpty)∨(∃ xs,SqT K H p xs∧k = !xs.isEmpty)∨∃ kvs,H p=some (.dK kvs)∧k = !kvs.isEmpty
  | _=>False
theorem isEmpty_kv {κ : Type} {kvs : List (κ×V)} {vs : List (κ×Value)} (r : KV kvs vs) : (!vs.isEmpty) = !kvs.isEmpty:=by
  cases r <;> rfl
theorem isEmpty_of {xs : List V} {its : List Value} (r : Vals xs its) : (!its.toArray.isEmpty) = !xs.isEmpty:=by
  cases r <;> simp
theorem line63 : (sizeLine : Nat) < 2 ^ 63:=by rw [sizeLine_eq]; decide
theorem tru_ok : TruR X (fun x H Q=>∃ k,TruV X.K x H k∧Q k H):=by
  intro pins s σ H x v Q I rx h
  obtain ⟨k,e,q⟩:=h
  have hl:=line63
  have hs : sizeLine=16777216:=sizeLine_eq
  cases x with
  | non=>
    cases rx
    have e' : k=false:=e
    subst e'
    exact truthy_none ⟨H,I,q⟩
  | bl b=>
    cases rx
    have e' : k=b:=e
    subst e'
    exact wpAny_truthy_bool ⟨H,I,q⟩
  | int i=>
    obtain ⟨t,rfl⟩:=rx
    have e' : k=(i != 0):=e
    subst e'
    exact PySem.P.truthy_int ⟨H,I,q⟩
  | str y=>
    obtain ⟨t,rfl⟩:=rx
    obtain ⟨hy,e'⟩ : y.length≤sizeLine∧k=((y.length : Int) != 0):=e
    subst e'
    exact PySem.P.truthy_str (by omega) ⟨H,I.tok _,q⟩
  | byt y=>
    obtain ⟨t,rfl⟩:=rx
    obtain ⟨hy,e'⟩ : y.size≤sizeLine∧k=((y.size : Int) != 0):=e
    subst e'
    exact PySem.W.truthy_bytes (by omega) ⟨H,I.tok _,q⟩
  | ref p=>
    cases rx
    have e' : (∃ xs,SqL X.K H p xs∧k = !xs.isEmpty)∨(∃ xs,SqT X.K H p xs∧k = !xs.isEmpty)∨∃ kvs,H p=some (.dK kvs)∧k = !kvs.isEmpty:=e
    rcases e' with ⟨xs,hx,e'⟩ | ⟨xs,hx,e'⟩ | ⟨kvs,hx,e'⟩
    · subst e'
      obtain ⟨its,r,pl,hz⟩:=I.list hx
      have hlen:=r.length
      exact wpAny_truthy_list pl.isList (by simp only [List.size_toArray]; omega) ⟨H,I.tok _,by rw [isEmpty_of r]; exact q⟩
    · subst e'
      obtain ⟨its,r,pl,hz⟩:=I.tuple hx
      have hlen:=r.length
      exact truthy_tuple pl (by simp only [List.size_toArray]; omega) ⟨H,I.tok _,by rw [isEmpty_of r]; exact q⟩
    · subst e'
      obtain ⟨hz,hS,vs,r,m⟩ : kvs.length≤sizeLine∧(p == sysModules)=false∧∃ vs,KV kvs vs∧s.heap.DictOf (mixKind X.prog X.w) p vs:=I.hok p _ hx
      have hlen : kvs.length=vs.length:=Paired.length r
      exact wpAny_truthy_dict hS m (by omega) ⟨H,I.tok _,by rw [isEmpty_kv r]; exact q⟩
  | _=>exact (show False from e).elim
theorem pt_truth (ha : PE X a ta) (he : ∀ whole,isTrue a X.env whole=(do let v ← whole; standAt a.pos; holding [v] (truthy v))) :
    PT X a (fun σ H Q=>ta σ H fun x H'=>∃ k,TruV X.K x H' k∧Q k H'):=by
  intro pins s σ H Q I h
  exact isTrue_plain (thn (ha pins s σ H _ I h) fun v s1 ⟨x,H1,I1,r1,q1⟩=>tru_ok pins s1 σ H1 x v Q I1 r1 q1) (he _)
theorem vals1 {x : V} {us : List Value} (r : Vals [x] us) : ∃ u,us=[u]∧RelV x u:=by
  cases r with
  | cons r1 r2=>cases r2; exact ⟨_,rfl,r1⟩
end
end L2
namespace L2
open PySem PySem.Spec PyProof.Rows
structure ObjM (h : Heap) (x dx C : Addr) (mA : Str→Option Value) : Prop where
  obj : h.get? x=some (PySem.W.instObj C dx)
  ns : h.Ns1 dx mA
  ne : dx≠x
theorem lookIn_ns {h : Heap} {dx : Addr} {mA : Str→Option Value} (n : h.Ns1 dx mA) : ∃ od,h.get? dx=some od∧∀ name,PySem.W.lookIn name od=some (mA name):=by
  obtain ⟨o,es,ep,ho,hd,hk,_,hm⟩:=n
  refine ⟨o,ho,fun name=>?_⟩
  have e:=hm name
  unfold nsFind findBy at e
  rw [← Array.find?_toList] at e
  unfold PySem.W.lookIn
  rw [hd]
  dsimp only
  split
  · rename_i y q
    rw [q] at e
    exact congrArg some e
  · rename_i q
    rw [q] at e
    have a : es.toList.any (·.refKey)=false:=by
      rw [List.any_eq_false]
      intro y hy
      obtain ⟨z,t,hkey⟩:=hk y (Array.mem_toList_iff.mp hy)
      simp [DictEntry.refKey,hkey]
    have a' : ¬ es.toList.any (·.refKey)=true:=by rw [a]; exact Bool.false_ne_true
    rw [if_neg a']
    exact congrArg some e
theorem ObjM.look {h : Heap} {x dx C : Addr} {mA : Str→Option Value} (I : ObjM h x dx C mA) : ∃ od,PySem.W.InstAt h x (PySem.W.instObj C dx) C (some od)∧∀ name,PySem.W.lookIn name od=some (mA name):=
  let ⟨od,ho,hl⟩:=lookIn_ns I.ns
  ⟨od,⟨I.obj,rfl,rfl,ho⟩,hl⟩
section
variable {prog : Program} {w : World} {A : Around} {E : Value→Shared→Prop} {s : Shared} {K : PySem.W.Frag} {x dx C f : Addr} {mA : Str→Option Value} {name : Str} {v : Value}
theorem get_map {expr : Bool} {Q : Value→Shared→Prop} (X : K.In s.heap) (I : ObjM s.heap x dx C mA) (hg : PySem.W.plainGet K C name=true) (hh : PySem.W.hasDictIn K C=true)
    (ha : PySem.W.findIn K (.ref C) name=some none) (hv : mA name=some v) (hv' : PySem.W.handedIn v=true) (h : Q v { s with toks:=s.toks + 1 }) :
    wpAny (model prog w) A (getAttr (.ref x) name expr) Q E s:=by
  obtain ⟨od,J,hl⟩:=I.look
  exact PySem.W.get_value X J (PySem.W.plainGet_of hg).1 (PySem.W.findObj_own hh ha rfl (by rw [hl,hv])) hv' h
theorem get_meth {pl : Sem Bool} {Q : Value×List Value→Shared→Prop} (X : K.In s.heap) (I : ObjM s.heap x dx C mA) (hg : PySem.W.plainGet K C name=true)
    (hf : PySem.W.findIn K (.ref C) name=some (some (.ref f))) (ht : PySem.W.isFn K (.ref f)=true) (hv : mA name=none) (h : Q (.ref f,[.ref x]) s) :
    wpAny (model prog w) A (getMethod (.ref x) name pl) Q E s:=by
  obtain ⟨od,J,hl⟩:=I.look
  exact PySem.W.method_fn X J (PySem.W.plainGet_of hg).1 (PySem.W.plainGet_of hg).2 hf (beq_iff_eq.mp ht) (by show (PySem.W.lookIn name od).map (·.isSome)=some false; rw [hl,hv]; rfl) h
theorem set_map {ns : List Str} {Q : Unit→Shared→Prop} (X : K.In s.heap) (I : ObjM s.heap x dx C mA)
    (hs : PySem.W.findIn K (.ref C) "__setattr__" = some (some (.builtin "object.__setattr__"))) (hp : PySem.W.plainOver K C=true) (ht : PySem.W.takerIn K C name=some none) (hh : PySem.W.hasDictIn K C=true)
    (hw : PySem.Within mA ns) (hsz : ns.length≤sizeLine)
    (h : ∀ h',ObjM h' x dx C (fun y=>if y=name then some v else mA y)→Heap.SameBut dx s.heap h'→Q () { s with heap:=h',toks:=s.toks + 2 }) :
    wpAny (model prog w) A (setAttr (.ref x) name v) Q E s:=by
  obtain ⟨od,J,hl⟩:=I.look
  refine PySem.W.set_plain X J hs (PySem.W.osa_open (s:={ s with toks:=s.toks + 1 }) (r:=none) X J hp ht fun b=>?_)
  obtain ⟨cd,hc,hd'⟩:=PySem.W.any_some hh
  have hx : s.heap.get? x=some ⟨.ref C,some dx,.plain,#[]⟩:=I.obj
  refine wpAny_bind (wpAny_pure (wpAny_bind (wpAny_bind (wpAny_loadPart hx (wpAny_bind (PySem.W.Looks.here (s:={ s with toks:=s.toks + 1 }) (PySem.W.looks_clsIn X hc) ?_))))))
  rw [hd']
  refine wpAny_pure (a:=some dx) (wpAny_bind (wpAny_pure (wpAny_bind ?_)))
  refine wpAny_nsSet1 (s:={ s with toks:=s.toks + 1 }) I.ns fun h' hn2 hs2=>?_
  obtain ⟨oD,esD,epD,hoD,hdD,hcD⟩:=hn2.count (PySem.Within.cons name v hw)
  refine wpAny_bind (wpAny_lookBehind hoD (by rw [hdD]; exact pastItsLine_dict (Nat.le_trans hcD (by rw [List.length_cons]; omega))) ?_)
  exact wpAny_pure (h _ ⟨(hs2.2 _ (Ne.symm I.ne)).trans I.obj,hn2,I.ne⟩ hs2)
theorem make_map {R : Result→Shared→Prop} {vs : List Value} {kw : List (Str×Value)} (X : K.In s.heap) (hm : PySem.W.makesIn K C=true)
    (hi : PySem.W.findIn K (.ref C) "__init__" = some (some (.ref f))) (hf : PySem.W.typeIn K (.ref f)=some (.type "function"))
    (h : codeAny (model prog w) (A.under (.builtin "type.__call__" ⟨.ref C :: vs,kw⟩)) (.call (.ref f) ⟨.ref (s.heap.objs.size + 1) :: vs,kw⟩) (PySem.W.InitBack (s.heap.objs.size + 1) R)
      { s with heap:=(s.heap.push PySem.W.emptyDict).push (PySem.W.instObj C s.heap.objs.size) }) :
    codeAny (model prog w) A (.call (.ref C) ⟨vs,kw⟩) R s:=by
  obtain ⟨hh,g,d,t,os⟩:=s
  exact PySem.W.make_core (PySem.W.makes_of X hm) (PySem.W.looks_findIn X hi) (fun self=>PySem.W.bind_fn X self hf) (.inl rfl) h
end
def putF (f : Str) (v : V) : List (Str×V)→List (Str×V)
  | []=>[(f,v)]
  | (g,x) :: r=>if g=f then (g,v) :: r else (g,x) :: putF f v r
theorem lookup_putF (f g : Str) (v : V) : ∀ fs : List (Str×V),(putF f v fs).lookup g=if g=f then some v else fs.lookup g
  | []=>by
    show List.lookup g [(f,v)]=_
    by_cases h : g=f
    · have hb : (g == f)=true:=beq_iff_eq.mpr h
      simp only [List.lookup,hb,if_pos h]
    · have hb : (g == f)=false:=beq_eq_false_iff_ne.mpr h
      simp only [List.lookup,hb,if_neg h]
  | (k,x) :: r=>by
    have ih:=lookup_putF f g v r
    rw [show putF f v ((k,x) :: r)=(if k=f then (k,v) :: r else (k,x) :: putF f v r) from rfl]
    by_cases hk : k=f
    · rw [if_pos hk]
      by_cases h : g=k
      · have hb : (g == k)=true:=beq_iff_eq.mpr h
        simp only [List.lookup,hb,if_pos (h.trans hk)]
      · have hb : (g == k)=false:=beq_eq_false_iff_ne.mpr h
        simp only [List.lookup,hb,if_neg (fun e : g=f=>h (e.trans hk.symm))]
    · rw [if_neg hk]
      by_cases h : g=k
      · have hb : (g == k)=true:=beq_iff_eq.mpr h
        simp only [List.lookup,hb,if_neg (fun e : g=f=>hk (h.symm.trans e))]
      · have hb : (g == k)=false:=beq_eq_false_iff_ne.mpr h
        simp only [List.lookup,hb]
        exact ih
theorem keys_putF (f : Str) (v : V) : ∀ fs : List (Str×V),f∈(putF f v fs).map (·.1)∧∀ g,g∈fs.map (·.1)→g∈(putF f v fs).map (·.1)
  | []=>⟨by simp [putF],fun g h=>by simp at h⟩
  | (k,x) :: r=>by
    obtain ⟨i1,i2⟩:=keys_putF f v r
    rw [show putF f v ((k,x) :: r)=(if k=f then (k,v) :: r else (k,x) :: putF f v r) from rfl]
    by_cases hk : k=f
    · rw [if_pos hk]
      subst hk
      exact ⟨by simp,fun g h=>by simpa using h⟩
    · rw [if_neg hk]
      refine ⟨?_,fun g h=>?_⟩
      · rw [List.map_cons]
        exact List.mem_cons_of_mem _ i1
      · rw [List.map_cons] at h ⊢
        rcases List.mem_cons.mp h with e | e
        · exact List.mem_cons.mpr (.inl e)
        · exact List.mem_cons_of_mem _ (i2 g e)
theorem length_putF (f : Str) (v : V) : ∀ fs : List (Str×V),(putF f v fs).length≤fs.length + 1
  | []=>by simp [putF]
  | (k,x) :: r=>by
    have ih:=length_putF f v r
    rw [show putF f v ((k,x) :: r)=(if k=f then (k,v) :: r else (k,x) :: putF f v r) from rfl]
    by_cases hk : k=f
    · rw [if_pos hk,List.length_cons,List.length_cons]; omega
    · rw [if_neg hk,List.length_cons,List.length_cons]; omega
theorem RelO.some_of {v : V} {o : Option Value} (r : RelO (some v) o) : ∃ u,o=some u∧RelV v u:=by
  cases o with
  | none=>exact (show False from r).elim
  | some u=>exact ⟨u,rfl,r⟩
theorem RelO.none_of {o : Option Value} (r : RelO none o) : o=none:=by
  cases o with
  | none=>rfl
  | some u=>exact (show False from r).elim
theorem handed_of {v : V} {u : Value} (r : RelV v u) : PySem.W.handedIn u=true:=by
  cases v with
  | non=>cases (show u=Value.none from r); rfl
  | bl b=>cases (show u=Value.bool b from r); rfl
  | int i=>obtain ⟨t,e⟩:=(show ∃ t,u=Value.int i t from r); cases e; rfl
  | str x=>obtain ⟨t,e⟩:=(show ∃ t,u=Value.str x t from r); cases e; rfl
  | byt b=>obtain ⟨t,e⟩:=(show ∃ t,u=Value.bytes b t from r); cases e; rfl
  | flt b=>obtain ⟨t,e⟩:=(show ∃ t,u=Value.float b t from r); cases e; rfl
  | ref a=>cases (show u=Value.ref a from r); rfl
  | ty n=>cases (show u=Value.type n from r); rfl
section
variable {P : Program} {w : World} {H H' : Hp} {h h' : Heap} {a C dx : Addr} {fs fs' : List (Str×V)}
theorem ins_get (hok : HOk P w H h) (e : H a=some (.ins C dx fs)) : ∃ mA,ObjM h a dx C mA∧(∀ f,RelO (fs.lookup f) (mA f))∧PySem.Within mA (fs.map (·.1))∧fs.length≤1000∧H dx=some (.own a):=by
  obtain ⟨d,z,ne,ob,mA,n,r,q⟩:=(show ObjOk P w H h a (.ins C dx fs) from hok a _ e)
  exact ⟨mA,⟨ob,n,ne⟩,r,q,z,d⟩
end
structure Cls (K : PySem.W.Frag) (C : Addr) : Prop where
  pg : PySem.W.plainGet K C Str.empty=true
  hd : PySem.W.hasDictIn K C=true
  po : PySem.W.plainOver K C=true
  sa : PySem.W.findIn K (.ref C) "__setattr__" = some (some (.builtin "object.__setattr__"))
theorem Cls.get {K : PySem.W.Frag} {C : Addr} (c : Cls K C) (f : Str) : PySem.W.plainGet K C f=true:=c.pg
def NoAttr (K : PySem.W.Frag) (C : Addr) (f : Str) : Prop:=PySem.W.findIn K (.ref C) f=some none
theorem NoAttr.taker {K : PySem.W.Frag} {C : Addr} {f : Str} (n : NoAttr K C f) : PySem.W.takerIn K C f=some none:=by
  unfold PySem.W.takerIn
  rw [show PySem.W.findIn K (.ref C) f=some none from n]
  rfl
structure Meth (K : PySem.W.Frag) (C : Addr) (m : Str) (f : Addr) : Prop where
  at_ : PySem.W.findIn K (.ref C) m=some (some (.ref f))
  fn : PySem.W.isFn K (.ref f)=true
  kp : PySem.W.keepIn K (.ref f)=true
section
variable {X : Cx} {pins : List (Addr×Obj)} {σ : St} {H : Hp} {s : Shared} {a C dx : Addr} {fs : List (Str×V)} {f : Str} {v : V} {A : Around} {E : Value→Shared→Prop}
theorem getattr_ok {b : Bool} {Q : Value→Shared→Prop} (I : Inv X pins σ H s) (e : H a=some (.ins C dx fs)) (c : Cls X.K C) (n : NoAttr X.K C f) (l : fs.lookup f=some v)
    (h : ∀ u s',Inv X pins σ H s'→RelV v u→Q u s') : wpAny (model X.prog X.w) A (getAttr (.ref a) f b) Q E s:=by
  obtain ⟨mA,O,r,_,_,_⟩:=ins_get I.hok e
  obtain ⟨u,hu,ru⟩:=RelO.some_of (v:=v) (o:=mA f) (by rw [← l]; exact r f)
  exact get_map I.kIn O (c.get f) c.hd n hu (handed_of ru) (h u _ (I.tok _) ru)
theorem getmeth_ok {m : Str} {g : Addr} {pl : Sem Bool} {Q : Value×List Value→Shared→Prop} (I : Inv X pins σ H s) (e : H a=some (.ins C dx fs)) (c : Cls X.K C) (k : Meth X.K C m g) (l : fs.lookup m=none)
    (h : Q (.ref g,[.ref a]) s) : wpAny (model X.prog X.w) A (getMethod (.ref a) m pl) Q E s:=by
  obtain ⟨mA,O,r,_,_,_⟩:=ins_get I.hok e
  have hn : mA m=none:=RelO.none_of (by rw [← l]; exact r m)
  exact get_meth I.kIn O (c.get m) k.at_ k.fn hn h
theorem setattr_ok {y : V} {u : Value} {Q : Unit→Shared→Prop} (I : Inv X pins σ H s) (e : H a=some (.ins C dx fs)) (c : Cls X.K C) (n : NoAttr X.K C f) (hl : fs.length < 1000) (ry : RelV y u)
    (h : ∀ s',Inv X pins σ (upd H a (.ins C dx (putF f y fs))) s'→Q () s') : wpAny (model X.prog X.w) A (setAttr (.ref a) f u) Q E s:=by
  obtain ⟨mA,O,r,wi,_,ho⟩:=ins_get I.hok e
  have hz : (fs.map (·.1)).length≤sizeLine:=by rw [List.length_map,sizeLine_eq]; omega
  refine set_map I.kIn O c.sa c.po n.taker c.hd wi hz fun h' O' sb=>h _ ?_
  have hd : ∃ o,h'.get? dx=some o:=let ⟨o,_,_,e',_⟩:=O'.ns; ⟨o,e'⟩
  refine I.write (x:=a) (e:=dx) (by rw [e]; exact True.intro) (.inr ho) (fun b q hb z=>(sb.2 b hb).trans z) hd ?_
  refine ⟨by rw [upd_ne O.ne]; exact ho,?_,O.ne,O'.obj,_,O'.ns,fun g=>?_,fun g hg=>?_⟩
  · have:=length_putF f y fs; omega
  · show RelO ((putF f y fs).lookup g) (if g=f then some u else mA g)
    rw [lookup_putF]
    by_cases q : g=f
    · rw [if_pos q,if_pos q]; exact ry
    · rw [if_neg q,if_neg q]; exact r g
  · by_cases q : g=f
    · rw [q]; exact (keys_putF f y fs).1
    · refine (keys_putF f y fs).2 g (wi g fun z=>hg ?_)
      show (if g=f then some u else mA g)=none
      rw [if_neg q]; exact z
theorem Inv.made (I : Inv X pins σ H s) : Inv X pins σ (upd (upd H s.heap.objs.size (.own (s.heap.objs.size + 1))) (s.heap.objs.size + 1) (.ins C s.heap.objs.size []))
    { s with heap:=(s.heap.push PySem.W.emptyDict).push (PySem.W.instObj C s.heap.objs.size) }:=by
  have e1 : (s.heap.push PySem.W.emptyDict).get? s.heap.objs.size=some PySem.W.emptyDict:=Heap.get?_push_size s.heap rfl
  have e2 : ((s.heap.push PySem.W.emptyDict).push (PySem.W.instObj C s.heap.objs.size)).get? (s.heap.objs.size + 1)=some (PySem.W.instObj C s.heap.objs.size):=by
    have:=Heap.get?_push_size (s.heap.push PySem.W.emptyDict) (o:=PySem.W.instObj C s.heap.objs.size) rfl
    rwa [Heap.size_push] at this
  have e3 : (s.heap.push PySem.W.emptyDict).Ns s.heap.objs.size (fun _=>none):=⟨PySem.W.emptyDict,#[],_,e1,rfl,(fun e he=>absurd he (by simp)),fun _=>rfl⟩
  have I1:=I.laid (a:=s.heap.objs.size) (o:=.own (s.heap.objs.size + 1)) (h':=s.heap.push PySem.W.emptyDict) (t':=s.toks) (fun b u q=>Heap.get?_push_of_some _ q) (Nat.le_refl _) ⟨_,e1⟩
  refine I1.laid (a:=s.heap.objs.size + 1) (o:=.ins C s.heap.objs.size []) (t':=s.toks) (fun b u q=>Heap.get?_push_of_some _ q) (Nat.le_of_eq (Heap.size_push _ _)) ?_
  have ne : s.heap.objs.size≠s.heap.objs.size + 1:=Nat.ne_of_lt (Nat.lt_succ_self _)
  refine ⟨by rw [upd_ne ne,upd_same],Nat.zero_le _,ne,e2,fun _=>none,(Heap.Ns1.of_empty e3).at fun o q=>Heap.get?_push_of_some _ q,fun _=>True.intro,fun y hy=>absurd rfl hy⟩
theorem attr_of {prog : Program} {w : World} {env : Env} {e : Expr} {f : Str} {pos : Pos} {s : Shared} {Q : Value→Shared→Prop} (hb : attributeBase e f env (eval e env)=eval e env)
    (h : wpAny (model prog w) A (eval e env) (fun o s₁=>wpAny (model prog w) A (getAttr o f true) Q E s₁) E s) : wpAny (model prog w) A (eval (.Attribute e f pos) env) Q E s:=
  Attribute_any_ h (by rw [arm_eval_Attribute,hb])
end
def tFld (K : PySem.W.Frag) (ta : TE) (f : Str) : TE:=fun σ H Q=>ta σ H fun x H1=>∃ a C dx fs v,x = .ref a∧H1 a=some (.ins C dx fs)∧Cls K C∧NoAttr K C f∧fs.lookup f=some v∧Q v H1
def sFld (K : PySem.W.Frag) (ta tv : TE) (f : Str) : TS:=fun D σ H=>tv σ H fun y H1=>ta σ H1 fun x H2=>∃ a C dx fs,x = .ref a∧H2 a=some (.ins C dx fs)∧Cls K C∧NoAttr K C f∧fs.length < 1000∧
  D.nx σ (upd H2 a (.ins C dx (putF f y fs)))
section
variable {X : Cx} {o e value : Expr} {f : Str} {pos pos' tpos : Pos} {ta tv : TE}
theorem pe_fld (he : PE X e ta) (hb : attributeBase e f X.env (eval e X.env)=eval e X.env) : PE X (.Attribute e f pos) (tFld X.K ta f):=by
  intro pins s σ H Q I h
  refine attr_of hb (thn (he pins s σ H _ I h) fun u s1 ⟨x,H1,I1,rx,a,C,dx,fs,v,ex,ea,c,n,l,q⟩=>?_)
  subst ex
  obtain rfl : u=Value.ref a:=rx
  exact getattr_ok I1 ea c n l fun u' s2 I2 ru=>⟨v,H1,I2,ru,q⟩
theorem ps_fld (ha : PE X o ta) (hv : PE X value tv) (hs : swapsWith value (some (.Attribute o f pos')) pos.line X.env=pure false) : PS X (.Assign [.Attribute o f pos'] value pos) (sFld X.K ta tv f):=by
  intro pins s σ H D I h
  refine plainObj_wpAny_Assign_Attribute (thn (hv pins s σ H _ I h) fun u s1 ⟨y,H1,I1,ry,q⟩=>thn (ha pins s1 σ H1 _ I1 q) fun ov s2 ⟨x,H2,I2,rx,a,C,dx,fs,ex,ea,c,n,l,q2⟩=>?_) hs
  subst ex
  obtain rfl : ov=Value.ref a:=rx
  exact setattr_ok I2 ea c n l ry fun s3 I3=>⟨σ,_,I3,q2⟩
end
section
variable {X : Cx} {pins : List (Addr×Obj)} {σ : St} {H : Hp} {s : Shared} {A : Around} {E : Value→Shared→Prop} {Q : Value→Shared→Prop} {c : Value} {b : Bool}
inductive TyOf (K : PySem.W.Frag) (H : Hp) : V→Value→Prop where
  | non : TyOf K H .non (.type "NoneType")
  | bl (x : Bool) : TyOf K H (.bl x) (.type "bool")
  | int (i : Int) : TyOf K H (.int i) (.type "int")
  | str (x : Str) : TyOf K H (.str x) (.type "str")
  | flt (x : UInt64) : TyOf K H (.flt x) (.type "float")
  | lst {a : Addr} {xs : List V} (e : H a=some (.lst xs)) : TyOf K H (.ref a) (.type "list")
  | frz {a : Addr} {o : Obj} {xs : List V} (e : H a=some (.frz o (.lst xs))) : TyOf K H (.ref a) (.type "list")
  | tup {a : Addr} {xs : List V} (e : H a=some (.tup xs)) : TyOf K H (.ref a) (.type "tuple")
  | dK {a : Addr} {kvs : List (Key×V)} (e : H a=some (.dK kvs)) : TyOf K H (.ref a) (.type "dict")
  | dT {a : Addr} {kvs : List (List Key×V)} (e : H a=some (.dT kvs)) : TyOf K H (.ref a) (.type "dict")
  | ins {a C dx : Addr} {fs : List (Str×V)} (e : H a=some (.ins C dx fs)) (cl : Cls K C) (ha : PySem.W.findIn K (.ref C) "__class__" = some (some (.builtin "object.__class__")))
      (hn : PySem.W.specialIn K (.builtin "object.__class__") "__get__" = some (some (.builtin "getset_descriptor.__get__"))) (htk : PySem.W.takesIn K (.builtin "object.__class__")=some true)
      (hm : PySem.W.mroIn K C (.type "object")=some true) : TyOf K H (.ref a) (.ref C)
theorem isinst_ok {x : V} {u t : Value} (I : Inv X pins σ H s) (rx : RelV x u) (ty : TyOf X.K H x t) (e : PySem.W.kitOne X.K t c=some b) (h : ∀ tk,Q (.bool b) { s with toks:=tk }) :
    wpAny (model X.prog X.w) A (call (.builtin "isinstance") [u,c]) Q E s:=by
  cases ty with
  | non=>cases (show u=Value.none from rx); exact PySem.W.kia_one PySem.W.kitx_none I.kIn True.intro e (fun z=>nomatch z) h
  | bl y=>cases (show u=Value.bool y from rx); exact PySem.W.kia_one PySem.W.kitx_bool I.kIn True.intro e (fun z=>nomatch z) h
  | int i=>obtain ⟨t,q⟩:=(show ∃ t,u=Value.int i t from rx); cases q; exact PySem.W.kia_one PySem.W.kitx_int I.kIn True.intro e (fun z=>nomatch z) h
  | str y=>obtain ⟨t,q⟩:=(show ∃ t,u=Value.str y t from rx); cases q; exact PySem.W.kia_one PySem.W.kitx_str I.kIn True.intro e (fun z=>nomatch z) h
  | flt y=>obtain ⟨t,q⟩:=(show ∃ t,u=Value.float y t from rx); cases q; exact PySem.W.kia_one PySem.W.kitx_float I.kIn True.intro e (fun z=>nomatch z) h
  | @lst a xs ea=>
    cases (show u=Value.ref a from rx)
    obtain ⟨_,_,n,_,h1⟩:=(show ObjOk X.prog X.w H s.heap a (.lst xs) from I.hok a _ ea)
    exact PySem.W.kia_one PySem.W.kitx_list I.kIn ⟨_,h1,rfl⟩ e (fun z=>nomatch z) h
  | @frz a ob xs ea=>
    cases (show u=Value.ref a from rx)
    obtain ⟨_,_,_,n,_,h1⟩:=(show ObjOk X.prog X.w H s.heap a (.frz ob (.lst xs)) from I.hok a _ ea)
    exact PySem.W.kia_one PySem.W.kitx_list I.kIn ⟨_,h1,rfl⟩ e (fun z=>nomatch z) h
  | @tup a xs ea=>
    cases (show u=Value.ref a from rx)
    obtain ⟨_,_,_,p⟩:=(show ObjOk X.prog X.w H s.heap a (.tup xs) from I.hok a _ ea)
    obtain ⟨o,h1,h2,_⟩:=p
    exact PySem.W.kia_one PySem.W.kitx_tuple I.kIn ⟨o,h1,h2⟩ e (fun z=>nomatch z) h
  | @dK a kvs ea=>
    cases (show u=Value.ref a from rx)
    obtain ⟨_,_,vs,_,p⟩:=(show ObjOk X.prog X.w H s.heap a (.dK kvs) from I.hok a _ ea)
    obtain ⟨o,es,ep,h1,h2,_⟩:=p
    exact PySem.W.kia_one PySem.W.kitx_dict I.kIn ⟨o,h1,h2.1⟩ e (fun z=>nomatch z) h
  | @dT a kvs ea=>
    cases (show u=Value.ref a from rx)
    obtain ⟨_,_,xs,_,o,es,ep,h1,h2,_⟩:=(show ObjOk X.prog X.w H s.heap a (.dT kvs) from I.hok a _ ea)
    exact PySem.W.kia_one PySem.W.kitx_dict I.kIn ⟨o,h1,h2.1⟩ e (fun z=>nomatch z) h
  | @ins a C dx fs ea cl ha hn htk hm=>
    cases (show u=Value.ref a from rx)
    obtain ⟨mA,O,_⟩:=ins_get I.hok ea
    obtain ⟨od,J,_⟩:=O.look
    exact PySem.W.kia_one (PySem.W.kitx_own (cl.get _) cl.hd ha hn htk hm) I.kIn J e (fun z=>nomatch z) h
end
end L2
namespace L2
open PySem PySem.Spec PyProof.Rows
structure Room (k : Nat) (A : Around) : Prop where
  hd : A.handled=none
  dp : A.depth + 3 * k + 5 < recursionLimit
  un : A.units + 16 * k + 200 < cLine
theorem Room.mono {j k : Nat} {A : Around} (r : Room k A) (h : j≤k) : Room j A:=⟨r.hd,by have:=r.dp; omega,by have:=r.un; omega⟩
theorem Room.deeper {k : Nat} {A : Around} (r : Room (k + 1) A) (env : Env) : Room k (A.deeper env):=
  ⟨r.hd,by have:=r.dp; show A.depth + 1 + 3 * k + 5 < _; omega,by have:=r.un; show A.units + 3 + 16 * k + 200 < _; omega⟩
theorem make_depth {A : Around} {C : Addr} {us : List Value} {kw : List (Str×Value)} : (A.under (.builtin "type.__call__" ⟨.ref C :: us,kw⟩)).depth=A.depth + 1:=by
  first | rfl | simp [Around.under,Code.weight,Code.isCreation,Code.isGuard,Code.isCaller,Code.frames,Code.isFrame,guardIds]
theorem make_units {A : Around} {C : Addr} {us : List Value} {kw : List (Str×Value)} : (A.under (.builtin "type.__call__" ⟨.ref C :: us,kw⟩)).units=A.units + 1:=by
  first | rfl | simp [Around.under,Code.cUnits,Code.frames,Code.isFrame]
theorem Room.make {k : Nat} {A : Around} (r : Room (k + 1) A) (C : Addr) (us : List Value) (kw : List (Str×Value)) : Room k (A.under (.builtin "type.__call__" ⟨.ref C :: us,kw⟩)) :=
  ⟨r.hd,by have:=r.dp; rw [make_depth]; omega,by have:=r.un; rw [make_units]; omega⟩
theorem Room.depth {k : Nat} {A : Around} (r : Room k A) : A.depth < recursionLimit:=by have:=r.dp; omega
theorem Room.units {k : Nat} {A : Around} (r : Room k A) : A.units + 64 < cLine:=by have:=r.un; omega
def tNil : TA:=fun _ H Q=>Q [] H
def tCons (ta : TE) (tr : TA) : TA:=fun σ H Q=>ta σ H fun x H1=>tr σ H1 fun xs H2=>Q (x :: xs) H2
section
variable {X : Cx} {e : Expr} {es : List Expr} {te : TE} {t : TA} {pos : Pos}
theorem pa_nil : PA X [] tNil:=fun _ _ _ _ H Q I h=>Calls.spliced_nil ⟨[],H,I,.nil,h⟩
theorem pa_cons (ha : PE X e te) (hr : PA X es t) (hs : starEach (e :: es) X.env=(false,eval e X.env) :: starEach es X.env:=by rfl) : PA X (e :: es) (tCons te t):=by
  intro pos pins s σ H Q I h
  rw [hs]
  show wpAny _ _ (spliced ((false,eval e X.env) :: backTo pos (starEach es X.env))) _ _ s
  refine Calls.spliced_cons (thn (ha pins s σ H _ I h) fun u s1 ⟨x,H1,I1,r1,q1⟩=>?_)
  exact thn (hr pos pins s1 σ H1 _ I1 q1) fun us s2 ⟨xs,H2,I2,r2,q2⟩=>⟨x :: xs,H2,I2,.cons r1 r2,q2⟩
def tTup (t : TA) : TE:=fun σ H Q=>t σ H fun xs H1=>xs.length≤sizeLine∧∀ p,H1 p=none→Q (.ref p) (upd H1 p (.tup xs))
def tLst (t : TA) : TE:=fun σ H Q=>t σ H fun xs H1=>xs.length≤sizeLine∧∀ p,H1 p=none→Q (.ref p) (upd H1 p (.lst xs))
theorem pe_tup {x1} (h : PA X es t) : PE X (.Tuple es x1 pos) (tTup t):=by
  intro pins s σ H Q I hq
  refine wpAny_Tuple_spliced (thn (h pos pins s σ H _ I hq) fun us s1 ⟨xs,H1,I1,r,z,q⟩=>⟨by rw [← r.length]; exact z,?_⟩)
  have hf : H1 s1.heap.objs.size=none:=I1.hok.fresh (Nat.le_refl _)
  refine ⟨.ref s1.heap.objs.size,upd H1 s1.heap.objs.size (.tup xs),I1.laid (t':=s1.toks) (fun b u e=>Heap.get?_push_of_some _ e) (Nat.le_refl _) ?_,rfl,q _ hf⟩
  exact ⟨z,us,r,⟨_,Heap.get?_push_size _ rfl,rfl,_,rfl⟩⟩
theorem pe_lst (h : PA X es t) : PE X (.List es pos) (tLst t):=by
  intro pins s σ H Q I hq
  refine wpAny_List_spliced (thn (h pos pins s σ H _ I hq) fun us s1 ⟨xs,H1,I1,r,z,q⟩=>⟨by rw [← r.length]; exact z,?_⟩)
  have hf : H1 s1.heap.objs.size=none:=I1.hok.fresh (Nat.le_refl _)
  refine ⟨.ref s1.heap.objs.size,upd H1 s1.heap.objs.size (.lst xs),I1.laid (t':=s1.toks) (fun b u e=>Heap.get?_push_of_some _ e) (Nat.le_refl _) ?_,rfl,q _ hf⟩
  exact ⟨z,us,0,r,Heap.get?_push_size _ rfl⟩
end
abbrev Sp:=List V→Hp→VK→XK→Prop
abbrev CXT:=List Env→Hp→Shared→XK→Value→Shared→Prop
structure Env0 (P : Program) (w : World) (K : PySem.W.Frag) (mg : Str→Option Value) (base : Heap) (A : Around) (outer : List Env) (s : Shared) (H : Hp) : Prop where
  frames : A.frames=some outer
  mod : Mod K mg base
  bs : ∀ b o,base.get? b=some o→s.heap.get? b=some o∧H b=none
  bsz : base.objs.size≤s.heap.objs.size
  funs : s.heap.FunFrames base outer
  frf : ∀ b∈frs outer,H b=none
  hok : HOk P w H s.heap
  bare : AllBare s.gens
def CE (outer : List Env) (P : Program) (w : World) (H : Hp) (s : Shared) (Q : VK) (u : Value) (s' : Shared) : Prop:=
  ∃ v H',s'.os=s.os∧AllBare s'.gens∧Un (frs outer) [] H H' s.heap s'.heap∧HOk P w H' s'.heap∧RelV v u∧Q v H'
def CR (CX : CXT) (outer : List Env) (P : Program) (w : World) (H : Hp) (s : Shared) (Q : VK) (E : XK) (r : Result) (s' : Shared) : Prop:=
  match r with
  | .ok (.ret u)=>CE outer P w H s Q u s'
  | .ok _=>False
  | .error e=>CX outer H s E e s'
structure FnOk (P : Program) (w : World) (K : PySem.W.Frag) (mg : Str→Option Value) (base : Heap) (CX : CXT) (k : Nat) (f : Addr) (fd : FuncData) (ps : List Str) (sp : Sp) : Prop where
  len : ∀ vs H Q E,sp vs H Q E→vs.length=ps.length
  run : ∀ (A : Around) (outer : List Env) (s : Shared) (H : Hp) (args : Args) (us : List Value) (vs : List V) (Q : VK) (E : XK),Room k A→Env0 P w K mg base A outer s H→BindsTo s fd args (ps.zip us)→Vals vs us→sp vs H Q E→
    codeAny (model P w) A (.call (.ref f) args) (CR CX outer P w H s Q E) s
theorem FnOk.mono {P : Program} {w : World} {K : PySem.W.Frag} {mg : Str→Option Value} {base : Heap} {CX : CXT} {j k : Nat} {f : Addr} {fd : FuncData} {ps : List Str} {sp : Sp} (F : FnOk P w K mg base CX j f fd ps sp) (h : j≤k) :
    FnOk P w K mg base CX k f fd ps sp:=⟨F.len,fun A outer s H args us vs Q E hr=>F.run A outer s H args us vs Q E (hr.mono h)⟩
theorem Env0.make {P : Program} {w : World} {K : PySem.W.Frag} {mg : Str→Option Value} {base : Heap} {A : Around} {outer : List Env} {s : Shared} {H : Hp} (e : Env0 P w K mg base A outer s H) (C : Addr) (us : List Value) (kw : List (Str×Value)) :
    Env0 P w K mg base (A.under (.builtin "type.__call__" ⟨.ref C :: us,kw⟩)) outer s H:=⟨by first | exact e.frames | (simpa [Around.under,Code.envs,Code.isFrame,pushEnvs] using e.frames),e.mod,e.bs,e.bsz,e.funs,e.frf,e.hok,e.bare⟩
section
variable {X : Cx} {pins : List (Addr×Obj)} {σ : St} {H : Hp} {s s' : Shared}
theorem Inv.env0 (I : Inv X pins σ H s) : Env0 X.prog X.w X.K X.mg X.base X.A X.stack s H:=
  ⟨I.ok.frames,I.ok.mod,I.bs,Nat.le_trans I.ok.bsz I.sz,I.stack,I.stkFree,I.hok,I.bare⟩
theorem Inv.after {Q : VK} {u : Value} (I : Inv X pins σ H s) (h : CE X.stack X.prog X.w H s Q u s') : EP X pins σ Q u s':=by
  obtain ⟨v,H',os,bare,un,hok,r,q⟩:=h
  obtain ⟨hh,g,d,t,os'⟩:=s'
  obtain rfl : os' = s.os:=os
  exact ⟨v,H',I.call (h':=hh) (g':=g) (d':=d) (t':=t) (ch:=[]) un hok bare (fun b z=>absurd z (by simp)),r,q⟩
end
def tCall (sp : Sp) (dvs : List V) (E : XK) (t : TA) : TE:=fun σ H Q=>t σ H fun vs H1=>sp (vs ++ dvs) H1 Q E
def tMeth (C : Addr) (m : Str) (sp : Sp) (dvs : List V) (E : XK) (ta : TE) (t : TA) : TE:=fun σ H Q=>ta σ H fun x H1=>∃ a dx fs,x = .ref a∧H1 a=some (.ins C dx fs)∧fs.lookup m=none∧
  t σ H1 fun vs H2=>sp (x :: (vs ++ dvs)) H2 Q E
def tMake (C : Addr) (sp : Sp) (dvs : List V) (E : XK) (t : TA) : TE:=fun σ H Q=>t σ H fun vs H1=>∀ x dx,H1 x=none→H1 dx=none→dx≠x→
  sp (.ref x :: (vs ++ dvs)) (upd (upd H1 dx (.own x)) x (.ins C dx [])) (fun v H2=>v = .non∧Q (.ref x) H2) E
def Binds (K : PySem.W.Frag) (fd : FuncData) (ps : List Str) (ds : List Value) : Prop:=
  ∀ (s : Shared) (us : List Value),K.In s.heap→(us ++ ds).length=ps.length→BindsTo s fd ⟨us,[]⟩ (ps.zip (us ++ ds))
theorem Binds.all {K : PySem.W.Frag} {fd : FuncData} {ps : List Str} (h : ∀ us : List Value,us.length=ps.length→bindArgs fd ⟨us,[]⟩=pure (ps.zip us)) : Binds K fd ps []:=fun s us _ hl=>by
  rw [List.append_nil] at hl ⊢
  exact .of_eq (h us hl)
def Passes (CX : CXT) (X : Cx) (E : XK) : Prop:=∀ (pins : List (Addr×Obj)) (σ : St) (H : Hp) (s : Shared) (e : Value) (s' : Shared),Inv X pins σ H s→CX X.stack H s E e s'→X.xe e s'
section
variable {X : Cx} {CX : CXT} {k : Nat} {f C : Addr} {fd : FuncData} {ps : List Str} {sp : Sp} {dvs : List V} {ds : List Value} {E : XK} {x m : Str} {p pos apos : Pos} {e o : Expr} {es : List Expr} {ta : TE} {t : TA}
theorem run_fn {pins : List (Addr×Obj)} {σ : St} {H : Hp} {s : Shared} {Q : VK} {us : List Value} {vs : List V} (F : FnOk X.prog X.w X.K X.mg X.base CX k f fd ps sp) (hr : Room k X.A) (hb : Binds X.K fd ps ds) (hd : Vals dvs ds) (hx : Passes CX X E)
    (I : Inv X pins σ H s) (r : Vals vs us) (h : sp (vs ++ dvs) H Q E) : wpAny (model X.prog X.w) X.A (call (.ref f) us) (EP X pins σ Q) X.xe s:=by
  have r2 : Vals (vs ++ dvs) (us ++ ds):=r.append hd
  have hl : (us ++ ds).length=ps.length:=by rw [← r2.length]; exact F.len _ _ _ _ h
  refine wpAny_call (codeAny_mono (F.run X.A X.stack s H ⟨us,[]⟩ (us ++ ds) (vs ++ dvs) Q E hr I.env0 (hb s us I.kIn hl) r2 h) fun r s' hq=>?_)
  cases r with
  | error e=>exact hx pins σ H s e s' I hq
  | ok fl=>
    cases fl with
    | ret u=>exact I.after hq
    | next=>exact False.elim hq
    | brk=>exact False.elim hq
    | cont=>exact False.elim hq
theorem pe_call (F : FnOk X.prog X.w X.K X.mg X.base CX k f fd ps sp) (hr : Room k X.A) (hg : Gl X x) (hm : X.mg x=some (.ref f)) (hk : PySem.W.keepIn X.K (.ref f)=true) (hb : Binds X.K fd ps ds) (hd : Vals dvs ds) (hx : Passes CX X E)
    (ha : PA X (e :: es) t) (hdb : (x == ("__debug__" : Str))=false:=by decide) (he : starEach (e :: es) X.env=(false,eval e X.env) :: starEach es X.env:=by rfl) (hpl : (backTo pos (starEach es X.env)).any (·.1)=false:=by rfl) :
    PE X (.Call (.Name x p) (e :: es) [] pos) (tCall sp dvs E t):=by
  intro pins s σ H Q I h
  refine wpAny_Call_Name_kw (ld_glob I hg hm ?_ hdb)
  refine PySem.W.callWith_K (h₀:=X.base) I.ok.mod.kin hk (thn (ha pos pins s σ H _ I h) fun us s1 ⟨vs,H1,I1,r,q⟩=>⟨I1.kIn,?_⟩) he hpl
  exact run_fn F hr hb hd hx I1 r q
theorem pe_meth {pl : Sem Bool} (he : PE X o ta) (c : Cls X.K C) (hm : Meth X.K C m f) (F : FnOk X.prog X.w X.K X.mg X.base CX k f fd ps sp) (hr : Room k X.A) (hb : Binds X.K fd ps ds) (hd : Vals dvs ds) (hx : Passes CX X E) (ha : PA X (e :: es) t)
    (hst : starEach (e :: es) X.env=(false,eval e X.env) :: starEach es X.env:=by rfl) (hpl : (backTo pos (starEach es X.env)).any (·.1)=false:=by rfl)
    (ht : eval (.Call (.Attribute o m apos) (e :: es) [] pos) X.env=(do
      let ov ← eval o X.env
      standAt apos.atName
      let (f,first) ← holding [ov] (getMethod ov m pl)
      callWith pos f first (backTo pos (starEach (e :: es) X.env)) (backToKw pos (keywordEach [] X.env))):=by rfl) :
    PE X (.Call (.Attribute o m apos) (e :: es) [] pos) (tMeth C m sp dvs E ta t):=by
  intro pins s σ H Q I h
  refine PySem.W.methodCall_KW (pl:=pl) (thn (he pins s σ H _ I h) fun u s1 ⟨x,H1,I1,rx,a,dx,fs,ex,ea,l,q⟩=>?_) ht
  subst ex
  obtain rfl : u=Value.ref a:=rx
  refine getmeth_ok I1 ea c hm l ?_
  refine PySem.W.callWith_K (first:=[.ref a]) (h₀:=X.base) I.ok.mod.kin hm.kp (thn (ha pos pins s1 σ H1 _ I1 q) fun us s2 ⟨vs,H2,I2,r,q2⟩=>⟨I2.kIn,?_⟩) hst hpl
  exact run_fn (us:=.ref a :: us) (vs:=.ref a :: vs) F hr hb hd hx I2 (.cons rfl r) q2
theorem pe_meth0 {pl : Sem Bool} (he : PE X o ta) (c : Cls X.K C) (hm : Meth X.K C m f) (F : FnOk X.prog X.w X.K X.mg X.base CX k f fd ps sp) (hr : Room k X.A) (hb : Binds X.K fd ps ds) (hd : Vals dvs ds) (hx : Passes CX X E)
    (ht : eval (.Call (.Attribute o m apos) [] [] pos) X.env=(do
      let ov ← eval o X.env
      standAt apos.atName
      let (f,first) ← holding [ov] (getMethod ov m pl)
      callWith pos f first (backTo pos (starEach [] X.env)) (backToKw pos (keywordEach [] X.env))):=by rfl) :
    PE X (.Call (.Attribute o m apos) [] [] pos) (tMeth C m sp dvs E ta tNil):=by
  intro pins s σ H Q I h
  refine PySem.W.methodCall_KW (pl:=pl) (thn (he pins s σ H _ I h) fun u s1 ⟨x,H1,I1,rx,a,dx,fs,ex,ea,l,q⟩=>?_) ht
  subst ex
  obtain rfl : u=Value.ref a:=rx
  refine getmeth_ok I1 ea c hm l ?_
  exact PySem.W.callWith_K0 (first:=[.ref a]) I1.kIn hm.kp (run_fn (us:=[.ref a]) (vs:=[.ref a]) F hr hb hd hx I1 (.cons rfl .nil) q)
structure Mk (K : PySem.W.Frag) (C f : Addr) : Prop where
  makes : PySem.W.makesIn K C=true
  init : PySem.W.findIn K (.ref C) "__init__" = some (some (.ref f))
  fn : PySem.W.isFn K (.ref f)=true
  kp : PySem.W.keepIn K (.ref C)=true
theorem run_make {pins : List (Addr×Obj)} {σ : St} {H : Hp} {s : Shared} {Q : VK} {us : List Value} {vs : List V} (M : Mk X.K C f) (F : FnOk X.prog X.w X.K X.mg X.base CX k f fd ps sp) (hr : Room (k + 1) X.A) (hb : Binds X.K fd ps ds) (hd : Vals dvs ds)
    (hx : Passes CX X E) (I : Inv X pins σ H s) (r : Vals vs us)
    (h : ∀ x dx,H x=none→H dx=none→dx≠x→sp (.ref x :: (vs ++ dvs)) (upd (upd H dx (.own x)) x (.ins C dx [])) (fun v H2=>v = .non∧Q (.ref x) H2) E) :
    wpAny (model X.prog X.w) X.A (call (.ref C) us) (EP X pins σ Q) X.xe s:=by
  have hq:=h (s.heap.objs.size + 1) s.heap.objs.size (I.hok.fresh (Nat.le_succ _)) (I.hok.fresh (Nat.le_refl _)) (Nat.ne_of_lt (Nat.lt_succ_self _))
  have I2:=Inv.made (C:=C) I
  have r2 : Vals (V.ref (s.heap.objs.size + 1) :: (vs ++ dvs)) (Value.ref (s.heap.objs.size + 1) :: (us ++ ds)):=.cons rfl (r.append hd)
  have hl : (Value.ref (s.heap.objs.size + 1) :: us ++ ds).length=ps.length:=by
    have e:=r2.length
    rw [F.len _ _ _ _ hq] at e
    exact e.symm
  refine wpAny_call (make_map (f:=f) I.kIn M.makes M.init (beq_iff_eq.mp M.fn) (codeAny_mono (F.run _ X.stack _ _ ⟨Value.ref (s.heap.objs.size + 1) :: us,[]⟩ (Value.ref (s.heap.objs.size + 1) :: (us ++ ds)) _ _ E (hr.make C us [])
    (I2.env0.make C us []) (hb _ (Value.ref (s.heap.objs.size + 1) :: us) I2.kIn hl) r2 hq) fun r s' hq'=>?_))
  cases r with
  | error e=>exact hx pins σ _ _ e s' I2 hq'
  | ok fl=>
    cases fl with
    | ret u=>
      obtain ⟨v,H',I3,rv,ev,q3⟩:=I2.after hq'
      subst ev
      exact ⟨rv,⟨V.ref (s.heap.objs.size + 1),H',I3,rfl,q3⟩⟩
    | next=>exact False.elim hq'
    | brk=>exact False.elim hq'
    | cont=>exact False.elim hq'
theorem pe_make0 (M : Mk X.K C f) (F : FnOk X.prog X.w X.K X.mg X.base CX k f fd ps sp) (hr : Room (k + 1) X.A) (hg : Gl X x) (hm : X.mg x=some (.ref C)) (hb : Binds X.K fd ps ds) (hd : Vals dvs ds) (hx : Passes CX X E)
    (hdb : (x == ("__debug__" : Str))=false:=by decide) : PE X (.Call (.Name x p) [] [] pos) (tMake C sp dvs E tNil):=by
  intro pins s σ H Q I h
  refine wpAny_Call_Name_kw (ld_glob I hg hm ?_ hdb)
  exact PySem.W.callWith_K0 I.kIn M.kp (run_make (us:=[]) M F hr hb hd hx I .nil h)
end
section
variable {X : Cx} {CX : CXT} {k : Nat} {f C : Addr} {fd : FuncData} {ps ks : List Str} {sp : Sp} {E : XK} {x m : Str} {p pos apos kpos : Pos} {e o : Expr} {es : List Expr} {kws : List Keyword} {te ta : TE} {t tk : TA} {nm : Option Str}
variable {g : List Value→List Value→List Value} {gV : List V→List V→List V}
end
structure FnScope (N P : List Str) (sc : Scope) : Prop where
  kind : sc.kind = .function
  co : sc.isCoroutine=false
  gen : sc.isGenerator=false
  nd : N.Nodup
  pre : N.take P.length=P
  par : ∀ x∈P,sc.names.lookup x=some .local∨sc.names.lookup x=some .cell
  nofree : ∀ y∈sc.names,y.2≠.free
theorem bindL_out {kindOf : Str→Option NameKind} {x : Str} : ∀ {binds : List (Str×Value)} {m : Str→Option Value},(∀ v,(x,v) ∉ binds)→bindL kindOf binds m x=m x
  | [],_,_=>rfl
  | (n,v) :: r,m,h=>by
    unfold bindL
    rw [bindL_out fun w hw=>h w (List.mem_cons_of_mem _ hw)]
    split
    · have : x≠n:=by rintro rfl; exact h v List.mem_cons_self
      simp [this]
    · rfl
theorem bindC_out {kindOf : Str→Option NameKind} {x : Str} : ∀ {binds : List (Str×Value)} {m : Str→Option Value},(∀ v,(x,v) ∉ binds)→bindC kindOf binds m x=m x
  | [],_,_=>rfl
  | (n,v) :: r,m,h=>by
    unfold bindC
    rw [bindC_out fun w hw=>h w (List.mem_cons_of_mem _ hw)]
    split
    · rfl
    · have : x≠n:=by rintro rfl; exact h v List.mem_cons_self
      simp [this]
theorem bindL_get {kindOf : Str→Option NameKind} {x : Str} {v : Value} : ∀ {P : List Str} {vs : List Value} {i : Nat} {m : Str→Option Value},P.Nodup→P[i]? = some x→vs[i]? = some v→kindOf x=some .local→
    bindL kindOf (P.zip vs) m x=some v
  | [],_,_,_,_,h,_,_=>by simp at h
  | _ :: _,[],_,_,_,_,h,_=>by simp at h
  | p :: P,w :: vs,0,m,nd,h1,h2,hk=>by
    simp at h1 h2; subst h1; subst h2
    show bindL kindOf ((p,w) :: P.zip vs) m p=_
    unfold bindL
    rw [bindL_out fun v hv=>(List.nodup_cons.mp nd).1 (List.of_mem_zip hv).1,if_pos hk]
    simp
  | p :: P,w :: vs,i + 1,m,nd,h1,h2,hk=>by
    show bindL kindOf ((p,w) :: P.zip vs) m x=_
    unfold bindL
    exact bindL_get (i:=i) (List.nodup_cons.mp nd).2 (by simpa using h1) (by simpa using h2) hk
theorem bindC_get {kindOf : Str→Option NameKind} {x : Str} {v : Value} : ∀ {P : List Str} {vs : List Value} {i : Nat} {m : Str→Option Value},P.Nodup→P[i]? = some x→vs[i]? = some v→kindOf x≠some .local→
    bindC kindOf (P.zip vs) m x=some v
  | [],_,_,_,_,h,_,_=>by simp at h
  | _ :: _,[],_,_,_,_,h,_=>by simp at h
  | p :: P,w :: vs,0,m,nd,h1,h2,hk=>by
    simp at h1 h2; subst h1; subst h2
    show bindC kindOf ((p,w) :: P.zip vs) m p=_
    unfold bindC
    rw [bindC_out fun v hv=>(List.nodup_cons.mp nd).1 (List.of_mem_zip hv).1,if_neg hk]
    simp
  | p :: P,w :: vs,i + 1,m,nd,h1,h2,hk=>by
    show bindC kindOf ((p,w) :: P.zip vs) m x=_
    unfold bindC
    exact bindC_get (i:=i) (List.nodup_cons.mp nd).2 (by simpa using h1) (by simpa using h2) hk
def start (N : List Str) (vs : List V) : St:=vs.map some ++ List.replicate (N.length - vs.length) none
def cxOf (CX : CXT) (P : Program) (w : World) (K : PySem.W.Frag) (mg : Str→Option Value) (base : Heap) (N : List Str) (qual : Str) (scope : Scope) (f : Addr) (cd : Value) (A : Around) (outer : List Env) (s : Shared) (H : Hp) (E : XK) : Cx where
  prog:=P
  w:=w
  K:=K
  mg:=mg
  base:=base
  A:=A.deeper (envOfC qual scope s.heap.objs.size f cd)
  N:=N
  s₀:=s
  H₀:=H
  env:=envOfC qual scope s.heap.objs.size f cd
  outer:=outer
  stack:=envOfC qual scope s.heap.objs.size f cd :: outer
  ex:=[]
  calm:=true
  fn:=fun _=>true
  pn:=[]
  xe:=fun e s'=>wpAny (model P w) (A.deeper (envOfC qual scope s.heap.objs.size f cd)) (leaving (envOfC qual scope s.heap.objs.size f cd) e) (fun _ s''=>CX outer H s E e s'') (fun e' s''=>CX outer H s E e' s'') s'
theorem cell_has {sc : Scope} {n : Nat} {x : Str} (h : sc.names.lookup x=some .cell) : ∃ c,(cellsFrom n sc.names []).lookup x=some c:=by
  have q:=PySem.W.cellsFrom_some sc.names n [] (.inl h)
  exact Option.isSome_iff_exists.mp q
theorem inv_start {CX : CXT} {P : Program} {w : World} {K : PySem.W.Frag} {mg : Str→Option Value} {base : Heap} {N ps : List Str} {qual : Str} {scope : Scope} {f : Addr} {cd : Value} {A : Around} {outer : List Env} {s s1 : Shared} {H : Hp} {E : XK} {us : List Value} {vs : List V}
    (S : FnScope N ps scope) (hd : A.handled=none) (e0 : Env0 P w K mg base A outer s H) (hl : vs.length=ps.length) (r : Vals vs us)
    (x : InCallC s s.heap.objs.size (bindL (envOfC qual scope s.heap.objs.size f cd).kindOf (ps.zip us) fun _=>none) (cellsFrom (s.heap.objs.size + 1) scope.names []) (bindC (envOfC qual scope s.heap.objs.size f cd).kindOf (ps.zip us) fun _=>none) s1) :
    Inv (cxOf CX P w K mg base N qual scope f cd A outer s H E) [] (start N vs) H s1:=by
  have hpl : ps.length≤N.length:=by have:=congrArg List.length S.pre; rw [List.length_take] at this; omega
  obtain ⟨h1,tk,rfl,hk⟩:=x.done
  have noA : ∀ b : Addr,b ∉ (cxOf CX P w K mg base N qual scope f cd A outer s H E).ex:=fun b z=>absurd (show b∈([] : List Addr) from z) (by simp)
  refine ⟨⟨e0.mod,S.kind,rfl,rfl,Nat.le_refl _,fun y z c h1 h2=>?_,fun y hy=>?_,fun y c _ h=>?_,fun _=>hd,Around.frames_deeper e0.frames,.inr ⟨rfl,rfl⟩,fun b z=>absurd z (noA b),e0.bs,e0.bsz,fun b _ _=>noA b,fun b z=>absurd z (noA b),e0.funs,e0.frf⟩,
    rfl,e0.bare,Un.kept hk,⟨_,x.toInCall.ns,fun i y v h1 h2 h3=>?_⟩,fun y c h=>⟨_,x.cell y c h⟩,e0.hok.fresh (Nat.le_refl _),fun y c h=>?_,fun p hp=>absurd (show p∈([] : List (Addr×Obj)) from hp) (by simp),e0.hok.kept hk,?_⟩
  · exact name_of_addr x.apart (PySem.mem_of_lookup h1) (PySem.mem_of_lookup h2)
  · have hy : scope.names.lookup y=some .cell∨scope.names.lookup y=some .free:=hy
    rcases hy with hy | hy
    · exact cell_has hy
    · exact absurd rfl (S.nofree _ (PySem.mem_of_lookup hy))
  · exact Nat.le_of_lt (x.above y c (PySem.mem_of_lookup h))
  · have hi : i < vs.length:=by
      unfold start at h2
      by_cases hi : i < vs.length
      · exact hi
      · rw [List.getElem?_append_right (by simpa using hi)] at h2
        rw [List.getElem?_replicate] at h2
        split at h2 <;> cases h2
    have ha : vs[i]? = some v:=by
      unfold start at h2
      rw [List.getElem?_append_left (by simpa using hi),List.getElem?_map] at h2
      cases e : vs[i]? with
      | none=>rw [e] at h2; cases h2
      | some a=>rw [e] at h2; cases h2; rfl
    obtain ⟨u,hu,rv⟩:=r.get ha
    have hp : ps[i]? = some y:=by
      rw [← S.pre,List.getElem?_take_of_lt (by omega)]; exact h1
    have ndP : ps.Nodup:=by rw [← S.pre]; exact S.nd.sublist (List.take_sublist _ _)
    refine ⟨u,rv,?_⟩
    rcases S.par y (List.mem_of_getElem? hp) with k | k
    · exact .inl ⟨k,bindL_get ndP hp hu k⟩
    · obtain ⟨c,e⟩:=cell_has (n:=s.heap.objs.size + 1) k
      refine .inr ⟨.inl k,c,e,?_⟩
      have q:=x.cell y c e
      rw [bindC_get ndP hp hu (by show scope.names.lookup y≠_; rw [k]; decide)] at q
      exact q
  · exact e0.hok.fresh (Nat.le_of_lt (x.above y c (PySem.mem_of_lookup h)))
  · unfold start
    show _=N.length
    rw [List.length_append,List.length_map,List.length_replicate]
    omega
theorem fn_of {CX : CXT} {P : Program} {w : World} {K : PySem.W.Frag} {mg : Str→Option Value} {base : Heap} {k : Nat} {f : Addr} {name qual : Str} {params : Arguments} {body : List Stmt} {scope : Scope} {dV kV doc pm cdv ct oc : Value} {an od : Option Addr}
    {osl : Array (Option Value)} {N ps : List Str} {sp : Sp} (lk : K.lookup f=some ⟨oc,od,.func (PySem.W.fnOf name qual params body scope dV kV doc pm an cdv ct),osl⟩) (hcd : PySem.W.codeIn K cdv qual=true) (S : FnScope N ps scope)
    (len : ∀ vs H Q E,sp vs H Q E→vs.length=ps.length)
    (hbody : ∀ (A : Around) (outer : List Env) (s : Shared) (H : Hp) (vs : List V) (Q : VK) (E : XK),Room k (A.deeper (envOfC qual scope s.heap.objs.size f cdv))→sp vs H Q E→
      ∃ t,PSs (cxOf CX P w K mg base N qual scope f cdv A outer s H E) body t∧t { nx:=fun _ H'=>Q .non H',rt:=Q } (start N vs) H) :
    FnOk P w K mg base CX (k + 1) f (PySem.W.fnOf name qual params body scope dV kV doc pm an cdv ct) ps sp:=by
  refine ⟨len,fun A outer s H args us vs Q E hr e0 hb r hsp=>?_⟩
  have hl:=len _ _ _ _ hsp
  have KX : K.In s.heap:=e0.mod.kin.keeps fun b o e=>(e0.bs b o e).1
  have lim : s.heap.NoLimit:=e0.mod.nolimit.keeps fun b o e=>(e0.bs b o e).1
  have hkind : ∀ y∈ps.zip us,scope.names.lookup y.1=some .local∨(scope.names.lookup y.1=some .cell∧((cellsFrom (s.heap.objs.size + 1) scope.names []).lookup y.1).isSome=true):=fun ⟨n,v⟩ hy=>by
    rcases S.par n (List.of_mem_zip hy).1 with q | q
    · exact .inl q
    · exact .inr ⟨q,PySem.W.cellsFrom_some _ _ _ (.inl q)⟩
  refine codeAny_call_function hr.depth (KX _ _ lk) rfl S.co S.gen rfl (PySem.W.codeRec_of KX hcd) (hb _ _ _ _ ?_)
  refine wpAny_newFunctionEnv_cells S.kind hkind fun env he s1 x=>?_
  subst he
  refine ⟨lim.keeps x.toInCall.keep,codeAny_func ?_⟩
  obtain ⟨t,ht,hq⟩:=hbody A outer s H vs Q E (hr.deeper _) hsp
  have I : Inv (cxOf CX P w K mg base N qual scope f cdv A outer s H E) [] (start N vs) H s1:=inv_start S hr.hd e0 hl r x
  refine wpAny_mono (ht [] s1 (start N vs) H _ I hq) (fun fl s' hs=>?_) fun e s' hs=>hs
  have fin : ∀ {σ' : St} {H' : Hp} {v : V} {u : Value},Inv (cxOf CX P w K mg base N qual scope f cdv A outer s H E) [] σ' H' s'→RelV v u→Q v H'→CE outer P w H s Q u s':=
    fun {σ' H' v u} J rv q=>⟨v,H',J.os,J.bare,J.base,J.hok,rv,q⟩
  cases fl with
  | ret u=>
    obtain ⟨v,σ',H',J,rv,q⟩:=hs
    exact fin J rv q
  | next=>
    obtain ⟨σ',H',J,q⟩:=hs
    exact fin (v:=V.non) (u:=Value.none) J rfl q
  | brk=>
    obtain ⟨_,_,_,q⟩:=hs
    exact False.elim q
  | cont=>
    obtain ⟨_,_,_,q⟩:=hs
    exact False.elim q
end L2
namespace L2
open PySem PySem.Spec PyProof.Rows
section
variable {X : Cx} {x : Str} {p pos : Pos} {e : Expr} {es : List Expr} {t : TA} {id T : String} {r : List V→Hp→VK→Prop}
def tCB (r : List V→Hp→VK→Prop) (t : TA) : TE:=fun σ H Q=>t σ H fun vs H1=>r vs H1 Q
theorem pe_callB (hc : CallR X (.builtin id) r) (hg : Gl X x) (hm : X.mg x=none) (hv : bootBuiltins x=some (.builtin id)) (ha : PA X (e :: es) t) (hn : x ≠ "__name__" := by decide) (hdb : (x == ("__debug__" : Str))=false:=by decide)
    (he : starEach (e :: es) X.env=(false,eval e X.env) :: starEach es X.env:=by rfl) (hpl : (backTo pos (starEach es X.env)).any (·.1)=false:=by rfl) : PE X (.Call (.Name x p) (e :: es) [] pos) (tCB r t):=by
  intro pins s σ H Q I h
  refine wpAny_Call_Name_kw (ld_blt I hg hm hv ?_ hn hdb)
  exact PyProof.Rows.callWith_builtin1 (thn (ha pos pins s σ H _ I h) fun us s1 ⟨vs,H1,I1,r1,q1⟩=>hc pins s1 σ H1 vs us Q I1 r1 q1) he hpl
theorem pe_callTy (hc : CallR X (.type T) r) (hg : Gl X x) (hm : X.mg x=none) (hv : bootBuiltins x=some (.type T)) (ha : PA X (e :: es) t) (hn : x ≠ "__name__" := by decide) (hdb : (x == ("__debug__" : Str))=false:=by decide)
    (he : starEach (e :: es) X.env=(false,eval e X.env) :: starEach es X.env:=by rfl) (hpl : (backTo pos (starEach es X.env)).any (·.1)=false:=by rfl) : PE X (.Call (.Name x p) (e :: es) [] pos) (tCB r t):=by
  intro pins s σ H Q I h
  refine wpAny_Call_Name_kw (ld_blt I hg hm hv ?_ hn hdb)
  exact PyProof.Rows.callWith_type1 (thn (ha pos pins s σ H _ I h) fun us s1 ⟨vs,H1,I1,r1,q1⟩=>hc pins s1 σ H1 vs us Q I1 r1 q1) he hpl
end
end L2
namespace HT
open PySem PyProof.Rows
section
open PySem.SeqAt
open PySem.AutoSeq1 (wpAny_loadPart')
open PySem.MeetsSeq PySem.MeetsSeq2 PySem.MeetsSeq3
end
section
variable {prog : Program} {w : World} {A : Around} {E : Value→Shared→Prop} {s : Shared}
def sIx (n d : Nat) : Option Int→Nat
  | none=>d
  | some v=>if v < 0 then (v + (n : Int)).toNat else min v.toNat n
end
end HT
namespace L2
open PySem PySem.Spec PyProof.Rows
abbrev TO:=St→Hp→(Option Int→Hp→Prop)→Prop
def PO (X : Cx) (e : Option Expr) (t : TO) : Prop:=
  ∀ (pins : List (Addr×Obj)) (s : Shared) (σ : St) (H : Hp) (Q : Option Int→Hp→Prop),Inv X pins σ H s→t σ H Q→
    wpAny (model X.prog X.w) X.A (evalPart e X.env) (fun u s'=>∃ o H',Inv X pins σ H' s'∧IsPart u o∧Q o H') X.xe s
def tNoPart : TO:=fun _ H Q=>Q none H
def tPart (t : TE) : TO:=fun σ H Q=>t σ H fun x H1=>∃ i,x = .int i∧Q (some i) H1
section
variable {X : Cx} {e : Expr} {te : TE} {lo hi : Option Expr} {tl th : TO} {pos p2 : Pos}
theorem po_none : PO X none tNoPart:=by
  intro pins s σ H Q I h
  rw [evalPart_none]
  exact wpAny_pure ⟨none,H,I,.none,h⟩
theorem po_some (h : PE X e te) : PO X (some e) (tPart te):=by
  intro pins s σ H Q I hw
  rw [evalPart_some]
  refine thn (h pins s σ H _ I hw) fun u s1 ⟨x,H1,I1,r1,q1⟩=>?_
  obtain ⟨i,rfl,q⟩:=q1
  obtain ⟨t,rfl⟩:=r1
  exact ⟨some i,H1,I1,.int i t,q⟩
def SlR (X : Cx) (r : V→Option Int→Option Int→Hp→VK→Prop) : Prop:=
  ∀ (pins : List (Addr×Obj)) (s : Shared) (σ : St) (H : Hp) (x : V) (v vl vu : Value) (lo hi : Option Int) (sl : Addr) (Q : VK),Inv X pins σ H s→RelV x v→s.heap.IsSliceOf sl vl vu .none→IsPart vl lo→IsPart vu hi→r x lo hi H Q→
    ∃ T id,typeLookup (.type T) "__getitem__" = pure (some (.builtin id))∧s.TypeIs v T∧wpAny (model X.prog X.w) X.A (getItem v (.ref sl)) (EP X pins σ Q) X.xe s
def tSl (r : V→Option Int→Option Int→Hp→VK→Prop) (te : TE) (tl th : TO) : TE:=fun σ H Q=>te σ H fun x H1=>tl σ H1 fun l H2=>th σ H2 fun u H3=>r x l u H3 Q
theorem pe_slice {r : V→Option Int→Option Int→Hp→VK→Prop} (hr : SlR X r) (he : PE X e te) (hl : PO X lo tl) (hu : PO X hi th) : PE X (.Subscript e (.Slice lo hi none p2) pos) (tSl r te tl th):=by
  intro pins s σ H Q I h
  refine Subscript_ (thn (he pins s σ H _ I h) fun v s1 ⟨x,H1,I1,r1,q1⟩=>?_)
  refine wpAny_Slice (thn (hl pins s1 σ H1 _ I1 q1) fun vl s2 ⟨l,H2,I2,pl,q2⟩=>thn (hu pins s2 σ H2 _ I2 q2) fun vu s3 ⟨u,H3,I3,pu,q3⟩=>?_)
  rw [evalPart_none]
  refine wpAny_pure ?_
  have I4 : Inv X pins σ H3 { s3 with heap:=s3.heap.push { cls:=.type "slice",data:=.fields #[vl,vu,.none] } }:=I3.kept (t':=s3.toks) fun b ob q=>Heap.get?_push_of_some _ q
  obtain ⟨T,id,hT,ht,hg⟩:=hr pins { s3 with heap:=s3.heap.push { cls:=.type "slice",data:=.fields #[vl,vu,.none] } } σ H3 x v vl vu l u s3.heap.objs.size Q I4 r1 (Heap.IsSliceOf.new ..) pl pu q3
  show wpAny (model X.prog X.w) X.A (subscriptTail e (.Slice lo hi none p2) v (.ref s3.heap.objs.size)) (EP X pins σ Q) X.xe { s3 with heap:=s3.heap.push { cls:=.type "slice",data:=.fields #[vl,vu,.none] } }
  exact tail_any (ops:=[.ref s3.heap.objs.size,v]) ht hT hg (by with_unfolding_all rfl)
def cutV (xs : List V) (lo hi : Option Int) : List V:=(xs.drop (HT.sIx xs.length 0 lo)).take (HT.sIx xs.length xs.length hi - HT.sIx xs.length 0 lo)
theorem cutV_length (xs : List V) (lo hi : Option Int) : (cutV xs lo hi).length≤xs.length:=by
  unfold cutV
  rw [List.length_take,List.length_drop]
  omega
end
end L2
namespace L2
open PySem PySem.Spec PyProof.Rows
def ixN (n : Nat) (i : Int) : Option Nat:=if 0≤i then (if i < n then some i.toNat else none) else if -(n : Int)≤i then some (i + n).toNat else none
def atI {α : Type} (xs : List α) (i : Int) : Option α:=(ixN xs.length i).bind fun j=>xs[j]?
theorem ixN_seq {n : Nat} {i : Int} {j : Nat} (h : ixN n i=some j) : seqIndex? i n=some j∧j < n∧-(n : Int)≤i∧i < n:=by
  unfold ixN at h
  by_cases h0 : 0≤i
  · rw [if_pos h0] at h
    by_cases h1 : i < n
    · rw [if_pos h1] at h
      have e : i.toNat=j:=Option.some.inj h
      exact ⟨by rw [seqIndex_of h0 h1,e],by omega,by omega,h1⟩
    · rw [if_neg h1] at h; cases h
  · rw [if_neg h0] at h
    by_cases h1 : -(n : Int)≤i
    · rw [if_pos h1] at h
      have e : (i + n).toNat=j:=Option.some.inj h
      exact ⟨by rw [seqIndex_neg (by omega) h1,e],by omega,h1,by omega⟩
    · rw [if_neg h1] at h; cases h
theorem atI_get {α : Type} {xs : List α} {i : Int} {v : α} (h : atI xs i=some v) : ∃ j,seqIndex? i xs.length=some j∧xs[j]? = some v∧j < xs.length∧-(xs.length : Int)≤i∧i < xs.length:=by
  unfold atI at h
  cases e : ixN xs.length i with
  | none=>rw [e] at h; cases h
  | some j=>
    rw [e] at h
    obtain ⟨h1,h2,h3,h4⟩:=ixN_seq e
    exact ⟨j,h1,h,h2,h3,h4⟩
theorem atI_nat {α : Type} {xs : List α} {j : Nat} {v : α} (h : xs[j]? = some v) : atI xs (j : Int)=some v:=by
  have hj : j < xs.length:=(List.getElem?_eq_some_iff.mp h).1
  have e : ixN xs.length (j : Int)=some j:=by
    unfold ixN
    rw [if_pos (by omega),if_pos (by omega)]; simp
  unfold atI; rw [e]; exact h
def PlainIx (b : Expr) : Prop:=∀ o i,subscripted b false o i=operate [o,i] (getItem o i)
def IxR (X : Cx) (r : R2) : Prop:=
  ∀ (value slice : Expr) (pins : List (Addr×Obj)) (s : Shared) (σ : St) (H : Hp) (x y : V) (v u : Value) (Q : VK),Inv X pins σ H s→RelV x v→RelV y u→r x y H Q→
    subscripted slice false v u=operate [v,u] (getItem v u)→wpAny (model X.prog X.w) X.A (subscriptTail value slice v u) (EP X pins σ Q) X.xe s
def MtR (X : Cx) (id : String) (r : V→List V→Hp→VK→Prop) : Prop:=
  ∀ (pins : List (Addr×Obj)) (s : Shared) (σ : St) (H : Hp) (x : V) (xs : List V) (v : Value) (us : List Value) (Q : VK),Inv X pins σ H s→RelV x v→Vals xs us→r x xs H Q→
    wpAny (model X.prog X.w) X.A (call (.builtin id) (v :: us)) (EP X pins σ Q) X.xe s
section
variable {X : Cx} {a b : Expr} {ta tb : TE} {pos : Pos}
theorem pe_ix {r : R2} (hr : IxR X r) (ha : PE X a ta) (hb : PE X b tb) (hs : PlainIx b) : PE X (.Subscript a b pos) (tOp r ta tb):=by
  intro pins s σ H Q I h
  exact Subscript_ (binT ha hb I h fun v u s2 x y H2 I2 rx ry q=>hr a b pins s2 σ H2 x y v u Q I2 rx ry q (hs _ _))
def rIxL (K : PySem.W.Frag) : R2:=fun x y H Q=>∃ p xs i v,x = .ref p∧y = .int i∧SqL K H p xs∧atI xs i=some v∧Q v H
def rIxT (K : PySem.W.Frag) : R2:=fun x y H Q=>∃ p xs i v,x = .ref p∧y = .int i∧SqT K H p xs∧atI xs i=some v∧Q v H
theorem ix_list : IxR X (rIxL X.K):=by
  intro value slice pins s σ H x y v u Q I rx ry h hs
  obtain ⟨p,xs,i,z,rfl,rfl,hq,he,q⟩:=h
  cases rx
  obtain ⟨t,rfl⟩:=ry
  obtain ⟨its,r,pl,hz⟩:=I.list hq
  obtain ⟨j,h1,h2,h3,h4,h5⟩:=atI_get he
  obtain ⟨w,ew,rw'⟩:=r.get h2
  have hl:=r.length
  have hn:=line63
  have fin : EP X pins σ Q w s:=⟨z,H,I,rw',q⟩
  by_cases h0 : 0≤i
  · have hj : i.toNat=j:=by
      rw [seqIndex_of h0 h5] at h1
      exact Option.some.inj h1
    exact item_listR pl.isList h0 (by omega) (by rw [hj]; simpa using ew) fin hs
  · have hj : (i + (its.toArray.size : Int)).toNat=j:=by
      rw [seqIndex_neg (by omega) h4] at h1
      rw [List.size_toArray,← hl]
      exact Option.some.inj h1
    exact subscriptTail_builtinR (x:=w) pl.isList.typeIs slot_list_getitem.lookup
      (wpAny_getItem_list_neg (Q:=fun r s'=>r=w∧EP X pins σ Q r s') pl.isList (by omega) (by rw [List.size_toArray] <;> omega) (by omega) (by rw [hj]; simpa using ew) ⟨rfl,fin⟩) hs
theorem ix_tup : IxR X (rIxT X.K):=by
  intro value slice pins s σ H x y v u Q I rx ry h hs
  obtain ⟨p,xs,i,z,rfl,rfl,hq,he,q⟩:=h
  cases rx
  obtain ⟨t,rfl⟩:=ry
  obtain ⟨its,r,pl,hz⟩:=I.tuple hq
  obtain ⟨j,h1,h2,h3,h4,h5⟩:=atI_get he
  obtain ⟨w,ew,rw'⟩:=r.get h2
  have hl:=r.length
  have hn:=line63
  have fin : EP X pins σ Q w s:=⟨z,H,I,rw',q⟩
  exact subscriptTail_builtinR (x:=w) pl.typeIs slot_tuple_getitem.lookup
    (getItem_tuple (j:=j) (Q:=fun r s'=>r=w∧EP X pins σ Q r s') pl (by omega) (by omega) (by rw [List.size_toArray,← hl]; exact h1) (by simpa using ew) ⟨rfl,fin⟩) hs
theorem mapSeq_set (its : List Value) (n j : Nat) (u : Value) : Obj.mapSeq (·.setIfInBounds j u) { cls:=.type "list",data:=.seq its.toArray n } = { cls:=.type "list",data:=.seq (its.set j u).toArray n }:=by
  simp [Obj.mapSeq]
theorem Inv.lst {pins : List (Addr×Obj)} {σ : St} {H : Hp} {s : Shared} {p : Addr} {xs : List V} (I : Inv X pins σ H s) (h : H p=some (.lst xs)) :
    ∃ (its : List Value) (n : Nat),Vals xs its∧s.heap.get? p=some { cls:=.type "list",data:=.seq its.toArray n }∧xs.length≤sizeLine:=by
  obtain ⟨z,its,n,r,e⟩:=I.hok p _ h
  exact ⟨its,n,r,e,z⟩
theorem Inv.lstUpd {pins : List (Addr×Obj)} {σ : St} {H : Hp} {s : Shared} {p : Addr} {xs ys : List V} {its its' : List Value} {n n' : Nat} {f : Obj→Obj} (I : Inv X pins σ H s) (h : H p=some (.lst xs))
    (ho : s.heap.get? p=some { cls:=.type "list",data:=.seq its.toArray n }) (hf : f { cls:=.type "list",data:=.seq its.toArray n } = { cls:=.type "list",data:=.seq its'.toArray n' }) (r : Vals ys its') (hz : ys.length≤sizeLine) (t : Nat) :
    Inv X pins σ (upd H p (.lst ys)) { s with heap:=s.heap.update p f,toks:=t }:=by
  have e : (s.heap.update p f).get? p=some { cls:=.type "list",data:=.seq its'.toArray n' }:=by
    rw [Heap.get?_update_self f ho (by rw [hf] <;> rfl),hf]
  refine I.write (x:=p) (e:=p) (by rw [h]; trivial) (.inl rfl) (fun b u hb q=>(Heap.get?_update_other _ _ (Ne.symm hb)).trans q) ⟨_,e⟩ ?_
  exact ⟨hz,its',n',r,e⟩
def rSetL : V→V→V→Hp→(Hp→Prop)→Prop:=fun o i v H Q=>∃ p xs k j,o = .ref p∧i = .int k∧H p=some (.lst xs)∧ixN xs.length k=some j∧Q (upd H p (.lst (xs.set j v)))
theorem set_list : PSet X rSetL:=by
  intro pins s σ H o i v ov iv u Q I ro ri rv h
  obtain ⟨p,xs,k,j,rfl,rfl,hp,hj,q⟩:=h
  cases ro
  obtain ⟨t,rfl⟩:=ri
  obtain ⟨its,n,r,ho,hz⟩:=I.lst hp
  obtain ⟨h1,h2,h3,h4⟩:=ixN_seq hj
  have hl:=r.length
  have hn:=line63
  have I' : Inv X pins σ (upd H p (.lst (xs.set j v))) { s with heap:=s.heap.update p (Obj.mapSeq (·.setIfInBounds j u)) }:=
    I.lstUpd hp ho (mapSeq_set its n j u) (r.set rv j) (by rw [List.length_set]; exact hz) s.toks
  by_cases h0 : 0≤k
  · have hk : k.toNat=j:=by
      rw [seqIndex_of h0 h4] at h1
      exact Option.some.inj h1
    exact PySem.W.ki_setAt ho h0 (by omega) (by rw [List.size_toArray,← hl]; exact h4) (by rw [hk]; exact ⟨_,I',q⟩)
  · have hk : (k + (its.toArray.size : Int)).toNat=j:=by
      rw [seqIndex_neg (by omega) h3] at h1
      rw [List.size_toArray,← hl]
      exact Option.some.inj h1
    exact PySem.W.ki_setBack ho (by omega) (by rw [List.size_toArray,← hl]; exact h3) (by omega) (by rw [hk]; exact ⟨_,I',q⟩)
theorem slice_bounds (lo hi : Option Int) (n : Nat) : (sliceBounds lo hi none n).1=((HT.sIx n 0 lo : Nat) : Int)∧(sliceBounds lo hi none n).2.1=((HT.sIx n n hi : Nat) : Int)∧(sliceBounds lo hi none n).2.2=1:=by
  refine ⟨?_,?_,rfl⟩
  · cases lo with
    | none=>simp [sliceBounds,HT.sIx]
    | some i=>
      simp only [sliceBounds,HT.sIx,Option.getD_none,show (1 : Int) > 0 by decide,if_true]
      by_cases h : i < 0
      · simp only [h,if_true] <;> omega
      · simp only [h,if_false] <;> omega
  · cases hi with
    | none=>simp [sliceBounds,HT.sIx]
    | some i=>
      simp only [sliceBounds,HT.sIx,Option.getD_none,show (1 : Int) > 0 by decide,if_true]
      by_cases h : i < 0
      · simp only [h,if_true] <;> omega
      · simp only [h,if_false] <;> omega
theorem slicePick_cut (its : List Value) (lo hi : Option Int) : slicePick its.toArray lo hi none=((its.drop (HT.sIx its.length 0 lo)).take (HT.sIx its.length its.length hi - HT.sIx its.length 0 lo)).toArray:=by
  obtain ⟨h1,h2,h3⟩:=slice_bounds lo hi its.toArray.size
  unfold slicePick
  rw [h1,h2,h3]
  simp only [sliceRange_one,pick_run,List.size_toArray] <;> rfl
def rSlL (K : PySem.W.Frag) : V→Option Int→Option Int→Hp→VK→Prop:=fun x lo hi H Q=>∃ a xs,x = .ref a∧SqL K H a xs∧∀ p,H p=none→Q (.ref p) (upd H p (.lst (cutV xs lo hi)))
theorem sl_list : SlR X (rSlL X.K):=by
  intro pins s σ H x v vl vu lo hi sl Q I rx hs pl pu h
  obtain ⟨a,xs,rfl,hx,q⟩:=h
  cases rx
  obtain ⟨its,r,ht,hz⟩:=I.list hx
  have hlen:=r.length
  refine ⟨"list",_,slot_list_getitem.lookup,ht.isList.typeIs,?_⟩
  refine wpAny_getItem_list_slice ht.isList hs pl pu .none (by simp) ?_ (by rw [List.size_toArray] <;> omega)
  rw [slicePick_cut,← hlen]
  refine ⟨.ref s.heap.objs.size,_,I.laid (t':=s.toks) (o:=.lst (cutV xs lo hi)) (fun b ob q=>Heap.get?_push_of_some _ q) (Nat.le_refl _) ?_,rfl,q _ (I.hok.fresh (Nat.le_refl _))⟩
  exact ⟨Nat.le_trans (cutV_length xs lo hi) hz,_,0,(r.drop (HT.sIx xs.length 0 lo)).take (HT.sIx xs.length xs.length hi - HT.sIx xs.length 0 lo),Heap.get?_push_size _ rfl⟩
def flatV : V→Bool
  | .non=>true
  | .bl _=>true
  | .int _=>true
  | .str _=>true
  | _=>false
def eqV : V→V→Bool
  | .non,.non=>true
  | .bl a,.bl b=>a == b
  | .bl a,.int b=>(if a then 1 else 0) == b
  | .int a,.bl b=>a == (if b then 1 else 0)
  | .int a,.int b=>a == b
  | .str a,.str b=>a == b
  | _,_=>false
theorem eqAt_V {A : Around} {s : Shared} {y x : V} {u v : Value} (ry : RelV y u) (rx : RelV x v) (fy : flatV y=true) (fx : flatV x=true) : SeqAt.EqAt A s u v (eqV y x):=by
  cases y with
  | non=>
    cases ry
    cases x with
    | non=>cases rx; exact SeqAt.EqAt.same _
    | bl b=>cases rx; exact SeqAt.EqAt.none_bool b
    | int b=>obtain ⟨t,rfl⟩:=rx; exact SeqAt.EqAt.none_int b t
    | str b=>obtain ⟨t,rfl⟩:=rx; exact SeqAt.EqAt.none_str b t
    | _=>exact absurd (show false=true from fx) Bool.false_ne_true
  | bl a=>
    cases ry
    cases x with
    | non=>cases rx; exact SeqAt.EqAt.bool_none a
    | bl b=>cases rx; exact SeqAt.EqAt.bool_bool a b
    | int b=>obtain ⟨t,rfl⟩:=rx; exact SeqAt.EqAt.bool_int a b t
    | str b=>obtain ⟨t,rfl⟩:=rx; exact SeqAt.EqAt.bool_str a b t
    | _=>exact absurd (show false=true from fx) Bool.false_ne_true
  | int a=>
    obtain ⟨t',rfl⟩:=ry
    cases x with
    | non=>cases rx; exact SeqAt.EqAt.int_none a t'
    | bl b=>cases rx; exact SeqAt.EqAt.int_bool a t' b
    | int b=>obtain ⟨t,rfl⟩:=rx; exact SeqAt.EqAt.int_int a t' b t
    | str b=>obtain ⟨t,rfl⟩:=rx; exact SeqAt.EqAt.int_str a t' b t
    | _=>exact absurd (show false=true from fx) Bool.false_ne_true
  | str a=>
    obtain ⟨t',rfl⟩:=ry
    cases x with
    | non=>cases rx; exact SeqAt.EqAt.str_none a t'
    | bl b=>cases rx; exact SeqAt.EqAt.str_bool a t' b
    | int b=>obtain ⟨t,rfl⟩:=rx; exact SeqAt.EqAt.str_int a t' b t
    | str b=>obtain ⟨t,rfl⟩:=rx; exact SeqAt.EqAt.str_str a t' b t
    | _=>exact absurd (show false=true from fx) Bool.false_ne_true
  | _=>exact absurd (show false=true from fy) Bool.false_ne_true
theorem call_len_seq : CallR X (.builtin "len") (fun xs H Q=>∃ p ys,xs=[.ref p]∧(SqL X.K H p ys∨SqT X.K H p ys)∧Q (.int ys.length) H):=by
  intro pins s σ H xs us Q I r h
  obtain ⟨p,ys,rfl,hq,q⟩:=h
  obtain ⟨u,rfl,rx⟩:=vals1 r
  cases rx
  have hn:=line63
  rcases hq with hq | hq
  · obtain ⟨its,r',pl,hz⟩:=I.list hq
    have hlen:=r'.length
    exact Calls.call_len_list pl.isList (by simp only [List.size_toArray] <;> omega) ⟨.int ys.length,H,I.tok _,⟨s.toks + 1,by rw [List.size_toArray,hlen]⟩,q⟩
  · obtain ⟨its,r',pl,hz⟩:=I.tuple hq
    have hlen:=r'.length
    exact len_tuple pl (by simp only [List.size_toArray] <;> omega) ⟨.int ys.length,H,I.tok _,⟨s.toks + 1,by rw [List.size_toArray,hlen]⟩,q⟩
theorem call_list_of : CallR X (.type "list") (fun xs H Q=>∃ p ys,xs=[.ref p]∧(SqL X.K H p ys∨SqT X.K H p ys)∧∀ l,H l=none→Q (.ref l) (upd H l (.lst ys))):=by
  intro pins s σ H xs us Q I r h
  obtain ⟨p,ys,rfl,hq,q⟩:=h
  obtain ⟨u,rfl,rx⟩:=vals1 r
  cases rx
  have fin : ∀ (its : List Value),Vals ys its→ys.length≤sizeLine→∀ (h' : Heap) (c' : Nat),(∀ b o',s.heap.get? b=some o'→h'.get? b=some o')→
      h'.get? s.heap.objs.size=some { cls:=.type "list",dict:=none,data:=.seq its.toArray c',slots:=#[] }→EP X pins σ Q (.ref s.heap.objs.size) { s with heap:=h' }:=fun its r' hz h' c' kp e =>
    ⟨.ref s.heap.objs.size,_,I.laid (t':=s.toks) kp (Nat.le_refl _) (show ObjOk X.prog X.w _ h' _ (.lst ys) from ⟨hz,its,c',r',e⟩),rfl,q _ (I.hok.fresh (Nat.le_refl _))⟩
  rcases hq with hq | hq
  · obtain ⟨its,r',pl,hz⟩:=I.list hq
    have hlen:=r'.length
    obtain ⟨o,ho,hc,n,hd⟩:=pl.isList
    exact call_list_seq p (.inl rfl) ho hc hd (fun h' c' kp e=>fin its r' hz h' c' kp e) (by simp only [List.size_toArray] <;> omega)
  · obtain ⟨its,r',pl,hz⟩:=I.tuple hq
    have hlen:=r'.length
    obtain ⟨o,ho,hc,n,hd⟩:=pl
    exact call_list_seq p (.inr rfl) ho hc hd (fun h' c' kp e=>fin its r' hz h' c' kp e) (by simp only [List.size_toArray] <;> omega)
def tyV (K : PySem.W.Frag) (T : String) (x : V) (H : Hp) : Prop:=match x with
  | .str _=>T = "str"
  | .int _=>T = "int"
  | .ref p=>(T = "list" ∧ ∃ xs,SqL K H p xs)∨(T = "tuple" ∧ ∃ o,K.lookup p=some o∧o.cls = .type "tuple" ∧ o.dict=none) ∨
      (T = "dict" ∧ ((∃ kvs,H p=some (.dK kvs))∨∃ kvs,H p=some (.dT kvs)))∨(T = "set" ∧ ∃ S n,H p=some (.set S n))
  | _=>False
theorem tyV_is {pins : List (Addr×Obj)} {σ : St} {H : Hp} {s : Shared} {T : String} {x : V} {v : Value} (I : Inv X pins σ H s) (r : RelV x v) (ty : tyV X.K T x H) :
    s.TypeIs v T∧∀ a,v = .ref a→∃ ob,s.heap.get? a=some ob∧ob.dict=none:=by
  cases x with
  | str z=>
    obtain ⟨t,rfl⟩:=r
    cases (show T = "str" from ty)
    exact ⟨typeIs_str s z t,fun _ e=>nomatch e⟩
  | int i=>
    obtain ⟨t,rfl⟩:=r
    cases (show T = "int" from ty)
    exact ⟨typeIs_int s i t,fun _ e=>nomatch e⟩
  | ref p=>
    cases r
    rcases ty with ⟨rfl,xs,hq⟩ | ⟨rfl,o,hk,hc,hd⟩ | ⟨rfl,hk⟩ | ⟨rfl,S,n,hk⟩
    · obtain ⟨its,_,pl,_⟩:=I.list hq
      refine ⟨pl.isList.typeIs,fun a e=>?_⟩
      cases e
      obtain ⟨o,n,e,c,hd,_⟩:=pl
      exact ⟨o,e,hd⟩
    · refine ⟨⟨o,I.kIn p o hk,hc⟩,fun a e=>?_⟩
      cases e
      exact ⟨o,I.kIn _ o hk,hd⟩
    · have z : ∃ o,s.heap.get? p=some o∧o.ExactDict:=by
        rcases hk with ⟨kvs,hk⟩ | ⟨kvs,hk⟩
        · obtain ⟨_,_,_,_,o,_,_,e,ex,_⟩:=I.hok p _ hk
          exact ⟨o,e,ex⟩
        · obtain ⟨_,_,_,_,o,_,_,e,ex,_⟩:=I.hok p _ hk
          exact ⟨o,e,ex⟩
      obtain ⟨o,e,ex⟩:=z
      refine ⟨⟨o,e,ex.1⟩,fun a e2=>?_⟩
      cases e2
      exact ⟨o,e,ex.2.1⟩
    · obtain ⟨o,_,_,_,e,ex,_⟩:=I.hok p _ hk
      refine ⟨⟨o,e,ex.1⟩,fun a e2=>?_⟩
      cases e2
      exact ⟨o,e,ex.2.1⟩
  | _=>exact False.elim ty
def tBM (K : PySem.W.Frag) (T : String) (r : V→List V→Hp→VK→Prop) (to : TE) (t : TA) : TE:=fun σ H Q=>to σ H fun x H1=>tyV K T x H1∧t σ H1 fun xs H2=>r x xs H2 Q
variable {o e : Expr} {es : List Expr} {to : TE} {t : TA} {name : Str} {apos cpos : Pos} {T id : String} {r : V→List V→Hp→VK→Prop}
theorem pe_bm (pa : PlainAttrs T) (slot : Slot T name id) (hty : typeOf (.builtin id)=pure (.type "method_descriptor")) (hm : MtR X id r) (ho : PE X o to) (ha : PA X (e :: es) t)
    (hbase : attributeBase o name X.env (eval o X.env)=eval o X.env:=by rfl)
    (hfew : ((backTo cpos (starEach (e :: es) X.env)).all (fun x=>!x.1) && (backToKw cpos (keywordEach [] X.env)).all (fun x=>x.1.isSome)
      && decide ((e :: es).length + ([] : List Keyword).length + (if ([] : List Keyword).isEmpty then 0 else 1) < 30))=true:=by rfl)
    (hline : (apos.endLine == cpos.line)=true:=by rfl) (hs : starEach (e :: es) X.env=(false,eval e X.env) :: starEach es X.env:=by rfl) (hplain : (backTo cpos (starEach es X.env)).any (·.1)=false:=by rfl) :
    PE X (.Call (.Attribute o name apos) (e :: es) [] cpos) (tBM X.K T r to t):=by
  intro pins s σ H Q I h
  refine wpAny_Call_method_late hbase hfew hline rfl (thn (ho pins s σ H _ I h) fun v s1 ⟨x,H1,I1,r1,ty,q1⟩=>?_)
  obtain ⟨h1,h2⟩:=tyV_is I1 r1 ty
  refine ⟨T,id,pa,slot,hty,h1,h2,?_⟩
  have hA:=ha cpos pins s1 σ H1 _ I1 q1
  rw [hs] at hA ⊢
  refine Calls.callWith_builtin (by show (false || (backTo cpos (starEach es X.env)).any (·.1))=false; rw [hplain] <;> rfl) (Calls.evalArgs_plain ?_)
  exact thn hA fun us s2 ⟨vs,H2,I2,r2,q2⟩=>hm pins s2 σ H2 x vs v us Q I2 r1 r2 q2
end
end L2
namespace L2
open PySem PySem.Spec PyProof.Rows
def MtM (X : Cx) (id : String) (r : V→List V→Hp→VK→Prop) : Prop:=
  ∀ (pins : List (Addr×Obj)) (s : Shared) (σ : St) (H : Hp) (x : V) (xs : List V) (v : Value) (us : List Value) (Q : VK),Inv X pins σ H s→RelV x v→Vals xs us→r x xs H Q→
    wpAny (model X.prog X.w) X.A (call (.builtin id) (v :: us)) (EP X pins σ Q) X.xe s
theorem Vals.one : ∀ {x : V} {us : List Value},Vals [x] us→∃ u,us=[u]∧RelV x u
  | _,_,.cons r .nil=>⟨_,rfl,r⟩
theorem Vals.two : ∀ {x y : V} {us : List Value},Vals [x,y] us→∃ u v,us=[u,v]∧RelV x u∧RelV y v
  | _,_,_,.cons r (.cons q .nil)=>⟨_,_,rfl,r,q⟩
section
variable {X : Cx} {pins : List (Addr×Obj)} {σ : St} {H : Hp} {s : Shared} {l b : Addr} {xs ys zs : List V}
theorem Inv.lset {its its' : List Value} {n : Nat} {f : Array Value→Array Value} {t' : Nat} (I : Inv X pins σ H s) (hH : H l=some (.lst xs))
    (e : s.heap.get? l=some { cls:=.type "list",data:=.seq its.toArray n }) (hf : f its.toArray=its'.toArray) (hv : Vals ys its') (hz : ys.length≤sizeLine) :
    Inv X pins σ (upd H l (.lst ys)) { s with heap:=s.heap.update l (Obj.mapSeq f),toks:=t' }:=by
  have q:=PySem.IsL.update e f
  rw [hf] at q
  refine I.write (x:=l) (e:=l) (by rw [hH]; exact trivial) (.inl rfl) (fun b' u hb hu=>(Heap.get?_update_other s.heap (Obj.mapSeq f) (Ne.symm hb)).trans hu) ⟨_,q⟩ ?_
  exact ⟨hz,its',_,hv,q⟩
theorem Inv.lnew {its : List Value} {t' : Nat} (I : Inv X pins σ H s) (hv : Vals ys its) (hz : ys.length≤sizeLine) :
    Inv X pins σ (upd H s.heap.objs.size (.lst ys)) { s with heap:=s.heap.push { cls:=.type "list",data:=.seq its.toArray },toks:=t' } :=
  I.laid (fun _ _ q=>Heap.get?_push_of_some _ q) (Nat.le_refl _) ⟨hz,its,0,hv,Heap.get?_push_size _ rfl⟩
theorem Inv.fresh (I : Inv X pins σ H s) : H s.heap.objs.size=none:=I.hok.fresh (Nat.le_refl _)
theorem Inv.lstM (I : Inv X pins σ H s) (hH : H l=some (.lst xs)) : xs.length≤sizeLine∧∃ (its : List Value) (n : Nat),Vals xs its∧xs.length=its.length∧s.heap.get? l=some { cls:=.type "list",data:=.seq its.toArray n }:=by
  obtain ⟨z,its,n,r,e⟩:=I.hok l _ hH
  exact ⟨z,its,n,r,r.length,e⟩
end
section
variable {X : Cx}
def rAppend : V→List V→Hp→VK→Prop:=fun x vs H Q=>∃ l xs y,x = .ref l∧vs=[y]∧H l=some (.lst xs)∧xs.length < sizeLine∧Q .non (upd H l (.lst (xs ++ [y])))
theorem mt_append : MtM X "list.append" rAppend:=by
  intro pins s σ H x vs v us Q I rx rv h
  obtain ⟨l,xs,y,rfl,rfl,hH,hz,q⟩:=h
  cases rx
  obtain ⟨u,rfl,ru⟩:=rv.one
  obtain ⟨z,its,n,r,hl,e⟩:=I.lstM hH
  refine call_meets F.slot_list_append ⟨_,e,rfl⟩ F.entry_list_append (F.args_list_append_2 _ _) (PySem.list_append l its.toArray n u (by rw [List.size_toArray]; omega)) ⟨e,?_⟩
  refine ⟨.non,_,I.lset (its':=its ++ [u]) hH e (by simp) (r.append (.cons ru .nil)) ?_,rfl,q⟩
  rw [List.length_append,List.length_singleton]
  omega
def rCat : R2:=fun x y H Q=>∃ l b xs zs,x = .ref l∧y = .ref b∧H l=some (.lst xs)∧H b=some (.lst zs)∧xs.length + zs.length≤sizeLine∧∀ p,H p=none→Q (.ref p) (upd H p (.lst (xs ++ zs)))
theorem op_cat : OpR X (binaryOp .Add) rCat:=by
  intro pins s σ H x y v u Q I rx ry h
  obtain ⟨l,b,xs,zs,rfl,rfl,hH,hB,hz,q⟩:=h
  cases rx
  cases ry
  obtain ⟨z,its,n,r,hl,e⟩:=I.lstM hH
  obtain ⟨z2,its2,n2,r2,hl2,e2⟩:=I.lstM hB
  refine PySem.P.add_list e e2 ?_ (by rw [List.size_toArray,List.size_toArray]; omega)
  have ea : its.toArray ++ its2.toArray=(its ++ its2).toArray:=by simp
  rw [ea]
  exact ⟨.ref _,_,I.lnew (t':=s.toks) (r.append r2) (by rw [List.length_append]; omega),rfl,q _ I.fresh⟩
end
section
variable {prog : Program} {w : World} {A : Around} {E : Value→Shared→Prop} {s : Shared}
end
section
variable {X : Cx}
end
end L2
namespace Att
open PySem PySem.W PySem.Calls PyProof.Rows
theorem ints_of_wellAll {P : Params} {h : Heap} : ∀ (ns : List Int) (vs : List Value),WellAll P h vs (ns.map WData.int)→IntsAre vs ns:=by
  intro ns
  induction ns with
  | nil=>
    intro vs w
    rw [List.map_nil] at w
    cases w
    exact .nil
  | cons n ns ih=>
    intro vs w
    rw [List.map_cons] at w
    cases w with
    | cons a b=>
      cases a
      exact .cons _ _ (ih _ b)
theorem script_of {l : OpenLaw} {n : Nat} (hn : l.most=some n) {P : Params} {h : Heap} {args : List WData} {vals : List Value}
    (hpre : l.row.toRowW.claim.pre args=true) (hwl : WellAll P h vals args) :
    ∃ a vs ns,vals=[Value.ref a]∧args=[WData.list (ns.map WData.int)]∧h.get? a=some { cls:=.type "list",data:=.seq vs.toArray }∧IntsAre vs ns∧ns.length≤n:=by
  have hsh : WShape.hasAll [] args [.list .int]=true:=(pre_splitW hpre).1
  have hc : l.pre.holds [] { args:=args } = true:=(pre_splitW hpre).2
  obtain ⟨d,r,rfl,h1,h2⟩:=hasAllW_cons hsh
  obtain rfl:=hasAllW_nil h2
  obtain ⟨xs,rfl,h3⟩:=hasW_list h1
  obtain ⟨ns,rfl⟩:=items_int h3
  have hlen : ns.length≤n:=by
    unfold OpenLaw.pre at hc
    have h4 : (WTm.not (.lt (.lit (.int (n : Int))) (.len (.arg 0)))).holds [] { args:=[.list (ns.map .int)] } = true:=by
      have h4:=(holds_andW hc).1
      rw [hn] at h4
      exact h4
    have h5:=condW_of h4 (w_not (w_lt w_lit (w_len_list (w_arg rfl))))
    rw [List.length_map] at h5
    refine Nat.le_of_not_lt fun q=>?_
    have q' : (n : Int) < ((ns.length : Nat) : Int):=by omega
    first
      | (rw [decide_eq_true q'] at h5; exact absurd h5 (by decide))
      | (simp at h5; omega)
  cases hwl with
  | cons w1 w2=>
    cases w2
    cases w1 with
    | list ho hall=>exact ⟨_,_,ns,rfl,rfl,ho,ints_of_wellAll ns _ hall,hlen⟩
theorem post_true (l : OpenLaw) (args : List WData) : l.row.toRowW.claim.post args (.bool true) args=true:=
  postW_of (r:=l.row.toRowW) (X:=(true == true))
    (show WShape.has [] (.bool true) .bool=true by first | rfl | decide | simp [WShape.has,WShape.arms,WShape.armsAll])
    (show (WTm.eq .res (.lit (.bool true))).value [] { args:=args,res:=some (.bool true),after:=args } = some (.bool (true == true)) from w_eq_bool (w_res rfl) w_lit) rfl
theorem attach_call {l : OpenLaw} {n : Nat} {q : Program} {loose : List Str} {XP : (Str→Option Value)→Heap→Prop} {YP : World→Heap→Prop} {d : DefRec}
    (hn : l.most=some n) (hdf : d.params.defaults=[])
    (call : ∀ (w : World) (s₀ s₁ : Shared) (mg mb : Str→Option Value) (fa : Addr) (o : Obj) (pm cd doc : Value) (a : Addr) (vs : List Value) (ns : List Int),
      Ground q loose [] XP w s₀ mg mb s₁.heap→YP w s₁.heap→
      s₁.heap.get? fa=some o→o.data = .func (docDef d.name d.params d.body d.scope pm cd doc)→s₁.heap.CodeRec cd d.name→mg d.name=some (.ref fa)→
      s₁.heap.get? a=some { cls:=.type "list",data:=.seq vs.toArray }→IntsAre vs ns→ns.length≤n→s₁.gens = #[] →
      codeAny (model l.prog w) callerA (.call (.ref fa) ⟨[.ref a],[]⟩) (fun r s'=>r = .ok (.ret (.bool true))∧OldK s₁.heap s'.heap∧s'.os=s₁.os∧AllBare s'.gens) s₁) :
    WalkO q loose XP YP l.row.toRowW d [] (fun f vs=>PySem.call f vs):=by
  intro w s₀ s₁ mg mb G Y fa o pm cd doc dV kV ho hd hcd hD hmg hg args vals as hpre hlay hrd hwl hlo
  obtain rfl : dV = .none:=Dflts.none hD hdf
  obtain rfl : kV = .none:=Dflts.noKw hD
  obtain ⟨a,vs,ns,rfl,rfl,hobj,hints,hlen⟩:=script_of hn hpre hwl
  refine enter_call (codeAny_mono (call w s₀ s₁ mg mb fa o pm cd doc a vs ns G Y ho (fd_plain hd) hcd hmg hobj hints hlen hg) fun r s' hq=>?_)
  obtain ⟨rfl,h2,h3,h4⟩:=hq
  exact ⟨.inl ⟨.bool true,.bool true,[],rfl,fun _=>rfl,.bool true,post_true l _,fun _=>⟨List.Pairwise.nil,fun _ hm=>(nomatch hm)⟩⟩,h2,h3,h4⟩
section
variable {prog : Program} {w : World} {A : Around} {E : Value→Shared→Prop} {s : Shared} {K : Frag}
end
end Att
namespace L2
open PySem PySem.Spec PyProof.Rows
theorem vals_ints : ∀ {vs : List Value} {ns : List Int},IntsAre vs ns→Vals (ns.map V.int) vs
  | _,_,.nil=>.nil
  | _,_,.cons n t h=>.cons ⟨t,rfl⟩ (vals_ints h)
def Only (H : Hp) : Prop:=∀ b,H b=none∨∃ o xs,H b=some (.frz o (.lst xs))
theorem law_call {P : Program} {w : World} {K : PySem.W.Frag} {mg mb : Str→Option Value} {CX : CXT} {k : Nat} {fa a : Addr} {fd : FuncData} {x : Str} {sp : Sp} {s₁ : Shared} {vs : List Value} {ns : List Int}
    (KX : K.In s₁.heap) (hns : s₁.heap.Ns mainGlobals mg) (hb : s₁.heap.Ns builtinsNs mb) (hbb : ∀ x : Str,x ≠ "__name__" → mb x=bootBuiltins x) (hlim : s₁.heap.NoLimit) (hg : s₁.gens = #[])
    (ha : s₁.heap.get? a=some { cls:=.type "list",data:=.seq vs.toArray }) (hi : IntsAre vs ns) (hl : ns.length≤sizeLine) (hr : Room k callerA)
    (F : ∀ base : Heap,K.In base→base.Ns mainGlobals mg→FnOk P w K mg base CX k fa fd [x] sp) (hbind : ∀ (s : Shared) (u : Value),BindsTo s fd ⟨[u],[]⟩ [(x,u)])
    (hsp : ∀ H : Hp,Only H→SqL K H a (ns.map V.int)→sp [.ref a] H (fun v _=>v = .bl true) fun _ _ _=>False)
    (hCX : ∀ H e s',CX [] H s₁ (fun _ _ _=>False) e s'→False) :
    codeAny (model P w) callerA (.call (.ref fa) ⟨[.ref a],[]⟩) (fun r s'=>r = .ok (.ret (.bool true))∧OldK s₁.heap s'.heap∧s'.os=s₁.os∧AllBare s'.gens) s₁:=by
  have rv:=vals_ints hi
  have lenV:=hi.length
  have core : ∀ H : Hp,Only H→SqL K H a (ns.map V.int)→HOk P w H s₁.heap→(∀ b,H b≠none→b=a)→(H a≠none→K.lookup a=none)→
      codeAny (model P w) callerA (.call (.ref fa) ⟨[.ref a],[]⟩) (fun r s'=>r = .ok (.ret (.bool true))∧OldK s₁.heap s'.heap∧s'.os=s₁.os∧AllBare s'.gens) s₁:=by
    intro H hO hS hok hA hK
    have base_of : ∀ {b : Addr} {o : Obj},s₁.heap.get? b=some o→H b=none→(hidT s₁.heap H).get? b=some o:=fun e n=>hidT_get e n
    have noA : ∀ {b : Addr} {o : Obj} {es : Array DictEntry} {ep : Nat},s₁.heap.get? b=some o→o.data = .dict es ep→H b=none:=fun {b o es ep} e d=>by
      cases q : H b with
      | none=>rfl
      | some u=>
        have e' : b=a:=hA b (by rw [q]; simp)
        subst e'
        rw [ha] at e; cases e
        have d' : Data.seq vs.toArray _=Data.dict es ep:=d
        cases d'
    have nsK : ∀ {b : Addr} {m : Str→Option Value},s₁.heap.Ns b m→(hidT s₁.heap H).Ns b m:=fun {b m} ⟨o,es,ep,e,d,r⟩=>⟨o,es,ep,base_of e (noA e d),d,r⟩
    have hKb : K.In (hidT s₁.heap H):=fun b o e=>base_of (KX b o e) (by
      cases q : H b with
      | none=>rfl
      | some u=>
        have e' : b=a:=hA b (by rw [q]; simp)
        subst e'
        rw [hK (by rw [q]; simp)] at e; cases e)
    have hM : Mod K mg (hidT s₁.heap H):=⟨hKb,nsK hns,⟨mb,nsK hb,hbb⟩,let ⟨mc,h1,h2⟩:=hlim; ⟨mc,nsK h1,h2⟩⟩
    have e0 : Env0 P w K mg (hidT s₁.heap H) callerA [] s₁ H:=⟨rfl,hM,fun b o e=>of_hidT e,Nat.le_of_eq (hidT_size _ _),trivial,fun b hb=>absurd (show b∈([] : List Addr) from hb) (by simp),hok,.of_eq hg⟩
    refine codeAny_mono ((F _ hKb (nsK hns)).run callerA [] s₁ H ⟨[.ref a],[]⟩ [.ref a] [.ref a] _ _ hr e0 (hbind s₁ (.ref a)) (.cons rfl .nil) (hsp H hO hS)) fun r s' h=>?_
    cases r with
    | error e=>exact (hCX H e s' h).elim
    | ok fl=>
      cases fl with
      | next=>exact False.elim h
      | brk=>exact False.elim h
      | cont=>exact False.elim h
      | ret u=>
        obtain ⟨v,H',os,bare,un,hok',r',q⟩:=h
        have q' : v = .bl true:=q
        subst q'
        obtain rfl : u=Value.bool true:=r'
        refine ⟨rfl,OldK.of_keep fun b o e=>?_,os,bare⟩
        cases q : H b with
        | none=>exact un.keep b o e q (by intro z; exact absurd (show b∈([] : List Addr) from z) (by simp)) (by simp)
        | some u=>
          rcases hO b with z | ⟨ob,xs,z⟩
          · rw [q] at z; cases z
          · have z2:=un.frzs b ob _ z
            obtain ⟨e1,_⟩:=hok b _ z
            obtain ⟨e2,_⟩:=hok' b _ z2
            rw [e] at e1; cases e1
            exact e2
  cases hk : K.lookup a with
  | some o=>
    have e:=KX a o hk
    rw [ha] at e
    cases e
    refine core (fun _=>none) (fun _=>.inl rfl) (.inr ⟨_,vs.toArray,_,hk,rfl,rfl,rfl,by rw [List.size_toArray,lenV]; exact hl,by simpa using rv⟩) (fun b u z=>by have z' : (none : Option HO)=some u:=z; cases z') (fun b z=>absurd rfl z) fun z=>absurd rfl z
  | none=>
    refine core (fun b=>if b=a then some (.frz { cls:=.type "list",data:=.seq vs.toArray } (.lst (ns.map V.int))) else none) (fun b=>?_) (.inl (.inr ⟨{ cls:=.type "list",data:=.seq vs.toArray },if_pos rfl⟩)) (fun b u z=>?_) (fun b z=>?_) fun _=>hk
    · by_cases hb : b=a
      · exact .inr ⟨_,_,if_pos hb⟩
      · exact .inl (if_neg hb)
    · by_cases hb : b=a
      · have z':=(if_pos hb).symm.trans z
        cases z'
        subst hb
        exact ⟨ha,by rw [List.length_map]; exact hl,vs,_,rv,ha⟩
      · have z':=(if_neg hb).symm.trans z
        cases z'
    · by_cases hb : b=a
      · exact hb
      · exact absurd (if_neg hb) z
end L2
namespace L2
open PySem PySem.Spec PyProof.Rows
theorem walk_of {l : PySem.W.OpenLaw} {n k : Nat} {q : Program} {loose : List Str} {XP : (Str→Option Value)→Heap→Prop} {YP : World→Heap→Prop} {d : DefRec} {K : Params→PySem.W.Frag} {CX : World→CXT} {sp : World→Sp} {x : Str}
    (hn : l.most=some n) (hn2 : n≤sizeLine) (hdf : d.params.defaults=[]) (hr : Room k callerA)
    (hY : ∀ (w : World) (h : Heap),YP w h→(K w.params).In h)
    (F : ∀ (w : World) (mg : Str→Option Value) (fa : Addr) (h : Heap),(K w.params).In h→h.Ns mainGlobals mg→mg d.name=some (.ref fa)→
      ∃ fd : FuncData,(∀ (s : Shared) (u : Value),BindsTo s fd ⟨[u],[]⟩ [(x,u)])∧
        ∀ base : Heap,(K w.params).In base→base.Ns mainGlobals mg→FnOk l.prog w (K w.params) mg base (CX w) k fa fd [x] (sp w))
    (hsp : ∀ (w : World) (H : Hp) (a : Addr) (ns : List Int),ns.length≤n→Only H→SqL (K w.params) H a (ns.map V.int)→sp w [.ref a] H (fun v _=>v = .bl true) fun _ _ _=>False)
    (hCX : ∀ (w : World) (H : Hp) (s : Shared) (e : Value) (s' : Shared),CX w [] H s (fun _ _ _=>False) e s'→False) :
    PySem.W.WalkO q loose XP YP l.row.toRowW d [] (fun f vs=>PySem.call f vs):=by
  refine Att.attach_call hn hdf fun w s₀ s₁ mg mb fa o pm cd doc a vs ns G Y ho hd hcd hmg hobj hints hlen hg=>?_
  have KX:=hY w _ Y
  obtain ⟨fd,hb,hF⟩:=F w mg fa _ KX G.T.g hmg
  exact law_call KX G.T.g G.T.b G.T.builtins G.T.nolimit hg hobj hints (Nat.le_trans hlen hn2) hr hF hb (fun H hO hS=>hsp w H a ns hlen hO hS) fun H e s'=>hCX w H s₁ e s'
end L2
namespace L2
open PySem PySem.Spec PyProof.Rows
def inClass (s : Stmt) (j : Nat) : Stmt:=match s with
  | .ClassDef _ _ _ body _ _ _ _ _ _ _=>body.getD j (.Pass ⟨0,0,0,0⟩)
  | _=>.Pass ⟨0,0,0,0⟩
def defArgs (s : Stmt) : Arguments:=match s with
  | .FunctionDef _ a _ _ _ _ _ _ _ _=>a
  | _=>{ posonlyargs:=[],args:=[],vararg:=none,kwonlyargs:=[],kw_defaults:=[],kwarg:=none,defaults:=[] }
def defBody (s : Stmt) : List Stmt:=match s with
  | .FunctionDef _ _ b _ _ _ _ _ _ _=>b
  | _=>[]
def defScope (s : Stmt) : Scope:=match s with
  | .FunctionDef _ _ _ _ _ _ sc _ _ _=>sc
  | _=>{ kind:=.function,names:=[],isGenerator:=false,isCoroutine:=false }
abbrev CX0 : CXT:=fun _ _ _ _ _ _=>False
abbrev E0 : XK:=fun _ _ _=>False
theorem pass0 {X : Cx} : Passes CX0 X E0:=fun _ _ _ _ _ _ _ h=>h.elim
structure Fun (K : PySem.W.Frag) (x qual : Str) (st : Stmt) (f : Addr) (fd : FuncData) : Prop where
  ex : ∃ (oc : Value) (od : Option Addr) (kV doc pm : Value) (an : Option Addr) (cdv ct : Value) (osl : Array (Option Value)),
    fd=PySem.W.fnOf x qual (defArgs st) (defBody st) (defScope st) .none kV doc pm an cdv ct∧K.lookup f=some ⟨oc,od,.func fd,osl⟩∧PySem.W.codeIn K cdv qual=true
  kp : PySem.W.keepIn K (.ref f)=true
section
variable {P : Program} {w : World} {K : PySem.W.Frag} {mg : Str→Option Value} {base : Heap}
theorem Fun.ok {x qual : Str} {st : Stmt} {f : Addr} {fd : FuncData} {N ps : List Str} {k : Nat} {sp : Sp} (F : Fun K x qual st f fd) (S : FnScope N ps (defScope st)) (len : ∀ vs H Q E,sp vs H Q E→vs.length=ps.length)
    (hbody : ∀ (cdv : Value) (A : Around) (outer : List Env) (s : Shared) (H : Hp) (vs : List V) (Q : VK) (E : XK),Room k (A.deeper (envOfC qual (defScope st) s.heap.objs.size f cdv))→sp vs H Q E→
      ∃ t,PSs (cxOf CX0 P w K mg base N qual (defScope st) f cdv A outer s H E).nox (defBody st) t∧t { nx:=fun _ H'=>Q .non H',rt:=Q } (start N vs) H) : FnOk P w K mg base CX0 (k + 1) f fd ps sp:=by
  obtain ⟨oc,od,kV,doc,pm,an,cdv,ct,osl,rfl,lk,hcd⟩:=F.ex
  refine fn_of lk hcd S len fun A outer s H vs Q E hr hsp=>?_
  obtain ⟨t,h,q⟩:=hbody cdv A outer s H vs Q E hr hsp
  exact ⟨t,h.nox,q⟩
theorem Fun.binds {x qual : Str} {st : Stmt} {f : Addr} {fd : FuncData} {ps : List Str} (F : Fun K x qual st f fd)
    (h : ∀ (kV doc pm : Value) (an : Option Addr) (cdv ct : Value) (us : List Value),us.length=ps.length→bindArgs (PySem.W.fnOf x qual (defArgs st) (defBody st) (defScope st) .none kV doc pm an cdv ct) ⟨us,[]⟩=pure (ps.zip us)) : Binds K fd ps []:=by
  obtain ⟨oc,od,kV,doc,pm,an,cdv,ct,osl,rfl,lk,hcd⟩:=F.ex
  exact .all (h kV doc pm an cdv ct)
theorem fun_mk {x qual : Str} {st : Stmt} {f : Addr} {oc : Value} {od an : Option Addr} {osl : Array (Option Value)} {kV doc pm cdv ct : Value} (l : K.lookup f=some ⟨oc,od,.func (PySem.W.fnOf x qual (defArgs st) (defBody st) (defScope st) .none kV doc pm an cdv ct),osl⟩)
    (c : PySem.W.codeIn K cdv qual=true) (k : PySem.W.keepIn K (.ref f)=true) : Fun K x qual st f (PySem.W.fnOf x qual (defArgs st) (defBody st) (defScope st) .none kV doc pm an cdv ct):=⟨⟨oc,od,kV,doc,pm,an,cdv,ct,osl,rfl,l,c⟩,k⟩
end
theorem hu_of {A : Around} {k : Nat} (hr : Room k A) : A.units + 1 < cLine:=Nat.lt_of_le_of_lt (Nat.add_le_add_left (by decide : 1≤64) _) hr.units
theorem small1000 {n : Nat} (h : n≤1000) : n < sizeLine:=Nat.lt_of_le_of_lt h (by decide)
section
variable {X : Cx}
theorem pv (i : Nat) {x : Str} {pos : Pos} (hN : X.N[i]? = some x:=by rfl) (hv : Vis X.env.scope x:=by first | exact Or.inl rfl | exact Or.inr (Or.inl rfl) | exact Or.inr (Or.inr rfl)) (hd : (x == ("__debug__" : Str))=false:=by decide)
    (hcd : (x == ("__classdict__" : Str))=false:=by decide) : PE X (.Name x pos) (tVar i):=pe_var hN hv hd hcd
end
theorem iteF {A B : Prop} (h : B) : if false=true then A else B:=by
  rw [if_neg Bool.false_ne_true]
  exact h
theorem iteT {A B : Prop} (h : A) : if true=true then A else B:=by
  rw [if_pos rfl]
  exact h
theorem ite2 {c A B : Prop} [Decidable c] (h1 : c→A) (h2 : ¬ c→B) : if c then A else B:=by
  by_cases h : c
  · rw [if_pos h]
    exact h1 h
  · rw [if_neg h]
    exact h2 h
theorem iteNS {c A B : Prop} [Decidable c] (hc : c) (h : B) : if (!decide c)=true then A else B:=by
  rw [decide_eq_true hc]
  exact iteF h
def Same (H H' : Hp) : Prop:=∀ b o,H b=some o→H' b=some o
theorem Same.refl (H : Hp) : Same H H:=fun _ _ h=>h
theorem Same.trans {H H1 H2 : Hp} (a : Same H H1) (b : Same H1 H2) : Same H H2:=fun c o h=>b c o (a c o h)
theorem Same.free {H H' : Hp} (e : Same H H') {l : Addr} (h : H' l=Option.none) : H l=Option.none:=by
  cases q : H l with
  | none=>rfl
  | some o=>
    rw [e l o q] at h
    cases h
end L2
set_option maxHeartbeats 4000000
namespace L2
open PySem PySem.Spec PyProof.Rows
theorem objThere {P : Program} {w : World} {H : Hp} {h : Heap} {a : Addr} {o : HO} (x : ObjOk P w H h a o) : ∃ ob,h.get? a=some ob:=by
  induction o with
  | lst xs=>obtain ⟨_,_,_,_,e⟩:=x; exact ⟨_,e⟩
  | tup xs=>obtain ⟨_,_,_,ob,e,_⟩:=x; exact ⟨_,e⟩
  | dK kvs=>obtain ⟨_,_,_,_,o,_,_,e,_⟩:=x; exact ⟨_,e⟩
  | dT kvs=>obtain ⟨_,_,_,_,o,_,_,e,_⟩:=x; exact ⟨_,e⟩
  | set S n=>obtain ⟨o,_,_,_,e,_⟩:=x; exact ⟨_,e⟩
  | ins C dx fs=>obtain ⟨_,_,_,e,_⟩:=x; exact ⟨_,e⟩
  | own y=>obtain ⟨_,e⟩:=x; exact ⟨_,e⟩
  | xd fs=>obtain ⟨_,⟨_,_,_,e,_⟩,_⟩:=x; exact ⟨_,e⟩
  | rng lo hi=>obtain ⟨_,_,_,e⟩:=x; exact ⟨_,e⟩
  | frz ob u _=>obtain ⟨e,_⟩:=x; exact ⟨_,e⟩
  | tbl ps=>exact ⟨_,(show h.get? a=some _ from x)⟩
  | met f y=>exact ⟨_,(show h.get? a=some _ from x)⟩
  | ext φ=>obtain ⟨_,e,_⟩:=x; exact e
  | cod q pos=>rcases x with e | ⟨_,e,_⟩ <;> exact ⟨_,e⟩
structure UnB (fs : List Addr) (H H' : Hp) (h B h' : Heap) : Prop where
  keep : ∀ b o,h.get? b=some o→H b=none→b ∉ fs→B.get? b=some o
  slot : ∀ b o,h.get? b=some o→H b=none→b∈fs→∃ sl,h'.get? b=some { o with slots:=sl }
  free : ∀ b o,h.get? b=some o→H b=none→H' b=none
  there : ∀ b o,h.get? b=some o→b∈fs∨∃ o',B.get? b=some o'
  tups : ∀ b xs,H b=some (.tup xs)→H' b=some (.tup xs)
  frzs : ∀ b o u,H b=some (.frz o u)→H' b=some (.frz o u)
  tbls : ∀ b ps,H b=some (.tbl ps)→∃ more,H' b=some (.tbl (ps ++ more))
def CXE (P : Program) (w : World) : CXT:=fun outer H s E e s'=>∃ (a : Addr) (cls a0 : Value) (H' : Hp) (B : Heap),e = .ref a∧s'.os=s.os∧AllBare s'.gens∧E cls none H'∧HOk P w H' B∧H' a=none∧s.heap.get? a=none∧
  Heap.FlyingW B outer a cls a0 s'.heap∧UnB (frs outer) H H' s.heap B s'.heap
section
variable {X : Cx} {pins : List (Addr×Obj)} {σ : St} {H : Hp} {s s' : Shared} {E : XK}
theorem raise_leaves {CX : CXT} {P : Program} {w : World} {K : PySem.W.Frag} {mg : Str→Option Value} {base : Heap} {N : List Str} {qual : Str} {scope : Scope} {f : Addr} {cd : Value} {A : Around} {outer : List Env} {s₀ : Shared} {H₀ : Hp}
    {pins : List (Addr×Obj)} {σ : St} {H : Hp} {s : Shared} {h' : Heap} {e : Addr} {cls : Value} {args : List Value}
    (I : Inv (cxOf (CXE P w) P w K mg base N qual scope f cd A outer s₀ H₀ E) pins σ H s) (hx : Heap.MadeExcOf s.heap h' e cls args) (hE : E cls none H) :
    (cxOf (CXE P w) P w K mg base N qual scope f cd A outer s₀ H₀ E).xe (.ref e) { s with heap:=h' }:=by
  have hst:=I.stack
  have hlt:=I.lt
  have hnoex : ∀ b : Addr,b ∉ ([] : List Addr):=fun b z=>nomatch z
  show wpAny (model P w) (A.deeper (envOfC qual scope s₀.heap.objs.size f cd)) (leaving (envOfC qual scope s₀.heap.objs.size f cd) (.ref e)) (fun _ s''=>CXE P w outer H₀ s₀ E (.ref e) s'') (fun e' s''=>CXE P w outer H₀ s₀ E e' s'') { s with heap:=h' }
  refine wpAny_leaves_madeW (base:=PySem.W.hideAll s.heap (frs (envOfC qual scope s₀.heap.objs.size f cd :: outer))) (h:=s.heap) (L:=s₀.heap.objs.size) I.ok.frames rfl (fun b o q=>PySem.W.of_hideAll _ q)
    (PySem.W.funFrames_hide hst fun env he b hb=>List.mem_filterMap.mpr ⟨env,he,hb⟩) hx fun h'' t fly _ _ upto=>?_
  have hsub : ∀ b,b∈frs outer→b∈frs (envOfC qual scope s₀.heap.objs.size f cd :: outer):=fun b hb=>by
    obtain ⟨env,he,hf⟩:=List.mem_filterMap.mp hb
    exact List.mem_filterMap.mpr ⟨env,.tail _ he,hf⟩
  have hnot : ∀ b o,s₀.heap.get? b=some o→b ∉ frs outer→b ∉ frs (envOfC qual scope s₀.heap.objs.size f cd :: outer):=fun b o q nb hb=>by
    rcases List.mem_cons.mp (I.stkSub b hb) with z | z
    · exact absurd (Heap.lt_size q) (by rw [z]; exact Nat.lt_irrefl _)
    · exact nb z
  have hfree : ∀ b∈frs (envOfC qual scope s₀.heap.objs.size f cd :: outer),H b=none:=I.stkFree
  have nohid : ∀ b u,H b=some u→b ∉ frs (envOfC qual scope s₀.heap.objs.size f cd :: outer):=fun b u q hb=>by rw [hfree b hb] at q; cases q
  refine ⟨e,cls,.ref t,H,_,rfl,I.os,I.bare,hE,fun b u q=>?_,?_,?_,fly,?_⟩
  · refine (I.hok b u q).stay (fun c v hc r=>PySem.W.hideAll_get _ r ?_) (fun _ r=>r) fun _ _ r=>r
    rcases hc with z | z
    · rw [z]; exact nohid b u q
    · exact nohid c _ z
  · cases q : H e with
    | none=>rfl
    | some u=>
      obtain ⟨ob,e1⟩:=objThere (I.hok e u q)
      rw [hx.new] at e1; cases e1
  · cases q : s₀.heap.get? e with
    | none=>rfl
    | some o=>
      obtain ⟨o',e1⟩:=I.base.there e o q (hnoex e)
      rw [hx.new] at e1; cases e1
  · refine ⟨fun b o q n nb=>PySem.W.hideAll_get _ (I.base.keep b o q n nb (hnoex b)) (hnot b o q nb),fun b o q n hb=>?_,fun b o q n=>I.base.free b o q n (hnoex b),fun b o q=>?_,I.base.tups,I.base.frzs,I.base.tbls⟩
    · obtain ⟨sl,e1⟩:=I.base.slot b o q n hb (hnoex b)
      obtain ⟨_,ob,e2,nf⟩:=hst.mem (hsub b hb)
      rw [e1] at e2; cases e2
      have e3:=hx.keeps b _ e1
      obtain ⟨sl',e4⟩:=upto b _ e3 nf
      exact ⟨sl',e4⟩
    · by_cases hb : b∈frs outer
      · exact .inl hb
      · obtain ⟨o',e1⟩:=I.base.there b o q (hnoex b)
        exact .inr ⟨o',PySem.W.hideAll_get _ e1 (hnot b o q hb)⟩
theorem passE {P : Program} {w : World} {K : PySem.W.Frag} {mg : Str→Option Value} {base : Heap} {N : List Str} {qual : Str} {scope : Scope} {f : Addr} {cd : Value} {A : Around} {outer : List Env} {s₀ : Shared} {H₀ : Hp} {E E' : XK}
    (hE : ∀ cls H,E' cls none H→E cls none H) : Passes (CXE P w) (cxOf (CXE P w) P w K mg base N qual scope f cd A outer s₀ H₀ E) E':=by
  intro pins σ H s e s' I h
  obtain ⟨a,cls,a0,H',B,rfl,hos,hb,hE',hok,hna,hfr,fly,u⟩:=h
  have hnoex : ∀ b : Addr,b ∉ ([] : List Addr):=fun b z=>nomatch z
  have hsub : ∀ b,b∈frs outer→b∈frs (envOfC qual scope s₀.heap.objs.size f cd :: outer):=fun b hb=>by
    obtain ⟨env,he,hf⟩:=List.mem_filterMap.mp hb
    exact List.mem_filterMap.mpr ⟨env,.tail _ he,hf⟩
  have hnot : ∀ b o,s₀.heap.get? b=some o→b ∉ frs outer→b ∉ frs (envOfC qual scope s₀.heap.objs.size f cd :: outer):=fun b o q nb hb=>by
    rcases List.mem_cons.mp (I.stkSub b hb) with z | z
    · exact absurd (Heap.lt_size q) (by rw [z]; exact Nat.lt_irrefl _)
    · exact nb z
  show wpAny (model P w) (A.deeper (envOfC qual scope s₀.heap.objs.size f cd)) (leaving (envOfC qual scope s₀.heap.objs.size f cd) (.ref a)) (fun _ s''=>CXE P w outer H₀ s₀ E (.ref a) s'') (fun e' s''=>CXE P w outer H₀ s₀ E e' s'') s'
  refine wpAny_leaves_onW (L:=s₀.heap.objs.size) I.ok.frames rfl fly fun h'' fly' upto=>?_
  refine ⟨a,cls,a0,H',B,rfl,hos.trans I.os,hb,hE cls H' hE',hok,hna,?_,fly',?_⟩
  · cases q : s₀.heap.get? a with
    | none=>rfl
    | some o=>
      obtain ⟨o',e1⟩:=I.base.there a o q (hnoex a)
      rw [hfr] at e1; cases e1
  · refine ⟨fun b o q n nb=>u.keep b o (I.base.keep b o q n nb (hnoex b)) (I.base.free b o q n (hnoex b)) (hnot b o q nb),fun b o q n hb=>?_,fun b o q n=>?_,fun b o q=>?_,fun b xs q=>u.tups b xs (I.base.tups b xs q),fun b o x q=>u.frzs b o x (I.base.frzs b o x q),fun b ps q=>?_⟩
    · obtain ⟨sl,e1⟩:=I.base.slot b o q n hb (hnoex b)
      obtain ⟨sl',e2⟩:=u.slot b _ e1 (I.base.free b o q n (hnoex b)) (hsub b hb)
      obtain ⟨_,ob,e3,nf⟩:=fly.2.2.1.mem (hsub b hb)
      rw [e2] at e3; cases e3
      obtain ⟨sl'',e4⟩:=upto b _ e2 nf
      exact ⟨sl'',e4⟩
    · obtain ⟨o',e1⟩:=I.base.there b o q (hnoex b)
      exact u.free b o' e1 (I.base.free b o q n (hnoex b))
    · by_cases hb : b∈frs outer
      · exact .inl hb
      · obtain ⟨o',e1⟩:=I.base.there b o q (hnoex b)
        rcases u.there b o' e1 with z | z
        · exact absurd z (hnot b o q hb)
        · exact .inr z
    · obtain ⟨m1,e1⟩:=I.base.tbls b ps q
      obtain ⟨m2,e2⟩:=u.tbls b _ e1
      exact ⟨m1 ++ m2,by rw [e2,Array.append_assoc]⟩
end
end L2
namespace L2
open PySem PySem.Spec PyProof.Rows PySem.Builtin.ObjectAttr PySem.Builtin.Getset_descriptor
section
variable {prog : Program} {w : World} {A : Around} {E : Value→Shared→Prop} {K : PySem.W.Frag} {x D : Addr} {s : Shared}
end
end L2
namespace L2
open PySem PySem.Spec PyProof.Rows
theorem exc_obj {K : PySem.W.Frag} {h : Heap} {C : Addr} {bmB : List Value} {newId : String} (X : K.In h) (q : PySem.W.excIn K C bmB newId=true) :
    ∃ bm N nm qn bs hd sn sub ab col dd k0 k1 k2 k3 k5 mN,h.get? C=some (excClassObj nm qn C N bs bm hd sn sub ab col dd k0 k1 k2 k3 k5 newId)∧h.Ns N mN∧mN "__init__" = none∧OwnTail h bmB bm:=by
  unfold PySem.W.excIn at q
  split at q
  · rename_i dd cd sl look
    split at q
    · rename_i C2 bm k0 k1 k2 k3 n k5 hmro hsl
      simp only [Bool.and_eq_true,beq_iff_eq,Bool.not_eq_true'] at q
      obtain ⟨⟨⟨⟨⟨rfl,rfl⟩,hde⟩,htl⟩,hns⟩,hin⟩:=q
      obtain ⟨nm,bs,mro,ns,qn,hd,sn,sub,ab,col,del⟩:=cd
      dsimp only at hmro hde hns hin
      subst hmro hde
      have es : sl = #[k0,k1,k2,k3,some (.builtin n),k5]:=by
        obtain ⟨ls⟩:=sl
        have e1 : ls=[k0,k1,k2,k3,some (.builtin n),k5]:=hsl
        rw [e1]
      subst es
      exact ⟨bm,ns,nm,qn,bs,hd,sn,sub,ab,col,dd,k0,k1,k2,k3,k5,_,X _ _ look,.of_isNs (PySem.W.isNs_of_in X hns),PySem.W.nsMap_none_of_in X hns hin,PySem.W.tail_of_in X htl⟩
    · cases q
  · cases q
section
variable {X : Cx}
def tRaise (C : Addr) (E : XK) (t : TA) : TS:=fun D σ H=>t σ H fun vs H1=>vs.length≤sizeLine∧E (.ref C) none H1
def Makes (X : Cx) (E : XK) : Prop:=∀ (pins : List (Addr×Obj)) (σ : St) (H : Hp) (s : Shared) (h' : Heap) (e : Addr) (cls : Value) (args : List Value),Inv X pins σ H s→Heap.MadeExcOf s.heap h' e cls args→E cls none H→X.xe (.ref e) { s with heap:=h' }
theorem makesE {P : Program} {w : World} {K : PySem.W.Frag} {mg : Str→Option Value} {base : Heap} {N : List Str} {qual : Str} {scope : Scope} {f : Addr} {cd : Value} {A : Around} {outer : List Env} {s₀ : Shared} {H₀ : Hp} {E : XK} :
    Makes (cxOf (CXE P w) P w K mg base N qual scope f cd A outer s₀ H₀ E) E:=fun _ _ _ _ _ _ _ _ I hx hE=>raise_leaves (CX:=CXE P w) I hx hE
theorem ps_raise {x : Str} {C : Addr} {B newId initId : String} {bmB : List Value} {e₀ : Expr} {rest : List Expr} {np cpos pos : Pos} {t : TA} {E : XK} (hg : Gl X x) (hm : X.mg x=some (.ref C)) (hq : PySem.W.excIn X.K C bmB newId=true)
    (FB : ExcBaseFacts B newId initId bmB) (hcalm : X.calm=true) (hxe : Makes X E) (ha : PA X (e₀ :: rest) t) (hd : (x == ("__debug__" : Str))=false:=by decide)
    (he : starEach (e₀ :: rest) X.env=(false,eval e₀ X.env) :: starEach rest X.env:=by rfl) (hpl : (backTo cpos (starEach rest X.env)).any (·.1)=false:=by rfl) :
    PS X (.Raise (some (.Call (.Name x np) (e₀ :: rest) [] cpos)) none pos) (tRaise C E t):=by
  intro pins s σ H D I h
  obtain ⟨bm,N,nm,qn,bs,hdd,sn,sub,ab,col,dd,k0,k1,k2,k3,k5,mN,hC,hN,hni,T⟩:=exc_obj (bmB:=bmB) I.mod.kin hq
  refine wpAny_Raise_call_subT (C:=C) (N:=N) (bm:=bm) (nm:=nm) (q:=qn) (bs:=bs) (hdct:=hdd) (sn:=sn) (sub:=sub) (ab:=ab) (col:=col) (dd:=dd) (k0:=k0) (k1:=k1) (k2:=k2) (k3:=k3) (k5:=k5) FB (mN:=mN) (T.hasType FB.hasBase) (I.ok.hd hcalm)
    (by rw [he]; show (false || (backTo cpos (starEach rest X.env)).any (·.1))=false; rw [hpl]; rfl) hni (ld_glob I hg hm ⟨rfl,?_⟩ hd)
  have h1:=ha cpos pins s σ H _ I h
  rw [he] at h1 ⊢
  refine Calls.evalArgs_plain (thn h1 fun us s1 ⟨vs,H1,I1,r1,q1⟩=>?_)
  exact ⟨rfl,(by rw [← r1.length]; exact q1.1),I1.bk _ _ hC,hN.keeps I1.bk,T.keeps I1.bk,fun h' e hx=>hxe pins σ H1 s1 h' e _ _ I1 hx q1.2⟩
theorem Inv.track {pins : List (Addr×Obj)} {σ : St} {H : Hp} {s : Shared} {a : Addr} {o : HO} (I : Inv X pins σ H s) (hs : X.s₀.heap.get? a=none) (hn : H a=none) (hL : a≠X.env.locals) (hc : ∀ x c,X.env.cells.lookup x=some c→c≠a)
    (hp : ∀ p∈X.pn ++ pins,p.1≠a) (new : ObjOk X.prog X.w (upd H a o) s.heap a o) : Inv X pins σ (upd H a o) s:=by
  have ne : ∀ b ob,X.s₀.heap.get? b=some ob→b≠a:=fun b ob e z=>by rw [z,hs] at e; cases e
  have nt : ∀ b u,H b=some u→b≠a:=fun b u e z=>by rw [z,hn] at e; cases e
  refine ⟨I.ok,I.os,I.bare,⟨I.base.keep,I.base.slot,fun b ob e n hx=>by rw [upd_ne (ne b ob e)]; exact I.base.free b ob e n hx,I.base.there,fun b xs e=>?_,fun b ob xs e=>?_,fun b ps e=>?_⟩,I.loc,I.cell,by rw [upd_ne hL.symm]; exact I.free,fun x c e=>by rw [upd_ne (hc x c e)]; exact I.freeC x c e,fun p hp'=>?_,fun b u e=>?_,I.len⟩
  · have e1:=I.base.tups b xs e
    rw [upd_ne (nt b _ e1)]; exact e1
  · have e1:=I.base.frzs b ob xs e
    rw [upd_ne (nt b _ e1)]; exact e1
  · obtain ⟨more,e1⟩:=I.base.tbls b ps e
    exact ⟨more,by rw [upd_ne (nt b _ e1)]; exact e1⟩
  · obtain ⟨e,n,r⟩:=I.pin p hp'
    exact ⟨e,by rw [upd_ne (hp p hp')]; exact n,r⟩
  · by_cases z : b=a
    · subst z
      rw [upd_same] at e
      cases e
      exact new
    · rw [upd_ne z] at e
      exact (I.hok b u e).stay (fun _ _ _ q=>q) (fun c q=>by rw [upd_ne (nt c _ q)]; exact q) fun c xs q=>by rw [upd_ne (nt c _ q)]; exact q
end
end L2
namespace L2
open PySem PySem.Spec PyProof.Rows
def clOf (env : Env) : List (Str×NameKind)→List (Str×Addr)→List (Str×Addr)
  | [],cs=>cs
  | (n,k) :: r,cs=>clOf env r (if k == .free then (n,(env.cells.lookup n).getD 0) :: cs else cs)
theorem closureFor_cl {scope : Scope} {env : Env} (h : ∀ y∈scope.names,y.2 = .free→∃ c,env.cells.lookup y.1=some c) : closureFor scope env=pure (clOf env scope.names []):=by
  have all : ∀ (l : List (Str×NameKind)) (cs : List (Str×Addr)),(∀ y∈l,y.2 = .free→∃ c,env.cells.lookup y.1=some c)→
      (forIn l cs fun (x : Str×NameKind) r=>(if (x.2 == NameKind.free)=true then do let a ← cellOf env x.1; pure (ForInStep.yield ((x.1,a) :: r)) else pure (ForInStep.yield r) : Sem (ForInStep (List (Str×Addr)))))=pure (clOf env l cs):=by
    intro l
    induction l with
    | nil=>intro cs _; rfl
    | cons x r ih=>
      intro cs hl
      obtain ⟨n,k⟩:=x
      rw [List.forIn_cons]
      by_cases hk : (k == NameKind.free)=true
      · obtain ⟨c,hc⟩:=hl (n,k) (.head _) (by simpa using hk)
        have e : cellOf env n=pure c:=by unfold cellOf; rw [show env.cells.lookup n=some c from hc]
        simp only [hk,if_true,e,pure_bind]
        rw [ih _ fun y hy=>hl y (.tail _ hy)]
        show _=pure (clOf env r (if k == .free then _ else _))
        rw [if_pos hk,show env.cells.lookup n=some c from hc]
        rfl
      · simp only [hk,Bool.false_eq_true,if_false,pure_bind]
        rw [ih _ fun y hy=>hl y (.tail _ hy)]
        show _=pure (clOf env r (if k == .free then _ else _))
        rw [if_neg hk]
  unfold closureFor
  have:=all scope.names [] h
  simp only [bind_pure] at this ⊢
  exact this
theorem mem_clOf {env : Env} : ∀ (l : List (Str×NameKind)) (cs : List (Str×Addr)) {p : Str×Addr},p∈clOf env l cs→p∈cs∨((p.1,NameKind.free)∈l∧p.2=(env.cells.lookup p.1).getD 0)
  | [],cs,p,h=>.inl h
  | (n,k) :: r,cs,p,h=>by
    unfold clOf at h
    rcases mem_clOf r _ h with z | ⟨z1,z2⟩
    · split at z
      · rename_i hk
        have hk' : k = .free:=by simpa using hk
        rcases List.mem_cons.mp z with rfl | z
        · exact .inr ⟨by rw [hk']; exact .head _,rfl⟩
        · exact .inl z
      · exact .inl z
    · exact .inr ⟨.tail _ z1,z2⟩
theorem clOf_grows {env : Env} : ∀ (l : List (Str×NameKind)) (cs : List (Str×Addr)) {p : Str×Addr},p∈cs→p∈clOf env l cs
  | [],cs,p,h=>h
  | (n,k) :: r,cs,p,h=>by
    unfold clOf
    refine clOf_grows r _ ?_
    split
    · exact .tail _ h
    · exact h
theorem clOf_has {env : Env} : ∀ (l : List (Str×NameKind)) (cs : List (Str×Addr)) {x : Str},(x,NameKind.free)∈l→(x,(env.cells.lookup x).getD 0)∈clOf env l cs
  | (n,k) :: r,cs,x,h=>by
    unfold clOf
    rcases List.mem_cons.mp h with e | h
    · cases e
      refine clOf_grows r _ ?_
      rw [if_pos (by decide)]
      exact .head _
    · exact clOf_has r _ h
theorem lookup_of_mem {α : Type} : ∀ {l : List (Str×α)} {x : Str} {v : α},(x,v)∈l→∃ u,l.lookup x=some u
  | (n,k) :: r,x,v,h=>by
    by_cases e : x=n
    · exact ⟨k,by rw [List.lookup_cons,e]; simp⟩
    · rcases List.mem_cons.mp h with z | z
      · cases z; exact absurd rfl e
      · obtain ⟨u,hu⟩:=lookup_of_mem z
        exact ⟨u,by rw [List.lookup_cons]; rw [show (x == n)=false from by simpa using e]; exact hu⟩
def cxComp (X : Cx) (N' : List Str) (scope : Scope) (C : Addr) (s : Shared) (H : Hp) (fp : List Addr) : Cx where
  prog:=X.prog
  w:=X.w
  K:=X.K
  mg:=X.mg
  base:=X.base
  A:=X.A
  N:=N'
  s₀:=s
  H₀:=H
  env:=compEnvC scope (clOf X.env scope.names []) C X.env
  outer:=X.stack
  stack:=X.stack
  ex:=fp
  fn:=fun _=>false
  calm:=true
  pn:=[]
  xe:=fun _ _=>False
structure CompScope (X : Cx) (N' : List Str) (ix : List (Option Nat)) (scope : Scope) : Prop where
  kind : scope.kind = .function
  nocell : ∀ y∈scope.names,y.2≠.cell
  loc : ∀ y∈scope.names,y.2 = .local→scope.names.lookup y.1=some .local
  nd : N'.Nodup
  len : ix.length=N'.length
  free : ∀ y∈scope.names,y.2 = .free→X.env.kindOf y.1=some .cell
  out : ∀ (k j : Nat) (x : Str),N'[k]? = some x→ix[k]? = some (some j)→X.N[j]? = some x∧(x,NameKind.free)∈scope.names∧(relabel scope X.env).names.lookup x=some .cell
def compSt (ix : List (Option Nat)) (σ : St) : St:=ix.map fun o=>o.bind fun j=>(σ[j]?).join
theorem relabel_back {scope : Scope} {env : Env} {x : Str} {k : NameKind} (hc : ∀ y∈scope.names,y.2≠.cell) (h : (relabel scope env).names.lookup x=some k) (hk : k = .cell∨k = .free) : (x,NameKind.free)∈scope.names:=by
  have m:=PySem.mem_of_lookup h
  unfold relabel at m
  obtain ⟨⟨n,k0⟩,h1,h2⟩:=List.mem_map.mp m
  dsimp only at h2
  split at h2
  · rename_i q
    cases h2
    have : k0 = .free:=by
      simp only [Bool.and_eq_true,beq_iff_eq] at q
      exact q.1.1
    rw [this] at h1
    exact h1
  · cases h2
    rcases hk with rfl | rfl
    · exact absurd rfl (hc _ h1)
    · exact h1
section
variable {X : Cx} {N' : List Str} {ix : List (Option Nat)} {scope : Scope}
theorem cl_cells {pins : List (Addr×Obj)} {σ : St} {H : Hp} {s : Shared} (I : Inv X pins σ H s) (S : CompScope X N' ix scope) {x : Str} {c : Addr} (h : (clOf X.env scope.names []).lookup x=some c) : X.env.cells.lookup x=some c:=by
  rcases mem_clOf _ _ (PySem.mem_of_lookup h) with z | ⟨z1,z2⟩
  · cases z
  · obtain ⟨c',hc⟩:=I.ok.has x (.inl (S.free _ z1 rfl))
    dsimp only at z2
    rw [hc] at z2
    rw [hc,z2]
    rfl
theorem inv_comp {pins : List (Addr×Obj)} {σ : St} {H : Hp} {s : Shared} {h' : Heap} {tk : Nat} {fp : List Addr} (I : Inv X pins σ H s) (hcalm : X.calm=true) (S : CompScope X N' ix scope) (hf : ∀ b∈fp,FpOk X pins H b) (hlt : ∀ b∈fp,b < s.heap.objs.size)
    (hns : h'.Ns s.heap.objs.size (fun _=>none)) (hk : ∀ b o,s.heap.get? b=some o→h'.get? b=some o) : Inv (cxComp X N' scope s.heap.objs.size s H fp) [] (compSt ix σ) H { s with heap:=h',toks:=tk }:=by
  have noL : H s.heap.objs.size=none:=I.hok.fresh (Nat.le_refl _)
  refine ⟨⟨I.ok.mod,S.kind,I.ok.glob,I.ok.blt,Nat.le_refl _,fun x y c h1 h2=>I.ok.inj x y c (cl_cells I S h1) (cl_cells I S h2),fun x hx=>?_,(fun x c z=>nomatch z),fun _=>I.ok.hd hcalm,I.ok.frames,.inl rfl,fun b hb=>⟨Nat.ne_of_lt (hlt b hb),fun x c h=>?_⟩,I.bs,Nat.le_trans I.ok.bsz I.sz,fun b o q hb=>?_,fun b hb=>?_,I.stack,I.stkFree⟩,
    rfl,I.bare,Un.kept hk,⟨_,hns,fun k x v h1 h2 h3=>?_⟩,fun x c h=>?_,noL,fun x c h=>I.freeC x c (cl_cells I S h),(fun p hp=>absurd (show p∈([] : List (Addr×Obj)) from hp) (by simp)),I.hok.kept hk,?_⟩
  · have hx' : (relabel scope X.env).names.lookup x=some .cell∨(relabel scope X.env).names.lookup x=some .free:=hx
    have m : (x,NameKind.free)∈scope.names:=by
      rcases hx' with z | z
      · exact relabel_back S.nocell z (.inl rfl)
      · exact relabel_back S.nocell z (.inr rfl)
    exact lookup_of_mem (clOf_has (env:=X.env) scope.names [] m)
  · exact (hf b hb).2.2.2.2.1 x c (cl_cells I S h)
  · rcases (hf b hb).2.2.2.1 with z | z
    · exact I.ok.noex b o q z
    · exact absurd (Nat.lt_of_lt_of_le (Heap.lt_size (I.ok.bs b o q).1) z) (Nat.lt_irrefl _)
  · intro z
    rcases List.mem_cons.mp (I.stkSub b z) with e | e
    · exact (hf b hb).2.1 e
    · exact (hf b hb).2.2.1 e
  · have e2 : (compSt ix σ)[k]? = some (some v):=h2
    unfold compSt at e2
    rw [List.getElem?_map] at e2
    cases e3 : ix[k]? with
    | none=>rw [e3] at e2; cases e2
    | some o=>
      rw [e3] at e2
      cases o with
      | none=>cases e2
      | some j=>
        obtain ⟨n1,n2,n3⟩:=S.out k j x h1 e3
        have e4 : σ[j]? = some (some v):=by
          have : (σ[j]?).join=some v:=Option.some.inj e2
          cases e5 : σ[j]? with
          | none=>rw [e5] at this; cases this
          | some w=>rw [e5] at this; exact congrArg some this
        have kc:=S.free _ n2 rfl
        obtain ⟨m,hn,hl⟩:=I.loc
        obtain ⟨u,r,l⟩:=hl j x v n1 e4 (.inr (.inl kc))
        refine ⟨u,r,?_⟩
        rcases l with ⟨z,_⟩ | ⟨_,c,hc,hcell⟩
        · dsimp only at kc
          rw [kc] at z; cases z
        · obtain ⟨c',hc'⟩:=lookup_of_mem (clOf_has (env:=X.env) scope.names [] n2)
          have ec:=cl_cells I S hc'
          rw [hc] at ec
          cases ec
          exact .inr ⟨.inl n3,c,hc',hcell.keeps hk⟩
  · obtain ⟨v,q⟩:=I.cell x c (cl_cells I S h)
    exact ⟨v,q.keeps hk⟩
  · unfold compSt
    rw [List.length_map]
    exact S.len
end
end L2
namespace L2
open PySem PySem.Spec PyProof.Rows
def PIfs (X : Cx) (ifs : List Expr) (t : TT) : Prop:=
  ∀ (pins : List (Addr×Obj)) (s : Shared) (σ : St) (H : Hp) (Q : Bool→Hp→Prop),Inv X pins σ H s→t σ H Q→
    wpAny (model X.prog X.w) X.A (forIn ifs true fun c r=>if r=true then do let ok ← isTrue c X.env (eval c X.env); pure (ForInStep.yield ok) else pure (ForInStep.yield r)) (TP X pins σ Q) X.xe s
def tIf0 : TT:=fun _ H Q=>Q true H
theorem pifs_nil {X : Cx} : PIfs X [] tIf0:=fun pins s σ H Q I h=>wpAny_pure ⟨H,I,h⟩
def tComp (ix : List (Option Nat)) (wi : TI) (g : TG) (ti : TT) (te : TE) : TE:=fun σ H Q=>wi σ H fun J H1=>∀ D,H1 D=none→∃ W : Nat→Nat→Hp→Prop,(∃ m,W 0 m (upd H1 D (.lst [])))∧∀ i m H,W i m H→
  (J.stop i H∧Q (.ref D) H)∨(J.go i H∧∀ x H',J.yld i H x H'→g x (compSt ix σ) H' fun σ2 H2=>(∀ (k : Nat) v,(compSt ix σ)[k]? = some (some v)→σ2[k]? = some (some v))∧ti σ2 H2 fun b H3=>
    if b=true then te σ2 H3 fun y H4=>∃ zs,H4 D=some (.lst zs)∧zs.length < sizeLine∧∃ m',m' < m∧W (i + 1) m' (upd H4 D (.lst (zs ++ [y]))) else ∃ m',m' < m∧W (i + 1) m' H3)
section
variable {X : Cx} {N' : List Str} {ix : List (Option Nat)} {scope : Scope} {elt tg iter : Expr} {ifs : List Expr} {pos : Pos} {wi : TI} {g : TG} {ti : TT} {te : TE}
def CompEnd (X : Cx) (pins : List (Addr×Obj)) (σ : St) (Q : VK) (acc : Value) (C : Addr) (r : Result) (s' : Shared) : Prop:=
  ∃ D H',acc = .ref D∧(∃ f,r = .ok f)∧Inv X pins σ H' s'∧FpOk X pins H' C∧(∃ m,s'.heap.Ns C m)∧Q (.ref D) H'
theorem comp_loop {X' : Cx} {σ₀ : St} {H : Hp} {s : Shared} {Q : VK} {it D : Addr} {fp : List Addr} {tn : Nat→Heap→Prop} {J : It} {W : Nat→Nat→Hp→Prop} {m0 : Nat} (I : Inv X' [] σ₀ H s) (hcalm : X'.calm=true) (hxe : X'.xe=fun _ _=>False)
    (T : Turn X'.prog X'.w X'.K tg J fp it tn) (st : tn 0 s.heap) (hf : ∀ b∈fp,FpOk X' [] H b) (hg : PG X' tg g) (hi : PIfs X' ifs ti) (he : PE X' elt te) (w0 : W 0 m0 H)
    (turn : ∀ i m H,W i m H→(J.stop i H∧Q (.ref D) H)∨(J.go i H∧∀ x H',J.yld i H x H'→g x σ₀ H' fun σ2 H2=>(∀ (k : Nat) v,σ₀[k]? = some (some v)→σ2[k]? = some (some v))∧ti σ2 H2 fun b H3=>
        if b=true then te σ2 H3 fun y H4=>∃ zs,H4 D=some (.lst zs)∧zs.length < sizeLine∧∃ m',m' < m∧W (i + 1) m' (upd H4 D (.lst (zs ++ [y]))) else ∃ m',m' < m∧W (i + 1) m' H3)) :
    codeAny (model X'.prog X'.w) X'.A (.compStart (.ListComp elt [⟨tg,iter,ifs,0⟩] scope pos) 0 (.ref it) (.ref D) X'.env) (fun r s'=>(∃ f,r = .ok f)∧∃ H',Inv X' [] σ₀ H' s'∧Q (.ref D) H') s:=by
  have stat : ∀ {H' : Hp},(∀ b∈fp,H' b=none)→∀ b∈fp,FpOk X' [] H' b:=fun hn b hb=>⟨hn b hb,(hf b hb).2⟩
  have loop : codeAny (model X'.prog X'.w) X'.A (.compLoop (.ListComp elt [⟨tg,iter,ifs,0⟩] scope pos) 0 (.ref it) (.ref D) X'.env) (fun r s'=>(∃ f,r = .ok f)∧∃ H',Inv X' [] σ₀ H' s'∧Q (.ref D) H') s:=by
    refine codeAny_loop rfl (fun n s'=>∃ i H',Inv X' [] σ₀ H' s'∧tn i s'.heap∧(∀ b∈fp,H' b=none)∧W i n H') ?_ m0 ⟨0,H,I,st,fun b hb=>(hf b hb).1,w0⟩
    rintro n s1 ⟨i,H1,I1,st1,fr1,w1⟩
    show wpAny _ X'.A ((compTurn (.ListComp elt [⟨tg,iter,ifs,0⟩] scope pos) 0 (.ref it) (.ref D) X'.env).onRaise (fun x=>do noteFrame x X'.env; theTreesLotGoes x)) _ _ s1
    refine wpAny_noted ?_
    have noE : ∀ {α : Type} {t : Sem α} {P : α→Shared→Prop} {F : Value→Shared→Prop} {s : Shared},wpAny (model X'.prog X'.w) X'.A t P X'.xe s→wpAny (model X'.prog X'.w) X'.A t P F s:=fun h=>wpAny_mono h (fun _ _ x=>x) fun e s' x=>by rw [hxe] at x; exact x.elim
    rw [compTurn_list]
    refine wpAny_bind (wpAny_standAt (wpAny_bind ?_))
    rcases turn i n H1 w1 with ⟨stop,qn⟩ | ⟨go,step⟩
    · refine thn (T.done X' rfl rfl rfl hcalm i [] s1 σ₀ H1 _ I1 (stat fr1) st1 stop) fun r s2 ⟨hr,I2⟩=>?_
      subst hr
      exact wpAny_pure ⟨⟨_,rfl⟩,H1,I2,qn⟩
    · refine thn (T.item X' rfl rfl rfl hcalm i [] s1 σ₀ H1 _ I1 (stat fr1) st1 go) fun r s2 ⟨u,hr,h2⟩=>?_
      subst hr
      refine wpAny_bind (thn h2 fun _ s3 ⟨x,H3,I3,r3,y3,st3,fr3⟩=>?_)
      have I3':=I3.pinned (stat fr3) (T.obj _ _ st3)
      refine wpAny_bind (noE (thn (hg _ s3 σ₀ H3 x u _ I3' r3 (step x H3 y3)) fun _ s4 ⟨σ4,H4,I4,hk4,q4⟩=>?_))
      refine wpAny_bind (noE (thn (hi _ s4 σ4 H4 _ I4 q4) fun ok s5 ⟨H5,I5,q5⟩=>?_))
      have again' : ∀ {s7 : Shared} {H7 : Hp} {m' : Nat},Inv X' ([] ++ pinsAt fp s3.heap) σ4 H7 s7→m' < n→W (i + 1) m' H7→∃ m,m < n∧∃ i H',Inv X' [] σ₀ H' s7∧tn i s7.heap∧(∀ b∈fp,H' b=none)∧W i m H':=fun {s7 H7 m'} I7 hm w7=>by
        refine ⟨m',hm,i + 1,H7,I7.unpinned.weak (by rw [I3.len,I7.len]) hk4,T.keep _ _ _ st3 fun b hb o e=>(I7.pin (b,o) (List.mem_append_right _ (List.mem_append_right _ (mem_pinsAt hb e)))).1,fun b hb=>?_,w7⟩
        obtain ⟨o,e,d⟩:=T.obj _ _ st3 b hb
        exact (I7.pin (b,o) (List.mem_append_right _ (List.mem_append_right _ (mem_pinsAt hb e)))).2.1
      cases ok with
      | false=>
        obtain ⟨m',hm,w7⟩:=q5
        exact wpAny_pure ⟨rfl,again' I5 hm w7⟩
      | true=>
        refine wpAny_bind (wpAny_bind (noE (thn (he _ s5 σ4 H5 _ I5 q5) fun y s6 ⟨yv,H6,I6,r6,zs,hD,hz,m',hm,w7⟩=>?_)))
        refine wpAny_bind (noE (thn (mt_append (X:=X') _ s6 σ4 H6 (.ref D) [yv] (.ref D) [y] (fun v H7=>H7=upd H6 D (.lst (zs ++ [yv]))) I6 rfl (.cons r6 .nil) ⟨D,zs,yv,rfl,rfl,hD,hz,rfl⟩) fun v s7 ⟨vv,H7,I7,_,e7⟩=>?_))
        subst e7
        exact wpAny_pure (wpAny_pure ⟨rfl,again' I7 hm w7⟩)
  refine codeAny_compStart_list loop (T.self _ 0 s _ _ st loop)
theorem comp_block {pins : List (Addr×Obj)} {σ : St} {H : Hp} {s : Shared} {Q : VK} {it : Addr} {fp : List Addr} {tn : Nat→Heap→Prop} {J : It} {E : Value→Shared→Prop} (I : Inv X pins σ H s) (hcalm : X.calm=true) (S : CompScope X N' ix scope)
    (T : Turn X.prog X.w X.K tg J fp it tn) (st : tn 0 s.heap) (hf : ∀ b∈fp,FpOk X pins H b)
    (hg : ∀ C s H fp,PG (cxComp X N' scope C s H fp) tg g) (hi : ∀ C s H fp,PIfs (cxComp X N' scope C s H fp) ifs ti) (he : ∀ C s H fp,PE (cxComp X N' scope C s H fp) elt te)
    (h : ∀ D,H D=none→∃ W : Nat→Nat→Hp→Prop,(∃ m,W 0 m (upd H D (.lst [])))∧∀ i m H,W i m H→
      (J.stop i H∧Q (.ref D) H)∨(J.go i H∧∀ x H',J.yld i H x H'→g x (compSt ix σ) H' fun σ2 H2=>(∀ (k : Nat) v,(compSt ix σ)[k]? = some (some v)→σ2[k]? = some (some v))∧ti σ2 H2 fun b H3=>
        if b=true then te σ2 H3 fun y H4=>∃ zs,H4 D=some (.lst zs)∧zs.length < sizeLine∧∃ m',m' < m∧W (i + 1) m' (upd H4 D (.lst (zs ++ [y]))) else ∃ m',m' < m∧W (i + 1) m' H3)) :
    wpAny (model X.prog X.w) X.A (newList []) (fun acc s3=>wpAny (model X.prog X.w) X.A (newFunctionEnv scope X.env.globals (clOf X.env scope.names []) [] X.env.qual none .none (some X.env)) (fun cenv s4=>
      codeAny (model X.prog X.w) X.A (.compStart (.ListComp elt [⟨tg,iter,ifs,0⟩] scope pos) 0 (.ref it) acc { cenv with scope:=relabel scope X.env }) (CompEnd X pins σ Q acc cenv.locals) s4) E s3) E s:=by
  refine wpAny_newList ?_
  have fresh0 : H s.heap.objs.size=none:=I.hok.fresh (Nat.le_refl _)
  have I3 : Inv X pins σ (upd H s.heap.objs.size (.lst [])) { s with heap:=s.heap.push { cls:=.type "list",data:=.seq ([] : List Value).toArray } } :=
    I.laid (t':=s.toks) (fun b u e=>Heap.get?_push_of_some _ e) (Nat.le_refl _) ⟨by show 0≤sizeLine; exact Nat.zero_le _,[],0,.nil,Heap.get?_push_size _ rfl⟩
  obtain ⟨W,⟨m0,w0⟩,turn⟩:=h s.heap.objs.size fresh0
  generalize hD : s.heap.objs.size=D at *
  have lt0 : ∀ b∈fp,b < s.heap.objs.size:=fun b hb=>by obtain ⟨o,e,_⟩:=T.obj 0 _ st b hb; exact Heap.lt_size e
  have hf3 : ∀ b∈fp,FpOk X pins (upd H D (.lst [])) b:=fun b hb=>by
    have nb : b≠D:=by rw [← hD]; exact Nat.ne_of_lt (lt0 b hb)
    obtain ⟨f0,fr⟩:=hf b hb
    exact ⟨by rw [upd_ne nb]; exact f0,fr⟩
  have st3 : tn 0 (s.heap.push { cls:=.type "list",data:=.seq ([] : List Value).toArray }):=T.keep _ _ _ st fun b hb o e=>Heap.get?_push_of_some _ e
  revert I3 st3
  generalize (s.heap.push { cls:=.type "list",data:=.seq ([] : List Value).toArray })=h3
  intro I3 st3
  have lt3 : ∀ b∈fp,b < h3.objs.size:=fun b hb=>by obtain ⟨o,e,_⟩:=T.obj 0 _ st3 b hb; exact Heap.lt_size e
  refine wpAny_newFunctionEnv S.nocell (fun x hx=>nomatch hx) (fun h4 hns hsb=>?_) S.kind
  have k4 : ∀ b o,h3.get? b=some o→h4.get? b=some o:=fun b o e=>(hsb.2 b (Nat.ne_of_lt (Heap.lt_size e))).trans (Heap.get?_push_of_some _ e)
  have J4 : Inv (cxComp X N' scope h3.objs.size { s with heap:=h3 } (upd H D (.lst [])) fp) [] (compSt ix σ) (upd H D (.lst [])) { s with heap:=h4,toks:=s.toks + ([] : List (Str×Value)).length }:=
    inv_comp (s:={ s with heap:=h3 }) (tk:=s.toks + ([] : List (Str×Value)).length) I3 hcalm S hf3 lt3 hns k4
  have st4 : tn 0 ({ s with heap:=h4,toks:=s.toks + ([] : List (Str×Value)).length } : Shared).heap:=T.keep _ _ _ st3 fun b hb o e=>k4 b o e
  have fr4 : ∀ b∈fp,upd H D (.lst []) b=none:=fun b hb=>(hf3 b hb).1
  revert J4 st4
  generalize ({ s with heap:=h4,toks:=s.toks + ([] : List (Str×Value)).length } : Shared)=s4
  intro J4 st4
  have hf4 : ∀ b∈fp,FpOk (cxComp X N' scope h3.objs.size { s with heap:=h3 } (upd H D (.lst [])) fp) [] (upd H D (.lst [])) b:=fun b hb=>
    ⟨fr4 b hb,Nat.ne_of_lt (lt3 b hb),J4.ok.exfs b hb,.inl hb,fun x c e=>(J4.ok.exf b hb).2 x c e,fun p hp=>nomatch hp⟩
  refine codeAny_mono (comp_loop (X':=cxComp X N' scope h3.objs.size { s with heap:=h3 } (upd H D (.lst [])) fp) (Q:=Q) (D:=D) J4 rfl rfl T st4 hf4 (hg _ _ _ _) (hi _ _ _ _) (he _ _ _ _) w0 turn) fun r s' ⟨hr,H',J',q'⟩=>?_
  refine ⟨D,H',rfl,hr,I3.call' J'.os J'.base J'.hok J'.bare fun b hb=>?_,?_,?_,q'⟩
  · obtain ⟨_,f1,_,f3,f4,f5⟩:=hf3 b hb
    exact ⟨f3,f1,f4,f5⟩
  · exact I3.fpOk (H':=H') (Nat.le_refl _) J'.free
  · obtain ⟨m,hn,_⟩:=J'.loc
    exact ⟨m,hn⟩
end
end L2
namespace L2
open PySem PySem.Spec PyProof.Rows
section
variable {X : Cx} {N' : List Str} {ix : List (Option Nat)} {scope : Scope} {elt tg iter : Expr} {ifs : List Expr} {pos : Pos} {wi : TI} {g : TG} {ti : TT} {te : TE}
theorem comp_closure {pins : List (Addr×Obj)} {σ : St} {H : Hp} {s : Shared} (I : Inv X pins σ H s) (S : CompScope X N' ix scope) : closureFor scope X.env=pure (clOf X.env scope.names []):=
  closureFor_cl fun y hy e=>I.ok.has y.1 (.inl (S.free y hy e))
theorem pe_comp (hcalm : X.calm=true) (S : CompScope X N' ix scope) (hit : PI X tg iter wi)
    (hg : ∀ C s H fp,PG (cxComp X N' scope C s H fp) tg g) (hi : ∀ C s H fp,PIfs (cxComp X N' scope C s H fp) ifs ti) (he : ∀ C s H fp,PE (cxComp X N' scope C s H fp) elt te)
    (hs : ∀ x,foldedSetIterable iter X.env x=pure x:=by intro _; rfl) : PE X (.ListComp elt [⟨tg,iter,ifs,0⟩] scope pos) (tComp ix wi g ti te):=by
  intro pins s σ H Q I h
  rw [eval_ListComp]
  refine wpAny_comprehension_free (use:=none) rfl hs (comp_closure I S) S.kind S.loc (thn (hit pins s σ H _ I h) fun v s1 h1=>thn h1 fun itv s2 h2=>?_)
  obtain ⟨it,fp,tn,J,H2,rfl,I2,T,st2,f2,q2⟩:=h2
  refine thn (comp_block (E:=X.xe) (elt:=elt) (iter:=iter) (pos:=pos) I2 hcalm S T st2 f2 hg hi he q2) fun acc s3 h3=>thn h3 fun cenv s4 h4=>codeAny_mono h4 fun r s' hr=>?_
  obtain ⟨D,H',rfl,⟨f,rfl⟩,I',⟨g0,g1,_,g3,g4,g5⟩,⟨m,hm⟩,q'⟩:=hr
  exact ⟨m,hm,fun h' hsb=>⟨.ref D,H',I'.turned (t':=s'.toks) (fun b o hb e=>(hsb.2 b hb).trans e) g0 g1 g3 g4 g5,rfl,q'⟩⟩
theorem ps_setComp {i : Nat} {y : Str} {py spos : Pos} (hN : X.N.Nodup) (hy : X.N[i]? = some y) (hly : Loc X.env.scope y) (hcalm : X.calm=true) (S : CompScope X N' ix scope) (hit : PI X tg iter wi)
    (hg : ∀ C s H fp,PG (cxComp X N' scope C s H fp) tg g) (hi : ∀ C s H fp,PIfs (cxComp X N' scope C s H fp) ifs ti) (he : ∀ C s H fp,PE (cxComp X N' scope C s H fp) elt te)
    (hsw : swapsWith (.ListComp elt [⟨tg,iter,ifs,0⟩] scope pos) (some (.Name y py)) spos.line X.env=pure true:=by rfl) (hs : ∀ x,foldedSetIterable iter X.env x=pure x:=by intro _; rfl)
    (hf : X.fn y=true∨X.env.scope.names.lookup y=some .local:=by first | exact .inl rfl | exact .inr rfl | assumption) :
    PS X (.Assign [.Name y py] (.ListComp elt [⟨tg,iter,ifs,0⟩] scope pos) spos) (tAsg (tComp ix wi g ti te) (gName i)):=by
  intro pins s σ H D I h
  rw [exec_Assign_Name_used _ _ _ _ hsw]
  refine wpAny_bind (wpAny_standAt (wpAny_bind ?_))
  show wpAny _ X.A (do let _ ← comprehension (.ListComp elt [⟨tg,iter,ifs,0⟩] scope pos) scope X.env _ (newList []) false (eval iter X.env) (some (assign (.Name y py) X.env))) _ _ s
  refine wpAny_bind (thn (wpAny_comprehension_free (use:=some (assign (.Name y py) X.env)) (Q:=fun _ s'=>SP X pins D .next s') rfl hs (comp_closure I S) S.kind S.loc (thn (hit pins s σ H _ I h) fun v s1 h1=>thn h1 fun itv s2 h2=>?_)) fun _ s' hq=>wpAny_pure (wpAny_pure hq))
  obtain ⟨it,fp,tn,J,H2,rfl,I2,T,st2,f2,q2⟩:=h2
  refine thn (comp_block (E:=X.xe) (Q:=fun x H1=>gName i x σ H1 D.nx) (elt:=elt) (iter:=iter) (pos:=pos) I2 hcalm S T st2 f2 hg hi he q2) fun acc s3 h3=>thn h3 fun cenv s4 h4=>codeAny_mono h4 fun r s' hr=>?_
  obtain ⟨A,H',rfl,⟨f,rfl⟩,I',⟨g0,g1,g2,g3,g4,g5⟩,⟨m,hm⟩,q'⟩:=hr
  show wpAny _ X.A (assign (.Name y py) X.env (.ref A)) _ _ _
  refine wpAny_assign_Name (store_ok2 I' hN hy hly (v:=.ref A) rfl (fun s5 I5 ⟨a,hsb,ha⟩=>?_) hf)
  have na : cenv.locals≠a:=by
    rcases ha with z | z
    · rw [z]; exact g1
    · exact (g4 y a z).symm
  exact ⟨m,hm.sameBut hsb na,fun h' hsb'=>⟨_,H',I5.turned (t':=s5.toks) (fun b o hb e=>(hsb'.2 b hb).trans e) g0 g1 g3 g4 g5,q'⟩⟩
end
end L2
namespace L2
open PySem PySem.Spec PyProof.Rows PySem.Builtin.SmallTypes
def SqI (h : Heap) (b : Bool) (it a : Addr) (k : Nat) : Prop:=match b with
  | true=>h.IsListIter it a k
  | false=>h.IsTupleIter it a k
def SqH (h : Heap) (b : Bool) (a : Addr) (its : Array Value) : Prop:=match b with
  | true=>h.IsList a its
  | false=>h.IsTuple a its
theorem SqI.ext {h h' : Heap} {b : Bool} {it a c : Addr} {k : Nat} (x : SqI h b it a k) (e : Heap.ExtBut c h h') (n : it≠c) : SqI h' b it a k:=by
  cases b with
  | true=>exact Heap.IsListIter.at (h:=h) x fun o q=>e it o n q
  | false=>exact Heap.IsTupleIter.at (h:=h) x fun o q=>e it o n q
theorem SqI.keep {h h' : Heap} {b : Bool} {it a : Addr} {k : Nat} (x : SqI h b it a k) (e : ∀ o,h.get? it=some o→h'.get? it=some o) : SqI h' b it a k:=by
  cases b with
  | true=>exact Heap.IsListIter.at (h:=h) x e
  | false=>exact Heap.IsTupleIter.at (h:=h) x e
theorem SqH.ext {h h' : Heap} {b : Bool} {a c : Addr} {its : Array Value} (x : SqH h b a its) (e : Heap.ExtBut c h h') (n : a≠c) : SqH h' b a its:=by
  cases b with
  | true=>exact Heap.IsList.at (h:=h) x fun o q=>e a o n q
  | false=>
    obtain ⟨o,h1,h2⟩:=(show h.IsTuple a its from x)
    exact (show h'.IsTuple a its from ⟨o,e a o n h1,h2⟩)
theorem SqI.obj {h : Heap} {b : Bool} {it a : Addr} {k : Nat} (x : SqI h b it a k) : ∃ o,h.get? it=some o∧∃ vs,o.data = .fields vs:=by
  cases b with
  | true=>obtain ⟨o,h1,_,h3⟩:=(show h.IsListIter it a k from x); exact ⟨o,h1,_,h3⟩
  | false=>obtain ⟨o,h1,_,h3⟩:=(show h.IsTupleIter it a k from x); exact ⟨o,h1,_,h3⟩
section
variable {prog : Program} {w : World} {A : Around} {E : Value→Shared→Prop} {s : Shared}
theorem tupIt_next {it t : Addr} {i : Nat} {its : Array Value} {x : Value} {Q : Value→Shared→Prop} (hi : s.heap.IsTupleIter it t i) (ht : s.heap.IsTuple t its) (hx : its[i]? = some x)
    (hq : ∀ h',h'.IsTupleIter it t (i + 1)→Heap.SameBut it s.heap h'→Q x { s with heap:=h' }) : wpAny (model prog w) A (nextOf (.ref it)) Q E s:=by
  obtain ⟨oi,e1,ec,ed⟩:=id hi
  obtain ⟨ot,e2,_,nt,et⟩:=ht
  (unfold nextOf; refine wpAny_bind (wpAny_callSpecial?_slot (name:=Str.ofString "__next__") hi.typeIs F.slot_tuple_iterator_next (wpAny_call_entry F.slot_tuple_iterator_next hi.typeIs F.entry_tuple_iterator_next ?_ (F.args_tuple_iterator_next_1 _))))
  (show wpAny _ _ (field (.ref it) 0 >>= _) _ _ s; refine wpAny_bind (wpAny_field e1 ed (x:=.ref t) rfl ?_))
  (show wpAny _ _ (if (Value.ref t == Value.none)=true then _ else _) _ _ s; rw [if_neg (show ¬ ((Value.ref t == Value.none)=true) from Bool.false_ne_true)])
  (show wpAny _ _ (field (.ref it) 1 >>= _) _ _ s; refine wpAny_bind (wpAny_field e1 ed (x:=.int i 0) rfl ?_))
  (show wpAny _ _ (seqItems? (.ref t) >>= _) _ _ s; refine wpAny_bind (wpAny_seqItems e2 et ?_))
  simp only [Int.toNat_natCast,hx]
  refine wpAny_bind (wpAny_setField e1 ed (by simp) (wpAny_pure ⟨x,rfl,wpAny_pure (hq _ ?_ (Heap.SameBut.update ..))⟩))
  exact ⟨_,Heap.get?_update_self _ e1 (Obj.isFreed_of_fields (Obj.data_mapFields ed _)),(Obj.cls_mapFields ..).trans ec,by rw [Obj.data_mapFields ed]; simp [rawInt]⟩
theorem tupIt_end {it t : Addr} {i : Nat} {its : Array Value} {Q : Value→Shared→Prop} (hh : A.handled=none) (hi : s.heap.IsTupleIter it t i) (ht : s.heap.IsTuple t its) (hx : its[i]? = none)
    (hE : ∀ h' e,Heap.ExtBut it s.heap h'→(∃ o,h'.get? e=some o∧o.cls = .type "StopIteration")→E (.ref e) { s with heap:=h' }) : wpAny (model prog w) A (nextOf (.ref it)) Q E s:=by
  obtain ⟨oi,e1,ec,ed⟩:=id hi
  obtain ⟨ot,e2,_,nt,et⟩:=ht
  (unfold nextOf; refine wpAny_bind (wpAny_callSpecial?_slot (name:=Str.ofString "__next__") hi.typeIs F.slot_tuple_iterator_next (wpAny_call_entry F.slot_tuple_iterator_next hi.typeIs F.entry_tuple_iterator_next ?_ (F.args_tuple_iterator_next_1 _))))
  (show wpAny _ _ (field (.ref it) 0 >>= _) _ _ s; refine wpAny_bind (wpAny_field e1 ed (x:=.ref t) rfl ?_))
  (show wpAny _ _ (if (Value.ref t == Value.none)=true then _ else _) _ _ s; rw [if_neg (show ¬ ((Value.ref t == Value.none)=true) from Bool.false_ne_true)])
  (show wpAny _ _ (field (.ref it) 1 >>= _) _ _ s; refine wpAny_bind (wpAny_field e1 ed (x:=.int i 0) rfl ?_))
  (show wpAny _ _ (seqItems? (.ref t) >>= _) _ _ s; refine wpAny_bind (wpAny_seqItems e2 et ?_))
  simp only [Int.toNat_natCast,hx]
  refine wpAny_bind (wpAny_rule (wpAny_bind (wpAny_setField e1 ed (by simp) ?_)))
  (show wpAny _ _ (newExc (.type "StopIteration") [] >>= _) _ _ _; refine wpAny_bind ?_)
  (simp only [newExc,newTuple]; refine wpAny_bind (wpAny_newObj_type ?_ (by size_fits)))
  refine wpAny_bind (m:=firstArgMember _ _) (wpAny_of_eq (a:=Value.none) (by rfl) ?_)
  refine wpAny_newObj_type ?_ (by size_fits)
  (simp only [raiseNew]; refine wpAny_bind (wpAny_handled ?_))
  rw [show A.in1.handled=none from hh]
  refine wpAny_bind (wpAny_pure (wpAny_throw ?_))
  exact hE _ _ (((Heap.SameBut.update ..).extBut.push _).push _) ⟨_,Heap.get?_push_size _ rfl,rfl⟩
theorem sq_next {b : Bool} {it a : Addr} {i : Nat} {its : Array Value} {x : Value} {Q : Value→Shared→Prop} (hi : SqI s.heap b it a i) (ha : SqH s.heap b a its) (hx : its[i]? = some x)
    (hq : ∀ h',SqI h' b it a (i + 1)→Heap.SameBut it s.heap h'→Q x { s with heap:=h' }) : wpAny (model prog w) A (nextOf (.ref it)) Q E s:=by
  cases b with
  | true=>exact wpAny_nextOf_list_item hi ha hx hq
  | false=>exact tupIt_next hi ha hx hq
theorem sq_end {b : Bool} {it a : Addr} {i : Nat} {its : Array Value} {Q : Value→Shared→Prop} (hh : A.handled=none) (hi : SqI s.heap b it a i) (ha : SqH s.heap b a its) (hx : its[i]? = none)
    (hE : ∀ h' e,Heap.ExtBut it s.heap h'→(∃ o,h'.get? e=some o∧o.cls = .type "StopIteration")→E (.ref e) { s with heap:=h' }) : wpAny (model prog w) A (nextOf (.ref it)) Q E s:=by
  cases b with
  | true=>exact wpAny_nextOf_list_end hh hi ha hx hE
  | false=>exact tupIt_end hh hi ha hx hE
variable {z TI TO i1 i2 l1 l2 : Addr} {b1 b2 : Bool} {k1 k2 : Nat} {xs ys : Array Value} {x y a b : Value}
theorem zipS_item {Q : Value→Shared→Prop} (D : ZipApart z TI TO i1 i2 l1 l2) (hz : IsZip s.heap z TI TO .none) (hTI : IsPair s.heap TI (.ref i1) (.ref i2)) (hTO : IsPair s.heap TO a b)
    (h1 : SqI s.heap b1 i1 l1 k1) (h2 : SqI s.heap b2 i2 l2 k2) (hl1 : SqH s.heap b1 l1 xs) (hl2 : SqH s.heap b2 l2 ys) (hx : xs[k1]? = some x) (hy : ys[k2]? = some y)
    (hq : ∀ h',IsZip h' z TI TO (rawInt s.heap.objs.size)→IsPair h' TO x y→SqI h' b1 i1 l1 (k1 + 1)→SqI h' b2 i2 l2 (k2 + 1)→IsPair h' s.heap.objs.size x y→h'.objs.size=s.heap.objs.size + 1→
      (∀ c o,c≠z→c≠TO→c≠i1→c≠i2→s.heap.get? c=some o→h'.get? c=some o)→Q (.ref s.heap.objs.size) { s with heap:=h' }) :
    wpAny (model prog w) A (Builtin.«zip.__next__» ⟨[.ref z],[]⟩) (fun fin s'=>∃ v,fin = .done (.ret v)∧Q v s') E s:=by
  (show wpAny _ _ (field (.ref z) 2 >>= _) _ _ _; refine wpAny_bind (wpAny_field hz rfl (x:=.bool false) rfl ?_))
  (show wpAny _ _ (field (.ref z) 3 >>= _) _ _ _; refine wpAny_bind (wpAny_field hz rfl (x:=.ref TI) rfl (wpAny_bind (wpAny_seqItems hTI rfl ?_))))
  (show wpAny _ _ (ownedTupleIsFree (.ref z) >>= _) _ _ _; refine wpAny_bind ?_)
  (unfold ownedTupleIsFree; refine wpAny_bind (wpAny_field hz rfl (x:=.none) rfl (wpAny_pure ?_)))
  (simp only [if_true]; refine wpAny_bind (wpAny_rule (wpAny_bind (wpAny_field hz rfl (x:=.ref TO) rfl ?_))))
  refine wpAny_bind (wpAny_setField_rec hz (by simp) fun g1 z1 s1=>?_)
  replace z1 : IsZip g1 z TI TO .ellipsis:=z1
  (refine wpAny_bind ?_; simp only [List.zipIdx_cons,List.zipIdx_nil,List.forIn_cons,List.forIn_nil])
  (refine wpAny_bind (wpAny_bind (wpAny_onRaise ?_)); show wpAny _ _ (nextOf (.ref i1) >>= _) _ _ _)
  refine wpAny_bind (sq_next (h1.ext s1.extBut D.i1z) (hl1.ext s1.extBut D.l1z) hx fun g2 p2 s2=>wpAny_pure ?_)
  have t2 : IsPair g2 TO a b:=s2.extBut _ _ D.TOi1 (s1.extBut _ _ D.TOz hTO)
  refine wpAny_bind (wpAny_seqItems t2 rfl (wpAny_bind (wpAny_updateSeq_pair t2 fun g3 t3 s3=>?_)))
  replace t3 : IsPair g3 TO x b:=t3
  (refine wpAny_bind (wpAny_letGo (wpAny_pure ?_)); refine wpAny_bind (wpAny_bind (wpAny_onRaise ?_)); show wpAny _ _ (nextOf (.ref i2) >>= _) _ _ _)
  refine wpAny_bind (sq_next (((h2.ext s1.extBut D.i2z).ext s2.extBut D.i12.symm).ext s3.extBut D.TOi2.symm) (((hl2.ext s1.extBut D.l2z).ext s2.extBut D.l2i1).ext s3.extBut D.l2TO) hy fun g4 p4 s4=>wpAny_pure ?_)
  have t4 : IsPair g4 TO x b:=s4.extBut _ _ D.TOi2 t3
  refine wpAny_bind (wpAny_seqItems t4 rfl (wpAny_bind (wpAny_updateSeq_pair t4 fun g5 t5 s5=>?_)))
  replace t5 : IsPair g5 TO x y:=t5
  (refine wpAny_bind (wpAny_letGo (wpAny_pure (wpAny_pure ?_))); refine wpAny_bind (wpAny_seqItems t5 rfl (wpAny_bind (wpAny_newTuple ?_))))
  have ez : g5.objs.size=s.heap.objs.size:=by rw [s5.1,s4.1,s3.1,s2.1,s1.1]
  have z5 : IsZip g5 z TI TO .ellipsis:=s5.extBut _ _ D.TOz.symm (s4.extBut _ _ D.i2z.symm (s3.extBut _ _ D.TOz.symm (s2.extBut _ _ D.i1z.symm z1)))
  have kp : ∀ c o,c≠z→c≠TO→c≠i1→c≠i2→s.heap.get? c=some o→g5.get? c=some o:=fun c o c1 c2 c3 c4 e=>s5.extBut _ _ c2 (s4.extBut _ _ c4 (s3.extBut _ _ c2 (s2.extBut _ _ c3 (s1.extBut _ _ c1 e))))
  have p1 : SqI g5 b1 i1 l1 (k1 + 1):=((p2.ext s3.extBut D.TOi1.symm).ext s4.extBut D.i12).ext s5.extBut D.TOi1.symm
  have p5 : SqI g5 b2 i2 l2 (k2 + 1):=p4.ext s5.extBut D.TOi2.symm
  have q1 : i1 < g5.objs.size:=let ⟨_,e,_⟩:=p1.obj; Heap.lt_size e
  have q2 : i2 < g5.objs.size:=let ⟨_,e,_⟩:=p5.obj; Heap.lt_size e
  (show wpAny _ _ (ownedTupleHandOut (.ref z) (.ref g5.objs.size) >>= _) _ _ _; refine wpAny_bind ?_; unfold ownedTupleHandOut)
  have z6 : IsZip (g5.push { cls:=.type "tuple",data:=.seq #[x,y] }) z TI TO .ellipsis:=Heap.get?_push_of_some _ z5
  refine wpAny_bind (wpAny_setField_rec z6 (by simp) fun g7 z7 s7=>?_)
  replace z7 : IsZip g7 z TI TO (rawInt g5.objs.size):=z7
  refine wpAny_setField_rec z7 (by simp) fun g8 z8 s8=>?_
  replace z8 : IsZip g8 z TI TO (rawInt g5.objs.size):=z8
  have up : ∀ c o,c≠z→g5.get? c=some o→g8.get? c=some o:=fun c o c1 e=>s8.extBut _ _ c1 (s7.extBut _ _ c1 (Heap.get?_push_of_some _ e))
  have nT : g5.objs.size≠z:=Nat.ne_of_gt (Heap.lt_size z5)
  have T8 : IsPair g8 g5.objs.size x y:=s8.extBut _ _ nT (s7.extBut _ _ nT (Heap.get?_push_size _ rfl))
  have e8 : g8.objs.size=g5.objs.size + 1:=by rw [s8.1,s7.1,Heap.size_push]
  refine wpAny_pure ⟨_,rfl,?_⟩
  rw [ez] at z8 T8 e8 ⊢
  exact hq g8 z8 (up _ _ D.TOz t5) (p1.keep fun o e=>up _ o D.i1z e) (p5.keep fun o e=>up _ o D.i2z e) T8 e8 fun c o c1 c2 c3 c4 e=>up c o c1 (kp c o c1 c2 c3 c4 e)
theorem zipS_end {Q : Fin→Shared→Prop} (hh : A.handled=none) (D : ZipApart z TI TO i1 i2 l1 l2) (hz : IsZip s.heap z TI TO .none) (hTI : IsPair s.heap TI (.ref i1) (.ref i2)) (hTO : IsPair s.heap TO a b)
    (h1 : SqI s.heap b1 i1 l1 k1) (h2 : SqI s.heap b2 i2 l2 k2) (hl1 : SqH s.heap b1 l1 xs) (hl2 : SqH s.heap b2 l2 ys) (hend : xs[k1]? = none∨ys[k2]? = none)
    (hE : ∀ h' e,(∀ c o,c≠z→c≠TO→c≠i1→c≠i2→s.heap.get? c=some o→h'.get? c=some o)→(∃ o,h'.get? e=some o∧o.cls = .type "StopIteration")→E (.ref e) { s with heap:=h' }) :
    wpAny (model prog w) A (Builtin.«zip.__next__» ⟨[.ref z],[]⟩) Q E s:=by
  (show wpAny _ _ (field (.ref z) 2 >>= _) _ _ _; refine wpAny_bind (wpAny_field hz rfl (x:=.bool false) rfl ?_))
  (show wpAny _ _ (field (.ref z) 3 >>= _) _ _ _; refine wpAny_bind (wpAny_field hz rfl (x:=.ref TI) rfl (wpAny_bind (wpAny_seqItems hTI rfl ?_))))
  (show wpAny _ _ (ownedTupleIsFree (.ref z) >>= _) _ _ _; refine wpAny_bind ?_)
  (unfold ownedTupleIsFree; refine wpAny_bind (wpAny_field hz rfl (x:=.none) rfl (wpAny_pure ?_)))
  (simp only [if_true]; refine wpAny_bind (wpAny_rule (wpAny_bind (wpAny_field hz rfl (x:=.ref TO) rfl ?_))))
  refine wpAny_bind (wpAny_setField_rec hz (by simp) fun g1 z1 s1=>?_)
  replace z1 : IsZip g1 z TI TO .ellipsis:=z1
  (refine wpAny_bind ?_; simp only [List.zipIdx_cons,List.zipIdx_nil,List.forIn_cons,List.forIn_nil])
  (refine wpAny_bind (wpAny_bind (wpAny_onRaise ?_)); show wpAny _ _ (nextOf (.ref i1) >>= _) _ _ _)
  cases ex : xs[k1]? with
  | none=>
    refine wpAny_bind (sq_end hh (h1.ext s1.extBut D.i1z) (hl1.ext s1.extBut D.l1z) ex fun g2 e s2 ⟨oe,he,ce⟩=>?_)
    have z2 : IsZip g2 z TI TO .ellipsis:=s2 _ _ D.i1z.symm z1
    have nez : e≠z:=fun q=>by subst q; rw [z2] at he; cases he; simp at ce
    exact wpAny_setField_rec z2 (by simp) fun g3 _ s3=>hE g3 e (fun c o c1 _ c3 _ q=>s3.extBut _ _ c1 (s2 _ _ c3 (s1.extBut _ _ c1 q))) ⟨oe,s3.extBut _ _ nez he,ce⟩
  | some x=>
    have ey : ys[k2]? = none:=by rcases hend with q | q; rw [ex] at q; cases q; exact q
    refine wpAny_bind (sq_next (h1.ext s1.extBut D.i1z) (hl1.ext s1.extBut D.l1z) ex fun g2 p2 s2=>wpAny_pure ?_)
    have t2 : IsPair g2 TO a b:=s2.extBut _ _ D.TOi1 (s1.extBut _ _ D.TOz hTO)
    refine wpAny_bind (wpAny_seqItems t2 rfl (wpAny_bind (wpAny_updateSeq_pair t2 fun g3 t3 s3=>?_)))
    (refine wpAny_bind (wpAny_letGo (wpAny_pure ?_)); refine wpAny_bind (wpAny_bind (wpAny_onRaise ?_)); show wpAny _ _ (nextOf (.ref i2) >>= _) _ _ _)
    refine wpAny_bind (sq_end hh (((h2.ext s1.extBut D.i2z).ext s2.extBut D.i12.symm).ext s3.extBut D.TOi2.symm) (((hl2.ext s1.extBut D.l2z).ext s2.extBut D.l2i1).ext s3.extBut D.l2TO) ey fun g4 e s4 ⟨oe,he,ce⟩=>?_)
    have z4 : IsZip g4 z TI TO .ellipsis:=s4 _ _ D.i2z.symm (s3.extBut _ _ D.TOz.symm (s2.extBut _ _ D.i1z.symm z1))
    have nez : e≠z:=fun q=>by subst q; rw [z4] at he; cases he; simp at ce
    exact wpAny_setField_rec z4 (by simp) fun g5 _ s5=>hE g5 e (fun c o c1 c2 c3 c4 q=>s5.extBut _ _ c1 (s4 _ _ c4 (s3.extBut _ _ c2 (s2.extBut _ _ c3 (s1.extBut _ _ c1 q))))) ⟨oe,s5.extBut _ _ nez he,ce⟩
end
end L2
namespace L2
open PySem PySem.Spec PyProof.Rows PySem.Builtin.SmallTypes
def itName : Bool→String
  | true => "list_iterator"
  | false => "tuple_iterator"
abbrev zg1 (h : Heap) (b1 : Bool) (l1 : Addr) : Heap:=h.push { cls:=.type (itName b1),data:=.fields #[.ref l1,.int 0 0] }
abbrev zg2 (h : Heap) (b1 b2 : Bool) (l1 l2 : Addr) : Heap:=(zg1 h b1 l1).push { cls:=.type (itName b2),data:=.fields #[.ref l2,.int 0 0] }
abbrev zg3 (h : Heap) (b1 b2 : Bool) (l1 l2 : Addr) : Heap:=(zg2 h b1 b2 l1 l2).push { cls:=.type "tuple",data:=.seq #[.ref h.objs.size,.ref (zg1 h b1 l1).objs.size] }
abbrev zg4 (h : Heap) (b1 b2 : Bool) (l1 l2 : Addr) : Heap:=(zg3 h b1 b2 l1 l2).push { cls:=.type "tuple",data:=.seq #[.none,.none] }
abbrev zg5 (h : Heap) (b1 b2 : Bool) (l1 l2 : Addr) : Heap:=(zg4 h b1 b2 l1 l2).push { cls:=.type "zip",data:=.fields #[.none,.bool false,.bool false,.ref (zg2 h b1 b2 l1 l2).objs.size,.ref (zg3 h b1 b2 l1 l2).objs.size] }
theorem meetsZip (b1 b2 : Bool) (l1 l2 : Addr) (xs ys : Array Value) :
    Meets (Builtin.«zip.__new__» ⟨[.type "zip",.ref l1,.ref l2],[]⟩) (fun _ R s=>SqH s.heap b1 l1 xs∧SqH s.heap b2 l2 ys ∧
      R (.ok (.ret (.ref (zg4 s.heap b1 b2 l1 l2).objs.size))) { s with heap:=zg5 s.heap b1 b2 l1 l2 }):=
  .of_wp fun prog w A R s h=>by
    obtain ⟨hp,g,d,tk,os⟩:=s; obtain ⟨q1,q2,h⟩:=h
    have hsub:=sub_zip
    cases b1 with
    | true=>
      have g1 : Heap.IsList (Shared.heap ⟨hp,g,d,tk,os⟩) l1 xs:=q1
      cases b2 with
      | true=>
        have g2 : Heap.IsList (Shared.heap ⟨hp.push { cls:=.type "list_iterator",data:=.fields #[.ref l1,.int 0 0] },g,d,tk,os⟩) l2 ys:=Heap.IsList.push (show hp.IsList l2 ys from q2) _
        wp_walk using wpAny_pyIter_list g1,wpAny_pyIter_list g2
        exact ⟨_,rfl,h⟩
      | false=>
        have g2 : Heap.IsTuple (Shared.heap ⟨hp.push { cls:=.type "list_iterator",data:=.fields #[.ref l1,.int 0 0] },g,d,tk,os⟩) l2 ys:=Heap.IsTuple.push (show hp.IsTuple l2 ys from q2) _
        wp_walk using wpAny_pyIter_list g1,wpAny_pyIter_tuple g2
        exact ⟨_,rfl,h⟩
    | false=>
      have g1 : Heap.IsTuple (Shared.heap ⟨hp,g,d,tk,os⟩) l1 xs:=q1
      cases b2 with
      | true=>
        have g2 : Heap.IsList (Shared.heap ⟨hp.push { cls:=.type "tuple_iterator",data:=.fields #[.ref l1,.int 0 0] },g,d,tk,os⟩) l2 ys:=Heap.IsList.push (show hp.IsList l2 ys from q2) _
        wp_walk using wpAny_pyIter_tuple g1,wpAny_pyIter_list g2
        exact ⟨_,rfl,h⟩
      | false=>
        have g2 : Heap.IsTuple (Shared.heap ⟨hp.push { cls:=.type "tuple_iterator",data:=.fields #[.ref l1,.int 0 0] },g,d,tk,os⟩) l2 ys:=Heap.IsTuple.push (show hp.IsTuple l2 ys from q2) _
        wp_walk using wpAny_pyIter_tuple g1,wpAny_pyIter_tuple g2
        exact ⟨_,rfl,h⟩
theorem sqi_new {h : Heap} {b : Bool} {it a : Addr} (e : h.get? it=some { cls:=.type (itName b),data:=.fields #[.ref a,.int 0 0] }) : SqI h b it a 0:=by
  cases b with
  | true=>exact (show h.IsListIter it a 0 from ⟨_,e,rfl,rfl⟩)
  | false=>exact (show h.IsTupleIter it a 0 from ⟨_,e,rfl,rfl⟩)
section
variable {prog : Program} {w : World} {A : Around} {E : Value→Shared→Prop} {s : Shared}
theorem call_zipS {b1 b2 : Bool} {l1 l2 : Addr} {xs ys : Array Value} {Q : Value→Shared→Prop} (q1 : SqH s.heap b1 l1 xs) (q2 : SqH s.heap b2 l2 ys)
    (hq : ∀ h',IsZip h' (s.heap.objs.size + 4) (s.heap.objs.size + 2) (s.heap.objs.size + 3) .none→IsPair h' (s.heap.objs.size + 2) (.ref s.heap.objs.size) (.ref (s.heap.objs.size + 1))→IsPair h' (s.heap.objs.size + 3) .none .none→
      SqI h' b1 s.heap.objs.size l1 0→SqI h' b2 (s.heap.objs.size + 1) l2 0→(∀ c o,s.heap.get? c=some o→h'.get? c=some o)→Q (.ref (s.heap.objs.size + 4)) { s with heap:=h' }) :
    wpAny (model prog w) A (call (.type "zip") [.ref l1,.ref l2]) Q E s:=by
  refine callType_new F.called_zip (by decide) (F.typeCall_zip_2 _ _) (F.newCall_zip_2 _ _) (fun obj=>F.args_object_init_3 obj _ _) F.entry_zip_new (meetsZip b1 b2 l1 l2 xs ys) ⟨q1,q2,?_⟩
  have n1 : (zg1 s.heap b1 l1).objs.size=s.heap.objs.size + 1:=Heap.size_push ..
  have n2 : (zg2 s.heap b1 b2 l1 l2).objs.size=s.heap.objs.size + 2:=by rw [Heap.size_push,n1]
  have n3 : (zg3 s.heap b1 b2 l1 l2).objs.size=s.heap.objs.size + 3:=by rw [Heap.size_push,n2]
  have n4 : (zg4 s.heap b1 b2 l1 l2).objs.size=s.heap.objs.size + 4:=by rw [Heap.size_push,n3]
  have p5 : (zg5 s.heap b1 b2 l1 l2).get? (zg4 s.heap b1 b2 l1 l2).objs.size=some _:=Heap.get?_push_size _ rfl
  have p4 : (zg5 s.heap b1 b2 l1 l2).get? (zg3 s.heap b1 b2 l1 l2).objs.size=some _:=Heap.get?_push_of_some _ (Heap.get?_push_size _ rfl)
  have p3 : (zg5 s.heap b1 b2 l1 l2).get? (zg2 s.heap b1 b2 l1 l2).objs.size=some _:=Heap.get?_push_of_some _ (Heap.get?_push_of_some _ (Heap.get?_push_size _ rfl))
  have p2 : (zg5 s.heap b1 b2 l1 l2).get? (zg1 s.heap b1 l1).objs.size=some _:=Heap.get?_push_of_some _ (Heap.get?_push_of_some _ (Heap.get?_push_of_some _ (Heap.get?_push_size _ rfl)))
  have p1 : (zg5 s.heap b1 b2 l1 l2).get? s.heap.objs.size=some _:=Heap.get?_push_of_some _ (Heap.get?_push_of_some _ (Heap.get?_push_of_some _ (Heap.get?_push_of_some _ (Heap.get?_push_size _ rfl))))
  rw [n2,n3,n4] at p5
  rw [n1,n2] at p3
  rw [n3] at p4
  rw [n1] at p2
  show _∧_
  rw [n4]
  exact ⟨⟨_,p5,rfl⟩,hq _ p5 p3 p4 (sqi_new p1) (sqi_new p2) fun c o e=>Heap.get?_push_of_some _ (Heap.get?_push_of_some _ (Heap.get?_push_of_some _ (Heap.get?_push_of_some _ (Heap.get?_push_of_some _ e))))⟩
variable {z TI TO i1 i2 l1 l2 : Addr} {b1 b2 : Bool} {k1 k2 : Nat} {xs ys : Array Value} {x y a b : Value}
theorem nextZip_item {Q : Option Value→Shared→Prop} (D : ZipApart z TI TO i1 i2 l1 l2) (hz : IsZip s.heap z TI TO .none) (hTI : IsPair s.heap TI (.ref i1) (.ref i2)) (hTO : IsPair s.heap TO a b)
    (h1 : SqI s.heap b1 i1 l1 k1) (h2 : SqI s.heap b2 i2 l2 k2) (hl1 : SqH s.heap b1 l1 xs) (hl2 : SqH s.heap b2 l2 ys) (hx : xs[k1]? = some x) (hy : ys[k2]? = some y)
    (hq : ∀ h',IsZip h' z TI TO (rawInt s.heap.objs.size)→IsPair h' TO x y→SqI h' b1 i1 l1 (k1 + 1)→SqI h' b2 i2 l2 (k2 + 1)→IsPair h' s.heap.objs.size x y→
      (∀ c o,c≠z→c≠TO→c≠i1→c≠i2→s.heap.get? c=some o→h'.get? c=some o)→Q (some (.ref s.heap.objs.size)) { s with heap:=h' }) : wpAny (model prog w) A (pyNext (.ref z)) Q E s:=by
  have ty : s.TypeIs (.ref z) "zip" := ⟨_,hz,rfl⟩
  (unfold pyNext; exact wpAny_bind (wpAny_attempt (wpAny_callSpecial?_slot (name:=Str.ofString "__next__") ty F.slot_zip_next (wpAny_call_entry F.slot_zip_next ty F.entry_zip_next (zipS_item D hz hTI hTO h1 h2 hl1 hl2 hx hy fun h' a1 a2 a3 a4 a5 _ a7=>wpAny_pure (hq h' a1 a2 a3 a4 a5 a7)) (F.args_zip_next_1 _)))))
theorem nextZip_end {Q : Option Value→Shared→Prop} (hh : A.handled=none) (D : ZipApart z TI TO i1 i2 l1 l2) (hz : IsZip s.heap z TI TO .none) (hTI : IsPair s.heap TI (.ref i1) (.ref i2)) (hTO : IsPair s.heap TO a b)
    (h1 : SqI s.heap b1 i1 l1 k1) (h2 : SqI s.heap b2 i2 l2 k2) (hl1 : SqH s.heap b1 l1 xs) (hl2 : SqH s.heap b2 l2 ys) (hend : xs[k1]? = none∨ys[k2]? = none)
    (hq : ∀ h',(∀ c o,c≠z→c≠TO→c≠i1→c≠i2→s.heap.get? c=some o→h'.get? c=some o)→Q none { s with heap:=h' }) : wpAny (model prog w) A (pyNext (.ref z)) Q E s:=by
  have ty : s.TypeIs (.ref z) "zip" := ⟨_,hz,rfl⟩
  (unfold pyNext; refine wpAny_bind (wpAny_attempt (wpAny_callSpecial?_slot (name:=Str.ofString "__next__") ty F.slot_zip_next (wpAny_call_entry F.slot_zip_next ty F.entry_zip_next (zipS_end hh D hz hTI hTO h1 h2 hl1 hl2 hend fun h' e hk ⟨o,ho,hc⟩=>?_) (F.args_zip_next_1 _)))))
  exact wpAny_bind (wpAny_isInstance (T := "StopIteration") (b:=true) ⟨o,ho,hc⟩ isSubtype_stop (wpAny_pure (hq _ hk)))
end
end L2
namespace L2
open PySem PySem.Spec PyProof.Rows
def SqB (K : PySem.W.Frag) (H : Hp) (b : Bool) (a : Addr) (xs : List V) : Prop:=match b with
  | true=>SqL K H a xs
  | false=>SqT K H a xs
section
variable {X : Cx} {pins : List (Addr×Obj)} {σ : St} {H : Hp} {s : Shared}
theorem Inv.sqB {b : Bool} {a : Addr} {xs : List V} (I : Inv X pins σ H s) (h : SqB X.K H b a xs) : ∃ its : List Value,Vals xs its∧SqH s.heap b a its.toArray:=by
  cases b with
  | true=>obtain ⟨its,r,p,_⟩:=I.list h; exact ⟨its,r,p.isList⟩
  | false=>obtain ⟨its,r,p,_⟩:=I.tuple h; exact ⟨its,r,p⟩
theorem Inv.sqB_inj {b : Bool} {a : Addr} {xs ys : List V} (I : Inv X pins σ H s) (h : SqB X.K H b a xs) (h' : SqB X.K H b a ys) : xs=ys:=by
  cases b with
  | true=>exact I.list_inj h h'
  | false=>exact I.tuple_inj h h'
theorem Inv.turnedL {h' : Heap} {t' : Nat} {ch : List Addr} (I : Inv X pins σ H s) (hf : ∀ b∈ch,FpOk X pins H b) (k : ∀ b o,b ∉ ch→s.heap.get? b=some o→h'.get? b=some o) : Inv X pins σ H { s with heap:=h',toks:=t' }:=by
  have nt : ∀ b u,H b=some u→b ∉ ch:=fun b u e z=>by rw [(hf b z).1] at e; cases e
  have hL : X.env.locals ∉ ch:=fun z=>(hf _ z).2.1 rfl
  refine I.step (g':=s.gens) (d':=s.drawn) (ch:=ch) (fun b hb=>⟨(hf b hb).2.2.2.1,(hf b hb).2.1,(hf b hb).2.2.2.2.1,(hf b hb).2.2.2.2.2⟩) (fun b o _ _ hc e _=>k b o hc e) (fun b o _ _ hc e _=>⟨o.slots,k b o hc e⟩) (fun _ _ _ _ n=>n)
    (fun b o hc e=>⟨o,k b o hc e⟩) (fun _ _ e=>e) (fun _ _ _ e=>e) (fun b ps e=>⟨#[],by rw [e]; simp⟩) (fun m hm=>?_) (fun b u e=>?_) I.bare
  · obtain ⟨o,es,ep,ho,r⟩:=hm
    exact ⟨o,es,ep,k _ o hL ho,r⟩
  · refine (I.hok b u e).stay (fun c v hc q=>k c v ?_ q) (fun _ q=>q) fun _ _ q=>q
    rcases hc with z | z
    · rw [z]; exact nt b u e
    · exact nt c _ z
theorem Inv.trackNew {h' : Heap} {t' : Nat} {a : Addr} {o : HO} (I0 : Inv X pins σ H s) (I : Inv X pins σ H { s with heap:=h',toks:=t' }) (ha : s.heap.objs.size≤a) (new : ObjOk X.prog X.w (upd H a o) h' a o) : Inv X pins σ (upd H a o) { s with heap:=h',toks:=t' }:=by
  refine I.track (Heap.get?_none_of_le (Nat.le_trans I0.sz ha)) (I0.hok.fresh ha) (Nat.ne_of_gt (Nat.lt_of_lt_of_le I0.lt ha)) (fun x c e z=>?_) (fun p hp z=>?_) new
  · obtain ⟨v,q⟩:=I0.cell x c e
    exact absurd (Nat.lt_of_lt_of_le q.lt (by rw [z]; exact ha)) (Nat.lt_irrefl _)
  · exact absurd (Nat.lt_of_lt_of_le (Heap.lt_size (I0.pin p hp).1) (by rw [z]; exact ha)) (Nat.lt_irrefl _)
end
def Itz (K : PySem.W.Frag) (b1 b2 : Bool) (l1 l2 : Addr) : It:=
  ⟨fun i H=>∃ xs ys x y,SqB K H b1 l1 xs∧SqB K H b2 l2 ys∧xs[i]? = some x∧ys[i]? = some y,
   fun i H v H'=>∃ p x y,v = .ref p∧H p=none∧H' = upd H p (.tup [x,y])∧∀ xs ys,SqB K H b1 l1 xs→SqB K H b2 l2 ys→xs[i]? = some x∧ys[i]? = some y,
   fun i H=>∃ xs ys,SqB K H b1 l1 xs∧SqB K H b2 l2 ys∧(xs.length≤i∨ys.length≤i)⟩
def zipTn (z TI TO i1 i2 l1 l2 : Addr) (b1 b2 : Bool) (i : Nat) (h : Heap) : Prop:=IsZip h z TI TO .none∧IsPair h TI (.ref i1) (.ref i2)∧(∃ a b,IsPair h TO a b)∧SqI h b1 i1 l1 i∧SqI h b2 i2 l2 i
theorem turn_zip {P : Program} {w : World} {K : PySem.W.Frag} {es : List Expr} {x1 : Nat} {tp : Pos} {z TI TO i1 i2 l1 l2 : Addr} {b1 b2 : Bool} (D : ZipApart z TI TO i1 i2 l1 l2) :
    Turn P w K (.Tuple es x1 tp) (Itz K b1 b2 l1 l2) [z,TI,TO,i1,i2] z (zipTn z TI TO i1 i2 l1 l2 b1 b2) where
  mem:=by simp
  obj:=fun i h ⟨t1,t2,⟨a,b,t3⟩,t4,t5⟩ c hc=>by
    simp only [List.mem_cons,List.not_mem_nil,or_false] at hc
    rcases hc with rfl | rfl | rfl | rfl | rfl
    · exact ⟨_,t1,fun v q=>by cases q⟩
    · exact ⟨_,t2,fun v q=>by cases q⟩
    · exact ⟨_,t3,fun v q=>by cases q⟩
    · obtain ⟨o,e,vs,d⟩:=t4.obj; exact ⟨o,e,fun v q=>by rw [d] at q; cases q⟩
    · obtain ⟨o,e,vs,d⟩:=t5.obj; exact ⟨o,e,fun v q=>by rw [d] at q; cases q⟩
  keep:=fun i h h' ⟨t1,t2,⟨a,b,t3⟩,t4,t5⟩ k=>⟨k z (by simp) _ t1,k TI (by simp) _ t2,⟨a,b,k TO (by simp) _ t3⟩,t4.keep fun o e=>k i1 (by simp) o e,t5.keep fun o e=>k i2 (by simp) o e⟩
  item:=by
    intro X hP hw hK hc i pins s σ H E I hf st hg
    subst hP hw hK
    obtain ⟨t1,t2,⟨a,b,t3⟩,t4,t5⟩:=st
    obtain ⟨xs,ys,x,y,q1,q2,e1,e2⟩:=hg
    obtain ⟨us,r1,p1⟩:=I.sqB q1
    obtain ⟨vs,r2,p2⟩:=I.sqB q2
    obtain ⟨u,eu,ru⟩:=r1.get e1
    obtain ⟨v,ev,rv⟩:=r2.get e2
    refine nextZip_item (x:=u) (y:=v) D t1 t2 t3 t4 t5 p1 p2 (by simpa using eu) (by simpa using ev) fun h' a1 a2 a3 a4 a5 a7=>?_
    refine ⟨_,rfl,wpAny_letOwnedTupleGo_zip a1 fun h'' c1 c2=>?_⟩
    have nz : s.heap.objs.size≠z:=Nat.ne_of_gt (Heap.lt_size t1)
    have I1 : Inv X pins σ H { s with heap:=h'',toks:=s.toks }:=I.turnedL hf fun c o hc q=>by
      simp only [List.mem_cons,List.not_mem_nil,or_false,not_or] at hc
      exact c2.extBut c o hc.1 (a7 c o hc.1 hc.2.2.1 hc.2.2.2.1 hc.2.2.2.2 q)
    have I2:=I.trackNew (t':=s.toks) (o:=.tup [x,y]) I1 (Nat.le_refl _) ⟨by show 2≤sizeLine; decide,[u,v],.cons ru (.cons rv .nil),⟨_,c2.extBut _ _ nz a5,rfl,_,rfl⟩⟩
    have fr : H s.heap.objs.size=none:=I.hok.fresh (Nat.le_refl _)
    refine ⟨.ref s.heap.objs.size,_,I2,rfl,⟨s.heap.objs.size,x,y,rfl,fr,rfl,fun xs' ys' q1' q2'=>⟨by rw [I.sqB_inj q1' q1]; exact e1,by rw [I.sqB_inj q2' q2]; exact e2⟩⟩,⟨c1,c2.extBut _ _ D.TIz (a7 TI _ D.TIz D.TITO D.TIi1 D.TIi2 t2),⟨u,v,c2.extBut _ _ D.TOz a2⟩,a3.ext c2.extBut D.i1z,a4.ext c2.extBut D.i2z⟩,fun c hc=>?_⟩
    obtain ⟨o,eo⟩ : ∃ o,s.heap.get? c=some o:=by
      simp only [List.mem_cons,List.not_mem_nil,or_false] at hc
      rcases hc with rfl | rfl | rfl | rfl | rfl
      · exact ⟨_,t1⟩
      · exact ⟨_,t2⟩
      · exact ⟨_,t3⟩
      · obtain ⟨o,e,_⟩:=t4.obj; exact ⟨o,e⟩
      · obtain ⟨o,e,_⟩:=t5.obj; exact ⟨o,e⟩
    rw [upd_ne (Nat.ne_of_lt (Heap.lt_size eo))]
    exact (hf c hc).1
  done:=by
    intro X hP hw hK hc i pins s σ H E I hf st hg
    subst hP hw hK
    obtain ⟨t1,t2,⟨a,b,t3⟩,t4,t5⟩:=st
    obtain ⟨xs,ys,q1,q2,hl⟩:=hg
    obtain ⟨us,r1,p1⟩:=I.sqB q1
    obtain ⟨vs,r2,p2⟩:=I.sqB q2
    have n1:=r1.length
    have n2:=r2.length
    refine nextZip_end (I.ok.hd hc) D t1 t2 t3 t4 t5 p1 p2 ?_ fun h' kk=>⟨rfl,I.turnedL (t':=s.toks) hf fun c o hc q=>?_⟩
    · rcases hl with z | z
      · exact .inl (by simp; omega)
      · exact .inr (by simp; omega)
    · simp only [List.mem_cons,List.not_mem_nil,or_false,not_or] at hc
      exact kk c o hc.1 hc.2.2.1 hc.2.2.2.1 hc.2.2.2.2 q
  self:=fun _ _ _ _ _ st h=>wpAny_pyIter_zip st.1 h
section
variable {X : Cx} {es : List Expr} {x1 : Nat} {tp : Pos}
def iZip (K : PySem.W.Frag) (ta : TA) : TI:=fun σ H R=>ta σ H fun vs H1=>∃ b1 b2 l1 l2 xs ys,vs=[.ref l1,.ref l2]∧SqB K H1 b1 l1 xs∧SqB K H1 b2 l2 ys∧R (Itz K b1 b2 l1 l2) H1
theorem pi_zip {a b : Expr} {ta : TA} {p pos : Pos} (hg : Gl X "zip") (hm : X.mg "zip" = none) (ha : PA X [a,b] ta) (hs : starEach [a,b] X.env=[(false,eval a X.env),(false,eval b X.env)]:=by rfl) (hs2 : starEach [b] X.env=[(false,eval b X.env)]:=by rfl) :
    PI X (.Tuple es x1 tp) (.Call (.Name "zip" p) [a,b] [] pos) (iZip X.K ta):=by
  intro pins s σ H R I h
  refine Call_ (ld_blt I hg hm boot_zip (PyProof.Rows.callWith_type1 (thn (ha pos pins s σ H _ I h) fun us s1 ⟨vs,H1,I1,r1,q1⟩=>?_) (by rw [hs,hs2]) (by rw [hs2]; rfl)))
  obtain ⟨b1,b2,l1,l2,xs,ys,rfl,q1,q2,q⟩:=q1
  obtain ⟨u,v,rfl,ru,rv⟩:=r1.two
  cases ru; cases rv
  obtain ⟨us1,_,p1⟩:=I1.sqB q1
  obtain ⟨us2,_,p2⟩:=I1.sqB q2
  have n1 : l1 < s1.heap.objs.size:=by
    cases b1 with
    | true=>obtain ⟨o,e,_⟩:=(show s1.heap.IsList l1 _ from p1); exact Heap.lt_size e
    | false=>obtain ⟨o,e,_⟩:=(show s1.heap.IsTuple l1 _ from p1); exact Heap.lt_size e
  have n2 : l2 < s1.heap.objs.size:=by
    cases b2 with
    | true=>obtain ⟨o,e,_⟩:=(show s1.heap.IsList l2 _ from p2); exact Heap.lt_size e
    | false=>obtain ⟨o,e,_⟩:=(show s1.heap.IsTuple l2 _ from p2); exact Heap.lt_size e
  refine call_zipS p1 p2 fun h' a1 a2 a3 a4 a5 kk=>?_
  refine wpAny_pyIter_zip a1 ?_
  have I2 : Inv X pins σ H1 { s1 with heap:=h',toks:=s1.toks }:=I1.kept kk
  refine ⟨_,[s1.heap.objs.size + 4,s1.heap.objs.size + 2,s1.heap.objs.size + 3,s1.heap.objs.size,s1.heap.objs.size + 1],_,_,H1,rfl,I2,turn_zip (zipApart_new n1 n2),⟨a1,a2,⟨_,_,a3⟩,a4,a5⟩,fun c hc=>?_,q⟩
  have hge : s1.heap.objs.size≤c:=by
    simp only [List.mem_cons,List.not_mem_nil,or_false] at hc
    rcases hc with rfl | rfl | rfl | rfl | rfl <;> omega
  exact I1.fpOk (H':=H1) hge (I1.hok.fresh hge)
end
end L2
namespace L2
open PySem PySem.Spec PyProof.Rows
section
variable {X : Cx}
theorem vals_bools : ∀ {bs : List Bool} {us : List Value},Vals (bs.map V.bl) us→us=bs.map Value.bool
  | [],_,.nil=>rfl
  | b :: r,_,.cons x t=>by rw [show _=Value.bool b from x,vals_bools t]; rfl
theorem range_all {bs : List Bool} : (List.range bs.length).all (fun i=>bs.getD i false)=bs.all id:=by
  rw [Bool.eq_iff_iff,List.all_eq_true,List.all_eq_true]
  constructor
  · intro h b hb
    obtain ⟨i,hi,rfl⟩:=List.mem_iff_getElem.mp hb
    have:=h i (List.mem_range.mpr hi)
    simpa [List.getD_eq_getElem?_getD,hi] using this
  · intro h i hi
    have hi':=List.mem_range.mp hi
    have:=h _ (List.getElem_mem hi')
    simpa [List.getD_eq_getElem?_getD,hi'] using this
theorem range_any {bs : List Bool} : (List.range bs.length).any (fun i=>bs.getD i false)=bs.any id:=by
  rw [Bool.eq_iff_iff,List.any_eq_true,List.any_eq_true]
  constructor
  · rintro ⟨i,hi,h⟩
    have hi':=List.mem_range.mp hi
    exact ⟨_,List.getElem_mem hi',by simpa [List.getD_eq_getElem?_getD,hi'] using h⟩
  · rintro ⟨b,hb,h⟩
    obtain ⟨i,hi,rfl⟩:=List.mem_iff_getElem.mp hb
    exact ⟨i,List.mem_range.mpr hi,by simpa [List.getD_eq_getElem?_getD,hi] using h⟩
theorem bools_at {bs : List Bool} {i : Nat} {v : Value} (h : (bs.map Value.bool).toArray[i]? = some v) : v = .bool (bs.getD i false):=by
  have h' : (bs.map Value.bool)[i]? = some v:=by simpa using h
  rw [List.getElem?_map] at h'
  cases e : bs[i]? with
  | none=>rw [e] at h'; cases h'
  | some b=>
    rw [e] at h'
    rw [List.getD_eq_getElem?_getD,e]
    exact (Option.some.inj h').symm
theorem call_allB (hc : X.calm=true) : CallR X (.builtin "all") (fun xs H Q=>∃ (p : Addr) (bs : List Bool),xs=[.ref p]∧SqL X.K H p (bs.map V.bl)∧Q (.bl (bs.all id)) H):=by
  intro pins s σ H xs us Q I r h
  obtain ⟨p,bs,rfl,hq,q⟩:=h
  obtain ⟨u,rfl,ru⟩:=r.one
  cases ru
  obtain ⟨its,rv,pl,hz⟩:=I.list hq
  have e:=vals_bools rv
  subst e
  have nl : p≠s.heap.objs.size:=by obtain ⟨o,e,_⟩:=pl.isList; exact Nat.ne_of_lt (Heap.lt_size e)
  refine call_all_walk (wpAny_pyIter_list pl.isList ?_)
  refine ⟨s.heap.objs.size,_,_,_,_,_,fun i=>bs.getD i false,rfl,Walks.list (A:=X.A.in1) (I.ok.hd hc) s.heap.objs.size p nl (bs.map Value.bool).toArray,⟨⟨_,Heap.get?_push_size _ rfl,rfl,rfl⟩,pl.isList.push _⟩,?_,fun h' tk k=>?_⟩
  · intro i v s' Q' E' hP hq'
    rw [bools_at hP]
    exact wpAny_pure hq'
  · have e2 : (bs.map Value.bool).toArray.size=bs.length:=by simp
    rw [e2,range_all]
    refine ⟨.bl _,H,I.kept (t':=tk) (h':=h') fun b o e=>k b o ?_ (Heap.get?_push_of_some _ e),rfl,q⟩
    intro z
    have z' : b=s.heap.objs.size:=by simpa using z
    exact absurd (Heap.lt_size e) (by rw [z']; exact Nat.lt_irrefl _)
theorem call_anyB (hc : X.calm=true) : CallR X (.builtin "any") (fun xs H Q=>∃ (p : Addr) (bs : List Bool),xs=[.ref p]∧SqL X.K H p (bs.map V.bl)∧Q (.bl (bs.any id)) H):=by
  intro pins s σ H xs us Q I r h
  obtain ⟨p,bs,rfl,hq,q⟩:=h
  obtain ⟨u,rfl,ru⟩:=r.one
  cases ru
  obtain ⟨its,rv,pl,hz⟩:=I.list hq
  have e:=vals_bools rv
  subst e
  have nl : p≠s.heap.objs.size:=by obtain ⟨o,e,_⟩:=pl.isList; exact Nat.ne_of_lt (Heap.lt_size e)
  refine call_any_walk (wpAny_pyIter_list pl.isList ?_)
  refine ⟨s.heap.objs.size,_,_,_,_,_,fun i=>bs.getD i false,rfl,Walks.list (A:=X.A.in1) (I.ok.hd hc) s.heap.objs.size p nl (bs.map Value.bool).toArray,⟨⟨_,Heap.get?_push_size _ rfl,rfl,rfl⟩,pl.isList.push _⟩,?_,fun h' tk k=>?_⟩
  · intro i v s' Q' E' hP hq'
    rw [bools_at hP]
    exact wpAny_pure hq'
  · have e2 : (bs.map Value.bool).toArray.size=bs.length:=by simp
    rw [e2,range_any]
    refine ⟨.bl _,H,I.kept (t':=tk) (h':=h') fun b o e=>k b o ?_ (Heap.get?_push_of_some _ e),rfl,q⟩
    intro z
    have z' : b=s.heap.objs.size:=by simpa using z
    exact absurd (Heap.lt_size e) (by rw [z']; exact Nat.lt_irrefl _)
def CDivL (i j : Int) : Prop:=0 < j∧j < 18446744073709551616
theorem op_fdivL : OpR X (binaryOp .FloorDiv) (rI CDivL fun i j=>.int (i / j)):=opI fun i j _ _ _ _ _ hc q=>by
  have hj : j.natAbs.log2 < 9000:=by
    have h0 : j.natAbs≠0:=by have:=hc.1; omega
    have h1 : j.natAbs < 2 ^ 64:=by
      have h2:=hc.1
      have h3 : j < 2 ^ 64:=hc.2
      omega
    have:=(Nat.log2_lt h0).mpr h1
    omega
  have e : i / j=i.fdiv j:=(Int.fdiv_eq_ediv_of_nonneg i (Int.le_of_lt hc.1)).symm
  rw [e] at q
  exact floordiv_int (by have:=hc.1; omega) q (.inl (PyProof.noPylong_of_log2 hj))
def clsV : V→Option Value
  | .ty n=>some (.type n)
  | .ref a=>some (.ref a)
  | _=>none
theorem clsV_rel {c : V} {u w : Value} (r : RelV c u) (h : clsV c=some w) : u=w:=by
  cases c with
  | ty n=>cases h; exact r
  | ref a=>cases h; exact r
  | _=>cases h
def rIsi (K : PySem.W.Frag) : List V→Hp→VK→Prop:=fun xs H Q=>∃ x c t w b,xs=[x,c]∧clsV c=some w∧TyOf K H x t∧PySem.W.kitOne K t w=some b∧Q (.bl b) H
theorem call_isi : CallR X (.builtin "isinstance") (rIsi X.K):=by
  intro pins s σ H xs us Q I r h
  obtain ⟨x,c,t,w,b,rfl,hw,ty,e,q⟩:=h
  obtain ⟨u,v,rfl,ru,rv⟩:=r.two
  rw [clsV_rel rv hw]
  exact isinst_ok I ru ty e fun tk=>⟨.bl b,H,I.tok tk,rfl,q⟩
end
end L2
namespace L2
open PySem PySem.Spec PyProof.Rows
section
variable {X : Cx} {pins : List (Addr×Obj)} {σ : St} {H : Hp} {s : Shared}
theorem tyof_kit {x : V} {u t : Value} (I : Inv X pins σ H s) (rx : RelV x u) (ty : TyOf X.K H x t) : ∃ φ : Heap→Prop,PySem.W.KitX X.K u t φ∧φ s.heap∧u≠.builtin "__main__.__loader__#opaque" := by
  cases ty with
  | non=>cases (show u=Value.none from rx); exact ⟨_,PySem.W.kitx_none,True.intro,(fun z=>nomatch z)⟩
  | bl y=>cases (show u=Value.bool y from rx); exact ⟨_,PySem.W.kitx_bool,True.intro,(fun z=>nomatch z)⟩
  | int i=>obtain ⟨t,q⟩:=(show ∃ t,u=Value.int i t from rx); cases q; exact ⟨_,PySem.W.kitx_int,True.intro,(fun z=>nomatch z)⟩
  | str y=>obtain ⟨t,q⟩:=(show ∃ t,u=Value.str y t from rx); cases q; exact ⟨_,PySem.W.kitx_str,True.intro,(fun z=>nomatch z)⟩
  | flt y=>obtain ⟨t,q⟩:=(show ∃ t,u=Value.float y t from rx); cases q; exact ⟨_,PySem.W.kitx_float,True.intro,(fun z=>nomatch z)⟩
  | @lst a xs ea=>
    cases (show u=Value.ref a from rx)
    obtain ⟨_,_,n,_,h1⟩:=(show ObjOk X.prog X.w H s.heap a (.lst xs) from I.hok a _ ea)
    exact ⟨_,PySem.W.kitx_list,⟨_,h1,rfl⟩,(fun z=>nomatch z)⟩
  | @frz a ob xs ea=>
    cases (show u=Value.ref a from rx)
    obtain ⟨_,_,_,n,_,h1⟩:=(show ObjOk X.prog X.w H s.heap a (.frz ob (.lst xs)) from I.hok a _ ea)
    exact ⟨_,PySem.W.kitx_list,⟨_,h1,rfl⟩,(fun z=>nomatch z)⟩
  | @tup a xs ea=>
    cases (show u=Value.ref a from rx)
    obtain ⟨_,_,_,p⟩:=(show ObjOk X.prog X.w H s.heap a (.tup xs) from I.hok a _ ea)
    obtain ⟨o,h1,h2,_⟩:=p
    exact ⟨_,PySem.W.kitx_tuple,⟨o,h1,h2⟩,(fun z=>nomatch z)⟩
  | @dK a kvs ea=>
    cases (show u=Value.ref a from rx)
    obtain ⟨_,_,vs,_,p⟩:=(show ObjOk X.prog X.w H s.heap a (.dK kvs) from I.hok a _ ea)
    obtain ⟨o,es,ep,h1,h2,_⟩:=p
    exact ⟨_,PySem.W.kitx_dict,⟨o,h1,h2.1⟩,(fun z=>nomatch z)⟩
  | @dT a kvs ea=>
    cases (show u=Value.ref a from rx)
    obtain ⟨_,_,xs,_,o,es,ep,h1,h2,_⟩:=(show ObjOk X.prog X.w H s.heap a (.dT kvs) from I.hok a _ ea)
    exact ⟨_,PySem.W.kitx_dict,⟨o,h1,h2.1⟩,(fun z=>nomatch z)⟩
  | @ins a C dx fs ea cl ha hn htk hm=>
    cases (show u=Value.ref a from rx)
    obtain ⟨mA,O,_⟩:=ins_get I.hok ea
    obtain ⟨od,J,_⟩:=O.look
    exact ⟨_,PySem.W.kitx_own (cl.get _) cl.hd ha hn htk hm,J,(fun z=>nomatch z)⟩
theorem cls_all : ∀ {cs : List V} {us ws : List Value},Vals cs us→cs.map clsV=ws.map some→us=ws
  | [],_,[],.nil,_=>rfl
  | c :: cs,_,w :: ws,.cons r t,e=>by
    rw [List.map_cons,List.map_cons] at e
    injection e with e1 e2
    rw [clsV_rel r e1,cls_all t e2]
def rIsT (K : PySem.W.Frag) : List V→Hp→VK→Prop:=fun xs H Q=>∃ x p cs t ws b,xs=[x,.ref p]∧H p=some (.tup cs)∧cs.map clsV=ws.map some∧TyOf K H x t∧PySem.W.kitAny K t ws=some b∧Q (.bl b) H
theorem call_isT : CallR X (.builtin "isinstance") (rIsT X.K):=by
  intro pins s σ H xs us Q I r h
  obtain ⟨x,p,cs,t,ws,b,rfl,hp,hc,ty,e,q⟩:=h
  obtain ⟨u,v,rfl,ru,rv⟩:=r.two
  cases rv
  obtain ⟨φ,Z,hφ,hne⟩:=tyof_kit I ru ty
  obtain ⟨_,its,rs,⟨ob,h1,h2,n,h3⟩⟩:=(show ObjOk X.prog X.w H s.heap p (.tup cs) from I.hok p _ hp)
  have ei:=cls_all rs hc
  subst ei
  obtain ⟨oc,od,dt,sl⟩:=ob
  dsimp only at h2 h3
  subst h2 h3
  exact PySem.W.kia_tup Z I.kIn hφ h1 e hne fun tk=>⟨.bl b,H,I.tok tk,rfl,q⟩
end
inductive EqD (H : Hp) : Nat→V→V→Prop
  | flat {n : Nat} {v : V} (h : flatV v=true) : EqD H n v v
  | tup {n : Nat} {p q : Addr} {xs ys : List V} (h1 : H p=some (.tup xs)) (h2 : H q=some (.tup ys)) (hl : xs.length=ys.length) (hs : xs.length≤1000) (h : ∀ (i : Nat) x y,xs[i]? = some x→ys[i]? = some y→EqD H n x y) : EqD H (n + 1) (.ref p) (.ref q)
  | lst {n : Nat} {p q : Addr} {xs ys : List V} (h1 : H p=some (.lst xs)) (h2 : H q=some (.lst ys)) (hl : xs.length=ys.length) (hs : xs.length≤1000) (h : ∀ (i : Nat) x y,xs[i]? = some x→ys[i]? = some y→EqD H n x y) : EqD H (n + 1) (.ref p) (.ref q)
theorem EqD.same {H H' : Hp} (s : Same H H') : ∀ {n : Nat} {v u : V},EqD H n v u→EqD H' n v u:=by
  intro n v u h
  induction h with
  | flat h=>exact .flat h
  | tup h1 h2 hl hs _ ih=>exact .tup (s _ _ h1) (s _ _ h2) hl hs fun i x y a b=>ih i x y a b
  | lst h1 h2 hl hs _ ih=>exact .lst (s _ _ h1) (s _ _ h2) hl hs fun i x y a b=>ih i x y a b
theorem same_new {H : Hp} {p : Addr} (h : H p=none) (o : HO) : Same H (upd H p o):=fun b u q=>by rw [upd_ne (ne_of_none q h)]; exact q
def plainE : Expr→Bool
  | .Starred ..=>false
  | _=>true
theorem star_plain {e : Expr} {es : List Expr} {env : Env} (h : plainE e=true) : starEach (e :: es) env=(false,eval e env) :: starEach es env:=by
  cases e <;> first | rfl | cases h
theorem pa_c {X : Cx} {e : Expr} {es : List Expr} {te : TE} {t : TA} (ha : PE X e te) (hr : PA X es t) (hn : plainE e=true:=by rfl) : PA X (e :: es) (tCons te t):=pa_cons ha hr (star_plain hn)
end L2
namespace L2
open PySem PySem.Spec PyProof.Rows
inductive EqB (K : PySem.W.Frag) (H : Hp) : Nat→V→V→Bool→Prop
  | flat {n : Nat} {x y : V} (hx : flatV x=true) (hy : flatV y=true) : EqB K H n x y (eqV x y)
  | same {n : Nat} {p : Addr} : EqB K H n (.ref p) (.ref p) true
  | tup {n : Nat} {a b : Addr} {xs ys : List V} (e : Nat→Bool) (hn : a≠b) (h1 : SqT K H a xs) (h2 : SqT K H b ys) (he : ∀ j x y,xs[j]? = some x→ys[j]? = some y→EqB K H n x y (e j)) : EqB K H (n + 1) (.ref a) (.ref b) ((List.range (min xs.length ys.length)).all e && xs.length == ys.length)
  | lst {n : Nat} {a b : Addr} {xs ys : List V} (e : Nat→Bool) (hn : a≠b) (hl : xs.length=ys.length) (h1 : SqL K H a xs) (h2 : SqL K H b ys) (he : ∀ j x y,xs[j]? = some x→ys[j]? = some y→EqB K H n x y (e j)) : EqB K H (n + 1) (.ref a) (.ref b) ((List.range xs.length).all e)
  | lsn {n : Nat} {a b : Addr} {xs ys : List V} (hl : xs.length≠ys.length) (h1 : SqL K H a xs) (h2 : SqL K H b ys) : EqB K H (n + 1) (.ref a) (.ref b) false
theorem in1_units {A : Around} : A.in1.units=A.units + 1:=rfl
section
variable {X : Cx} {pins : List (Addr×Obj)} {σ : St} {H : Hp} {s : Shared}
theorem items_eqAt {A : Around} {n : Nat} {xs ys : List V} {us vs : List Value} {e : Nat→Bool} (rx : Vals xs us) (ry : Vals ys vs) (h : ∀ j x y u v,xs[j]? = some x→ys[j]? = some y→RelV x u→RelV y v→SeqAt.EqAt A s u v (e j)) :
    ∀ j (h1 : j < us.toArray.size) (h2 : j < vs.toArray.size),SeqAt.EqAt A s us.toArray[j] vs.toArray[j] (e j):=fun j h1 h2=>by
  have l1:=rx.length
  have l2:=ry.length
  have g1 : j < xs.length:=by simp at h1; omega
  have g2 : j < ys.length:=by simp at h2; omega
  obtain ⟨u,eu,ru⟩:=rx.get (List.getElem?_eq_getElem g1)
  obtain ⟨v,ev,rv⟩:=ry.get (List.getElem?_eq_getElem g2)
  have e1 : us.toArray[j]=u:=by
    have:=List.getElem?_eq_some_iff.mp eu
    obtain ⟨_,e⟩:=this
    simpa using e
  have e2 : vs.toArray[j]=v:=by
    have:=List.getElem?_eq_some_iff.mp ev
    obtain ⟨_,e⟩:=this
    simpa using e
  rw [e1,e2]
  exact h j _ _ u v (List.getElem?_eq_getElem g1) (List.getElem?_eq_getElem g2) ru rv
theorem EqB.eqAt (I : Inv X pins σ H s) {n : Nat} {x y : V} {b : Bool} (h : EqB X.K H n x y b) : ∀ (A : Around) (u v : Value),A.units + n < cLine→RelV x u→RelV y v→SeqAt.EqAt A s u v b:=by
  induction h with
  | flat hx hy=>exact fun A u v _ rx ry=>eqAt_V rx ry hx hy
  | same=>intro A u v _ rx ry; cases rx; cases ry; exact SeqAt.EqAt.same _
  | @tup n a b xs ys e hn h1 h2 he ih=>
    intro A u v hu rx ry
    cases rx; cases ry
    obtain ⟨us,r1,p1,_⟩:=I.tuple h1
    obtain ⟨vs,r2,p2,_⟩:=I.tuple h2
    refine SeqAt.EqAt.of_refs hn ?_
    have:=SeqAt.RcAt.tuples (s:=s) (A:=A) (e:=e) p1 p2 (by omega) (items_eqAt (n:=n) r1 r2 fun j x y u v e1 e2 ru rv=>ih j x y e1 e2 A.in1 u v (by rw [in1_units]; omega) ru rv)
    have l1:=r1.length
    have l2:=r2.length
    simpa [l1,l2] using this
  | @lst n a b xs ys e hn hl h1 h2 he ih=>
    intro A u v hu rx ry
    cases rx; cases ry
    obtain ⟨us,r1,p1,_⟩:=I.list h1
    obtain ⟨vs,r2,p2,_⟩:=I.list h2
    have l1:=r1.length
    have l2:=r2.length
    refine SeqAt.EqAt.of_refs hn ?_
    have:=SeqAt.RcAt.lists (s:=s) (A:=A) (e:=e) p1.isList p2.isList (by simp; omega) (by omega) (items_eqAt (n:=n) r1 r2 fun j x y u v e1 e2 ru rv=>ih j x y e1 e2 A.in1 u v (by rw [in1_units]; omega) ru rv)
    simpa [l1,l2] using this
  | @lsn n a b xs ys hl h1 h2=>
    intro A u v hu rx ry
    cases rx; cases ry
    have hn : a≠b:=fun z=>by subst z; exact hl (by rw [I.list_inj h1 h2])
    obtain ⟨us,r1,p1,_⟩:=I.list h1
    obtain ⟨vs,r2,p2,_⟩:=I.list h2
    have l1:=r1.length
    have l2:=r2.length
    refine SeqAt.EqAt.of_refs hn ?_
    exact SeqAt.RcAt.lists_lengths (s:=s) (A:=A) p1.isList p2.isList (by simp; omega) (by omega)
def rCmpL (K : PySem.W.Frag) (neg : Bool) : R2:=fun x y H Q=>∃ a b xs ys,x = .ref a∧y = .ref b∧SqL K H a xs∧SqL K H b ys∧
  ((xs.length≠ys.length∧Q (.bl neg) H)∨(xs.length=ys.length∧∃ (n : Nat) (e : Nat→Bool),n≤32∧(∀ j x y,xs[j]? = some x→ys[j]? = some y→EqB K H n x y (e j))∧Q (.bl (neg != (List.range xs.length).all e)) H))
theorem op_eqL (hu : X.A.units + 64 < cLine) : OpR X (compareOp .Eq) (rCmpL X.K false):=by
  intro pins s σ H x y v u Q I rx ry h
  obtain ⟨a,b,xs,ys,rfl,rfl,h1,h2,h⟩:=h
  cases rx; cases ry
  obtain ⟨us,r1,p1,_⟩:=I.list h1
  obtain ⟨vs,r2,p2,_⟩:=I.list h2
  have l1:=r1.length
  have l2:=r2.length
  rcases h with ⟨hl,q⟩ | ⟨hl,n,e,hn,he,q⟩
  · exact SeqAt.RcAt.lists_lengths (s:=s) (A:=X.A) p1.isList p2.isList (by simp; omega) (by omega) _ _ _ _ ⟨.bl _,H,I,rfl,q⟩
  · refine SeqAt.RcAt.lists (s:=s) (A:=X.A) (e:=e) p1.isList p2.isList (by simp; omega) (by omega) (items_eqAt (n:=n) r1 r2 fun j x y u v e1 e2 ru rv=>(he j x y e1 e2).eqAt I _ u v (by rw [in1_units]; omega) ru rv) _ _ _ _ ⟨.bl _,H,I,rfl,?_⟩
    simpa [l1] using q
end
structure Cal (P : Program) (w : World) (K : PySem.W.Frag) (mg : Str→Option Value) (base : Heap) (CX : CXT) (k : Nat) (x : Str) (ps : List Str) (sp : Sp) : Prop where
  ex : ∃ (f : Addr) (fd : FuncData),FnOk P w K mg base CX k f fd ps sp∧Binds K fd ps []∧PySem.W.keepIn K (.ref f)=true∧mg x=some (.ref f)
theorem pe_cal {X : Cx} {CX : CXT} {k j : Nat} {ps : List Str} {sp : Sp} {E : XK} {x : Str} {p pos : Pos} {e : Expr} {es : List Expr} {t : TA} (F : Cal X.prog X.w X.K X.mg X.base CX k x ps sp) (hr : Room j X.A) (hg : Gl X x) (hx : Passes CX X E) (ha : PA X (e :: es) t)
    (hk : k≤j:=by decide) (hdb : (x == ("__debug__" : Str))=false:=by decide) (he : starEach (e :: es) X.env=(false,eval e X.env) :: starEach es X.env:=by rfl) (hpl : (backTo pos (starEach es X.env)).any (·.1)=false:=by rfl) :
    PE X (.Call (.Name x p) (e :: es) [] pos) (tCall sp [] E t):=by
  obtain ⟨f,fd,h1,h2,h3,h4⟩:=F.ex
  exact pe_call (h1.mono hk) hr hg h4 h3 h2 .nil hx ha hdb he hpl
end L2
namespace L2
open PySem PySem.Spec PyProof.Rows
section
variable {X : Cx} {es : List Expr} {x1 : Nat} {tp : Pos}
end
end L2
namespace L2
open PySem PySem.Spec PyProof.Rows
def relabelD (scope D : Scope) : List (Str×NameKind):=scope.names.map fun (n,k)=>if (k == .free && D.kind == .function && D.names.lookup n == some .cell) then (n,.cell) else (n,k)
def compOk (N N' : List Str) (ix : List (Option Nat)) (scope D : Scope) : Bool:=
  (scope.kind == .function) && (scope.names.all fun y=>(y.2 == .local && scope.names.lookup y.1 == some .local) || (y.2 == .free && D.names.lookup y.1 == some .cell) || (y.2 != .local && y.2 != .free && y.2 != .cell)) && decide N'.Nodup && (ix.length == N'.length) &&
  ((List.range N'.length).all fun k=>match ix[k]?,N'[k]? with
    | some (some j),some x=>N[j]? == some x && scope.names.contains (x,.free) && (relabelD scope D).lookup x == some .cell
    | _,_=>true)
theorem comp_scope {X : Cx} {N' : List Str} {ix : List (Option Nat)} {scope : Scope} {N : List Str} {D : Scope} (h : compOk N N' ix scope D=true) (hN : X.N=N:=by rfl) (hD : X.env.scope=D:=by rfl) : CompScope X N' ix scope:=by
  unfold compOk at h
  simp only [Bool.and_eq_true,decide_eq_true_eq] at h
  obtain ⟨⟨⟨⟨h1,h2⟩,h3⟩,h4⟩,h5⟩:=h
  have hall:=List.all_eq_true.mp h2
  refine ⟨by simpa using h1,fun y hy=>?_,fun y hy e=>?_,h3,by simpa using h4,fun y hy e=>?_,fun k j x e1 e2=>?_⟩
  · have:=hall y hy
    intro z
    rw [z] at this
    simp at this
  · have:=hall y hy
    rw [e] at this
    simpa using this
  · have:=hall y hy
    rw [e] at this
    have q : D.names.lookup y.1=some .cell:=by simpa using this
    show X.env.scope.names.lookup y.1=some .cell
    rw [hD]; exact q
  · have hk : k < N'.length:=(List.getElem?_eq_some_iff.mp e1).1
    have:=List.all_eq_true.mp h5 k (List.mem_range.mpr hk)
    rw [e1,e2] at this
    simp only [Bool.and_eq_true,beq_iff_eq] at this
    obtain ⟨⟨a1,a2⟩,a3⟩:=this
    refine ⟨by rw [hN]; exact a1,by simpa using a2,?_⟩
    show (relabelD scope X.env.scope).lookup x=some .cell
    rw [hD]; exact a3
end L2
namespace L2
open PySem PySem.Spec PyProof.Rows
section
variable {X : Cx}
end
end L2
namespace L2
open PySem PySem.Spec PyProof.Rows
section
variable {K : PySem.W.Frag} {c d : Addr} {b : Bool} {v : Value}
end
end L2
namespace L2
open PySem PySem.Spec PyProof.Rows
theorem Fun.okE {P : Program} {w : World} {K : PySem.W.Frag} {mg : Str→Option Value} {base : Heap} {x qual : Str} {st : Stmt} {f : Addr} {fd : FuncData} {N ps : List Str} {k : Nat} {sp : Sp} (F : Fun K x qual st f fd) (S : FnScope N ps (defScope st))
    (len : ∀ vs H Q E,sp vs H Q E→vs.length=ps.length)
    (hbody : ∀ (cdv : Value) (A : Around) (outer : List Env) (s : Shared) (H : Hp) (vs : List V) (Q : VK) (E : XK),Room k (A.deeper (envOfC qual (defScope st) s.heap.objs.size f cdv))→sp vs H Q E→
      ∃ t,PSs (cxOf (CXE P w) P w K mg base N qual (defScope st) f cdv A outer s H E) (defBody st) t∧t { nx:=fun _ H'=>Q .non H',rt:=Q } (start N vs) H) : FnOk P w K mg base (CXE P w) (k + 1) f fd ps sp:=by
  obtain ⟨oc,od,kV,doc,pm,an,cdv,ct,osl,rfl,lk,hcd⟩:=F.ex
  exact fn_of lk hcd S len fun A outer s H vs Q E hr hsp=>hbody cdv A outer s H vs Q E hr hsp
theorem tSeq_by {t u : TS} {D : Ends} {σ : St} {H : Hp} (R : St→Hp→Prop) (h1 : ∀ D' : Ends,(∀ σ' H',R σ' H'→D'.nx σ' H')→D'.rt=D.rt→t D' σ H) (h2 : ∀ σ' H',R σ' H'→u D σ' H') : tSeq t u D σ H:=h1 { D with nx:=u D } h2 rfl
structure Bn (mg : Str→Option Value) : Prop where
  len : mg "len" = none
  list : mg "list" = none
  isi : mg "isinstance" = none
  bool : mg "bool" = none
  int : mg "int" = none
  str : mg "str" = none
  tuple : mg "tuple" = none
  all : mg "all" = none
  any : mg "any" = none
  zip : mg "zip" = none
  range : mg "range" = none
  max : mg "max" = none
  min : mg "min" = none
  enumerate : mg "enumerate" = none
  sum : mg "sum" = none
  sorted : mg "sorted" = none
  verr : mg "ValueError" = none
def KeepBut (a : Addr) (H H' : Hp) : Prop:=∀ b o,b≠a→H b=some o→H' b=some o
theorem KeepBut.refl {a : Addr} {H : Hp} : KeepBut a H H:=fun _ _ _ h=>h
theorem KeepBut.trans {a : Addr} {H H1 H2 : Hp} (x : KeepBut a H H1) (y : KeepBut a H1 H2) : KeepBut a H H2:=fun b o n h=>y b o n (x b o n h)
theorem KeepBut.upd {a : Addr} {H H1 : Hp} {o : HO} (x : KeepBut a H H1) : KeepBut a H (L2.upd H1 a o):=fun b u n h=>by rw [upd_ne n]; exact x b u n h
theorem KeepBut.young {a p : Addr} {H H1 : Hp} {o : HO} (x : KeepBut a H H1) (hp : H p=none) : KeepBut a H (L2.upd H1 p o):=fun b u n h=>by
  rw [upd_ne (ne_of_none h hp)]; exact x b u n h
theorem KeepBut.of_same {a : Addr} {H H1 : Hp} (x : Same H H1) : KeepBut a H H1:=fun b o _ h=>x b o h
theorem Same.young {p : Addr} {H H1 : Hp} {o : HO} (x : Same H H1) (hp : H p=none) : Same H (L2.upd H1 p o):=fun b u h=>by
  rw [upd_ne (ne_of_none h hp)]; exact x b u h
def Draw (H : Hp) (a c : Addr) (ns : List Int) (i x y z : Int) : Prop:=H a=some (.lst [.ref c,.int i,.int x,.int y,.int z])∧H c=some (.lst (ns.map V.int))∧c≠a∧0≤i∧0≤y∧y < 1000000007
def DrawAt (H : Hp) (a c : Addr) : Prop:=∃ ns i x y z,Draw H a c ns i x y z
theorem DrawAt.upd {H : Hp} {a c p : Addr} {o : HO} (d : DrawAt H a c) (na : p≠a) (nc : p≠c) : DrawAt (L2.upd H p o) a c:=by
  obtain ⟨ns,i,x,y,z,h1,h2,r⟩:=d
  exact ⟨ns,i,x,y,z,by rw [upd_ne na.symm]; exact h1,by rw [upd_ne nc.symm]; exact h2,r⟩
theorem DrawAt.same {H H' : Hp} {a c : Addr} (d : DrawAt H a c) (s : Same H H') : DrawAt H' a c:=by
  obtain ⟨ns,i,x,y,z,h1,h2,r⟩:=d
  exact ⟨ns,i,x,y,z,s _ _ h1,s _ _ h2,r⟩
theorem DrawAt.there {H : Hp} {a c : Addr} (d : DrawAt H a c) : ∃ o,H a=some o:=by
  obtain ⟨ns,i,x,y,z,h1,_⟩:=d
  exact ⟨_,h1⟩
theorem DrawAt.ne {H : Hp} {a c p : Addr} (d : DrawAt H a c) (hp : H p=none) : p≠a:=by
  obtain ⟨o,e⟩:=d.there
  exact (ne_of_none e hp).symm
theorem DrawAt.nc {H : Hp} {a c p : Addr} (d : DrawAt H a c) (hp : H p=none) : p≠c:=by
  obtain ⟨ns,i,x,y,z,_,h2,_⟩:=d
  exact (ne_of_none h2 hp).symm
theorem DrawAt.neT {H : Hp} {a c p : Addr} {xs : List V} (d : DrawAt H a c) (hp : H p=some (.tup xs)) : p≠a:=by
  obtain ⟨_,_,_,_,_,h,_⟩:=d
  exact ne_of hp h (by intro z; cases z)
def spBegin (K : PySem.W.Frag) : Sp:=fun vs H Q _=>∃ (a : Addr) (ns : List Int),vs=[.ref a]∧SqL K H a (ns.map V.int)∧ns.length≤63∧∀ l c H',H l=none→H c=none→Same H H'→DrawAt H' l c→Q (.ref l) H'
def spPick : Sp:=fun vs H Q _=>∃ (a c : Addr) (m : Int),vs=[.ref a,.int m]∧DrawAt H a c∧0 < m∧m < 18446744073709551616∧∀ r H',0≤r→r < m→DrawAt H' a c→KeepBut a H H'→Q (.int r) H'
theorem cut_ints (ns : List Int) (lo hi : Option Int) : ∃ ms : List Int,cutV (ns.map V.int) lo hi=ms.map V.int∧ms.length≤ns.length:=by
  unfold cutV
  rw [← List.map_drop,← List.map_take]
  exact ⟨_,rfl,by rw [List.length_take,List.length_drop]; omega⟩
theorem atI_some {xs : List V} {r : Int} {v : V} (h0 : 0≤r) (h : xs[r.toNat]? = some v) : atI xs r=some v:=by
  have:=atI_nat (xs:=xs) (j:=r.toNat) (v:=v) h
  rw [show ((r.toNat : Nat) : Int)=r by omega] at this
  exact this
def Rows (H : Hp) (a : Addr) (rs : List (List Int)) : Prop:=∃ ps : List Addr,H a=some (.lst (ps.map V.ref))∧ps.length=rs.length∧∀ (i : Nat) p r,ps[i]? = some p→rs[i]? = some r→H p=some (.tup (r.map V.int))
theorem Rows.same {H H' : Hp} {a : Addr} {rs : List (List Int)} (h : Rows H a rs) (s : Same H H') : Rows H' a rs:=by
  obtain ⟨ps,h1,h2,h3⟩:=h
  exact ⟨ps,s _ _ h1,h2,fun i p r e1 e2=>s _ _ (h3 i p r e1 e2)⟩
theorem Rows.keep {H H' : Hp} {a l c : Addr} {rs : List (List Int)} (h : Rows H a rs) (n : a≠l) (d : DrawAt H l c) (k : KeepBut l H H') : Rows H' a rs:=by
  obtain ⟨ps,h1,h2,h3⟩:=h
  exact ⟨ps,k _ _ n h1,h2,fun i p r e1 e2=>k _ _ (d.neT (h3 i p r e1 e2)) (h3 i p r e1 e2)⟩
theorem Rows.there {H : Hp} {a : Addr} {rs : List (List Int)} (h : Rows H a rs) : ∃ o,H a=some o:=by
  obtain ⟨ps,h1,_⟩:=h
  exact ⟨_,h1⟩
theorem Rows.get {H : Hp} {a : Addr} {rs : List (List Int)} (h : Rows H a rs) : ∃ xs : List V,H a=some (.lst xs)∧xs.length=rs.length∧∀ (i : Nat) x,xs[i]? = some x→∃ p r,x = .ref p∧rs[i]? = some r∧H p=some (.tup (r.map V.int)):=by
  obtain ⟨ps,h1,h2,h3⟩:=h
  refine ⟨_,h1,by rw [List.length_map,h2],fun i x e=>?_⟩
  rw [List.getElem?_map] at e
  cases q : ps[i]? with
  | none=>rw [q] at e; cases e
  | some p=>
    rw [q] at e
    have hi:=(List.getElem?_eq_some_iff.mp q).1
    have hr : rs[i]? = some (rs[i]'(by omega)):=List.getElem?_eq_getElem (by omega)
    exact ⟨p,_,(Option.some.inj e).symm,hr,h3 i p _ q hr⟩
theorem Rows.push {H : Hp} {a p : Addr} {rs : List (List Int)} {xs : List V} {r : List Int} (h : Rows H a rs) (hx : H a=some (.lst xs)) (hp : H p=none) : Rows (L2.upd (L2.upd H p (.tup (r.map V.int))) a (.lst (xs ++ [.ref p]))) a (rs ++ [r]):=by
  obtain ⟨ps,h1,h2,h3⟩:=h
  rw [hx] at h1
  cases h1
  refine ⟨ps ++ [p],by rw [upd_same,List.map_append]; rfl,by rw [List.length_append,List.length_append,h2]; rfl,fun i q r' e1 e2=>?_⟩
  by_cases hi : i < ps.length
  · rw [List.getElem?_append_left hi] at e1
    rw [List.getElem?_append_left (by omega)] at e2
    have:=h3 i q r' e1 e2
    rw [upd_ne (ne_of this hx (by intro z; cases z)),upd_ne (ne_of_none this hp)]
    exact this
  · have hi' : i=ps.length:=by
      have:=(List.getElem?_eq_some_iff.mp e1).1
      rw [List.length_append,List.length_singleton] at this
      omega
    subst hi'
    rw [List.getElem?_append_right (Nat.le_refl _),Nat.sub_self] at e1
    rw [h2,List.getElem?_append_right (Nat.le_refl _),Nat.sub_self] at e2
    cases e1
    cases e2
    rw [upd_ne (ne_of_none hx hp).symm,upd_same]
theorem Rows.nil {H : Hp} {a : Addr} (h : H a=some (.lst [])) : Rows H a []:=⟨[],h,rfl,fun i p r e=>by cases e⟩
end L2
namespace K34
open PySem L2
def top (i : Nat) : Stmt:=PySem.Challenge.pw_drawback_k34_kinds_and_twins.main.body.getD i (.Pass ⟨0,0,0,0⟩)
abbrev s_begin : Stmt:=top 16
abbrev n_begin : List Str:=["_law_script"]
abbrev p_begin : List Str:=["_law_script"]
theorem sc_begin : FnScope n_begin p_begin (defScope s_begin):=⟨rfl,rfl,rfl,by decide +kernel,rfl,by decide +kernel,by decide +kernel⟩
abbrev s_pick : Stmt:=top 13
abbrev n_pick : List Str:=["_law_draw","_law_many","_law_cell","_law_got"]
abbrev p_pick : List Str:=["_law_draw","_law_many"]
theorem sc_pick : FnScope n_pick p_pick (defScope s_pick):=⟨rfl,rfl,rfl,by decide +kernel,rfl,by decide +kernel,by decide +kernel⟩
section
variable {P : Program} {w : World} {K : PySem.W.Frag} {mg : Str→Option Value} {base : Heap} {f : Addr} {fd : FuncData}
theorem ok_begin (F : Fun K "_law_begin" "_law_begin" s_begin f fd) (B : Bn mg) : FnOk P w K mg base CX0 1 f fd p_begin (spBegin K):=by
  refine F.ok sc_begin (fun vs H Q E h=>?_) (fun cdv A outer s H vs Q E hr h=>?_)
  · obtain ⟨a,ns,rfl,_⟩:=h; rfl
  obtain ⟨a,ns,rfl,hS,hl,q⟩:=h
  refine ⟨_,(pss_one (ps_ret (pe_lst (pa_c (pe_callTy call_list_of rfl B.list PyProof.Rows.boot_list (pa_c (pe_slice sl_list (pv 0) po_none (po_some pe_int)) pa_nil)) (pa_c pe_int (pa_c pe_int (pa_c pe_int (pa_c pe_int pa_nil)))))))),?_⟩
  refine ⟨_,rfl,_,rfl,a,_,rfl,hS,fun p hp=>?_⟩
  obtain ⟨ms,em,hm⟩:=cut_ints ns none (some 63)
  refine ⟨p,_,rfl,.inl (SqL.of upd_same),fun c hc=>?_⟩
  refine ⟨by show 5≤sizeLine; decide,fun l hl'=>?_⟩
  have s1 : Same H (L2.upd H p (.lst (cutV (ns.map V.int) none (some 63)))):=same_new hp _
  have s2:=s1.trans (same_new hc (.lst (cutV (ns.map V.int) none (some 63))))
  have s3:=s2.trans (same_new hl' (.lst [.ref c,.int 0,.int 0,.int 1,.int 0]))
  have ncl : c≠l:=ne_of_none (upd_same (H:=L2.upd H p _) (o:=.lst (cutV (ns.map V.int) none (some 63)))) hl'
  refine q l c _ (s2.free hl') (s1.free hc) s3 ⟨ms,0,0,1,0,upd_same,?_,ncl,by decide,by decide,by decide⟩
  rw [upd_ne ncl,upd_same,em]
theorem ok_pick (F : Fun K "_law_pick" "_law_pick" s_pick f fd) (B : Bn mg) : FnOk P w K mg base CX0 1 f fd p_pick spPick:=by
  refine F.ok sc_pick (fun vs H Q E h=>?_) (fun cdv A outer s H vs Q E hr h=>?_)
  · obtain ⟨a,c,m,rfl,_⟩:=h; rfl
  obtain ⟨a,c,m,rfl,⟨ns,i,x,y,z,d1,d2,nca,hi,hy,hy2⟩,hm,hm2,q⟩:=h
  refine ⟨_,(pss_cons (ps_if (PW.pt (pw_and (pt_cmpR op_lt (pe_ix ix_list (pv 0) pe_int (fun _ _=>rfl)) (pv 1) (nomark _)) (pw_and1 (pt_cmpR op_lt (pe_ix ix_list (pv 0) pe_int (fun _ _=>rfl)) (pe_callB call_len_seq rfl B.len PySem.boot_len (pa_c (pe_ix ix_list (pv 0) pe_int (fun _ _=>rfl)) pa_nil)) (nomark _))))) (pss_cons (ps_set (i:=2) sc_pick.nd rfl (Or.inl rfl) (pe_ix ix_list (pe_ix ix_list (pv 0) pe_int (fun _ _=>rfl)) (pe_ix ix_list (pv 0) pe_int (fun _ _=>rfl)) (fun _ _=>rfl)))
      (pss_cons (ps_asg (pe_op op_add (pe_ix ix_list (pv 0) pe_int (fun _ _=>rfl)) pe_int) (pg_sub (pv 0) pe_int set_list))
      (pss_cons (ps_asg pe_int (pg_sub (pv 0) pe_int set_list))
      (pss_one (ps_if (pt_cmpR op_ge (pv 2) (pe_op op_pow pe_int pe_int) (nomark _)) (pss_one (ps_asg (pv 2) (pg_sub (pv 0) pe_int set_list))) (pss_one (ps_asg (pe_op op_mod (pe_op op_add (pe_ix ix_list (pv 0) pe_int (fun _ _=>rfl)) (pv 2)) pe_int) (pg_sub (pv 0) pe_int set_list)))))))) pss_nil)
    (pss_cons (ps_if (pt_cmpR op_ge (pe_ix ix_list (pv 0) pe_int (fun _ _=>rfl)) (pv 1) (nomark _)) (pss_cons (ps_set (i:=3) sc_pick.nd rfl (Or.inl rfl) (pe_op op_mod (pe_ix ix_list (pv 0) pe_int (fun _ _=>rfl)) (pv 1)))
      (pss_cons (ps_asg (pe_op op_fdivL (pe_ix ix_list (pv 0) pe_int (fun _ _=>rfl)) (pv 1)) (pg_sub (pv 0) pe_int set_list))
      (pss_one (ps_ret (pv 3))))) pss_nil)
    (pss_cons (ps_asg (pe_op op_add (pe_ix ix_list (pv 0) pe_int (fun _ _=>rfl)) pe_int) (pg_sub (pv 0) pe_int set_list))
    (pss_cons (ps_asg (pe_op op_mod (pe_op op_add (pe_op op_add (pe_op op_pow (pe_ix ix_list (pv 0) pe_int (fun _ _=>rfl)) pe_int) (pe_op op_mul pe_int (pe_ix ix_list (pv 0) pe_int (fun _ _=>rfl)))) pe_int) pe_int) (pg_sub (pv 0) pe_int set_list))
    (pss_one (ps_ret (pe_op op_mod (pe_op op_fdivL (pe_ix ix_list (pv 0) pe_int (fun _ _=>rfl)) pe_int) (pv 1)))))))),?_⟩
  refine (show ∀ (u : TS),(∀ (cv : Option V) (H1 : Hp) (i x y z : Int),Draw H1 a c ns i x y z→KeepBut a H H1→u { nx:=fun _ H'=>Q .non H',rt:=Q } [some (.ref a),some (.int m),cv,none] H1)→tSeq _ u _ _ _ from fun u hu=>?_) _ ?_
  · -- if draw[2] < many and draw[1] < len(draw[0])
    refine ⟨_,rfl,a,_,_,.int x,rfl,rfl,SqL.of d1,rfl,_,rfl,_,_,rfl,rfl,_,rfl,?_⟩
    by_cases c1 : x < m
    · rw [decide_eq_true c1]
      refine iteT ⟨_,rfl,a,_,_,.int i,rfl,rfl,SqL.of d1,rfl,_,rfl,a,_,_,.ref c,rfl,rfl,SqL.of d1,rfl,c,_,rfl,.inl (SqL.of d2),_,_,rfl,rfl,_,rfl,?_⟩
      rw [List.length_map]
      by_cases c2 : i < (ns.length : Int)
      · rw [decide_eq_true c2]
        have hk : i.toNat < ns.length:=by omega
        have ei : ((i.toNat : Nat) : Int)=i:=by omega
        have eat : atI (ns.map V.int) i=some (.int ns[i.toNat]):=by
          have:=atI_nat (xs:=ns.map V.int) (j:=i.toNat) (v:=.int ns[i.toNat]) (by rw [List.getElem?_map,List.getElem?_eq_getElem hk]; rfl)
          rw [ei] at this; exact this
        refine iteT ⟨_,rfl,a,_,_,.ref c,rfl,rfl,SqL.of d1,rfl,_,rfl,a,_,_,.int i,rfl,rfl,SqL.of d1,rfl,c,_,_,.int ns[i.toNat],rfl,rfl,SqL.of d2,eat,?_⟩
        generalize ns[i.toNat]=v
        refine ⟨_,rfl,a,_,_,.int i,rfl,rfl,SqL.of d1,rfl,_,_,rfl,rfl,_,rfl,a,_,_,1,rfl,rfl,d1,rfl,?_⟩
        refine ⟨_,rfl,a,_,_,2,rfl,rfl,upd_same,rfl,?_⟩
        rw [upd_upd]
        have e2 : L2.upd H a (.lst [.ref c,.int (i + 1),.int 0,.int y,.int z]) c=some (.lst (ns.map V.int)):=by rw [upd_ne nca]; exact d2
        refine ⟨_,rfl,_,_,rfl,rfl,⟨by decide,by decide,by decide⟩,_,_,rfl,rfl,_,rfl,?_⟩
        refine ite2 (fun _=>?_) (fun _=>?_)
        · refine ⟨_,rfl,_,rfl,a,_,_,2,rfl,rfl,upd_same,rfl,?_⟩
          rw [upd_upd]
          exact hu _ _ (i + 1) v y z ⟨upd_same,by rw [upd_ne nca]; exact d2,nca,by omega,hy,hy2⟩ KeepBut.refl.upd
        · refine ⟨_,rfl,a,_,_,.int y,rfl,rfl,SqL.of upd_same,rfl,_,rfl,_,_,rfl,rfl,_,_,rfl,rfl,(by show (0 : Int) < 1000000007; decide),_,rfl,a,_,_,3,rfl,rfl,upd_same,rfl,?_⟩
          rw [upd_upd]
          exact hu _ _ (i + 1) 0 ((y + v) % 1000000007) z ⟨upd_same,by rw [upd_ne nca]; exact d2,nca,by omega,by omega,by omega⟩ KeepBut.refl.upd
      · rw [decide_eq_false c2]
        exact iteF (hu _ H i x y z ⟨d1,d2,nca,hi,hy,hy2⟩ KeepBut.refl)
    · rw [decide_eq_false c1]
      exact iteF (iteF (hu _ H i x y z ⟨d1,d2,nca,hi,hy,hy2⟩ KeepBut.refl))
  · -- the rest
    clear d1 d2 hi hy hy2 i x y z
    rintro cv H1 i x y z ⟨d1,d2,_,hi,hy,hy2⟩ kb
    refine ⟨_,rfl,a,_,_,.int x,rfl,rfl,SqL.of d1,rfl,_,rfl,_,_,rfl,rfl,_,rfl,?_⟩
    by_cases c1 : m≤x
    · rw [decide_eq_true c1]
      refine iteT ⟨_,rfl,a,_,_,.int x,rfl,rfl,SqL.of d1,rfl,_,rfl,_,_,rfl,rfl,hm,?_⟩
      refine ⟨_,rfl,a,_,_,.int x,rfl,rfl,SqL.of d1,rfl,_,rfl,_,_,rfl,rfl,⟨hm,hm2⟩,_,rfl,a,_,_,2,rfl,rfl,d1,rfl,?_⟩
      refine ⟨_,rfl,?_⟩
      exact q _ _ (Int.emod_nonneg _ (by omega)) (Int.emod_lt_of_pos _ hm) ⟨ns,i,x / m,y,z,upd_same,by rw [upd_ne nca]; exact d2,nca,hi,hy,hy2⟩ kb.upd
    · rw [decide_eq_false c1]
      refine iteF ?_
      refine ⟨_,rfl,a,_,_,.int z,rfl,rfl,SqL.of d1,rfl,_,_,rfl,rfl,_,rfl,a,_,_,4,rfl,rfl,d1,rfl,?_⟩
      refine ⟨_,rfl,a,_,_,.int y,rfl,rfl,SqL.of upd_same,rfl,_,_,rfl,rfl,⟨by decide,by decide,by omega⟩,_,rfl,a,_,_,.int (z + 1),rfl,rfl,SqL.of upd_same,rfl,_,_,rfl,rfl,.inl ⟨by decide,by decide⟩,_,_,rfl,rfl,_,_,rfl,rfl,_,_,rfl,rfl,(by show (0 : Int) < 1000000007; decide),_,rfl,a,_,_,3,rfl,rfl,upd_same,rfl,?_⟩
      rw [upd_upd]
      have hy4 : 0≤(y ^ (3 : Int).toNat + 40503 * (z + 1) + 17) % 1000000007∧(y ^ (3 : Int).toNat + 40503 * (z + 1) + 17) % 1000000007 < 1000000007:=⟨Int.emod_nonneg _ (by decide),Int.emod_lt_of_pos _ (by decide)⟩
      refine ⟨_,rfl,a,_,_,.int ((y ^ (3 : Int).toNat + 40503 * (z + 1) + 17) % 1000000007),rfl,rfl,SqL.of upd_same,rfl,_,_,rfl,rfl,⟨by decide,by decide⟩,_,rfl,_,_,rfl,rfl,hm,?_⟩
      exact q _ _ (Int.emod_nonneg _ (by omega)) (Int.emod_lt_of_pos _ hm) ⟨ns,i,x,(y ^ (3 : Int).toNat + 40503 * (z + 1) + 17) % 1000000007,z + 1,upd_same,by rw [upd_ne nca]; exact d2,nca,hi,hy4.1,hy4.2⟩ kb.upd
variable (B : Bn mg) (G_pick : Cal P w K mg base CX0 1 "_law_pick" p_pick spPick)
include B G_pick
end
end K34
namespace L2
open PySem PySem.Spec PyProof.Rows
structure CalM (P : Program) (w : World) (K : PySem.W.Frag) (mg : Str→Option Value) (base : Heap) (CX : CXT) (k : Nat) (C : Addr) (m : Str) (ps : List Str) (sp : Sp) : Prop where
  ex : ∃ (f : Addr) (fd : FuncData),FnOk P w K mg base CX k f fd ps sp∧Binds K fd ps []∧Meth K C m f
structure CalI (P : Program) (w : World) (K : PySem.W.Frag) (mg : Str→Option Value) (base : Heap) (CX : CXT) (k : Nat) (C : Addr) (x : Str) (ps : List Str) (sp : Sp) : Prop where
  ex : ∃ (f : Addr) (fd : FuncData),FnOk P w K mg base CX k f fd ps sp∧Binds K fd ps []∧Mk K C f∧mg x=some (.ref C)
section
variable {X : Cx} {CX : CXT} {k j : Nat} {ps : List Str} {sp : Sp} {E : XK} {C : Addr} {m : Str} {apos pos p : PySem.Pos} {o e : Expr} {es : List Expr} {t : TA} {ta : TE}
theorem pe_calM {pl : Sem Bool} (F : CalM X.prog X.w X.K X.mg X.base CX k C m ps sp) (c : Cls X.K C) (hr : Room j X.A) (hx : Passes CX X E) (he : PE X o ta) (ha : PA X (e :: es) t) (hk : k≤j:=by decide)
    (hst : starEach (e :: es) X.env=(false,eval e X.env) :: starEach es X.env:=by rfl) (hpl : (backTo pos (starEach es X.env)).any (·.1)=false:=by rfl)
    (ht : eval (.Call (.Attribute o m apos) (e :: es) [] pos) X.env=(do let ov ← eval o X.env; standAt apos.atName; let (f,first) ← holding [ov] (getMethod ov m pl); callWith pos f first (backTo pos (starEach (e :: es) X.env)) (backToKw pos (keywordEach [] X.env))):=by rfl) :
    PE X (.Call (.Attribute o m apos) (e :: es) [] pos) (tMeth C m sp [] E ta t):=by
  obtain ⟨f,fd,h1,h2,h3⟩:=F.ex
  exact pe_meth (pl:=pl) he c h3 (h1.mono hk) hr h2 .nil hx ha hst hpl ht
theorem pe_calM0 {pl : Sem Bool} (F : CalM X.prog X.w X.K X.mg X.base CX k C m ps sp) (c : Cls X.K C) (hr : Room j X.A) (hx : Passes CX X E) (he : PE X o ta) (hk : k≤j:=by decide)
    (ht : eval (.Call (.Attribute o m apos) [] [] pos) X.env=(do let ov ← eval o X.env; standAt apos.atName; let (f,first) ← holding [ov] (getMethod ov m pl); callWith pos f first (backTo pos (starEach [] X.env)) (backToKw pos (keywordEach [] X.env))):=by rfl) :
    PE X (.Call (.Attribute o m apos) [] [] pos) (tMeth C m sp [] E ta tNil):=by
  obtain ⟨f,fd,h1,h2,h3⟩:=F.ex
  exact pe_meth0 (pl:=pl) he c h3 (h1.mono hk) hr h2 .nil hx ht
theorem pe_calI0 {x : Str} (F : CalI X.prog X.w X.K X.mg X.base CX k C x ps sp) (hr : Room j X.A) (hg : Gl X x) (hx : Passes CX X E) (hk : k + 1≤j:=by decide) (hdb : (x == ("__debug__" : Str))=false:=by decide) : PE X (.Call (.Name x p) [] [] pos) (tMake C sp [] E tNil):=by
  obtain ⟨f,fd,h1,h2,h3,h4⟩:=F.ex
  exact pe_make0 h3 h1 (hr.mono hk) hg h4 h2 .nil hx hdb
end
end L2
namespace L2
open PySem PySem.Spec PyProof.Rows
section
variable {κ : Type} [DecidableEq κ]
def valV (kvs : List (κ×V)) (k : κ) : Option V:=(kvs.find? fun kv=>decide (kv.1=k)).map (·.2)
def putK (kvs : List (κ×V)) (k : κ) (v : V) : List (κ×V):=
  if (kvs.any fun kv=>decide (kv.1=k))=true then kvs.map (fun kv=>if kv.1=k then (kv.1,v) else kv) else kvs ++ [(k,v)]
theorem valV_pos {p : κ×V} {r : List (κ×V)} {k : κ} (e : p.1=k) : valV (p :: r) k=some p.2:=by simp [valV,List.find?_cons,e]
theorem valV_neg {p : κ×V} {r : List (κ×V)} {k : κ} (e : ¬ p.1=k) : valV (p :: r) k=valV r k:=by simp [valV,List.find?_cons,e]
theorem valV_any (k : κ) : ∀ kvs : List (κ×V),(kvs.any fun kv=>decide (kv.1=k))=(valV kvs k).isSome
  | []=>rfl
  | p :: r=>by
    rw [List.any_cons]
    by_cases e : p.1=k
    · simp only [valV_pos e,decide_eq_true e,Bool.true_or,Option.isSome_some]
    · rw [valV_neg e,decide_eq_false e,Bool.false_or]; exact valV_any k r
theorem length_putK (kvs : List (κ×V)) (k : κ) (v : V) : (putK kvs k v).length≤kvs.length + 1:=by
  unfold putK
  split
  · rw [List.length_map]; omega
  · rw [List.length_append,List.length_cons,List.length_nil]; omega
theorem RelO.isSome_eq {o : Option V} {u : Option Value} (r : RelO o u) : o.isSome=u.isSome:=by
  cases o with
  | none=>cases u with
    | none=>rfl
    | some _=>exact (show False from r).elim
  | some _=>cases u with
    | none=>exact (show False from r).elim
    | some _=>rfl
theorem RelO.getD {o : Option V} {u : Option Value} {d : V} {d' : Value} (r : RelO o u) (rd : RelV d d') : RelV (o.getD d) (u.getD d'):=by
  cases o with
  | none=>cases u with
    | none=>exact rd
    | some _=>exact (show False from r).elim
  | some _=>cases u with
    | none=>exact (show False from r).elim
    | some _=>exact r
theorem KV.val {kvs : List (κ×V)} {vs : List (κ×Value)} (r : KV kvs vs) (k : κ) : RelO (valV kvs k) (valueAt vs k):=by
  unfold KV at r
  induction r with
  | nil=>exact True.intro
  | @cons p q ps qs h t ih=>
    obtain ⟨h1,h2⟩:=h
    by_cases e : p.1=k
    · have e' : q.1=k:=h1.symm.trans e
      have b : valueAt (q :: qs) k=some q.2:=by simp [valueAt,List.find?_cons,e']
      rw [valV_pos e,b]; exact h2
    · have e' : ¬ q.1=k:=fun z=>e (h1.trans z)
      have b : valueAt (q :: qs) k=valueAt qs k:=by simp [valueAt,List.find?_cons,e']
      rw [valV_neg e,b]; exact ih
theorem KV.any {kvs : List (κ×V)} {vs : List (κ×Value)} (r : KV kvs vs) (k : κ) : (kvs.any fun kv=>decide (kv.1=k))=vs.any fun kv=>decide (kv.1=k):=by
  unfold KV at r
  induction r with
  | nil=>rfl
  | cons h t ih=>rw [List.any_cons,List.any_cons,ih,h.1]
theorem KV.repl {kvs : List (κ×V)} {vs : List (κ×Value)} (r : KV kvs vs) (k : κ) {y : V} {u : Value} (ry : RelV y u) :
    KV (kvs.map fun kv=>if kv.1=k then (kv.1,y) else kv) (vs.map fun kv=>if kv.1=k then (kv.1,u) else kv):=by
  unfold KV at r ⊢
  induction r with
  | nil=>exact .nil
  | @cons p q ps qs h t ih=>
    rw [List.map_cons,List.map_cons]
    refine .cons ?_ ih
    obtain ⟨h1,h2⟩:=h
    by_cases e : p.1=k
    · rw [if_pos e,if_pos (h1.symm.trans e)]; exact ⟨h1,ry⟩
    · rw [if_neg e,if_neg (fun z=>e (h1.trans z))]; exact ⟨h1,h2⟩
theorem KV.put {kvs : List (κ×V)} {vs : List (κ×Value)} (r : KV kvs vs) (k : κ) {y : V} {u : Value} (ry : RelV y u) : KV (putK kvs k y) (stored vs k u):=by
  unfold putK stored
  rw [r.any k]
  by_cases e : (vs.any fun kv=>decide (kv.1=k))=true
  · rw [if_pos e,if_pos e]; exact r.repl k ry
  · rw [if_neg e,if_neg e]; exact Paired.snoc r ⟨rfl,ry⟩
theorem KV.keys {kvs : List (κ×V)} {vs : List (κ×Value)} (r : KV kvs vs) : kvs.map (·.1)=vs.map (·.1):=by
  unfold KV at r
  induction r with
  | nil=>rfl
  | cons h t ih=>rw [List.map_cons,List.map_cons,ih,h.1]
theorem KV.length {kvs : List (κ×V)} {vs : List (κ×Value)} (r : KV kvs vs) : kvs.length=vs.length:=Paired.length r
end
theorem kV_is {P : Program} {w : World} {k : Key} {u : Value} (r : RelV (kV k) u) : (mixKind P w).is k u=true:=by
  cases k with
  | inl i=>obtain ⟨t,e⟩:=(show ∃ t,u=Value.int i t from r); subst e; exact mixKind_int P w i t
  | inr x=>obtain ⟨t,e⟩:=(show ∃ t,u=Value.str x t from r); subst e; exact mixKind_str P w x t
theorem items_are {P : Program} {w : World} : ∀ {ks : List Key} {us : List Value},Vals (ks.map kV) us→ItemsAre (mixKind P w) ks us
  | [],_,r=>by rw [List.map_nil] at r; cases r; exact .nil
  | k :: ks,_,r=>by
    rw [List.map_cons] at r
    cases r with
    | cons h t=>exact .cons (kV_is h) (items_are t)
abbrev KT (H : Hp) : List (List Key×V)→List (List Key×Addr×Value)→Prop:=Paired fun p q=>p.1=q.1∧H q.2.1=some (.tup (p.1.map kV))∧RelV p.2 q.2.2
theorem KT.val {H : Hp} {kvs : List (List Key×V)} {xs : List (List Key×Addr×Value)} (r : KT H kvs xs) (k : List Key) : RelO (valV kvs k) ((atKey xs k).map (·.2)):=by
  induction r with
  | nil=>exact True.intro
  | @cons p q ps qs h t ih=>
    obtain ⟨h1,_,h2⟩:=h
    by_cases e : p.1=k
    · have e' : q.1=k:=h1.symm.trans e
      have b : atKey (q :: qs) k=some q.2:=by simp [atKey,List.find?_cons,e']
      rw [valV_pos e,b]; exact h2
    · have e' : ¬ q.1=k:=fun z=>e (h1.trans z)
      have b : atKey (q :: qs) k=atKey qs k:=by simp [atKey,List.find?_cons,e']
      rw [valV_neg e,b]; exact ih
theorem KT.repl {H : Hp} {kvs : List (List Key×V)} {xs : List (List Key×Addr×Value)} (r : KT H kvs xs) (k : List Key) {y : V} {u : Value} (ry : RelV y u) :
    KT H (kvs.map fun kv=>if kv.1=k then (kv.1,y) else kv) (xs.map (putAt k u)):=by
  induction r with
  | nil=>exact .nil
  | @cons p q ps qs h t ih=>
    rw [List.map_cons,List.map_cons]
    refine .cons ?_ ih
    obtain ⟨h1,h2,h3⟩:=h
    unfold putAt
    by_cases e : p.1=k
    · rw [if_pos e,if_pos (h1.symm.trans e)]; exact ⟨h1,h2,ry⟩
    · rw [if_neg e,if_neg (fun z=>e (h1.trans z))]; exact ⟨h1,h2,h3⟩
theorem KT.put {H : Hp} {kvs : List (List Key×V)} {xs : List (List Key×Addr×Value)} (r : KT H kvs xs) (k : List Key) {b : Addr} {y : V} {u : Value} (hb : H b=some (.tup (k.map kV))) (ry : RelV y u) :
    KT H (putK kvs k y) (storedH xs k b u):=by
  have e : (kvs.any fun kv=>decide (kv.1=k))=(atKey xs k).isSome:=by
    rw [valV_any,(r.val k).isSome_eq,Option.isSome_map]
  unfold putK storedH
  rw [e]
  by_cases q : (atKey xs k).isSome=true
  · rw [if_pos q,if_pos q]; exact r.repl k ry
  · rw [if_neg q,if_neg q]; exact Paired.snoc r ⟨rfl,hb,ry⟩
theorem KT.keeps {H H' : Hp} {kvs : List (List Key×V)} {xs : List (List Key×Addr×Value)} (r : KT H kvs xs) (ht : ∀ b ys,H b=some (.tup ys)→H' b=some (.tup ys)) : KT H' kvs xs:=
  Paired.mapP r fun _ _ z=>⟨z.1,ht _ _ z.2.1,z.2.2⟩
section
variable {P : Program} {w : World} {H : Hp} {h : Heap} {a : Addr}
theorem rd_of {u : HO} (ok : HOk P w H h) (e : Rd H a u) : ObjOk P w H h a u:=e.ok ok
theorem dk_rd {kvs : List (Key×V)} (ok : HOk P w H h) (e : Rd H a (.dK kvs)) : kvs.length≤sizeLine∧(a == sysModules)=false∧∃ vs,KV kvs vs∧h.DictOf (mixKind P w) a vs:=
  show ObjOk P w H h a (.dK kvs) from rd_of ok e
theorem dk_of {kvs : List (Key×V)} (ok : HOk P w H h) (e : H a=some (.dK kvs)) : kvs.length≤sizeLine∧(a == sysModules)=false∧∃ vs,KV kvs vs∧h.DictOf (mixKind P w) a vs:=dk_rd ok (.inl e)
theorem key_of {ks : List Key} (ok : HOk P w H h) (e : H a=some (.tup (ks.map kV))) : (tupleKind (mixKind P w)).is h ks a:=by
  obtain ⟨_,its,r,o,h1,h2,n,h3⟩:=(show ObjOk P w H h a (.tup (ks.map kV)) from ok a _ e)
  exact ⟨o,its.toArray,n,h1,h2,h3,by simpa using items_are r⟩
theorem dt_rd {kvs : List (List Key×V)} (ok : HOk P w H h) (e : Rd H a (.dT kvs)) : kvs.length≤sizeLine∧(a == sysModules)=false∧
    ∃ xs,KT H kvs xs∧h.DictOfH (tupleKind (mixKind P w)) a xs:=by
  obtain ⟨z,y,xs,r,o,es,ep,h1,h2,h3,h4,h5⟩:=(show ObjOk P w H h a (.dT kvs) from rd_of ok e)
  refine ⟨z,y,xs,r,o,es,ep,h1,h2,h3,h4,fun x hx=>?_,h5⟩
  have all : ∀ {l : List (List Key×V)} {m : List (List Key×Addr×Value)},KT H l m→∀ x∈m,(tupleKind (mixKind P w)).is h x.1 x.2.1:=by
    intro l m q
    induction q with
    | nil=>intro x hx; exact nomatch hx
    | @cons p q ps qs hq t ih=>
      intro x hx
      rcases List.mem_cons.mp hx with e | hx
      · subst e
        exact key_of ok (by rw [← hq.1]; exact hq.2.1)
      · exact ih x hx
  exact all r x hx
theorem dt_of {kvs : List (List Key×V)} (ok : HOk P w H h) (e : H a=some (.dT kvs)) : kvs.length≤sizeLine∧(a == sysModules)=false∧
    ∃ xs,KT H kvs xs∧h.DictOfH (tupleKind (mixKind P w)) a xs:=dt_rd ok (.inl e)
end
def DGet (H : Hp) (a : Addr) (y : V) (r : Option V) : Prop:=
  (∃ kvs k,Rd H a (.dK kvs)∧y=kV k∧r=valV kvs k)∨∃ kvs k b,Rd H a (.dT kvs)∧y = .ref b∧H b=some (.tup (k.map kV))∧r=valV kvs k
def DPut (H : Hp) (a : Addr) (y v : V) (H' : Hp) : Prop:=
  (∃ kvs k,H a=some (.dK kvs)∧y=kV k∧kvs.length < sizeLine∧H' = upd H a (.dK (putK kvs k v)))∨
  ∃ kvs k b,H a=some (.dT kvs)∧y = .ref b∧H b=some (.tup (k.map kV))∧kvs.length < sizeLine∧H' = upd H a (.dT (putK kvs k v))
theorem DGet.k {H : Hp} {a : Addr} {kvs : List (Key×V)} {k : Key} (e : H a=some (.dK kvs)) : DGet H a (kV k) (valV kvs k):=.inl ⟨kvs,k,.inl e,rfl,rfl⟩
theorem DPut.k {H : Hp} {a : Addr} {kvs : List (Key×V)} {k : Key} {v : V} (e : H a=some (.dK kvs)) (hl : kvs.length < sizeLine) : DPut H a (kV k) v (upd H a (.dK (putK kvs k v))):=.inl ⟨kvs,k,e,rfl,hl,rfl⟩
section
variable {X : Cx} {pins : List (Addr×Obj)} {σ : St} {H : Hp} {s : Shared} {a : Addr} {y v : V} {u r : Value} {o : Option V} {A : Around} {E : Value→Shared→Prop}
theorem Inv.big (I : Inv X pins σ H s) : sysModules < s.heap.objs.size:=by
  have h : mainGlobals < s.heap.objs.size:=(I.mod.glob.keeps I.bk).lt
  exact Nat.lt_trans (by decide) h
theorem d_getItem {Q : Value→Shared→Prop} (hu : A.units + 1 < cLine) (I : Inv X pins σ H s) (g : DGet H a y (some v)) (ry : RelV y u) (h : ∀ w' s',Inv X pins σ H s'→RelV v w'→Q w' s') :
    wpAny (model X.prog X.w) A (getItem (.ref a) u) Q E s:=by
  rcases g with ⟨kvs,k,e,ey,l⟩ | ⟨kvs,k,b,e,ey,eb,l⟩
  · subst ey
    obtain ⟨z,hd,vs,rel,dd⟩:=dk_rd I.hok e
    obtain ⟨w',hw,rw'⟩:=RelO.some_of (v:=v) (o:=valueAt vs k) (by rw [l]; exact rel.val k)
    exact wpAny_getItem_of (kV_is ry) dd.mapOf hw (h w' _ (I.tok _) rw')
  · subst ey
    cases (show u=Value.ref b from ry)
    obtain ⟨z,hd,xs,rel,dd⟩:=dt_rd I.hok e
    obtain ⟨w',hw,rw'⟩:=RelO.some_of (v:=v) (o:=(atKey xs k).map (·.2)) (by rw [l]; exact rel.val k)
    obtain ⟨p,hp,hp2⟩:=Option.map_eq_some_iff.mp hw
    refine wpAny_getItem_heap (tupleKind_room_in1 hu) (key_of I.hok eb) dd hp ?_
    rw [hp2]
    exact h w' _ (I.tok _) rw'
theorem d_write {h' : Heap} {t' : Nat} {ob : HO} (I : Inv X pins σ H s) (mu : Mut (H a)) (hs : Heap.SameBut a s.heap h') (he : ∃ q,h'.get? a=some q) (new : ObjOk X.prog X.w (upd H a ob) h' a ob) :
    Inv X pins σ (upd H a ob) { s with heap:=h',toks:=t' }:=
  I.write (x:=a) (e:=a) mu (.inl rfl) (fun b q hb z=>(hs.2 b hb).trans z) he new
theorem dk_new {P : Program} {w : World} {H' : Hp} {h' : Heap} {kvs : List (Key×V)} {vs : List (Key×Value)} (z : kvs.length≤sizeLine) (hd : (a == sysModules)=false) (rel : KV kvs vs) (dd : h'.DictOf (mixKind P w) a vs) :
    ObjOk P w H' h' a (.dK kvs):=⟨z,hd,vs,rel,dd⟩
theorem d_setItem {H' : Hp} {Q : Unit→Shared→Prop} (hu : A.units + 1 < cLine) (I : Inv X pins σ H s) (g : DPut H a y v H') (ry : RelV y u) (rv : RelV v r) (h : ∀ s',Inv X pins σ H' s'→Q () s') :
    wpAny (model X.prog X.w) A (setItem (.ref a) u r) Q E s:=by
  rcases g with ⟨kvs,k,e,ey,l,eH⟩ | ⟨kvs,k,b,e,ey,eb,l,eH⟩
  · subst ey eH
    obtain ⟨z,hd,vs,rel,dd⟩:=dk_of I.hok e
    have hz : vs.length≤sizeLine:=by rw [← rel.length]; exact z
    have hl : (putK kvs k v).length≤sizeLine:=by have:=length_putK kvs k v; omega
    refine wpAny_setItem_pairs (hsz:=hz) (kV_is ry) dd fun h' dd' hs=>h _ ?_
    have he : ∃ q,h'.get? a=some q:=let ⟨q,_,_,hq,_⟩:=dd'; ⟨q,hq⟩
    exact d_write I (by rw [e]; exact True.intro) hs he (dk_new hl hd (rel.put k rv) dd')
  · subst ey eH
    cases (show u=Value.ref b from ry)
    obtain ⟨z,hd,xs,rel,dd⟩:=dt_of I.hok e
    have hz : xs.length≤sizeLine:=by rw [← Paired.length rel]; exact z
    have hl : (putK kvs k v).length≤sizeLine:=by have:=length_putK kvs k v; omega
    refine wpAny_setItem_heap (hsz:=hz) (tupleKind_room_in1 hu) (key_of I.hok eb) dd fun h' dd' hs=>h _ ?_
    obtain ⟨q,es,ep,hq,h2,h3,h4,_,h5⟩:=dd'
    refine d_write I (by rw [e]; exact True.intro) hs ⟨q,hq⟩ ⟨hl,hd,_,(rel.put k eb rv).keeps fun c ys ec=>?_,q,es,ep,hq,h2,h3,h4,h5⟩
    rw [upd_ne (ne_of ec e (fun z=>nomatch z))]
    exact ec
end
section
variable {X : Cx} {pins : List (Addr×Obj)} {σ : St} {H : Hp} {s : Shared} {a : Addr} {kvs : List (Key×V)} {k : Key} {u : Value} {A : Around} {E : Value→Shared→Prop}
end
def NoSl (i : Expr) : Prop:=∀ ov iv,subscripted i false ov iv=operate [ov,iv] (getItem ov iv)
theorem subD_of {prog : Program} {w : World} {A : Around} {E : Value→Shared→Prop} {s : Shared} {env : Env} {value slice : Expr} {pos : Pos} {T id : String} {Q : Value→Shared→Prop}
    (hl : typeLookup (.type T) "__getitem__" = pure (some (.builtin id))) (hs : NoSl slice)
    (h : wpAny (model prog w) A (eval value env) (fun o s₁=>wpAny (model prog w) A (eval slice env) (fun i s₂=>s₂.TypeIs o T∧wpAny (model prog w) A (getItem o i) Q E s₂) E s₁) E s) :
    wpAny (model prog w) A (eval (.Subscript value slice pos) env) Q E s:=by
  refine Subscript_ (wpAny_mono h (fun o s₁ h₁=>wpAny_mono h₁ (fun i s₂ h₂=>?_) fun _ _ x=>x) fun _ _ x=>x)
  obtain ⟨hT,h₂⟩:=h₂
  unfold subscriptTail
  refine wpAny_bind ?_
  rw [getitemInPython_of_ne hT.not_modules]
  refine wpAny_bind (wpAny_specialOf hT hl ?_)
  have fin : wpAny (model prog w) A (subscripted slice false o i) (fun r s₃=>wpAny (model prog w) A (letTemporaryGo value o r >>= fun _=>pure r) Q E s₃) E s₂:=by
    rw [hs o i]
    exact wpAny_operating (wpAny_mono h₂ (fun r s₃ h₃=>wpAny_bind (wpAny_letTemporaryGo (wpAny_pure h₃))) fun _ _ x=>x)
  first
    | exact wpAny_pure (wpAny_bind fin)
    | exact wpAny_bind (wpAny_pure (wpAny_bind fin))
    | exact wpAny_bind fin
theorem dict_typeIs {X : Cx} {pins : List (Addr×Obj)} {σ : St} {H : Hp} {s : Shared} {a : Addr} {y : V} {o : Option V} (I : Inv X pins σ H s) (g : DGet H a y o) : s.TypeIs (.ref a) "dict" := by
  rcases g with ⟨kvs,k,e,_,_⟩ | ⟨kvs,k,b,e,_,_,_⟩
  · obtain ⟨_,_,vs,_,dd⟩:=dk_rd I.hok e
    exact dd.typeIs
  · obtain ⟨_,_,xs,_,dd⟩:=dt_rd I.hok e
    exact dd.typeIs
def tDGet (td ty : TE) : TE:=fun σ H Q=>td σ H fun x H1=>ty σ H1 fun y H2=>∃ a v,x = .ref a∧DGet H2 a y (some v)∧Q v H2
def sDPut (td ty tv : TE) : TS:=fun D σ H=>tv σ H fun v H1=>td σ H1 fun x H2=>ty σ H2 fun y H3=>∃ a H4,x = .ref a∧DPut H3 a y v H4∧D.nx σ H4
section
variable {X : Cx} {o i e value : Expr} {pos pos' tpos : Pos} {td ty tv : TE}
theorem pe_dget (hu : X.A.units + 1 < cLine) (ho : PE X o td) (hi : PE X i ty) (hs : NoSl i) : PE X (.Subscript o i pos) (tDGet td ty):=by
  intro pins s σ H Q I h
  refine subD_of PySem.F.slot_dict_getitem.lookup hs (thn (ho pins s σ H _ I h) fun u s1 ⟨x,H1,I1,rx,q1⟩=>thn (hi pins s1 σ H1 _ I1 q1) fun iv s2 ⟨y,H2,I2,ry,a,v,ex,g,q2⟩=>?_)
  subst ex
  obtain rfl : u=Value.ref a:=rx
  exact ⟨dict_typeIs I2 g,d_getItem hu I2 g ry fun w' s3 I3 rw'=>⟨v,H2,I3,rw',q2⟩⟩
theorem ps_dput (hu : X.A.units + 1 < cLine) (ho : PE X o td) (hi : PE X i ty) (hv : PE X value tv) (hs : swapsWith value (some (.Subscript o i pos')) pos.line X.env=pure false) :
    PS X (.Assign [.Subscript o i pos'] value pos) (sDPut td ty tv):=by
  intro pins s σ H D I h
  refine wpAny_Assign_Subscript (thn (hv pins s σ H _ I h) fun r s1 ⟨v,H1,I1,rv,q1⟩=>thn (ho pins s1 σ H1 _ I1 q1) fun u s2 ⟨x,H2,I2,rx,q2⟩=>thn (hi pins s2 σ H2 _ I2 q2) fun iv s3 ⟨y,H3,I3,ry,a,H4,ex,g,q3⟩=>?_) hs
  subst ex
  obtain rfl : u=Value.ref a:=rx
  exact d_setItem hu I3 g ry rv fun s4 I4=>⟨σ,H4,I4,q3⟩
end
theorem dk_empty {P : Program} {w : World} {H : Hp} (h : Heap) (hb : sysModules < h.objs.size) : ObjOk P w H (h.push { cls:=.type "dict",data:=.dict #[] }) h.objs.size (.dK []) :=
  ⟨Nat.zero_le _,beq_eq_false_iff_ne.mpr (Ne.symm (Nat.ne_of_lt hb)),[],.nil,Heap.DictOf.new h⟩
def tDNewK : TE:=fun _ H Q=>∀ p,H p=none→Q (.ref p) (upd H p (.dK []))
section
variable {X : Cx} {pos : Pos}
theorem pe_dnewK : PE X (.Dict [] [] pos) tDNewK:=fun pins s σ H Q I h=>
  wpAny_Dict_empty ⟨.ref s.heap.objs.size,_,I.laid (a:=s.heap.objs.size) (o:=.dK []) (t':=s.toks) (fun _ _ q=>Heap.get?_push_of_some _ q) (Nat.le_refl _) (dk_empty s.heap I.big),rfl,h _ (I.hok.fresh (Nat.le_refl _))⟩
end
structure M2 (X : Cx) (o : Expr) (m : Str) (apos : Pos) (e f : Expr) (cpos : Pos) : Prop where
  base : attributeBase o m X.env (eval o X.env)=eval o X.env
  few : ((backTo cpos (starEach [e,f] X.env)).all (fun x=>!x.1) && (backToKw cpos (keywordEach [] X.env)).all (fun x=>x.1.isSome)
    && decide (([e,f] : List Expr).length + ([] : List Keyword).length + (if ([] : List Keyword).isEmpty then 0 else 1) < 30))=true
  line : (apos.endLine == cpos.line)=true
  trees : backTo cpos (starEach [e,f] X.env)=[(false,eval e X.env),(false,eval f X.env)]
def IsD (H : Hp) (a : Addr) : Prop:=(∃ kvs,Rd H a (.dK kvs))∨∃ kvs,Rd H a (.dT kvs)
theorem isD_at {X : Cx} {pins : List (Addr×Obj)} {σ : St} {H : Hp} {s : Shared} {a : Addr} (I : Inv X pins σ H s) (d : IsD H a) :
    s.TypeIs (.ref a) "dict" ∧ (∀ b,Value.ref a = .ref b→∃ ob,s.heap.get? b=some ob∧ob.dict=none)∧(a == sysModules)=false:=by
  rcases d with ⟨kvs,e⟩ | ⟨kvs,e⟩
  · obtain ⟨_,hd,vs,_,dd⟩:=dk_rd I.hok e
    refine ⟨dd.typeIs,fun b q=>?_,hd⟩
    cases q
    obtain ⟨ob,_,_,h1,h2,_⟩:=dd
    exact ⟨ob,h1,h2.2.1⟩
  · obtain ⟨_,hd,xs,_,dd⟩:=dt_rd I.hok e
    refine ⟨dd.typeIs,fun b q=>?_,hd⟩
    cases q
    obtain ⟨ob,_,_,h1,h2,_⟩:=dd
    exact ⟨ob,h1,h2.2.1⟩
section
variable {X : Cx} {pins : List (Addr×Obj)} {σ : St} {H : Hp} {s : Shared} {a : Addr} {y d : V} {u r : Value} {o : Option V} {A : Around} {E : Value→Shared→Prop}
theorem d_get2 {Q : Value→Shared→Prop} (hu : A.units + 1 < cLine) (I : Inv X pins σ H s) (g : DGet H a y o) (ry : RelV y u) (rd : RelV d r) (h : ∀ w' s',Inv X pins σ H s'→RelV (o.getD d) w'→Q w' s') :
    wpAny (model X.prog X.w) A (call (.builtin "dict.get") [.ref a,u,r]) Q E s:=by
  rcases g with ⟨kvs,k,e,ey,l⟩ | ⟨kvs,k,b,e,ey,eb,l⟩
  · subst ey
    obtain ⟨z,hd,vs,rel,dd⟩:=dk_rd I.hok e
    refine call_meetsIn PySem.F.slot_dict_get dd.typeIs PySem.F.entry_dict_get (PySem.F.args_dict_get_3 _ _ _) (meets_dict_get_default (mixKind X.prog X.w) a (kV_is ry) hd r) ⟨_,dd.mapOf,h _ _ (I.tok _) ?_⟩
    rw [l]
    exact (rel.val k).getD rd
  · subst ey
    cases (show u=Value.ref b from ry)
    obtain ⟨z,hd,xs,rel,dd⟩:=dt_rd I.hok e
    refine call_meetsIn PySem.F.slot_dict_get dd.typeIs PySem.F.entry_dict_get (PySem.F.args_dict_get_3 _ _ _) (meetsH_dict_get_default (tupleKind (mixKind X.prog X.w)) a b hd r) ⟨tupleKind_room_in1 hu,k,xs,key_of I.hok eb,dd,h _ _ (I.tok _) ?_⟩
    rw [l]
    exact (rel.val k).getD rd
end
def tDGet2 (td ty tx : TE) : TE:=fun σ H Q=>td σ H fun x H1=>∃ a,x = .ref a∧IsD H1 a∧ty σ H1 fun y H2=>tx σ H2 fun z H3=>∃ o,DGet H3 a y o∧Q (o.getD z) H3
section
variable {X : Cx} {o e f : Expr} {apos cpos : Pos} {td ty tx : TE}
theorem pe_dget2 (hu : X.A.units + 1 < cLine) (ho : PE X o td) (he : PE X e ty) (hf : PE X f tx) (m : M2 X o "get" apos e f cpos) : PE X (.Call (.Attribute o "get" apos) [e,f] [] cpos) (tDGet2 td ty tx):=by
  intro pins s σ H Q I h
  refine wpAny_Call_method m.base m.few m.line PySem.F.plainAttrs_dict PySem.F.slot_dict_get PySem.F.type_dict_get (thn (ho pins s σ H _ I h) fun u s1 ⟨x,H1,I1,rx,a,ex,d,q1⟩=>?_)
  subst ex
  obtain rfl : u=Value.ref a:=rx
  obtain ⟨t1,t2,_⟩:=isD_at I1 d
  refine ⟨t1,t2,?_⟩
  rw [m.trees]
  refine Calls.callWith_builtin rfl (Calls.evalArgs_plain (Calls.spliced_cons (thn (he pins s1 σ H1 _ I1 q1) fun iv s2 ⟨y,H2,I2,ry,q2⟩=>
    Calls.spliced_cons (thn (hf pins s2 σ H2 _ I2 q2) fun fv s3 ⟨z,H3,I3,rz,ov,g,q3⟩=>Calls.spliced_nil ?_))))
  exact d_get2 hu I3 g ry rz fun w' s4 I4 rw'=>⟨_,H3,I4,rw',q3⟩
end
section
variable {X : Cx} {pins : List (Addr×Obj)} {σ : St} {H : Hp} {s : Shared} {a : Addr} {kvs : List (Key×V)} {A : Around} {E : Value→Shared→Prop}
end
section
variable {X : Cx} {pins : List (Addr×Obj)} {σ : St} {H : Hp} {s : Shared} {a : Addr} {y : V} {u : Value} {A : Around} {E : Value→Shared→Prop}
end
end L2
namespace L2
open PySem PySem.Spec PyProof.Rows
section
variable {X : Cx} {pins : List (Addr×Obj)} {σ : St} {H : Hp} {s : Shared}
end
section
variable {X : Cx} {N' : List Str} {ix : List (Option Nat)} {scope : Scope} {kx vx tg iter : Expr} {ifs : List Expr} {pos : Pos} {wi : TI} {g : TG} {ti : TT} {tk tv : TE}
end
end L2
namespace L2
open PySem PySem.Spec PyProof.Rows
section
variable {prog : Program} {w : World} {A : Around} {E : Value→Shared→Prop} {s : Shared}
end
section
variable {prog : Program} {w : World} {A : Around} {E : Value→Shared→Prop} {s : Shared}
end
section
variable {X : Cx} {es : List Expr} {x1 : Nat} {tp : Pos} {oe : Expr} {td : TE} {apos cpos : Pos}
end
section
variable {X : Cx} {tg : Expr} {oe : Expr} {td : TE} {apos cpos : Pos}
end
end L2
namespace L2
open PySem PySem.Spec PyProof.Rows
section
variable {prog : Program} {w : World} {A : Around} {R : Result→Shared→Prop} {s : Shared}
end
section
variable {X : Cx} {N' : List Str} {ix : List (Option Nat)} {scope : Scope} {elt tg iter : Expr} {ifs : List Expr} {pos : Pos} {wi : TI} {g : TG} {ti : TT} {te : TE}
variable {t1 i1 : Expr} {wi1 : TI} {g1 : TG}
end
end L2
namespace L2
open PySem PySem.Spec PyProof.Rows
end L2
namespace L2
open PySem PySem.Spec PyProof.Rows
section
variable {prog : Program} {w : World} {A : Around} {E : Value→Shared→Prop} {s : Shared}
end
end L2
namespace L2
open PySem PySem.Spec PyProof.Rows
section
variable {prog : Program} {w : World} {A : Around} {R : Result→Shared→Prop} {s : Shared}
end
section
variable {X : Cx} {N' : List Str} {ix : List (Option Nat)} {scope : Scope} {elt tg iter : Expr} {ifs : List Expr} {pos : Pos} {wi : TI} {g : TG} {ti : TT} {te : TE}
end
end L2
namespace L2
open PySem PySem.Spec PyProof.Rows
section
variable {prog : Program} {w : World} {A : Around} {E : Value→Shared→Prop} {s : Shared}
end
section
variable {prog : Program} {w : World} {A : Around} {E : Value→Shared→Prop} {s : Shared}
end
end L2
namespace L2
open PySem PySem.Spec PyProof.Rows
section
variable {prog : Program} {w : World} {A : Around} {E : Value→Shared→Prop} {s : Shared}
end
end L2
namespace L2
open PySem PySem.W PyProof.Rows
def okW {α : Type} (n : Nat) (lt : Nat→Nat→Bool) (Q : α→Prop) : KasT α→Prop
  | .ret a=>Q a
  | .ask i j k=>i < n∧j < n∧okW n lt Q (k (lt i j))
theorem okW_mono {α : Type} {n : Nat} {lt : Nat→Nat→Bool} {Q Q' : α→Prop} (h : ∀ a,Q a→Q' a) : ∀ {t : KasT α},okW n lt Q t→okW n lt Q' t
  | .ret a,q=>h a q
  | .ask _ _ _,⟨a,b,q⟩=>⟨a,b,okW_mono h q⟩
theorem okW_bind {α β : Type} {n : Nat} {lt : Nat→Nat→Bool} {Q : β→Prop} {f : α→KasT β} : ∀ {t : KasT α},okW n lt (fun a=>okW n lt Q (f a)) t→okW n lt Q (t.bind f)
  | .ret a,q=>q
  | .ask _ _ _,⟨a,b,q⟩=>⟨a,b,okW_bind q⟩
theorem okW_wp {α : Type} {n : Nat} {lt : Nat→Nat→Bool} {cmp : Nat→Nat→(Bool→Shared→Prop)→Shared→Prop} {s : Shared} (hc : ∀ i j C,i < n→j < n→C (lt i j) s→cmp i j C s) {Q : α→Shared→Prop} : ∀ {t : KasT α},okW n lt (fun a=>Q a s) t→t.kasWp cmp Q s
  | .ret _,q=>q
  | .ask i j _,⟨a,b,q⟩=>hc i j _ a b (okW_wp hc q)
structure Ordr (lt : Nat→Nat→Bool) : Prop where
  irr : ∀ i,lt i i=false
  tr : ∀ i j k,lt j i=false→lt k j=false→lt k i=false
  asy : ∀ i j,lt i j=true→lt j i=false
section
variable {n : Nat} {lt : Nat→Nat→Bool}
abbrev gA (p : Array Nat) (i : Nat) : Nat:=p.getD i 0
abbrev leA (lt : Nat→Nat→Bool) (i j : Nat) : Prop:=lt j i=false
def PermN (n : Nat) (p : Array Nat) : Prop:=p.toList.Perm (List.range n)
def Up (lt : Nat→Nat→Bool) (p : Array Nat) (m : Nat) : Prop:=∀ i j,i≤j→j < m→leA lt (gA p i) (gA p j)
def Down (lt : Nat→Nat→Bool) (p : Array Nat) (m : Nat) : Prop:=∀ i j,i≤j→j < m→leA lt (gA p j) (gA p i)
theorem gA_eq (p : Array Nat) (i : Nat) : gA p i=(p[i]?).getD 0:=by simp [gA]
theorem PermN.size {p : Array Nat} (h : PermN n p) : p.size=n:=by
  have:=List.Perm.length_eq h
  simpa using this
theorem PermN.below {p : Array Nat} (h : PermN n p) (h0 : 0 < n) (i : Nat) : gA p i < n:=by
  rw [gA_eq]
  cases e : p[i]? with
  | none=>exact h0
  | some v=>
    have hm : v∈p.toList:=by
      obtain ⟨hi,rfl⟩:=Array.getElem?_eq_some_iff.mp e
      simp
    exact List.mem_range.mp ((List.Perm.mem_iff h).mp hm)
theorem PermN.rev {p : Array Nat} (h : PermN n p) (i j : Nat) : PermN n (kas_rev p i j):=((mirror_perm p i j _).toList).trans h
theorem PermN.bub {p : Array Nat} (h : PermN n p) (k d : Nat) : PermN n (bubble p k d):=((bubble_perm p k d).toList).trans h
theorem gA_rev {p : Array Nat} {i j : Nat} (hj : j≤p.size) (k : Nat) : gA (kas_rev p i j) k=if i≤k∧k < j then gA p (i + j - 1 - k) else gA p k:=by
  rw [gA_eq,gA_eq,gA_eq]
  unfold kas_rev
  rw [getElem?_mirror_all hj]
  split <;> rfl
theorem gA_bub {p : Array Nat} {src d : Nat} (hs : src < p.size) (hd : d≤src) (k : Nat) : gA (bubble p src d) k=if k=src - d then gA p src else if src - d < k∧k≤src then gA p (k - 1) else gA p k:=by
  rw [gA_eq,gA_eq,gA_eq,gA_eq,getElem?_bubble hs d hd]
  split
  · rfl
  · split <;> rfl
variable (O : Ordr lt)
include O
theorem up_succ {p : Array Nat} {m : Nat} (h : Up lt p m) (h1 : 1≤m) (c : leA lt (gA p (m - 1)) (gA p m)) : Up lt p (m + 1):=by
  intro i j hij hj
  by_cases e : j < m
  · exact h i j hij e
  · have : j=m:=by omega
    subst this
    by_cases e2 : i=j
    · subst e2; exact O.irr _
    · exact O.tr _ _ _ (h i (j - 1) (by omega) (by omega)) c
theorem down_succ {p : Array Nat} {m : Nat} (h : Down lt p m) (h1 : 1≤m) (c : leA lt (gA p m) (gA p (m - 1))) : Down lt p (m + 1):=by
  intro i j hij hj
  by_cases e : j < m
  · exact h i j hij e
  · have : j=m:=by omega
    subst this
    by_cases e2 : i=j
    · subst e2; exact O.irr _
    · exact O.tr _ _ _ c (h i (j - 1) (by omega) (by omega))
theorem ok_asc {p : Array Nat} (hp : PermN n p) (h0 : 0 < n) : ∀ (f m : Nat),1≤m→m + f≤n→Up lt p m→
    okW n lt (fun r=>m≤r∧r≤m + f∧Up lt p r∧(r=m + f∨lt (gA p r) (gA p (r - 1))=true)) (kas_asc p f m)
  | 0,m,h1,hf,hu=>⟨Nat.le_refl _,Nat.le_refl _,hu,.inl rfl⟩
  | f + 1,m,h1,hf,hu=>by
    refine ⟨hp.below h0 m,hp.below h0 (m - 1),?_⟩
    by_cases c : lt (gA p m) (gA p (m - 1))=true
    · show okW n lt _ (if lt (gA p m) (gA p (m - 1))=true then KasT.ret m else kas_asc p f (m + 1))
      rw [if_pos c]
      exact ⟨Nat.le_refl _,by omega,hu,.inr c⟩
    · show okW n lt _ (if lt (gA p m) (gA p (m - 1))=true then KasT.ret m else kas_asc p f (m + 1))
      rw [if_neg c]
      have c' : lt (gA p m) (gA p (m - 1))=false:=by simpa using c
      refine okW_mono (fun r ⟨a,b,u,d⟩=>⟨by omega,by omega,u,?_⟩) (ok_asc hp h0 f (m + 1) (by omega) (by omega) (up_succ O hu h1 c'))
      rcases d with d | d
      · exact .inl (by omega)
      · exact .inr d
def Alike (lt : Nat→Nat→Bool) (p : Array Nat) (m q : Nat) : Prop:=∀ i,m - (q + 1)≤i→i < m→leA lt (gA p i) (gA p (m - 1))∧leA lt (gA p (m - 1)) (gA p i)
theorem rev_alike {p : Array Nat} {m q : Nat} (hs : m≤p.size) (hq : q + 1≤m) (h : Alike lt p m q) (k : Nat) : leA lt (gA (kas_rev p (m - (q + 1)) m) k) (gA p k)∧leA lt (gA p k) (gA (kas_rev p (m - (q + 1)) m) k):=by
  rw [gA_rev hs]
  by_cases c : m - (q + 1)≤k∧k < m
  · rw [if_pos c]
    have a:=h (m - (q + 1) + m - 1 - k) (by omega) (by omega)
    have b:=h k c.1 c.2
    exact ⟨O.tr _ _ _ a.1 b.2,O.tr _ _ _ b.1 a.2⟩
  · rw [if_neg c]
    exact ⟨O.irr _,O.irr _⟩
theorem down_rev {p : Array Nat} {m q : Nat} (hs : m≤p.size) (hq : q + 1≤m) (h : Alike lt p m q) (d : Down lt p m) : Down lt (kas_rev p (m - (q + 1)) m) m:=fun i j hij hj=>
  O.tr _ _ _ (rev_alike O hs hq h j).1 (O.tr _ _ _ (d i j hij hj) (rev_alike O hs hq h i).2)
theorem ok_desc (h0 : 0 < n) : ∀ (f : Nat) (p : Array Nat) (m q : Nat),PermN n p→1≤m→m + f≤n→q + 1≤m→Down lt p m→Alike lt p m q→
    okW n lt (fun r=>PermN n r.1∧1≤r.2.1∧r.2.1≤n∧m≤r.2.1∧r.2.1≤m + f∧r.2.2 + 1≤r.2.1∧Down lt r.1 r.2.1∧Alike lt r.1 r.2.1 r.2.2) (kas_desc f p m q)
  | 0,p,m,q,hp,h1,hf,hq,d,al=>⟨hp,h1,by show m≤n; omega,Nat.le_refl _,Nat.le_refl _,hq,d,al⟩
  | f + 1,p,m,q,hp,h1,hf,hq,d,al=>by
    have hs : m≤p.size:=by rw [hp.size]; omega
    have one : ∀ p' : Array Nat,Alike lt p' (m + 1) 0:=fun p' i a b=>by
      have : i=m:=by omega
      subst this
      exact ⟨O.irr _,O.irr _⟩
    refine ⟨hp.below h0 m,hp.below h0 (m - 1),?_⟩
    show okW n lt _ (if lt (gA p m) (gA p (m - 1))=true then (if q > 0 then kas_desc f (kas_rev p (m - (q + 1)) m) (m + 1) 0 else kas_desc f p (m + 1) 0) else KasT.ask (p.getD (m - 1) 0) (p.getD m 0) fun d=>if d=true then KasT.ret (p,m,q) else kas_desc f p (m + 1) (q + 1))
    by_cases c : lt (gA p m) (gA p (m - 1))=true
    · rw [if_pos c]
      by_cases cq : q > 0
      · rw [if_pos cq]
        have d1:=down_rev O hs hq al d
        have e : leA lt (gA (kas_rev p (m - (q + 1)) m) m) (gA (kas_rev p (m - (q + 1)) m) (m - 1)):=by
          have a1:=(rev_alike O hs hq al m).1
          have a2:=(rev_alike O hs hq al (m - 1)).2
          exact O.tr _ _ _ a1 (O.tr _ _ _ (O.asy _ _ c) a2)
        refine okW_mono (fun r ⟨a,b,c,x,y,z⟩=>⟨a,b,c,by omega,by omega,z⟩) (ok_desc h0 f _ (m + 1) 0 (hp.rev _ _) (by omega) (by omega) (by omega) (down_succ O d1 h1 e) (one _))
      · rw [if_neg cq]
        refine okW_mono (fun r ⟨a,b,c,x,y,z⟩=>⟨a,b,c,by omega,by omega,z⟩) (ok_desc h0 f p (m + 1) 0 hp (by omega) (by omega) (by omega) (down_succ O d h1 (O.asy _ _ c)) (one _))
    · rw [if_neg c]
      have c' : lt (gA p m) (gA p (m - 1))=false:=by simpa using c
      refine ⟨hp.below h0 (m - 1),hp.below h0 m,?_⟩
      by_cases c2 : lt (gA p (m - 1)) (gA p m)=true
      · show okW n lt _ (if lt (gA p (m - 1)) (gA p m)=true then KasT.ret (p,m,q) else kas_desc f p (m + 1) (q + 1))
        rw [if_pos c2]
        exact ⟨hp,h1,by show m≤n; omega,Nat.le_refl _,by show m≤m + (f + 1); omega,hq,d,al⟩
      · show okW n lt _ (if lt (gA p (m - 1)) (gA p m)=true then KasT.ret (p,m,q) else kas_desc f p (m + 1) (q + 1))
        rw [if_neg c2]
        have c2' : lt (gA p (m - 1)) (gA p m)=false:=by simpa using c2
        refine okW_mono (fun r ⟨a,b,c,x,y,z⟩=>⟨a,b,c,by omega,by omega,z⟩) (ok_desc h0 f p (m + 1) (q + 1) hp (by omega) (by omega) (by omega) (down_succ O d h1 c2') ?_)
        intro i a b
        by_cases e : i=m
        · subst e; exact ⟨O.irr _,O.irr _⟩
        · have:=al i (by omega) (by omega)
          exact ⟨O.tr _ _ _ this.1 c',O.tr _ _ _ c2' this.2⟩
theorem up_rev {p : Array Nat} {m : Nat} (hs : m≤p.size) (d : Down lt p m) : Up lt (kas_rev p 0 m) m:=by
  intro i j hij hj
  rw [gA_rev hs,gA_rev hs,if_pos ⟨Nat.zero_le _,by omega⟩,if_pos ⟨Nat.zero_le _,hj⟩]
  exact d _ _ (by omega) (by omega)
abbrev RunOk (n : Nat) (lt : Nat→Nat→Bool) (N : Nat) (r : Nat×Array Nat) : Prop:=PermN n r.2∧1≤r.1∧r.1≤N∧Up lt r.2 r.1
theorem ok_tail3 (h0 : 0 < n) {p : Array Nat} {m : Nat} (hp : PermN n p) (h1 : 1≤m) (hm : m≤n) (d : Down lt p m) : okW n lt (RunOk n lt n) (kas_tail3 m n p):=by
  unfold kas_tail3
  have hs : m≤p.size:=by rw [hp.size]; omega
  refine okW_bind (okW_mono (fun r ⟨a,b,u,_⟩=>?_) (ok_asc O (hp.rev 0 m) h0 (n - m) m h1 (by omega) (up_rev O hs d)))
  exact ⟨hp.rev 0 m,by show 1≤r; omega,by show r≤n; omega,u⟩
theorem ok_descPart (h0 : 0 < n) {p : Array Nat} {m : Nat} (hp : PermN n p) (hm : m + 1≤n) (d : Down lt p (m + 1)) : okW n lt (RunOk n lt n) (kas_descPart m n p):=by
  unfold kas_descPart
  refine okW_bind (okW_mono (fun r ⟨a,b,c,x,y,z,dd,al⟩=>?_) (ok_desc O h0 (n - (m + 1)) p (m + 1) 0 hp (by omega) (by omega) (by omega) d ?_))
  · intro i a b
    have : i=m:=by omega
    subst this
    exact ⟨O.irr _,O.irr _⟩
  · by_cases cq : r.2.2 > 0
    · rw [if_pos cq]
      exact ok_tail3 O h0 (a.rev _ _) b c (down_rev O (by rw [a.size]; exact c) z al dd)
    · rw [if_neg cq]
      exact ok_tail3 O h0 a b c dd
theorem ok_count (h2 : 2≤n) {p : Array Nat} (hp : PermN n p) : okW n lt (RunOk n lt n) (kas_count n p):=by
  unfold kas_count
  have h0 : 0 < n:=by omega
  refine okW_bind (okW_mono (fun r ⟨a,b,u,e⟩=>?_) (ok_asc O hp h0 (n - 1) 1 (by omega) (by omega) ?_))
  · intro i j hij hj
    have : i=j:=by omega
    subst this
    exact O.irr _
  · by_cases c1 : (r == n)=true
    · rw [if_pos c1]
      have : r=n:=by simpa using c1
      exact ⟨hp,a,by show r≤n; omega,u⟩
    · rw [if_neg c1]
      have rn : r≠n:=by simpa using c1
      have lst : lt (gA p r) (gA p (r - 1))=true:=by
        rcases e with e | e
        · exact absurd (by omega) rn
        · exact e
      have hs : r≤p.size:=by rw [hp.size]; omega
      by_cases c2 : r > 1
      · rw [if_pos c2]
        refine ⟨hp.below h0 0,hp.below h0 (r - 1),?_⟩
        by_cases c3 : lt (gA p 0) (gA p (r - 1))=true
        · show okW n lt _ (if lt (gA p 0) (gA p (r - 1))=true then KasT.ret (r,p) else kas_descPart r n (kas_rev p 0 r))
          rw [if_pos c3]
          exact ⟨hp,a,by show r≤n; omega,u⟩
        · show okW n lt _ (if lt (gA p 0) (gA p (r - 1))=true then KasT.ret (r,p) else kas_descPart r n (kas_rev p 0 r))
          rw [if_neg c3]
          have c3' : lt (gA p 0) (gA p (r - 1))=false:=by simpa using c3
          refine ok_descPart O h0 (hp.rev 0 r) (by omega) (down_succ O ?_ a ?_)
          · intro i j hij hj
            rw [gA_rev hs,gA_rev hs,if_pos ⟨Nat.zero_le _,hj⟩,if_pos ⟨Nat.zero_le _,by omega⟩]
            exact u _ _ (by omega) (by omega)
          · rw [gA_rev hs,gA_rev hs,if_neg (by omega),if_pos ⟨Nat.zero_le _,by omega⟩]
            have e0 : 0 + r - 1 - (r - 1)=0:=by omega
            rw [e0]
            exact O.tr _ _ _ (O.asy _ _ lst) c3'
      · rw [if_neg c2]
        have r1 : r=1:=by omega
        subst r1
        refine ok_descPart O h0 hp (by omega) (down_succ O ?_ (Nat.le_refl _) (O.asy _ _ lst))
        intro i j hij hj
        have : i=j:=by omega
        subst this
        exact O.irr _
theorem ok_place (h0 : 0 < n) {p : Array Nat} {k : Nat} (hp : PermN n p) (u : Up lt p k) : ∀ (f l r : Nat),l≤r→r≤k→r - l≤f→(∀ i,i < l→leA lt (gA p i) (gA p k))→(∀ i,r≤i→i < k→leA lt (gA p k) (gA p i))→
    okW n lt (fun x=>x≤k∧(∀ i,i < x→leA lt (gA p i) (gA p k))∧∀ i,x≤i→i < k→leA lt (gA p k) (gA p i)) (kas_place p k f l r)
  | 0,l,r,h1,h2,hf,a,b=>⟨by omega,a,fun i x y=>b i (by omega) y⟩
  | f + 1,l,r,h1,h2,hf,a,b=>by
    show okW n lt _ (if l ≥ r then KasT.ret l else _)
    by_cases c : l ≥ r
    · rw [if_pos c]
      exact ⟨by omega,a,fun i x y=>b i (by omega) y⟩
    · rw [if_neg c]
      refine ⟨hp.below h0 k,hp.below h0 _,?_⟩
      show okW n lt _ (if lt (gA p k) (gA p ((l + r) / 2))=true then kas_place p k f l ((l + r) / 2) else kas_place p k f ((l + r) / 2 + 1) r)
      by_cases d : lt (gA p k) (gA p ((l + r) / 2))=true
      · rw [if_pos d]
        refine ok_place h0 hp u f l _ (by omega) (by omega) (by omega) a fun i x y=>?_
        exact O.tr _ _ _ (O.asy _ _ d) (u _ i x y)
      · rw [if_neg d]
        have d' : lt (gA p k) (gA p ((l + r) / 2))=false:=by simpa using d
        refine ok_place h0 hp u f _ r (by omega) h2 (by omega) (fun i x=>?_) b
        exact O.tr _ _ _ (u i ((l + r) / 2) (by omega) (by omega)) d'
theorem ok_bin (h0 : 0 < n) : ∀ (f : Nat) (p : Array Nat) (k : Nat),PermN n p→f + k=n→Up lt p k→okW n lt (fun r=>PermN n r∧Up lt r n) (kas_bin f p k)
  | 0, p, k, hp, hk, u => ⟨hp, by have : k = n := by omega
                                  subst this; exact u⟩
  | f + 1,p,k,hp,hk,u=>by
    show okW n lt _ ((kas_place p k k 0 k).bind fun l=>kas_bin f (bubble p k (k - l)) (k + 1))
    refine okW_bind (okW_mono (fun l ⟨hl,a,b⟩=>?_) (ok_place O h0 hp u k 0 k (Nat.zero_le _) (Nat.le_refl _) (by omega) (fun i x=>by omega) fun i x y=>by omega))
    refine ok_bin h0 f _ (k + 1) (hp.bub _ _) (by omega) ?_
    have hs : k < p.size:=by rw [hp.size]; omega
    have g:=gA_bub (p:=p) (src:=k) (d:=k - l) hs (by omega)
    have e : k - (k - l)=l:=by omega
    rw [e] at g
    intro i j hij hj
    rw [g i,g j]
    by_cases ci : i=l
    · rw [if_pos ci]
      by_cases cj : j=l
      · rw [if_pos cj]; exact O.irr _
      · rw [if_neg cj,if_pos ⟨by omega,by omega⟩]
        exact b _ (by omega) (by omega)
    · rw [if_neg ci]
      by_cases cj : j=l
      · rw [if_pos cj,if_neg (by omega)]
        exact a i (by omega)
      · rw [if_neg cj]
        by_cases di : l < i∧i≤k
        · rw [if_pos di,if_pos ⟨by omega,by omega⟩]
          exact u _ _ (by omega) (by omega)
        · rw [if_neg di]
          by_cases dj : l < j∧j≤k
          · rw [if_pos dj]
            exact u _ _ (by omega) (by omega)
          · rw [if_neg dj]
            exact u _ _ hij (by omega)
theorem ok_sort (h2 : 2≤n) : okW n lt (fun p=>PermN n p∧Up lt p n) (kas_sort n):=by
  unfold kas_sort
  have h0 : 0 < n:=by omega
  refine okW_bind (okW_mono (fun r ⟨a,b,c,u⟩=>?_) (ok_count O h2 (p:=List.toArray (List.range n)) (by unfold PermN; simp)))
  have e : max r.1 1=r.1:=by omega
  rw [e]
  by_cases d : r.1 < n
  · rw [if_pos d]
    exact ok_bin O h0 (n - r.1) r.2 r.1 a (by omega) u
  · rw [if_neg d]
    have : r.1=n:=by omega
    rw [this] at u
    exact ⟨a,u⟩
end
end L2
namespace L2
open PySem PySem.Spec PyProof.Rows
section
variable {X : Cx} {a b e : Expr} {es : List Expr} {pos : Pos}
end
end L2
namespace L2
open PySem PySem.Spec PyProof.Rows
theorem pe_glI {X : Cx} {x : Str} {v : Int} {pos : Pos} (hg : Gl X x) (hm : ∃ t,X.mg x=some (.int v t)) (hd : (x == ("__debug__" : Str))=false:=by decide) : PE X (.Name x pos) (tC (.int v)):=by
  obtain ⟨t,h⟩:=hm
  exact pe_glob hg h ⟨_,rfl⟩ hd
theorem take_next {rs : List (List Int)} {i : Nat} {r : List Int} (e : rs[i]? = some r) : rs.take i ++ [r]=rs.take (i + 1):=by
  obtain ⟨hi,e'⟩:=List.getElem?_eq_some_iff.mp e
  rw [List.take_succ_eq_append_getElem hi,e']
theorem len2 {r : List Int} (h : r.length=2) : ∃ d c,r=[d,c]:=match r,h with | [d,c],_=>⟨d,c,rfl⟩
end L2
namespace L2
open PySem PySem.Spec PyProof.Rows
end L2
namespace L2
open PySem PySem.Spec PySem.W PyProof.Rows
theorem ints_of : ∀ {ns : List Int} {us : List Value},Vals (ns.map V.int) us→IntsAre us ns
  | [],_,.nil=>.nil
  | n :: r,_,.cons x t=>by
    obtain ⟨k,rfl⟩:=x
    exact .cons n k (ints_of t)
theorem ints_to : ∀ {ns : List Int} {us : List Value},IntsAre us ns→Vals (ns.map V.int) us
  | _,_,.nil=>.nil
  | _,_,.cons n t r=>.cons ⟨t,rfl⟩ (ints_to r)
def lexB : List Int→List Int→Bool
  | a :: as,b :: bs=>if a=b then lexB as bs else decide (a < b)
  | [],_ :: _=>true
  | _,[]=>false
theorem lex_irr : ∀ a : List Int,lexB a a=false
  | []=>rfl
  | a :: as=>by show (if a=a then lexB as as else _)=false; rw [if_pos rfl]; exact lex_irr as
theorem lex_asy : ∀ {a b : List Int},lexB a b=true→lexB b a=false
  | [],[],h=>by cases h
  | [],b :: bs,_=>rfl
  | a :: as,[],h=>by cases h
  | a :: as,b :: bs,h=>by
    show (if b=a then lexB bs as else decide (b < a))=false
    have h' : (if a=b then lexB as bs else decide (a < b))=true:=h
    by_cases e : a=b
    · rw [if_pos e] at h'
      rw [if_pos e.symm]
      exact lex_asy h'
    · rw [if_neg e] at h'
      rw [if_neg (Ne.symm e)]
      have:=of_decide_eq_true h'
      exact decide_eq_false (by omega)
theorem lex_tr : ∀ {a b c : List Int},lexB b a=false→lexB c b=false→lexB c a=false
  | [],[],[],_,_=>rfl
  | [],[],_ :: _,_,_=>rfl
  | [],_ :: _,[],_,h=>by cases h
  | [],_ :: _,_ :: _,_,_=>rfl
  | _ :: _,[],_,h,_=>by cases h
  | _ :: _,_ :: _,[],_,h=>by cases h
  | a :: as,b :: bs,c :: cs,h,g=>by
    have h' : (if b=a then lexB bs as else decide (b < a))=false:=h
    have g' : (if c=b then lexB cs bs else decide (c < b))=false:=g
    show (if c=a then lexB cs as else decide (c < a))=false
    by_cases e1 : b=a
    · rw [if_pos e1] at h'
      subst e1
      by_cases e2 : c=b
      · rw [if_pos e2] at g'
        rw [if_pos e2]
        exact lex_tr h' g'
      · rw [if_neg e2] at g' ⊢
        exact g'
    · rw [if_neg e1] at h'
      have h1:=of_decide_eq_false h'
      by_cases e2 : c=b
      · subst e2
        rw [if_neg e1]
        exact h'
      · rw [if_neg e2] at g'
        have g1:=of_decide_eq_false g'
        rw [if_neg (by omega)]
        exact decide_eq_false (by omega)
def ltOf (rs : List (List Int)) (i j : Nat) : Bool:=lexB (rs.getD i []) (rs.getD j [])
theorem ordr_of (rs : List (List Int)) : Ordr (ltOf rs):=⟨fun _=>lex_irr _,fun _ _ _ a b=>lex_tr a b,fun _ _ a=>lex_asy a⟩
section
variable {prog : Program} {w : World} {A : Around} {E : Value→Shared→Prop} {s : Shared}
theorem katLex_ints {Q : Bool→Shared→Prop} : ∀ {xs ys : List Value} {as bs : List Int} (i : Nat),IntsAre xs as→IntsAre ys bs→as.length=bs.length→Q (lexB as bs) s→KatLex prog w A true false Q (xs.zip ys) i s
  | _,_,_,_,i,.nil,.nil,_,q=>q
  | _,_,_,_,i,.cons n t r,.cons m u r',hl,q=>by
    show KatLex prog w A true false Q ((Value.int n t,Value.int m u) :: _) i s
    refine kat_cons (wpAny_eqBool_int ?_)
    by_cases e : n=m
    · rw [show (n == m)=true by simpa using e]
      refine kat_yes (katLex_ints (i + 1) r r' (by simpa using hl) ?_)
      have q' : Q (if n=m then lexB _ _ else _) s:=q
      rw [if_pos e] at q'
      exact q'
    · rw [show (n == m)=false by simpa using e]
      refine kat_no ?_
      have q' : Q (if n=m then lexB _ _ else decide (n < m)) s:=q
      rw [if_neg e] at q'
      by_cases c : (true && i == 0)=true
      · rw [c]; exact oneLt_int q'
      · rw [Bool.eq_false_iff.mpr c]
        exact kat_one _ _ (lt_int q')
  | _,_,_,_,i,.nil,.cons _ _ _,hl,q=>by simp at hl
  | _,_,_,_,i,.cons _ _ _,.nil,hl,q=>by simp at hl
def TupsAt (h : Heap) (bs : List Addr) (rs : List (List Int)) : Prop:=bs.length=rs.length∧∀ (i : Nat) b r,bs[i]? = some b→rs[i]? = some r→∃ its : List Value,IsTup h b its.toArray∧IntsAre its r
theorem TupsAt.tail {h : Heap} {b : Addr} {bs : List Addr} {r : List Int} {rs : List (List Int)} (t : TupsAt h (b :: bs) (r :: rs)) : TupsAt h bs rs:=⟨by simpa using t.1,fun i c q e1 e2=>t.2 (i + 1) c q (by simpa using e1) (by simpa using e2)⟩
theorem TupsAt.kat {h : Heap} : ∀ {bs : List Addr} {rs : List (List Int)},TupsAt h bs rs→(∀ r∈rs,r≠[])→∃ fs : List Value,fs.length=bs.length∧KatTups h (bs.map Value.ref) fs∧∀ v∈fs,∃ n t,v = .int n t
  | [],[],_,_=>⟨[],rfl,trivial,fun v hv=>by cases hv⟩
  | [],_ :: _,t,_=>by have:=t.1; simp at this
  | _ :: _,[],t,_=>by have:=t.1; simp at this
  | b :: bs,r :: rs,t,hn=>by
    obtain ⟨fs,h1,h2,h3⟩:=t.tail.kat fun q hq=>hn q (.tail _ hq)
    obtain ⟨its,⟨o,ho,hc,n,hd⟩,ia⟩:=t.2 0 b r rfl rfl
    cases ia with
    | nil=>exact absurd rfl (hn [] (.head _))
    | cons m k ia=>
      refine ⟨.int m k :: fs,by simp [h1],⟨⟨b,o,_,n,rfl,ho,hc,hd,rfl⟩,h2⟩,fun v hv=>?_⟩
      rcases List.mem_cons.mp hv with rfl | hv
      · exact ⟨m,k,rfl⟩
      · exact h3 v hv
theorem TupsAt.ask {bs : List Addr} {rs : List (List Int)} {wd : Nat} (t : TupsAt s.heap bs rs) (hw : ∀ r∈rs,r.length=wd) (i j : Nat) (C : Bool→Shared→Prop) (hi : i < bs.length) (hj : j < bs.length) (q : C (ltOf rs i j) s) : kas_ask prog w A (tuples' true) (bs.map Value.ref) i j C s:=by
  have hi' : i < rs.length:=by rw [← t.1]; exact hi
  have hj' : j < rs.length:=by rw [← t.1]; exact hj
  obtain ⟨xs,⟨o,ho,_,n,hd⟩,ia⟩:=t.2 i bs[i] rs[i] (by simp [hi]) (by simp [hi'])
  obtain ⟨ys,⟨o',ho',_,n',hd'⟩,ib⟩:=t.2 j bs[j] rs[j] (by simp [hj]) (by simp [hj'])
  unfold kas_ask
  rw [show (bs.map Value.ref).getD i Value.none = .ref bs[i] by simp [hi],show (bs.map Value.ref).getD j Value.none = .ref bs[j] by simp [hj]]
  have la : xs.length=wd:=by rw [IntsAre.length ia]; exact hw _ (List.getElem_mem hi')
  have lb : ys.length=wd:=by rw [IntsAre.length ib]; exact hw _ (List.getElem_mem hj')
  refine kat_lt ho hd ho' hd' ?_
  rw [show decide (xs.toArray.size < ys.toArray.size)=false by simp [la,lb]]
  have q' : C (lexB rs[i] rs[j]) s:=by
    unfold ltOf at q
    rw [show rs.getD i []=rs[i] by simp [hi'],show rs.getD j []=rs[j] by simp [hj']] at q
    exact q
  exact katLex_ints 0 ia ib (by rw [hw _ (List.getElem_mem hi'),hw _ (List.getElem_mem hj')]) q'
theorem up_small {lt : Nat→Nat→Bool} (O : Ordr lt) {p : Array Nat} {m : Nat} (h : m < 2) : Up lt p m:=fun i j hij hj=>by
  have : i=j:=by omega
  subst this
  exact O.irr _
theorem list_sort_tup {a : Addr} {bs : List Addr} {rs : List (List Int)} {wd n : Nat} {P : PySem.Fin→Shared→Prop} (ho : s.heap.get? a=some (seqObj "list" (bs.map Value.ref).toArray n))
    (t : TupsAt s.heap bs rs) (hw : ∀ r∈rs,r.length=wd) (hw0 : 0 < wd) (h64 : bs.length < 64)
    (h : ∀ p : Array Nat,PermN bs.length p→Up (ltOf rs) p bs.length→P (.done (.ret .none)) { s with heap:=sortedHeap s.heap a (bs.map Value.ref) (List.toArray (p.toList.map fun i=>(bs.map Value.ref).getD i Value.none)) }) :
    wpAny (model prog w) A (Builtin.«list.sort» ⟨[.ref a],[]⟩) P E s:=by
  rw [list_sort_plain]
  have ha : a < s.heap.objs.size:=Heap.lt_size ho
  have hlen : (bs.map Value.ref).length=bs.length:=List.length_map ..
  refine wpAny_bind (listItems_at ho rfl ?_)
  refine wpAny_bind (listUpdate_at ho rfl ?_ (by rw [List.size_toArray,sizeLine_eq,hlen]; omega) (Nat.zero_le _))
  obtain ⟨e1,ho1⟩ : ∃ e1,(s.heap.update a (Obj.mapSeq fun _=>(#[] : Array Value))).get? a=some (seqObj "list" #[] e1):=⟨_,get?_update_seq ho (fun _=>#[])⟩
  refine wpAny_bind (seqEpoch_at ho1 rfl ?_)
  refine wpAny_bind (wpAny_newTuple ?_ (by show (bs.map Value.ref).length≤_; rw [sizeLine_eq,hlen]; omega))
  refine wpAny_bind (wpAny_newList ?_ (Nat.zero_le _))
  refine wpAny_holding ?_
  have ho6 : (((s.heap.update a (Obj.mapSeq fun _=>(#[] : Array Value))).push (seqObj "tuple" (bs.map Value.ref).toArray 0)).push (seqObj "list" #[] 0)).get? a=some (seqObj "list" #[] e1):=by
    rw [Heap.get?_push_ne _ _ _ (by rw [size_push',Heap.size_update]; exact Nat.ne_of_lt (Nat.lt_succ_of_lt ha)),Heap.get?_push_ne _ _ _ (by rw [Heap.size_update]; exact Nat.ne_of_lt ha)]
    exact ho1
  have t6 : TupsAt (((s.heap.update a (Obj.mapSeq fun _=>(#[] : Array Value))).push (seqObj "tuple" (bs.map Value.ref).toArray 0)).push (seqObj "list" #[] 0)) bs rs:=⟨t.1,fun i b r x1 x2=>by
    obtain ⟨its,⟨o,g1,g2,k,g3⟩,ia⟩:=t.2 i b r x1 x2
    have nb : b≠a:=fun z=>by
      rw [z,ho] at g1
      cases g1
      exact absurd g2 (by simp)
    exact ⟨its,⟨o,Heap.get?_push_of_some _ (Heap.get?_push_of_some _ ((Heap.get?_update_other _ _ nb.symm).trans g1)),g2,k,g3⟩,ia⟩⟩
  show wpAny (model prog w) A _ P E { s with heap:=((s.heap.update a (Obj.mapSeq fun _=>(#[] : Array Value))).push (seqObj "tuple" (bs.map Value.ref).toArray 0)).push (seqObj "list" #[] 0) }
  dsimp only
  have hsz : (bs.map Value.ref).toArray.size=bs.length:=by simp
  have hsz2 : ∀ p : Array Nat,PermN bs.length p→(List.toArray (p.toList.map fun i=>(bs.map Value.ref).getD i Value.none)).size≤sizeLine + 1:=fun p hp=>by
    rw [List.size_toArray,List.length_map,Array.length_toList,hp.size,sizeLine_eq]; omega
  by_cases h2 : (bs.map Value.ref).toArray.size < 2
  · rw [if_pos h2,if_pos h2]
    refine wpAny_bind (wpAny_pure ?_)
    rw [StateT.run_pure]
    refine wpAny_bind (wpAny_pure ?_)
    dsimp only
    refine wpAny_bind (seqEpoch_at ho6 rfl ?_)
    have pr : PermN bs.length (List.toArray (List.range bs.length)):=by unfold PermN; simp
    have eo : (arrOf (SortSt.mk' general' ((bs.map Value.ref).toArray.zip (bs.map Value.ref).toArray) #[] 7 none)).map (·.2)=List.toArray ((List.toArray (List.range bs.length)).toList.map fun i=>(bs.map Value.ref).getD i Value.none):=
      kat_snds (vs:=bs.map Value.ref) (ks:=bs.map Value.ref) (p:=List.toArray (List.range bs.length)) rfl (by
        have e:=kas_range ((bs.map Value.ref).toArray.zip (bs.map Value.ref).toArray)
        rw [show ((bs.map Value.ref).toArray.zip (bs.map Value.ref).toArray).size=bs.length by simp] at e
        exact e.symm)
    rw [eo]
    refine wpAny_bind (listUpdate_at ho6 rfl ?_ (Nat.zero_le _) (hsz2 _ pr))
    simp only [bne_self_eq_false,Bool.false_eq_true,if_false]
    exact wpAny_pure (h _ pr (up_small (ordr_of rs) (by omega)))
  · rw [if_neg h2,if_neg h2]
    obtain ⟨fs,f1,f2,f3⟩:=t6.kat fun r hr z=>by have:=hw r hr; rw [z] at this; simp at this; omega
    refine wpAny_bind (kat_kind (T:=.type "int") f2 (by omega) (fun v hv=>?_) rfl ?_)
    · obtain ⟨m,k,rfl⟩:=f3 v hv
      exact Looks.of_pure rfl
    rw [show ((Value.type "int" : Value) != Value.type "tuple")=true from rfl]
    refine wpAny_bind (wpAny_mono (kat_run (A:=A) (vs:=bs.map Value.ref) (ks:=bs.map Value.ref) (κ:=tuples' true)
      (G:=fun p s'=>(PermN bs.length p∧Up (ltOf rs) p bs.length)∧s' = { s with heap:=((s.heap.update a (Obj.mapSeq fun _=>(#[] : Array Value))).push (seqObj "tuple" (bs.map Value.ref).toArray 0)).push (seqObj "list" #[] 0) })
      (Q:=fun st' s'=>∃ p : Array Nat,PermN bs.length p∧Up (ltOf rs) p bs.length∧arrOf st' = p.map (kas_item ((bs.map Value.ref).toArray.zip (bs.map Value.ref).toArray))∧failedOf st' = none∧s' = { s with heap:=((s.heap.update a (Obj.mapSeq fun _=>(#[] : Array Value))).push (seqObj "tuple" (bs.map Value.ref).toArray 0)).push (seqObj "list" #[] 0) })
      rfl (by rw [hlen]; omega) (by rw [hlen]; exact h64) (fun p' st' s' a1 a2 a3 a4=>⟨p',a4.1.1,a4.1.2,a2,a3,a4.2⟩) ?_) ?_ fun _ _ e=>e)
    · rw [hlen]
      exact okW_wp (n:=bs.length) (lt:=ltOf rs) (fun i j C hi hj q=>TupsAt.ask t6 hw i j C hi hj q) (okW_mono (fun p hp=>⟨hp,rfl⟩) (ok_sort (ordr_of rs) (by omega)))
    · rintro ⟨⟨⟩,st'⟩ s' ⟨p,hp,hu,har,hf,rfl⟩
      dsimp only
      rw [kat_snds (vs:=bs.map Value.ref) (ks:=bs.map Value.ref) rfl har]
      refine wpAny_bind (seqEpoch_at ho6 rfl ?_)
      refine wpAny_bind (listUpdate_at ho6 rfl ?_ (Nat.zero_le _) (hsz2 p hp))
      rw [hf]
      simp only [bne_self_eq_false,Bool.false_eq_true,if_false]
      exact wpAny_pure (h p hp hu)
end
section
variable {X : Cx}
end
end L2
namespace L2
open PySem PySem.Spec PySem.W PyProof.Rows
variable {X : Cx}
end L2
namespace L2
open PySem PySem.Spec PySem.W PyProof.Rows
section
variable {prog : Program} {w : World} {A : Around} {E : Value→Shared→Prop} {s : Shared}
end
end L2
namespace L2
open PySem PySem.Spec PySem.W PyProof.Rows
section
variable {X : Cx}
end
end L2
namespace L2
open PySem PySem.Spec PySem.W PyProof.Rows
section
variable {X : Cx}
theorem mix_int {P : Program} {w : World} {n : Int} {v : Value} (h : (mixKind P w).is (.inl n) v=true) : ∃ t,v = .int n t:=by
  have h' : Value.isInt n v=true:=h
  cases v with
  | int k t=>
    have e:=(mixKind P w).inj _ (.inl n) (.inl k) h (mixKind_int P w k t)
    have : n=k:=by injection e
    exact ⟨t,by rw [this]⟩
  | _=>simp [Value.isInt] at h'
theorem ints_of' : ∀ {us : List Value} {ns : List Int},us.length=ns.length→(∀ (i : Nat) n,ns[i]? = some n→∃ t,us[i]? = some (.int n t))→IntsAre us ns
  | [],[],_,_=>.nil
  | [],n :: ns,h,_=>absurd h (by simp)
  | u :: us,[],h,_=>absurd h (by simp)
  | u :: us,n :: ns,h,k=>by
    obtain ⟨t,e⟩:=k 0 n rfl
    obtain rfl : u = .int n t:=by simpa using e
    exact .cons n t (ints_of' (by simpa using h) fun i m hm=>k (i + 1) m hm)
def rSortD : List V→Hp→VK→Prop:=fun xs H Q=>∃ (p : Addr) (kvs : List (Key×V)) (ns : List Int),xs=[.ref p]∧H p=some (.dK kvs)∧kvs.map (·.1)=ns.map Sum.inl∧ns.length < 64∧∀ (l : Addr) (ms : List Int),H l=none→ms.Perm ns→ms.Pairwise (·≤·)→Q (.ref l) (upd H l (.lst (ms.map V.int)))
theorem call_sortD (hc : X.calm=true) : CallR X (.builtin "sorted") rSortD:=by
  intro pins s σ H xs us Q I r h
  obtain ⟨p,kvs,ns,rfl,hq,hk,h64,q⟩:=h
  obtain ⟨u,rfl,ru⟩:=r.one
  cases ru
  refine Calls.call_function_entry kind_sorted plain_sorted entry_sorted (args_sorted1 _) ?_
  unfold Builtin.«sorted»
  refine wpAny_bind (m:=checkCount "sorted" 1 1 _) (wpAny_pure ?_)
  obtain ⟨hz,hd,vs,rel,dd⟩:=dk_of I.hok hq
  obtain ⟨ep,da⟩:=dd.dictAt
  have ln : kvs.length=ns.length:=by have:=congrArg List.length hk; rwa [List.length_map,List.length_map] at this
  have lv:=rel.length
  refine wpAny_bind (kdu_collect (kdl_dict (knd:=mixKind X.prog X.w) (kvs:=vs) (ep:=ep) hd) (show X.A.in1.handled=none from I.ok.hd hc) da (by rw [← lv]; exact hz) fun h1 tk acc k1 ia=>?_)
  have I1 : Inv X pins σ H { s with heap:=h1,toks:=tk }:=I.kept (h':=h1) (t':=tk) k1
  have al : acc.toList.length=ns.length:=by rw [Array.length_toList,ia.1,← lv,ln]
  have hI : IntsAre acc.toList ns:=by
    refine ints_of' al fun i n hn=>?_
    have hi : i < acc.size:=by rw [← Array.length_toList,al]; exact (List.getElem?_eq_some_iff.mp hn).1
    obtain ⟨k,x,e1,e2⟩:=ia.2 i acc[i] (Array.getElem?_eq_getElem hi)
    have ek : (kvs.map (·.1))[i]? = some k:=by rw [rel.keys,List.getElem?_map,e1]; rfl
    rw [hk,List.getElem?_map,hn] at ek
    have : k=Sum.inl n:=by injection ek with ek; exact ek.symm
    subst this
    obtain ⟨t,e⟩:=mix_int e2
    exact ⟨t,by rw [Array.getElem?_toList,Array.getElem?_eq_getElem hi,e]⟩
  have l64 : acc.toList.length < 64:=by rw [al]; exact h64
  revert I1
  generalize ({ s with heap:=h1,toks:=tk } : Shared)=s1
  intro I1
  refine wpAny_bind (wpAny_newList ?_ (by rw [sizeLine_eq]; omega))
  have hoL : (s1.heap.push (seqObj "list" acc.toList.toArray 0)).get? s1.heap.objs.size=some (seqObj "list" acc.toList.toArray 0):=Heap.get?_push_size _ rfl
  show wpAny _ _ _ _ _ { s1 with heap:=s1.heap.push (seqObj "list" acc.toList.toArray 0) }
  refine wpAny_bind (wpAny_holding (wpAny_call_entry slot_list_sort ⟨_,hoL,rfl⟩ entry_list_sort (list_sort_tree (s:={ s1 with heap:=s1.heap.push (seqObj "list" acc.toList.toArray 0) }) hoL hI l64 fun out ms' i1 i2 i3=>⟨_,rfl,?_⟩) (args_list_sort _)))
  refine wpAny_pure ⟨_,rfl,?_⟩
  obtain ⟨e,he⟩:=sortedHeap_at (out:=out) hoL
  refine ⟨.ref s1.heap.objs.size,_,I1.laid (t':=s1.toks) (a:=s1.heap.objs.size) (o:=.lst (ms'.map V.int)) (fun b o e=>?_) (Nat.le_refl _) ⟨?_,out.toList,e,ints_to i1,?_⟩,rfl,q _ ms' (I1.hok.fresh (Nat.le_refl _)) i2 i3⟩
  · have lt:=Heap.lt_size e
    show (sortedHeap _ _ _ _).get? b=some o
    rw [sortedHeap_old (Nat.ne_of_lt lt) (by rw [size_push']; exact Nat.lt_succ_of_lt lt)]
    exact Heap.get?_push_of_some _ e
  · rw [List.length_map,i2.length_eq,sizeLine_eq]; omega
  · rw [he]
end
end L2
namespace L2
open PySem PySem.Spec PySem.W PyProof.Rows
def cutH (h : Heap) (n : Nat) : Heap:=⟨h.objs.extract 0 n,h.life⟩
theorem cutH_get {h : Heap} {n b : Nat} (hb : b < n) : (cutH h n).get? b=h.get? b:=by
  have e : (h.objs.extract 0 n)[b]? = h.objs[b]?:=by
    rw [Array.getElem?_extract]
    by_cases c : b < h.objs.size
    · rw [if_pos (by omega),Nat.zero_add]
    · rw [if_neg (by omega),Array.getElem?_eq_none (by omega)]
  show (match (h.objs.extract 0 n)[b]? with | some ⟨_,_,.freed,_⟩=>none | o=>o)=(match h.objs[b]? with | some ⟨_,_,.freed,_⟩=>none | o=>o)
  rw [e]
theorem cutH_size {h : Heap} {n : Nat} (hn : n≤h.objs.size) : (cutH h n).objs.size=n:=by
  show (h.objs.extract 0 n).size=n
  rw [Array.size_extract]; omega
section
variable {X : Cx} {pins : List (Addr×Obj)} {σ : St}
theorem Inv.lays {h' : Heap} {t' : Nat} : ∀ (as : List (Addr×List Int)) {H : Hp} {s : Shared},Inv X pins σ H s→(∀ b u,s.heap.get? b=some u→h'.get? b=some u)→as.Pairwise (fun p q=>p.1 < q.1)→
    (∀ q∈as,s.heap.objs.size≤q.1∧q.2.length≤1000∧∃ its : List Value,IsTup h' q.1 its.toArray∧IntsAre its q.2)→∃ H',Inv X pins σ H' { s with heap:=h',toks:=t' }∧Same H H'∧∀ q∈as,H' q.1=some (.tup (q.2.map V.int))
  | [],H,s,I,k,_,_=>⟨H,I.kept (t':=t') k,Same.refl _,fun q hq=>by cases hq⟩
  | (a,r) :: as,H,s,I,k,hp,hq=>by
    obtain ⟨ha,rl,its,tu,ia⟩:=hq (a,r) (.head _)
    obtain ⟨o,ho,hc,n,hd⟩:=tu
    have ha' : a + 1≤h'.objs.size:=Heap.lt_size ho
    have fr : H a=none:=I.hok.fresh ha
    have I1 : Inv X pins σ (upd H a (.tup (r.map V.int))) { s with heap:=cutH h' (a + 1),toks:=t' }:=I.laid (t':=t') (fun b u e=>by
      rw [cutH_get (Nat.lt_succ_of_le (Nat.le_trans (Nat.le_of_lt (Heap.lt_size e)) ha))]; exact k b u e) ha (show ObjOk X.prog X.w _ _ _ (.tup (r.map V.int)) from ⟨Nat.le_of_lt (small1000 (by rw [List.length_map]; exact rl)),its,ints_to ia,o,by rw [cutH_get (Nat.lt_succ_self _)]; exact ho,hc,n,hd⟩)
    rw [List.pairwise_cons] at hp
    obtain ⟨H',I',s',e'⟩:=Inv.lays as I1 (fun b u e=>by
      have : b < a + 1:=by have:=Heap.lt_size e; rwa [cutH_size ha'] at this
      rwa [cutH_get this] at e) hp.2 fun q hq'=>by
      obtain ⟨_,b2,b3⟩:=hq q (.tail _ hq')
      exact ⟨by show (cutH h' (a + 1)).objs.size≤q.1; rw [cutH_size ha']; exact hp.1 q hq',b2,b3⟩
    refine ⟨H',I',(same_new fr _).trans s',fun q hq'=>?_⟩
    rcases List.mem_cons.mp hq' with rfl | z
    · exact s' _ _ upd_same
    · exact e' q z
end
theorem paired_at {α β : Type} {F : α→β→Prop} : ∀ {l₁ : List α} {l₂ : List β},Paired F l₁ l₂→∀ {i : Nat} {x : α},l₁[i]? = some x→∃ y,l₂[i]? = some y∧F x y
  | _,_,.nil,i,x,e=>by cases e
  | _,_,.cons r t,0,x,e=>by cases e; exact ⟨_,rfl,r⟩
  | _,_,.cons r t,i + 1,x,e=>paired_at t (i:=i) e
def HV (v a : Addr) : HO:=.ext fun h=>h.IsItemsView v a
section
variable {X : Cx} {oe : Expr} {td : TE} {apos cpos : Pos}
def tItems (td : TE) : TE:=fun σ H Q=>td σ H fun x H1=>∃ a kvs,x = .ref a∧H1 a=some (.dK kvs)∧∀ v,H1 v=none→Q (.ref v) (upd H1 v (HV v a))
theorem pe_items (ho : PE X oe td) (hbase : attributeBase oe "items" X.env (eval oe X.env)=eval oe X.env:=by rfl) (hline : (apos.endLine == cpos.line)=true:=by rfl) : PE X (.Call (.Attribute oe "items" apos) [] [] cpos) (tItems td):=by
  intro pins s σ H R I h
  refine wpAny_Call_method0_late hbase hline (thn (ho pins s σ H _ I h) fun v s1 ⟨x,H1,I1,r1,a,kvs,ex,ea,q⟩=>?_)
  subst ex
  cases r1
  obtain ⟨t1,t2,t3⟩:=isD_at I1 (.inl ⟨kvs,.inl ea⟩)
  refine ⟨"dict","dict.items",PySem.F.plainAttrs_dict,PySem.F.slot_dict_items,PySem.F.type_dict_items,t1,t2,Calls.callWith_builtin rfl (PySem.evalArgs_none ?_)⟩
  refine wpAny_call_entry PySem.F.slot_dict_items t1 PySem.F.entry_dict_items ?_ (PySem.F.args_dict_items_1 _)
  unfold Builtin.«dict.items» Builtin.Dict.noArgs
  refine wpAny_bind (wpAny_bind (wpAny_notOrdered_dict t1 ?_))
  show wpAny _ _ (pure a) _ _ s1
  refine wpAny_pure ?_
  show wpAny _ _ (Builtin.Dict.showsAll a >>= _) _ _ s1
  unfold Builtin.Dict.showsAll
  rw [if_neg (by rw [t3]; exact Bool.false_ne_true)]
  refine wpAny_bind (wpAny_pure (wpAny_bind (wpAny_newObj_type (wpAny_pure ⟨_,rfl,?_⟩))))
  have hv : (s1.heap.push { cls:=.type "dict_items",data:=.fields #[.ref a] }).get? s1.heap.objs.size=some { cls:=.type "dict_items",data:=.fields #[.ref a] }:=Heap.get?_push_size _ rfl
  have fr : H1 s1.heap.objs.size=none:=I1.hok.fresh (Nat.le_refl _)
  exact ⟨.ref s1.heap.objs.size,_,I1.laid (t':=s1.toks) (a:=s1.heap.objs.size) (o:=HV s1.heap.objs.size a) (fun b o e=>Heap.get?_push_of_some _ e) (Nat.le_refl _) ⟨⟨_,hv,rfl,rfl⟩,⟨_,hv⟩,fun h1 h2 ⟨o,e,r⟩ k=>⟨o,k o e,r⟩⟩,rfl,q _ fr⟩
end
section
variable {X : Cx}
def rSortIt : List V→Hp→VK→Prop:=fun xs H Q=>∃ (v a : Addr) (its : List (Int×Int)),xs=[.ref v]∧H v=some (HV v a)∧H a=some (.dK (its.map fun q=>(Sum.inl q.1,V.int q.2)))∧its.length < 64∧
  ∀ (l : Addr) (ss : List (List Int)) (H' : Hp),H l=none→ss.Perm (its.map fun q=>[q.1,q.2])→ss.Pairwise (fun a b=>lexB b a=false)→Same H H'→Rows H' l ss→Q (.ref l) H'
theorem call_sortIt (hc : X.calm=true) : CallR X (.builtin "sorted") rSortIt:=by
  intro pins s σ H xs us Q I r h
  obtain ⟨v,a,its,rfl,hv,ha,h64,q⟩:=h
  obtain ⟨u,rfl,ru⟩:=r.one
  cases ru
  refine Calls.call_function_entry kind_sorted plain_sorted entry_sorted (args_sorted1 _) ?_
  unfold Builtin.«sorted»
  refine wpAny_bind (m:=checkCount "sorted" 1 1 _) (wpAny_pure ?_)
  obtain ⟨hz,hd,vs,rel,dd⟩:=dk_of I.hok ha
  obtain ⟨ep,da⟩:=dd.dictAt
  have iv : s.heap.IsItemsView v a:=(show ObjOk X.prog X.w H s.heap v (HV v a) from I.hok v _ hv).1
  have lv : its.length=vs.length:=by have:=rel.length; rwa [List.length_map] at this
  refine wpAny_bind (kdx_collect (knd:=mixKind X.prog X.w) (kvs:=vs) (ep:=ep) (show X.A.in1.handled=none from I.ok.hd hc) iv da (by rw [← lv,sizeLine_eq]; omega) fun h1 tk as k1 al g=>?_)
  have pr : ∀ (j : Nat) b (p : Int×Int),as[j]? = some b→its[j]? = some p→∃ us : List Value,IsTup h1 b us.toArray∧IntsAre us [p.1,p.2]:=fun j b p e1 e2=>by
    obtain ⟨key,k,x,f1,f2,f3⟩:=g.pairs j b e1
    obtain ⟨e3,e4⟩ : Sum.inl p.1=k∧RelV (V.int p.2) x:=by
      have:=paired_at rel (i:=j) (x:=(Sum.inl p.1,V.int p.2)) (by rw [List.getElem?_map,e2]; rfl)
      obtain ⟨w,ew,h1,h2⟩:=this
      rw [f1] at ew; cases ew
      exact ⟨h1,h2⟩
    subst e3
    obtain ⟨t,rfl⟩:=mix_int f2
    obtain ⟨t',rfl⟩ : ∃ t',x = .int p.2 t':=e4
    exact ⟨[.int p.1 t,.int p.2 t'],⟨_,f3,rfl,_,rfl⟩,.cons _ _ (.cons _ _ .nil)⟩
  have ali : as.length=its.length:=by rw [al,lv]
  obtain ⟨H2,I2,s2,e2⟩:=Inv.lays (h':=h1) (t':=tk) (as.zip (its.map fun p=>[p.1,p.2])) I k1 (by
      rw [List.pairwise_iff_getElem]
      intro i j hi hj hij
      rw [List.length_zip] at hi hj
      rw [List.getElem_zip,List.getElem_zip]
      exact List.pairwise_iff_getElem.mp g.rise i j (by omega) (by omega) hij) fun p hp=>by
    obtain ⟨j,hj,rfl⟩:=List.getElem_of_mem hp
    rw [List.length_zip,List.length_map] at hj
    rw [List.getElem_zip,List.getElem_map]
    exact ⟨Nat.le_of_lt (g.above _ (List.getElem_mem _)),(by show 2≤1000; decide),pr j _ _ (List.getElem?_eq_getElem (by omega)) (List.getElem?_eq_getElem (by omega))⟩
  have tt : TupsAt h1 as (its.map fun p=>[p.1,p.2]):=⟨by rw [List.length_map]; exact ali,fun i b r e3 e4=>by
    rw [List.getElem?_map] at e4
    cases e5 : its[i]? with
    | none=>rw [e5] at e4; cases e4
    | some p=>rw [e5] at e4; cases e4; exact pr i b p e3 e5⟩
  have h3 : ∀ (i : Nat) b r,as[i]? = some b→(its.map fun p=>[p.1,p.2])[i]? = some r→H2 b=some (.tup (r.map V.int)):=fun i b r e3 e4=>by
    have : (b,r)∈as.zip (its.map fun p=>[p.1,p.2]):=List.mem_of_getElem? (i:=i) (List.getElem?_zip_eq_some.mpr ⟨e3,e4⟩)
    exact e2 _ this
  have hw : ∀ r∈its.map (fun p=>[p.1,p.2]),r.length=2:=fun r hr=>by obtain ⟨p,_,rfl⟩:=List.mem_map.mp hr; rfl
  have hrl : (its.map fun p=>[p.1,p.2]).length=as.length:=by rw [List.length_map,ali]
  generalize (its.map fun p=>[p.1,p.2])=rs at *
  have hps : as.length < 64:=by omega
  have lr : (as.map Value.ref).length=as.length:=List.length_map ..
  have f0 : ∀ l,h1.objs.size≤l→H l=none:=fun l hl=>s2.free (I2.hok.fresh hl)
  have tt1 : TupsAt ({ s with heap:=h1,toks:=tk } : Shared).heap as rs:=tt
  have f1 : ∀ l,({ s with heap:=h1,toks:=tk } : Shared).heap.objs.size≤l→H l=none:=f0
  revert I2 tt1 f1
  generalize ({ s with heap:=h1,toks:=tk } : Shared)=s1
  intro I2 tt1 f1
  refine wpAny_bind (wpAny_newList ?_ (by rw [sizeLine_eq,lr]; omega))
  have hoL : (s1.heap.push (seqObj "list" (as.map Value.ref).toArray 0)).get? s1.heap.objs.size=some (seqObj "list" (as.map Value.ref).toArray 0):=Heap.get?_push_size _ rfl
  show wpAny _ _ _ _ _ { s1 with heap:=s1.heap.push (seqObj "list" (as.map Value.ref).toArray 0) }
  refine wpAny_bind (wpAny_holding (wpAny_call_entry slot_list_sort ⟨_,hoL,rfl⟩ entry_list_sort (list_sort_tup (s:={ s1 with heap:=s1.heap.push (seqObj "list" (as.map Value.ref).toArray 0) }) hoL ⟨tt1.1,fun i b r x1 x2=>?_⟩ hw (by decide) hps fun pp hp hu=>⟨_,rfl,?_⟩) (args_list_sort _)))
  · obtain ⟨its,y1,y2⟩:=tt1.2 i b r x1 x2
    exact ⟨its,y1.keeps fun b o e=>Heap.get?_push_of_some _ e,y2⟩
  refine wpAny_pure ⟨_,rfl,?_⟩
  have hmem : ∀ i∈pp.toList,i < as.length:=fun i hi=>List.mem_range.mp ((List.Perm.mem_iff hp).mp hi)
  have eo : (pp.toList.map fun i=>(as.map Value.ref).getD i Value.none)=(pp.toList.map fun i=>as.getD i 0).map Value.ref:=by
    rw [List.map_map]
    exact List.map_congr_left fun i hi=>by have:=hmem i hi; simp [this]
  obtain ⟨e,he⟩:=sortedHeap_at (out:=List.toArray (pp.toList.map fun i=>(as.map Value.ref).getD i Value.none)) hoL
  have vv : ∀ l : List Addr,Vals (l.map V.ref) (l.map Value.ref):=fun l=>by
    induction l with
    | nil=>exact .nil
    | cons a r ih=>exact .cons rfl ih
  have fr : H2 s1.heap.objs.size=none:=I2.hok.fresh (Nat.le_refl _)
  refine ⟨.ref s1.heap.objs.size,_,I2.laid (t':=s1.toks) (a:=s1.heap.objs.size) (o:=.lst ((pp.toList.map fun i=>as.getD i 0).map V.ref)) (fun b o e=>?_) (Nat.le_refl _) ⟨?_,(pp.toList.map fun i=>as.getD i 0).map Value.ref,e,vv _,?_⟩,rfl,q _ (pp.toList.map fun i=>rs.getD i []) _ (f1 _ (Nat.le_refl _)) ?_ ?_ (s2.trans (same_new fr _)) ⟨_,upd_same,by rw [List.length_map,List.length_map],fun i b r e1 e3=>?_⟩⟩
  · have lt:=Heap.lt_size e
    show (sortedHeap _ _ _ _).get? b=some o
    rw [sortedHeap_old (Nat.ne_of_lt lt) (by rw [size_push']; exact Nat.lt_succ_of_lt lt)]
    exact Heap.get?_push_of_some _ e
  · rw [List.length_map,List.length_map,Array.length_toList,hp.size,sizeLine_eq]; omega
  · rw [he,eo]
  · have e1 : (List.range as.length).map (fun i=>rs.getD i [])=rs:=by
      apply List.ext_getElem?
      intro i
      rw [List.getElem?_map]
      by_cases hi : i < as.length
      · rw [List.getElem?_range hi]; simp [show i < rs.length by omega]
      · rw [List.getElem?_eq_none (by simpa using hi),List.getElem?_eq_none (by omega)]; rfl
    have:=hp.map (fun i=>rs.getD i [])
    rw [e1] at this
    exact this
  · rw [List.pairwise_map,List.pairwise_iff_getElem]
    intro i j hi hj hij
    have hj' : j < as.length:=by rw [Array.length_toList,hp.size] at hj; exact hj
    have:=hu i j (Nat.le_of_lt hij) hj'
    have gi : gA pp i=pp.toList[i]:=by
      rw [Array.length_toList] at hi
      simp [gA,hi]
    have gj : gA pp j=pp.toList[j]:=by
      rw [Array.length_toList] at hj
      simp [gA,hj]
    rw [gi,gj] at this
    exact this
  · rw [List.getElem?_map] at e1 e3
    cases ei : pp.toList[i]? with
    | none=>rw [ei] at e1; cases e1
    | some k=>
      rw [ei] at e1 e3
      have hk:=hmem k (List.mem_of_getElem? ei)
      have eb : as[k]? = some b:=by have:=Option.some.inj e1; simp [hk] at this; simp [hk,this]
      have er : rs[k]? = some r:=by have:=Option.some.inj e3; simp [show k < rs.length by omega] at this; simp [show k < rs.length by omega,this]
      have hb:=h3 k b r eb er
      rw [upd_ne (ne_of_none hb fr)]
      exact hb
end
end L2
namespace L2
open PySem PySem.Spec PySem.W PyProof.Rows
section
variable {X : Cx}
end
end L2
namespace L2
open PySem PySem.Spec PySem.W PyProof.Rows
abbrev colAt (rs : List (List Int)) (k : Nat) (i : Int) : Int:=(rs.getD i.toNat []).getD k 0
end L2
namespace L2
open PySem PySem.Spec PySem.W PyProof.Rows
theorem ints_at {os : List Int} {i : Nat} {x : V} (e : (os.map V.int)[i]? = some x) : ∃ v,x = .int v∧os[i]? = some v:=by
  rw [List.getElem?_map] at e
  cases q : os[i]? with
  | none=>rw [q] at e; cases e
  | some v=>rw [q] at e; exact ⟨v,(Option.some.inj e).symm,rfl⟩
end L2
namespace L2
open PySem PySem.Spec PySem.W PyProof.Rows
def vbm : List Value:=[.type "ValueError",.type "Exception",.type "BaseException",.type "object"]
theorem passN {P : Program} {w : World} {X : Cx} : Passes (CXE P w) X E0:=fun _ _ _ _ _ _ _ h=>by
  obtain ⟨_,_,_,_,_,_,_,_,h,_⟩:=h
  exact h.elim
theorem cmp_nil {K : PySem.W.Frag} {H : Hp} {l e : Addr} {xs : List V} {neg : Bool} {Q : VK} (hl : H l=some (.lst xs)) (he : H e=some (.lst [])) (q : Q (.bl (neg != decide (xs.length=0))) H) : rCmpL K neg (.ref l) (.ref e) H Q:=by
  refine ⟨l,e,xs,[],rfl,rfl,SqL.of hl,SqL.of he,?_⟩
  by_cases z : xs.length=0
  · refine .inr ⟨z,0,fun _=>true,by decide,fun j x y e1 e2=>(by cases e2),?_⟩
    rw [z] at q ⊢
    exact q
  · refine .inl ⟨z,?_⟩
    rw [decide_eq_false z] at q
    cases neg <;> exact q
end L2
namespace L2
open PySem PySem.Spec PySem.W PyProof.Rows
section
variable {X : Cx} {a b c d e : Expr} {ta tb tc td te : TE} {pos p2 : Pos}
end
theorem keep_refl {σ₀ : St} : ∀ (k : Nat) v,σ₀[k]? = some (some v)→σ₀[k]? = some (some v):=fun _ _ h=>h
theorem keep_set {σ₀ σ : St} {j : Nat} {x : Option V} (h : ∀ (k : Nat) v,σ₀[k]? = some (some v)→σ[k]? = some (some v)) (hj : σ₀[j]? = some none) : ∀ (k : Nat) v,σ₀[k]? = some (some v)→(σ.set j x)[k]? = some (some v):=fun k v e=>by
  have : j≠k:=fun z=>by rw [z,e] at hj; cases hj
  rw [List.getElem?_set_ne this]
  exact h k v e
theorem comp_by {K : PySem.W.Frag} {a D : Addr} {xs : List V} {g : TG} {ti : TT} {te : TE} {σ₀ : St} {H1 : Hp} {R : Hp→Prop} (P : Nat→List V→Hp→Prop) (hD : H1 D=none) (hx : H1 a=some (.lst xs)) (hn : xs.length≤1000)
    (st : ∀ i zs H H',P i zs H→(∀ b o,b≠D→H b=some o→H' b=some o)→P i zs H') (h0 : P 0 [] H1)
    (step : ∀ i x zs H,xs[i]? = some x→Same H1 H→P i zs H→∀ (K1 : V→Hp→Prop) (K2 : Hp→Prop),(∀ y H4,Same H H4→P (i + 1) (zs ++ [y]) H4→K1 y H4)→(∀ H3,Same H H3→P (i + 1) zs H3→K2 H3)→
      g x σ₀ H fun σ2 H2=>(∀ (k : Nat) v,σ₀[k]? = some (some v)→σ2[k]? = some (some v))∧ti σ2 H2 fun b H3=>if b=true then te σ2 H3 K1 else K2 H3)
    (fin : ∀ zs H,Same H1 H→P xs.length zs H→zs.length≤xs.length→H D=some (.lst zs)→R H) :
    ∃ W : Nat→Nat→Hp→Prop,(∃ m,W 0 m (upd H1 D (.lst [])))∧∀ i m H,W i m H→((Itl K a).stop i H∧R H)∨((Itl K a).go i H∧∀ x H',(Itl K a).yld i H x H'→g x σ₀ H' fun σ2 H2=>(∀ (k : Nat) v,σ₀[k]? = some (some v)→σ2[k]? = some (some v))∧ti σ2 H2 fun b H3=>
      if b=true then te σ2 H3 fun y H4=>∃ zs,H4 D=some (.lst zs)∧zs.length < sizeLine∧∃ m',m' < m∧W (i + 1) m' (upd H4 D (.lst (zs ++ [y]))) else ∃ m',m' < m∧W (i + 1) m' H3):=by
  refine ⟨fun i m H=>i + m=xs.length∧Same H1 H∧∃ zs,H D=some (.lst zs)∧zs.length≤i∧P i zs H,⟨xs.length,by omega,same_new hD _,[],upd_same,Nat.le_refl _,st _ _ _ _ h0 fun b o hb e=>by rw [upd_ne hb]; exact e⟩,?_⟩
  rintro i m H ⟨him,s1,zs,hz,hl,hp⟩
  have ex:=s1 _ _ hx
  by_cases hi : i < xs.length
  · refine .inr ⟨⟨xs,_,SqL.of ex,List.getElem?_eq_getElem hi⟩,?_⟩
    rintro x H' ⟨rfl,hy⟩
    refine step i x zs H' (hy _ (SqL.of ex)) s1 hp _ _ (fun y H4 s4 p4=>⟨zs,s4 _ _ hz,small1000 (by omega),m - 1,by omega,by omega,(s1.trans s4).young hD,zs ++ [y],upd_same,by rw [List.length_append,List.length_singleton]; omega,st _ _ _ _ p4 fun b o hb e=>by rw [upd_ne hb]; exact e⟩) fun H3 s3 p3=>⟨m - 1,by omega,by omega,s1.trans s3,zs,s3 _ _ hz,by omega,p3⟩
  · have e : i=xs.length:=by omega
    subst e
    exact .inl ⟨⟨xs,SqL.of ex,Nat.le_refl _⟩,fin zs H s1 hp hl hz⟩
def Tups (H : Hp) (xs : List V) (rs : List (List Int)) : Prop:=xs.length=rs.length∧∀ (i : Nat) x r,xs[i]? = some x→rs[i]? = some r→∃ p,x = .ref p∧H p=some (.tup (r.map V.int))
theorem Tups.nil {H : Hp} : Tups H [] []:=⟨rfl,fun i x r e=>by cases e⟩
theorem Tups.one {H : Hp} {p : Addr} {r : List Int} (h : H p=some (.tup (r.map V.int))) : Tups H [.ref p] [r]:=⟨rfl,fun i x r' e1 e2=>by
  match i,e1,e2 with
  | 0,e1,e2=>cases e1; cases e2; exact ⟨p,rfl,h⟩
  | i + 1,e1,_=>cases e1⟩
theorem Tups.drop {H : Hp} {xs : List V} {rs : List (List Int)} (h : Tups H xs rs) (n : Nat) : Tups H (xs.drop n) (rs.drop n):=by
  refine ⟨by rw [List.length_drop,List.length_drop,h.1],fun i x r e1 e2=>?_⟩
  rw [List.getElem?_drop] at e1 e2
  exact h.2 _ x r e1 e2
theorem Tups.keep {H H' : Hp} {xs : List V} {rs : List (List Int)} (h : Tups H xs rs) (k : ∀ (p : Addr) (z : List V),H p=some (.tup z)→H' p=some (.tup z)) : Tups H' xs rs:=⟨h.1,fun i x r e1 e2=>by
  obtain ⟨p,e,hp⟩:=h.2 i x r e1 e2
  exact ⟨p,e,k _ _ hp⟩⟩
theorem Tups.same {H H' : Hp} {xs : List V} {rs : List (List Int)} (h : Tups H xs rs) (s : Same H H') : Tups H' xs rs:=h.keep fun _ _ e=>s _ _ e
theorem Tups.but {H H' : Hp} {D : Addr} {ys xs : List V} {rs : List (List Int)} (h : Tups H xs rs) (hD : H D=some (.lst ys)) (k : ∀ b o,b≠D→H b=some o→H' b=some o) : Tups H' xs rs:=h.keep fun p z e=>k _ _ (ne_of e hD (by intro z; cases z)) e
theorem Tups.draw {H H' : Hp} {a c : Addr} {xs : List V} {rs : List (List Int)} (h : Tups H xs rs) (d : DrawAt H a c) (k : KeepBut a H H') : Tups H' xs rs:=h.keep fun p z e=>k _ _ (d.neT e) e
theorem Tups.at {H : Hp} {xs : List V} {rs : List (List Int)} (h : Tups H xs rs) {i : Nat} {x : V} (e : xs[i]? = some x) : ∃ p r,x = .ref p∧rs[i]? = some r∧H p=some (.tup (r.map V.int)):=by
  have hi:=(List.getElem?_eq_some_iff.mp e).1
  have hr : rs[i]? = some (rs[i]'(by rw [← h.1]; exact hi)):=List.getElem?_eq_getElem (by rw [← h.1]; exact hi)
  obtain ⟨p,e',hp⟩:=h.2 i x _ e hr
  exact ⟨p,_,e',hr,hp⟩
theorem Tups.rows {H : Hp} {a : Addr} {xs : List V} {rs : List (List Int)} (h : Tups H xs rs) (ha : H a=some (.lst xs)) : Rows H a rs:=by
  obtain ⟨ps,e⟩ : ∃ ps : List Addr,xs=ps.map V.ref:=by
    have : ∀ (xs : List V) (rs : List (List Int)),Tups H xs rs→∃ ps : List Addr,xs=ps.map V.ref:=by
      intro xs
      induction xs with
      | nil=>exact fun _ _=>⟨[],rfl⟩
      | cons x r ih=>
        intro rs h
        obtain ⟨p,_,e,_⟩:=h.at (i:=0) rfl
        obtain ⟨ps,e'⟩:=ih (rs.drop 1) (by simpa using h.drop 1)
        exact ⟨p :: ps,by rw [e,e']; rfl⟩
    exact this xs rs h
  subst e
  refine ⟨ps,ha,by rw [← h.1,List.length_map],fun i p r e1 e2=>?_⟩
  obtain ⟨q,e,hq⟩:=h.2 i (.ref p) r (by rw [List.getElem?_map,e1]; rfl) e2
  cases e
  exact hq
theorem Rows.tups {H : Hp} {a : Addr} {rs : List (List Int)} (h : Rows H a rs) : ∃ xs,H a=some (.lst xs)∧Tups H xs rs:=by
  obtain ⟨ps,h1,h2,h3⟩:=h
  refine ⟨_,h1,by rw [List.length_map,h2],fun i x r e1 e2=>?_⟩
  rw [List.getElem?_map] at e1
  cases q : ps[i]? with
  | none=>rw [q] at e1; cases e1
  | some p=>rw [q] at e1; cases e1; exact ⟨p,rfl,h3 i p r q e2⟩
theorem getElem_next {α : Type} {rs : List α} {i : Nat} {r : α} (e : rs[i]? = some r) : rs.take (i + 1)=rs.take i ++ [r]:=by
  obtain ⟨hi,e'⟩:=List.getElem?_eq_some_iff.mp e
  rw [List.take_succ_eq_append_getElem hi,e']
end L2
namespace L2
open PySem PySem.Spec PySem.W PyProof.Rows
section
variable {o : Obj} {kvs : List (List Key×V)} {a D : Addr} {g : TG} {ti : TT} {te tk tv : TE} {σ₀ : St} {H1 : Hp} {R : Hp→Prop}
end
end L2
namespace L2
open PySem PySem.Spec PySem.W PyProof.Rows
end L2
namespace L2
end L2
namespace L2
open PySem PySem.Spec PySem.W PyProof.Rows
def Within (rs : List (List Int)) (cs : List Int) : Prop:=∀ (j : Nat) u,cs[j]? = some u→0≤u∧u≤colAt rs 1 (j : Int)
end L2
namespace L2
open PySem PySem.Spec PySem.W PyProof.Rows
theorem comp_rows {K : PySem.W.Frag} {a D : Addr} {xs : List V} {rs : List (List Int)} {g : TG} {te : TE} {σ₀ : St} {H1 : Hp} {R : Hp→Prop} (gm : List Int→List Int) (hD : H1 D=none) (hx : H1 a=some (.lst xs)) (ht : Tups H1 xs rs) (hn : rs.length≤900)
    (step : ∀ (i : Nat) p r H,rs[i]? = some r→Same H1 H→H p=some (.tup (r.map V.int))→∀ (K1 : V→Hp→Prop) (K2 : Hp→Prop),(∀ t,H t=none→K1 (.ref t) (upd H t (.tup ((gm r).map V.int))))→
      g (.ref p) σ₀ H fun σ2 H2=>(∀ (k : Nat) v,σ₀[k]? = some (some v)→σ2[k]? = some (some v))∧tIf0 σ2 H2 fun b H3=>if b=true then te σ2 H3 K1 else K2 H3)
    (fin : ∀ H,Same H1 H→Rows H D (rs.map gm)→R H) :
    ∃ W : Nat→Nat→Hp→Prop,(∃ m,W 0 m (upd H1 D (.lst [])))∧∀ i m H,W i m H→((Itl K a).stop i H∧R H)∨((Itl K a).go i H∧∀ x H',(Itl K a).yld i H x H'→g x σ₀ H' fun σ2 H2=>(∀ (k : Nat) v,σ₀[k]? = some (some v)→σ2[k]? = some (some v))∧
      tIf0 σ2 H2 fun b H3=>if b=true then te σ2 H3 fun y H4=>∃ zs,H4 D=some (.lst zs)∧zs.length < sizeLine∧∃ m',m' < m∧W (i + 1) m' (upd H4 D (.lst (zs ++ [y]))) else ∃ m',m' < m∧W (i + 1) m' H3):=by
  have lx:=ht.1
  refine ⟨fun i m H=>i + m=xs.length∧Same H1 H∧Rows H D ((rs.take i).map gm),⟨xs.length,by omega,same_new hD _,Rows.nil upd_same⟩,?_⟩
  rintro i m H ⟨him,s1,R1⟩
  have ex:=s1 _ _ hx
  by_cases hi : i < xs.length
  · refine .inr ⟨⟨xs,_,SqL.of ex,List.getElem?_eq_getElem hi⟩,?_⟩
    rintro x H' ⟨rfl,hy⟩
    obtain ⟨p,r,rfl,er,hp⟩:=ht.at (hy _ (SqL.of ex))
    refine step i p r H' er s1 (s1 _ _ hp) _ _ fun t htt=>?_
    obtain ⟨ys,ey,eyl,_⟩:=R1.get
    refine ⟨ys,by rw [upd_ne (ne_of_none ey htt)]; exact ey,small1000 (by rw [eyl,List.length_map,List.length_take]; omega),m - 1,by omega,by omega,(s1.trans (same_new htt _)).young hD,?_⟩
    rw [← take_next er,List.map_append]
    exact R1.push (r:=gm r) ey htt
  · have e : rs.take i=rs:=List.take_of_length_le (by omega)
    rw [e] at R1
    exact .inl ⟨⟨xs,SqL.of ex,by omega⟩,fin H s1 R1⟩
end L2
namespace L2
open PySem PySem.Spec PySem.W PyProof.Rows
section
variable {X : Cx} {pins : List (Addr×Obj)} {σ : St} {H : Hp} {s : Shared}
end
end L2
namespace L2
open PySem PySem.Spec PySem.W PyProof.Rows
section
variable {X : Cx} {pins : List (Addr×Obj)} {σ : St} {H : Hp} {s : Shared} {N' : List Str} {ix : List (Option Nat)} {p q : Str} {scope : Scope}
end
end L2
namespace L2
open PySem PySem.Spec PySem.W PyProof.Rows
section
variable {X : Cx} {pins : List (Addr×Obj)} {σ : St} {H : Hp} {s : Shared}
end
end L2
namespace L2
open PySem PySem.Spec PySem.W PyProof.Rows
end L2
namespace L2
def S : List (Int×Int)→Int→Int→Int
  | [],_,_=>0
  | p :: r,f,l=>(if f≤p.1∧p.1≤l then p.2 else 0) + S r f l
end L2
namespace L2
open PySem PySem.Spec PySem.W PyProof.Rows
end L2
namespace L2
open PySem PySem.Spec PySem.W PyProof.Rows
end L2
namespace L2
abbrev Quad:=Int×Int×Int×Int
def SX (f l : Int) : List Quad→Int
  | []=>0
  | (d,c,x,y) :: Z=>(if f≤d∧d≤l then x else 0) + SX f l Z
def one (d x : Int) (Ts : List (Int×Int)) : Int:=(Ts.map fun T=>if T.1≤d∧d≤T.2 then x else 0).sum
def CX (Ts : List (Int×Int)) (Z : List Quad) : Int:=(Ts.map fun T=>SX T.1 T.2 Z).sum
end L2
namespace L2
end L2
namespace L2
end L2
namespace L2
end L2
namespace L2
end L2
namespace L2
end L2
namespace L2
open PySem PySem.Spec PySem.W PyProof.Rows
end L2
namespace L2
open PySem PySem.Spec PySem.W PyProof.Rows
def rListOf (K : PySem.W.Frag) : List V→Hp→VK→Prop:=fun xs H Q=>∃ p ys,xs=[.ref p]∧(SqL K H p ys∨SqT K H p ys)∧∀ l,H l=none→Q (.ref l) (upd H l (.lst ys))
section
variable {K : PySem.W.Frag} {a c x D : Addr} {g : TG} {te : TE} {σ₀ : St} {H1 : Hp} {R : Hp→Prop}
end
theorem comp_byD {K : PySem.W.Frag} {a D : Addr} {xs : List V} {g : TG} {te : TE} {σ₀ : St} {H1 : Hp} {R : Hp→Prop} (P : Nat→List V→Hp→Prop) (hD : H1 D=none) (hx : H1 a=some (.lst xs)) (hn : xs.length≤1000)
    (st : ∀ i zs H H',P i zs H→(H D=none∨∃ l,H D=some (.lst l))→(∀ b o,b≠D→H b=some o→H' b=some o)→P i zs H') (h0 : P 0 [] H1)
    (step : ∀ i x zs H,xs[i]? = some x→H D=some (.lst zs)→Same H1 H→P i zs H→∀ K1 : V→Hp→Prop,(∀ y H4,Same H H4→P (i + 1) (zs ++ [y]) H4→K1 y H4)→
      g x σ₀ H fun σ2 H2=>(∀ (k : Nat) v,σ₀[k]? = some (some v)→σ2[k]? = some (some v))∧te σ2 H2 K1)
    (fin : ∀ zs H,Same H1 H→P xs.length zs H→zs.length=xs.length→H D=some (.lst zs)→R H) :
    ∃ W : Nat→Nat→Hp→Prop,(∃ m,W 0 m (upd H1 D (.lst [])))∧∀ i m H,W i m H→((Itl K a).stop i H∧R H)∨((Itl K a).go i H∧∀ x H',(Itl K a).yld i H x H'→g x σ₀ H' fun σ2 H2=>(∀ (k : Nat) v,σ₀[k]? = some (some v)→σ2[k]? = some (some v))∧tIf0 σ2 H2 fun b H3=>
      if b=true then te σ2 H3 fun y H4=>∃ zs,H4 D=some (.lst zs)∧zs.length < sizeLine∧∃ m',m' < m∧W (i + 1) m' (upd H4 D (.lst (zs ++ [y]))) else ∃ m',m' < m∧W (i + 1) m' H3):=by
  refine ⟨fun i m H=>i + m=xs.length∧Same H1 H∧∃ zs,H D=some (.lst zs)∧zs.length=i∧P i zs H,⟨xs.length,by omega,same_new hD _,[],upd_same,rfl,st _ _ _ _ h0 (.inl hD) fun b o hb e=>by rw [upd_ne hb]; exact e⟩,?_⟩
  rintro i m H ⟨him,s1,zs,hz,hl,hp⟩
  have ex:=s1 _ _ hx
  by_cases hi : i < xs.length
  · refine .inr ⟨⟨xs,_,SqL.of ex,List.getElem?_eq_getElem hi⟩,?_⟩
    rintro x H' ⟨rfl,hy⟩
    refine step i x zs H' (hy _ (SqL.of ex)) hz s1 hp _ fun y H4 s4 p4=>⟨zs,s4 _ _ hz,small1000 (by omega),m - 1,by omega,by omega,(s1.trans s4).young hD,zs ++ [y],upd_same,by rw [List.length_append,List.length_singleton]; omega,st _ _ _ _ p4 (.inr ⟨_,s4 _ _ hz⟩) fun b o hb e=>by rw [upd_ne hb]; exact e⟩
  · have e : i=xs.length:=by omega
    subst e
    exact .inl ⟨⟨xs,SqL.of ex,Nat.le_refl _⟩,fin zs H s1 hp hl hz⟩
theorem Rows.but {H H' : Hp} {D l : Addr} {ls : List (List Int)} (h : Rows H l ls) (hk : ∀ b o,b≠D→H b=some o→H' b=some o) (nl : H D=none∨∃ zs,H D=some (.lst zs)) (n : l≠D) : Rows H' l ls:=by
  obtain ⟨ps,h1,h2,h3⟩:=h
  refine ⟨ps,hk _ _ n h1,h2,fun i p r e1 e2=>hk _ _ (fun z=>?_) (h3 i p r e1 e2)⟩
  have:=h3 i p r e1 e2
  rw [z] at this
  rcases nl with y | ⟨zs,y⟩ <;> (rw [y] at this; cases this)
theorem Tups.cat {H : Hp} {xs ys : List V} {rs qs : List (List Int)} (h : Tups H xs rs) (h' : Tups H ys qs) : Tups H (xs ++ ys) (rs ++ qs):=by
  obtain ⟨h1,h2⟩:=h
  obtain ⟨g1,g2⟩:=h'
  refine ⟨by rw [List.length_append,List.length_append,h1,g1],fun i x r e1 e2=>?_⟩
  by_cases c : i < xs.length
  · rw [List.getElem?_append_left c] at e1
    rw [List.getElem?_append_left (by omega)] at e2
    exact h2 i x r e1 e2
  · rw [List.getElem?_append_right (by omega)] at e1
    rw [List.getElem?_append_right (by omega),← h1] at e2
    exact g2 _ x r e1 e2
theorem EqD.rows {H : Hp} {p q : Addr} {us : List (List Int)} (h1 : Rows H p us) (h2 : Rows H q us) (hn : us.length≤1000) (hw : ∀ r∈us,r.length≤1000) : EqD H 2 (.ref p) (.ref q):=by
  obtain ⟨xs,ex,hx⟩:=h1.tups
  obtain ⟨ys,ey,hy⟩:=h2.tups
  have lx:=hx.1
  have ly:=hy.1
  refine .lst ex ey (by omega) (by omega) fun i x y e1 e2=>?_
  obtain ⟨p',r,rfl,er,hp⟩:=hx.at e1
  obtain ⟨q',r',rfl,er',hq⟩:=hy.at e2
  rw [er] at er'
  cases er'
  refine .tup hp hq rfl (by rw [List.length_map]; exact hw r (List.mem_of_getElem? er)) fun i x y e1 e2=>?_
  rw [e1] at e2
  cases e2
  obtain ⟨v,rfl,_⟩:=ints_at e1
  exact .flat rfl
end L2
namespace L2
open PySem
end L2
namespace HT
open PySem PySem.Spec PyProof.Rows
variable {prog : Program} {w : World} {A : Around} {E : Value→Shared→Prop} {s : Shared}
end HT
namespace L2
open PySem PySem.Spec PyProof.Rows
end L2
namespace L2
open PySem PySem.Spec PySem.W PyProof.Rows
end L2
namespace L2
open PySem
end L2
namespace L2
open PySem PySem.Spec PyProof.Rows
variable {X : Cx}
end L2
namespace L2
open PySem
end L2
namespace L2
open PySem
end L2
namespace L2
open PySem
end L2
namespace L2
open PySem PySem.Spec PySem.W PyProof.Rows
section
variable {X : Cx}
end
end L2
namespace L2
open PySem
variable {P : Program} {w : World} {K : PySem.W.Frag} {mg : Str→Option Value} {base : Heap}
end L2
namespace L2
open PySem PySem.Spec PyProof.Rows
section
variable {X : Cx}
def rMax (K : PySem.W.Frag) : List V→Hp→VK→Prop:=fun xs H Q=>∃ (p : Addr) (ns : List Int),xs=[.ref p]∧SqL K H p (ns.map V.int)∧0 < ns.length∧∀ M,M∈ns→(∀ a∈ns,a≤M)→Q (.int M) H
theorem call_maxI (hc : X.calm=true) : CallR X (.builtin "max") (rMax X.K):=by
  intro pins s σ H xs us Q I r h
  obtain ⟨p,ns,rfl,hq,hne,q⟩:=h
  obtain ⟨u,rfl,ru⟩:=r.one
  cases ru
  obtain ⟨its,rv,pl,hz⟩:=I.list hq
  have ia:=ints_of rv
  obtain ⟨ys,ey⟩:=ia.allInts.items
  have hl:=pl.isList
  have e2 : ns=ys.toList.map (·.1):=by rw [← ia.numsOf,← nums_intItems,← ey]
  have hsz : 0 < ys.size:=by rw [e2,List.length_map,Array.length_toList] at hne; exact hne
  rw [ey] at hl
  refine max_intList (I.ok.hd hc) hl hsz fun v h' tk hv hk=>?_
  obtain ⟨t,rfl⟩:=intItems_at hv
  obtain ⟨h1,h2⟩:=argBest_gt (numAt ys) (ys.size - 1)
  refine ⟨.int _,H,I.kept (t':=tk) hk,⟨t,rfl⟩,q _ ?_ fun a ha=>?_⟩
  · rw [e2,numAt_eq]; exact getD_mem (by rw [List.length_map,Array.length_toList]; omega)
  · rw [e2] at ha
    obtain ⟨j,hj,rfl⟩:=mem_getD ha
    rw [List.length_map,Array.length_toList] at hj
    rw [← numAt_eq]; exact h2 j (by omega)
end
end L2
namespace L2
open PySem
end L2
namespace L2
open PySem
end L2
namespace L2
open PySem
end L2
namespace L2
open PySem
end L2
namespace L2
open PySem
end L2
namespace L2
open PySem
end L2
namespace L2
open PySem PySem.Spec PyProof.Rows
section
variable {X : Cx} {a : Expr} {pos : PySem.Pos} {ta : TE}
def tNotT (K : PySem.W.Frag) (ta : TE) : TE:=fun σ H Q=>ta σ H fun x H1=>∃ k,TruV K x H1 k∧Q (.bl (!k)) H1
theorem pe_notT (ha : PE X a ta) : PE X (.UnaryOp .Not a pos) (tNotT X.K ta):=by
  intro pins s σ H Q I h
  refine UnaryOp_ (thn (ha pins s σ H _ I h) fun v s1 ⟨x,H1,I1,r1,k,tv,q1⟩=>not_of (thn (tru_ok pins s1 σ H1 x v (fun c H2=>Q (.bl (!c)) H2) I1 r1 ⟨k,tv,q1⟩) fun c s2 ⟨H2,I2,q2⟩=>⟨.bl (!c),H2,I2,rfl,q2⟩))
end
abbrev Its:=List (Int×Int)
def getK (its : Its) (k : Int) : Option Int:=(its.find? fun q=>decide (q.1=k)).map (·.2)
def addK (its : Its) (q : Int×Int) : Its:=if (its.any fun p=>decide (p.1=q.1))=true then its.map (fun p=>if p.1=q.1 then (p.1,(getK its q.1).getD 0 + q.2) else p) else its ++ [(q.1,(getK its q.1).getD 0 + q.2)]
def toK (its : Its) : List (Key×V):=its.map fun q=>(Sum.inl q.1,V.int q.2)
theorem toK_val (its : Its) (k : Int) : valV (toK its) (.inl k)=(getK its k).map V.int:=by
  unfold toK getK
  induction its with
  | nil=>rfl
  | cons p its ih=>
    rw [List.map_cons,List.find?_cons]
    by_cases c : p.1=k
    · rw [valV_pos (by rw [c]),decide_eq_true c]; rfl
    · rw [valV_neg (fun z=>c (Sum.inl.inj z)),decide_eq_false c]; exact ih
theorem toK_get (its : Its) (k : Int) : (valV (toK its) (.inl k)).getD (.int 0) = .int ((getK its k).getD 0):=by
  rw [toK_val]; cases getK its k <;> rfl
theorem toK_put (its : Its) (k x : Int) : putK (toK its) (.inl k) (.int ((getK its k).getD 0 + x))=toK (addK its (k,x)):=by
  unfold putK addK
  have e : ((toK its).any fun kv=>decide (kv.1=Sum.inl k))=its.any fun p=>decide (p.1=k):=by
    unfold toK
    rw [List.any_map]
    congr 1; funext p
    show decide (Sum.inl p.1=Sum.inl k)=decide (p.1=k)
    by_cases c : p.1=k
    · exact (decide_eq_true (congrArg Sum.inl c)).trans (decide_eq_true c).symm
    · exact (decide_eq_false fun z=>c (Sum.inl.inj z)).trans (decide_eq_false c).symm
  rw [e]
  split
  · unfold toK
    rw [List.map_map,List.map_map]
    refine List.map_congr_left fun p _=>?_
    show (if Sum.inl p.1=Sum.inl k then _ else _)=(fun q : Int×Int=>(Sum.inl q.1,V.int q.2)) (if p.1=k then _ else p)
    by_cases c : p.1=k
    · rw [if_pos c,if_pos (by rw [c])]
    · rw [if_neg c,if_neg fun z=>c (Sum.inl.inj z)]
  · unfold toK
    rw [List.map_append]; rfl
theorem addK_keys (its : Its) (q : Int×Int) : (addK its q).map (·.1)=if q.1∈its.map (·.1) then its.map (·.1) else its.map (·.1) ++ [q.1]:=by
  unfold addK
  have e : (its.any fun p=>decide (p.1=q.1))=true↔q.1∈its.map (·.1):=by
    rw [List.any_eq_true,List.mem_map]
    exact ⟨fun ⟨p,h1,h2⟩=>⟨p,h1,of_decide_eq_true h2⟩,fun ⟨p,h1,h2⟩=>⟨p,h1,decide_eq_true h2⟩⟩
  by_cases c : q.1∈its.map (·.1)
  · rw [if_pos (e.mpr c),if_pos c,List.map_map]
    refine List.map_congr_left fun p _=>?_
    show (if p.1=q.1 then (p.1,_) else p).1=p.1
    split <;> rfl
  · rw [if_neg (fun z=>c (e.mp z)),if_neg c,List.map_append]; rfl
theorem getK_mem {its : Its} (hn : (its.map (·.1)).Nodup) {q : Int×Int} (hq : q∈its) : getK its q.1=some q.2:=by
  unfold getK
  induction its with
  | nil=>cases hq
  | cons p its ih=>
    rw [List.find?_cons]
    rw [List.map_cons,List.nodup_cons] at hn
    rcases List.mem_cons.mp hq with rfl | hq
    · rw [decide_eq_true rfl]; rfl
    · rw [decide_eq_false (fun e=>hn.1 (by rw [e]; exact List.mem_map.mpr ⟨q,hq,rfl⟩))]
      exact ih hn.2 hq
def sumsOf (os : Its) : Its:=os.foldl addK []
theorem sums_nodup : ∀ (os acc : Its),(acc.map (·.1)).Nodup→((os.foldl addK acc).map (·.1)).Nodup
  | [],acc,h=>h
  | q :: os,acc,h=>sums_nodup os (addK acc q) (by
    rw [addK_keys]
    split
    · exact h
    · rename_i n
      exact List.nodup_append.mpr ⟨h,by simp,fun a ha b hb e=>n (by rw [← List.mem_singleton.mp hb,← e]; exact ha)⟩)
theorem sums_keys : ∀ (os acc : Its) (k : Int),k∈(os.foldl addK acc).map (·.1)↔k∈acc.map (·.1)∨k∈os.map (·.1)
  | [],acc,k=>⟨.inl,fun z=>z.elim id fun e=>nomatch e⟩
  | q :: os,acc,k=>by
    rw [List.foldl_cons,sums_keys os (addK acc q) k,addK_keys,List.map_cons,List.mem_cons]
    split
    · rename_i h
      exact ⟨fun z=>z.elim .inl fun e=>.inr (.inr e),fun z=>z.elim .inl fun e=>e.elim (fun e=>.inl (e ▸ h)) .inr⟩
    · rw [List.mem_append,List.mem_singleton,or_assoc]
theorem nodup_few : ∀ (n : Nat) (l : List Int),l.Nodup→(∀ x∈l,1≤x∧x≤(n : Int))→l.length≤n
  | 0,l,_,h=>by
    cases l with
    | nil=>exact Nat.le_refl _
    | cons x l=>have:=h x (.head _); omega
  | n + 1,l,hn,h=>by
    have ih:=nodup_few n (l.erase ((n : Int) + 1)) (hn.erase _) fun x hx=>by
      have h1:=h x (List.mem_of_mem_erase hx)
      have h2:=(hn.mem_erase_iff.mp hx).1
      constructor
      · exact h1.1
      · have : x≠((n : Int) + 1):=h2; have : x≤((n + 1 : Nat) : Int):=h1.2; omega
    rw [List.length_erase] at ih
    split at ih <;> omega
def HeldIs (its : Its) (hs : List (List Int)) : Prop:=hs.Perm (its.map fun q=>[q.1,q.2])∧hs.Pairwise (fun a b=>a.getD 0 0 < b.getD 0 0)
theorem HeldIs.uniq {its : Its} {hs hs' : List (List Int)} (h : HeldIs its hs) (h' : HeldIs its hs') : hs=hs':=
  List.Perm.eq_of_pairwise (le:=fun a b : List Int=>a.getD 0 0 < b.getD 0 0) (fun a b _ _ x y=>absurd x (by omega)) h.2 h'.2 (h.1.trans h'.1.symm)
theorem held_sorted {its : Its} {hs : List (List Int)} (hn : (its.map (·.1)).Nodup) (hp : hs.Perm (its.map fun q=>[q.1,q.2])) (hs' : hs.Pairwise (fun a b=>lexB b a=false)) : HeldIs its hs:=by
  refine ⟨hp,?_⟩
  have nd : (hs.map fun r=>r.getD 0 0).Nodup:=by
    refine (hp.map _).nodup_iff.mpr ?_
    rw [List.map_map]
    exact hn
  have nd' : hs.Pairwise (fun a b=>a.getD 0 0≠b.getD 0 0):=List.pairwise_map.mp nd
  have hw : ∀ r∈hs,∃ x y,r=[x,y]:=fun r hr=>by
    obtain ⟨q,_,e⟩:=List.mem_map.mp (hp.mem_iff.mp hr)
    exact ⟨_,_,e.symm⟩
  refine List.Pairwise.imp_of_mem (fun {a b} ha hb ⟨h1,h2⟩=>?_) (hs'.and nd')
  obtain ⟨x,y,rfl⟩:=hw a ha
  obtain ⟨x',y',rfl⟩:=hw b hb
  have h2 : x≠x':=h2
  show x < x'
  by_cases c : x' < x
  · exfalso
    have : lexB [x',y'] [x,y]=true:=by simp [lexB,c]; exact .inl (by omega)
    rw [this] at h1; cases h1
  · omega
def occ (cts : List (List (List Int))) (parts : List (List Int)) : Its:=parts.flatMap fun q=>(cts.getD (q.getD 0 0 - 1).toNat []).map fun r=>(r.getD 0 0,q.getD 1 0 * r.getD 1 0)
abbrev Kds:=List (List (List Int)×List (List Int))
def heldG (n : Nat) (hs : List (List Int)) : Prop:=hs≠[]∧∀ r∈hs,∃ k v,r=[k,v]∧1≤k∧k≤(n : Int)
structure KdsOk (R : Kds) : Prop where
  len : R.length≤12
  parts : ∀ q∈R,∀ r∈q.1,r.length=2
  few : ∀ q∈R,q.1.length≤12∧q.2.length≤12
  held : ∀ q∈R,heldG R.length q.2
theorem heldG.mono {n m : Nat} {hs : List (List Int)} (h : heldG n hs) (l : n≤m) : heldG m hs:=⟨h.1,fun r hr=>by
  obtain ⟨k,v,e,a,b⟩:=h.2 r hr
  exact ⟨k,v,e,a,by omega⟩⟩
def partsOk (many : Nat) : Int→List (List Int)→Bool
  | _,[]=>true
  | ahead,q :: qs=>decide (ahead < q.getD 0 0∧q.getD 0 0≤(many : Int)∧1≤q.getD 1 0∧q.getD 1 0≤100) && partsOk many (q.getD 0 0) qs
theorem partsOk_at {many : Nat} : ∀ {qs : List (List Int)} {ahead : Int},partsOk many ahead qs=true→∀ q∈qs,ahead < q.getD 0 0∧q.getD 0 0≤(many : Int)∧1≤q.getD 1 0∧q.getD 1 0≤100
  | [],_,_,q,hq=>by cases hq
  | p :: qs,ahead,h,q,hq=>by
    rw [partsOk,Bool.and_eq_true] at h
    have h1:=of_decide_eq_true h.1
    rcases List.mem_cons.mp hq with rfl | hq
    · exact h1
    · obtain ⟨a,b⟩:=partsOk_at h.2 q hq
      exact ⟨by omega,b⟩
theorem partsOk_rise {many : Nat} : ∀ {qs : List (List Int)} {ahead : Int},partsOk many ahead qs=true→qs.Pairwise (fun a b=>a.getD 0 0 < b.getD 0 0)
  | [],_,_=>.nil
  | p :: qs,ahead,h=>by
    rw [partsOk,Bool.and_eq_true] at h
    exact List.pairwise_cons.mpr ⟨fun q hq=>(partsOk_at h.2 q hq).1,partsOk_rise h.2⟩
theorem partsOk_few {many : Nat} {qs : List (List Int)} (h : partsOk many 0 qs=true) : qs.length≤many:=by
  have:=nodup_few many (qs.map fun q=>q.getD 0 0) (by
    refine List.pairwise_map.mpr ((partsOk_rise h).imp fun z=>by omega)) fun x hx=>by
    obtain ⟨q,hq,rfl⟩:=List.mem_map.mp hx
    obtain ⟨a,b,_⟩:=partsOk_at h q hq
    exact ⟨by omega,b⟩
  rwa [List.length_map] at this
def ctsOf (R : Kds) : List (List (List Int)):=R.map (·.2)
theorem occ_good {R : Kds} (ok : KdsOk R) {qs : List (List Int)} (h : partsOk R.length 0 qs=true) : (qs≠[]→occ (ctsOf R) qs≠[])∧∀ p∈occ (ctsOf R) qs,1≤p.1∧p.1≤(R.length : Int):=by
  have at_ : ∀ q∈qs,∃ e∈R,(ctsOf R).getD (q.getD 0 0 - 1).toNat []=e.2:=fun q hq=>by
    obtain ⟨a,b,_⟩:=partsOk_at h q hq
    have hl : (q.getD 0 0 - 1).toNat < R.length:=by omega
    refine ⟨R[(q.getD 0 0 - 1).toNat],List.getElem_mem hl,?_⟩
    unfold ctsOf
    rw [List.getD_eq_getElem?_getD,List.getElem?_map,List.getElem?_eq_getElem hl]; rfl
  constructor
  · intro hne
    cases qs with
    | nil=>exact absurd rfl hne
    | cons q qs=>
      obtain ⟨e,he,e1⟩:=at_ q (.head _)
      obtain ⟨n1,_⟩:=ok.held e he
      intro z
      unfold occ at z
      rw [List.flatMap_cons,e1] at z
      have:=(List.append_eq_nil_iff.mp z).1
      exact n1 (List.map_eq_nil_iff.mp this)
  · intro p hp
    obtain ⟨q,hq,hm⟩:=List.mem_flatMap.mp hp
    obtain ⟨e,he,e1⟩:=at_ q hq
    rw [e1] at hm
    obtain ⟨r,hr,rfl⟩:=List.mem_map.mp hm
    obtain ⟨k,v,rfl,a,b⟩:=(ok.held e he).2 r hr
    exact ⟨a,b⟩
theorem sums_few {R : Kds} (ok : KdsOk R) {qs : List (List Int)} (h : partsOk R.length 0 qs=true) {os : Its} (hos : ∀ p∈os,p∈occ (ctsOf R) qs) : (sumsOf os).length≤12:=by
  have:=nodup_few R.length ((sumsOf os).map (·.1)) (sums_nodup os [] List.nodup_nil) fun x hx=>by
    rcases (sums_keys os [] x).mp hx with z | z
    · cases z
    · obtain ⟨p,hp,rfl⟩:=List.mem_map.mp z
      exact (occ_good ok h).2 p (hos p hp)
  rw [List.length_map] at this
  have:=ok.len
  omega
theorem HeldIs.good {R : Kds} (ok : KdsOk R) {qs : List (List Int)} (hne : qs≠[]) (h : partsOk R.length 0 qs=true) {hs : List (List Int)} (hh : HeldIs (sumsOf (occ (ctsOf R) qs)) hs) : heldG R.length hs∧hs.length≤12:=by
  refine ⟨⟨fun z=>?_,fun r hr=>?_⟩,?_⟩
  · subst z
    have hk:=hh.1.length_eq
    rw [List.length_map] at hk
    have : sumsOf (occ (ctsOf R) qs)=[]:=List.eq_nil_of_length_eq_zero hk.symm
    obtain ⟨p,os,e⟩:=List.exists_cons_of_ne_nil ((occ_good ok h).1 hne)
    have:=(sums_keys (occ (ctsOf R) qs) [] p.1).mpr (.inr (by rw [e]; exact .head _))
    rw [show (occ (ctsOf R) qs).foldl addK []=[] by assumption] at this
    cases this
  · obtain ⟨q,hq,rfl⟩:=List.mem_map.mp (hh.1.mem_iff.mp hr)
    have hk:=(sums_keys (occ (ctsOf R) qs) [] q.1).mp (List.mem_map.mpr ⟨q,hq,rfl⟩)
    rcases hk with z | z
    · cases z
    · obtain ⟨p,hp,e⟩:=List.mem_map.mp z
      obtain ⟨a,b⟩:=(occ_good ok h).2 p hp
      rw [e] at a b
      exact ⟨_,_,rfl,a,b⟩
  · rw [hh.1.length_eq,List.length_map]
    exact sums_few ok h fun p hp=>hp
theorem KdsOk.raw {R : Kds} (ok : KdsOk R) (h : R.length < 12) : KdsOk (R ++ [([],[[(R.length : Int) + 1,1]])]) where
  len:=by rw [List.length_append,List.length_singleton]; omega
  parts:=fun q hq r hr=>by
    rcases List.mem_append.mp hq with z | z
    · exact ok.parts q z r hr
    · rw [List.mem_singleton.mp z] at hr; cases hr
  few:=fun q hq=>by
    rcases List.mem_append.mp hq with z | z
    · exact ok.few q z
    · rw [List.mem_singleton.mp z]; exact ⟨(by show 0≤12; decide),(by show 1≤12; decide)⟩
  held:=fun q hq=>by
    rw [List.length_append,List.length_singleton]
    rcases List.mem_append.mp hq with z | z
    · exact (ok.held q z).mono (by omega)
    · rw [List.mem_singleton.mp z]
      exact ⟨by simp,fun r hr=>⟨_,_,List.mem_singleton.mp hr,by omega,by omega⟩⟩
theorem KdsOk.made {R : Kds} (ok : KdsOk R) (h : R.length < 12) {qs hs : List (List Int)} (h2 : ∀ r∈qs,r.length=2) (hne : qs≠[]) (hp : partsOk R.length 0 qs=true) (hh : HeldIs (sumsOf (occ (ctsOf R) qs)) hs) : KdsOk (R ++ [(qs,hs)]) where
  len:=by rw [List.length_append,List.length_singleton]; omega
  parts:=fun q hq r hr=>by
    rcases List.mem_append.mp hq with z | z
    · exact ok.parts q z r hr
    · rw [List.mem_singleton.mp z] at hr; exact h2 r hr
  few:=fun q hq=>by
    rcases List.mem_append.mp hq with z | z
    · exact ok.few q z
    · rw [List.mem_singleton.mp z]; exact ⟨Nat.le_trans (partsOk_few hp) ok.len,(hh.good ok hne hp).2⟩
  held:=fun q hq=>by
    rw [List.length_append,List.length_singleton]
    rcases List.mem_append.mp hq with z | z
    · exact (ok.held q z).mono (by omega)
    · rw [List.mem_singleton.mp z]; exact (hh.good ok hne hp).1.mono (by omega)
def fldK (rc ct : Addr) : List (Str×V):=[("recipes",.ref rc),("contents",.ref ct)]
def RowsA (H : Hp) (a : Addr) (ps : List Addr) (L : List (List (List Int))) : Prop:=H a=some (.lst (ps.map V.ref))∧ps.length=L.length∧∀ (i : Nat) p rs,ps[i]? = some p→L[i]? = some rs→Rows H p rs
def RowsL (H : Hp) (a : Addr) (L : List (List (List Int))) : Prop:=∃ ps : List Addr,RowsA H a ps L
theorem RowsA.l {H : Hp} {a : Addr} {ps : List Addr} {L : List (List (List Int))} (h : RowsA H a ps L) : RowsL H a L:=⟨ps,h⟩
structure KS where
  p : Addr
  rc : Addr
  ct : Addr
  ps : List Addr
  qs : List Addr
  R : Kds
def KS.more (k : KS) (a h : Addr) (q : List (List Int)×List (List Int)) : KS:=⟨k.p,k.rc,k.ct,k.ps ++ [a],k.qs ++ [h],k.R ++ [q]⟩
structure KAt (C : Addr) (H : Hp) (k : KS) : Prop where
  ob : ∃ dx,H k.p=some (.ins C dx (fldK k.rc k.ct))
  rcp : RowsA H k.rc k.ps (k.R.map (·.1))
  con : RowsA H k.ct k.qs (k.R.map (·.2))
  ne : k.rc≠k.ct
theorem RowsA.same {H H' : Hp} {a : Addr} {ps : List Addr} {L : List (List (List Int))} (h : RowsA H a ps L) (s : Same H H') : RowsA H' a ps L:=by
  obtain ⟨h1,h2,h3⟩:=h
  exact ⟨s _ _ h1,h2,fun i p rs e1 e2=>(h3 i p rs e1 e2).same s⟩
theorem KAt.same {C : Addr} {H H' : Hp} {k : KS} (h : KAt C H k) (s : Same H H') : KAt C H' k:=⟨let ⟨dx,e⟩:=h.ob; ⟨dx,s _ _ e⟩,h.rcp.same s,h.con.same s,h.ne⟩
theorem Rows.butz {H H' : Hp} {a z : Addr} {zs : List V} {rs : List (List Int)} (h : Rows H a rs) (hz : H z=some (.lst zs)) (k : ∀ b o,b≠z→H b=some o→H' b=some o) (n : a≠z) : Rows H' a rs:=by
  obtain ⟨ps,h1,h2,h3⟩:=h
  exact ⟨ps,k _ _ n h1,h2,fun i p r e1 e2=>k _ _ (ne_of (h3 i p r e1 e2) hz (by intro z; cases z)) (h3 i p r e1 e2)⟩
theorem RowsA.but {H H' : Hp} {a z : Addr} {zs : List V} {ps : List Addr} {L : List (List (List Int))} (h : RowsA H a ps L) (hz : H z=some (.lst zs)) (k : ∀ b o,b≠z→H b=some o→H' b=some o) (n : a≠z) (np : z ∉ ps) : RowsA H' a ps L:=by
  obtain ⟨h1,h2,h3⟩:=h
  exact ⟨k _ _ n h1,h2,fun i p rs e1 e2=>(h3 i p rs e1 e2).butz hz k fun y=>np (y ▸ List.mem_of_getElem? e1)⟩
def KS.apart (k : KS) (z : Addr) : Prop:=k.rc≠z∧k.ct≠z∧z ∉ k.ps∧z ∉ k.qs
theorem RowsA.young {H : Hp} {a z : Addr} {ps : List Addr} {L : List (List (List Int))} (h : RowsA H a ps L) (hz : H z=none) : a≠z∧z ∉ ps:=by
  refine ⟨ne_of_none h.1 hz,fun m=>?_⟩
  obtain ⟨i,hi,rfl⟩:=List.getElem_of_mem m
  obtain ⟨o,e⟩:=(h.2.2 i _ _ (List.getElem?_eq_getElem hi) (List.getElem?_eq_getElem (by have:=h.2.1; omega))).there
  rw [e] at hz; cases hz
theorem KAt.young {C : Addr} {H : Hp} {k : KS} {z : Addr} (h : KAt C H k) (hz : H z=none) : k.apart z:=⟨(h.rcp.young hz).1,(h.con.young hz).1,(h.rcp.young hz).2,(h.con.young hz).2⟩
theorem DrawAt.neL {H : Hp} {a c p : Addr} {ps : List Addr} (d : DrawAt H a c) (h : H p=some (.lst (ps.map V.ref))) : p≠a:=fun z=>by
  subst z
  obtain ⟨ns,i,x,y,w,e,_⟩:=d
  rw [h] at e
  have e : ps.map V.ref=[.ref c,.int i,.int x,.int y,.int w]:=by injection e with e; injection e
  match ps,e with
  | p0 :: p1 :: _,e=>injection e with _ e; injection e with e _; cases e
theorem DrawAt.neR {H : Hp} {a c p : Addr} {rs : List (List Int)} (d : DrawAt H a c) (h : Rows H p rs) : p≠a:=let ⟨_,e,_⟩:=h; d.neL e
theorem DrawAt.lst {H : Hp} {a c : Addr} (d : DrawAt H a c) : ∃ zs,H a=some (.lst zs):=let ⟨_,_,_,_,_,e,_⟩:=d; ⟨_,e⟩
theorem RowsA.draw {H H' : Hp} {a c b : Addr} {ps : List Addr} {L : List (List (List Int))} (h : RowsA H b ps L) (d : DrawAt H a c) (k : KeepBut a H H') : RowsA H' b ps L:=by
  obtain ⟨zs,ez⟩:=d.lst
  refine h.but ez k (d.neL h.1) fun m=>?_
  obtain ⟨i,hi,e⟩:=List.getElem_of_mem m
  exact d.neR (h.2.2 i _ _ (List.getElem?_eq_getElem hi) (List.getElem?_eq_getElem (by have:=h.2.1; omega))) e
theorem KAt.draw {C : Addr} {H H' : Hp} {k : KS} {a c : Addr} (h : KAt C H k) (d : DrawAt H a c) (kb : KeepBut a H H') : KAt C H' k:=by
  obtain ⟨zs,ez⟩:=d.lst
  obtain ⟨dx,e⟩:=h.ob
  exact ⟨⟨dx,kb _ _ (ne_of e ez (by intro z; cases z)) e⟩,h.rcp.draw d kb,h.con.draw d kb,h.ne⟩
theorem RowsL.get {H : Hp} {a : Addr} {L : List (List (List Int))} (h : RowsL H a L) : ∃ xs : List V,H a=some (.lst xs)∧xs.length=L.length∧∀ (i : Nat) x,xs[i]? = some x→∃ p rs,x = .ref p∧L[i]? = some rs∧Rows H p rs:=by
  obtain ⟨ps,h1,h2,h3⟩:=h
  refine ⟨_,h1,by rw [List.length_map,h2],fun i x e=>?_⟩
  rw [List.getElem?_map] at e
  cases ep : ps[i]? with
  | none=>rw [ep] at e; cases e
  | some p=>
    rw [ep] at e; cases e
    have hl : i < L.length:=by rw [← h2]; exact (List.getElem?_eq_some_iff.mp ep).1
    exact ⟨p,L[i],rfl,List.getElem?_eq_getElem hl,h3 i p _ ep (List.getElem?_eq_getElem hl)⟩
theorem RowsL.neR {H : Hp} {a p : Addr} {L : List (List (List Int))} {rs : List (List Int)} (h : RowsL H a L) (hp : Rows H p rs) (hl : L≠[]) : p≠a:=fun z=>by
  subst z
  obtain ⟨ps,h1,h2,h3⟩:=h
  obtain ⟨qs,g1,g2,g3⟩:=hp
  rw [h1] at g1
  have e : ps.map V.ref=qs.map V.ref:=by injection g1 with g1; injection g1
  have l0 : 0 < L.length:=List.length_pos_iff.mpr hl
  have pl : 0 < ps.length:=by omega
  have ql : qs.length=ps.length:=by have:=congrArg List.length e; simpa using this.symm
  have e0 : ps[0]=qs[0]'(by omega):=by
    have:=congrArg (·[0]?) e
    simp only [List.getElem?_map,List.getElem?_eq_getElem pl,List.getElem?_eq_getElem (show 0 < qs.length by omega),Option.map_some] at this
    injection this with this; injection this
  obtain ⟨os,f1,_⟩:=h3 0 _ _ (List.getElem?_eq_getElem pl) (List.getElem?_eq_getElem l0)
  have f2:=g3 0 _ _ (List.getElem?_eq_getElem (show 0 < qs.length by omega)) (List.getElem?_eq_getElem (show 0 < rs.length by omega))
  rw [e0,f2] at f1
  cases f1
theorem RowsA.push {H H' : Hp} {a p : Addr} {ps : List Addr} {L : List (List (List Int))} {rs : List (List Int)} (h : RowsA H a ps L) (ha : H' a=some (.lst (ps.map V.ref ++ [.ref p]))) (hp : Rows H' p rs) (k : ∀ q rs,Rows H q rs→q∈ps→Rows H' q rs) : RowsA H' a (ps ++ [p]) (L ++ [rs]):=by
  obtain ⟨h1,h2,h3⟩:=h
  refine ⟨by rw [ha,List.map_append]; rfl,by rw [List.length_append,List.length_append,h2]; rfl,fun i q qs e1 e2=>?_⟩
  by_cases hi : i < ps.length
  · rw [List.getElem?_append_left hi] at e1
    rw [List.getElem?_append_left (by omega)] at e2
    exact k q qs (h3 i q qs e1 e2) (List.mem_of_getElem? e1)
  · have : i=ps.length:=by
      have:=(List.getElem?_eq_some_iff.mp e1).1
      rw [List.length_append,List.length_singleton] at this
      omega
    subst this
    rw [List.getElem?_append_right (Nat.le_refl _),Nat.sub_self] at e1
    rw [List.getElem?_append_right (by omega),h2,Nat.sub_self] at e2
    cases e1; cases e2
    exact hp
def kAtI (R : Kds) (k : Int) : List (List Int)×List (List Int):=R.getD (k - 1).toNat ([],[])
def inKd (R : Kds) (k : Int) : Prop:=1≤k∧k≤(R.length : Int)
def Keep2 (k : KS) (H H' : Hp) : Prop:=∀ b o,b≠k.rc→b≠k.ct→H b=some o→H' b=some o
def tooB (hs : List (List Int)) : Bool:=hs.any fun r=>decide (10000 < r.getD 1 0)
abbrev rawK (R : Kds) : List (List Int)×List (List Int):=([],[[(R.length : Int) + 1,1]])
def spKInit (C : Addr) : Sp:=fun vs H Q _=>∃ p dx,vs=[.ref p]∧H p=some (.ins C dx [])∧∀ rc ct H',H rc=none→H ct=none→KAt C H' ⟨p,rc,ct,[],[],[]⟩→(∀ b o,b≠p→H b=some o→H' b=some o)→Q .non H'
def spKMany (C : Addr) : Sp:=fun vs H Q _=>∃ k : KS,vs=[.ref k.p]∧KAt C H k∧Q (.int (k.R.length : Int)) H
def spKCheck (C cN : Addr) : Sp:=fun vs H Q E=>∃ (k : KS) (x : Int),vs=[.ref k.p,.int x]∧KAt C H k∧(inKd k.R x→Q .non H)∧(¬ inKd k.R x→E (.ref cN) none H)
def spKRawQ (C cN : Addr) : Sp:=fun vs H Q E=>∃ (k : KS) (x : Int),vs=[.ref k.p,.int x]∧KAt C H k∧(inKd k.R x→Q (.bl (kAtI k.R x).1.isEmpty) H)∧(¬ inKd k.R x→E (.ref cN) none H)
def spKParts (C cN : Addr) : Sp:=fun vs H Q E=>∃ (k : KS) (x : Int),vs=[.ref k.p,.int x]∧KAt C H k∧(inKd k.R x→∀ l H',H l=none→Same H H'→Rows H' l (kAtI k.R x).1→Q (.ref l) H')∧(¬ inKd k.R x→E (.ref cN) none H)
def spKHolds (C cN : Addr) : Sp:=fun vs H Q E=>∃ (k : KS) (x : Int),vs=[.ref k.p,.int x]∧KAt C H k∧(inKd k.R x→∀ l H',H l=none→Same H H'→Rows H' l (kAtI k.R x).2→Q (.ref l) H')∧(¬ inKd k.R x→E (.ref cN) none H)
def spKHeld (C : Addr) : Sp:=fun vs H Q _=>∃ (k : KS) (a : Addr) (qs : List (List Int)),vs=[.ref k.p,.ref a]∧KAt C H k∧KdsOk k.R∧Rows H a qs∧(∀ q∈qs,q.length=2)∧partsOk k.R.length 0 qs=true∧∀ l hs H',H l=none→HeldIs (sumsOf (occ (ctsOf k.R) qs)) hs→Same H H'→Rows H' l hs→Q (.ref l) H'
def spKPut (C cF : Addr) : Sp:=fun vs H Q E=>∃ (k : KS) (a h : Addr) (qs hs : List (List Int)),vs=[.ref k.p,.ref a,.ref h]∧KAt C H k∧k.R.length≤12∧Rows H a qs∧Rows H h hs∧a≠k.rc∧a≠k.ct∧h≠k.rc∧h≠k.ct∧(¬ k.R.length < 12→E (.ref cF) none H)∧(k.R.length < 12→∀ H',KAt C H' (k.more a h (qs,hs))→Keep2 k H H'→Q (.int ((k.R.length : Int) + 1)) H')
def spKRaw (C cF : Addr) : Sp:=fun vs H Q E=>∃ k : KS,vs=[.ref k.p]∧KAt C H k∧k.R.length≤12∧(¬ k.R.length < 12→∀ H',Same H H'→E (.ref cF) none H')∧(k.R.length < 12→∀ a h H',H a=none→H h=none→KAt C H' (k.more a h (rawK k.R))→Keep2 k H H'→Q (.int ((k.R.length : Int) + 1)) H')
def spKMade (cl : Nat→Addr) (C : Addr) : Sp:=fun vs H Q E=>∃ (k : KS) (a : Addr) (qs : List (List Int)),vs=[.ref k.p,.ref a]∧KAt C H k∧KdsOk k.R∧Rows H a qs∧(∀ q∈qs,q.length=2)∧qs.length≤100∧(¬ (qs≠[]∧partsOk k.R.length 0 qs=true)→∀ H',Same H H'→E (.ref (cl 10)) none H')∧
  (qs≠[]→partsOk k.R.length 0 qs=true→∀ hs,HeldIs (sumsOf (occ (ctsOf k.R) qs)) hs→(tooB hs=true→∀ H',Same H H'→E (.ref (cl 11)) none H')∧(tooB hs=false→(¬ k.R.length < 12→∀ H',Same H H'→E (.ref (cl 22)) none H')∧(k.R.length < 12→∀ d h H',H d=none→H h=none→KAt C H' (k.more d h (qs,hs))→Keep2 k H H'→Q (.int ((k.R.length : Int) + 1)) H')))
def spKTwin (C : Addr) : Sp:=fun vs H Q _=>∃ k : KS,vs=[.ref k.p]∧KAt C H k∧∀ p' rc' ct' H',H p' = none→H rc' = none→H ct' = none→Same H H'→KAt C H' ⟨p',rc',ct',k.ps,k.qs,k.R⟩→Q (.ref p') H'
def spChkParts (cP : Addr) : Sp:=fun vs H Q E=>∃ a qs n,vs=[.ref a,.int n]∧Rows H a qs∧(∀ q∈qs,q.length=2)∧(∀ m : Nat,n=(m : Int)→(qs≠[]∧partsOk m 0 qs=true→Q .non H)∧(¬ (qs≠[]∧partsOk m 0 qs=true)→E (.ref cP) none H))∧0≤n
end L2
namespace K34
open PySem L2
structure Txt (K : PySem.W.Frag) (mg : Str→Option Value) (cl : Nat→Addr) : Prop where
  MOST_KINDS : ∃ t,mg "MOST_KINDS" = some (.int 12 t)
  MOST_NUMBER : ∃ t,mg "MOST_NUMBER" = some (.int 100 t)
  MOST_HELD : ∃ t,mg "MOST_HELD" = some (.int 10000 t)
  gCustomsError : mg "CustomsError" = some (.ref (cl 0))
  gBadParts : mg "BadParts" = some (.ref (cl 10))
  gTooMuch : mg "TooMuch" = some (.ref (cl 11))
  gNoKind : mg "NoKind" = some (.ref (cl 12))
  gFull : mg "Full" = some (.ref (cl 22))
  eBadParts : PySem.W.excIn K (cl 10) vbm "ValueError.__new__" = true
  eTooMuch : PySem.W.excIn K (cl 11) vbm "ValueError.__new__" = true
  eNoKind : PySem.W.excIn K (cl 12) vbm "ValueError.__new__" = true
  eFull : PySem.W.excIn K (cl 22) vbm "ValueError.__new__" = true
  cKinds : Cls K (cl 30)
  nKinds_recipes : NoAttr K (cl 30) "recipes"
  nKinds_contents : NoAttr K (cl 30) "contents"
abbrev s_check_parts : Stmt:=top 10
abbrev n_check_parts : List Str:=["parts","many","ahead","kind","number"]
abbrev p_check_parts : List Str:=["parts","many"]
theorem sc_check_parts : FnScope n_check_parts p_check_parts (defScope s_check_parts):=⟨rfl,rfl,rfl,by decide +kernel,rfl,by decide +kernel,by decide +kernel⟩
abbrev s_Kinds___init__ : Stmt:=inClass (top 11) 0
abbrev n_Kinds___init__ : List Str:=["self"]
abbrev p_Kinds___init__ : List Str:=["self"]
theorem sc_Kinds___init__ : FnScope n_Kinds___init__ p_Kinds___init__ (defScope s_Kinds___init__):=⟨rfl,rfl,rfl,by decide +kernel,rfl,by decide +kernel,by decide +kernel⟩
abbrev s_Kinds_many : Stmt:=inClass (top 11) 1
abbrev n_Kinds_many : List Str:=["self"]
abbrev p_Kinds_many : List Str:=["self"]
theorem sc_Kinds_many : FnScope n_Kinds_many p_Kinds_many (defScope s_Kinds_many):=⟨rfl,rfl,rfl,by decide +kernel,rfl,by decide +kernel,by decide +kernel⟩
abbrev s_Kinds_check_kind : Stmt:=inClass (top 11) 2
abbrev n_Kinds_check_kind : List Str:=["self","kind"]
abbrev p_Kinds_check_kind : List Str:=["self","kind"]
theorem sc_Kinds_check_kind : FnScope n_Kinds_check_kind p_Kinds_check_kind (defScope s_Kinds_check_kind):=⟨rfl,rfl,rfl,by decide +kernel,rfl,by decide +kernel,by decide +kernel⟩
abbrev s_Kinds_is_raw : Stmt:=inClass (top 11) 3
abbrev n_Kinds_is_raw : List Str:=["self","kind"]
abbrev p_Kinds_is_raw : List Str:=["self","kind"]
theorem sc_Kinds_is_raw : FnScope n_Kinds_is_raw p_Kinds_is_raw (defScope s_Kinds_is_raw):=⟨rfl,rfl,rfl,by decide +kernel,rfl,by decide +kernel,by decide +kernel⟩
abbrev s_Kinds_parts : Stmt:=inClass (top 11) 4
abbrev n_Kinds_parts : List Str:=["self","kind"]
abbrev p_Kinds_parts : List Str:=["self","kind"]
theorem sc_Kinds_parts : FnScope n_Kinds_parts p_Kinds_parts (defScope s_Kinds_parts):=⟨rfl,rfl,rfl,by decide +kernel,rfl,by decide +kernel,by decide +kernel⟩
abbrev s_Kinds_holds : Stmt:=inClass (top 11) 5
abbrev n_Kinds_holds : List Str:=["self","kind"]
abbrev p_Kinds_holds : List Str:=["self","kind"]
theorem sc_Kinds_holds : FnScope n_Kinds_holds p_Kinds_holds (defScope s_Kinds_holds):=⟨rfl,rfl,rfl,by decide +kernel,rfl,by decide +kernel,by decide +kernel⟩
abbrev s_Kinds_held_by : Stmt:=inClass (top 11) 6
abbrev n_Kinds_held_by : List Str:=["self","parts","sums","kind","number","base","units"]
abbrev p_Kinds_held_by : List Str:=["self","parts"]
theorem sc_Kinds_held_by : FnScope n_Kinds_held_by p_Kinds_held_by (defScope s_Kinds_held_by):=⟨rfl,rfl,rfl,by decide +kernel,rfl,by decide +kernel,by decide +kernel⟩
abbrev s_Kinds_put : Stmt:=inClass (top 11) 7
abbrev n_Kinds_put : List Str:=["self","parts","held"]
abbrev p_Kinds_put : List Str:=["self","parts","held"]
theorem sc_Kinds_put : FnScope n_Kinds_put p_Kinds_put (defScope s_Kinds_put):=⟨rfl,rfl,rfl,by decide +kernel,rfl,by decide +kernel,by decide +kernel⟩
abbrev s_Kinds_raw : Stmt:=inClass (top 11) 8
abbrev n_Kinds_raw : List Str:=["self"]
abbrev p_Kinds_raw : List Str:=["self"]
theorem sc_Kinds_raw : FnScope n_Kinds_raw p_Kinds_raw (defScope s_Kinds_raw):=⟨rfl,rfl,rfl,by decide +kernel,rfl,by decide +kernel,by decide +kernel⟩
abbrev s_Kinds_made : Stmt:=inClass (top 11) 9
abbrev n_Kinds_made : List Str:=["self","parts","rows","held"]
abbrev p_Kinds_made : List Str:=["self","parts"]
theorem sc_Kinds_made : FnScope n_Kinds_made p_Kinds_made (defScope s_Kinds_made):=⟨rfl,rfl,rfl,by decide +kernel,rfl,by decide +kernel,by decide +kernel⟩
abbrev s_Kinds_twin : Stmt:=inClass (top 11) 10
abbrev n_Kinds_twin : List Str:=["self","other"]
abbrev p_Kinds_twin : List Str:=["self"]
theorem sc_Kinds_twin : FnScope n_Kinds_twin p_Kinds_twin (defScope s_Kinds_twin):=⟨rfl,rfl,rfl,by decide +kernel,rfl,by decide +kernel,by decide +kernel⟩
abbrev cK (cl : Nat→Addr) : Addr:=cl 30
section
variable {P : Program} {w : World} {K : PySem.W.Frag} {mg : Str→Option Value} {base : Heap} {f : Addr} {fd : FuncData} {cl : Nat→Addr} (T : Txt K mg cl) (B : Bn mg)
include T B
theorem ok_check_parts (F : Fun K "check_parts" "check_parts" s_check_parts f fd) : FnOk P w K mg base (CXE P w) 1 f fd p_check_parts (spChkParts (cl 10)):=by
  refine F.okE sc_check_parts (fun vs H Q E h=>?_) (fun cdv A outer s H vs Q E hr h=>?_)
  · obtain ⟨a,qs,n,rfl,_⟩:=h; rfl
  obtain ⟨a,qs,n,rfl,hR,h2,q,n0⟩:=h
  refine ⟨_,(pss_cons (ps_if (pt_not (pt_truth (pv 0) (fun _=>rfl))) (pss_one (ps_raise (E:=E) rfl T.gBadParts T.eBadParts PySem.F.excBase_ValueError rfl makesE (pa_c pe_str pa_nil))) pss_nil)
    (pss_cons (ps_set (i:=2) sc_check_parts.nd rfl (Or.inl rfl) pe_int)
    (pss_one (ps_for PassesOwn.leaving rfl (pi_list (pv 0)) (pg_tup rfl (pgs_cons (pg_name (i:=3) sc_check_parts.nd rfl (Or.inl rfl)) (pgs_cons (pg_name (i:=4) sc_check_parts.nd rfl (Or.inl rfl)) pgs_nil))) (pss_cons (ps_if (pt_not (pt_chain op_lt op_le (pv 2) (pv 3) (pv 1))) (pss_one (ps_raise (E:=E) rfl T.gBadParts T.eBadParts PySem.F.excBase_ValueError rfl makesE (pa_c pe_str pa_nil))) pss_nil)
      (pss_cons (ps_if (pt_not (pt_chain op_le op_le pe_int (pv 4) (pe_glI rfl T.MOST_NUMBER))) (pss_one (ps_raise (E:=E) rfl T.gBadParts T.eBadParts PySem.F.excBase_ValueError rfl makesE (pa_c pe_str pa_nil))) pss_nil)
      (pss_one (ps_set (i:=2) sc_check_parts.nd rfl (Or.inl rfl) (pv 3))))))))),?_⟩
  obtain ⟨m,rfl⟩:=Int.eq_ofNat_of_zero_le n0
  obtain ⟨q1,q2⟩:=q m rfl
  obtain ⟨xs,ex,hx⟩:=hR.tups
  have lx:=hx.1
  refine ⟨_,rfl,_,.inl ⟨xs,SqL.of ex,rfl⟩,?_⟩
  cases qs with
  | nil=>
    have : xs=[]:=List.eq_nil_of_length_eq_zero lx
    subst this
    exact iteT ⟨by show 1≤sizeLine; decide,q2 (fun z=>z.1 rfl)⟩
  | cons q0 qs0=>
  obtain ⟨x0,xs0,rfl⟩ : ∃ x0 xs0,xs=x0 :: xs0:=by
    cases xs with
    | nil=>simp at lx
    | cons x0 xs0=>exact ⟨_,_,rfl⟩
  refine iteF ?_
  generalize hq : q0 :: qs0=qs at *
  have ne : qs≠[]:=by rw [← hq]; simp
  generalize x0 :: xs0=xs at *
  dsimp only
  refine tSeq_by (fun σ H'=>σ=[some (.ref a),some (.int (m : Int)),none,none,none]∧H' = H) (fun D' nx _=>nx _ _ ⟨rfl,rfl⟩) ?_
  rintro σ H0 ⟨rfl,rfl⟩
  refine tSeq_by (fun σ H'=>σ=[some (.ref a),some (.int (m : Int)),some (.int 0),none,none]∧H' = H0) (fun D' nx _=>nx _ _ ⟨rfl,rfl⟩) ?_
  rintro σ H1 ⟨rfl,rfl⟩
  refine ⟨_,rfl,a,rfl,⟨xs,SqL.of ex⟩,?_⟩
  refine for_list (xs:=xs) (fun i σ H3=>∃ ah o3 o4,σ=[some (.ref a),some (.int (m : Int)),some (.int ah),o3,o4]∧H3=H1∧partsOk m 0 qs=partsOk m ah (qs.drop i)) ⟨0,_,_,rfl,rfl,rfl⟩ ?_ ?_ ?_
  · rintro i σ H3 hi ⟨ah,o3,o4,rfl,rfl,_⟩
    exact SqL.of ex
  · rintro i x σ H3 exi ⟨ah,o3,o4,rfl,rfl,hp⟩
    obtain ⟨p,r,rfl,er,hpr⟩:=hx.at exi
    obtain ⟨k,v,rfl⟩:=len2 (h2 r (List.mem_of_getElem? er))
    have il:=(List.getElem?_eq_some_iff.mp er).1
    have ed : qs.drop i=[k,v] :: qs.drop (i + 1):=by rw [List.drop_eq_getElem_cons il,(List.getElem?_eq_some_iff.mp er).2]
    rw [ed] at hp
    have hp : partsOk m 0 qs=(decide (ah < k∧k≤(m : Int)∧1≤v∧v≤100) && partsOk m k (qs.drop (i + 1))):=hp
    have bad : ¬ (ah < k∧k≤(m : Int)∧1≤v∧v≤100)→E (.ref (cl 10)) none H3:=fun z=>q2 fun y=>by rw [hp,decide_eq_false z] at y; exact absurd y.2 (by simp)
    refine ⟨p,_,rfl,SqT.of hpr,rfl,_,_,rfl,_,_,rfl,rfl,?_⟩
    refine ⟨_,rfl,_,rfl,_,_,rfl,rfl,_,rfl,?_⟩
    by_cases c1 : ah < k
    · rw [decide_eq_true c1]
      refine iteT ⟨_,rfl,_,_,rfl,rfl,_,rfl,?_⟩
      by_cases c2 : k≤(m : Int)
      · rw [decide_eq_true c2]
        refine iteF ⟨_,rfl,_,_,rfl,rfl,_,rfl,?_⟩
        by_cases c3 : 1≤v
        · rw [decide_eq_true c3]
          refine iteT ⟨_,_,rfl,rfl,_,rfl,?_⟩
          by_cases c4 : v≤100
          · rw [decide_eq_true c4]
            refine iteF ⟨_,rfl,k,_,_,rfl,rfl,?_⟩
            rw [hp,decide_eq_true ⟨c1,c2,c3,c4⟩,Bool.true_and]
          · rw [decide_eq_false c4]
            exact iteT ⟨by show 1≤sizeLine; decide,bad fun z=>c4 z.2.2.2⟩
        · rw [decide_eq_false c3]
          exact iteF ⟨_,rfl,iteT ⟨by show 1≤sizeLine; decide,bad fun z=>c3 z.2.2.1⟩⟩
      · rw [decide_eq_false c2]
        exact iteT ⟨by show 1≤sizeLine; decide,bad fun z=>c2 z.2.1⟩
    · rw [decide_eq_false c1]
      exact iteF ⟨_,rfl,iteT ⟨by show 1≤sizeLine; decide,bad fun z=>c1 z.1⟩⟩
  · rintro σ H3 ⟨ah,o3,o4,rfl,rfl,hp⟩
    rw [lx,List.drop_length] at hp
    exact q1 ⟨ne,hp⟩
theorem ok_Kinds_init (F : Fun K "__init__" "Kinds.__init__" s_Kinds___init__ f fd) : FnOk P w K mg base CX0 1 f fd p_Kinds___init__ (spKInit (cK cl)):=by
  refine F.ok sc_Kinds___init__ (fun vs H Q E h=>?_) (fun cdv A outer s H vs Q E hr h=>?_)
  · obtain ⟨p,dx,rfl,_⟩:=h; rfl
  obtain ⟨p,dx,rfl,hp,q⟩:=h
  refine ⟨_,(pss_cons (ps_fld (pv 0) (pe_lst pa_nil) rfl)
    (pss_one (ps_fld (pv 0) (pe_lst pa_nil) rfl))),?_⟩
  refine ⟨by show 0≤sizeLine; decide,fun rc hrc=>?_⟩
  have n1 : p≠rc:=ne_of_none hp hrc
  refine ⟨_,rfl,p,cK cl,dx,[],rfl,by rw [upd_ne n1]; exact hp,T.cKinds,T.nKinds_recipes,by show 0 < 1000; decide,?_⟩
  refine ⟨by show 0≤sizeLine; decide,fun ct hct=>?_⟩
  have hct0 : L2.upd H rc (.lst []) ct=none:=by
    rw [upd_ne (fun z=>by rw [z,upd_same] at hct; cases hct)] at hct; exact hct
  have n2 : ct≠rc:=fun z=>by rw [z,upd_same] at hct0; cases hct0
  have n3 : p≠ct:=fun z=>by rw [← z,upd_same] at hct; cases hct
  have hct1 : H ct=none:=by rw [upd_ne n2] at hct0; exact hct0
  refine ⟨_,rfl,p,cK cl,dx,_,rfl,by rw [upd_ne n3]; exact upd_same,T.cKinds,T.nKinds_contents,by show 1 < 1000; decide,?_⟩
  refine q rc ct _ hrc hct1 ⟨⟨dx,upd_same⟩,⟨?_,rfl,fun i p rs e=>(by cases e)⟩,⟨?_,rfl,fun i p rs e=>(by cases e)⟩,n2.symm⟩ fun b o hb e=>?_
  · rw [upd_ne n1.symm,upd_ne n2.symm,upd_ne n1.symm]; exact upd_same
  · rw [upd_ne n3.symm]; exact upd_same
  · rw [upd_ne hb,upd_ne (ne_of_none e hct1),upd_ne hb,upd_ne (ne_of_none e hrc)]; exact e
theorem ok_Kinds_many (F : Fun K "many" "Kinds.many" s_Kinds_many f fd) : FnOk P w K mg base CX0 1 f fd p_Kinds_many (spKMany (cK cl)):=by
  refine F.ok sc_Kinds_many (fun vs H Q E h=>?_) (fun cdv A outer s H vs Q E hr h=>?_)
  · obtain ⟨k,rfl,_⟩:=h; rfl
  obtain ⟨⟨p,rc,ct,ps,qs,R⟩,rfl,S,q⟩:=h
  refine ⟨_,(pss_one (ps_ret (pe_callB call_len_seq rfl B.len PySem.boot_len (pa_c (pe_fld (pv 0) rfl) pa_nil)))),?_⟩
  obtain ⟨dx,ob⟩:=S.ob
  obtain ⟨xs,ex,lx,_⟩:=S.rcp.l.get
  rw [List.length_map] at lx
  refine ⟨_,rfl,p,cK cl,dx,_,_,rfl,ob,T.cKinds,T.nKinds_recipes,rfl,rc,_,rfl,.inl (SqL.of ex),?_⟩
  rw [lx]; exact q
theorem ok_Kinds_check_kind (G_Kinds_many : CalM P w K mg base CX0 1 (cK cl) "many" p_Kinds_many (spKMany (cK cl))) (F : Fun K "check_kind" "Kinds.check_kind" s_Kinds_check_kind f fd) : FnOk P w K mg base (CXE P w) 2 f fd p_Kinds_check_kind (spKCheck (cK cl) (cl 12)):=by
  refine F.okE sc_Kinds_check_kind (fun vs H Q E h=>?_) (fun cdv A outer s H vs Q E hr h=>?_)
  · obtain ⟨k,x,rfl,_⟩:=h; rfl
  obtain ⟨⟨p,rc,ct,ps,qs,R⟩,k,rfl,S,q1,q2⟩:=h
  refine ⟨_,(pss_one (ps_if (pt_not (pt_chain op_le op_le pe_int (pv 1) (pe_calM0 G_Kinds_many T.cKinds hr pass0 (pv 0)))) (pss_one (ps_raise (E:=E) rfl T.gNoKind T.eNoKind PySem.F.excBase_ValueError rfl makesE (pa_c pe_str pa_nil))) pss_nil)),?_⟩
  obtain ⟨dx,ob⟩:=S.ob
  refine ⟨_,rfl,_,_,rfl,rfl,_,rfl,?_⟩
  by_cases c1 : 1≤k
  · rw [decide_eq_true c1]
    refine iteT ⟨_,rfl,p,dx,_,rfl,ob,rfl,⟨p,rc,ct,ps,qs,R⟩,rfl,S,_,_,rfl,rfl,_,rfl,?_⟩
    by_cases c2 : k≤(R.length : Int)
    · rw [decide_eq_true c2]
      exact iteF (q1 ⟨c1,c2⟩)
    · rw [decide_eq_false c2]
      exact iteT ⟨by show 1≤sizeLine; decide,q2 fun z=>c2 z.2⟩
  · rw [decide_eq_false c1]
    exact iteF ⟨_,rfl,iteT ⟨by show 1≤sizeLine; decide,q2 fun z=>c1 z.1⟩⟩
omit B in
theorem kAt_row {L : List (List (List Int))} {H : Hp} {a : Addr} {k : Int} {n : Nat} (h : RowsL H a L) (hn : L.length=n) (hk : 1≤k∧k≤(n : Int)) : ∃ xs p rs,H a=some (.lst xs)∧atI xs (k - 1)=some (.ref p)∧L[(k - 1).toNat]? = some rs∧Rows H p rs:=by
  obtain ⟨xs,ex,lx,hx⟩:=h.get
  have hl : (k - 1).toNat < xs.length:=by omega
  obtain ⟨p,rs,e,e2,hR⟩:=hx _ _ (List.getElem?_eq_getElem hl)
  exact ⟨xs,p,rs,ex,atI_some (by omega) (by rw [List.getElem?_eq_getElem hl,e]),e2,hR⟩
theorem ok_Kinds_is_raw (G_Kinds_check_kind : CalM P w K mg base (CXE P w) 2 (cK cl) "check_kind" p_Kinds_check_kind (spKCheck (cK cl) (cl 12))) (F : Fun K "is_raw" "Kinds.is_raw" s_Kinds_is_raw f fd) : FnOk P w K mg base (CXE P w) 3 f fd p_Kinds_is_raw (spKRawQ (cK cl) (cl 12)):=by
  refine F.okE sc_Kinds_is_raw (fun vs H Q E h=>?_) (fun cdv A outer s H vs Q E hr h=>?_)
  · obtain ⟨k,x,rfl,_⟩:=h; rfl
  obtain ⟨⟨p,rc,ct,ps,qs,R⟩,k,rfl,S,q1,q2⟩:=h
  refine ⟨_,(pss_cons (ps_expr (pe_calM (E:=E) G_Kinds_check_kind T.cKinds hr (passE fun _ _ z=>z) (pv 0) (pa_c (pv 1) pa_nil)))
    (pss_one (ps_ret (pe_notT (pe_ix ix_list (pe_fld (pv 0) rfl) (pe_op op_sub (pv 1) pe_int) (fun _ _=>rfl)))))),?_⟩
  obtain ⟨dx,ob⟩:=S.ob
  refine ⟨_,rfl,p,dx,_,rfl,ob,rfl,_,rfl,⟨p,rc,ct,ps,qs,R⟩,k,rfl,S,fun hk=>?_,q2⟩
  obtain ⟨xs,b,rs,ex,ea,er,hR⟩:=kAt_row T S.rcp.l (List.length_map ..) hk
  obtain ⟨ys,ey,hy⟩:=hR.tups
  refine ⟨_,rfl,p,cK cl,dx,_,_,rfl,ob,T.cKinds,T.nKinds_recipes,rfl,_,rfl,_,_,rfl,rfl,rc,_,_,_,rfl,rfl,SqL.of ex,ea,_,.inl ⟨_,SqL.of ey,rfl⟩,?_⟩
  have e : (!(!ys.isEmpty))=(kAtI R k).1.isEmpty:=by
    rw [Bool.not_not]
    have : (kAtI R k).1=rs:=by
      unfold kAtI
      rw [List.getElem?_map] at er
      rw [List.getD_eq_getElem?_getD]
      cases e1 : R[(k - 1).toNat]? with
      | none=>rw [e1] at er; cases er
      | some q=>rw [e1] at er; cases er; rfl
    rw [this]
    have:=hy.1
    cases ys <;> cases rs <;> simp_all
  rw [e]
  exact q1 hk
omit T B in
theorem kAtI_1 {R : Kds} {k : Int} {rs : List (List Int)} (er : (R.map (·.1))[(k - 1).toNat]? = some rs) : (kAtI R k).1=rs:=by
  unfold kAtI
  rw [List.getElem?_map] at er
  rw [List.getD_eq_getElem?_getD]
  cases e1 : R[(k - 1).toNat]? with
  | none=>rw [e1] at er; cases er
  | some q=>rw [e1] at er; cases er; rfl
omit T B in
theorem kAtI_2 {R : Kds} {k : Int} {rs : List (List Int)} (er : (R.map (·.2))[(k - 1).toNat]? = some rs) : (kAtI R k).2=rs:=by
  unfold kAtI
  rw [List.getElem?_map] at er
  rw [List.getD_eq_getElem?_getD]
  cases e1 : R[(k - 1).toNat]? with
  | none=>rw [e1] at er; cases er
  | some q=>rw [e1] at er; cases er; rfl
theorem ok_Kinds_parts (G_Kinds_check_kind : CalM P w K mg base (CXE P w) 2 (cK cl) "check_kind" p_Kinds_check_kind (spKCheck (cK cl) (cl 12))) (F : Fun K "parts" "Kinds.parts" s_Kinds_parts f fd) : FnOk P w K mg base (CXE P w) 3 f fd p_Kinds_parts (spKParts (cK cl) (cl 12)):=by
  refine F.okE sc_Kinds_parts (fun vs H Q E h=>?_) (fun cdv A outer s H vs Q E hr h=>?_)
  · obtain ⟨k,x,rfl,_⟩:=h; rfl
  obtain ⟨⟨p,rc,ct,ps,qs,R⟩,k,rfl,S,q1,q2⟩:=h
  refine ⟨_,(pss_cons (ps_expr (pe_calM (E:=E) G_Kinds_check_kind T.cKinds hr (passE fun _ _ z=>z) (pv 0) (pa_c (pv 1) pa_nil)))
    (pss_one (ps_ret (pe_callTy call_list_of rfl B.list PyProof.Rows.boot_list (pa_c (pe_ix ix_list (pe_fld (pv 0) rfl) (pe_op op_sub (pv 1) pe_int) (fun _ _=>rfl)) pa_nil))))),?_⟩
  obtain ⟨dx,ob⟩:=S.ob
  refine ⟨_,rfl,p,dx,_,rfl,ob,rfl,_,rfl,⟨p,rc,ct,ps,qs,R⟩,k,rfl,S,fun hk=>?_,q2⟩
  obtain ⟨xs,b,rs,ex,ea,er,hR⟩:=kAt_row T S.rcp.l (List.length_map ..) hk
  obtain ⟨ys,ey,hy⟩:=hR.tups
  refine ⟨_,rfl,p,cK cl,dx,_,_,rfl,ob,T.cKinds,T.nKinds_recipes,rfl,_,rfl,_,_,rfl,rfl,rc,_,_,_,rfl,rfl,SqL.of ex,ea,b,_,rfl,.inl (SqL.of ey),fun l hl=>?_⟩
  refine q1 hk l _ hl (same_new hl _) ?_
  rw [kAtI_1 er]
  exact (hy.same (same_new hl _)).rows upd_same
theorem ok_Kinds_holds (G_Kinds_check_kind : CalM P w K mg base (CXE P w) 2 (cK cl) "check_kind" p_Kinds_check_kind (spKCheck (cK cl) (cl 12))) (F : Fun K "holds" "Kinds.holds" s_Kinds_holds f fd) : FnOk P w K mg base (CXE P w) 3 f fd p_Kinds_holds (spKHolds (cK cl) (cl 12)):=by
  refine F.okE sc_Kinds_holds (fun vs H Q E h=>?_) (fun cdv A outer s H vs Q E hr h=>?_)
  · obtain ⟨k,x,rfl,_⟩:=h; rfl
  obtain ⟨⟨p,rc,ct,ps,qs,R⟩,k,rfl,S,q1,q2⟩:=h
  refine ⟨_,(pss_cons (ps_expr (pe_calM (E:=E) G_Kinds_check_kind T.cKinds hr (passE fun _ _ z=>z) (pv 0) (pa_c (pv 1) pa_nil)))
    (pss_one (ps_ret (pe_callTy call_list_of rfl B.list PyProof.Rows.boot_list (pa_c (pe_ix ix_list (pe_fld (pv 0) rfl) (pe_op op_sub (pv 1) pe_int) (fun _ _=>rfl)) pa_nil))))),?_⟩
  obtain ⟨dx,ob⟩:=S.ob
  refine ⟨_,rfl,p,dx,_,rfl,ob,rfl,_,rfl,⟨p,rc,ct,ps,qs,R⟩,k,rfl,S,fun hk=>?_,q2⟩
  obtain ⟨xs,b,rs,ex,ea,er,hR⟩:=kAt_row T S.con.l (List.length_map ..) hk
  obtain ⟨ys,ey,hy⟩:=hR.tups
  refine ⟨_,rfl,p,cK cl,dx,_,_,rfl,ob,T.cKinds,T.nKinds_contents,rfl,_,rfl,_,_,rfl,rfl,ct,_,_,_,rfl,rfl,SqL.of ex,ea,b,_,rfl,.inl (SqL.of ey),fun l hl=>?_⟩
  refine q1 hk l _ hl (same_new hl _) ?_
  rw [kAtI_2 er]
  exact (hy.same (same_new hl _)).rows upd_same
theorem ok_Kinds_held_by (F : Fun K "held_by" "Kinds.held_by" s_Kinds_held_by f fd) : FnOk P w K mg base CX0 1 f fd p_Kinds_held_by (spKHeld (cK cl)):=by
  refine F.ok sc_Kinds_held_by (fun vs H Q E h=>?_) (fun cdv A outer s H vs Q E hr h=>?_)
  · obtain ⟨k,a,qs,rfl,_⟩:=h; rfl
  obtain ⟨⟨p,rc,ct,ps,qs',R⟩,a,qs,rfl,S,ok,hR,h2,hp,q⟩:=h
  refine ⟨_,(pss_cons (ps_set (i:=2) sc_Kinds_held_by.nd rfl (Or.inl rfl) pe_dnewK)
    (pss_cons (ps_for PassesOwn.never rfl (pi_list (pv 1)) (pg_tup rfl (pgs_cons (pg_name (i:=3) sc_Kinds_held_by.nd rfl (Or.inl rfl)) (pgs_cons (pg_name (i:=4) sc_Kinds_held_by.nd rfl (Or.inl rfl)) pgs_nil))) (pss_one (ps_for PassesOwn.never rfl (pi_list (pe_ix ix_list (pe_fld (pv 0) rfl) (pe_op op_sub (pv 3) pe_int) (fun _ _=>rfl))) (pg_tup rfl (pgs_cons (pg_name (i:=5) sc_Kinds_held_by.nd rfl (Or.inl rfl)) (pgs_cons (pg_name (i:=6) sc_Kinds_held_by.nd rfl (Or.inl rfl)) pgs_nil))) (pss_one (ps_dput (hu_of hr) (pv 2) (pv 5) (pe_op op_add (pe_dget2 (hu_of hr) (pv 2) (pv 5) pe_int ⟨rfl,rfl,rfl,rfl⟩) (pe_op op_mul (pv 4) (pv 6))) rfl)))))
    (pss_one (ps_ret (pe_callB (call_sortIt rfl) rfl B.sorted PyProof.Rows.boot_sorted (pa_c (pe_items (pv 2)) pa_nil)))))),?_⟩
  obtain ⟨dx,ob⟩:=S.ob
  obtain ⟨xs,ex,hx⟩:=hR.tups
  have lx:=hx.1
  intro d hd
  have s1:=same_new (H:=H) hd (.dK [])
  refine ⟨_,rfl,a,rfl,⟨xs,SqL.of (s1 _ _ ex)⟩,?_⟩
  refine for_list (xs:=xs) (fun i σ H'=>∃ o3 o4 o5 o6,σ=[some (.ref p),some (.ref a),some (.ref d),o3,o4,o5,o6]∧Same H H'∧H' d=some (.dK (toK (sumsOf (occ (ctsOf R) (qs.take i)))))) ⟨_,_,_,_,rfl,s1,upd_same⟩ ?_ ?_ ?_
  · rintro i σ H3 hi ⟨_,_,_,_,rfl,sm,_⟩
    exact SqL.of (sm _ _ ex)
  · rintro i x σ H3 exi ⟨o3,o4,o5,o6,rfl,sm,ed⟩
    obtain ⟨pr,r,rfl,er,hpr⟩:=hx.at exi
    obtain ⟨k,v,rfl⟩:=len2 (h2 r (List.mem_of_getElem? er))
    obtain ⟨k0,k1,v0,v1⟩:=partsOk_at hp _ (List.mem_of_getElem? er)
    have k0 : 0 < k:=k0
    have k1 : k≤(R.length : Int):=k1
    have v0 : 1≤v:=v0
    have v1 : v≤100:=v1
    refine ⟨pr,_,rfl,SqT.of (sm _ _ hpr),rfl,_,_,rfl,_,_,rfl,rfl,?_⟩
    obtain ⟨ys,b,hs,ey,ea,eh,hRh⟩:=kAt_row T S.con.l (List.length_map ..) ⟨by omega,k1⟩
    obtain ⟨zs,ez,hz⟩:=hRh.tups
    have lz:=hz.1
    obtain ⟨dx,ob⟩:=S.ob
    have hm : ∃ e∈R,e.2=hs:=by
      rw [List.getElem?_map] at eh
      cases e1 : R[(k - 1).toNat]? with
      | none=>rw [e1] at eh; cases eh
      | some e=>rw [e1] at eh; cases eh; exact ⟨e,List.mem_of_getElem? e1,rfl⟩
    obtain ⟨e0,he0,rfl⟩:=hm
    have h12:=(ok.few e0 he0).2
    refine ⟨_,rfl,p,cK cl,dx,_,_,rfl,sm _ _ ob,T.cKinds,T.nKinds_contents,rfl,_,rfl,_,_,rfl,rfl,ct,_,_,_,rfl,rfl,SqL.of (sm _ _ ey),ea,b,rfl,⟨_,SqL.of (sm _ _ ez)⟩,?_⟩
    have sub : ∀ j,∀ q∈occ (ctsOf R) (qs.take i) ++ ((e0.2.take j).map fun r=>(r.getD 0 0,v * r.getD 1 0)),q∈occ (ctsOf R) qs:=fun j q hq=>by
      rcases List.mem_append.mp hq with z | z
      · obtain ⟨q',h1,h2⟩:=List.mem_flatMap.mp z
        exact List.mem_flatMap.mpr ⟨q',List.mem_of_mem_take h1,h2⟩
      · obtain ⟨r,hr,rfl⟩:=List.mem_map.mp z
        refine List.mem_flatMap.mpr ⟨[k,v],List.mem_of_getElem? er,List.mem_map.mpr ⟨r,?_,rfl⟩⟩
        show r∈(ctsOf R).getD (k - 1).toNat []
        unfold ctsOf
        rw [List.getD_eq_getElem?_getD,eh]
        exact List.mem_of_mem_take hr
    refine for_list (xs:=zs) (fun j σ H'=>∃ o5 o6,σ=[some (.ref p),some (.ref a),some (.ref d),some (.int k),some (.int v),o5,o6]∧Same H H'∧H' d=some (.dK (toK (sumsOf (occ (ctsOf R) (qs.take i) ++ ((e0.2.take j).map fun r=>(r.getD 0 0,v * r.getD 1 0))))))) ⟨_,_,rfl,sm,by rw [ed,List.take_zero,List.map_nil,List.append_nil]⟩ ?_ ?_ ?_
    · rintro j σ H' _ ⟨_,_,rfl,sm',_⟩
      exact SqL.of (sm' _ _ ez)
    · rintro j x σ H4 exj ⟨o5,o6,rfl,sm4,ed4⟩
      obtain ⟨pz,r,rfl,er',hpz⟩:=hz.at exj
      obtain ⟨k',v',rfl,w1,w2⟩:=(ok.held e0 he0).2 r (List.mem_of_getElem? er')
      have few:=sums_few ok hp (sub j)
      refine ⟨pz,_,rfl,SqT.of (sm4 _ _ hpz),rfl,_,_,rfl,_,_,rfl,rfl,?_⟩
      refine ⟨_,rfl,d,rfl,.inl ⟨_,.inl ed4⟩,_,rfl,_,DGet.k (k:=Sum.inl k') ed4,?_⟩
      rw [toK_get]
      refine ⟨_,rfl,_,rfl,_,_,rfl,rfl,.inl ⟨by omega,by omega⟩,_,_,rfl,rfl,_,rfl,_,rfl,d,_,rfl,DPut.k (k:=Sum.inl k') ed4 (small1000 (by unfold toK; rw [List.length_map]; omega)),?_⟩
      refine ⟨_,_,rfl,sm4.young hd,?_⟩
      rw [upd_same,toK_put,getElem_next er',List.map_append,← List.append_assoc]
      unfold sumsOf
      rw [List.foldl_append (l':=List.map _ [[k',v']])]; rfl
    · rintro σ H4 ⟨o5,o6,rfl,sm4,ed4⟩
      refine ⟨_,_,_,_,rfl,sm4,?_⟩
      rw [ed4,getElem_next er,lz,List.take_length]
      unfold occ
      rw [List.flatMap_append]
      congr 5
      show _=_ ++ []
      rw [List.append_nil]
      show _=((ctsOf R).getD (k - 1).toNat []).map _
      have e1 : (ctsOf R).getD (k - 1).toNat []=e0.2:=by unfold ctsOf; rw [List.getD_eq_getElem?_getD,eh]; rfl
      rw [e1]; rfl
  · rintro σ H3 ⟨o3,o4,o5,o6,rfl,sm,ed⟩
    rw [lx,List.take_length] at ed
    have few:=sums_few ok hp (os:=occ (ctsOf R) qs) fun _ h=>h
    refine ⟨_,rfl,d,_,rfl,ed,fun v hv=>?_⟩
    have s4:=same_new (H:=H3) hv (HV v d)
    refine ⟨v,d,sumsOf (occ (ctsOf R) qs),rfl,upd_same,s4 _ _ ed,by omega,fun l ss H' hl pm ps s5 R5=>?_⟩
    exact q l ss H' ((sm.trans s4).free hl) (held_sorted (sums_nodup _ [] List.nodup_nil) pm ps) ((sm.trans s4).trans s5) R5
theorem ok_Kinds_put (G_Kinds_many : CalM P w K mg base CX0 1 (cK cl) "many" p_Kinds_many (spKMany (cK cl))) (F : Fun K "put" "Kinds.put" s_Kinds_put f fd) : FnOk P w K mg base (CXE P w) 2 f fd p_Kinds_put (spKPut (cK cl) (cl 22)):=by
  refine F.okE sc_Kinds_put (fun vs H Q E h=>?_) (fun cdv A outer s H vs Q E hr h=>?_)
  · obtain ⟨k,a,h,qs,hs,rfl,_⟩:=h; rfl
  obtain ⟨⟨p,rc,ct,ps,qs',R⟩,a,b,qs,hs,rfl,S,l12,hA,hB,n1,n2,n3,n4,q1,q2⟩:=h
  refine ⟨_,(pss_cons (ps_if (pt_cmpR op_ge (pe_calM0 G_Kinds_many T.cKinds hr pass0 (pv 0)) (pe_glI rfl T.MOST_KINDS) (nomark _)) (pss_one (ps_raise (E:=E) rfl T.gFull T.eFull PySem.F.excBase_ValueError rfl makesE (pa_c pe_str pa_nil))) pss_nil)
    (pss_cons (ps_expr (pe_bm PySem.F.plainAttrs_list PySem.F.slot_list_append PySem.F.type_list_append mt_append (pe_fld (pv 0) rfl) (pa_c (pv 1) pa_nil)))
    (pss_cons (ps_expr (pe_bm PySem.F.plainAttrs_list PySem.F.slot_list_append PySem.F.type_list_append mt_append (pe_fld (pv 0) rfl) (pa_c (pv 2) pa_nil)))
    (pss_one (ps_ret (pe_calM0 G_Kinds_many T.cKinds hr pass0 (pv 0))))))),?_⟩
  obtain ⟨dx,ob⟩:=S.ob
  refine ⟨_,rfl,p,dx,_,rfl,ob,rfl,⟨p,rc,ct,ps,qs',R⟩,rfl,S,_,_,rfl,rfl,_,rfl,?_⟩
  by_cases c : (12 : Int)≤(R.length : Int)
  · rw [decide_eq_true c]
    exact iteT ⟨by show 1≤sizeLine; decide,q1 (show ¬ R.length < 12 by omega)⟩
  rw [decide_eq_false c]
  refine iteF ?_
  obtain ⟨ex,lx,gx⟩:=id S.rcp
  obtain ⟨ey,ly,gy⟩:=id S.con
  rw [List.length_map] at lx ly
  dsimp only at ex ey lx ly n1 n2 n3 n4 l12 q1 q2
  have nrc : rc≠ct:=S.ne
  have npr : p≠rc:=ne_of ob ex (by intro z; cases z)
  have npc : p≠ct:=ne_of ob ey (by intro z; cases z)
  refine ⟨_,rfl,p,cK cl,dx,_,_,rfl,ob,T.cKinds,T.nKinds_recipes,rfl,.inl ⟨rfl,_,SqL.of ex⟩,_,rfl,rc,_,_,rfl,rfl,ex,small1000 (by rw [List.length_map]; omega),?_⟩
  have k1 : ∀ {x : Addr} {u : HO},x≠rc→H x=some u→L2.upd H rc (.lst (ps.map V.ref ++ [.ref a])) x=some u:=fun hx e=>by rw [upd_ne hx]; exact e
  refine ⟨_,rfl,p,cK cl,dx,_,_,rfl,k1 npr ob,T.cKinds,T.nKinds_contents,rfl,.inl ⟨rfl,_,SqL.of (k1 nrc.symm ey)⟩,_,rfl,ct,_,_,rfl,rfl,k1 nrc.symm ey,small1000 (by rw [List.length_map]; omega),?_⟩
  have k2 : Keep2 ⟨p,rc,ct,ps,qs',R⟩ H (L2.upd (L2.upd H rc (.lst (ps.map V.ref ++ [.ref a]))) ct (.lst (qs'.map V.ref ++ [.ref b]))):=fun x u h1 h2 e=>by rw [upd_ne h2,upd_ne h1]; exact e
  have kt : ∀ {x : Addr} {z : List V},H x=some (.tup z)→L2.upd (L2.upd H rc (.lst (ps.map V.ref ++ [.ref a]))) ct (.lst (qs'.map V.ref ++ [.ref b])) x=some (.tup z):=fun e=>k2 _ _ (ne_of e ex (by intro z; cases z)) (ne_of e ey (by intro z; cases z)) e
  have kr : ∀ {x : Addr} {rs : List (List Int)},x≠rc→x≠ct→Rows H x rs→Rows (L2.upd (L2.upd H rc (.lst (ps.map V.ref ++ [.ref a]))) ct (.lst (qs'.map V.ref ++ [.ref b]))) x rs:=fun h1 h2 ⟨ps,g1,g2,g3⟩=>⟨ps,k2 _ _ h1 h2 g1,g2,fun i p r e1 e2=>kt (g3 i p r e1 e2)⟩
  have e1 : L2.upd (L2.upd H rc (.lst (ps.map V.ref ++ [.ref a]))) ct (.lst (qs'.map V.ref ++ [.ref b])) rc=some (.lst (ps.map V.ref ++ [.ref a])):=by rw [upd_ne nrc]; exact upd_same
  have e2 : L2.upd (L2.upd H rc (.lst (ps.map V.ref ++ [.ref a]))) ct (.lst (qs'.map V.ref ++ [.ref b])) ct=some (.lst (qs'.map V.ref ++ [.ref b])):=upd_same
  have ob2:=k2 _ _ npr npc ob
  generalize L2.upd (L2.upd H rc (.lst (ps.map V.ref ++ [.ref a]))) ct (.lst (qs'.map V.ref ++ [.ref b]))=H2 at *
  have in1 : ∀ {q : Addr},q∈ps→q≠rc∧q≠ct:=fun hq=>by
    obtain ⟨i,hi,rfl⟩:=List.getElem_of_mem hq
    have hRi:=gx i _ _ (List.getElem?_eq_getElem hi) (List.getElem?_eq_getElem (show i < (R.map (·.1)).length by rw [List.length_map]; omega))
    exact ⟨S.rcp.l.neR hRi (fun z=>by have:=congrArg List.length z; rw [List.length_map] at this; have : R.length=0:=this; omega),S.con.l.neR hRi (fun z=>by have:=congrArg List.length z; rw [List.length_map] at this; have : R.length=0:=this; omega)⟩
  have in2 : ∀ {q : Addr},q∈qs'→q≠rc∧q≠ct:=fun hq=>by
    obtain ⟨i,hi,rfl⟩:=List.getElem_of_mem hq
    have hRi:=gy i _ _ (List.getElem?_eq_getElem hi) (List.getElem?_eq_getElem (show i < (R.map (·.2)).length by rw [List.length_map]; omega))
    exact ⟨S.rcp.l.neR hRi (fun z=>by have:=congrArg List.length z; rw [List.length_map] at this; have : R.length=0:=this; omega),S.con.l.neR hRi (fun z=>by have:=congrArg List.length z; rw [List.length_map] at this; have : R.length=0:=this; omega)⟩
  have S2 : KAt (cK cl) H2 (KS.more ⟨p,rc,ct,ps,qs',R⟩ a b (qs,hs)):=by
    refine ⟨⟨dx,ob2⟩,?_,?_,nrc⟩
    · show RowsA H2 rc (ps ++ [a]) ((R ++ [(qs,hs)]).map (·.1))
      rw [List.map_append]
      exact S.rcp.push e1 (kr n1 n2 hA) fun q rs hq z=>kr (in1 z).1 (in1 z).2 hq
    · show RowsA H2 ct (qs' ++ [b]) ((R ++ [(qs,hs)]).map (·.2))
      rw [List.map_append]
      exact S.con.push e2 (kr n3 n4 hB) fun q rs hq z=>kr (in2 z).1 (in2 z).2 hq
  refine ⟨_,rfl,p,dx,_,rfl,ob2,rfl,KS.more ⟨p,rc,ct,ps,qs',R⟩ a b (qs,hs),rfl,S2,?_⟩
  show Q (.int ((R ++ [(qs,hs)]).length : Int)) H2
  rw [List.length_append]
  exact q2 (by omega) H2 S2 k2
theorem ok_Kinds_raw (G_Kinds_many : CalM P w K mg base CX0 1 (cK cl) "many" p_Kinds_many (spKMany (cK cl))) (G_Kinds_put : CalM P w K mg base (CXE P w) 2 (cK cl) "put" p_Kinds_put (spKPut (cK cl) (cl 22))) (F : Fun K "raw" "Kinds.raw" s_Kinds_raw f fd) : FnOk P w K mg base (CXE P w) 3 f fd p_Kinds_raw (spKRaw (cK cl) (cl 22)):=by
  refine F.okE sc_Kinds_raw (fun vs H Q E h=>?_) (fun cdv A outer s H vs Q E hr h=>?_)
  · obtain ⟨k,rfl,_⟩:=h; rfl
  obtain ⟨⟨p,rc,ct,ps,qs',R⟩,rfl,S,l12,q1,q2⟩:=h
  refine ⟨_,(pss_one (ps_ret (pe_calM (E:=E) G_Kinds_put T.cKinds hr (passE fun _ _ z=>z) (pv 0) (pa_c (pe_lst pa_nil) (pa_c (pe_lst (pa_c (pe_tup (pa_c (pe_op op_add (pe_calM0 G_Kinds_many T.cKinds hr pass0 (pv 0)) pe_int) (pa_c pe_int pa_nil))) pa_nil)) pa_nil))))),?_⟩
  obtain ⟨dx,ob⟩:=S.ob
  obtain ⟨xs,ex,lx,_⟩:=S.rcp.l.get
  obtain ⟨ys,ey,ly,_⟩:=S.con.l.get
  refine ⟨_,rfl,p,dx,_,rfl,ob,rfl,by show 0≤sizeLine; decide,fun a ha=>?_⟩
  have s1:=same_new (H:=H) ha (.lst [])
  refine ⟨_,rfl,p,dx,_,rfl,s1 _ _ ob,rfl,⟨p,rc,ct,ps,qs',R⟩,rfl,S.same s1,_,_,rfl,rfl,by show 2≤sizeLine; decide,fun t ht=>⟨by show 1≤sizeLine; decide,fun b hb=>?_⟩⟩
  have s2:=s1.trans (same_new ht (.tup [.int ((R.length : Int) + 1),.int 1]))
  have s3:=s2.trans (same_new hb (.lst [.ref t]))
  have hA : Rows (L2.upd (L2.upd (L2.upd H a (.lst [])) t (.tup [.int ((R.length : Int) + 1),.int 1])) b (.lst [.ref t])) a []:=Rows.nil (same_new hb _ _ _ (same_new ht _ _ _ upd_same))
  have hB : Rows (L2.upd (L2.upd (L2.upd H a (.lst [])) t (.tup [.int ((R.length : Int) + 1),.int 1])) b (.lst [.ref t])) b [[(R.length : Int) + 1,1]]:=(Tups.one (r:=[(R.length : Int) + 1,1]) (same_new hb _ _ _ upd_same)).rows upd_same
  have hb0 : H b=none:=s2.free hb
  generalize L2.upd (L2.upd (L2.upd H a (.lst [])) t (.tup [.int ((R.length : Int) + 1),.int 1])) b (.lst [.ref t])=H3 at *
  refine ⟨⟨p,rc,ct,ps,qs',R⟩,a,b,[],_,rfl,S.same s3,l12,hA,hB,(ne_of_none ex ha).symm,(ne_of_none ey ha).symm,(ne_of_none ex hb0).symm,(ne_of_none ey hb0).symm,fun c=>q1 c H3 s3,fun c H' S' k'=>q2 c a b H' ha hb0 S' fun x u h1 h2 e=>k' x u h1 h2 (s3 _ _ e)⟩
theorem ok_Kinds_made (G_check_parts : Cal P w K mg base (CXE P w) 1 "check_parts" p_check_parts (spChkParts (cl 10))) (G_Kinds_many : CalM P w K mg base CX0 1 (cK cl) "many" p_Kinds_many (spKMany (cK cl))) (G_Kinds_held_by : CalM P w K mg base CX0 1 (cK cl) "held_by" p_Kinds_held_by (spKHeld (cK cl))) (G_Kinds_put : CalM P w K mg base (CXE P w) 2 (cK cl) "put" p_Kinds_put (spKPut (cK cl) (cl 22))) (F : Fun K "made" "Kinds.made" s_Kinds_made f fd) : FnOk P w K mg base (CXE P w) 3 f fd p_Kinds_made (spKMade cl (cK cl)):=by
  refine F.okE sc_Kinds_made (fun vs H Q E h=>?_) (fun cdv A outer s H vs Q E hr h=>?_)
  · obtain ⟨k,a,qs,rfl,_⟩:=h; rfl
  obtain ⟨⟨p,rc,ct,ps,qs',R⟩,a,qs,rfl,S,ok,hR,h2,qn,q1,q2⟩:=h
  refine ⟨_,(pss_cons (ps_setComp (i:=2) sc_Kinds_made.nd rfl (Or.inl rfl) (N':=["kind","number"]) (ix:=[none,none]) (g:=(gTup K 2 (gCons (gName 0) (gCons (gName 1) gNil)))) (ti:=tIf0) (te:=(tTup (tCons (tVar 0) (tCons (tVar 1) tNil)))) rfl (comp_scope (N:=n_Kinds_made) (D:=defScope s_Kinds_made) (by decide +kernel)) (pi_list (pv 1)) (fun C s H fp=>(pg_tup rfl (pgs_cons (pg_name (i:=0) (show (["kind","number"] : List Str).Nodup by decide +kernel) rfl (Or.inl rfl)) (pgs_cons (pg_name (i:=1) (show (["kind","number"] : List Str).Nodup by decide +kernel) rfl (Or.inl rfl)) pgs_nil)))) (fun C s H fp=>pifs_nil) (fun C s H fp=>(pe_tup (pa_c (pv 0) (pa_c (pv 1) pa_nil)))))
    (pss_cons (ps_expr (pe_cal (E:=E) G_check_parts hr rfl (passE fun _ _ z=>z) (pa_c (pv 2) (pa_c (pe_calM0 G_Kinds_many T.cKinds hr pass0 (pv 0)) pa_nil))))
    (pss_cons (ps_set (i:=3) sc_Kinds_made.nd rfl (Or.inl rfl) (pe_calM G_Kinds_held_by T.cKinds hr pass0 (pv 0) (pa_c (pv 2) pa_nil)))
    (pss_cons (ps_if (pt_truth (pe_callB (call_anyB rfl) rfl B.any PyProof.Rows.boot_any (pa_c (pe_comp (N':=["base","units"]) (ix:=[none,none]) (g:=(gTup K 2 (gCons (gName 0) (gCons (gName 1) gNil)))) (ti:=tIf0) (te:=(tOp (rI0 fun i j=>.bl (decide (j < i))) (tVar 1) (tC (.int 10000)))) rfl (comp_scope (N:=n_Kinds_made) (D:=defScope s_Kinds_made) (by decide +kernel)) (pi_list (pv 3)) (fun C s H fp=>(pg_tup rfl (pgs_cons (pg_name (i:=0) (show (["base","units"] : List Str).Nodup by decide +kernel) rfl (Or.inl rfl)) (pgs_cons (pg_name (i:=1) (show (["base","units"] : List Str).Nodup by decide +kernel) rfl (Or.inl rfl)) pgs_nil)))) (fun C s H fp=>pifs_nil) (fun C s H fp=>(pe_cmpR op_gt (pv 1) (pe_glI rfl T.MOST_HELD) (nomark _)))) pa_nil)) (fun _=>rfl)) (pss_one (ps_raise (E:=E) rfl T.gTooMuch T.eTooMuch PySem.F.excBase_ValueError rfl makesE (pa_c pe_str pa_nil))) pss_nil)
    (pss_one (ps_ret (pe_calM (E:=E) G_Kinds_put T.cKinds hr (passE fun _ _ z=>z) (pv 0) (pa_c (pv 2) (pa_c (pv 3) pa_nil))))))))),?_⟩
  obtain ⟨dx,ob⟩:=S.ob
  obtain ⟨xs,ex,hx⟩:=hR.tups
  have lx:=hx.1
  obtain ⟨us,eu,lu,_⟩:=S.rcp.l.get
  obtain ⟨ys,ey,ly,_⟩:=S.con.l.get
  refine ⟨_,rfl,a,rfl,⟨_,SqL.of ex⟩,fun D hD=>?_⟩
  refine comp_rows (fun r=>r) hD ex hx (by omega) (fun i t r H6 er s6 ht K1 K2 k1=>?_) fun H1 s1 R1=>?_
  · obtain ⟨k,v,rfl⟩:=len2 (h2 r (List.mem_of_getElem? er))
    refine ⟨t,_,rfl,SqT.of ht,rfl,_,_,rfl,_,_,rfl,rfl,keep_set (keep_set keep_refl rfl) rfl,?_⟩
    exact ⟨_,rfl,_,rfl,by show 2≤sizeLine; decide,fun tt htt=>k1 tt htt⟩
  rw [List.map_id'] at R1
  refine ⟨_,rfl,_,rfl,p,dx,_,rfl,s1 _ _ ob,rfl,⟨p,rc,ct,ps,qs',R⟩,rfl,S.same s1,D,qs,_,rfl,R1,h2,fun m em=>⟨fun hok=>?_,fun hbad=>(by
    have : m=R.length:=by have em : (R.length : Int)=(m : Int):=em; omega
    subst this
    exact q1 hbad H1 s1)⟩,by omega⟩
  have : m=R.length:=by have em : (R.length : Int)=(m : Int):=em; omega
  subst this
  refine ⟨_,rfl,p,dx,_,rfl,s1 _ _ ob,rfl,_,rfl,⟨p,rc,ct,ps,qs',R⟩,D,qs,rfl,S.same s1,ok,R1,h2,hok.2,fun hl hs H2 hhl hh s2 R2=>?_⟩
  obtain ⟨q3,q4⟩:=q2 hok.1 hok.2 hs hh
  have s12:=s1.trans s2
  obtain ⟨zs,ez,hz⟩:=R2.tups
  have lz:=hz.1
  obtain ⟨hg,h12⟩:=hh.good ok hok.1 hok.2
  refine ⟨_,rfl,hl,rfl,⟨_,SqL.of ez⟩,fun D2 hD2=>?_⟩
  refine comp_by (fun i ws _=>ws=((hs.take i).map fun r=>decide (10000 < r.getD 1 0)).map V.bl) hD2 ez (by omega) (fun i ws H H' h _=>h) rfl (fun i x ws H6 ei s6 hp K1 K2 k1 k2=>?_) fun ws H3 s3 hp lw hD3=>?_
  · obtain ⟨t,r,rfl,er,ht⟩:=hz.at ei
    obtain ⟨k,v,rfl,_⟩:=hg.2 r (List.mem_of_getElem? er)
    refine ⟨t,_,rfl,SqT.of (s6 _ _ ht),rfl,_,_,rfl,_,_,rfl,rfl,keep_set (keep_set keep_refl rfl) rfl,?_⟩
    refine ⟨_,rfl,_,_,rfl,rfl,k1 _ _ (Same.refl _) ?_⟩
    rw [hp,getElem_next er,List.map_append,List.map_append]; rfl
  rw [lz,List.take_length] at hp
  subst hp
  have s13:=s12.trans s3
  refine ⟨D2,_,rfl,SqL.of hD3,_,rfl,?_⟩
  have et : ((hs.map fun r=>decide (10000 < r.getD 1 0)).any id)=tooB hs:=by
    unfold tooB; rw [List.any_map]; rfl
  rw [et]
  cases ht : tooB hs with
  | true=>exact iteT ⟨by show 1≤sizeLine; decide,q3 ht H3 s13⟩
  | false=>
  obtain ⟨q5,q6⟩:=q4 ht
  have hhl0:=s1.free hhl
  refine iteF ⟨_,rfl,p,dx,_,rfl,s13 _ _ ob,rfl,_,rfl,_,rfl,⟨p,rc,ct,ps,qs',R⟩,D,hl,qs,hs,rfl,S.same s13,ok.len,R1.same (s2.trans s3),R2.same s3,(ne_of_none eu hD).symm,(ne_of_none ey hD).symm,(ne_of_none eu hhl0).symm,(ne_of_none ey hhl0).symm,fun c=>q5 c H3 s13,fun c H' S' k'=>q6 c D hl H' hD hhl0 S' fun x u h1 h2 e=>k' x u h1 h2 (s13 _ _ e)⟩
theorem ok_Kinds_twin (G_Kinds___init__ : CalI P w K mg base CX0 1 (cK cl) "Kinds" p_Kinds___init__ (spKInit (cK cl))) (F : Fun K "twin" "Kinds.twin" s_Kinds_twin f fd) : FnOk P w K mg base CX0 3 f fd p_Kinds_twin (spKTwin (cK cl)):=by
  refine F.ok sc_Kinds_twin (fun vs H Q E h=>?_) (fun cdv A outer s H vs Q E hr h=>?_)
  · obtain ⟨k,rfl,_⟩:=h; rfl
  obtain ⟨⟨p,rc,ct,ps,qs,R⟩,rfl,S,q⟩:=h
  refine ⟨_,(pss_cons (ps_set (i:=1) sc_Kinds_twin.nd rfl (Or.inl rfl) (pe_calI0 G_Kinds___init__ hr rfl pass0))
    (pss_cons (ps_fld (pv 1) (pe_callTy call_list_of rfl B.list PyProof.Rows.boot_list (pa_c (pe_fld (pv 0) rfl) pa_nil)) rfl)
    (pss_cons (ps_fld (pv 1) (pe_callTy call_list_of rfl B.list PyProof.Rows.boot_list (pa_c (pe_fld (pv 0) rfl) pa_nil)) rfl)
    (pss_one (ps_ret (pv 1)))))),?_⟩
  intro x dx nx ndx ndd
  refine ⟨x,dx,rfl,upd_same,fun rc0 ct0 H1 h1 h2 S1 kp=>⟨rfl,?_⟩⟩
  have s0 : Same H (L2.upd (L2.upd H dx (.own x)) x (.ins (cK cl) dx [])):=(same_new ndx _).trans (same_new (by rw [upd_ne ndd.symm]; exact nx) _)
  have s1 : Same H H1:=fun b o e=>kp b o (ne_of_none e nx) (s0 b o e)
  obtain ⟨dy,ob1⟩:=S1.ob
  obtain ⟨dz,ob⟩:=S.ob
  obtain ⟨ex,lx,gx⟩:=id S.rcp
  obtain ⟨ey,ly,gy⟩:=id S.con
  dsimp only at ex ey gx gy ob
  generalize hxs : ps.map V.ref=xs at *
  generalize hys : qs.map V.ref=ys at *
  refine ⟨_,rfl,p,cK cl,dz,_,_,rfl,s1 _ _ ob,T.cKinds,T.nKinds_recipes,rfl,rc,_,rfl,.inl (SqL.of (s1 _ _ ex)),fun rc' hrc'=>?_⟩
  have s2:=same_new (H:=H1) hrc' (.lst xs)
  refine ⟨_,rfl,x,cK cl,dy,_,rfl,s2 _ _ ob1,T.cKinds,T.nKinds_recipes,by show 2 < 1000; decide,?_⟩
  have nxr : x≠rc':=ne_of_none ob1 hrc'
  have s3 : Same H (L2.upd (L2.upd H1 rc' (.lst xs)) x (.ins (cK cl) dy (putF "recipes" (.ref rc') (fldK rc0 ct0)))):=(s1.trans s2).young nx
  have e3 : putF "recipes" (.ref rc') (fldK rc0 ct0)=fldK rc' ct0:=rfl
  rw [e3] at s3 ⊢
  have er3 : L2.upd (L2.upd H1 rc' (.lst xs)) x (.ins (cK cl) dy (fldK rc' ct0)) rc' = some (.lst xs):=by rw [upd_ne nxr.symm]; exact upd_same
  have ex3:=upd_same (H:=L2.upd H1 rc' (.lst xs)) (a:=x) (o:=.ins (cK cl) dy (fldK rc' ct0))
  generalize L2.upd (L2.upd H1 rc' (.lst xs)) x (.ins (cK cl) dy (fldK rc' ct0))=H3 at *
  refine ⟨_,rfl,p,cK cl,dz,_,_,rfl,s3 _ _ ob,T.cKinds,T.nKinds_contents,rfl,ct,_,rfl,.inl (SqL.of (s3 _ _ ey)),fun ct' hct'=>?_⟩
  have s4:=same_new (H:=H3) hct' (.lst ys)
  have nxc : x≠ct':=ne_of_none ex3 hct'
  refine ⟨_,rfl,x,cK cl,dy,_,rfl,s4 _ _ ex3,T.cKinds,T.nKinds_contents,by show 2 < 1000; decide,?_⟩
  have s5 : Same H (L2.upd (L2.upd H3 ct' (.lst ys)) x (.ins (cK cl) dy (putF "contents" (.ref ct') (fldK rc' ct0)))):=(s3.trans s4).young nx
  have e5 : putF "contents" (.ref ct') (fldK rc' ct0)=fldK rc' ct':=rfl
  rw [e5] at s5 ⊢
  have er5 : L2.upd (L2.upd H3 ct' (.lst ys)) x (.ins (cK cl) dy (fldK rc' ct')) rc' = some (.lst xs):=by rw [upd_ne nxr.symm]; exact s4 _ _ er3
  have ec5 : L2.upd (L2.upd H3 ct' (.lst ys)) x (.ins (cK cl) dy (fldK rc' ct')) ct' = some (.lst ys):=by rw [upd_ne nxc.symm]; exact upd_same
  have ex5:=upd_same (H:=L2.upd H3 ct' (.lst ys)) (a:=x) (o:=.ins (cK cl) dy (fldK rc' ct'))
  generalize L2.upd (L2.upd H3 ct' (.lst ys)) x (.ins (cK cl) dy (fldK rc' ct'))=H5 at *
  refine ⟨_,rfl,q x rc' ct' H5 nx (s1.free hrc') (s3.free hct') s5 ⟨⟨dy,ex5⟩,⟨by rw [hxs]; exact er5,lx,fun i p rs e1 e2=>(gx i p rs e1 e2).same s5⟩,⟨by rw [hys]; exact ec5,ly,fun i p rs e1 e2=>(gy i p rs e1 e2).same s5⟩,fun z=>?_⟩⟩
  dsimp only at z
  rw [z] at er3
  rw [er3] at hct'
  cases hct'
end
end K34
namespace K34
open PySem L2
abbrev s_same : Stmt:=top 17
abbrev n_same : List Str:=["_law_found","_law_due"]
abbrev p_same : List Str:=["_law_found","_law_due"]
theorem sc_same : FnScope n_same p_same (defScope s_same):=⟨rfl,rfl,rfl,by decide +kernel,rfl,by decide +kernel,by decide +kernel⟩
def spSame : Nat→Sp
  | 0=>fun _ _ _ _=>False
  | n + 1=>fun vs H Q _=>∃ v u,vs=[v,u]∧EqD H n v u∧∀ H',Same H H'→Q (.bl true) H'
section
variable {P : Program} {w : World} {K : PySem.W.Frag} {mg : Str→Option Value} {base : Heap} {f : Addr} {fd : FuncData}
theorem nd2 : (["_law_one","_law_other"] : List Str).Nodup:=by decide +kernel
abbrev g2 (K : PySem.W.Frag) : TG:=gTup K 2 (gCons (gName 0) (gCons (gName 1) gNil))
theorem same_comp {m : Nat} {H2 : Hp} {a b : Addr} {xs ys : List V} {bb : Bool} {Q : VK} (hl : xs.length=ys.length) (hs : xs.length≤1000) (hx : ∀ (i : Nat) x y,xs[i]? = some x→ys[i]? = some y→EqD H2 m x y) (hb : ∀ H',Same H2 H'→SqB K H' bb a xs∧SqB K H' bb b ys)
    (q : ∀ H',Same H2 H'→Q (.bl true) H') : tComp [none,none] (iZip K (tCons (tVar 0) (tCons (tVar 1) tNil))) (g2 K) tIf0 (tCall (spSame (m + 1)) [] E0 (tCons (tVar 0) (tCons (tVar 1) tNil))) [some (.ref a),some (.ref b)] H2
      (fun x H3=>∃ (p : Addr) (bs : List Bool),[x]=[V.ref p]∧SqL K H3 p (bs.map V.bl)∧Q (.bl (bs.all id)) H3):=by
  obtain ⟨q1,q2⟩:=hb H2 (Same.refl H2)
  refine ⟨_,rfl,_,rfl,bb,bb,a,b,xs,ys,rfl,q1,q2,fun D hD=>⟨fun i m' H4=>i + m' = xs.length∧Same H2 H4∧H4 D=some (.lst (List.replicate i (.bl true))),⟨xs.length,by omega,same_new hD _,upd_same⟩,?_⟩⟩
  rintro i m' H4 ⟨him,sm,hD4⟩
  obtain ⟨r1,r2⟩:=hb H4 sm
  by_cases hi : i < xs.length
  · refine .inr ⟨⟨xs,ys,xs[i],ys[i]'(by omega),r1,r2,List.getElem?_eq_getElem hi,List.getElem?_eq_getElem (by omega)⟩,?_⟩
    rintro x H' ⟨p,x',y',rfl,hp,rfl,hxy⟩
    obtain ⟨e1,e2⟩:=hxy xs ys r1 r2
    refine ⟨p,_,rfl,SqT.of upd_same,rfl,_,_,rfl,_,_,rfl,rfl,?_,?_⟩
    · intro k v e
      match k,e with
      | 0,e=>cases e
      | 1,e=>cases e
      | k + 2,e=>cases e
    · refine ⟨_,rfl,_,rfl,x',y',rfl,(hx i x' y' e1 e2).same (sm.trans (same_new hp _)),fun H5 s5=>?_⟩
      have hD5:=s5 _ _ (show L2.upd H4 p (.tup [x',y']) D=some (.lst (List.replicate i (.bl true))) by rw [upd_ne (ne_of_none hD4 hp)]; exact hD4)
      refine ⟨_,hD5,small1000 (by rw [List.length_replicate]; omega),m' - 1,by omega,by omega,fun c o e=>?_,?_⟩
      · rw [upd_ne (ne_of_none e hD)]
        exact s5 _ _ (same_new hp _ _ _ (sm _ _ e))
      · rw [upd_same,List.replicate_succ']
  · refine .inl ⟨⟨xs,ys,r1,r2,.inl (by omega)⟩,D,List.replicate i true,rfl,SqL.of (by rw [List.map_replicate]; exact hD4),?_⟩
    have e : (List.replicate i true).all id=true:=List.all_eq_true.mpr fun b hb=>by rw [List.eq_of_mem_replicate hb]; rfl
    rw [e]
    exact q H4 sm
theorem ok_same1 {n : Nat} (F : Fun K "_law_same" "_law_same" s_same f fd) (B : Bn mg) (G : FnOk P w K mg base CX0 n f fd n_same (spSame n)) (b1 : Binds K fd n_same []) (k1 : PySem.W.keepIn K (.ref f)=true) (m1 : mg "_law_same" = some (.ref f)) :
    FnOk P w K mg base CX0 (n + 1) f fd n_same (spSame (n + 1)):=by
  refine F.ok sc_same (fun vs H Q E h=>?_) (fun cdv A outer s H vs Q E hr h=>?_)
  · obtain ⟨v,u,rfl,_⟩:=h; rfl
  obtain ⟨v,u,rfl,heq,q⟩:=h
  refine ⟨_,pss_cons (ps_if (pt_cmpR op_isN (pv 1) pe_non (nomark _)) (pss_one (ps_ret (pe_cmpR op_isN (pv 0) pe_non (nomark _)))) pss_nil)
    (pss_cons (ps_if (PW.pt (pw_or (pt_truth (pe_callB call_isi rfl B.isi PyProof.Rows.boot_isinstance (pa_c (pv 1) (pa_c (pe_bltn rfl B.bool PyProof.Rows.boot_bool (v:=.ty "bool") rfl) pa_nil))) (fun _=>rfl)) (pw_or1 (pt_truth (pe_callB call_isi rfl B.isi PyProof.Rows.boot_isinstance (pa_c (pv 0) (pa_c (pe_bltn rfl B.bool PyProof.Rows.boot_bool (v:=.ty "bool") rfl) pa_nil))) (fun _=>rfl)))))
      (pss_one (ps_ret (pe_and (pe_callB call_isi rfl B.isi PyProof.Rows.boot_isinstance (pa_c (pv 1) (pa_c (pe_bltn rfl B.bool PyProof.Rows.boot_bool (v:=.ty "bool") rfl) pa_nil))) (pe_and (pe_callB call_isi rfl B.isi PyProof.Rows.boot_isinstance (pa_c (pv 0) (pa_c (pe_bltn rfl B.bool PyProof.Rows.boot_bool (v:=.ty "bool") rfl) pa_nil))) (pe_one (pe_cmpR op_eq (pv 0) (pv 1) (nomark _))))))) pss_nil)
    (pss_cons (ps_if (pt_truth (pe_callB call_isT rfl B.isi PyProof.Rows.boot_isinstance (pa_c (pv 1) (pa_c (pe_tup (pa_c (pe_bltn rfl B.int PyProof.Rows.boot_int (v:=.ty "int") rfl) (pa_c (pe_bltn rfl B.str PyProof.Rows.boot_str (v:=.ty "str") rfl) pa_nil))) pa_nil))) (fun _=>rfl))
      (pss_one (ps_ret (pe_and (pe_cmpR op_eq (pe_callB call_isi rfl B.isi PyProof.Rows.boot_isinstance (pa_c (pv 0) (pa_c (pe_bltn rfl B.int PyProof.Rows.boot_int (v:=.ty "int") rfl) pa_nil))) (pe_callB call_isi rfl B.isi PyProof.Rows.boot_isinstance (pa_c (pv 1) (pa_c (pe_bltn rfl B.int PyProof.Rows.boot_int (v:=.ty "int") rfl) pa_nil))) (nomark _))
        (pe_and (pe_callB call_isT rfl B.isi PyProof.Rows.boot_isinstance (pa_c (pv 0) (pa_c (pe_tup (pa_c (pe_bltn rfl B.int PyProof.Rows.boot_int (v:=.ty "int") rfl) (pa_c (pe_bltn rfl B.str PyProof.Rows.boot_str (v:=.ty "str") rfl) pa_nil))) pa_nil))) (pe_one (pe_cmpR op_eq (pv 0) (pv 1) (nomark _))))))) pss_nil)
    (pss_cons (ps_if (PW.pt (pw_or (pt_cmpR op_ne (pe_callB call_isi rfl B.isi PyProof.Rows.boot_isinstance (pa_c (pv 0) (pa_c (pe_bltn rfl B.list PyProof.Rows.boot_list (v:=.ty "list") rfl) pa_nil))) (pe_callB call_isi rfl B.isi PyProof.Rows.boot_isinstance (pa_c (pv 1) (pa_c (pe_bltn rfl B.list PyProof.Rows.boot_list (v:=.ty "list") rfl) pa_nil))) (nomark _))
        (pw_or1 (pt_cmpR op_ne (pe_callB call_isi rfl B.isi PyProof.Rows.boot_isinstance (pa_c (pv 0) (pa_c (pe_bltn rfl B.tuple PyProof.Rows.boot_tuple (v:=.ty "tuple") rfl) pa_nil))) (pe_callB call_isi rfl B.isi PyProof.Rows.boot_isinstance (pa_c (pv 1) (pa_c (pe_bltn rfl B.tuple PyProof.Rows.boot_tuple (v:=.ty "tuple") rfl) pa_nil))) (nomark _)))))
      (pss_one (ps_ret pe_bl)) pss_nil)
    (pss_cons (ps_if (pt_cmpR op_ne (pe_callB call_len_seq rfl B.len PySem.boot_len (pa_c (pv 0) pa_nil)) (pe_callB call_len_seq rfl B.len PySem.boot_len (pa_c (pv 1) pa_nil)) (nomark _)) (pss_one (ps_ret pe_bl)) pss_nil)
    (pss_one (ps_ret (pe_callB (call_allB rfl) rfl B.all PyProof.Rows.boot_all (pa_c (pe_comp (N':=["_law_one","_law_other"]) (ix:=[none,none]) (g:=g2 K) (ti:=tIf0) (te:=tCall (spSame n) [] E0 (tCons (tVar 0) (tCons (tVar 1) tNil))) rfl (comp_scope (N:=n_same) (D:=defScope s_same) (by decide +kernel)) (pi_zip rfl B.zip (pa_c (pv 0) (pa_c (pv 1) pa_nil)))
      (fun C s H fp=>pg_tup rfl (pgs_cons (pg_name (i:=0) nd2 rfl (Or.inl rfl)) (pgs_cons (pg_name (i:=1) nd2 rfl (Or.inl rfl)) pgs_nil))) (fun _ _ _ _=>pifs_nil) (fun C s H fp=>pe_call G hr rfl m1 k1 b1 .nil pass0 (pa_c (pv 0) (pa_c (pv 1) pa_nil)))) pa_nil)))))))),?_⟩
  have sN : ∀ {p : Addr} {o : HO},H p=none→Same H (L2.upd H p o):=fun hp=>same_new hp _
  cases heq with
  | flat hf=>
    cases v with
    | non=>
      refine ⟨_,rfl,rfl,_,rfl,?_⟩
      refine iteT ?_
      exact ⟨_,rfl,rfl,q H (Same.refl H)⟩
    | bl b=>
      refine ⟨_,rfl,rfl,_,rfl,?_⟩
      refine iteF ?_
      refine ⟨_,rfl,_,_,_,_,true,rfl,rfl,TyOf.bl b,by kernel_rfl,_,rfl,?_⟩
      refine iteT (iteT ?_)
      refine ⟨_,rfl,_,_,_,_,true,rfl,rfl,TyOf.bl b,by kernel_rfl,_,rfl,?_⟩
      refine iteT ⟨_,rfl,_,_,_,_,true,rfl,rfl,TyOf.bl b,by kernel_rfl,_,rfl,?_⟩
      refine iteT ⟨_,rfl,_,rfl,rfl,?_⟩
      rw [decide_eq_true (rfl : V.bl b=V.bl b)]
      exact q H (Same.refl H)
    | int i=>
      refine ⟨_,rfl,rfl,_,rfl,?_⟩
      refine iteF ?_
      refine ⟨_,rfl,_,_,_,_,false,rfl,rfl,TyOf.int i,by kernel_rfl,_,rfl,?_⟩
      refine iteF ⟨_,rfl,_,_,_,_,false,rfl,rfl,TyOf.int i,by kernel_rfl,_,rfl,?_⟩
      refine iteF ?_
      refine ⟨_,rfl,by show 2≤sizeLine; decide,fun p hp=>⟨_,p,_,_,[.type "int",.type "str"],true,rfl,upd_same,rfl,TyOf.int i,by kernel_rfl,_,rfl,?_⟩⟩
      refine iteT ?_
      refine ⟨_,rfl,_,_,_,_,true,rfl,rfl,TyOf.int i,by kernel_rfl,_,rfl,_,_,_,_,true,rfl,rfl,TyOf.int i,by kernel_rfl,rfl,_,rfl,?_⟩
      refine iteT ⟨_,rfl,by show 2≤sizeLine; decide,fun p2 hp2=>⟨_,p2,_,_,[.type "int",.type "str"],true,rfl,upd_same,rfl,TyOf.int i,by kernel_rfl,_,rfl,?_⟩⟩
      refine iteT ⟨_,rfl,_,rfl,rfl,?_⟩
      rw [decide_eq_true (rfl : V.int i=V.int i)]
      exact q _ ((sN hp).trans (same_new hp2 _))
    | str x=>
      refine ⟨_,rfl,rfl,_,rfl,?_⟩
      refine iteF ?_
      refine ⟨_,rfl,_,_,_,_,false,rfl,rfl,TyOf.str x,by kernel_rfl,_,rfl,?_⟩
      refine iteF ⟨_,rfl,_,_,_,_,false,rfl,rfl,TyOf.str x,by kernel_rfl,_,rfl,?_⟩
      refine iteF ?_
      refine ⟨_,rfl,by show 2≤sizeLine; decide,fun p hp=>⟨_,p,_,_,[.type "int",.type "str"],true,rfl,upd_same,rfl,TyOf.str x,by kernel_rfl,_,rfl,?_⟩⟩
      refine iteT ?_
      refine ⟨_,rfl,_,_,_,_,false,rfl,rfl,TyOf.str x,by kernel_rfl,_,rfl,_,_,_,_,false,rfl,rfl,TyOf.str x,by kernel_rfl,rfl,_,rfl,?_⟩
      refine iteT ⟨_,rfl,by show 2≤sizeLine; decide,fun p2 hp2=>⟨_,p2,_,_,[.type "int",.type "str"],true,rfl,upd_same,rfl,TyOf.str x,by kernel_rfl,_,rfl,?_⟩⟩
      refine iteT ⟨_,rfl,_,rfl,rfl,?_⟩
      rw [decide_eq_true (rfl : V.str x=V.str x)]
      exact q _ ((sN hp).trans (same_new hp2 _))
    | _=>exact absurd (show false=true from hf) Bool.false_ne_true
  | @tup m a b xs ys h1 h2 hl hs hx=>
    refine ⟨_,rfl,rfl,_,rfl,?_⟩
    refine iteF ?_
    refine ⟨_,rfl,_,_,_,_,false,rfl,rfl,TyOf.tup h2,by kernel_rfl,_,rfl,?_⟩
    refine iteF ⟨_,rfl,_,_,_,_,false,rfl,rfl,TyOf.tup h1,by kernel_rfl,_,rfl,?_⟩
    refine iteF ?_
    refine ⟨_,rfl,by show 2≤sizeLine; decide,fun p hp=>?_⟩
    have g1:=sN (o:=.tup [.ty "int",.ty "str"]) hp _ _ h1
    have g2:=sN (o:=.tup [.ty "int",.ty "str"]) hp _ _ h2
    refine ⟨_,p,_,_,[.type "int",.type "str"],false,rfl,upd_same,rfl,TyOf.tup g2,by kernel_rfl,_,rfl,?_⟩
    refine iteF ?_
    refine ⟨_,rfl,_,_,_,_,false,rfl,rfl,TyOf.tup g1,by kernel_rfl,_,rfl,_,_,_,_,false,rfl,rfl,TyOf.tup g2,by kernel_rfl,rfl,_,rfl,?_⟩
    refine iteF ⟨_,rfl,_,_,_,_,true,rfl,rfl,TyOf.tup g1,by kernel_rfl,_,rfl,_,_,_,_,true,rfl,rfl,TyOf.tup g2,by kernel_rfl,rfl,_,rfl,?_⟩
    refine iteF ?_
    refine ⟨_,rfl,a,_,rfl,.inr (SqT.of g1),_,rfl,b,_,rfl,.inr (SqT.of g2),rfl,_,rfl,?_⟩
    refine iteNS (by rw [hl]) ?_
    exact same_comp (bb:=false) hl hs (fun i x y e1 e2=>(hx i x y e1 e2).same (sN hp)) (fun H' sm=>⟨SqT.of (sm _ _ g1),SqT.of (sm _ _ g2)⟩) fun H' sm=>q H' ((sN hp).trans sm)
  | @lst m a b xs ys h1 h2 hl hs hx=>
    refine ⟨_,rfl,rfl,_,rfl,?_⟩
    refine iteF ?_
    refine ⟨_,rfl,_,_,_,_,false,rfl,rfl,TyOf.lst h2,by kernel_rfl,_,rfl,?_⟩
    refine iteF ⟨_,rfl,_,_,_,_,false,rfl,rfl,TyOf.lst h1,by kernel_rfl,_,rfl,?_⟩
    refine iteF ?_
    refine ⟨_,rfl,by show 2≤sizeLine; decide,fun p hp=>?_⟩
    have g1:=sN (o:=.tup [.ty "int",.ty "str"]) hp _ _ h1
    have g2:=sN (o:=.tup [.ty "int",.ty "str"]) hp _ _ h2
    refine ⟨_,p,_,_,[.type "int",.type "str"],false,rfl,upd_same,rfl,TyOf.lst g2,by kernel_rfl,_,rfl,?_⟩
    refine iteF ?_
    refine ⟨_,rfl,_,_,_,_,true,rfl,rfl,TyOf.lst g1,by kernel_rfl,_,rfl,_,_,_,_,true,rfl,rfl,TyOf.lst g2,by kernel_rfl,rfl,_,rfl,?_⟩
    refine iteF ⟨_,rfl,_,_,_,_,false,rfl,rfl,TyOf.lst g1,by kernel_rfl,_,rfl,_,_,_,_,false,rfl,rfl,TyOf.lst g2,by kernel_rfl,rfl,_,rfl,?_⟩
    refine iteF ?_
    refine ⟨_,rfl,a,_,rfl,.inl (SqL.of g1),_,rfl,b,_,rfl,.inl (SqL.of g2),rfl,_,rfl,?_⟩
    refine iteNS (by rw [hl]) ?_
    exact same_comp (bb:=true) hl hs (fun i x y e1 e2=>(hx i x y e1 e2).same (sN hp)) (fun H' sm=>⟨SqL.of (sm _ _ g1),SqL.of (sm _ _ g2)⟩) fun H' sm=>q H' ((sN hp).trans sm)
theorem ok_same (F : Fun K "_law_same" "_law_same" s_same f fd) (B : Bn mg) (b1 : Binds K fd n_same []) (k1 : PySem.W.keepIn K (.ref f)=true) (m1 : mg "_law_same" = some (.ref f)) : ∀ n : Nat,FnOk P w K mg base CX0 n f fd n_same (spSame n)
  | 0=>⟨fun _ _ _ _ h=>False.elim h,fun _ _ _ _ _ _ _ _ _ _ _ _ _ h=>False.elim h⟩
  | n + 1=>ok_same1 F B (ok_same F B b1 k1 m1 n) b1 k1 m1
end
end K34
namespace K34
open PySem L2
abbrev s_parts : Stmt:=top 14
abbrev n_parts : List Str:=["_law_draw","_law_many","_law_most","_law_found","_law_kind","_law_k"]
abbrev p_parts : List Str:=["_law_draw","_law_many","_law_most"]
theorem sc_parts : FnScope n_parts p_parts (defScope s_parts):=⟨rfl,rfl,rfl,by decide +kernel,rfl,by decide +kernel,by decide +kernel⟩
abbrev s_holding : Stmt:=top 15
abbrev n_holding : List Str:=["_law_held","_law_parts_here","_law_sums","_law_kind","_law_number","_law_raw","_law_some"]
abbrev p_holding : List Str:=["_law_held","_law_parts_here"]
theorem sc_holding : FnScope n_holding p_holding (defScope s_holding):=⟨rfl,rfl,rfl,by decide +kernel,rfl,by decide +kernel,by decide +kernel⟩
def spLParts : Sp:=fun vs H Q _=>∃ (a c : Addr) (m : Nat) (mo : Int),vs=[.ref a,.int (m : Int),.int mo]∧DrawAt H a c∧m≤100∧1≤mo∧mo≤100∧∀ l qs H',H l=none→partsOk m 0 qs=true→(∀ q∈qs,q.length=2)→qs.length≤3→DrawAt H' a c→KeepBut a H H'→Rows H' l qs→Q (.ref l) H'
def spLHold : Sp:=fun vs H Q _=>∃ (h a : Addr) (ps : List Addr) (R : Kds) (qs : List (List Int)),vs=[.ref h,.ref a]∧RowsA H h ps (ctsOf R)∧KdsOk R∧Rows H a qs∧(∀ q∈qs,q.length=2)∧partsOk R.length 0 qs=true∧∀ l hs H',H l=none→HeldIs (sumsOf (occ (ctsOf R) qs)) hs→Same H H'→Rows H' l hs→Q (.ref l) H'
theorem partsOk_snoc {m : Nat} {k v : Int} : ∀ {qs : List (List Int)} {ah : Int},partsOk m ah qs=true→(∀ q∈qs,q.getD 0 0 < k)→ah < k→k≤(m : Int)→1≤v→v≤100→partsOk m ah (qs ++ [[k,v]])=true
  | [],ah,_,_,h1,h2,h3,h4=>by
    show (decide (ah < k∧k≤(m : Int)∧1≤v∧v≤100) && true)=true
    rw [decide_eq_true ⟨h1,h2,h3,h4⟩]; rfl
  | q :: qs,ah,h,hl,h1,h2,h3,h4=>by
    rw [partsOk,Bool.and_eq_true] at h
    show (decide _ && partsOk m (q.getD 0 0) (qs ++ [[k,v]]))=true
    rw [Bool.and_eq_true]
    exact ⟨h.1,partsOk_snoc h.2 (fun p hp=>hl p (.tail _ hp)) (hl q (.head _)) h2 h3 h4⟩
section
variable {P : Program} {w : World} {K : PySem.W.Frag} {mg : Str→Option Value} {base : Heap} {f : Addr} {fd : FuncData} (B : Bn mg)
include B
theorem ok_parts (G_pick : Cal P w K mg base CX0 1 "_law_pick" p_pick spPick) (F : Fun K "_law_parts" "_law_parts" s_parts f fd) : FnOk P w K mg base CX0 2 f fd p_parts spLParts:=by
  refine F.ok sc_parts (fun vs H Q E h=>?_) (fun cdv A outer s H vs Q E hr h=>?_)
  · obtain ⟨a,c,m,mo,rfl,_⟩:=h; rfl
  obtain ⟨a,c,m,mo,rfl,d0,m100,mo1,mo2,q⟩:=h
  refine ⟨_,(pss_cons (ps_set (i:=3) sc_parts.nd rfl (Or.inl rfl) (pe_lst pa_nil))
    (pss_cons (ps_set (i:=4) sc_parts.nd rfl (Or.inl rfl) pe_int)
    (pss_cons (ps_for PassesOwn.never rfl (pi_range1 rfl B.range (pa_c (pe_op op_add pe_int (pe_cal G_pick hr rfl pass0 (pa_c (pv 0) (pa_c pe_int pa_nil)))) pa_nil)) (pg_name (i:=5) sc_parts.nd rfl (Or.inl rfl)) (pss_cons (ps_set (i:=4) sc_parts.nd rfl (Or.inl rfl) (pe_op op_add (pe_op op_add (pv 4) pe_int) (pe_cal G_pick hr rfl pass0 (pa_c (pv 0) (pa_c pe_int pa_nil)))))
      (pss_one (ps_if (pt_cmpR op_le (pv 4) (pv 1) (nomark _)) (pss_one (ps_expr (pe_bm PySem.F.plainAttrs_list PySem.F.slot_list_append PySem.F.type_list_append mt_append (pv 3) (pa_c (pe_tup (pa_c (pv 4) (pa_c (pe_op op_add pe_int (pe_cal G_pick hr rfl pass0 (pa_c (pv 0) (pa_c (pv 2) pa_nil)))) pa_nil))) pa_nil)))) pss_nil))))
    (pss_one (ps_ret (pv 3)))))),?_⟩
  refine ⟨by show 0≤sizeLine; decide,fun fo hfo=>?_⟩
  have s1:=same_new (H:=H) hfo (.lst [])
  have nfa : fo≠a:=d0.ne hfo
  have nfc:=d0.nc hfo
  dsimp only
  refine tSeq_by (fun σ H'=>σ=[some (.ref a),some (.int (m : Int)),some (.int mo),some (.ref fo),some (.int 0),none]∧H' = L2.upd H fo (.lst [])) (fun D' nx _=>nx _ _ ⟨rfl,rfl⟩) ?_
  rintro σ H1 ⟨rfl,rfl⟩
  refine ⟨_,rfl,a,c,3,rfl,d0.same s1,by decide,by decide,fun y H2 y0 y1 d2 kb2=>⟨_,_,rfl,rfl,_,rfl,by omega,by omega,?_⟩⟩
  have k2 : KeepBut a H H2:=(KeepBut.of_same s1).trans kb2
  have ef2 : H2 fo=some (.lst []):=kb2 _ _ nfa upd_same
  refine for_range (n:=(1 + y).toNat) (fun i σ H'=>∃ kd o5 xs qs,σ=[some (.ref a),some (.int (m : Int)),some (.int mo),some (.ref fo),some (.int kd),o5]∧DrawAt H' a c∧KeepBut a H H'∧H' fo=some (.lst xs)∧Tups H' xs qs∧partsOk m 0 qs=true∧(∀ q∈qs,q.length=2∧q.getD 0 0≤kd)∧qs.length≤i∧0≤kd∧kd≤3 * (i : Int)) ⟨0,_,[],[],rfl,d2,k2,ef2,Tups.nil,rfl,fun q hq=>(by cases hq),Nat.le_refl _,Int.le_refl _,by omega⟩ ?_ ?_
  · rintro i σ H3 hi ⟨kd,o5,xs,qs,rfl,d3,k3,ex,hx,hp,hq,ql,kd0,kd1⟩
    refine ⟨_,rfl,_,_,rfl,rfl,_,rfl,a,c,3,rfl,d3,by decide,by decide,fun z H4 z0 z1 d4 kb4=>⟨_,_,rfl,rfl,?_⟩⟩
    have ex4:=kb4 _ _ nfa ex
    have hx4:=hx.draw d3 kb4
    have k4:=k3.trans kb4
    refine ⟨_,rfl,_,rfl,_,_,rfl,rfl,_,rfl,?_⟩
    by_cases c1 : kd + 1 + z≤(m : Int)
    · rw [decide_eq_true c1]
      refine iteT ⟨_,rfl,.inl ⟨rfl,_,SqL.of ex4⟩,_,rfl,_,rfl,_,rfl,a,c,mo,rfl,d4,by omega,by omega,fun u H5 u0 u1 d5 kb5=>⟨_,_,rfl,rfl,by show 2≤sizeLine; decide,fun t ht=>?_⟩⟩
      have ex5:=kb5 _ _ nfa ex4
      have hx5:=hx4.draw d4 kb5
      have s6:=same_new (H:=H5) ht (.tup [.int (kd + 1 + z),.int (1 + u)])
      refine ⟨fo,_,_,rfl,rfl,s6 _ _ ex5,small1000 (by have:=hx.1; omega),?_⟩
      have bt : ∀ b o,b≠fo→L2.upd H5 t (.tup [.int (kd + 1 + z),.int (1 + u)]) b=some o→L2.upd (L2.upd H5 t (.tup [.int (kd + 1 + z),.int (1 + u)])) fo (.lst (xs ++ [.ref t])) b=some o:=fun b o hb e=>by rw [upd_ne hb]; exact e
      refine ⟨_,_,_,qs ++ [[kd + 1 + z,1 + u]],rfl,(d5.same s6).upd nfa nfc,((k4.trans kb5).trans (KeepBut.of_same s6)).young hfo,upd_same,((hx5.same s6).cat (Tups.one (r:=[kd + 1 + z,1 + u]) upd_same)).but (s6 _ _ ex5) bt,partsOk_snoc hp (fun q hm=>by have:=(hq q hm).2; omega) (by omega) c1 (by omega) (by omega),fun q hm=>?_,by rw [List.length_append,List.length_singleton]; omega,by omega,by omega⟩
      rcases List.mem_append.mp hm with y | y
      · exact ⟨(hq q y).1,by have:=(hq q y).2; omega⟩
      · rw [List.mem_singleton.mp y]; exact ⟨rfl,Int.le_refl _⟩
    · rw [decide_eq_false c1]
      exact iteF ⟨_,_,xs,qs,rfl,d4,k4,ex4,hx4,hp,fun q hm=>⟨(hq q hm).1,by have:=(hq q hm).2; omega⟩,by omega,by omega,by omega⟩
  · rintro σ H3 ⟨kd,o5,xs,qs,rfl,d3,k3,ex,hx,hp,hq,ql,kd0,kd1⟩
    exact ⟨_,rfl,q fo qs H3 hfo hp (fun q hm=>(hq q hm).1) (by omega) d3 k3 (hx.rows ex)⟩
theorem ok_holding (F : Fun K "_law_holding" "_law_holding" s_holding f fd) : FnOk P w K mg base CX0 1 f fd p_holding spLHold:=by
  refine F.ok sc_holding (fun vs H Q E h=>?_) (fun cdv A outer s H vs Q E hr h=>?_)
  · obtain ⟨h,a,ps,R,qs,rfl,_⟩:=h; rfl
  obtain ⟨h,a,ps,R,qs,rfl,hL,ok,hR,h2,hp,q⟩:=h
  refine ⟨_,(pss_cons (ps_set (i:=2) sc_holding.nd rfl (Or.inr rfl) pe_dnewK)
    (pss_cons (ps_for PassesOwn.never rfl (pi_list (pv 1)) (pg_tup rfl (pgs_cons (pg_name (i:=3) sc_holding.nd rfl (Or.inl rfl)) (pgs_cons (pg_name (i:=4) sc_holding.nd rfl (Or.inl rfl)) pgs_nil))) (pss_one (ps_for PassesOwn.never rfl (pi_list (pe_ix ix_list (pv 0) (pe_op op_sub (pv 3) pe_int) (fun _ _=>rfl))) (pg_tup rfl (pgs_cons (pg_name (i:=5) sc_holding.nd rfl (Or.inl rfl)) (pgs_cons (pg_name (i:=6) sc_holding.nd rfl (Or.inl rfl)) pgs_nil))) (pss_one (ps_dput (hu_of hr) (pv 2) (pv 5) (pe_op op_add (pe_dget2 (hu_of hr) (pv 2) (pv 5) pe_int ⟨rfl,rfl,rfl,rfl⟩) (pe_op op_mul (pv 6) (pv 4))) rfl)))))
    (pss_one (ps_ret (pe_comp (N':=["_law_raw","_law_sums"]) (ix:=[none,some 2]) (g:=(gName 0)) (ti:=tIf0) (te:=(tTup (tCons (tVar 0) (tCons (tDGet (tVar 1) (tVar 0)) tNil)))) rfl (comp_scope (N:=n_holding) (D:=defScope s_holding) (by decide +kernel)) (pi_list (pe_callB (call_sortD rfl) rfl B.sorted PyProof.Rows.boot_sorted (pa_c (pv 2) pa_nil))) (fun C s H fp=>(pg_name (i:=0) (show (["_law_raw","_law_sums"] : List Str).Nodup by decide +kernel) rfl (Or.inl rfl))) (fun C s H fp=>pifs_nil) (fun C s H fp=>(pe_tup (pa_c (pv 0) (pa_c (pe_dget (hu_of hr) (pv 1) (pv 0) (fun _ _=>rfl)) pa_nil))))))))),?_⟩
  obtain ⟨xs,ex,hx⟩:=hR.tups
  have lx:=hx.1
  intro d hd
  have s1:=same_new (H:=H) hd (.dK [])
  refine ⟨_,rfl,a,rfl,⟨xs,SqL.of (s1 _ _ ex)⟩,?_⟩
  refine for_list (xs:=xs) (fun i σ H'=>∃ o3 o4 o5 o6,σ=[some (.ref h),some (.ref a),some (.ref d),o3,o4,o5,o6]∧Same H H'∧H' d=some (.dK (toK (sumsOf (occ (ctsOf R) (qs.take i)))))) ⟨_,_,_,_,rfl,s1,upd_same⟩ ?_ ?_ ?_
  · rintro i σ H3 hi ⟨_,_,_,_,rfl,sm,_⟩
    exact SqL.of (sm _ _ ex)
  · rintro i x σ H3 exi ⟨o3,o4,o5,o6,rfl,sm,ed⟩
    obtain ⟨pr,r,rfl,er,hpr⟩:=hx.at exi
    obtain ⟨k,v,rfl⟩:=len2 (h2 r (List.mem_of_getElem? er))
    obtain ⟨k0,k1,v0,v1⟩:=partsOk_at hp _ (List.mem_of_getElem? er)
    have k0 : 0 < k:=k0
    have k1 : k≤(R.length : Int):=k1
    have v0 : 1≤v:=v0
    have v1 : v≤100:=v1
    refine ⟨pr,_,rfl,SqT.of (sm _ _ hpr),rfl,_,_,rfl,_,_,rfl,rfl,?_⟩
    obtain ⟨ys,ey,ly,gy⟩:=hL.l.get
    have lr : (ctsOf R).length=R.length:=List.length_map ..
    have hl : (k - 1).toNat < ys.length:=by omega
    obtain ⟨b,hs,eb,eh,hRh⟩:=gy _ _ (List.getElem?_eq_getElem hl)
    have ea : atI ys (k - 1)=some (.ref b):=atI_some (by omega) (by rw [List.getElem?_eq_getElem hl,eb])
    obtain ⟨zs,ez,hz⟩:=hRh.tups
    have lz:=hz.1
    have hm : ∃ e∈R,e.2=hs:=by
      unfold ctsOf at eh
      rw [List.getElem?_map] at eh
      cases e1 : R[(k - 1).toNat]? with
      | none=>rw [e1] at eh; cases eh
      | some e=>rw [e1] at eh; cases eh; exact ⟨e,List.mem_of_getElem? e1,rfl⟩
    obtain ⟨e0,he0,rfl⟩:=hm
    have h12:=(ok.few e0 he0).2
    have ee : (ctsOf R).getD (k - 1).toNat []=e0.2:=by rw [List.getD_eq_getElem?_getD,eh]; rfl
    refine ⟨_,rfl,_,rfl,_,_,rfl,rfl,h,_,_,_,rfl,rfl,SqL.of (sm _ _ ey),ea,b,rfl,⟨_,SqL.of (sm _ _ ez)⟩,?_⟩
    have sub : ∀ j,∀ q∈occ (ctsOf R) (qs.take i) ++ ((e0.2.take j).map fun r=>(r.getD 0 0,v * r.getD 1 0)),q∈occ (ctsOf R) qs:=fun j q hq=>by
      rcases List.mem_append.mp hq with z | z
      · obtain ⟨q',h1,h2⟩:=List.mem_flatMap.mp z
        exact List.mem_flatMap.mpr ⟨q',List.mem_of_mem_take h1,h2⟩
      · obtain ⟨r,hr,rfl⟩:=List.mem_map.mp z
        refine List.mem_flatMap.mpr ⟨[k,v],List.mem_of_getElem? er,List.mem_map.mpr ⟨r,?_,rfl⟩⟩
        show r∈(ctsOf R).getD (k - 1).toNat []
        rw [ee]
        exact List.mem_of_mem_take hr
    refine for_list (xs:=zs) (fun j σ H'=>∃ o5 o6,σ=[some (.ref h),some (.ref a),some (.ref d),some (.int k),some (.int v),o5,o6]∧Same H H'∧H' d=some (.dK (toK (sumsOf (occ (ctsOf R) (qs.take i) ++ ((e0.2.take j).map fun r=>(r.getD 0 0,v * r.getD 1 0))))))) ⟨_,_,rfl,sm,by rw [ed,List.take_zero,List.map_nil,List.append_nil]⟩ ?_ ?_ ?_
    · rintro j σ H' _ ⟨_,_,rfl,sm',_⟩
      exact SqL.of (sm' _ _ ez)
    · rintro j x σ H4 exj ⟨o5,o6,rfl,sm4,ed4⟩
      obtain ⟨pz,r,rfl,er',hpz⟩:=hz.at exj
      obtain ⟨k',v',rfl,w1,w2⟩:=(ok.held e0 he0).2 r (List.mem_of_getElem? er')
      have few:=sums_few ok hp (sub j)
      refine ⟨pz,_,rfl,SqT.of (sm4 _ _ hpz),rfl,_,_,rfl,_,_,rfl,rfl,?_⟩
      refine ⟨_,rfl,d,rfl,.inl ⟨_,.inl ed4⟩,_,rfl,_,DGet.k (k:=Sum.inl k') ed4,?_⟩
      rw [toK_get]
      refine ⟨_,rfl,_,rfl,_,_,rfl,rfl,.inr ⟨by omega,by omega⟩,_,_,rfl,rfl,_,rfl,_,rfl,d,_,rfl,DPut.k (k:=Sum.inl k') ed4 (small1000 (by unfold toK; rw [List.length_map]; omega)),?_⟩
      refine ⟨_,_,rfl,sm4.young hd,?_⟩
      rw [upd_same,Int.mul_comm v' v,toK_put,getElem_next er',List.map_append,← List.append_assoc]
      unfold sumsOf
      rw [List.foldl_append (l':=List.map _ [[k',v']])]; rfl
    · rintro σ H4 ⟨o5,o6,rfl,sm4,ed4⟩
      refine ⟨_,_,_,_,rfl,sm4,?_⟩
      rw [ed4,getElem_next er,lz,List.take_length]
      unfold occ
      rw [List.flatMap_append]
      congr 5
      show _=_ ++ []
      rw [List.append_nil]
      show _=((ctsOf R).getD (k - 1).toNat []).map _
      rw [ee]; rfl
  · rintro σ H3 ⟨o3,o4,o5,o6,rfl,sm,ed⟩
    rw [lx,List.take_length] at ed
    have few:=sums_few ok hp (os:=occ (ctsOf R) qs) fun _ h=>h
    have nd:=sums_nodup (occ (ctsOf R) qs) [] List.nodup_nil
    generalize hS : sumsOf (occ (ctsOf R) qs)=its at *
    have nd : (its.map (·.1)).Nodup:=by rw [← hS]; exact nd
    refine ⟨_,rfl,d,_,its.map (·.1),rfl,ed,by unfold toK; rw [List.map_map,List.map_map]; rfl,by rw [List.length_map]; omega,fun l ms hl pm hs=>?_⟩
    have s2:=same_new (H:=H3) hl (.lst (ms.map V.int))
    have ed2:=s2 _ _ ed
    have E2:=upd_same (H:=H3) (a:=l) (o:=.lst (ms.map V.int))
    generalize L2.upd H3 l (.lst (ms.map V.int))=H4 at *
    have mn:=pm.length_eq
    rw [List.length_map] at mn
    have gk : ∀ {u : Int},u∈ms→∃ x,getK its u=some x∧(u,x)∈its:=fun {u} hu=>by
      obtain ⟨p,hp,e⟩:=List.mem_map.mp (pm.mem_iff.mp hu)
      cases e1 : its.find? (fun q=>decide (q.1=u)) with
      | none=>exact absurd (decide_eq_true e) (List.find?_eq_none.mp e1 p hp)
      | some q=>
        have h1:=List.find?_some e1
        have h2:=List.mem_of_find?_eq_some e1
        have h1 : q.1=u:=of_decide_eq_true h1
        exact ⟨q.2,by unfold getK; rw [e1]; rfl,by rw [← h1]; exact h2⟩
    refine ⟨l,rfl,⟨_,SqL.of E2⟩,fun D hD=>?_⟩
    refine comp_byD (fun i zs H'=>Tups H' zs ((ms.take i).map fun u=>[u,(getK its u).getD 0])) hD E2 (by rw [List.length_map]; omega) (fun i zs H H' h nl hk=>h.keep fun p z e=>hk _ _ (fun y=>by subst y; rcases nl with n | ⟨_,n⟩ <;> rw [n] at e <;> cases e) e) Tups.nil (fun i x zs H6 ei hz6 s6 hp K1 k1=>?_) fun zs H6 s6 hp lz hD6=>?_
    · obtain ⟨u,rfl,eu⟩:=ints_at ei
      obtain ⟨xv,gx,_⟩:=gk (List.mem_of_getElem? eu)
      refine ⟨keep_set keep_refl rfl,?_⟩
      refine ⟨_,rfl,_,rfl,_,rfl,d,.int xv,rfl,?_,by show 2≤sizeLine; decide,fun p hp'=>k1 _ _ (same_new hp' _) ?_⟩
      · have:=DGet.k (k:=Sum.inl u) (s6 _ _ ed2)
        rw [toK_val,gx] at this
        exact this
      · rw [getElem_next eu,List.map_append]
        have:=Tups.one (H:=L2.upd H6 p (.tup [.int u,.int xv])) (p:=p) (r:=[u,(getK its u).getD 0]) (by rw [gx]; exact upd_same)
        exact (hp.same (same_new hp' _)).cat this
    · rw [List.length_map,List.take_length] at hp
      refine q D _ H6 ((sm.trans s2).free hD) ⟨?_,?_⟩ ((sm.trans s2).trans s6) (hp.rows hD6)
      · have e1 : its.map (fun q=>[q.1,q.2])=(its.map (·.1)).map fun u=>[u,(getK its u).getD 0]:=by
          rw [List.map_map]
          refine List.map_congr_left fun q hq=>?_
          show [q.1,q.2]=[q.1,(getK its q.1).getD 0]
          rw [getK_mem nd hq]; rfl
        rw [e1]
        exact pm.map _
      · rw [List.pairwise_map]
        exact (hs.and (pm.nodup_iff.mpr nd)).imp fun {a b} ⟨z1,z2⟩=>by show a < b; omega
end
end K34
namespace L2
open PySem
theorem DrawAt.keep2 {H H' : Hp} {k : KS} {a c : Addr} (d : DrawAt H a c) (k2 : Keep2 k H H') (n1 : a≠k.rc) (n2 : a≠k.ct) (n3 : c≠k.rc) (n4 : c≠k.ct) : DrawAt H' a c:=by
  obtain ⟨ns,i,x,y,z,h1,h2,h3⟩:=d
  exact ⟨ns,i,x,y,z,k2 _ _ n1 n2 h1,k2 _ _ n3 n4 h2,h3⟩
theorem tIfS_by {t : TT} {A B : TS} {D : Ends} {σ : St} {H : Hp} (R : Bool→Hp→Prop) (h : ∀ Q : Bool→Hp→Prop,(∀ b H',R b H'→Q b H')→t σ H Q) (h1 : ∀ H',R true H'→A D σ H') (h2 : ∀ H',R false H'→B D σ H') : tIfS t A B D σ H:=
  h _ fun b H' r=>by
    cases b with
    | true=>exact iteT (h1 H' r)
    | false=>exact iteF (h2 H' r)
end L2
namespace L2
open PySem PySem.Spec PySem.W PyProof.Rows
section
variable {X : Cx}
def rRng2 : List V→Hp→VK→Prop:=fun xs H Q=>∃ lo hi : Int,xs=[.int lo,.int hi]∧∀ l,H l=none→Q (.ref l) (upd H l (.rng lo hi))
theorem call_rng2 : CallR X (.type "range") rRng2:=by
  intro pins s σ H xs us Q I r h
  obtain ⟨lo,hi,rfl,q⟩:=h
  obtain ⟨u,v,rfl,ru,rv⟩:=r.two
  obtain ⟨t,rfl⟩:=ru
  obtain ⟨t',rfl⟩:=rv
  refine call_range_2 ?_
  exact ⟨.ref _,_,I.laid (t':=s.toks + 1) (a:=s.heap.objs.size) (o:=.rng lo hi) (fun b o e=>Heap.get?_push_of_some _ e) (Nat.le_refl _) ⟨_,_,_,Heap.get?_push_size _ rfl⟩,rfl,q _ (I.hok.fresh (Nat.le_refl _))⟩
def fromN (lo : Int) (n : Nat) : List Int:=(List.range n).map fun i=>lo + ((i : Nat) : Int)
def rListRng2 : List V→Hp→VK→Prop:=fun xs H Q=>∃ (p : Addr) (lo : Int) (n : Nat),xs=[.ref p]∧H p=some (.rng lo (lo + n))∧n≤1000∧-1000≤lo∧lo≤1000∧∀ l,H l=none→Q (.ref l) (upd H l (.lst ((fromN lo n).map V.int)))
theorem call_list_rng2 (hc : X.calm=true) : CallR X (.type "list") rListRng2:=by
  intro pins s σ H xs us Q I r h
  obtain ⟨p,lo,n,rfl,hp,hn,l1,l2,q⟩:=h
  obtain ⟨u,rfl,ru⟩:=r.one
  cases ru
  obtain ⟨t1,t2,t3,ho⟩:=(show ObjOk X.prog X.w H s.heap p (.rng lo (lo + n)) from I.hok p _ hp)
  refine call_list_range (a:=lo) (b:=lo + (n : Int)) (c:=1) (n:=n) (I.ok.hd hc) ho (small_one (by omega) (by omega) (by omega) (by omega)) ?_ (by omega) fun h' tk acc' c' kk e it=>?_
  · rw [rangeSize_one]
    split <;> omega
  · have al : acc'.toList.length=(fromN lo n).length:=by rw [Array.length_toList,it.1]; simp [fromN]
    have ia : IntsAre acc'.toList (fromN lo n):=ints_of' al fun i m hm=>by
      have hi : i < n:=by have:=(List.getElem?_eq_some_iff.mp hm).1; simpa [fromN] using this
      have hi' : i < acc'.size:=by rw [it.1]; exact hi
      obtain ⟨t,et⟩:=it.2 i acc'[i] (Array.getElem?_eq_getElem hi')
      have : m=lo + (i : Int) * 1:=by
        unfold fromN at hm
        rw [List.getElem?_map,List.getElem?_range hi] at hm
        injection hm with hm
        have hm : lo + (i : Int)=m:=hm
        omega
      exact ⟨t,by rw [Array.getElem?_toList,Array.getElem?_eq_getElem hi',et,this]⟩
    refine ⟨.ref _,_,I.laid (t':=tk) (a:=s.heap.objs.size) (o:=.lst ((fromN lo n).map V.int)) kk (Nat.le_refl _) ⟨?_,acc'.toList,c',ints_to ia,by simpa using e⟩,rfl,q _ (I.hok.fresh (Nat.le_refl _))⟩
    rw [List.length_map,sizeLine_eq]; simp [fromN]; omega
end
end L2
namespace L2
open PySem
def LookAt (N : List Addr) (H : Hp) (l : Addr) (R : Kds) : Prop:=l ∉ N∧∃ ts : List Addr,H l=some (.lst (ts.map V.ref))∧ts.length=R.length∧∀ (i : Nat) t q,ts[i]? = some t→R[i]? = some q→∃ pa ha,H t=some (.tup [.bl q.1.isEmpty,.ref pa,.ref ha])∧pa ∉ N∧ha ∉ N∧Rows H pa q.1∧Rows H ha q.2
theorem LookAt.same {N : List Addr} {H H' : Hp} {l : Addr} {R : Kds} (h : LookAt N H l R) (s : Same H H') : LookAt N H' l R:=by
  obtain ⟨n,ts,h1,h2,h3⟩:=h
  refine ⟨n,ts,s _ _ h1,h2,fun i t q e1 e2=>?_⟩
  obtain ⟨pa,ha,g1,g2,g3,g4,g5⟩:=h3 i t q e1 e2
  exact ⟨pa,ha,s _ _ g1,g2,g3,g4.same s,g5.same s⟩
theorem Rows.keepN {N : List Addr} {H H' : Hp} {b : Addr} {rs : List (List Int)} (h : Rows H b rs) (hN : ∀ z∈N,∃ zs,H z=some (.lst zs)) (k : ∀ b o,b ∉ N→H b=some o→H' b=some o) (n : b ∉ N) : Rows H' b rs:=by
  obtain ⟨ps,h1,h2,h3⟩:=h
  exact ⟨ps,k _ _ n h1,h2,fun i p r e1 e2=>k _ _ (fun m=>by obtain ⟨zs,e⟩:=hN _ m; rw [h3 i p r e1 e2] at e; cases e) (h3 i p r e1 e2)⟩
theorem LookAt.keepN {N M : List Addr} {H H' : Hp} {l : Addr} {R : Kds} (h : LookAt N H l R) (hM : ∀ z∈M,z∈N) (hN : ∀ z∈M,∃ zs,H z=some (.lst zs)) (k : ∀ b o,b ∉ M→H b=some o→H' b=some o) : LookAt N H' l R:=by
  obtain ⟨n,ts,h1,h2,h3⟩:=h
  refine ⟨n,ts,k _ _ (fun m=>n (hM _ m)) h1,h2,fun i t q e1 e2=>?_⟩
  obtain ⟨pa,ha,g1,g2,g3,g4,g5⟩:=h3 i t q e1 e2
  exact ⟨pa,ha,k _ _ (fun m=>by obtain ⟨zs,e⟩:=hN _ m; rw [g1] at e; cases e) g1,g2,g3,g4.keepN hN k (fun m=>g2 (hM _ m)),g5.keepN hN k fun m=>g3 (hM _ m)⟩
theorem LookAt.butD {D : Addr} {H H' : Hp} {l : Addr} {R : Kds} (h : LookAt [D] H l R) (nl : H D=none∨∃ zs,H D=some (.lst zs)) (hk : ∀ b o,b≠D→H b=some o→H' b=some o) : LookAt [D] H' l R:=by
  obtain ⟨n,ts,h1,h2,h3⟩:=h
  have nd : ∀ {z : Addr},z ∉ [D]→z≠D:=fun hz e=>hz (e ▸ .head _)
  refine ⟨n,ts,hk _ _ (nd n) h1,h2,fun i t q e1 e2=>?_⟩
  obtain ⟨pa,ha,g1,g2,g3,g4,g5⟩:=h3 i t q e1 e2
  exact ⟨pa,ha,hk _ _ (fun y=>by subst y; rcases nl with n | ⟨_,n⟩ <;> rw [n] at g1 <;> cases g1) g1,g2,g3,g4.but hk nl (nd g2),g5.but hk nl (nd g3)⟩
theorem LookAt.wide {N : List Addr} {H : Hp} {l x : Addr} {R : Kds} (h : LookAt N H l R) (hx : H x=none) : LookAt (x :: N) H l R:=by
  obtain ⟨n,ts,h1,h2,h3⟩:=h
  have no : ∀ {z : Addr},z ∉ N→(∃ o,H z=some o)→z ∉ x :: N:=fun hz ⟨o,e⟩ m=>by
    rcases List.mem_cons.mp m with y | y
    · rw [y,hx] at e; cases e
    · exact hz y
  refine ⟨no n ⟨_,h1⟩,ts,h1,h2,fun i t q e1 e2=>?_⟩
  obtain ⟨pa,ha,g1,g2,g3,g4,g5⟩:=h3 i t q e1 e2
  exact ⟨pa,ha,g1,no g2 g4.there,no g3 g5.there,g4,g5⟩
theorem LookAt.eqD {N M : List Addr} {H : Hp} {l l' : Addr} {R : Kds} (h : LookAt N H l R) (h' : LookAt M H l' R) (ok : KdsOk R) : EqD H 4 (.ref l) (.ref l'):=by
  obtain ⟨_,ts,h1,h2,h3⟩:=h
  obtain ⟨_,ts',h1',h2',h3'⟩:=h'
  have l12:=ok.len
  refine EqD.lst (n:=3) h1 h1' (by rw [List.length_map,List.length_map,h2,h2']) (by rw [List.length_map]; omega) fun i x y e1 e2=>?_
  rw [List.getElem?_map] at e1 e2
  cases f1 : ts[i]? with
  | none=>rw [f1] at e1; cases e1
  | some t=>
    cases f2 : ts'[i]? with
    | none=>rw [f2] at e2; cases e2
    | some t'=>
      rw [f1] at e1; rw [f2] at e2
      cases e1; cases e2
      have hi : i < R.length:=by rw [← h2]; exact (List.getElem?_eq_some_iff.mp f1).1
      have f3:=List.getElem?_eq_getElem hi
      obtain ⟨pa,ha,g1,_,_,g4,g5⟩:=h3 i t _ f1 f3
      obtain ⟨pa',ha',g1',_,_,g4',g5'⟩:=h3' i t' _ f2 f3
      have m:=List.getElem_mem hi
      refine EqD.tup (n:=2) g1 g1' rfl (by show 3≤1000; decide) fun j u v e1 e2=>?_
      match j,e1,e2 with
      | 0,e1,e2=>cases e1; cases e2; exact .flat rfl
      | 1,e1,e2=>cases e1; cases e2; exact EqD.rows g4 g4' (by have:=(ok.few _ m).1; omega) fun r hr=>by rw [ok.parts _ m r hr]; decide
      | 2,e1,e2=>cases e1; cases e2; exact EqD.rows g5 g5' (by have:=(ok.few _ m).2; omega) fun r hr=>by obtain ⟨_,_,rfl,_⟩:=(ok.held _ m).2 r hr; show 2≤1000; decide
      | j + 3,e1,e2=>cases e1
def spLook (C : Addr) : Sp:=fun vs H Q _=>∃ k : KS,vs=[.ref k.p]∧KAt C H k∧KdsOk k.R∧∀ l H',H l=none→Same H H'→(∀ N,(∀ z∈N,∃ o,H z=some o)→LookAt N H' l k.R)→Q (.ref l) H'
end L2
namespace L2
open PySem PyProof.Rows
section
variable {X : Cx} {tg : Expr}
end
end L2
namespace L2
open PySem
end L2
namespace L2
open PySem
theorem comp_rngD {D : Addr} {lo : Int} {n : Nat} {g : TG} {te : TE} {σ₀ : St} {H1 : Hp} {R : Hp→Prop} (P : Nat→List V→Hp→Prop) (hD : H1 D=none) (hn : n≤1000)
    (st : ∀ i zs H H',P i zs H→(H D=none∨∃ l,H D=some (.lst l))→(∀ b o,b≠D→H b=some o→H' b=some o)→P i zs H') (h0 : P 0 [] H1)
    (step : ∀ i zs H,i < n→H D=some (.lst zs)→Same H1 H→P i zs H→∀ K1 : V→Hp→Prop,(∀ y H4,Same H H4→P (i + 1) (zs ++ [y]) H4→K1 y H4)→
      g (.int (lo + i)) σ₀ H fun σ2 H2=>(∀ (k : Nat) v,σ₀[k]? = some (some v)→σ2[k]? = some (some v))∧te σ2 H2 K1)
    (fin : ∀ zs H,Same H1 H→P n zs H→zs.length=n→H D=some (.lst zs)→R H) :
    ∃ W : Nat→Nat→Hp→Prop,(∃ m,W 0 m (upd H1 D (.lst [])))∧∀ i m H,W i m H→((Itr lo n).stop i H∧R H)∨((Itr lo n).go i H∧∀ x H',(Itr lo n).yld i H x H'→g x σ₀ H' fun σ2 H2=>(∀ (k : Nat) v,σ₀[k]? = some (some v)→σ2[k]? = some (some v))∧tIf0 σ2 H2 fun b H3=>
      if b=true then te σ2 H3 fun y H4=>∃ zs,H4 D=some (.lst zs)∧zs.length < sizeLine∧∃ m',m' < m∧W (i + 1) m' (upd H4 D (.lst (zs ++ [y]))) else ∃ m',m' < m∧W (i + 1) m' H3):=by
  refine ⟨fun i m H=>i + m=n∧Same H1 H∧∃ zs,H D=some (.lst zs)∧zs.length=i∧P i zs H,⟨n,by omega,same_new hD _,[],upd_same,rfl,st _ _ _ _ h0 (.inl hD) fun b o hb e=>by rw [upd_ne hb]; exact e⟩,?_⟩
  rintro i m H ⟨him,s1,zs,hz,hl,hp⟩
  by_cases hi : i < n
  · refine .inr ⟨hi,?_⟩
    rintro x H' ⟨rfl,rfl⟩
    refine step i zs _ hi hz s1 hp _ fun y H4 s4 p4=>⟨zs,s4 _ _ hz,small1000 (by omega),m - 1,by omega,by omega,(s1.trans s4).young hD,zs ++ [y],upd_same,by rw [List.length_append,List.length_singleton]; omega,st _ _ _ _ p4 (.inr ⟨_,s4 _ _ hz⟩) fun b o hb e=>by rw [upd_ne hb]; exact e⟩
  · have e : i=n:=by omega
    subst e
    exact .inl ⟨by show i≤i; exact Nat.le_refl _,fin zs H s1 hp hl hz⟩
end L2
namespace K34
open PySem L2
abbrev s_look : Stmt:=top 18
abbrev n_look : List Str:=["_law_goods","_law_kinds"]
abbrev p_look : List Str:=["_law_goods"]
theorem sc_look : FnScope n_look p_look (defScope s_look):=⟨rfl,rfl,rfl,by decide +kernel,rfl,by decide +kernel,by decide +kernel⟩
abbrev s_more : Stmt:=top 19
abbrev n_more : List Str:=["_law_draw","_law_goods","_law_look_here","_law_held","_law_parts_here","_law_some"]
abbrev p_more : List Str:=["_law_draw","_law_goods","_law_look_here"]
theorem sc_more : FnScope n_more p_more (defScope s_more):=⟨rfl,rfl,rfl,by decide +kernel,rfl,by decide +kernel,by decide +kernel⟩
def spMore (C : Addr) : Sp:=fun vs H Q _=>∃ (a c lk : Addr) (k : KS) (N : List Addr),vs=[.ref a,.ref k.p,.ref lk]∧DrawAt H a c∧KAt C H k∧KdsOk k.R∧k.R.length < 12∧LookAt N H lk k.R∧(∀ z∈N,∃ zs,H z=some (.lst zs))∧a∈N∧k.rc∈N∧k.ct∈N∧a≠k.rc∧a≠k.ct∧c≠k.rc∧c≠k.ct∧
  ∀ k' lk' H',(k' = k∨∃ d h q,k' = k.more d h q∧d ∉ N∧h ∉ N)→KAt C H' k'→KdsOk k'.R→LookAt N H' lk' k'.R→DrawAt H' a c→(∀ b o,b ∉ [a,k.rc,k.ct]→H b=some o→H' b=some o)→Q (.ref lk') H'
section
variable {P : Program} {w : World} {K : PySem.W.Frag} {mg : Str→Option Value} {base : Heap} {f : Addr} {fd : FuncData} {cl : Nat→Addr} (T : Txt K mg cl) (B : Bn mg)
include T B
theorem ok_look (G_Kinds_many : CalM P w K mg base CX0 1 (cK cl) "many" p_Kinds_many (spKMany (cK cl))) (G_Kinds_is_raw : CalM P w K mg base (CXE P w) 3 (cK cl) "is_raw" p_Kinds_is_raw (spKRawQ (cK cl) (cl 12))) (G_Kinds_parts : CalM P w K mg base (CXE P w) 3 (cK cl) "parts" p_Kinds_parts (spKParts (cK cl) (cl 12))) (G_Kinds_holds : CalM P w K mg base (CXE P w) 3 (cK cl) "holds" p_Kinds_holds (spKHolds (cK cl) (cl 12)))
    (F : Fun K "_law_look" "_law_look" s_look f fd) : FnOk P w K mg base CX0 4 f fd p_look (spLook (cK cl)):=by
  refine F.ok sc_look (fun vs H Q E h=>?_) (fun cdv A outer s H vs Q E hr h=>?_)
  · obtain ⟨k,rfl,_⟩:=h; rfl
  obtain ⟨k,rfl,S,ok,q⟩:=h
  refine ⟨_,(pss_cons (ps_set (i:=1) sc_look.nd rfl (Or.inl rfl) (pe_callTy (call_list_rng2 rfl) rfl B.list PyProof.Rows.boot_list (pa_c (pe_callTy call_rng2 rfl B.range PyProof.Rows.boot_range (pa_c pe_int (pa_c (pe_op op_add (pe_calM0 G_Kinds_many T.cKinds hr pass0 (pv 0)) pe_int) pa_nil))) pa_nil)))
    (pss_one (ps_ret (pe_comp (N':=["_law_kind","_law_goods"]) (ix:=[none,some 0]) (g:=(gName 0)) (ti:=tIf0) (te:=(tTup (tCons (tMeth (cK cl) "is_raw" (spKRawQ (cK cl) (cl 12)) [] E0 (tVar 1) (tCons (tVar 0) tNil)) (tCons (tMeth (cK cl) "parts" (spKParts (cK cl) (cl 12)) [] E0 (tVar 1) (tCons (tVar 0) tNil)) (tCons (tMeth (cK cl) "holds" (spKHolds (cK cl) (cl 12)) [] E0 (tVar 1) (tCons (tVar 0) tNil)) tNil))))) rfl (comp_scope (N:=n_look) (D:=defScope s_look) (by decide +kernel)) (pi_list (pv 1)) (fun C s H fp=>(pg_name (i:=0) (show (["_law_kind","_law_goods"] : List Str).Nodup by decide +kernel) rfl (Or.inl rfl))) (fun C s H fp=>pifs_nil) (fun C s H fp=>(pe_tup (pa_c (pe_calM G_Kinds_is_raw T.cKinds hr passN (pv 1) (pa_c (pv 0) pa_nil)) (pa_c (pe_calM G_Kinds_parts T.cKinds hr passN (pv 1) (pa_c (pv 0) pa_nil)) (pa_c (pe_calM G_Kinds_holds T.cKinds hr passN (pv 1) (pa_c (pv 0) pa_nil)) pa_nil))))))))),?_⟩
  obtain ⟨dx,ob⟩:=S.ob
  have l12:=ok.len
  refine ⟨_,rfl,k.p,dx,_,rfl,ob,rfl,k,rfl,S,_,_,rfl,rfl,_,_,rfl,fun rg hrg=>?_⟩
  have s1:=same_new (H:=H) hrg (.rng 1 ((k.R.length : Int) + 1))
  refine ⟨rg,1,k.R.length,rfl,by rw [upd_same,Int.add_comm],by omega,by decide,by decide,fun lk hlk=>?_⟩
  have s2:=s1.trans (same_new hlk (.lst ((fromN 1 k.R.length).map V.int)))
  have e2:=upd_same (H:=L2.upd H rg (.rng 1 ((k.R.length : Int) + 1))) (a:=lk) (o:=.lst ((fromN 1 k.R.length).map V.int))
  generalize L2.upd (L2.upd H rg (.rng 1 ((k.R.length : Int) + 1))) lk (.lst ((fromN 1 k.R.length).map V.int))=H2 at *
  have fl : (fromN 1 k.R.length).length=k.R.length:=by simp [fromN]
  refine ⟨_,rfl,lk,rfl,⟨_,SqL.of e2⟩,fun D hD=>?_⟩
  refine comp_byD (fun i zs H'=>∃ ts : List Addr,zs=ts.map V.ref∧ts.length=i∧∀ (j : Nat) t q,ts[j]? = some t→k.R[j]? = some q→∃ pa ha,H' t=some (.tup [.bl q.1.isEmpty,.ref pa,.ref ha])∧pa≠D∧ha≠D∧(H pa=none∧H ha=none)∧Rows H' pa q.1∧Rows H' ha q.2) hD e2 (by rw [List.length_map]; omega) (fun i zs H5 H' ⟨ts,h1,h2,h3⟩ nl hk=>⟨ts,h1,h2,fun j t q e1 e2=>?_⟩) ⟨[],rfl,rfl,fun j t q e=>(by cases e)⟩ (fun i x zs H6 ei hz6 s6 ⟨ts,h1,h2,h3⟩ K1 k1=>?_) fun zs H6 s6 ⟨ts,h1,h2,h3⟩ lz hD6=>?_
  · obtain ⟨pa,ha,g1,g2,g3,gn,g4,g5⟩:=h3 j t q e1 e2
    exact ⟨pa,ha,hk _ _ (fun y=>by subst y; rcases nl with n | ⟨_,n⟩ <;> rw [n] at g1 <;> cases g1) g1,g2,g3,gn,g4.but hk nl g2,g5.but hk nl g3⟩
  · obtain ⟨v,rfl,ev⟩:=ints_at ei
    have hi : i < k.R.length:=by rw [← fl]; exact (List.getElem?_eq_some_iff.mp ev).1
    have hv : v=(i : Int) + 1:=by
      unfold fromN at ev
      rw [List.getElem?_map,List.getElem?_range hi] at ev
      injection ev with ev
      have ev : 1 + (i : Int)=v:=ev
      omega
    subst hv
    have hik : inKd k.R ((i : Int) + 1):=⟨by omega,by omega⟩
    have e0 : ((i : Int) + 1 - 1).toNat=i:=by omega
    have f3:=List.getElem?_eq_getElem hi
    have ka : kAtI k.R ((i : Int) + 1)=k.R[i]:=by unfold kAtI; rw [e0,List.getD_eq_getElem?_getD,f3]; rfl
    have S6:=s2.trans s6
    refine ⟨keep_set keep_refl rfl,?_⟩
    refine ⟨_,rfl,k.p,dx,_,rfl,S6 _ _ ob,rfl,_,rfl,k,_,rfl,S.same S6,fun _=>?_,fun z=>absurd hik z⟩
    refine ⟨_,rfl,k.p,dx,_,rfl,S6 _ _ ob,rfl,_,rfl,k,_,rfl,S.same S6,fun _ pa H7 hpa s7 R7=>?_,fun z=>absurd hik z⟩
    refine ⟨_,rfl,k.p,dx,_,rfl,(S6.trans s7) _ _ ob,rfl,_,rfl,k,_,rfl,S.same (S6.trans s7),fun _ ha H8 hha s8 R8=>?_,fun z=>absurd hik z⟩
    refine ⟨by show 3≤sizeLine; decide,fun t ht=>?_⟩
    have s9:=same_new (H:=H8) ht (.tup [.bl (kAtI k.R ((i : Int) + 1)).1.isEmpty,.ref pa,.ref ha])
    have s69:=s7.trans (s8.trans s9)
    rw [ka] at R7 R8 s9 s69 ⊢
    refine k1 _ _ s69 ⟨ts ++ [t],by rw [h1,List.map_append]; rfl,by rw [List.length_append,h2]; rfl,fun j t' q e1 e2=>?_⟩
    by_cases hj : j < ts.length
    · rw [List.getElem?_append_left hj] at e1
      obtain ⟨pa,ha,g1,g2,g3,gn,g4,g5⟩:=h3 j t' q e1 e2
      exact ⟨pa,ha,s69 _ _ g1,g2,g3,gn,g4.same s69,g5.same s69⟩
    · have : j=ts.length:=by
        have:=(List.getElem?_eq_some_iff.mp e1).1
        rw [List.length_append,List.length_singleton] at this
        omega
      subst this
      rw [List.getElem?_append_right (Nat.le_refl _),Nat.sub_self] at e1
      cases e1
      rw [h2,f3] at e2
      cases e2
      exact ⟨pa,ha,upd_same,(fun y=>by rw [y,hz6] at hpa; cases hpa),(fun y=>by rw [y,s7 _ _ hz6] at hha; cases hha),⟨S6.free hpa,(S6.trans s7).free hha⟩,R7.same (s8.trans s9),R8.same s9⟩
  · subst h1
    refine q D H6 (s2.free hD) (s2.trans s6) fun N hN=>?_
    have nn : ∀ {z : Addr},H z=none→z ∉ N:=fun hz m=>by obtain ⟨o,e⟩:=hN _ m; rw [hz] at e; cases e
    refine ⟨nn (s2.free hD),ts,hD6,by rw [h2,List.length_map,fl],fun j t q e1 e2=>?_⟩
    obtain ⟨pa,ha,g1,_,_,gn,g4,g5⟩:=h3 j t q e1 e2
    exact ⟨pa,ha,g1,nn gn.1,nn gn.2,g4,g5⟩
theorem ok_more (G_pick : Cal P w K mg base CX0 1 "_law_pick" p_pick spPick) (G_parts : Cal P w K mg base CX0 2 "_law_parts" p_parts spLParts) (G_holding : Cal P w K mg base CX0 1 "_law_holding" p_holding spLHold) (G_Kinds_raw : CalM P w K mg base (CXE P w) 3 (cK cl) "raw" p_Kinds_raw (spKRaw (cK cl) (cl 22))) (G_Kinds_made : CalM P w K mg base (CXE P w) 3 (cK cl) "made" p_Kinds_made (spKMade cl (cK cl)))
    (F : Fun K "_law_more" "_law_more" s_more f fd) : FnOk P w K mg base CX0 4 f fd p_more (spMore (cK cl)):=by
  refine F.ok sc_more (fun vs H Q E h=>?_) (fun cdv A outer s H vs Q E hr h=>?_)
  · obtain ⟨a,c,lk,k,N,rfl,_⟩:=h; rfl
  obtain ⟨a,c,lk,k,N,rfl,d0,S0,ok,l11,L0,hN,ma,mr,mc,n1,n2,n3,n4,q⟩:=h
  refine ⟨_,(pss_cons (ps_setComp (i:=3) sc_more.nd rfl (Or.inl rfl) (N':=["_law_row"]) (ix:=[none]) (g:=(gName 0)) (ti:=tIf0) (te:=(tOp (rIxT K) (tVar 0) (tC (.int 2)))) rfl (comp_scope (N:=n_more) (D:=defScope s_more) (by decide +kernel)) (pi_list (pv 2)) (fun C s H fp=>(pg_name (i:=0) (show (["_law_row"] : List Str).Nodup by decide +kernel) rfl (Or.inl rfl))) (fun C s H fp=>pifs_nil) (fun C s H fp=>(pe_ix ix_tup (pv 0) pe_int (fun _ _=>rfl))))
    (pss_cons (ps_set (i:=4) sc_more.nd rfl (Or.inl rfl) (pe_cal G_parts hr rfl pass0 (pa_c (pv 0) (pa_c (pe_callB call_len_seq rfl B.len PySem.boot_len (pa_c (pv 2) pa_nil)) (pa_c pe_int pa_nil)))))
    (pss_cons (ps_if (PW.pt (pw_or (pt_cmpR (op_eqL hr.units) (pv 4) (pe_lst pa_nil) (nomark _)) (pw_or1 (pt_cmpR op_eq (pe_cal G_pick hr rfl pass0 (pa_c (pv 0) (pa_c pe_int pa_nil))) pe_int (nomark _))))) (pss_cons (ps_expr (pe_calM0 G_Kinds_raw T.cKinds hr passN (pv 1)))
      (pss_one (ps_ret (pe_op op_cat (pv 2) (pe_lst (pa_c (pe_tup (pa_c pe_bl (pa_c (pe_lst pa_nil) (pa_c (pe_lst (pa_c (pe_tup (pa_c (pe_op op_add (pe_callB call_len_seq rfl B.len PySem.boot_len (pa_c (pv 2) pa_nil)) pe_int) (pa_c pe_int pa_nil))) pa_nil)) pa_nil)))) pa_nil)))))) pss_nil)
    (pss_cons (ps_set (i:=5) sc_more.nd rfl (Or.inl rfl) (pe_cal G_holding hr rfl pass0 (pa_c (pv 3) (pa_c (pv 4) pa_nil))))
    (pss_cons (ps_if (pt_cmpR op_gt (pe_callB (call_maxI rfl) rfl B.max PyProof.Rows.boot_max (pa_c (pe_comp (N':=["_law_raw","_law_many"]) (ix:=[none,none]) (g:=(gTup K 2 (gCons (gName 0) (gCons (gName 1) gNil)))) (ti:=tIf0) (te:=(tVar 1)) rfl (comp_scope (N:=n_more) (D:=defScope s_more) (by decide +kernel)) (pi_list (pv 5)) (fun C s H fp=>(pg_tup rfl (pgs_cons (pg_name (i:=0) (show (["_law_raw","_law_many"] : List Str).Nodup by decide +kernel) rfl (Or.inl rfl)) (pgs_cons (pg_name (i:=1) (show (["_law_raw","_law_many"] : List Str).Nodup by decide +kernel) rfl (Or.inl rfl)) pgs_nil)))) (fun C s H fp=>pifs_nil) (fun C s H fp=>(pv 1))) pa_nil)) pe_int (nomark _)) (pss_one (ps_ret (pv 2))) pss_nil)
    (pss_cons (ps_expr (pe_calM G_Kinds_made T.cKinds hr passN (pv 1) (pa_c (pv 4) pa_nil)))
    (pss_one (ps_ret (pe_op op_cat (pv 2) (pe_lst (pa_c (pe_tup (pa_c pe_bl (pa_c (pv 4) (pa_c (pv 5) pa_nil)))) pa_nil))))))))))),?_⟩
  obtain ⟨nlk,ts,elk,tl,ht⟩:=id L0
  have frN : ∀ {H' : Hp} {z : Addr},(∀ b o,b ∉ [a,k.rc,k.ct]→H b=some o→H' b=some o)→(∃ o,H' a=some o)→(∃ o,H' k.rc=some o)→(∃ o,H' k.ct=some o)→H' z=none→z ∉ N:=fun {H' z} kp ea er ec hz m=>by
    by_cases hm : z∈[a,k.rc,k.ct]
    · simp only [List.mem_cons,List.not_mem_nil,or_false] at hm
      rcases hm with rfl | rfl | rfl
      · obtain ⟨o,e⟩:=ea; rw [hz] at e; cases e
      · obtain ⟨o,e⟩:=er; rw [hz] at e; cases e
      · obtain ⟨o,e⟩:=ec; rw [hz] at e; cases e
    · obtain ⟨zs,e⟩:=hN _ m
      rw [kp _ _ hm e] at hz; cases hz
  refine ⟨_,rfl,lk,rfl,⟨_,SqL.of elk⟩,fun D hD=>?_⟩
  refine comp_byD (fun i zs H'=>∃ hs : List Addr,zs=hs.map V.ref∧D ∉ hs∧hs.length=i∧∀ (j : Nat) h q,hs[j]? = some h→k.R[j]? = some q→Rows H' h q.2) hD elk (by rw [List.length_map]; omega) (fun i zs H H' ⟨hs,h1,h2,h3,h4⟩ nl hk=>⟨hs,h1,h2,h3,fun j h q e1 e2=>(h4 j h q e1 e2).but hk nl fun z=>h2 (z ▸ List.mem_of_getElem? e1)⟩) ⟨[],rfl,List.not_mem_nil,rfl,fun j h q e=>(by cases e)⟩ (fun i x zs H6 ei hz6 s6 ⟨hs,h1,h2,h3,h4⟩ K1 k1=>?_) fun zs H1 s1 ⟨hs,h1,h2,h3,h4⟩ lz hD1=>?_
  · rw [List.getElem?_map] at ei
    cases ft : ts[i]? with
    | none=>rw [ft] at ei; cases ei
    | some t=>
    rw [ft] at ei
    cases ei
    have hi : i < k.R.length:=by rw [← tl]; exact (List.getElem?_eq_some_iff.mp ft).1
    have f3:=List.getElem?_eq_getElem hi
    obtain ⟨pa,ha,g1,g2,g3,g4,g5⟩:=ht i t _ ft f3
    refine ⟨keep_set keep_refl rfl,?_⟩
    refine ⟨_,rfl,t,_,_,.ref ha,rfl,rfl,SqT.of (s6 _ _ g1),rfl,k1 _ _ (Same.refl _) ⟨hs ++ [ha],by rw [h1,List.map_append]; rfl,fun m=>(List.mem_append.mp m).elim h2 fun y=>?_,by rw [List.length_append,h3]; rfl,fun j h q e1 e2=>?_⟩⟩
    · obtain ⟨o,e⟩:=g5.there
      rw [← List.mem_singleton.mp y,hD] at e; cases e
    · by_cases hj : j < hs.length
      · rw [List.getElem?_append_left hj] at e1
        exact h4 j h q e1 e2
      · have : j=hs.length:=by
          have:=(List.getElem?_eq_some_iff.mp e1).1
          rw [List.length_append,List.length_singleton] at this
          omega
        subst this
        rw [List.getElem?_append_right (Nat.le_refl _),Nat.sub_self] at e1
        cases e1
        rw [h3,f3] at e2
        cases e2
        exact g5.same s6
  subst h1
  have HD1 : RowsA H1 D hs (ctsOf k.R):=⟨hD1,by rw [h3,List.length_map,tl]; exact (List.length_map ..).symm,fun j h rs e1 e2=>by
    unfold ctsOf at e2
    rw [List.getElem?_map] at e2
    cases e3 : k.R[j]? with
    | none=>rw [e3] at e2; cases e2
    | some q=>rw [e3] at e2; cases e2; exact h4 j h q e1 e3⟩
  have d1:=d0.same s1
  have S1:=S0.same s1
  have L1:=L0.same s1
  refine ⟨_,rfl,_,rfl,lk,_,rfl,.inl (SqL.of (s1 _ _ elk)),a,c,k.R.length,9,by rw [List.length_map,tl]; rfl,d1,by omega,by decide,by decide,fun pa qq H2 hpa hok h2' q3 d2 kb2 R2=>?_⟩
  have S2:=S1.draw d1 kb2
  have HD2:=HD1.draw d1 kb2
  have kp2 : ∀ b o,b≠a→H b=some o→H2 b=some o:=fun b o hb e=>kb2 b o hb (s1 b o e)
  have k3 : ∀ b o,b ∉ [a,k.rc,k.ct]→H b=some o→H2 b=some o:=fun b o hb e=>kp2 b o (fun z=>hb (z ▸ .head _)) e
  have la : ∀ z∈[a],∃ zs,H z=some (.lst zs):=fun z hz=>by rw [List.mem_singleton.mp hz]; exact d0.lst
  have L2' : LookAt N H2 lk k.R:=L0.keepN (M:=[a]) (fun z hz=>by rw [List.mem_singleton.mp hz]; exact ma) la fun b o hb e=>kp2 b o (fun z=>hb (z ▸ .head _)) e
  have npa : pa ∉ N:=frN (fun b o _ e=>s1 b o e) (by obtain ⟨zs,e⟩:=d1.lst; exact ⟨_,e⟩) ⟨_,S1.rcp.1⟩ ⟨_,S1.con.1⟩ hpa
  clear kb2 S1 d1 L1 HD1 hpa
  obtain ⟨xq,exq,hxq⟩:=R2.tups
  have lxq:=hxq.1
  have snoc : ∀ {H' : Hp} {l t pa ha : Addr} {ts' : List Addr} {q : List (List Int)×List (List Int)},l ∉ N→H' l=some (.lst (ts'.map V.ref ++ [.ref t]))→ts'.length=k.R.length→(∀ (i : Nat) t q,ts'[i]? = some t→k.R[i]? = some q→∃ pa ha,H' t=some (.tup [.bl q.1.isEmpty,.ref pa,.ref ha])∧pa ∉ N∧ha ∉ N∧Rows H' pa q.1∧Rows H' ha q.2)→H' t=some (.tup [.bl q.1.isEmpty,.ref pa,.ref ha])→pa ∉ N→ha ∉ N→Rows H' pa q.1→Rows H' ha q.2→LookAt N H' l (k.R ++ [q]):=fun {H' l t pa ha ts' q} nl el tl' old et n1 n2 r1 r2=>by
    refine ⟨nl,ts' ++ [t],by rw [el,List.map_append]; rfl,by rw [List.length_append,List.length_append,tl']; rfl,fun i t' q' e1 e2=>?_⟩
    by_cases hi : i < ts'.length
    · rw [List.getElem?_append_left hi] at e1
      rw [List.getElem?_append_left (by omega)] at e2
      exact old i t' q' e1 e2
    · have : i=ts'.length:=by
        have:=(List.getElem?_eq_some_iff.mp e1).1
        rw [List.length_append,List.length_singleton] at this
        omega
      subst this
      rw [List.getElem?_append_right (Nat.le_refl _),Nat.sub_self] at e1
      rw [List.getElem?_append_right (by omega),tl',Nat.sub_self] at e2
      cases e1; cases e2
      exact ⟨pa,ha,et,n1,n2,r1,r2⟩
  have l2 : ∀ z∈[k.rc,k.ct],z∈N:=fun z hz=>by
    simp only [List.mem_cons,List.not_mem_nil,or_false] at hz
    rcases hz with rfl | rfl
    · exact mr
    · exact mc
  dsimp only
  refine tSeq_by (fun σ H'=>σ=[some (.ref a),some (.ref k.p),some (.ref lk),some (.ref D),some (.ref pa),none]∧DrawAt H' a c∧KeepBut a H2 H'∧qq≠[]) (fun D' nx hrt=>?_) ?_
  · refine tIfS_by (fun b H'=>DrawAt H' a c∧KeepBut a H2 H'∧(b=false→qq≠[])) (fun Q' hQ'=>?_) (fun H3 h3=>?_) (fun H3 h3=>?_)
    · refine ⟨_,rfl,by show 0≤sizeLine; decide,fun e he=>?_⟩
      have sE:=same_new (H:=H2) he (.lst [])
      refine cmp_nil (sE _ _ exq) upd_same ⟨_,rfl,?_⟩
      by_cases c1 : xq.length=0
      · rw [decide_eq_true c1]
        exact iteT (hQ' _ _ ⟨d2.same sE,KeepBut.of_same sE,fun z=>(by cases z)⟩)
      rw [decide_eq_false c1]
      have qne : qq≠[]:=fun z=>c1 (by rw [lxq,z]; rfl)
      refine iteF ⟨_,rfl,a,c,2,rfl,d2.same sE,by decide,by decide,fun u H11 u0 u1 d11 kb11=>⟨rfl,_,rfl,?_⟩⟩
      have k11:=(KeepBut.of_same (a:=a) sE).trans kb11
      cases hb : decide (V.int u=V.int 0) with
      | true=>exact hQ' _ _ ⟨d11,k11,fun z=>(by cases z)⟩
      | false=>exact hQ' _ _ ⟨d11,k11,fun _=>qne⟩
    · obtain ⟨d3,kb3,_⟩:=h3
      have S3:=S2.draw d2 kb3
      have la2 : ∀ z∈[a],∃ zs,H2 z=some (.lst zs):=fun z hz=>by rw [List.mem_singleton.mp hz]; exact d2.lst
      have L3 : LookAt N H3 lk k.R:=L2'.keepN (M:=[a]) (fun z hz=>by rw [List.mem_singleton.mp hz]; exact ma) la2 fun b o hb e=>kb3 b o (fun z=>hb (z ▸ .head _)) e
      have k33 : ∀ b o,b ∉ [a,k.rc,k.ct]→H b=some o→H3 b=some o:=fun b o hb e=>kb3 b o (fun z=>hb (z ▸ .head _)) (k3 b o hb e)
      obtain ⟨dy,ob⟩:=S3.ob
      refine ⟨_,rfl,k.p,dy,_,rfl,ob,rfl,k,rfl,S3,ok.len,fun z=>absurd l11 z,fun _ ra rh H4 hra hrh S4 k4=>?_⟩
      have nN : ∀ {z : Addr},H3 z=none→z ∉ N:=fun hz=>frN k33 (by obtain ⟨zs,e⟩:=d3.lst; exact ⟨_,e⟩) ⟨_,S3.rcp.1⟩ ⟨_,S3.con.1⟩ hz
      have d4:=d3.keep2 k4 n1 n2 n3 n4
      have l2s : ∀ z∈[k.rc,k.ct],∃ zs,H3 z=some (.lst zs):=fun z hz=>by
        simp only [List.mem_cons,List.not_mem_nil,or_false] at hz
        rcases hz with rfl | rfl
        · exact ⟨_,S3.rcp.1⟩
        · exact ⟨_,S3.con.1⟩
      have L4 : LookAt N H4 lk k.R:=L3.keepN l2 l2s fun b o hb e=>k4 b o (fun z=>hb (z ▸ .head _)) (fun z=>hb (z ▸ .tail _ (.head _))) e
      have k34 : ∀ b o,b ∉ [a,k.rc,k.ct]→H b=some o→H4 b=some o:=fun b o hb e=>k4 b o (fun z=>hb (z ▸ .tail _ (.head _))) (fun z=>hb (z ▸ .tail _ (.tail _ (.head _)))) (k33 b o hb e)
      obtain ⟨_,ts4,elk4,tl4,ht4⟩:=L4
      refine ⟨_,rfl,by show 0≤sizeLine; decide,fun e1 he1=>?_⟩
      have v1:=same_new (H:=H4) he1 (.lst [])
      refine ⟨_,rfl,lk,_,rfl,.inl (SqL.of (v1 _ _ elk4)),_,_,rfl,rfl,by show 2≤sizeLine; decide,fun t1 ht1=>⟨by show 1≤sizeLine; decide,fun e2 he2=>⟨by show 3≤sizeLine; decide,fun t2 ht2=>⟨by show 1≤sizeLine; decide,fun e3 he3=>?_⟩⟩⟩⟩
      have tle : (((ts4.map V.ref).length : Int) + 1)=(k.R.length : Int) + 1:=by rw [List.length_map,tl4]
      dsimp only at he2 ht2 he3 ⊢
      rw [tle] at he2 ht2 he3 ⊢
      have v2:=v1.trans (same_new ht1 (.tup [.int (((ts4.map V.ref).length : Int) + 1),.int 1]))
      rw [tle] at v2
      have v3:=v2.trans (same_new he2 (.lst [.ref t1]))
      have v4:=v3.trans (same_new ht2 (.tup [.bl true,.ref e1,.ref e2]))
      have v5:=v4.trans (same_new he3 (.lst [.ref t2]))
      refine ⟨lk,e3,_,_,rfl,rfl,v5 _ _ elk4,upd_same,Nat.le_of_lt (small1000 (by rw [List.length_map]; show _ + 1≤1000; omega)),fun lk' hlk'=>?_⟩
      have v6:=v5.trans (same_new hlk' (.lst (ts4.map V.ref ++ [.ref t2])))
      have nN4 : ∀ {H' : Hp} {z : Addr},Same H4 H'→H' z=none→z ∉ N:=fun sm hz=>frN (fun b o hb e=>sm _ _ (k34 b o hb e)) (by obtain ⟨zs,e⟩:=d4.lst; exact ⟨_,sm _ _ e⟩) ⟨_,sm _ _ S4.rcp.1⟩ ⟨_,sm _ _ S4.con.1⟩ hz
      have et2:=same_new hlk' (.lst (ts4.map V.ref ++ [.ref t2])) _ _ (same_new he3 (.lst [.ref t2]) _ _ (upd_same (H:=L2.upd (L2.upd (L2.upd H4 e1 (.lst [])) t1 (.tup [.int ((k.R.length : Int) + 1),.int 1])) e2 (.lst [.ref t1])) (a:=t2) (o:=.tup [.bl true,.ref e1,.ref e2])))
      have r1 : Rows (L2.upd (L2.upd (L2.upd (L2.upd (L2.upd (L2.upd H4 e1 (.lst [])) t1 (.tup [.int ((k.R.length : Int) + 1),.int 1])) e2 (.lst [.ref t1])) t2 (.tup [.bl true,.ref e1,.ref e2])) e3 (.lst [.ref t2])) lk' (.lst (ts4.map V.ref ++ [.ref t2]))) e1 []:=Rows.nil (same_new hlk' _ _ _ (same_new he3 _ _ _ (same_new ht2 _ _ _ (same_new he2 _ _ _ (same_new ht1 _ _ _ upd_same)))))
      have r2 : Rows (L2.upd (L2.upd (L2.upd (L2.upd (L2.upd (L2.upd H4 e1 (.lst [])) t1 (.tup [.int ((k.R.length : Int) + 1),.int 1])) e2 (.lst [.ref t1])) t2 (.tup [.bl true,.ref e1,.ref e2])) e3 (.lst [.ref t2])) lk' (.lst (ts4.map V.ref ++ [.ref t2]))) e2 [[(k.R.length : Int) + 1,1]]:=(Tups.one (r:=[(k.R.length : Int) + 1,1]) (same_new hlk' _ _ _ (same_new he3 _ _ _ (same_new ht2 _ _ _ (same_new he2 _ _ _ upd_same))))).rows (same_new hlk' _ _ _ (same_new he3 _ _ _ (same_new ht2 _ _ _ upd_same)))
      have el':=upd_same (H:=L2.upd (L2.upd (L2.upd (L2.upd (L2.upd H4 e1 (.lst [])) t1 (.tup [.int ((k.R.length : Int) + 1),.int 1])) e2 (.lst [.ref t1])) t2 (.tup [.bl true,.ref e1,.ref e2])) e3 (.lst [.ref t2])) (a:=lk') (o:=.lst (ts4.map V.ref ++ [.ref t2]))
      rw [hrt]
      refine q (k.more ra rh (rawK k.R)) lk' _ (.inr ⟨ra,rh,_,rfl,nN hra,nN hrh⟩) (S4.same v6) (ok.raw l11) (snoc (nN4 v5 hlk') el' tl4 (fun i t q e1 e2=>?_) et2 (nN4 (Same.refl _) he1) (nN4 v2 he2) r1 r2) (d4.same v6) fun b o hb e=>v6 _ _ (k34 b o hb e)
      obtain ⟨pa,ha,g1,g2,g3,g4,g5⟩:=ht4 i t q e1 e2
      exact ⟨pa,ha,v6 _ _ g1,g2,g3,g4.same v6,g5.same v6⟩
    · obtain ⟨d3,kb3,hq⟩:=h3
      exact nx _ _ ⟨rfl,d3,kb3,hq rfl⟩
  rintro σ H3 ⟨rfl,d3,kb3,qne⟩
  have S3:=S2.draw d2 kb3
  have HD3:=HD2.draw d2 kb3
  have R3:=R2.keep (fun e=>npa (e ▸ ma)) d2 kb3
  have la2 : ∀ z∈[a],∃ zs,H2 z=some (.lst zs):=fun z hz=>by rw [List.mem_singleton.mp hz]; exact d2.lst
  have L3 : LookAt N H3 lk k.R:=L2'.keepN (M:=[a]) (fun z hz=>by rw [List.mem_singleton.mp hz]; exact ma) la2 fun b o hb e=>kb3 b o (fun z=>hb (z ▸ .head _)) e
  have k33 : ∀ b o,b ∉ [a,k.rc,k.ct]→H b=some o→H3 b=some o:=fun b o hb e=>kb3 b o (fun z=>hb (z ▸ .head _)) (k3 b o hb e)
  have nN : ∀ {H' : Hp} {z : Addr},Same H3 H'→H' z=none→z ∉ N:=fun sm hz=>frN (fun b o hb e=>sm _ _ (k33 b o hb e)) (by obtain ⟨zs,e⟩:=d3.lst; exact ⟨_,sm _ _ e⟩) ⟨_,sm _ _ S3.rcp.1⟩ ⟨_,sm _ _ S3.con.1⟩ hz
  refine ⟨_,rfl,_,rfl,D,pa,hs,k.R,qq,rfl,HD3,ok,R3,h2',hok,fun sm ws H4 hsm hh s4 R4=>?_⟩
  have nsm : sm ∉ N:=nN (Same.refl _) hsm
  obtain ⟨zs,ez,hz⟩:=R4.tups
  have lz:=hz.1
  obtain ⟨hg,h12⟩:=hh.good ok qne hok
  have l0 : 0 < ws.length:=List.length_pos_iff.mpr hg.1
  dsimp only
  refine tSeq_by (fun σ H'=>σ=[some (.ref a),some (.ref k.p),some (.ref lk),some (.ref D),some (.ref pa),some (.ref sm)]∧Same H4 H'∧tooB ws=false) (fun D' nx hrt=>?_) ?_
  · refine ⟨_,rfl,sm,rfl,⟨_,SqL.of ez⟩,fun D2 hD2=>?_⟩
    refine comp_by (fun i us _=>us=((ws.take i).map fun r=>r.getD 1 0).map V.int) hD2 ez (by omega) (fun i us H H' h _=>h) rfl (fun i x us H6 ei s6 hp K1 K2 k1 k2=>?_) fun us H12 s12 hp lw hD12=>?_
    · obtain ⟨t,r,rfl,er,ht'⟩:=hz.at ei
      obtain ⟨kk,v,rfl,_⟩:=hg.2 r (List.mem_of_getElem? er)
      refine ⟨t,_,rfl,SqT.of (s6 _ _ ht'),rfl,_,_,rfl,_,_,rfl,rfl,keep_set (keep_set keep_refl rfl) rfl,?_⟩
      refine ⟨_,rfl,k1 _ _ (Same.refl _) ?_⟩
      rw [hp,getElem_next er,List.map_append,List.map_append]; rfl
    rw [lz,List.take_length] at hp
    subst hp
    refine ⟨D2,_,rfl,SqL.of hD12,by rw [List.length_map]; exact l0,fun M hM hMx=>⟨_,_,rfl,rfl,_,rfl,?_⟩⟩
    have et : tooB ws=decide (10000 < M):=by
      unfold tooB
      by_cases c3 : 10000 < M
      · rw [decide_eq_true c3,List.any_eq_true]
        obtain ⟨r,hr,e⟩:=List.mem_map.mp hM
        exact ⟨r,hr,decide_eq_true (by rw [e]; exact c3)⟩
      · rw [decide_eq_false c3,List.any_eq_false]
        intro r hr z
        have:=hMx _ (List.mem_map.mpr ⟨r,hr,rfl⟩)
        have:=of_decide_eq_true z
        omega
    rw [← et]
    cases hT : tooB ws with
    | true=>
      refine iteT ⟨_,rfl,?_⟩
      rw [hrt]
      have s3:=s4.trans s12
      exact q k lk H12 (.inl rfl) (S3.same s3) ok (L3.same s3) (d3.same s3) fun b o hb e=>s3 _ _ (k33 b o hb e)
    | false=>exact iteF (nx _ _ ⟨rfl,s12,hT⟩)
  rintro σ H5 ⟨rfl,s5,tooF⟩
  have s35:=s4.trans s5
  have S5:=S3.same s35
  obtain ⟨dy,ob⟩:=S5.ob
  refine ⟨_,rfl,k.p,dy,_,rfl,ob,rfl,_,rfl,k,pa,qq,rfl,S5,ok,R3.same s35,h2',by omega,fun z=>absurd ⟨qne,hok⟩ z,fun _ _ ws2 hh2=>?_⟩
  obtain rfl : ws2=ws:=hh2.uniq hh
  refine ⟨fun z=>absurd z (by rw [tooF]; decide),fun _=>⟨fun z=>absurd l11 z,fun _ dd dh H6 hdd hdh S6 k6=>?_⟩⟩
  have d6:=(d3.same s35).keep2 k6 n1 n2 n3 n4
  have l2s : ∀ z∈[k.rc,k.ct],∃ zs,H5 z=some (.lst zs):=fun z hz=>by
    simp only [List.mem_cons,List.not_mem_nil,or_false] at hz
    rcases hz with rfl | rfl
    · exact ⟨_,S5.rcp.1⟩
    · exact ⟨_,S5.con.1⟩
  have k6' : ∀ b o,b ∉ [k.rc,k.ct]→H5 b=some o→H6 b=some o:=fun b o hb e=>k6 b o (fun z=>hb (z ▸ .head _)) (fun z=>hb (z ▸ .tail _ (.head _))) e
  have L6 : LookAt N H6 lk k.R:=(L3.same s35).keepN l2 l2s k6'
  have R6 : Rows H6 pa qq:=(R3.same s35).keepN l2s k6' fun m=>npa (l2 _ m)
  have W6 : Rows H6 sm ws2:=(R4.same s5).keepN l2s k6' fun m=>nsm (l2 _ m)
  have k36 : ∀ b o,b ∉ [a,k.rc,k.ct]→H b=some o→H6 b=some o:=fun b o hb e=>k6' b o (fun m=>hb (.tail _ m)) (s35 _ _ (k33 b o hb e))
  obtain ⟨_,ts4,elk4,tl4,ht4⟩:=L6
  refine ⟨_,rfl,_,rfl,_,rfl,by show 3≤sizeLine; decide,fun t2 ht2=>⟨by show 1≤sizeLine; decide,fun e3 he3=>?_⟩⟩
  have v1:=same_new (H:=H6) ht2 (.tup [.bl false,.ref pa,.ref sm])
  have v2:=v1.trans (same_new he3 (.lst [.ref t2]))
  refine ⟨lk,e3,_,_,rfl,rfl,v2 _ _ elk4,upd_same,Nat.le_of_lt (small1000 (by rw [List.length_map]; show _ + 1≤1000; omega)),fun lk' hlk'=>?_⟩
  have v3:=v2.trans (same_new hlk' (.lst (ts4.map V.ref ++ [.ref t2])))
  have nN6 : ∀ {H' : Hp} {z : Addr},Same H6 H'→H' z=none→z ∉ N:=fun sm hz=>frN (fun b o hb e=>sm _ _ (k36 b o hb e)) (by obtain ⟨zs,e⟩:=d6.lst; exact ⟨_,sm _ _ e⟩) ⟨_,sm _ _ S6.rcp.1⟩ ⟨_,sm _ _ S6.con.1⟩ hz
  have et2:=same_new hlk' (.lst (ts4.map V.ref ++ [.ref t2])) _ _ (same_new he3 (.lst [.ref t2]) _ _ (upd_same (H:=H6) (a:=t2) (o:=.tup [.bl false,.ref pa,.ref sm])))
  have el':=upd_same (H:=L2.upd (L2.upd H6 t2 (.tup [.bl false,.ref pa,.ref sm])) e3 (.lst [.ref t2])) (a:=lk') (o:=.lst (ts4.map V.ref ++ [.ref t2]))
  have em : qq.isEmpty=false:=by cases qq with | nil=>exact absurd rfl qne | cons _ _=>rfl
  refine q (k.more dd dh (qq,ws2)) lk' _ (.inr ⟨dd,dh,_,rfl,nN s35 hdd,nN s35 hdh⟩) (S6.same v3) (ok.made l11 h2' qne hok hh) (snoc (q:=(qq,ws2)) (nN6 v2 hlk') el' tl4 (fun i t q e1 e2=>?_) (by rw [em]; exact et2) npa nsm (R6.same v3) (W6.same v3)) (d6.same v3) fun b o hb e=>v3 _ _ (k36 b o hb e)
  obtain ⟨pa,ha,g1,g2,g3,g4,g5⟩:=ht4 i t q e1 e2
  exact ⟨pa,ha,v3 _ _ g1,g2,g3,g4.same v3,g5.same v3⟩
end
end K34
namespace L2
open PySem
theorem KAt.keepN {C : Addr} {M : List Addr} {H H' : Hp} {k : KS} (h : KAt C H k) (hM : ∀ z∈M,∃ zs,H z=some (.lst zs)) (kp : ∀ b o,b ∉ M→H b=some o→H' b=some o) (n1 : k.rc ∉ M) (n2 : k.ct ∉ M) (n3 : ∀ z∈k.ps ++ k.qs,z ∉ M) : KAt C H' k:=by
  obtain ⟨dx,ob⟩:=h.ob
  refine ⟨⟨dx,kp _ _ (fun m=>by obtain ⟨zs,e⟩:=hM _ m; rw [ob] at e; cases e) ob⟩,⟨kp _ _ n1 h.rcp.1,h.rcp.2.1,fun i p rs e1 e2=>(h.rcp.2.2 i p rs e1 e2).keepN hM kp (n3 p (List.mem_append_left _ (List.mem_of_getElem? e1)))⟩,⟨kp _ _ n2 h.con.1,h.con.2.1,fun i p rs e1 e2=>(h.con.2.2 i p rs e1 e2).keepN hM kp (n3 p (List.mem_append_right _ (List.mem_of_getElem? e1)))⟩,h.ne⟩
abbrev refs (m : Nat) (f : Nat→Addr) : List V:=(List.range m).map fun j=>V.ref (f j)
structure Std (C a c gl ll : Addr) (m : Nat) (H : Hp) (kf : Nat→KS) (lf : Nat→Addr) (N : List Addr) : Prop where
  d : DrawAt H a c
  g : H gl=some (.lst (refs m fun j=>(kf j).p))
  l : H ll=some (.lst (refs m lf))
  S : ∀ j,j < m→KAt C H (kf j)
  ok : ∀ j,j < m→KdsOk (kf j).R
  L : ∀ j,j < m→LookAt N H (lf j) (kf j).R
  na : a∈N∧gl∈N∧ll∈N
  nk : ∀ j,j < m→(kf j).rc∈N∧(kf j).ct∈N
  inn : ∀ j,j < m→∀ z∈(kf j).ps ++ (kf j).qs,z ∉ N
  hN : ∀ z∈N,∃ zs,H z=some (.lst zs)
  ap : ∀ j,j < m→((kf j).rc≠a∧(kf j).rc≠c∧(kf j).rc≠gl∧(kf j).rc≠ll)∧(kf j).ct≠a∧(kf j).ct≠c∧(kf j).ct≠gl∧(kf j).ct≠ll
  nd : ∀ i j,i < m→j < m→i≠j→((kf i).rc≠(kf j).rc∧(kf i).rc≠(kf j).ct)∧(kf i).ct≠(kf j).rc∧(kf i).ct≠(kf j).ct
  n0 : a≠gl∧a≠ll∧gl≠ll∧c≠gl∧c≠ll
section
variable {C a c gl ll : Addr} {m : Nat} {H H' : Hp} {kf : Nat→KS} {lf : Nat→Addr} {N : List Addr}
theorem Std.same (s : Std C a c gl ll m H kf lf N) (e : Same H H') : Std C a c gl ll m H' kf lf N:=
  ⟨s.d.same e,e _ _ s.g,e _ _ s.l,fun j h=>(s.S j h).same e,s.ok,fun j h=>(s.L j h).same e,s.na,s.nk,s.inn,fun z hz=>let ⟨zs,h⟩:=s.hN z hz; ⟨zs,e _ _ h⟩,s.ap,s.nd,s.n0⟩
theorem Std.draw (s : Std C a c gl ll m H kf lf N) (d' : DrawAt H' a c) (kb : KeepBut a H H') : Std C a c gl ll m H' kf lf N:=
  ⟨d',kb _ _ s.n0.1.symm s.g,kb _ _ s.n0.2.1.symm s.l,fun j h=>(s.S j h).draw s.d kb,s.ok,fun j h=>(s.L j h).keepN (M:=[a]) (fun z hz=>by rw [List.mem_singleton.mp hz]; exact s.na.1) (fun z hz=>by rw [List.mem_singleton.mp hz]; exact s.d.lst) (fun b o hb e=>kb b o (fun z=>hb (z ▸ .head _)) e),s.na,s.nk,s.inn,fun z hz=>by
    by_cases h : z=a
    · subst h; exact d'.lst
    · obtain ⟨zs,e⟩:=s.hN z hz; exact ⟨zs,kb _ _ h e⟩,s.ap,s.nd,s.n0⟩
theorem Std.step (s : Std C a c gl ll m H kf lf N) {at' : Nat} (hat : at' < m) {k' : KS} {lk' : Addr} (hk : k' = kf at'∨∃ d h q,k' = (kf at').more d h q∧d ∉ N∧h ∉ N) (S' : KAt C H' k') (ok' : KdsOk k'.R) (L' : LookAt N H' lk' k'.R) (d' : DrawAt H' a c) (kp : ∀ b o,b ∉ [a,(kf at').rc,(kf at').ct]→H b=some o→H' b=some o) :
    H' ll=some (.lst (refs m lf))∧Std C a c gl ll m (upd H' ll (.lst (refs m fun j=>if j=at' then lk' else lf j))) (fun j=>if j=at' then k' else kf j) (fun j=>if j=at' then lk' else lf j) N:=by
  have pk : k'.p=(kf at').p∧k'.rc=(kf at').rc∧k'.ct=(kf at').ct:=by
    rcases hk with rfl | ⟨d,h,q,rfl,_⟩
    · exact ⟨rfl,rfl,rfl⟩
    · exact ⟨rfl,rfl,rfl⟩
  have A:=s.ap at' hat
  have mem3 : ∀ {z : Addr},z≠a→z≠(kf at').rc→z≠(kf at').ct→z ∉ [a,(kf at').rc,(kf at').ct]:=fun h1 h2 h3=>by
    simp only [List.mem_cons,List.not_mem_nil,or_false,not_or]; exact ⟨h1,h2,h3⟩
  have M : ∀ z∈[a,(kf at').rc,(kf at').ct],z∈N:=fun z hz=>by
    simp only [List.mem_cons,List.not_mem_nil,or_false] at hz
    rcases hz with rfl | rfl | rfl
    · exact s.na.1
    · exact (s.nk _ hat).1
    · exact (s.nk _ hat).2
  have ML : ∀ z∈[a,(kf at').rc,(kf at').ct],∃ zs,H z=some (.lst zs):=fun z hz=>s.hN z (M z hz)
  have gl':=kp _ _ (mem3 s.n0.1.symm A.1.2.2.1.symm A.2.2.2.1.symm) s.g
  have ll':=kp _ _ (mem3 s.n0.2.1.symm A.1.2.2.2.symm A.2.2.2.2.symm) s.l
  have b1 : ∀ b o,b≠ll→H' b=some o→upd H' ll (.lst (refs m fun j=>if j=at' then lk' else lf j)) b=some o:=fun b o hb e=>by rw [upd_ne hb]; exact e
  have hN' : ∀ z∈N,∃ zs,H' z=some (.lst zs):=fun z hz=>by
    by_cases h : z∈[a,(kf at').rc,(kf at').ct]
    · simp only [List.mem_cons,List.not_mem_nil,or_false] at h
      rcases h with rfl | rfl | rfl
      · exact d'.lst
      · exact ⟨_,pk.2.1 ▸ S'.rcp.1⟩
      · exact ⟨_,pk.2.2 ▸ S'.con.1⟩
    · obtain ⟨zs,e⟩:=s.hN z hz; exact ⟨zs,kp _ _ h e⟩
  have inn' : ∀ z∈k'.ps ++ k'.qs,z ∉ N:=fun z hz=>by
    rcases hk with rfl | ⟨d,h,q,rfl,nd,nh⟩
    · exact s.inn _ hat z hz
    · rcases List.mem_append.mp hz with y | y
      · rcases List.mem_append.mp y with y | y
        · exact s.inn _ hat z (List.mem_append_left _ y)
        · rw [List.mem_singleton.mp y]; exact nd
      · rcases List.mem_append.mp y with y | y
        · exact s.inn _ hat z (List.mem_append_right _ y)
        · rw [List.mem_singleton.mp y]; exact nh
  have onl : ∀ {k : KS},KAt C H' k→k.rc≠ll→k.ct≠ll→(∀ z∈k.ps ++ k.qs,z ∉ N)→KAt C (upd H' ll (.lst (refs m fun j=>if j=at' then lk' else lf j))) k:=fun hk n1 n2 n3=>hk.keepN (M:=[ll]) (fun z hz=>by rw [List.mem_singleton.mp hz]; exact ⟨_,ll'⟩) (fun b o hb e=>b1 b o (fun z=>hb (z ▸ .head _)) e) (fun z=>n1 (List.mem_singleton.mp z)) (fun z=>n2 (List.mem_singleton.mp z)) fun z hz m=>n3 z hz (by rw [List.mem_singleton.mp m]; exact s.na.2.2)
  have onL : ∀ {l : Addr} {R : Kds},LookAt N H' l R→LookAt N (upd H' ll (.lst (refs m fun j=>if j=at' then lk' else lf j))) l R:=fun hl=>hl.keepN (M:=[ll]) (fun z hz=>by rw [List.mem_singleton.mp hz]; exact s.na.2.2) (fun z hz=>by rw [List.mem_singleton.mp hz]; exact ⟨_,ll'⟩) fun b o hb e=>b1 b o (fun z=>hb (z ▸ .head _)) e
  have rct : ∀ j,(if j=at' then k' else kf j).rc=(kf j).rc∧(if j=at' then k' else kf j).ct=(kf j).ct∧(if j=at' then k' else kf j).p=(kf j).p:=fun j=>by
    by_cases e : j=at'
    · subst e; rw [if_pos rfl]; exact ⟨pk.2.1,pk.2.2,pk.1⟩
    · rw [if_neg e]; exact ⟨rfl,rfl,rfl⟩
  refine ⟨ll',⟨d'.upd s.n0.2.1.symm s.n0.2.2.2.2.symm,?_,upd_same,fun j hj=>?_,fun j hj=>?_,fun j hj=>?_,s.na,fun j hj=>?_,fun j hj=>?_,fun z hz=>?_,fun j hj=>?_,fun i j hi hj hij=>?_,s.n0⟩⟩
  · rw [upd_ne s.n0.2.2.1,gl']
    unfold refs
    congr 2
    exact List.map_congr_left fun j _=>congrArg V.ref (rct j).2.2.symm
  · by_cases e : j=at'
    · subst e
      rw [if_pos rfl]
      exact onl S' (by rw [pk.2.1]; exact A.1.2.2.2) (by rw [pk.2.2]; exact A.2.2.2.2) inn'
    · rw [if_neg e]
      have B:=s.ap j hj
      have D:=s.nd j at' hj hat e
      exact onl ((s.S j hj).keepN ML kp (mem3 B.1.1 D.1.1 D.1.2) (mem3 B.2.1 D.2.1 D.2.2) fun z hz m=>s.inn j hj z hz (M z m)) B.1.2.2.2 B.2.2.2.2 (s.inn j hj)
  · by_cases e : j=at'
    · rw [if_pos e]; exact ok'
    · rw [if_neg e]; exact s.ok j hj
  · by_cases e : j=at'
    · rw [if_pos e,if_pos e]; exact onL L'
    · rw [if_neg e,if_neg e]; exact onL ((s.L j hj).keepN M ML kp)
  · rw [(rct j).1,(rct j).2.1]; exact s.nk j hj
  · by_cases e : j=at'
    · rw [if_pos e]; exact inn'
    · rw [if_neg e]; exact s.inn j hj
  · by_cases e : z=ll
    · subst e; exact ⟨_,upd_same⟩
    · obtain ⟨zs,h⟩:=hN' z hz; exact ⟨zs,b1 _ _ e h⟩
  · rw [(rct j).1,(rct j).2.1]; exact s.ap j hj
  · rw [(rct j).1,(rct j).2.1,(rct i).1,(rct i).2.1]; exact s.nd i j hi hj hij
end
structure Mid (C a c gl : Addr) (m : Nat) (H : Hp) (kf : Nat→KS) (l0 : Addr) (R : Kds) (N : List Addr) : Prop where
  d : DrawAt H a c
  g : H gl=some (.lst (refs m fun j=>(kf j).p))
  S : ∀ j,j < m→KAt C H (kf j)
  RR : ∀ j,j < m→(kf j).R=R
  L : LookAt N H l0 R
  na : a∈N∧gl∈N
  nk : ∀ j,j < m→(kf j).rc∈N∧(kf j).ct∈N
  inn : ∀ j,j < m→∀ z∈(kf j).ps ++ (kf j).qs,z ∉ N
  hN : ∀ z∈N,∃ zs,H z=some (.lst zs)
  ap : ∀ j,j < m→((kf j).rc≠a∧(kf j).rc≠c∧(kf j).rc≠gl)∧(kf j).ct≠a∧(kf j).ct≠c∧(kf j).ct≠gl
  nd : ∀ i j,i < m→j < m→i≠j→((kf i).rc≠(kf j).rc∧(kf i).rc≠(kf j).ct)∧(kf i).ct≠(kf j).rc∧(kf i).ct≠(kf j).ct
  n0 : a≠gl∧c≠gl
theorem Std.mid {C a c gl ll : Addr} {H : Hp} {kf : Nat→KS} {lf : Nat→Addr} {N : List Addr} (s : Std C a c gl ll 1 H kf lf N) : Mid C a c gl 1 H kf (lf 0) (kf 0).R N:=
  ⟨s.d,s.g,s.S,fun j hj=>by rw [show j=0 by omega],s.L 0 (by decide),⟨s.na.1,s.na.2.1⟩,s.nk,s.inn,s.hN,fun j hj=>let A:=s.ap j hj; ⟨⟨A.1.1,A.1.2.1,A.1.2.2.1⟩,A.2.1,A.2.2.1,A.2.2.2.1⟩,s.nd,s.n0.1,s.n0.2.2.2.1⟩
def KS.twin (k : KS) (p rc ct : Addr) : KS:=⟨p,rc,ct,k.ps,k.qs,k.R⟩
section
variable {C a c gl l0 p rc ct : Addr} {m : Nat} {H H' : Hp} {kf : Nat→KS} {R : Kds} {N : List Addr}
theorem Mid.twin (s : Mid C a c gl m H kf l0 R N) {i : Nat} (hi : i < m) (hrc : H rc=none) (hct : H ct=none) (sm : Same H H') (S' : KAt C H' ((kf i).twin p rc ct)) :
    H' gl=some (.lst (refs m fun j=>(kf j).p))∧Mid C a c gl (m + 1) (upd H' gl (.lst (refs m (fun j=>(kf j).p) ++ [.ref p]))) (fun j=>if j=m then (kf i).twin p rc ct else kf j) l0 R (ct :: rc :: N):=by
  have gl':=sm _ _ s.g
  have rg : rc≠gl:=(ne_of_none s.g hrc).symm
  have cg : ct≠gl:=(ne_of_none s.g hct).symm
  have on1 : ∀ {z : Addr},z≠gl→z ∉ [gl]:=fun h m=>h (List.mem_singleton.mp m)
  have hM : ∀ z∈[gl],∃ zs,H' z=some (.lst zs):=fun z hz=>by rw [List.mem_singleton.mp hz]; exact ⟨_,gl'⟩
  have kp : ∀ b o,b ∉ [gl]→H' b=some o→upd H' gl (.lst (refs m (fun j=>(kf j).p) ++ [.ref p])) b=some o:=fun b o hb e=>by rw [upd_ne (show b≠gl from fun z=>hb (z ▸ .head _))]; exact e
  have innI : ∀ j,j < m→∀ z∈(kf j).ps ++ (kf j).qs,z ∉ ct :: rc :: N:=fun j hj z hz mm=>by
    have yr:=(s.S j hj).young hrc
    have yc:=(s.S j hj).young hct
    rcases List.mem_cons.mp mm with e | mm
    · subst e; exact (List.mem_append.mp hz).elim yc.2.2.1 yc.2.2.2
    · rcases List.mem_cons.mp mm with e | mm
      · subst e; exact (List.mem_append.mp hz).elim yr.2.2.1 yr.2.2.2
      · exact s.inn j hj z hz mm
  have old : ∀ j,j < m→(rc≠(kf j).rc∧rc≠(kf j).ct)∧ct≠(kf j).rc∧ct≠(kf j).ct:=fun j hj=>⟨⟨(ne_of_none (s.S j hj).rcp.1 hrc).symm,(ne_of_none (s.S j hj).con.1 hrc).symm⟩,(ne_of_none (s.S j hj).rcp.1 hct).symm,(ne_of_none (s.S j hj).con.1 hct).symm⟩
  refine ⟨gl',⟨(s.d.same sm).upd s.n0.1.symm s.n0.2.symm,?_,fun j hj=>?_,fun j hj=>?_,?_,⟨.tail _ (.tail _ s.na.1),.tail _ (.tail _ s.na.2)⟩,fun j hj=>?_,fun j hj=>?_,fun z hz=>?_,fun j hj=>?_,fun i' j hi' hj hij=>?_,s.n0⟩⟩
  · rw [upd_same]
    unfold refs
    rw [List.range_succ,List.map_append]
    congr 3
    · exact List.map_congr_left fun j hj=>by dsimp only; rw [if_neg (by have:=List.mem_range.mp hj; omega)]
    · show [V.ref p]=[V.ref (if m=m then (kf i).twin p rc ct else kf m).p]
      rw [if_pos rfl]; rfl
  · by_cases e : j=m
    · rw [if_pos e]
      exact S'.keepN hM kp (on1 rg) (on1 cg) fun z hz=>on1 fun y=>s.inn i hi z hz (y ▸ s.na.2)
    · rw [if_neg e]
      have hj : j < m:=by omega
      exact ((s.S j hj).same sm).keepN hM kp (on1 (s.ap j hj).1.2.2) (on1 (s.ap j hj).2.2.2) fun z hz=>on1 fun y=>s.inn j hj z hz (y ▸ s.na.2)
  · by_cases e : j=m
    · rw [if_pos e]; exact s.RR i hi
    · rw [if_neg e]; exact s.RR j (by omega)
  · exact (((s.L.wide hrc).wide hct).same sm).keepN (M:=[gl]) (fun z hz=>by rw [List.mem_singleton.mp hz]; exact .tail _ (.tail _ s.na.2)) hM kp
  · by_cases e : j=m
    · rw [if_pos e]; exact ⟨.tail _ (.head _),.head _⟩
    · rw [if_neg e]; have A:=s.nk j (by omega); exact ⟨.tail _ (.tail _ A.1),.tail _ (.tail _ A.2)⟩
  · by_cases e : j=m
    · rw [if_pos e]; exact innI i hi
    · rw [if_neg e]; exact innI j (by omega)
  · by_cases e : z=gl
    · subst e; exact ⟨_,upd_same⟩
    · have : ∃ zs,H' z=some (.lst zs):=by
        rcases List.mem_cons.mp hz with y | hz
        · subst y; exact ⟨_,S'.con.1⟩
        · rcases List.mem_cons.mp hz with y | hz
          · subst y; exact ⟨_,S'.rcp.1⟩
          · obtain ⟨zs,h⟩:=s.hN z hz; exact ⟨zs,sm _ _ h⟩
      obtain ⟨zs,h⟩:=this
      exact ⟨zs,kp _ _ (on1 e) h⟩
  · by_cases e : j=m
    · rw [if_pos e]; exact ⟨⟨s.d.ne hrc,s.d.nc hrc,rg⟩,s.d.ne hct,s.d.nc hct,cg⟩
    · rw [if_neg e]; exact s.ap j (by omega)
  · by_cases e : i' = m
    · rw [if_pos e,if_neg (by omega)]; exact old j (by omega)
    · rw [if_neg e]
      by_cases e2 : j=m
      · rw [if_pos e2]
        have A:=old i' (by omega)
        exact ⟨⟨A.1.1.symm,A.2.1.symm⟩,A.1.2.symm,A.2.2.symm⟩
      · rw [if_neg e2]; exact s.nd i' j (by omega) (by omega) hij
theorem Mid.std (s : Mid C a c gl m H kf l0 R N) (ok : KdsOk R) {D : Addr} (hD : H D=none) (sm : Same H H') {lf : Nat→Addr} (eD : H' D=some (.lst (refs m lf))) (hl : ∀ j,j < m→lf j ∉ D :: N∧H' (lf j)=H l0) : Std C a c gl D m H' kf lf (D :: N):=by
  have nd : ∀ {z : Addr},(∃ zs,H z=some (.lst zs))→z≠D:=fun ⟨_,h⟩=>ne_of_none h hD
  refine ⟨s.d.same sm,sm _ _ s.g,eD,fun j hj=>(s.S j hj).same sm,fun j hj=>by rw [s.RR j hj]; exact ok,fun j hj=>?_,⟨.tail _ s.na.1,.tail _ s.na.2,.head _⟩,fun j hj=>⟨.tail _ (s.nk j hj).1,.tail _ (s.nk j hj).2⟩,fun j hj z hz mm=>?_,fun z hz=>?_,fun j hj=>?_,s.nd,s.n0.1,s.d.lst |> nd,nd ⟨_,s.g⟩,s.n0.2,(s.d.nc hD).symm⟩
  · obtain ⟨_,ts,h1,h2,h3⟩:=s.L.wide hD
    rw [s.RR j hj]
    refine ⟨(hl j hj).1,ts,by rw [(hl j hj).2]; exact h1,h2,fun i t q e1 e2=>?_⟩
    obtain ⟨pa,ha,g1,g2,g3,g4,g5⟩:=h3 i t q e1 e2
    exact ⟨pa,ha,sm _ _ g1,g2,g3,g4.same sm,g5.same sm⟩
  · rcases List.mem_cons.mp mm with y | y
    · subst y
      have:=(s.S j hj).young hD
      exact (List.mem_append.mp hz).elim this.2.2.1 this.2.2.2
    · exact s.inn j hj z hz y
  · rcases List.mem_cons.mp hz with y | y
    · subst y; exact ⟨_,eD⟩
    · obtain ⟨zs,h⟩:=s.hN z y; exact ⟨zs,sm _ _ h⟩
  · have A:=s.ap j hj
    exact ⟨⟨A.1.1,A.1.2.1,A.1.2.2,nd ⟨_,(s.S j hj).rcp.1⟩⟩,A.2.1,A.2.2.1,A.2.2.2,nd ⟨_,(s.S j hj).con.1⟩⟩
end
end L2
namespace K34
open PySem L2
abbrev s_law : Stmt:=top 20
abbrev n_law : List Str:=["_law_script","_law_draw","_law_goods","_law_looks","_law_k","_law_at"]
abbrev p_law : List Str:=["_law_script"]
theorem sc_law : FnScope n_law p_law (defScope s_law):=⟨rfl,rfl,rfl,by decide +kernel,rfl,by decide +kernel,by decide +kernel⟩
def spLaw (K : PySem.W.Frag) : Sp:=fun vs H Q _=>∃ (a : Addr) (ns : List Int),vs=[.ref a]∧SqL K H a (ns.map V.int)∧ns.length≤63∧∀ H',Q (.bl true) H'
theorem refs_at {m : Nat} {f : Nat→Addr} {i : Nat} (h : i < m) : (refs m f)[i]? = some (.ref (f i)):=by unfold refs; rw [List.getElem?_map,List.getElem?_range h]; rfl
theorem refs_set {m : Nat} {f : Nat→Addr} {i : Nat} {x : Addr} : (refs m f).set i (.ref x)=refs m fun j=>if j=i then x else f j:=by
  refine List.ext_getElem? fun j=>?_
  rw [List.getElem?_set]
  by_cases hj : j < m
  · rw [refs_at hj,refs_at hj]
    by_cases e : i=j
    · subst e; rw [if_pos rfl,if_pos (by unfold refs; rw [List.length_map,List.length_range]; exact hj),if_pos rfl]
    · rw [if_neg e,if_neg (fun z=>e z.symm)]
  · have l1 : (refs m f).length=m:=by unfold refs; rw [List.length_map,List.length_range]
    have l2 : (refs m fun j=>if j=i then x else f j).length=m:=by unfold refs; rw [List.length_map,List.length_range]
    rw [List.getElem?_eq_none (l:=refs m fun j=>if j=i then x else f j) (by omega),List.getElem?_eq_none (l:=refs m f) (by omega)]
    split
    · rw [if_neg (by omega)]
    · rfl
theorem looked {K : PySem.W.Frag} {C a c gl ll : Addr} {H : Hp} {kf : Nat→KS} {lf : Nat→Addr} {N : List Addr} (s : Std C a c gl ll 3 H kf lf N) {D : Addr} (hD : H D=none) {g : TG} {te : TE} {σ₀ : St} {R : Hp→Prop}
    (step : ∀ (k : KS) (H' : Hp) (K1 : V→Hp→Prop),KAt C H' k→KdsOk k.R→(∀ l H4,H' l=none→Same H' H4→(∀ N,(∀ z∈N,∃ o,H' z=some o)→LookAt N H4 l k.R)→K1 (.ref l) H4)→g (.ref k.p) σ₀ H' fun σ2 H2=>(∀ (k : Nat) v,σ₀[k]? = some (some v)→σ2[k]? = some (some v))∧te σ2 H2 K1)
    (fin : ∀ H',Same H H'→EqD H' 5 (.ref D) (.ref ll)→R H') :
    ∃ W : Nat→Nat→Hp→Prop,(∃ m,W 0 m (L2.upd H D (.lst [])))∧∀ i m H,W i m H→((Itl K gl).stop i H∧R H)∨((Itl K gl).go i H∧∀ x H',(Itl K gl).yld i H x H'→g x σ₀ H' fun σ2 H2=>(∀ (k : Nat) v,σ₀[k]? = some (some v)→σ2[k]? = some (some v))∧tIf0 σ2 H2 fun b H3=>
      if b=true then te σ2 H3 fun y H4=>∃ zs,H4 D=some (.lst zs)∧zs.length < sizeLine∧∃ m',m' < m∧W (i + 1) m' (L2.upd H4 D (.lst (zs ++ [y]))) else ∃ m',m' < m∧W (i + 1) m' H3):=by
  have rl : ∀ f : Nat→Addr,(refs 3 f).length=3:=fun f=>by unfold refs; rw [List.length_map,List.length_range]
  refine comp_byD (fun i zs H'=>∃ ls : List Addr,zs=ls.map V.ref∧ls.length=i∧∀ (j : Nat) l,ls[j]? = some l→LookAt [D] H' l (kf j).R) hD s.g (by rw [rl]; decide) (fun i zs H5 H' ⟨ls,h1,h2,h3⟩ nl hk=>⟨ls,h1,h2,fun j l e=>(h3 j l e).butD nl hk⟩) ⟨[],rfl,rfl,fun j l e=>(by cases e)⟩ (fun i x zs H6 ei hz6 s6 ⟨ls,h1,h2,h3⟩ K1 k1=>?_) fun zs H6 s6 ⟨ls,h1,h2,h3⟩ lz hD6=>?_
  · have hi : i < 3:=by have:=(List.getElem?_eq_some_iff.mp ei).1; rw [rl] at this; exact this
    rw [refs_at hi] at ei
    cases ei
    refine step (kf i) H6 K1 ((s.S i hi).same s6) (s.ok i hi) fun l H7 hl s7 LL=>k1 _ _ s7 ⟨ls ++ [l],by rw [h1,List.map_append]; rfl,by rw [List.length_append,h2]; rfl,fun j l' e=>?_⟩
    by_cases hj : j < ls.length
    · rw [List.getElem?_append_left hj] at e
      exact (h3 j l' e).same s7
    · have : j=ls.length:=by
        have:=(List.getElem?_eq_some_iff.mp e).1
        rw [List.length_append,List.length_singleton] at this
        omega
      subst this
      rw [List.getElem?_append_right (Nat.le_refl _),Nat.sub_self] at e
      cases e
      rw [h2]
      exact LL [D] fun z hz=>by rw [List.mem_singleton.mp hz]; exact ⟨_,hz6⟩
  · subst h1
    refine fin H6 s6 (EqD.lst (n:=4) hD6 (s6 _ _ s.l) (by rw [List.length_map,h2,rl,rl]) (by rw [List.length_map,h2,rl]; decide) fun j x y e1 e2=>?_)
    have hj : j < 3:=by have:=(List.getElem?_eq_some_iff.mp e2).1; rw [rl] at this; exact this
    rw [refs_at hj] at e2
    cases e2
    rw [List.getElem?_map] at e1
    cases f1 : ls[j]? with
    | none=>rw [f1] at e1; cases e1
    | some l=>rw [f1] at e1; cases e1; exact (h3 j l f1).eqD ((s.L j hj).same s6) (s.ok j hj)
section
variable {P : Program} {w : World} {K : PySem.W.Frag} {mg : Str→Option Value} {base : Heap} {f : Addr} {fd : FuncData} {cl : Nat→Addr} (T : Txt K mg cl) (B : Bn mg)
include T B
theorem ok_law (G_begin : Cal P w K mg base CX0 1 "_law_begin" p_begin (spBegin K)) (G_pick : Cal P w K mg base CX0 1 "_law_pick" p_pick spPick) (G_same : Cal P w K mg base CX0 6 "_law_same" n_same (spSame 6)) (G_more : Cal P w K mg base CX0 4 "_law_more" p_more (spMore (cK cl))) (G_look : Cal P w K mg base CX0 4 "_law_look" p_look (spLook (cK cl)))
    (G_Kinds___init__ : CalI P w K mg base CX0 1 (cK cl) "Kinds" p_Kinds___init__ (spKInit (cK cl))) (G_Kinds_twin : CalM P w K mg base CX0 3 (cK cl) "twin" p_Kinds_twin (spKTwin (cK cl))) (F : Fun K "law" "law" s_law f fd) : FnOk P w K mg base CX0 7 f fd p_law (spLaw K):=by
  refine F.ok sc_law (fun vs H Q E h=>?_) (fun cdv A outer s H vs Q E hr h=>?_)
  · obtain ⟨a,ns,rfl,_⟩:=h; rfl
  obtain ⟨a0,ns,rfl,hS,hlen,q⟩:=h
  refine ⟨_,(pss_cons (ps_set (i:=1) sc_law.nd rfl (Or.inl rfl) (pe_cal G_begin hr rfl pass0 (pa_c (pv 0) pa_nil)))
    (pss_cons (ps_set (i:=2) sc_law.nd rfl (Or.inl rfl) (pe_lst (pa_c (pe_calI0 G_Kinds___init__ hr rfl pass0) pa_nil)))
    (pss_cons (ps_set (i:=3) sc_law.nd rfl (Or.inr rfl) (pe_lst (pa_c (pe_lst pa_nil) pa_nil)))
    (pss_cons (ps_for PassesOwn.never rfl (pi_range1 rfl B.range (pa_c (pe_cal G_pick hr rfl pass0 (pa_c (pv 1) (pa_c pe_int pa_nil))) pa_nil)) (pg_name (i:=4) sc_law.nd rfl (Or.inl rfl)) (pss_one (ps_asg (pe_cal G_more hr rfl pass0 (pa_c (pv 1) (pa_c (pe_ix ix_list (pv 2) pe_int (fun _ _=>rfl)) (pa_c (pe_ix ix_list (pv 3) pe_int (fun _ _=>rfl)) pa_nil)))) (pg_sub (pv 3) pe_int set_list))))
    (pss_cons (ps_expr (pe_bm PySem.F.plainAttrs_list PySem.F.slot_list_append PySem.F.type_list_append mt_append (pv 2) (pa_c (pe_calM0 G_Kinds_twin T.cKinds hr pass0 (pe_ix ix_list (pv 2) pe_int (fun _ _=>rfl))) pa_nil)))
    (pss_cons (ps_expr (pe_bm PySem.F.plainAttrs_list PySem.F.slot_list_append PySem.F.type_list_append mt_append (pv 2) (pa_c (pe_calM0 G_Kinds_twin T.cKinds hr pass0 (pe_ix ix_list (pv 2) pe_int (fun _ _=>rfl))) pa_nil)))
    (pss_cons (ps_set (i:=3) sc_law.nd rfl (Or.inr rfl) (pe_comp (N':=["_law_k","_law_looks"]) (ix:=[none,some 3]) (g:=(gName 0)) (ti:=tIf0) (te:=(tCB (rListOf K) (tCons (tOp (rIxL K) (tVar 1) (tC (.int 0))) tNil))) rfl (comp_scope (N:=n_law) (D:=defScope s_law) (by decide +kernel)) (pi_range1 rfl B.range (pa_c pe_int pa_nil)) (fun C s H fp=>(pg_name (i:=0) (show (["_law_k","_law_looks"] : List Str).Nodup by decide +kernel) rfl (Or.inl rfl))) (fun C s H fp=>pifs_nil) (fun C s H fp=>(pe_callTy call_list_of rfl B.list PyProof.Rows.boot_list (pa_c (pe_ix ix_list (pv 1) pe_int (fun _ _=>rfl)) pa_nil)))))
    (pss_cons (ps_for PassesOwn.never rfl (pi_range1 rfl B.range (pa_c (pe_cal G_pick hr rfl pass0 (pa_c (pv 1) (pa_c pe_int pa_nil))) pa_nil)) (pg_name (i:=4) sc_law.nd rfl (Or.inl rfl)) (pss_cons (ps_set (i:=5) sc_law.nd rfl (Or.inl rfl) (pe_cal G_pick hr rfl pass0 (pa_c (pv 1) (pa_c pe_int pa_nil))))
      (pss_cons (ps_asg (pe_cal G_more hr rfl pass0 (pa_c (pv 1) (pa_c (pe_ix ix_list (pv 2) (pv 5) (fun _ _=>rfl)) (pa_c (pe_ix ix_list (pv 3) (pv 5) (fun _ _=>rfl)) pa_nil)))) (pg_sub (pv 3) (pv 5) set_list))
      (pss_one (ps_if (pt_not (pt_truth (pe_cal G_same hr rfl pass0 (pa_c (pe_comp (N':=["_law_one"]) (ix:=[none]) (g:=(gName 0)) (ti:=tIf0) (te:=(tCall (spLook (cK cl)) [] E0 (tCons (tVar 0) tNil))) rfl (comp_scope (N:=n_law) (D:=defScope s_law) (by decide +kernel)) (pi_list (pv 2)) (fun C s H fp=>(pg_name (i:=0) (show (["_law_one"] : List Str).Nodup by decide +kernel) rfl (Or.inl rfl))) (fun C s H fp=>pifs_nil) (fun C s H fp=>(pe_cal G_look hr rfl pass0 (pa_c (pv 0) pa_nil)))) (pa_c (pv 3) pa_nil))) (fun _=>rfl))) (pss_one (ps_ret pe_bl)) pss_nil)))))
    (pss_one (ps_ret (pe_cal G_same hr rfl pass0 (pa_c (pe_comp (N':=["_law_one"]) (ix:=[none]) (g:=(gName 0)) (ti:=tIf0) (te:=(tCall (spLook (cK cl)) [] E0 (tCons (tVar 0) tNil))) rfl (comp_scope (N:=n_law) (D:=defScope s_law) (by decide +kernel)) (pi_list (pv 2)) (fun C s H fp=>(pg_name (i:=0) (show (["_law_one"] : List Str).Nodup by decide +kernel) rfl (Or.inl rfl))) (fun C s H fp=>pifs_nil) (fun C s H fp=>(pe_cal G_look hr rfl pass0 (pa_c (pv 0) pa_nil)))) (pa_c (pv 3) pa_nil))))))))))))),?_⟩
  refine ⟨_,rfl,a0,ns,rfl,hS,hlen,fun a c H1 ha hc s1 d1=>?_⟩
  intro x dx nx ndx ndd
  refine ⟨x,dx,rfl,upd_same,fun rc ct H2 hrc hct S2 kp=>⟨rfl,by show 1≤sizeLine; decide,fun gl hgl=>?_⟩⟩
  have s0 : Same H1 (L2.upd (L2.upd H1 dx (.own x)) x (.ins (cK cl) dx [])):=(same_new ndx _).trans (same_new (by rw [upd_ne ndd.symm]; exact nx) _)
  have s2 : Same H1 H2:=fun b o e=>kp b o (ne_of_none e nx) (s0 b o e)
  have d2:=d1.same s2
  have hrc1:=s0.free hrc
  have hct1:=s0.free hct
  have n1 : a≠c:=by obtain ⟨_,_,_,_,_,_,_,h,_⟩:=d2; exact h.symm
  refine ⟨by show 0≤sizeLine; decide,fun e he=>⟨by show 1≤sizeLine; decide,fun ll hll=>?_⟩⟩
  have v1:=same_new (H:=H2) hgl (.lst [.ref x])
  have v2:=v1.trans (same_new he (.lst []))
  have v3:=v2.trans (same_new hll (.lst [.ref e]))
  have he0:=v1.free he
  have hll0:=v2.free hll
  have eg:=same_new hll (.lst [.ref e]) _ _ (same_new he (.lst []) _ _ (upd_same (H:=H2) (a:=gl) (o:=.lst [.ref x])))
  have ee:=same_new hll (.lst [.ref e]) _ _ (upd_same (H:=L2.upd H2 gl (.lst [.ref x])) (a:=e) (o:=.lst []))
  have el:=upd_same (H:=L2.upd (L2.upd H2 gl (.lst [.ref x])) e (.lst [])) (a:=ll) (o:=.lst [.ref e])
  have nge : gl≠e:=ne_of_none (upd_same (H:=H2) (a:=gl) (o:=.lst [.ref x])) he
  have ngl : gl≠ll:=ne_of_none (same_new he (.lst []) _ _ (upd_same (H:=H2) (a:=gl) (o:=.lst [.ref x]))) hll
  have nel : e≠ll:=ne_of_none (upd_same (H:=L2.upd H2 gl (.lst [.ref x])) (a:=e) (o:=.lst [])) hll
  have yg:=S2.young hgl
  have ye:=S2.young he0
  have yl:=S2.young hll0
  have std0 : Std (cK cl) a c gl ll 1 (L2.upd (L2.upd (L2.upd H2 gl (.lst [.ref x])) e (.lst [])) ll (.lst [.ref e])) (fun _=>⟨x,rc,ct,[],[],[]⟩) (fun _=>e) [a,gl,ll,rc,ct]:=by
    have dd:=d2.same v3
    have SS:=S2.same v3
    refine ⟨dd,eg,el,fun _ _=>SS,fun _ _=>⟨by show 0≤12; decide,fun q hq=>(by cases hq),fun q hq=>(by cases hq),fun q hq=>(by cases hq)⟩,fun _ _=>⟨?_,[],ee,rfl,fun i t q e=>(by cases e)⟩,⟨.head _,.tail _ (.head _),.tail _ (.tail _ (.head _))⟩,fun _ _=>⟨.tail _ (.tail _ (.tail _ (.head _))),.tail _ (.tail _ (.tail _ (.tail _ (.head _))))⟩,fun _ _ z hz=>(by cases hz),fun z hz=>?_,fun _ _=>⟨⟨d1.ne hrc1,d1.nc hrc1,yg.1,yl.1⟩,d1.ne hct1,d1.nc hct1,yg.2.1,yl.2.1⟩,fun i j hi hj hij=>absurd (by omega) hij,(d2.ne hgl).symm,(d2.ne hll0).symm,ngl,(d2.nc hgl).symm,(d2.nc hll0).symm⟩
    · simp only [List.mem_cons,List.not_mem_nil,or_false,not_or]
      exact ⟨d2.ne he0,nge.symm,nel,ye.1.symm,ye.2.1.symm⟩
    · simp only [List.mem_cons,List.not_mem_nil,or_false] at hz
      rcases hz with rfl | rfl | rfl | rfl | rfl
      · exact dd.lst
      · exact ⟨_,eg⟩
      · exact ⟨_,el⟩
      · exact ⟨_,SS.rcp.1⟩
      · exact ⟨_,SS.con.1⟩
  generalize L2.upd (L2.upd (L2.upd H2 gl (.lst [.ref x])) e (.lst [])) ll (.lst [.ref e])=H4 at *
  generalize hN : [a,gl,ll,rc,ct]=N at *
  clear v1 v2 v3 eg ee el yg ye yl he0 hll0 nge nel s2 s1 s0 kp hS d1 d2 S2
  refine ⟨_,rfl,a,c,8,rfl,std0.d,by decide,by decide,fun y H5 y0 y1 d5 kb5=>⟨_,rfl,by omega,by omega,?_⟩⟩
  refine for_range (n:=y.toNat) (fun i σ H'=>∃ kf lf o4,σ=[some (.ref a0),some (.ref a),some (.ref gl),some (.ref ll),o4,none]∧Std (cK cl) a c gl ll 1 H' kf lf N∧(kf 0).R.length≤i) ⟨_,_,_,rfl,std0.draw d5 kb5,Nat.zero_le _⟩ ?_ ?_
  · rintro i σ H6 hi ⟨kf,lf,o4,rfl,st,rl⟩
    have A0:=st.ap 0 (by decide)
    refine ⟨_,rfl,_,rfl,gl,_,_,_,rfl,rfl,SqL.of st.g,rfl,_,rfl,ll,_,_,_,rfl,rfl,SqL.of st.l,rfl,?_⟩
    refine ⟨a,c,lf 0,kf 0,N,rfl,st.d,st.S 0 (by decide),st.ok 0 (by decide),by omega,st.L 0 (by decide),st.hN,st.na.1,(st.nk 0 (by decide)).1,(st.nk 0 (by decide)).2,A0.1.1.symm,A0.2.1.symm,A0.1.2.1.symm,A0.2.2.1.symm,fun k' lk' H' hk S' ok' L' d' kp=>?_⟩
    obtain ⟨ell,st'⟩:=st.step (at':=0) (by decide) hk S' ok' L' d' kp
    refine ⟨_,rfl,ll,_,0,0,rfl,rfl,ell,rfl,?_⟩
    refine ⟨_,_,_,rfl,st',?_⟩
    show k'.R.length≤i + 1
    rcases hk with rfl | ⟨d,h,qq,rfl,_⟩
    · omega
    · show ((kf 0).R ++ [qq]).length≤i + 1
      rw [List.length_append,List.length_singleton]; omega
  · rintro σ H6 ⟨kf,lf,o4,rfl,st,rl⟩
    obtain ⟨dx0,ob0⟩:=(st.S 0 (by decide)).ob
    have md1:=st.mid
    have ok0:=st.ok 0 (by decide)
    have el:=st.l
    have ngl':=st.n0.2.2.1.symm
    clear st std0
    refine ⟨_,rfl,.inl ⟨rfl,_,SqL.of md1.g⟩,_,rfl,gl,_,_,_,rfl,rfl,SqL.of md1.g,rfl,(kf 0).p,dx0,_,rfl,ob0,rfl,kf 0,rfl,md1.S 0 (by decide),fun p1 rc1 ct1 H7 hp1 hrc1 hct1 s7 S7=>?_⟩
    obtain ⟨eg7,md2⟩:=md1.twin (i:=0) (by decide) hrc1 hct1 s7 S7
    refine ⟨gl,_,_,rfl,rfl,eg7,by show 1 < sizeLine; decide,?_⟩
    obtain ⟨dx1,ob1⟩:=(md2.S 1 (by decide)).ob
    have el : L2.upd H7 gl (.lst (refs 1 (fun j=>(kf j).p) ++ [.ref p1])) ll=some (.lst (refs 1 lf)):=by rw [upd_ne ngl']; exact s7 _ _ el
    generalize L2.upd H7 gl (.lst (refs 1 (fun j=>(kf j).p) ++ [.ref p1]))=H8 at *
    refine ⟨_,rfl,.inl ⟨rfl,_,SqL.of md2.g⟩,_,rfl,gl,_,_,_,rfl,rfl,SqL.of md2.g,rfl,p1,dx1,_,rfl,ob1,rfl,(kf 0).twin p1 rc1 ct1,rfl,md2.S 1 (by decide),fun p2 rc2 ct2 H9 hp2 hrc2 hct2 s9 S9=>?_⟩
    obtain ⟨eg9,md3⟩:=md2.twin (i:=1) (by decide) hrc2 hct2 s9 S9
    refine ⟨gl,_,_,rfl,rfl,eg9,by show 2 < sizeLine; decide,?_⟩
    have el : L2.upd H9 gl (.lst (refs (1 + 1) (fun j=>((fun j=>if j=1 then (kf 0).twin p1 rc1 ct1 else kf j) j).p) ++ [.ref p2])) ll=some (.lst (refs 1 lf)):=by rw [upd_ne ngl']; exact s9 _ _ el
    generalize hk3 : (fun j=>if j=1 + 1 then ((fun j=>if j=1 then (kf 0).twin p1 rc1 ct1 else kf j) 1).twin p2 rc2 ct2 else (fun j=>if j=1 then (kf 0).twin p1 rc1 ct1 else kf j) j)=kf3 at md3
    generalize L2.upd H9 gl (.lst (refs (1 + 1) (fun j=>((fun j=>if j=1 then (kf 0).twin p1 rc1 ct1 else kf j) j).p) ++ [.ref p2]))=H10 at *
    have r3 : ∀ j,j < 3→(kf3 j).R=(kf 0).R:=md3.RR
    clear hk3 md1 md2 s7 S7 s9 S9 eg7 eg9 ob0 ob1 hp1 hp2 hrc1 hct1 hrc2 hct2 d5 kb5
    generalize (kf 0).R=R0 at *
    generalize hN' : ct2 :: rc2 :: ct1 :: rc1 :: N=N3 at *
    refine ⟨_,rfl,by decide,by decide,fun D hD=>?_⟩
    obtain ⟨_,ts,h0,_⟩:=id md3.L
    refine comp_rngD (n:=(3 : Int).toNat) (fun i zs H'=>∃ ls : List Addr,zs=ls.map V.ref∧ls.length=i∧∀ l∈ls,l ∉ D :: N3∧H' l=some (.lst (ts.map V.ref))) hD (by decide) (fun i zs H H' ⟨ls,h1,h2,h3⟩ nl hk=>⟨ls,h1,h2,fun l m=>⟨(h3 l m).1,hk _ _ (fun z=>(h3 l m).1 (z ▸ .head _)) (h3 l m).2⟩⟩) ⟨[],rfl,rfl,fun l m=>(by cases m)⟩ (fun i zs H11 hi hz s11 ⟨ls,h1,h2,h3⟩ K1 k1=>?_) fun zs H11 s11 ⟨ls,h1,h2,h3⟩ lz hD11=>?_
    · refine ⟨keep_set keep_refl rfl,?_⟩
      refine ⟨_,rfl,ll,_,_,_,rfl,rfl,SqL.of (s11 _ _ el),rfl,lf 0,_,rfl,.inl (SqL.of (s11 _ _ h0)),fun l hl=>?_⟩
      refine k1 _ _ (same_new hl _) ⟨ls ++ [l],by rw [h1,List.map_append]; rfl,by rw [List.length_append,h2]; rfl,fun l' m=>?_⟩
      rcases List.mem_append.mp m with m | m
      · exact ⟨(h3 l' m).1,same_new hl _ _ _ (h3 l' m).2⟩
      · rw [List.mem_singleton.mp m]
        refine ⟨fun mm=>?_,upd_same⟩
        rcases List.mem_cons.mp mm with y | y
        · rw [y,hz] at hl; cases hl
        · obtain ⟨zs',e⟩:=md3.hN l y
          rw [s11 _ _ e] at hl; cases hl
    · match ls,h1,h2,h3 with
      | [x1,x2,x3],h1,h2,h3=>
        subst h1
        have std1 : Std (cK cl) a c gl D 3 H11 kf3 (fun j=>[x1,x2,x3].getD j x1) (D :: N3):=md3.std ok0 hD s11 hD11 fun j hj=>by
          have m : [x1,x2,x3].getD j x1∈[x1,x2,x3]:=by
            match j,hj with
            | 0,_=>exact .head _
            | 1,_=>exact .tail _ (.head _)
            | 2,_=>exact .tail _ (.tail _ (.head _))
          exact ⟨(h3 _ m).1,by rw [(h3 _ m).2,h0]⟩
        clear hD11 h3 md3 s11 el h0 hD
        generalize hN4 : D :: N3=N4 at *
        refine ⟨_,rfl,a,c,5,rfl,std1.d,by decide,by decide,fun y H12 y0 y1 d12 kb12=>⟨_,rfl,by omega,by omega,?_⟩⟩
        refine for_range (n:=y.toNat) (fun i σ H'=>∃ kf lf o4 o5,σ=[some (.ref a0),some (.ref a),some (.ref gl),some (.ref D),o4,o5]∧Std (cK cl) a c gl D 3 H' kf lf N4∧∀ j,j < 3→(kf j).R.length≤7 + i) ⟨_,_,_,_,rfl,std1.draw d12 kb12,fun j hj=>by rw [r3 j hj]; omega⟩ ?_ ?_
        · rintro i σ H13 hi ⟨kf,lf,o4,o5,rfl,st,rl⟩
          refine ⟨_,rfl,a,c,3,rfl,st.d,by decide,by decide,fun v H14 v0 v1 d14 kb14=>?_⟩
          obtain ⟨n,rfl⟩:=Int.eq_ofNat_of_zero_le v0
          have hn : n < 3:=by omega
          have st:=st.draw d14 kb14
          have A0:=st.ap n hn
          have rln:=rl n hn
          refine ⟨_,rfl,_,rfl,_,rfl,gl,_,_,_,rfl,rfl,SqL.of st.g,atI_nat (refs_at hn),_,rfl,_,rfl,D,_,_,_,rfl,rfl,SqL.of st.l,atI_nat (refs_at hn),?_⟩
          refine ⟨a,c,lf n,kf n,N4,rfl,st.d,st.S n hn,st.ok n hn,by omega,st.L n hn,st.hN,st.na.1,(st.nk n hn).1,(st.nk n hn).2,A0.1.1.symm,A0.2.1.symm,A0.1.2.1.symm,A0.2.2.1.symm,fun k' lk' H' hk S' ok' L' d' kp=>?_⟩
          obtain ⟨ell,st'⟩:=st.step (at':=n) hn hk S' ok' L' d' kp
          have hix : ixN (refs 3 lf).length (n : Int)=some n:=by
            match n,hn with
            | 0,_=>rfl
            | 1,_=>rfl
            | 2,_=>rfl
          refine ⟨_,rfl,_,rfl,D,_,_,n,rfl,rfl,ell,hix,?_⟩
          rw [refs_set]
          have rl' : ∀ j,j < 3→((fun j=>if j=n then k' else kf j) j).R.length≤7 + (i + 1):=fun j hj=>by
            by_cases e : j=n
            · dsimp only
              rw [if_pos e]
              rcases hk with rfl | ⟨d,h,qq,rfl,_⟩
              · omega
              · show ((kf n).R ++ [qq]).length≤_
                rw [List.length_append,List.length_singleton]; omega
            · dsimp only
              rw [if_neg e]; have:=rl j hj; omega
          refine ⟨_,rfl,gl,rfl,⟨_,SqL.of st'.g⟩,fun D2 hD2=>?_⟩
          refine looked st' hD2 (fun k H5 K1 hk hok k1=>⟨keep_set keep_refl rfl,_,rfl,k,rfl,hk,hok,k1⟩) fun H5 s5 e5=>?_
          exact ⟨_,rfl,_,_,rfl,e5,fun H7 s7=>⟨_,rfl,iteF ⟨_,_,_,_,rfl,st'.same (s5.trans s7),rl'⟩⟩⟩
        · rintro σ H13 ⟨kf,lf,o4,o5,rfl,st,rl⟩
          refine ⟨_,rfl,gl,rfl,⟨_,SqL.of st.g⟩,fun D2 hD2=>?_⟩
          refine looked st hD2 (fun k H5 K1 hk hok k1=>⟨keep_set keep_refl rfl,_,rfl,k,rfl,hk,hok,k1⟩) fun H5 s5 e5=>?_
          exact ⟨_,rfl,_,_,rfl,e5,fun H7 s7=>q H7⟩
end
end K34
namespace K34
open PySem L2
def clF (c_0 c_10 c_11 c_12 c_22 c_30 : Addr) : Nat→Addr
  | 0=>c_0
  | 10=>c_10
  | 11=>c_11
  | 12=>c_12
  | 22=>c_22
  | 30=>c_30
  | _=>c_0
theorem all_mk {l : PySem.W.OpenLaw} {w : World} {K : PySem.W.Frag} {h : Heap} {mg : Str→Option Value} {fa f0 f1 f2 f3 f4 f5 f6 f7 f8 f9 f10 f11 f12 f13 f14 f15 f16 f17 f18 f19 c_0 c_10 c_11 c_12 c_22 c_30 : Addr} {u_MOST_KINDS u_MOST_NUMBER u_MOST_HELD : Tok} (X : K.In h) (G : h.Ns mainGlobals mg) (hfa : mg "law" = some (.ref fa))
    {od0 an0 od1 an1 od2 an2 od3 an3 od4 an4 od5 an5 od6 an6 od7 an7 od8 an8 od9 an9 od10 an10 od11 an11 od12 an12 od13 an13 od14 an14 od15 an15 od16 an16 od17 an17 od18 an18 od19 an19 : Option Addr} {sl0 sl1 sl2 sl3 sl4 sl5 sl6 sl7 sl8 sl9 sl10 sl11 sl12 sl13 sl14 sl15 sl16 sl17 sl18 sl19 : Array (Option Value)} {oc0 kV0 dc0 pm0 cd0 ct0 oc1 kV1 dc1 pm1 cd1 ct1 oc2 kV2 dc2 pm2 cd2 ct2 oc3 kV3 dc3 pm3 cd3 ct3 oc4 kV4 dc4 pm4 cd4 ct4 oc5 kV5 dc5 pm5 cd5 ct5 oc6 kV6 dc6 pm6 cd6 ct6 oc7 kV7 dc7 pm7 cd7 ct7 oc8 kV8 dc8 pm8 cd8 ct8 oc9 kV9 dc9 pm9 cd9 ct9 oc10 kV10 dc10 pm10 cd10 ct10 oc11 kV11 dc11 pm11 cd11 ct11 oc12 kV12 dc12 pm12 cd12 ct12 oc13 kV13 dc13 pm13 cd13 ct13 oc14 kV14 dc14 pm14 cd14 ct14 oc15 kV15 dc15 pm15 cd15 ct15 oc16 kV16 dc16 pm16 cd16 ct16 oc17 kV17 dc17 pm17 cd17 ct17 oc18 kV18 dc18 pm18 cd18 ct18 oc19 kV19 dc19 pm19 cd19 ct19 : Value}
    (g_Kinds : PySem.W.nsIn K mainGlobals "Kinds" = some (some (.ref c_30)))
    (pg_Kinds : PySem.W.plainGet K c_30 Str.empty=true)
    (hdc_Kinds : PySem.W.hasDictIn K c_30=true)
    (po_Kinds : PySem.W.plainOver K c_30=true)
    (sa_Kinds : PySem.W.findIn K (.ref c_30) "__setattr__" = some (some (.builtin "object.__setattr__")))
    (mk_Kinds : PySem.W.makesIn K c_30=true)
    (kc_Kinds : PySem.W.keepIn K (.ref c_30)=true)
    (n_Kinds_recipes : PySem.W.findIn K (.ref c_30) "recipes" = some none)
    (n_Kinds_contents : PySem.W.findIn K (.ref c_30) "contents" = some none)
    (a0 : PySem.W.nsIn K mainGlobals "check_parts" = some (some (.ref f0)))
    (l0 : K.lookup f0=some ⟨oc0,od0,.func (PySem.W.fnOf "check_parts" "check_parts" (defArgs s_check_parts) (defBody s_check_parts) (defScope s_check_parts) .none kV0 dc0 pm0 an0 cd0 ct0),sl0⟩)
    (c0 : PySem.W.codeIn K cd0 "check_parts" = true)
    (k0 : PySem.W.keepIn K (.ref f0)=true)
    (a1 : PySem.W.findIn K (.ref c_30) "__init__" = some (some (.ref f1)))
    (i1 : PySem.W.isFn K (.ref f1)=true)
    (l1 : K.lookup f1=some ⟨oc1,od1,.func (PySem.W.fnOf "__init__" "Kinds.__init__" (defArgs s_Kinds___init__) (defBody s_Kinds___init__) (defScope s_Kinds___init__) .none kV1 dc1 pm1 an1 cd1 ct1),sl1⟩)
    (c1 : PySem.W.codeIn K cd1 "Kinds.__init__" = true)
    (k1 : PySem.W.keepIn K (.ref f1)=true)
    (a2 : PySem.W.findIn K (.ref c_30) "many" = some (some (.ref f2)))
    (i2 : PySem.W.isFn K (.ref f2)=true)
    (l2 : K.lookup f2=some ⟨oc2,od2,.func (PySem.W.fnOf "many" "Kinds.many" (defArgs s_Kinds_many) (defBody s_Kinds_many) (defScope s_Kinds_many) .none kV2 dc2 pm2 an2 cd2 ct2),sl2⟩)
    (c2 : PySem.W.codeIn K cd2 "Kinds.many" = true)
    (k2 : PySem.W.keepIn K (.ref f2)=true)
    (a3 : PySem.W.findIn K (.ref c_30) "check_kind" = some (some (.ref f3)))
    (i3 : PySem.W.isFn K (.ref f3)=true)
    (l3 : K.lookup f3=some ⟨oc3,od3,.func (PySem.W.fnOf "check_kind" "Kinds.check_kind" (defArgs s_Kinds_check_kind) (defBody s_Kinds_check_kind) (defScope s_Kinds_check_kind) .none kV3 dc3 pm3 an3 cd3 ct3),sl3⟩)
    (c3 : PySem.W.codeIn K cd3 "Kinds.check_kind" = true)
    (k3 : PySem.W.keepIn K (.ref f3)=true)
    (a4 : PySem.W.findIn K (.ref c_30) "is_raw" = some (some (.ref f4)))
    (i4 : PySem.W.isFn K (.ref f4)=true)
    (l4 : K.lookup f4=some ⟨oc4,od4,.func (PySem.W.fnOf "is_raw" "Kinds.is_raw" (defArgs s_Kinds_is_raw) (defBody s_Kinds_is_raw) (defScope s_Kinds_is_raw) .none kV4 dc4 pm4 an4 cd4 ct4),sl4⟩)
    (c4 : PySem.W.codeIn K cd4 "Kinds.is_raw" = true)
    (k4 : PySem.W.keepIn K (.ref f4)=true)
    (a5 : PySem.W.findIn K (.ref c_30) "parts" = some (some (.ref f5)))
    (i5 : PySem.W.isFn K (.ref f5)=true)
    (l5 : K.lookup f5=some ⟨oc5,od5,.func (PySem.W.fnOf "parts" "Kinds.parts" (defArgs s_Kinds_parts) (defBody s_Kinds_parts) (defScope s_Kinds_parts) .none kV5 dc5 pm5 an5 cd5 ct5),sl5⟩)
    (c5 : PySem.W.codeIn K cd5 "Kinds.parts" = true)
    (k5 : PySem.W.keepIn K (.ref f5)=true)
    (a6 : PySem.W.findIn K (.ref c_30) "holds" = some (some (.ref f6)))
    (i6 : PySem.W.isFn K (.ref f6)=true)
    (l6 : K.lookup f6=some ⟨oc6,od6,.func (PySem.W.fnOf "holds" "Kinds.holds" (defArgs s_Kinds_holds) (defBody s_Kinds_holds) (defScope s_Kinds_holds) .none kV6 dc6 pm6 an6 cd6 ct6),sl6⟩)
    (c6 : PySem.W.codeIn K cd6 "Kinds.holds" = true)
    (k6 : PySem.W.keepIn K (.ref f6)=true)
    (a7 : PySem.W.findIn K (.ref c_30) "held_by" = some (some (.ref f7)))
    (i7 : PySem.W.isFn K (.ref f7)=true)
    (l7 : K.lookup f7=some ⟨oc7,od7,.func (PySem.W.fnOf "held_by" "Kinds.held_by" (defArgs s_Kinds_held_by) (defBody s_Kinds_held_by) (defScope s_Kinds_held_by) .none kV7 dc7 pm7 an7 cd7 ct7),sl7⟩)
    (c7 : PySem.W.codeIn K cd7 "Kinds.held_by" = true)
    (k7 : PySem.W.keepIn K (.ref f7)=true)
    (a8 : PySem.W.findIn K (.ref c_30) "put" = some (some (.ref f8)))
    (i8 : PySem.W.isFn K (.ref f8)=true)
    (l8 : K.lookup f8=some ⟨oc8,od8,.func (PySem.W.fnOf "put" "Kinds.put" (defArgs s_Kinds_put) (defBody s_Kinds_put) (defScope s_Kinds_put) .none kV8 dc8 pm8 an8 cd8 ct8),sl8⟩)
    (c8 : PySem.W.codeIn K cd8 "Kinds.put" = true)
    (k8 : PySem.W.keepIn K (.ref f8)=true)
    (a9 : PySem.W.findIn K (.ref c_30) "raw" = some (some (.ref f9)))
    (i9 : PySem.W.isFn K (.ref f9)=true)
    (l9 : K.lookup f9=some ⟨oc9,od9,.func (PySem.W.fnOf "raw" "Kinds.raw" (defArgs s_Kinds_raw) (defBody s_Kinds_raw) (defScope s_Kinds_raw) .none kV9 dc9 pm9 an9 cd9 ct9),sl9⟩)
    (c9 : PySem.W.codeIn K cd9 "Kinds.raw" = true)
    (k9 : PySem.W.keepIn K (.ref f9)=true)
    (a10 : PySem.W.findIn K (.ref c_30) "made" = some (some (.ref f10)))
    (i10 : PySem.W.isFn K (.ref f10)=true)
    (l10 : K.lookup f10=some ⟨oc10,od10,.func (PySem.W.fnOf "made" "Kinds.made" (defArgs s_Kinds_made) (defBody s_Kinds_made) (defScope s_Kinds_made) .none kV10 dc10 pm10 an10 cd10 ct10),sl10⟩)
    (c10 : PySem.W.codeIn K cd10 "Kinds.made" = true)
    (k10 : PySem.W.keepIn K (.ref f10)=true)
    (a11 : PySem.W.findIn K (.ref c_30) "twin" = some (some (.ref f11)))
    (i11 : PySem.W.isFn K (.ref f11)=true)
    (l11 : K.lookup f11=some ⟨oc11,od11,.func (PySem.W.fnOf "twin" "Kinds.twin" (defArgs s_Kinds_twin) (defBody s_Kinds_twin) (defScope s_Kinds_twin) .none kV11 dc11 pm11 an11 cd11 ct11),sl11⟩)
    (c11 : PySem.W.codeIn K cd11 "Kinds.twin" = true)
    (k11 : PySem.W.keepIn K (.ref f11)=true)
    (a12 : PySem.W.nsIn K mainGlobals "_law_pick" = some (some (.ref f12)))
    (l12 : K.lookup f12=some ⟨oc12,od12,.func (PySem.W.fnOf "_law_pick" "_law_pick" (defArgs s_pick) (defBody s_pick) (defScope s_pick) .none kV12 dc12 pm12 an12 cd12 ct12),sl12⟩)
    (c12 : PySem.W.codeIn K cd12 "_law_pick" = true)
    (k12 : PySem.W.keepIn K (.ref f12)=true)
    (a13 : PySem.W.nsIn K mainGlobals "_law_parts" = some (some (.ref f13)))
    (l13 : K.lookup f13=some ⟨oc13,od13,.func (PySem.W.fnOf "_law_parts" "_law_parts" (defArgs s_parts) (defBody s_parts) (defScope s_parts) .none kV13 dc13 pm13 an13 cd13 ct13),sl13⟩)
    (c13 : PySem.W.codeIn K cd13 "_law_parts" = true)
    (k13 : PySem.W.keepIn K (.ref f13)=true)
    (a14 : PySem.W.nsIn K mainGlobals "_law_holding" = some (some (.ref f14)))
    (l14 : K.lookup f14=some ⟨oc14,od14,.func (PySem.W.fnOf "_law_holding" "_law_holding" (defArgs s_holding) (defBody s_holding) (defScope s_holding) .none kV14 dc14 pm14 an14 cd14 ct14),sl14⟩)
    (c14 : PySem.W.codeIn K cd14 "_law_holding" = true)
    (k14 : PySem.W.keepIn K (.ref f14)=true)
    (a15 : PySem.W.nsIn K mainGlobals "_law_begin" = some (some (.ref f15)))
    (l15 : K.lookup f15=some ⟨oc15,od15,.func (PySem.W.fnOf "_law_begin" "_law_begin" (defArgs s_begin) (defBody s_begin) (defScope s_begin) .none kV15 dc15 pm15 an15 cd15 ct15),sl15⟩)
    (c15 : PySem.W.codeIn K cd15 "_law_begin" = true)
    (k15 : PySem.W.keepIn K (.ref f15)=true)
    (a16 : PySem.W.nsIn K mainGlobals "_law_same" = some (some (.ref f16)))
    (l16 : K.lookup f16=some ⟨oc16,od16,.func (PySem.W.fnOf "_law_same" "_law_same" (defArgs s_same) (defBody s_same) (defScope s_same) .none kV16 dc16 pm16 an16 cd16 ct16),sl16⟩)
    (c16 : PySem.W.codeIn K cd16 "_law_same" = true)
    (k16 : PySem.W.keepIn K (.ref f16)=true)
    (a17 : PySem.W.nsIn K mainGlobals "_law_look" = some (some (.ref f17)))
    (l17 : K.lookup f17=some ⟨oc17,od17,.func (PySem.W.fnOf "_law_look" "_law_look" (defArgs s_look) (defBody s_look) (defScope s_look) .none kV17 dc17 pm17 an17 cd17 ct17),sl17⟩)
    (c17 : PySem.W.codeIn K cd17 "_law_look" = true)
    (k17 : PySem.W.keepIn K (.ref f17)=true)
    (a18 : PySem.W.nsIn K mainGlobals "_law_more" = some (some (.ref f18)))
    (l18 : K.lookup f18=some ⟨oc18,od18,.func (PySem.W.fnOf "_law_more" "_law_more" (defArgs s_more) (defBody s_more) (defScope s_more) .none kV18 dc18 pm18 an18 cd18 ct18),sl18⟩)
    (c18 : PySem.W.codeIn K cd18 "_law_more" = true)
    (k18 : PySem.W.keepIn K (.ref f18)=true)
    (a19 : PySem.W.nsIn K mainGlobals "law" = some (some (.ref f19)))
    (l19 : K.lookup f19=some ⟨oc19,od19,.func (PySem.W.fnOf "law" "law" (defArgs s_law) (defBody s_law) (defScope s_law) .none kV19 dc19 pm19 an19 cd19 ct19),sl19⟩)
    (c19 : PySem.W.codeIn K cd19 "law" = true)
    (k19 : PySem.W.keepIn K (.ref f19)=true)
    (z_len : PySem.W.nsIn K mainGlobals "len" = some none)
    (z_list : PySem.W.nsIn K mainGlobals "list" = some none)
    (z_isi : PySem.W.nsIn K mainGlobals "isinstance" = some none)
    (z_bool : PySem.W.nsIn K mainGlobals "bool" = some none)
    (z_int : PySem.W.nsIn K mainGlobals "int" = some none)
    (z_str : PySem.W.nsIn K mainGlobals "str" = some none)
    (z_tuple : PySem.W.nsIn K mainGlobals "tuple" = some none)
    (z_all : PySem.W.nsIn K mainGlobals "all" = some none)
    (z_any : PySem.W.nsIn K mainGlobals "any" = some none)
    (z_zip : PySem.W.nsIn K mainGlobals "zip" = some none)
    (z_range : PySem.W.nsIn K mainGlobals "range" = some none)
    (z_max : PySem.W.nsIn K mainGlobals "max" = some none)
    (z_min : PySem.W.nsIn K mainGlobals "min" = some none)
    (z_enumerate : PySem.W.nsIn K mainGlobals "enumerate" = some none)
    (z_sum : PySem.W.nsIn K mainGlobals "sum" = some none)
    (z_sorted : PySem.W.nsIn K mainGlobals "sorted" = some none)
    (z_verr : PySem.W.nsIn K mainGlobals "ValueError" = some none)
    (g_MOST_KINDS : PySem.W.nsIn K mainGlobals "MOST_KINDS" = some (some (.int 12 u_MOST_KINDS)))
    (g_MOST_NUMBER : PySem.W.nsIn K mainGlobals "MOST_NUMBER" = some (some (.int 100 u_MOST_NUMBER)))
    (g_MOST_HELD : PySem.W.nsIn K mainGlobals "MOST_HELD" = some (some (.int 10000 u_MOST_HELD)))
    (g_0 : PySem.W.nsIn K mainGlobals "CustomsError" = some (some (.ref c_0)))
    (g_1 : PySem.W.nsIn K mainGlobals "BadParts" = some (some (.ref c_10)))
    (g_2 : PySem.W.nsIn K mainGlobals "TooMuch" = some (some (.ref c_11)))
    (g_3 : PySem.W.nsIn K mainGlobals "NoKind" = some (some (.ref c_12)))
    (g_4 : PySem.W.nsIn K mainGlobals "Full" = some (some (.ref c_22)))
    (x_1 : PySem.W.excIn K c_10 vbm "ValueError.__new__" = true)
    (x_2 : PySem.W.excIn K c_11 vbm "ValueError.__new__" = true)
    (x_3 : PySem.W.excIn K c_12 vbm "ValueError.__new__" = true)
    (x_4 : PySem.W.excIn K c_22 vbm "ValueError.__new__" = true)
    : ∃ fd : FuncData,(∀ (s : Shared) (v : Value),BindsTo s fd ⟨[v],[]⟩ [("_law_script",v)])∧∀ base : Heap,K.In base→base.Ns mainGlobals mg→FnOk l.prog w K mg base CX0 7 fa fd ["_law_script"] (spLaw K):=by
  have e:=hfa.symm.trans (PySem.W.mg_of X G a19)
  cases e
  have F0:=fun_mk (st:=s_check_parts) l0 c0 k0
  have F1:=fun_mk (st:=s_Kinds___init__) l1 c1 k1
  have F2:=fun_mk (st:=s_Kinds_many) l2 c2 k2
  have F3:=fun_mk (st:=s_Kinds_check_kind) l3 c3 k3
  have F4:=fun_mk (st:=s_Kinds_is_raw) l4 c4 k4
  have F5:=fun_mk (st:=s_Kinds_parts) l5 c5 k5
  have F6:=fun_mk (st:=s_Kinds_holds) l6 c6 k6
  have F7:=fun_mk (st:=s_Kinds_held_by) l7 c7 k7
  have F8:=fun_mk (st:=s_Kinds_put) l8 c8 k8
  have F9:=fun_mk (st:=s_Kinds_raw) l9 c9 k9
  have F10:=fun_mk (st:=s_Kinds_made) l10 c10 k10
  have F11:=fun_mk (st:=s_Kinds_twin) l11 c11 k11
  have F12:=fun_mk (st:=s_pick) l12 c12 k12
  have F13:=fun_mk (st:=s_parts) l13 c13 k13
  have F14:=fun_mk (st:=s_holding) l14 c14 k14
  have F15:=fun_mk (st:=s_begin) l15 c15 k15
  have F16:=fun_mk (st:=s_same) l16 c16 k16
  have F17:=fun_mk (st:=s_look) l17 c17 k17
  have F18:=fun_mk (st:=s_more) l18 c18 k18
  have F19:=fun_mk (st:=s_law) l19 c19 k19
  have b0:=F0.binds (ps:=p_check_parts) fun _ _ _ _ _ _ us hl=>match us,hl with | [_,_],_=>rfl
  have m0:=PySem.W.mg_of X G a0
  have b1:=F1.binds (ps:=p_Kinds___init__) fun _ _ _ _ _ _ us hl=>match us,hl with | [_],_=>rfl
  have b2:=F2.binds (ps:=p_Kinds_many) fun _ _ _ _ _ _ us hl=>match us,hl with | [_],_=>rfl
  have b3:=F3.binds (ps:=p_Kinds_check_kind) fun _ _ _ _ _ _ us hl=>match us,hl with | [_,_],_=>rfl
  have b4:=F4.binds (ps:=p_Kinds_is_raw) fun _ _ _ _ _ _ us hl=>match us,hl with | [_,_],_=>rfl
  have b5:=F5.binds (ps:=p_Kinds_parts) fun _ _ _ _ _ _ us hl=>match us,hl with | [_,_],_=>rfl
  have b6:=F6.binds (ps:=p_Kinds_holds) fun _ _ _ _ _ _ us hl=>match us,hl with | [_,_],_=>rfl
  have b7:=F7.binds (ps:=p_Kinds_held_by) fun _ _ _ _ _ _ us hl=>match us,hl with | [_,_],_=>rfl
  have b8:=F8.binds (ps:=p_Kinds_put) fun _ _ _ _ _ _ us hl=>match us,hl with | [_,_,_],_=>rfl
  have b9:=F9.binds (ps:=p_Kinds_raw) fun _ _ _ _ _ _ us hl=>match us,hl with | [_],_=>rfl
  have b10:=F10.binds (ps:=p_Kinds_made) fun _ _ _ _ _ _ us hl=>match us,hl with | [_,_],_=>rfl
  have b11:=F11.binds (ps:=p_Kinds_twin) fun _ _ _ _ _ _ us hl=>match us,hl with | [_],_=>rfl
  have b12:=F12.binds (ps:=p_pick) fun _ _ _ _ _ _ us hl=>match us,hl with | [_,_],_=>rfl
  have m12:=PySem.W.mg_of X G a12
  have b13:=F13.binds (ps:=p_parts) fun _ _ _ _ _ _ us hl=>match us,hl with | [_,_,_],_=>rfl
  have m13:=PySem.W.mg_of X G a13
  have b14:=F14.binds (ps:=p_holding) fun _ _ _ _ _ _ us hl=>match us,hl with | [_,_],_=>rfl
  have m14:=PySem.W.mg_of X G a14
  have b15:=F15.binds (ps:=p_begin) fun _ _ _ _ _ _ us hl=>match us,hl with | [_],_=>rfl
  have m15:=PySem.W.mg_of X G a15
  have b16:=F16.binds (ps:=p_same) fun _ _ _ _ _ _ us hl=>match us,hl with | [_,_],_=>rfl
  have m16:=PySem.W.mg_of X G a16
  have b17:=F17.binds (ps:=p_look) fun _ _ _ _ _ _ us hl=>match us,hl with | [_],_=>rfl
  have m17:=PySem.W.mg_of X G a17
  have b18:=F18.binds (ps:=p_more) fun _ _ _ _ _ _ us hl=>match us,hl with | [_,_,_],_=>rfl
  have m18:=PySem.W.mg_of X G a18
  have B : Bn mg:=⟨PySem.W.mg_none_of X G z_len,PySem.W.mg_none_of X G z_list,PySem.W.mg_none_of X G z_isi,PySem.W.mg_none_of X G z_bool,PySem.W.mg_none_of X G z_int,PySem.W.mg_none_of X G z_str,PySem.W.mg_none_of X G z_tuple,PySem.W.mg_none_of X G z_all,PySem.W.mg_none_of X G z_any,PySem.W.mg_none_of X G z_zip,PySem.W.mg_none_of X G z_range,PySem.W.mg_none_of X G z_max,PySem.W.mg_none_of X G z_min,PySem.W.mg_none_of X G z_enumerate,PySem.W.mg_none_of X G z_sum,PySem.W.mg_none_of X G z_sorted,PySem.W.mg_none_of X G z_verr⟩
  have TY : ∃ cl : Nat→Addr,cl 30=c_30∧Txt K mg cl:=by
    refine ⟨(clF c_0 c_10 c_11 c_12 c_22 c_30),rfl,⟨⟨_,PySem.W.mg_of X G g_MOST_KINDS⟩,⟨_,PySem.W.mg_of X G g_MOST_NUMBER⟩,⟨_,PySem.W.mg_of X G g_MOST_HELD⟩,PySem.W.mg_of X G g_0,PySem.W.mg_of X G g_1,PySem.W.mg_of X G g_2,PySem.W.mg_of X G g_3,PySem.W.mg_of X G g_4,x_1,x_2,x_3,x_4,⟨pg_Kinds,hdc_Kinds,po_Kinds,sa_Kinds⟩,n_Kinds_recipes,n_Kinds_contents⟩⟩
  obtain ⟨cl,e_Kinds,T⟩:=TY
  subst e_Kinds
  refine ⟨PySem.W.fnOf "law" "law" (defArgs s_law) (defBody s_law) (defScope s_law) .none kV19 dc19 pm19 an19 cd19 ct19,fun s v=>.of_eq rfl,fun base _ _=>?_⟩
  have G0 : Cal l.prog w K mg base (CXE l.prog w) 1 "check_parts" p_check_parts (spChkParts (cl 10)):=⟨⟨_,_,ok_check_parts T B F0,b0,k0,m0⟩⟩
  have G1 : CalI l.prog w K mg base CX0 1 (cK cl) "Kinds" p_Kinds___init__ (spKInit (cK cl)):=⟨⟨_,_,ok_Kinds_init T B F1,b1,⟨mk_Kinds,a1,i1,kc_Kinds⟩,PySem.W.mg_of X G g_Kinds⟩⟩
  have G2 : CalM l.prog w K mg base CX0 1 (cK cl) "many" p_Kinds_many (spKMany (cK cl)):=⟨⟨_,_,ok_Kinds_many T B F2,b2,⟨a2,i2,k2⟩⟩⟩
  have G3 : CalM l.prog w K mg base (CXE l.prog w) 2 (cK cl) "check_kind" p_Kinds_check_kind (spKCheck (cK cl) (cl 12)):=⟨⟨_,_,ok_Kinds_check_kind T B G2 F3,b3,⟨a3,i3,k3⟩⟩⟩
  have G4 : CalM l.prog w K mg base (CXE l.prog w) 3 (cK cl) "is_raw" p_Kinds_is_raw (spKRawQ (cK cl) (cl 12)):=⟨⟨_,_,ok_Kinds_is_raw T B G3 F4,b4,⟨a4,i4,k4⟩⟩⟩
  have G5 : CalM l.prog w K mg base (CXE l.prog w) 3 (cK cl) "parts" p_Kinds_parts (spKParts (cK cl) (cl 12)):=⟨⟨_,_,ok_Kinds_parts T B G3 F5,b5,⟨a5,i5,k5⟩⟩⟩
  have G6 : CalM l.prog w K mg base (CXE l.prog w) 3 (cK cl) "holds" p_Kinds_holds (spKHolds (cK cl) (cl 12)):=⟨⟨_,_,ok_Kinds_holds T B G3 F6,b6,⟨a6,i6,k6⟩⟩⟩
  have G7 : CalM l.prog w K mg base CX0 1 (cK cl) "held_by" p_Kinds_held_by (spKHeld (cK cl)):=⟨⟨_,_,ok_Kinds_held_by T B F7,b7,⟨a7,i7,k7⟩⟩⟩
  have G8 : CalM l.prog w K mg base (CXE l.prog w) 2 (cK cl) "put" p_Kinds_put (spKPut (cK cl) (cl 22)):=⟨⟨_,_,ok_Kinds_put T B G2 F8,b8,⟨a8,i8,k8⟩⟩⟩
  have G9 : CalM l.prog w K mg base (CXE l.prog w) 3 (cK cl) "raw" p_Kinds_raw (spKRaw (cK cl) (cl 22)):=⟨⟨_,_,ok_Kinds_raw T B G2 G8 F9,b9,⟨a9,i9,k9⟩⟩⟩
  have G10 : CalM l.prog w K mg base (CXE l.prog w) 3 (cK cl) "made" p_Kinds_made (spKMade cl (cK cl)):=⟨⟨_,_,ok_Kinds_made T B G0 G2 G7 G8 F10,b10,⟨a10,i10,k10⟩⟩⟩
  have G11 : CalM l.prog w K mg base CX0 3 (cK cl) "twin" p_Kinds_twin (spKTwin (cK cl)):=⟨⟨_,_,ok_Kinds_twin T B G1 F11,b11,⟨a11,i11,k11⟩⟩⟩
  have G12 : Cal l.prog w K mg base CX0 1 "_law_pick" p_pick spPick:=⟨⟨_,_,ok_pick F12 B,b12,k12,m12⟩⟩
  have G13 : Cal l.prog w K mg base CX0 2 "_law_parts" p_parts spLParts:=⟨⟨_,_,ok_parts B G12 F13,b13,k13,m13⟩⟩
  have G14 : Cal l.prog w K mg base CX0 1 "_law_holding" p_holding spLHold:=⟨⟨_,_,ok_holding B F14,b14,k14,m14⟩⟩
  have G15 : Cal l.prog w K mg base CX0 1 "_law_begin" p_begin (spBegin K):=⟨⟨_,_,ok_begin F15 B,b15,k15,m15⟩⟩
  have G16 : Cal l.prog w K mg base CX0 6 "_law_same" p_same (spSame 6):=⟨⟨_,_,ok_same F16 B b16 k16 m16 6,b16,k16,m16⟩⟩
  have G17 : Cal l.prog w K mg base CX0 4 "_law_look" p_look (spLook (cK cl)):=⟨⟨_,_,ok_look T B G2 G4 G5 G6 F17,b17,k17,m17⟩⟩
  have G18 : Cal l.prog w K mg base CX0 4 "_law_more" p_more (spMore (cK cl)):=⟨⟨_,_,ok_more T B G12 G13 G14 G9 G10 F18,b18,k18,m18⟩⟩
  exact ok_law T B G15 G12 G16 G18 G17 G1 G11 F19
theorem walk {l : PySem.W.OpenLaw} {q : Program} {loose : List Str} {XP : (Str→Option Value)→Heap→Prop} {YP : World→Heap→Prop} {d : DefRec} {K : Params→PySem.W.Frag} (hn : l.most=some 63) (hdf : d.params.defaults=[])
    (hY : ∀ (w : World) (h : Heap),YP w h→(K w.params).In h)
    (F : ∀ (w : World) (mg : Str→Option Value) (fa : Addr) (h : Heap),(K w.params).In h→h.Ns mainGlobals mg→mg d.name=some (.ref fa)→
      ∃ fd : FuncData,(∀ (s : Shared) (u : Value),BindsTo s fd ⟨[u],[]⟩ [("_law_script",u)])∧∀ base : Heap,(K w.params).In base→base.Ns mainGlobals mg→FnOk l.prog w (K w.params) mg base CX0 7 fa fd ["_law_script"] (spLaw (K w.params))) :
    PySem.W.WalkO q loose XP YP l.row.toRowW d [] (fun f vs=>PySem.call f vs):=
  L2.walk_of (n:=63) (k:=7) (x := "_law_script") (CX:=fun _=>CX0) (sp:=fun w=>spLaw (K w.params)) hn (by decide) hdf ⟨rfl,by decide,by decide⟩ hY F (fun _ _ a ns hl _ hS=>⟨a,ns,rfl,hS,hl,fun _=>rfl⟩) fun _ _ _ _ _ z=>z
end K34
def PySem.W.Fast.tw1452246651734596690 : Nat:=0
def PySem.W.Fast.tw1639412594676796586 : Nat:=0
def PySem.W.Fast.tw1532269988190427338 : Nat:=0
def PySem.W.Fast.tw17466319438143238831 : Nat:=0
def PySem.W.Fast.tw10685623836800361695 : Nat:=0
def PySem.W.Fast.tw15012220365930073003 : Nat:=0
def PySem.W.Fast.tw12273807358668428900 : Nat:=0
def PySem.W.Fast.tw8746934822762004530 : Nat:=0
def PySem.W.Fast.tw5662949623326279384 : Nat:=0
def PySem.W.Fast.tw1421970464927825034 : Nat:=0
def PySem.W.Fast.tw9971708663549208477 : Nat:=0
def PySem.W.Fast.tw5317171163607345656 : Nat:=0
def PySem.W.Fast.tw8871093868351711370 : Nat:=0
def PySem.W.Fast.tw12709883600202427147 : Nat:=0
def PySem.W.Fast.tw18288904749221092769 : Nat:=0
def PySem.W.Fast.tw1242506591883710461 : Nat:=0
def PySem.W.Fast.tw53025081408201629 : Nat:=0
def PySem.W.Fast.tw814597341676120858 : Nat:=0
def PySem.W.Fast.tw504332186898361673 : Nat:=0
def PySem.W.Fast.tw7693383346836322636 : Nat:=0
def PySem.W.Fast.tw641995950307978967 : Nat:=0
def PySem.W.Fast.tw9614685195724622646 : Nat:=0
def PySem.W.Fast.tw5398140515090745034 : Nat:=0
def PySem.W.Fast.tw2645479869982219540 : Nat:=0
def PySem.W.Fast.tw7943323141523350037 : Nat:=0
def PySem.W.Fast.tw11755255826973377315 : Nat:=0
def PySem.W.Fast.tw5643419987538872194 : Nat:=0
def PySem.W.Fast.tw6585890784729307265 : Nat:=0
def PySem.W.Fast.tw12572369538728182213 : Nat:=0
def PySem.W.Fast.tw884723493244423751 : Nat:=0
def PySem.W.Fast.tw11050105178516626707 : Nat:=0
def PySem.W.Fast.tw8604381920928140591 : Nat:=0
def PySem.W.Fast.tw15249395421504863288 : Nat:=0
def PySem.W.Fast.tw7434900490180365978 : Nat:=0
def PySem.W.Fast.tw18072629297872785823 : Nat:=0
def PySem.W.Fast.tw2253472473844133176 : Nat:=0
def PySem.W.Fast.tw13524147241056984154 : Nat:=0
def PySem.W.Fast.tw8234894970896604775 : Nat:=0
def PySem.W.Fast.tw6704293040317931598 : Nat:=0
def PySem.W.Fast.tw12082880843209011442 : Nat:=0
def PySem.W.Fast.tw3692287524643142608 : Nat:=0
def PySem.W.Fast.tw13605762807061411200 : Nat:=0
def PySem.W.Fast.tw5979957636395131788 : Nat:=0
def PySem.W.Fast.tw6261902893175501497 : Nat:=0
def PySem.W.Fast.tw10222980497515505381 : Nat:=0
def PySem.W.Fast.tw2300044688275032688 : Nat:=0
def PySem.W.Fast.tw17747086356715002510 : Nat:=0
def PySem.W.Fast.tw9089909284222827280 : Nat:=0
def PySem.W.Fast.tw1732114139414689574 : Nat:=0
def PySem.W.Fast.tw14198586322816367680 : Nat:=0
def PySem.W.Fast.tw13511656657182301984 : Nat:=0
def PySem.W.Fast.tw4645400365503563912 : Nat:=0
def PySem.W.Fast.tw2399374240101530543 : Nat:=0
def PySem.W.Fast.tw4603564590716701639 : Nat:=0
def PySem.W.Fast.tw16982862407513855766 : Nat:=0
def PySem.W.Fast.tw7504902663891715811 : Nat:=0
def PySem.W.Fast.tw717981021716195999 : Nat:=0
def PySem.W.Fast.tw499956179526898629 : Nat:=0
def PySem.W.Fast.tw7539156965783308415 : Nat:=0
def PySem.W.Fast.tw309710162403409561 : Nat:=0
def PySem.W.Fast.tw6986321000395253182 : Nat:=0
def PySem.W.Fast.tw15396489527168159622 : Nat:=0
def PySem.W.Fast.tw7462883231293960789 : Nat:=0
def PySem.W.Fast.tw15059152250802780266 : Nat:=0
def PySem.W.Fast.tw6970209943154209733 : Nat:=0
def PySem.W.Fast.tw8821083921401313419 : Nat:=0
def PySem.W.Fast.tw16882692941210369675 : Nat:=0
def PySem.W.Fast.tw2710887759995286541 : Nat:=0
def PySem.W.Fast.tw6299519468077996417 : Nat:=0
def PySem.W.Fast.tw11316862373034236672 : Nat:=0
def PySem.W.Fast.tw6441632896250293047 : Nat:=0
def PySem.W.Fast.tw11477592467496823365 : Nat:=0
def PySem.W.Fast.tw15255629954987473001 : Nat:=0
def PySem.W.Fast.tw18237994969269204153 : Nat:=0
def PySem.W.Fast.tw12964762478600596562 : Nat:=0
def PySem.W.Fast.tw16261166342885157663 : Nat:=0
def PySem.W.Fast.tw5587244021773373149 : Nat:=0
def PySem.W.Fast.tw15846433621552055957 : Nat:=0
def PySem.W.Fast.tw6606990165292514281 : Nat:=0
def PySem.W.Fast.tw9604570823826516936 : Nat:=0
def PySem.W.Fast.tw124428827599950435 : Nat:=0
def PySem.W.Fast.tw12439868226408977608 : Nat:=0
def PySem.W.Fast.tw16263689437728404349 : Nat:=0
def PySem.W.Fast.tw14268247887866834355 : Nat:=0
def PySem.W.Fast.tw8937256026470939964 : Nat:=0
def PySem.W.Fast.tw16578798702430402210 : Nat:=0
def PySem.W.Fast.tw1342092944220218553 : Nat:=0
def PySem.W.Fast.tw5099996960877949272 : Nat:=0
def PySem.W.Fast.tw1807250319680920605 : Nat:=0
def PySem.W.Fast.tw8840754530760049517 : Nat:=0
def PySem.W.Fast.tw1693240821973371416 : Nat:=0
def PySem.W.Fast.tw5625585534136344160 : Nat:=0
def PySem.W.Fast.tw16216858000524748369 : Nat:=0
def PySem.W.Fast.tw1614803771843405535 : Nat:=0
def PySem.W.Fast.tw5136436926882088654 : Nat:=0
def PySem.W.Fast.tw1240063326271849821 : Nat:=0
def PySem.W.Fast.tw17402321025897047176 : Nat:=0
def PySem.W.Fast.tw16618841086677627341 : Nat:=0
def PySem.W.Fast.tw16588708408401403253 : Nat:=0
def PySem.W.Fast.tw6365069272983391339 : Nat:=0
def PySem.W.Fast.tw16636497916505638444 : Nat:=0
def PySem.W.Fast.tw4360300932252831206 : Nat:=0
def PySem.W.Fast.tw4664135564150112807 : Nat:=0
def PySem.W.Fast.tw3240318794252962365 : Nat:=0
def PySem.W.Fast.tw452930063322141408 : Nat:=0
def PySem.W.Fast.tw11805319361814900332 : Nat:=0
def PySem.W.Fast.tw7085975524865218830 : Nat:=0
def PySem.W.Fast.tw16941409681366471701 : Nat:=0
def PySem.W.Fast.tw12386451250300883795 : Nat:=0
def PySem.W.Fast.tw13258215037977905515 : Nat:=0
def PySem.W.Fast.tw11773986854377476308 : Nat:=0
def PySem.W.Fast.tw7169280143538417883 : Nat:=0
def PySem.W.Fast.tw8615890534184357162 : Nat:=0
def PySem.W.Fast.tw6277065329409783841 : Nat:=0
def PySem.W.Fast.tw12959594036701841975 : Nat:=0
def PySem.W.Fast.tw9515333040461902693 : Nat:=0
def PySem.W.Fast.tw7537841153811456369 : Nat:=0
def PySem.W.Fast.tw439222838290601531 : Nat:=0
def PySem.W.Fast.tw9406941881538537422 : Nat:=0
def PySem.W.Fast.tw4860951019575997672 : Nat:=0
def PySem.W.Fast.tw8688039417632140793 : Nat:=0
def PySem.W.Fast.tw2225964420428709763 : Nat:=0
def PySem.W.Fast.tw14677848100159711766 : Nat:=0
def PySem.W.Fast.tw15712355498267777620 : Nat:=0
def PySem.W.Fast.tw7831893093485357132 : Nat:=0
def PySem.W.Fast.tw16871239253094802539 : Nat:=0
def PySem.W.Fast.tw10427936811152264144 : Nat:=0
def PySem.W.Fast.tw4054717725629175230 : Nat:=0
def PySem.W.Fast.tw7808945140062030215 : Nat:=0
def PySem.W.Fast.tw5648919235576689740 : Nat:=0
def PySem.W.Fast.tw887417754578722854 : Nat:=0
def PySem.W.Fast.tw798765941989746342 : Nat:=0
def PySem.W.Fast.tw4707016798982354878 : Nat:=0
def PySem.W.Fast.tw6055905490420881639 : Nat:=0
def PySem.W.Fast.tw12439708509068688921 : Nat:=0
def PySem.W.Fast.tw3434856067420027919 : Nat:=0
def PySem.W.Fast.tw5624366979058665516 : Nat:=0
def PySem.W.Fast.tw861197547742701517 : Nat:=0
def PySem.W.Fast.tw12297630888430059339 : Nat:=0
def PySem.W.Fast.tw7662006201975672680 : Nat:=0
def PySem.W.Fast.tw15542098211061415180 : Nat:=0
def PySem.W.Fast.tw12375225019641877371 : Nat:=0
def PySem.W.Fast.tw11479210885283951523 : Nat:=0
def PySem.W.Fast.tw5417623737442972400 : Nat:=0
def PySem.W.Fast.tw2716046117130813292 : Nat:=0
def PySem.W.Fast.tw8686297781148185405 : Nat:=0
def PySem.W.Fast.tw1133331804549548823 : Nat:=0
def PySem.W.Fast.tw7141988288732601381 : Nat:=0
def PySem.W.Fast.tw3913576136700376848 : Nat:=0
def PySem.W.Fast.tw12050970108436211779 : Nat:=0
def PySem.W.Fast.tw16364252486908331165 : Nat:=0
def PySem.W.Fast.tw17980359684301111158 : Nat:=0
def PySem.W.Fast.tw13238015921790150716 : Nat:=0
def PySem.W.Fast.tw8366936728573807005 : Nat:=0
def PySem.W.Fast.tw1960049326276058406 : Nat:=0
def PySem.W.Fast.tw9873998570022967373 : Nat:=0
open PySem PySem.W PyProof.Rows
set_option maxRecDepth 100000 in
set_option maxHeartbeats 0 in
theorem PySem.Challenge.cw_drawback_k34_kinds_and_twins_holds : PySem.Challenge.rw_drawback_k34_kinds_and_twins.Holds := by
  w_on; o_law; k_head; (case hw=>w_witness2)
  k_fill
  refine K34.walk (l:=PySem.Challenge.rw_drawback_k34_kinds_and_twins) rfl rfl (fun w h Y=>PySem.W.kIn_of Y) ?F
  case F=>
    intro w mg fa h KX G hmg
    refine' K34.all_mk KX G hmg ?g_Kinds ?pg_Kinds ?hdc_Kinds ?po_Kinds ?sa_Kinds ?mk_Kinds ?kc_Kinds ?n_Kinds_recipes ?n_Kinds_contents ?a0 ?l0 ?c0 ?k0 ?a1 ?i1 ?l1 ?c1 ?k1 ?a2 ?i2 ?l2 ?c2 ?k2 ?a3 ?i3 ?l3 ?c3 ?k3 ?a4 ?i4 ?l4 ?c4 ?k4 ?a5 ?i5 ?l5 ?c5 ?k5 ?a6 ?i6 ?l6 ?c6 ?k6 ?a7 ?i7 ?l7 ?c7 ?k7 ?a8 ?i8 ?l8 ?c8 ?k8 ?a9 ?i9 ?l9 ?c9 ?k9 ?a10 ?i10 ?l10 ?c10 ?k10 ?a11 ?i11 ?l11 ?c11 ?k11 ?a12 ?l12 ?c12 ?k12 ?a13 ?l13 ?c13 ?k13 ?a14 ?l14 ?c14 ?k14 ?a15 ?l15 ?c15 ?k15 ?a16 ?l16 ?c16 ?k16 ?a17 ?l17 ?c17 ?k17 ?a18 ?l18 ?c18 ?k18 ?a19 ?l19 ?c19 ?k19 ?z_len ?z_list ?z_isi ?z_bool ?z_int ?z_str ?z_tuple ?z_all ?z_any ?z_zip ?z_range ?z_max ?z_min ?z_enumerate ?z_sum ?z_sorted ?z_verr ?g_MOST_KINDS ?g_MOST_NUMBER ?g_MOST_HELD ?g_0 ?g_1 ?g_2 ?g_3 ?g_4 ?x_1 ?x_2 ?x_3 ?x_4
    (case g_Kinds=>k_is)
    (case pg_Kinds=>k_is)
    (case hdc_Kinds=>k_is)
    (case po_Kinds=>k_is)
    (case sa_Kinds=>k_is)
    (case mk_Kinds=>k_is)
    (case kc_Kinds=>k_is)
    (case n_Kinds_recipes=>k_is)
    (case n_Kinds_contents=>k_is)
    (case a0=>k_is)
    (case l0=>k_is)
    (case c0=>k_is)
    (case k0=>k_is)
    (case a1=>k_is)
    (case i1=>k_is)
    (case l1=>k_is)
    (case c1=>k_is)
    (case k1=>k_is)
    (case a2=>k_is)
    (case i2=>k_is)
    (case l2=>k_is)
    (case c2=>k_is)
    (case k2=>k_is)
    (case a3=>k_is)
    (case i3=>k_is)
    (case l3=>k_is)
    (case c3=>k_is)
    (case k3=>k_is)
    (case a4=>k_is)
    (case i4=>k_is)
    (case l4=>k_is)
    (case c4=>k_is)
    (case k4=>k_is)
    (case a5=>k_is)
    (case i5=>k_is)
    (case l5=>k_is)
    (case c5=>k_is)
    (case k5=>k_is)
    (case a6=>k_is)
    (case i6=>k_is)
    (case l6=>k_is)
    (case c6=>k_is)
    (case k6=>k_is)
    (case a7=>k_is)
    (case i7=>k_is)
    (case l7=>k_is)
    (case c7=>k_is)
    (case k7=>k_is)
    (case a8=>k_is)
    (case i8=>k_is)
    (case l8=>k_is)
    (case c8=>k_is)
    (case k8=>k_is)
    (case a9=>k_is)
    (case i9=>k_is)
    (case l9=>k_is)
    (case c9=>k_is)
    (case k9=>k_is)
    (case a10=>k_is)
    (case i10=>k_is)
    (case l10=>k_is)
    (case c10=>k_is)
    (case k10=>k_is)
    (case a11=>k_is)
    (case i11=>k_is)
    (case l11=>k_is)
    (case c11=>k_is)
    (case k11=>k_is)
    (case a12=>k_is)
    (case l12=>k_is)
    (case c12=>k_is)
    (case k12=>k_is)
    (case a13=>k_is)
    (case l13=>k_is)
    (case c13=>k_is)
    (case k13=>k_is)
    (case a14=>k_is)
    (case l14=>k_is)
    (case c14=>k_is)
    (case k14=>k_is)
    (case a15=>k_is)
    (case l15=>k_is)
    (case c15=>k_is)
    (case k15=>k_is)
    (case a16=>k_is)
    (case l16=>k_is)
    (case c16=>k_is)
    (case k16=>k_is)
    (case a17=>k_is)
    (case l17=>k_is)
    (case c17=>k_is)
    (case k17=>k_is)
    (case a18=>k_is)
    (case l18=>k_is)
    (case c18=>k_is)
    (case k18=>k_is)
    (case a19=>k_is)
    (case l19=>k_is)
    (case c19=>k_is)
    (case k19=>k_is)
    (case z_len=>k_is)
    (case z_list=>k_is)
    (case z_isi=>k_is)
    (case z_bool=>k_is)
    (case z_int=>k_is)
    (case z_str=>k_is)
    (case z_tuple=>k_is)
    (case z_all=>k_is)
    (case z_any=>k_is)
    (case z_zip=>k_is)
    (case z_range=>k_is)
    (case z_max=>k_is)
    (case z_min=>k_is)
    (case z_enumerate=>k_is)
    (case z_sum=>k_is)
    (case z_sorted=>k_is)
    (case z_verr=>k_is)
    (case g_MOST_KINDS=>k_is)
    (case g_MOST_NUMBER=>k_is)
    (case g_MOST_HELD=>k_is)
    (case g_0=>k_is)
    (case g_1=>k_is)
    (case g_2=>k_is)
    (case g_3=>k_is)
    (case g_4=>k_is)
    (case x_1=>first | k_is | k_exc)
    (case x_2=>first | k_is | k_exc)
    (case x_3=>first | k_is | k_exc)
    (case x_4=>first | k_is | k_exc)
