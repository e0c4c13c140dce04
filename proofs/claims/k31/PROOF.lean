import PyProof.Rows.All
import Wide.All
import OpenK.AllK
import Wide.FinOn
import Lean
import PyProof.EqAt
import PyProof.EqKinds
import PyProof.TupleCall
import PySem.Challenge.RW_drawback_k31_sureties_refused
set_option Elab.async false
set_option linter.all false
set_option maxRecDepth 100000
namespace L2
open PySem PySem.Spec PyProof.Rows
abbrev Key:=Sum Int Str
def keyIs : Key→Value→Bool
  | .inl k,v=>Value.isInt k v
  | .inr x,v=>Value.isStrOf x v
def keyH (w : World) : Key→Int
  | .inl k=>hashInt k
  | .inr x=>hashStr w x
theorem keyIs_shape : ∀ {k : Key} {v : Value},keyIs k v=true→(∃ i t,k=Sum.inl i∧v=Value.int i t)∨(∃ x t,k=Sum.inr x∧v=Value.str x t)
  | .inl i,v,h=>by
    obtain ⟨t,e⟩:=Value.isInt_shape (k:=i) (v:=v) h
    exact .inl ⟨i,t,rfl,e⟩
  | .inr x,v,h=>by
    obtain ⟨t,e⟩:=Value.isStrOf_shape (x:=x) (v:=v) h
    exact .inr ⟨x,t,rfl,e⟩
theorem key_ll (a b : Int) : decide ((Sum.inl a : Key)=Sum.inl b)=(a == b):=by
  by_cases e : a=b
  · subst e; simp
  · have h : ¬ (Sum.inl a : Key)=Sum.inl b:=fun q=>e (Sum.inl.inj q)
    rw [decide_eq_false h]
    exact (beq_eq_false_iff_ne.mpr e).symm
theorem key_rr (a b : Str) : decide ((Sum.inr a : Key)=Sum.inr b)=decide (a=b):=by
  by_cases e : a=b
  · subst e; simp
  · have h : ¬ (Sum.inr a : Key)=Sum.inr b:=fun q=>e (Sum.inr.inj q)
    rw [decide_eq_false h,decide_eq_false e]
theorem key_lr (a : Int) (b : Str) : decide ((Sum.inl a : Key)=Sum.inr b)=false:=decide_eq_false (fun q=>nomatch q)
theorem key_rl (a : Str) (b : Int) : decide ((Sum.inr a : Key)=Sum.inl b)=false:=decide_eq_false (fun q=>nomatch q)
def mixKind (prog : Program) (w : World) : PySem.KeyKind prog w Key where
  is:=keyIs
  hash:=keyH w
  inj:=fun v a b ha hb=>by
    rcases keyIs_shape ha with ⟨i,t,rfl,rfl⟩ | ⟨x,t,rfl,rfl⟩
    · rcases keyIs_shape hb with ⟨j,u,rfl,e⟩ | ⟨y,u,rfl,e⟩
      · injection e with e1 _; rw [e1]
      · exact nomatch e
    · rcases keyIs_shape hb with ⟨j,u,rfl,e⟩ | ⟨y,u,rfl,e⟩
      · exact nomatch e
      · injection e with e1 _; rw [e1]
  byValue:=fun k v h=>by
    rcases keyIs_shape h with ⟨i,t,rfl,rfl⟩ | ⟨x,t,rfl,rfl⟩ <;> rfl
  pyHash:=fun hv h=>by
    rcases keyIs_shape hv with ⟨i,t,rfl,rfl⟩ | ⟨x,t,rfl,rfl⟩
    · exact wpAny_pyHash_int h
    · exact wpAny_pyHash_str h
  eqBool:=fun hu hv h=>by
    rcases keyIs_shape hu with ⟨i,t,rfl,rfl⟩ | ⟨x,t,rfl,rfl⟩
    · rcases keyIs_shape hv with ⟨j,u,rfl,rfl⟩ | ⟨y,u,rfl,rfl⟩
      · rw [key_ll] at h; exact wpAny_eqBool_int h
      · rw [key_lr] at h; exact SeqAt.EqAt.int_str i t y u _ _ _ _ h
    · rcases keyIs_shape hv with ⟨j,u,rfl,rfl⟩ | ⟨y,u,rfl,rfl⟩
      · rw [key_rl] at h; exact SeqAt.EqAt.str_int x t j u _ _ _ _ h
      · rw [key_rr] at h; exact wpAny_eqBool_str h
  «strs»:=fun k x t v h=>by
    rcases keyIs_shape h with ⟨i,u,rfl,e⟩ | ⟨y,u,rfl,e⟩
    · exact nomatch e
    · injection e with e1 _
      subst e1
      cases v <;> rfl
end L2
namespace L2
open PySem PySem.Spec PyProof.Rows
inductive V where
  | non | bl (b : Bool) | int (i : Int) | str (x : Str) | byt (b : Array UInt8) | flt (b : UInt64) | ref (a : Addr) | ty (n : String)
  deriving DecidableEq
def RelV : V→Value→Prop
  | .non,u=>u=Value.none
  | .bl b,u=>u=Value.bool b
  | .int i,u=>∃ t,u=Value.int i t
  | .str x,u=>∃ t,u=Value.str x t
  | .byt b,u=>∃ t,u=Value.bytes b t
  | .flt b,u=>∃ t,u=Value.float b t
  | .ref a,u=>u=Value.ref a
  | .ty n,u=>u=Value.type n
abbrev Vals : List V→List Value→Prop:=Paired RelV
theorem Vals.length {xs : List V} {us : List Value} (r : Vals xs us) : xs.length=us.length:=Paired.length r
theorem Vals.get : ∀ {xs : List V} {us : List Value} {i : Nat} {x : V},Vals xs us→xs[i]? = some x→∃ u,us[i]? = some u∧RelV x u
  | _,_,_,_,.nil,e=>by simp at e
  | _,_,0,_,.cons r _,e=>by simp at e; subst e; exact ⟨_,rfl,r⟩
  | _,_,i + 1,x,.cons _ t,e=>by
    obtain ⟨u,h1,h2⟩:=Vals.get (i:=i) (x:=x) t (by simpa using e)
    exact ⟨u,by simpa using h1,h2⟩
theorem Vals.set {x : V} {u : Value} (r : RelV x u) : ∀ {xs : List V} {us : List Value} (i : Nat),Vals xs us→Vals (xs.set i x) (us.set i u)
  | _,_,_,.nil=>.nil
  | _,_,0,.cons _ t=>.cons r t
  | _,_,i + 1,.cons q t=>.cons q (Vals.set r i t)
theorem Vals.append : ∀ {xs ys : List V} {us ws : List Value},Vals xs us→Vals ys ws→Vals (xs ++ ys) (us ++ ws)
  | _,_,_,_,.nil,s=>s
  | _,_,_,_,.cons r t,s=>.cons r (Vals.append t s)
theorem Vals.take : ∀ {xs : List V} {us : List Value} (n : Nat),Vals xs us→Vals (xs.take n) (us.take n)
  | _,_,0,_=>.nil
  | _,_,_ + 1,.nil=>.nil
  | _,_,n + 1,.cons r t=>.cons r (Vals.take n t)
theorem Vals.drop : ∀ {xs : List V} {us : List Value} (n : Nat),Vals xs us→Vals (xs.drop n) (us.drop n)
  | _,_,0,r=>r
  | _,_,_ + 1,.nil=>.nil
  | _,_,n + 1,.cons _ t=>Vals.drop n t
def RelO : Option V→Option Value→Prop
  | some v,some u=>RelV v u
  | none,none=>True
  | _,_=>False
def KV {κ : Type} : List (κ×V)→List (κ×Value)→Prop:=Paired fun (p : κ×V) (q : κ×Value)=>p.1=q.1∧RelV p.2 q.2
def kV : Key→V
  | .inl i=>.int i
  | .inr x=>.str x
inductive HO where
  | lst (xs : List V)
  | tup (xs : List V)
  | dK (kvs : List (Key×V)) | dT (kvs : List (List Key×V))
  | set (S : Int→Bool) (n : Nat)
  | ins (C dx : Addr) (fs : List (Str×V))
  | own (x : Addr)
  | xd (fs : List (Str×V))
  | met (f x : Addr)
  | rng (lo hi : Int)
  | frz (o : Obj) (u : HO)
  | tbl (ps : Array Value)
  | ext (φ : Heap→Prop)
  | cod (q : Str) (pos : Pos)
abbrev Hp:=Addr→Option HO
def upd (H : Hp) (a : Addr) (o : HO) : Hp:=fun b=>if b=a then some o else H b
theorem upd_same {H : Hp} {a : Addr} {o : HO} : upd H a o a=some o:=by unfold upd; rw [if_pos rfl]
theorem upd_ne {H : Hp} {a b : Addr} {o : HO} (h : b≠a) : upd H a o b=H b:=by unfold upd; rw [if_neg h]
theorem upd_upd {H : Hp} {a : Addr} {o u : HO} : upd (upd H a o) a u=upd H a u:=by
  funext b; unfold upd; split <;> rfl
theorem ne_of {H : Hp} {a b : Addr} {o u : HO} (h : H a=some o) (h' : H b=some u) (d : o≠u) : a≠b:=by
  intro e; subst e; rw [h] at h'; exact d (Option.some.inj h')
theorem ne_of_none {H : Hp} {a b : Addr} {o : HO} (h : H a=some o) (h' : H b=none) : a≠b:=by
  intro e; subst e; rw [h] at h'; cases h'
section
variable (P : Program) (w : World)
def ObjOk (H : Hp) (h : Heap) (a : Addr) : HO→Prop
  | .lst xs=>xs.length≤sizeLine∧∃ (its : List Value) (n : Nat),Vals xs its∧h.get? a=some { cls:=.type "list",data:=.seq its.toArray n }
  | .tup xs=>xs.length≤sizeLine∧∃ its : List Value,Vals xs its∧IsTup h a its.toArray
  | .dK kvs=>kvs.length≤sizeLine∧(a == sysModules)=false∧∃ vs,KV kvs vs∧h.DictOf (mixKind P w) a vs
  | .dT kvs=>kvs.length≤sizeLine∧(a == sysModules)=false∧∃ xs : List (List Key×Addr×Value),
      Paired (fun (p : List Key×V) (q : List Key×Addr×Value)=>p.1=q.1∧H q.2.1=some (.tup (p.1.map kV))∧RelV p.2 q.2.2) kvs xs∧
      ∃ o es ep,h.get? a=some o∧o.ExactDict∧o.data = .dict es ep∧es.toList=xs.map (entryOfKey (tupleKind (mixKind P w)))∧(xs.map (·.1)).Nodup
  | .set S n=>h.SetOf (intKind P w) a S n
  | .ins C dx fs=>H dx=some (.own a)∧fs.length≤1000∧dx≠a∧h.get? a=some (PySem.W.instObj C dx)∧
      ∃ mA,h.Ns1 dx mA∧(∀ f,RelO (fs.lookup f) (mA f))∧PySem.Within mA (fs.map (·.1))
  | .own _=>∃ o,h.get? a=some o
  | .xd fs=>∃ mA,h.Ns1 a mA∧∀ f,RelO (fs.lookup f) (mA f)
  | .rng lo hi=>∃ t u v,h.get? a=some { cls:=.type "range",data:=.fields #[.int lo t,.int hi u,.int 1 v] }
  | .frz o u=>h.get? a=some o∧ObjOk H h a u
  | .tbl ps=>h.get? a=some { cls:=.none,data:=.fields ps }
  | .met f x=>h.get? a=some (PySem.W.methodObj (.ref f) (.ref x))
  | .ext φ=>φ h∧(∃ o,h.get? a=some o)∧∀ h1 h2 : Heap,φ h1→(∀ o,h1.get? a=some o→h2.get? a=some o)→φ h2
  | .cod q pos=>h.get? a=some { cls:=.none,data:=.fields #[] }∨∃ c,h.get? a=some { cls:=.none,data:=.fields #[rawInt pos.line,rawInt pos.col,.ref c] }∧H c=some (.own a)∧h.CodeRec (.ref c) q
def HOk (H : Hp) (h : Heap) : Prop:=∀ a o,H a=some o→ObjOk P w H h a o
end
section
variable {P : Program} {w : World} {H H' : Hp} {h h' : Heap} {a : Addr} {o : HO}
theorem ObjOk.lt (x : ObjOk P w H h a o) : a < h.objs.size:=by
  cases o with
  | lst xs=>obtain ⟨_,_,_,_,e⟩:=x; exact Heap.lt_size e
  | tup xs=>obtain ⟨_,_,_,p⟩:=x; exact p.lt
  | dK kvs=>obtain ⟨_,_,_,_,o,_,_,e,_⟩:=x; exact Heap.lt_size e
  | dT kvs=>obtain ⟨_,_,_,_,o,_,_,e,_⟩:=x; exact Heap.lt_size e
  | set S n=>obtain ⟨o,_,_,_,e,_⟩:=x; exact Heap.lt_size e
  | ins C dx fs=>obtain ⟨_,_,_,e,_⟩:=x; exact Heap.lt_size e
  | own y=>obtain ⟨_,e⟩:=x; exact Heap.lt_size e
  | xd fs=>obtain ⟨_,⟨_,_,_,e,_⟩,_⟩:=x; exact Heap.lt_size e
  | rng lo hi=>obtain ⟨_,_,_,e⟩:=x; exact Heap.lt_size e
  | frz ob u=>obtain ⟨e,_⟩:=x; exact Heap.lt_size e
  | tbl ps=>exact Heap.lt_size (show h.get? a=some _ from x)
  | met f y=>exact Heap.lt_size (show h.get? a=some _ from x)
  | ext φ=>obtain ⟨_,⟨_,e⟩,_⟩:=x; exact Heap.lt_size e
  | cod q pos=>rcases x with e | ⟨_,e,_⟩ <;> exact Heap.lt_size e
theorem Paired.mapP {α β : Type} {F G : α→β→Prop} : ∀ {l₁ : List α} {l₂ : List β},Paired F l₁ l₂→(∀ a b,F a b→G a b)→Paired G l₁ l₂
  | _,_,.nil,_=>.nil
  | _,_,.cons r t,f=>.cons (f _ _ r) (Paired.mapP t f)
theorem ObjOk.stay (x : ObjOk P w H h a o) (k : ∀ b u,(b=a∨H b=some (.own a))→h.get? b=some u→h'.get? b=some u)
    (ho : ∀ b,H b=some (.own a)→H' b=some (.own a)) (ht : ∀ b xs,H b=some (.tup xs)→H' b=some (.tup xs)) : ObjOk P w H' h' a o:=by
  induction o with
  | lst xs=>obtain ⟨z,its,n,r,e⟩:=x; exact ⟨z,its,n,r,k _ _ (.inl rfl) e⟩
  | tup xs=>obtain ⟨z,its,r,ob,e,c⟩:=x; exact ⟨z,its,r,ob,k _ _ (.inl rfl) e,c⟩
  | dK kvs=>obtain ⟨z,y,vs,r,ob,es,ep,e,c⟩:=x; exact ⟨z,y,vs,r,ob,es,ep,k _ _ (.inl rfl) e,c⟩
  | dT kvs=>
    obtain ⟨z,y,xs,r,ob,es,ep,e,c⟩:=x
    exact ⟨z,y,xs,Paired.mapP r fun p q z=>⟨z.1,ht _ _ z.2.1,z.2.2⟩,ob,es,ep,k _ _ (.inl rfl) e,c⟩
  | set S n=>obtain ⟨ob,es,ep,t,e,c⟩:=x; exact ⟨ob,es,ep,t,k _ _ (.inl rfl) e,c⟩
  | ins C dx fs=>
    obtain ⟨d,z,ne,e,mA,⟨od,es,ep,e2,c⟩,r⟩:=x
    exact ⟨ho _ d,z,ne,k _ _ (.inl rfl) e,mA,⟨od,es,ep,k _ _ (.inr d) e2,c⟩,r⟩
  | own y=>obtain ⟨ob,e⟩:=x; exact ⟨ob,k _ _ (.inl rfl) e⟩
  | xd fs=>obtain ⟨mA,⟨od,es,ep,e,c⟩,r⟩:=x; exact ⟨mA,⟨od,es,ep,k _ _ (.inl rfl) e,c⟩,r⟩
  | rng lo hi=>obtain ⟨t,u,v,e⟩:=x; exact ⟨t,u,v,k _ _ (.inl rfl) e⟩
  | frz ob u ih=>obtain ⟨e,q⟩:=x; exact ⟨k _ _ (.inl rfl) e,ih q⟩
  | tbl ps=>
    have e : h.get? a=some { cls:=.none,data:=.fields ps }:=x
    show h'.get? a=some { cls:=.none,data:=.fields ps }
    exact k a _ (.inl rfl) e
  | met f y=>
    have e : h.get? a=some (PySem.W.methodObj (.ref f) (.ref y)):=x
    show h'.get? a=some (PySem.W.methodObj (.ref f) (.ref y))
    exact k a _ (.inl rfl) e
  | ext φ=>obtain ⟨p,⟨o,e⟩,st⟩:=x; exact ⟨st _ _ p fun o q=>k _ _ (.inl rfl) q,⟨o,k _ _ (.inl rfl) e⟩,st⟩
  | cod q pos=>
    rcases x with e | ⟨c,e,hw,c2,oc,vs,t,e1,e2,r⟩
    · exact .inl (k _ _ (.inl rfl) e)
    · cases e1
      exact .inr ⟨c,k _ _ (.inl rfl) e,ho _ hw,c,oc,vs,t,rfl,k _ _ (.inr hw) e2,r⟩
theorem HOk.lt (x : HOk P w H h) (e : H a=some o) : a < h.objs.size:=(x a o e).lt
theorem HOk.fresh (x : HOk P w H h) (e : h.objs.size≤a) : H a=none:=by
  cases q : H a with
  | none=>rfl
  | some u=>exact absurd (Nat.lt_of_lt_of_le (x.lt q) e) (Nat.lt_irrefl _)
theorem HOk.kept (x : HOk P w H h) (k : ∀ b u,h.get? b=some u→h'.get? b=some u) : HOk P w H h':=fun a o e=>
  (x a o e).stay (fun b u _ q=>k b u q) (fun _ q=>q) fun _ _ q=>q
theorem HOk.laid (x : HOk P w H h) (k : ∀ b u,h.get? b=some u→h'.get? b=some u) (hp : h.objs.size≤a) (new : ObjOk P w (upd H a o) h' a o) : HOk P w (upd H a o) h':=fun b u e=>by
  have hn:=x.fresh hp
  by_cases hb : b=a
  · subst hb; rw [upd_same] at e; cases e; exact new
  · rw [upd_ne hb] at e
    exact (x b u e).stay (fun c v _ q=>k c v q) (fun c q=>by rw [upd_ne (ne_of_none q hn)]; exact q) fun c xs q=>by rw [upd_ne (ne_of_none q hn)]; exact q
end
def Rd (H : Hp) (a : Addr) (u : HO) : Prop:=H a=some u∨∃ o,H a=some (.frz o u)
theorem Rd.ok {P : Program} {w : World} {H : Hp} {h : Heap} {a : Addr} {u : HO} (r : Rd H a u) (x : HOk P w H h) : ObjOk P w H h a u:=by
  rcases r with r | ⟨o,r⟩
  · exact x a u r
  · obtain ⟨_,q⟩:=x a _ r
    exact q
def Mut : Option HO→Prop
  | some (.lst _)=>True
  | some (.dK _)=>True
  | some (.dT _)=>True
  | some (.set _ _)=>True
  | some (.ins _ _ _)=>True
  | some (.ext _)=>True
  | _=>False
section
variable {P : Program} {w : World} {H : Hp} {h h' : Heap} {x e : Addr} {o' : HO}
theorem HOk.write (ok : HOk P w H h) (mu : Mut (H x)) (he : e=x∨H e=some (.own x)) (k : ∀ b u,b≠e→h.get? b=some u→h'.get? b=some u) (heo : ∃ u,h'.get? e=some u)
    (new : ObjOk P w (upd H x o') h' x o') : HOk P w (upd H x o') h':=fun b u q=>by
  have nown : ∀ c y,H c=some (.own y)→c≠x:=fun c y r z=>by subst z; rw [r] at mu; exact mu
  have ntup : ∀ c xs,H c=some (.tup xs)→c≠x:=fun c xs r z=>by subst z; rw [r] at mu; exact mu
  by_cases hb : b=x
  · subst hb; rw [upd_same] at q; cases q; exact new
  · rw [upd_ne hb] at q
    by_cases hbe : b=e
    · have q' : H b=some (.own x):=by
        rcases he with z | z
        · exact absurd (hbe.trans z) hb
        · rw [hbe]; exact z
      rw [q] at q'; cases q'
      obtain ⟨v,hv⟩:=heo
      exact ⟨v,by rw [hbe]; exact hv⟩
    · refine (ok b u q).stay (fun c v hc r=>k c v ?_ r) (fun c r=>by rw [upd_ne (nown c b r)]; exact r) fun c xs r=>by rw [upd_ne (ntup c xs r)]; exact r
      rcases hc with rfl | hc
      · exact hbe
      · rintro rfl
        rcases he with z | z
        · exact nown c b hc z
        · rw [hc] at z; cases z; exact hb rfl
end
structure Un (fs ex : List Addr) (H H' : Hp) (h h' : Heap) : Prop where
  keep : ∀ b o,h.get? b=some o→H b=none→b ∉ fs→b ∉ ex→h'.get? b=some o
  slot : ∀ b o,h.get? b=some o→H b=none→b∈fs→b ∉ ex→∃ sl,h'.get? b=some { o with slots:=sl }
  free : ∀ b o,h.get? b=some o→H b=none→b ∉ ex→H' b=none
  there : ∀ b o,h.get? b=some o→b ∉ ex→∃ o',h'.get? b=some o'
  tups : ∀ b xs,H b=some (.tup xs)→H' b=some (.tup xs)
  frzs : ∀ b o u,H b=some (.frz o u)→H' b=some (.frz o u)
  tbls : ∀ b ps,H b=some (.tbl ps)→∃ more,H' b=some (.tbl (ps ++ more))
section
variable {fs fs' ex ex' : List Addr} {H H1 H2 : Hp} {h h1 h2 h' : Heap} {a x e : Addr} {o : HO}
theorem Un.any (u : Un fs ex H H1 h h1) {b : Addr} {ob : Obj} (q : h.get? b=some ob) (n : H b=none) (hx : b ∉ ex) : ∃ sl,h1.get? b=some { ob with slots:=sl }:=by
  by_cases hb : b∈fs
  · exact u.slot b ob q n hb hx
  · exact ⟨ob.slots,u.keep b ob q n hb hx⟩
theorem Un.kept (k : ∀ b u,h.get? b=some u→h'.get? b=some u) : Un fs ex H H h h':=
  ⟨fun b ob q _ _ _=>k b ob q,fun b ob q _ _ _=>⟨ob.slots,k b ob q⟩,fun _ _ _ n _=>n,fun b ob q _=>⟨ob,k b ob q⟩,fun _ _ q=>q,fun _ _ _ q=>q,fun _ ps q=>⟨#[],by rw [q]; simp⟩⟩
theorem Un.refl : Un fs ex H H h h:=Un.kept fun _ _ q=>q
theorem Un.laid (k : ∀ b u,h.get? b=some u→h'.get? b=some u) (hp : h.objs.size≤a) (hn : H a=none) : Un fs ex H (upd H a o) h h' where
  keep:=fun b u q _ _ _=>k b u q
  slot:=fun b u q _ _ _=>⟨u.slots,k b u q⟩
  free:=fun b u q n _=>by rw [upd_ne (Nat.ne_of_lt (Nat.lt_of_lt_of_le (Heap.lt_size q) hp))]; exact n
  there:=fun b u q _=>⟨u,k b u q⟩
  tups:=fun b xs q=>by rw [upd_ne (ne_of_none q hn)]; exact q
  frzs:=fun b u xs q=>by rw [upd_ne (ne_of_none q hn)]; exact q
  tbls:=fun b ps q=>⟨#[],by rw [upd_ne (ne_of_none q hn),q]; simp⟩
theorem Un.write (mu : Mut (H x)) (he : e=x∨H e=some (.own x)) (k : ∀ b u,b≠e→h.get? b=some u→h'.get? b=some u) (heo : ∃ u,h'.get? e=some u) : Un fs ex H (upd H x o) h h':=by
  have hx : ∀ b,H b=none→b≠x:=fun b n z=>by subst z; rw [n] at mu; exact mu
  have hb : ∀ b,H b=none→b≠e:=fun b n z=>by
    subst z
    rcases he with r | r
    · exact hx b n r
    · rw [n] at r; cases r
  have hm : ∀ b u,H b=some u→¬ Mut (some u)→b≠x:=fun b u q nm z=>by subst z; rw [q] at mu; exact nm mu
  refine ⟨fun b u q n _ _=>k b u (hb b n) q,fun b u q n _ _=>⟨u.slots,k b u (hb b n) q⟩,fun b u q n _=>by rw [upd_ne (hx b n)]; exact n,fun b u q _=>?_,
    fun b xs q=>by rw [upd_ne (hm b _ q fun z=>z)]; exact q,fun b u xs q=>by rw [upd_ne (hm b _ q fun z=>z)]; exact q,fun b ps q=>⟨#[],by rw [upd_ne (hm b _ q fun z=>z),q]; simp⟩⟩
  by_cases hbe : b=e
  · subst hbe; exact heo
  · exact ⟨u,k b u hbe q⟩
end
def trk (h : Heap) (H : Hp) : List Addr:=(List.range h.objs.size).filter fun a=>(H a).isSome
def hidT (h : Heap) (H : Hp) : Heap:=PySem.W.hideAll h (trk h H)
theorem hidT_size (h : Heap) (H : Hp) : (hidT h H).objs.size=h.objs.size:=PySem.W.hideAll_size _ _
theorem hidT_get {h : Heap} {H : Hp} {b : Addr} {o : Obj} (e : h.get? b=some o) (n : H b=none) : (hidT h H).get? b=some o:=
  PySem.W.hideAll_get _ e fun hm=>by
    have q : (H b).isSome=true:=(List.mem_filter.mp hm).2
    rw [n] at q; simp at q
theorem of_hidT {h : Heap} {H : Hp} {b : Addr} {o : Obj} (e : (hidT h H).get? b=some o) : h.get? b=some o∧H b=none:=by
  have e' : h.get? b=some o:=PySem.W.of_hideAll (trk h H) e
  refine ⟨e',?_⟩
  cases q : H b with
  | none=>rfl
  | some x=>
    have hm : b∈trk h H:=List.mem_filter.mpr ⟨List.mem_range.mpr (Heap.lt_size e'),by simp [q]⟩
    have z : (hidT h H).get? b=none:=PySem.W.hideAll_none (trk h H) hm
    rw [z] at e; cases e
def allNews (g h : Heap) (L : Addr) : List (Addr×Obj):=(List.range h.objs.size).filterMap fun a=>if a=L∨(g.get? a).isSome=true then none else (h.get? a).map fun o=>(a,o)
def rest (g h : Heap) (L d : Addr) : List (Addr×Obj):=(allNews g h L).filter fun p=>decide (p.1≠d)
end L2
namespace L2
open PySem PySem.Spec PyProof.Rows
structure Mod (K : PySem.W.Frag) (mg : Str→Option Value) (base : Heap) : Prop where
  kin : K.In base
  glob : base.Ns mainGlobals mg
  blt : ∃ mb,base.Ns builtinsNs mb∧∀ x : Str,x ≠ "__name__" → mb x=bootBuiltins x
  nolimit : base.NoLimit
structure Cx where
  prog : Program
  w : World
  K : PySem.W.Frag
  mg : Str→Option Value
  base : Heap
  A : Around
  N : List Str
  s₀ : Shared
  H₀ : Hp
  env : Env
  outer : List Env
  stack : List Env
  ex : List Addr
  fn : Str→Bool
  calm : Bool
  pn : List (Addr×Obj)
  xe : Value→Shared→Prop
def frs (l : List Env) : List Addr:=l.filterMap (·.frame)
abbrev Cx.fs (X : Cx) : List Addr:=frs X.outer
def Vis (sc : Scope) (x : Str) : Prop:=sc.names.lookup x=some .local∨sc.names.lookup x=some .cell∨sc.names.lookup x=some .free
def Loc (sc : Scope) (x : Str) : Prop:=sc.names.lookup x=some .local∨sc.names.lookup x=some .cell
def Look (env : Env) (h : Heap) (m : Str→Option Value) (x : Str) (u : Value) : Prop:=
  (env.kindOf x=some .local∧m x=some u)∨((env.kindOf x=some .cell∨env.kindOf x=some .free)∧∃ c,env.cells.lookup x=some c∧h.IsCell c (some u))
structure Cx.Ok (X : Cx) : Prop where
  mod : Mod X.K X.mg X.base
  kind : X.env.scope.kind = .function
  glob : X.env.globals=mainGlobals
  blt : X.env.builtins=builtinsNs
  above : X.s₀.heap.objs.size≤X.env.locals
  inj : ∀ x y c,X.env.cells.lookup x=some c→X.env.cells.lookup y=some c→x=y
  has : ∀ x,(X.env.kindOf x=some .cell∨X.env.kindOf x=some .free)→∃ c,X.env.cells.lookup x=some c
  cab : ∀ x c,X.fn x=true→X.env.cells.lookup x=some c→X.s₀.heap.objs.size≤c
  hd : X.calm=true→X.A.handled=none
  frames : X.A.frames=some X.stack
  stk : X.stack=X.outer∨(X.stack=X.env :: X.outer∧X.env.frame=some X.env.locals)
  exf : ∀ b∈X.ex,b≠X.env.locals∧∀ x c,X.env.cells.lookup x=some c→c≠b
  bs : ∀ b o,X.base.get? b=some o→X.s₀.heap.get? b=some o∧X.H₀ b=none
  bsz : X.base.objs.size≤X.s₀.heap.objs.size
  noex : ∀ b o,X.base.get? b=some o→b ∉ X.ex
  exfs : ∀ b∈X.ex,b ∉ X.fs
  funs : X.s₀.heap.FunFrames X.base X.outer
  frf : ∀ b∈X.fs,X.H₀ b=none
structure Inv (X : Cx) (pins : List (Addr×Obj)) (σ : List (Option V)) (H : Hp) (s : Shared) : Prop where
  ok : X.Ok
  os : s.os=X.s₀.os
  bare : AllBare s.gens
  base : Un X.fs X.ex X.H₀ H X.s₀.heap s.heap
  loc : ∃ m,s.heap.Ns X.env.locals m∧∀ (i : Nat) (x : Str) (v : V),X.N[i]? = some x→σ[i]? = some (some v)→Vis X.env.scope x→∃ u,RelV v u∧Look X.env s.heap m x u
  cell : ∀ x c,X.env.cells.lookup x=some c→∃ v,s.heap.IsCell c v
  free : H X.env.locals=none
  freeC : ∀ x c,X.env.cells.lookup x=some c→H c=none
  pin : ∀ p∈X.pn ++ pins,s.heap.get? p.1=some p.2∧H p.1=none∧p.1≠X.env.locals∧p.1 ∉ X.fs∧∀ v,p.2.data≠.cell v
  hok : HOk X.prog X.w H s.heap
  len : σ.length=X.N.length
section
variable {X : Cx} {pins : List (Addr×Obj)} {σ : List (Option V)} {H H' : Hp} {s : Shared} {h' : Heap}
theorem Cx.Ok.nofr (ok : X.Ok) {b : Addr} {o : Obj} (e : X.base.get? b=some o) : b ∉ X.fs:=fun hb=>by
  have:=(ok.funs.mem hb).1
  rw [e] at this; cases this
theorem Inv.bs (I : Inv X pins σ H s) : ∀ b o,X.base.get? b=some o→s.heap.get? b=some o∧H b=none:=fun b o e=>
  ⟨I.base.keep b o (I.ok.bs b o e).1 (I.ok.bs b o e).2 (I.ok.nofr e) (I.ok.noex b o e),I.base.free b o (I.ok.bs b o e).1 (I.ok.bs b o e).2 (I.ok.noex b o e)⟩
theorem Inv.bk (I : Inv X pins σ H s) : ∀ b o,X.base.get? b=some o→s.heap.get? b=some o:=fun b o e=>(I.bs b o e).1
theorem Inv.mod (I : Inv X pins σ H s) : Mod X.K X.mg X.base:=I.ok.mod
theorem Inv.kIn (I : Inv X pins σ H s) : X.K.In s.heap:=I.ok.mod.kin.keeps I.bk
theorem Inv.lt (I : Inv X pins σ H s) : X.env.locals < s.heap.objs.size:=let ⟨_,hn,_⟩:=I.loc; hn.lt
theorem Inv.sz (I : Inv X pins σ H s) : X.s₀.heap.objs.size≤s.heap.objs.size:=Nat.le_trans I.ok.above (Nat.le_of_lt I.lt)
theorem Inv.nofs (I : Inv X pins σ H s) {a : Addr} (h : s.heap.objs.size≤a) : a ∉ X.fs:=fun hb=>by
  obtain ⟨_,o,ho,_⟩:=I.ok.funs.mem hb
  exact absurd (Nat.lt_of_lt_of_le (Heap.lt_size ho) (Nat.le_trans I.sz h)) (Nat.lt_irrefl _)
theorem Inv.cne (I : Inv X pins σ H s) : ∀ x c,X.env.cells.lookup x=some c→c≠X.env.locals:=fun x c e z=>by
  obtain ⟨v,o,ho,hd⟩:=I.cell x c e
  obtain ⟨m,⟨o',es,ep,ho',hd',_⟩,_⟩:=I.loc
  rw [z,ho'] at ho; cases ho; rw [hd'] at hd; cases hd
theorem Inv.funs (I : Inv X pins σ H s) : s.heap.FunFrames X.base X.outer:=by
  have all : ∀ (l : List Env),(∀ b∈frs l,b∈X.fs)→X.s₀.heap.FunFrames X.base l→s.heap.FunFrames X.base l:=by
    intro l
    induction l with
    | nil=>intro _ _; trivial
    | cons env r ih=>
      intro hs hl
      obtain ⟨hk,⟨L,o,hf,hn,ho,hd⟩,hr⟩:=hl
      have hL : L∈X.fs:=hs L (by unfold frs; rw [List.filterMap_cons,hf]; exact List.mem_cons_self)
      obtain ⟨sl,e⟩:=I.base.slot L o ho (I.ok.frf L hL) hL fun z=>I.ok.exfs L z hL
      exact ⟨hk,⟨L,_,hf,hn,e,hd⟩,ih (fun b hb=>hs b (by unfold frs; rw [List.filterMap_cons,hf]; exact List.mem_cons_of_mem _ hb)) hr⟩
  exact all X.outer (fun _ hb=>hb) I.ok.funs
theorem Inv.stack (I : Inv X pins σ H s) : s.heap.FunFrames X.base X.stack:=by
  rcases I.ok.stk with e | ⟨e,hf⟩
  · rw [e]; exact I.funs
  · rw [e]
    obtain ⟨m,hn,_⟩:=I.loc
    refine .cons (by rw [I.ok.kind]; decide) hf hn ?_ I.funs
    exact Heap.get?_none_of_le (Nat.le_trans I.ok.bsz I.ok.above)
theorem Inv.stkSub (I : Inv X pins σ H s) : ∀ b∈frs X.stack,b∈X.env.locals :: X.fs:=fun b hb=>by
  rcases I.ok.stk with e | ⟨e,hf⟩
  · rw [e] at hb; exact List.mem_cons_of_mem _ hb
  · rw [e] at hb
    unfold frs at hb
    rw [List.filterMap_cons,hf] at hb
    exact hb
theorem Inv.stkFree (I : Inv X pins σ H s) : ∀ b∈frs X.stack,H b=none:=fun b hb=>by
  rcases List.mem_cons.mp (I.stkSub b hb) with e | hb
  · rw [e]; exact I.free
  · obtain ⟨_,o,ho,_⟩:=I.ok.funs.mem hb
    exact I.base.free b o ho (I.ok.frf b hb) fun z=>I.ok.exfs b z hb
theorem Inv.step {g' : Array GenState} {t' : Nat} {d' : Drawn} {ch : List Addr} (I : Inv X pins σ H s)
    (hch : ∀ b∈ch,(b∈X.ex∨X.s₀.heap.objs.size≤b)∧b≠X.env.locals∧(∀ x c,X.env.cells.lookup x=some c→c≠b)∧∀ p∈X.pn ++ pins,p.1≠b)
    (keep : ∀ b o,b≠X.env.locals→b ∉ X.fs→b ∉ ch→s.heap.get? b=some o→H b=none→h'.get? b=some o)
    (slot : ∀ b o,b≠X.env.locals→b∈X.fs→b ∉ ch→s.heap.get? b=some o→H b=none→∃ sl,h'.get? b=some { o with slots:=sl }) (free : ∀ b o,b ∉ ch→s.heap.get? b=some o→H b=none→H' b=none)
    (there : ∀ b o,b ∉ ch→s.heap.get? b=some o→∃ o',h'.get? b=some o')
    (tups : ∀ b xs,H b=some (.tup xs)→H' b=some (.tup xs)) (frzs : ∀ b o u,H b=some (.frz o u)→H' b=some (.frz o u)) (tbls : ∀ b ps,H b=some (.tbl ps)→∃ more,H' b=some (.tbl (ps ++ more)))
    (ns : ∀ m,s.heap.Ns X.env.locals m→h'.Ns X.env.locals m) (hok : HOk X.prog X.w H' h') (hg : AllBare g') :
    Inv X pins σ H' { s with heap:=h',gens:=g',drawn:=d',toks:=t' }:=by
  have neL : ∀ b o,X.s₀.heap.get? b=some o→b≠X.env.locals:=fun b o e=>Nat.ne_of_lt (Nat.lt_of_lt_of_le (Heap.lt_size e) I.ok.above)
  have neC : ∀ b o,X.s₀.heap.get? b=some o→b ∉ X.ex→b ∉ ch:=fun b o e hx hb=>by
    rcases (hch b hb).1 with z | z
    · exact hx z
    · exact absurd (Nat.lt_of_lt_of_le (Heap.lt_size e) z) (Nat.lt_irrefl _)
  have cellK : ∀ x c,X.env.cells.lookup x=some c→∀ v,s.heap.IsCell c v→h'.IsCell c v:=fun x c e v ⟨o,ho,hd⟩=>by
    have nch : c ∉ ch:=fun z=>(hch c z).2.2.1 x c e rfl
    by_cases hc : c∈X.fs
    · obtain ⟨sl,q⟩:=slot c o (I.cne x c e) hc nch ho (I.freeC x c e)
      exact ⟨_,q,hd⟩
    · exact ⟨o,keep c o (I.cne x c e) hc nch ho (I.freeC x c e),hd⟩
  refine ⟨I.ok,I.os,hg,⟨fun b o e n hb hx=>?_,fun b o e n hb hx=>?_,fun b o e n hx=>?_,fun b o e hx=>?_,fun b xs e=>tups b xs (I.base.tups b xs e),fun b o xs e=>frzs b o xs (I.base.frzs b o xs e),fun b ps e=>?_⟩,?_,fun x c e=>?_,?_,fun x c e=>?_,fun p hp=>?_,hok,I.len⟩
  · exact keep b o (neL b o e) hb (neC b o e hx) (I.base.keep b o e n hb hx) (I.base.free b o e n hx)
  · obtain ⟨sl,e1⟩:=I.base.slot b o e n hb hx
    obtain ⟨sl',e2⟩:=slot b _ (neL b o e) hb (neC b o e hx) e1 (I.base.free b o e n hx)
    exact ⟨sl',e2⟩
  · obtain ⟨o',e1⟩:=I.base.there b o e hx
    exact free b o' (neC b o e hx) e1 (I.base.free b o e n hx)
  · obtain ⟨o',e1⟩:=I.base.there b o e hx
    exact there b o' (neC b o e hx) e1
  · obtain ⟨m1,e1⟩:=I.base.tbls b ps e
    obtain ⟨m2,e2⟩:=tbls b _ e1
    exact ⟨m1 ++ m2,by rw [e2,Array.append_assoc]⟩
  · obtain ⟨m,hn,hl⟩:=I.loc
    refine ⟨m,ns m hn,fun i x v e1 e2 e3=>?_⟩
    obtain ⟨u,r,l⟩:=hl i x v e1 e2 e3
    refine ⟨u,r,?_⟩
    rcases l with l | ⟨k,c,e,z⟩
    · exact .inl l
    · exact .inr ⟨k,c,e,cellK x c e _ z⟩
  · obtain ⟨v,z⟩:=I.cell x c e
    exact ⟨v,cellK x c e v z⟩
  · obtain ⟨m,⟨o,_,_,ho,_⟩,_⟩:=I.loc
    exact free _ o (fun z=>(hch _ z).2.1 rfl) ho I.free
  · obtain ⟨v,o,ho,hd⟩:=I.cell x c e
    exact free c o (fun z=>(hch c z).2.2.1 x c e rfl) ho (I.freeC x c e)
  · obtain ⟨e,n,ne,nf,d⟩:=I.pin p hp
    have nch : p.1 ∉ ch:=fun z=>(hch p.1 z).2.2.2 p hp rfl
    exact ⟨keep p.1 p.2 ne nf nch e n,free p.1 p.2 nch e n,ne,nf,d⟩
theorem Inv.un {t' : Nat} (I : Inv X pins σ H s) (u : Un X.fs [] H H' s.heap h') (hok : HOk X.prog X.w H' h') : Inv X pins σ H' { s with heap:=h',toks:=t' }:=by
  obtain ⟨m,⟨o,es,ep,ho,r⟩,_⟩:=id I.loc
  obtain ⟨sl,hL⟩:=u.any ho I.free (by simp)
  exact I.step (g':=s.gens) (d':=s.drawn) (ch:=[]) (fun _ z=>nomatch z) (fun b o _ hb _ e n=>u.keep b o e n hb (by simp)) (fun b o _ hb _ e n=>u.slot b o e n hb (by simp)) (fun b o _ e n=>u.free b o e n (by simp)) (fun b o _ e=>u.there b o e (by simp)) u.tups u.frzs u.tbls (fun m' hm=>by
    obtain ⟨o',es',ep',ho',r'⟩:=hm
    rw [ho] at ho'; cases ho'
    exact ⟨_,es',ep',hL,r'⟩) hok I.bare
theorem Inv.call {g' : Array GenState} {t' : Nat} {d' : Drawn} {ch : List Addr} (I : Inv X pins σ H s) (u : Un (frs X.stack) ch H H' s.heap h') (hok : HOk X.prog X.w H' h') (hg : AllBare g')
    (hch : ∀ b∈ch,(b∈X.ex∨X.s₀.heap.objs.size≤b)∧b≠X.env.locals∧(∀ x c,X.env.cells.lookup x=some c→c≠b)∧∀ p∈X.pn ++ pins,p.1≠b) :
    Inv X pins σ H' { s with heap:=h',gens:=g',drawn:=d',toks:=t' }:=by
  obtain ⟨m,⟨o,es,ep,ho,r⟩,_⟩:=id I.loc
  obtain ⟨sl,hL⟩:=u.any ho I.free fun z=>(hch _ z).2.1 rfl
  exact I.step (ch:=ch) hch (fun b o hL hb hc e n=>u.keep b o e n (fun z=>(List.mem_cons.mp (I.stkSub b z)).elim hL hb) hc) (fun b o _ _ hc e n=>u.any e n hc) (fun b o hc e n=>u.free b o e n hc) (fun b o hc e=>u.there b o e hc) u.tups u.frzs u.tbls (fun m' hm=>by
    obtain ⟨o',es',ep',ho',r'⟩:=hm
    rw [ho] at ho'; cases ho'
    exact ⟨_,es',ep',hL,r'⟩) hok hg
theorem Inv.turned {t' : Nat} {it : Addr} (I : Inv X pins σ H s) (k : ∀ b o,b≠it→s.heap.get? b=some o→h'.get? b=some o) (hn : H it=none) (hL : it≠X.env.locals)
    (h1 : it∈X.ex∨X.s₀.heap.objs.size≤it) (h2 : ∀ x c,X.env.cells.lookup x=some c→c≠it) (h3 : ∀ p∈X.pn ++ pins,p.1≠it) : Inv X pins σ H { s with heap:=h',toks:=t' }:=by
  have nit : ∀ b u,H b=some u→b≠it:=fun b u e z=>by rw [z,hn] at e; cases e
  refine I.step (g':=s.gens) (d':=s.drawn) (ch:=[it]) (fun b hb=>?_) (fun b o _ _ hc e _=>k b o (fun z=>hc (by simp [z])) e) (fun b o _ _ hc e _=>⟨o.slots,k b o (fun z=>hc (by simp [z])) e⟩) (fun _ _ _ _ n=>n)
    (fun b o hc e=>⟨o,k b o (fun z=>hc (by simp [z])) e⟩) (fun _ _ e=>e) (fun _ _ _ e=>e) (fun b ps e=>⟨#[],by rw [e]; simp⟩) (fun m hm=>?_) (fun b u e=>?_) I.bare
  · have e : b=it:=by simpa using hb
    subst e
    exact ⟨h1,hL,h2,h3⟩
  · obtain ⟨o,es,ep,ho,r⟩:=hm
    exact ⟨o,es,ep,k _ o (Ne.symm hL) ho,r⟩
  · refine (I.hok b u e).stay (fun c v hc q=>k c v ?_ q) (fun _ q=>q) fun _ _ q=>q
    rcases hc with z | z
    · rw [z]; exact nit b u e
    · exact nit c _ z
theorem Inv.tok (I : Inv X pins σ H s) (t : Nat) : Inv X pins σ H { s with toks:=t }:=I.un (h':=s.heap) (t':=t) Un.refl I.hok
theorem Inv.kept {t' : Nat} (I : Inv X pins σ H s) (k : ∀ b u,s.heap.get? b=some u→h'.get? b=some u) : Inv X pins σ H { s with heap:=h',toks:=t' }:=I.un (Un.kept k) (I.hok.kept k)
theorem Inv.laid {a : Addr} {o : HO} {t' : Nat} (I : Inv X pins σ H s) (k : ∀ b u,s.heap.get? b=some u→h'.get? b=some u) (hp : s.heap.objs.size≤a) (new : ObjOk X.prog X.w (upd H a o) h' a o) :
    Inv X pins σ (upd H a o) { s with heap:=h',toks:=t' }:=I.un (Un.laid k hp (I.hok.fresh hp)) (I.hok.laid k hp new)
theorem Inv.write {x e : Addr} {o : HO} {t' : Nat} (I : Inv X pins σ H s) (mu : Mut (H x)) (he : e=x∨H e=some (.own x)) (k : ∀ b u,b≠e→s.heap.get? b=some u→h'.get? b=some u) (heo : ∃ u,h'.get? e=some u)
    (new : ObjOk X.prog X.w (upd H x o) h' x o) : Inv X pins σ (upd H x o) { s with heap:=h',toks:=t' }:=I.un (Un.write mu he k heo) (I.hok.write mu he k heo new)
theorem Inv.weak {σ' : List (Option V)} (I : Inv X pins σ H s) (hl : σ'.length=σ.length) (w : ∀ (i : Nat) v,σ'[i]? = some (some v)→σ[i]? = some (some v)) : Inv X pins σ' H s:=
  ⟨I.ok,I.os,I.bare,I.base,let ⟨m,hn,hl'⟩:=I.loc; ⟨m,hn,fun i x v e1 e2 e3=>hl' i x v e1 (w i v e2) e3⟩,I.cell,I.free,I.freeC,I.pin,I.hok,hl.trans I.len⟩
theorem Inv.pins_of {pins' : List (Addr×Obj)} (I : Inv X pins σ H s) (h : ∀ p∈pins',s.heap.get? p.1=some p.2∧H p.1=none∧p.1≠X.env.locals∧p.1 ∉ X.fs∧∀ v,p.2.data≠.cell v) : Inv X pins' σ H s:=
  ⟨I.ok,I.os,I.bare,I.base,I.loc,I.cell,I.free,I.freeC,fun p hp=>(List.mem_append.mp hp).elim (fun z=>I.pin p (List.mem_append_left _ z)) (h p),I.hok,I.len⟩
theorem nodup_ix {N : List Str} (hN : N.Nodup) {i j : Nat} {x : Str} (a : N[i]? = some x) (b : N[j]? = some x) : i=j:=by
  obtain ⟨h1,e1⟩:=List.getElem?_eq_some_iff.mp a
  obtain ⟨h2,e2⟩:=List.getElem?_eq_some_iff.mp b
  exact (List.getElem_inj hN).mp (e1.trans e2.symm)
theorem store_ok2 {M : Model} {A : Around} {E : Value→Shared→Prop} {i : Nat} {x : Str} {v : V} {u : Value} {Q : Unit→Shared→Prop} (I : Inv X pins σ H s) (hN : X.N.Nodup) (hi : X.N[i]? = some x) (hx : Loc X.env.scope x) (r : RelV v u)
    (h : ∀ s',Inv X pins (σ.set i (some v)) H s'→(∃ a,Heap.SameBut a s.heap s'.heap∧(a=X.env.locals∨X.env.cells.lookup x=some a))→Q () s') (hf : X.fn x=true∨X.env.scope.names.lookup x=some .local:=by first | exact .inl rfl | exact .inr rfl | assumption) : wpAny M A (storeName X.env x u) Q E s:=by
  obtain ⟨m,hn,hl⟩:=id I.loc
  have hcls : (X.env.scope.kind == .class || (X.env.scope.kind == .module && X.env.locals != X.env.globals))=false:=by rw [I.ok.kind]; rfl
  have hiσ : i < σ.length:=by rw [I.len]; exact (List.getElem?_eq_some_iff.mp hi).1
  have cne:=I.cne
  have tracked : ∀ {a : Addr} {h' : Heap},(∃ o,s.heap.get? a=some o∧H a=none)→Heap.SameBut a s.heap h'→HOk X.prog X.w H h':=fun {a h'} ha hs b ob e=>by
    obtain ⟨_,_,hfree⟩:=ha
    refine (I.hok b ob e).stay (fun c w' hc q=>(hs.2 c ?_).trans q) (fun _ q=>q) fun _ _ q=>q
    rintro rfl
    rcases hc with rfl | hc
    · rw [hfree] at e; cases e
    · rw [hfree] at hc; cases hc
  rcases hx with hk | hk
  · refine wpAny_storeName_local hk hn (fun h' hn' hs=>?_) hcls
    obtain ⟨oL,_,_,hoL,_⟩:=id hn
    refine h _ ⟨I.ok,I.os,I.bare,⟨fun b o e n hb hx=>?_,fun b o e n hb hx=>?_,I.base.free,fun b o e hx=>?_,I.base.tups,I.base.frzs,I.base.tbls⟩,⟨_,hn',fun j y v' e1 e2 e3=>?_⟩,fun y c e=>?_,I.free,I.freeC,fun p hp=>?_,tracked ⟨oL,hoL,I.free⟩ hs,by simpa using I.len⟩ ⟨_,hs,.inl rfl⟩
    · exact (hs.2 b (Nat.ne_of_lt (Nat.lt_of_lt_of_le (Heap.lt_size e) I.ok.above))).trans (I.base.keep b o e n hb hx)
    · obtain ⟨sl,e1⟩:=I.base.slot b o e n hb hx
      exact ⟨sl,(hs.2 b (Nat.ne_of_lt (Nat.lt_of_lt_of_le (Heap.lt_size e) I.ok.above))).trans e1⟩
    · obtain ⟨o',e1⟩:=I.base.there b o e hx
      exact ⟨o',(hs.2 b (Nat.ne_of_lt (Nat.lt_of_lt_of_le (Heap.lt_size e) I.ok.above))).trans e1⟩
    · by_cases hj : j=i
      · subst hj
        rw [hi] at e1; cases e1
        rw [List.getElem?_set_self hiσ] at e2
        cases e2
        exact ⟨u,r,.inl ⟨hk,by simp⟩⟩
      · rw [List.getElem?_set_ne (Ne.symm hj)] at e2
        obtain ⟨u',r',q⟩:=hl j y v' e1 e2 e3
        refine ⟨u',r',?_⟩
        rcases q with ⟨k,e⟩ | ⟨k,c,e,z⟩
        · refine .inl ⟨k,?_⟩
          have : y≠x:=fun e=>hj (nodup_ix hN e1 (e ▸ hi))
          simp [this,e]
        · exact .inr ⟨k,c,e,z.sameBut hs (cne y c e)⟩
    · obtain ⟨w',z⟩:=I.cell y c e
      exact ⟨w',z.sameBut hs (cne y c e)⟩
    · obtain ⟨e,n,ne,nf,d⟩:=I.pin p hp
      exact ⟨(hs.2 p.1 ne).trans e,n,ne,nf,d⟩
  · have hfn : X.fn x=true:=by
      rcases hf with z | z
      · exact z
      · rw [z] at hk; cases hk
    obtain ⟨c,hc⟩:=I.ok.has x (.inl hk)
    obtain ⟨w',z⟩:=I.cell x c hc
    refine wpAny_storeName_cell I.ok.kind hk hc z (fun h' hc' hs=>?_)
    obtain ⟨oc,hoc,hocd⟩:=id z
    refine h { s with heap:=h' } ⟨I.ok,I.os,I.bare,⟨fun b o e n hb hx=>?_,fun b o e n hb hx=>?_,I.base.free,fun b o e hx=>?_,I.base.tups,I.base.frzs,I.base.tbls⟩,⟨m,hn.sameBut hs (Ne.symm (cne x c hc)),fun j y v' e1 e2 e3=>?_⟩,fun y c' e=>?_,I.free,I.freeC,fun p hp=>?_,tracked ⟨oc,hoc,I.freeC x c hc⟩ hs,by simpa using I.len⟩ ⟨c,hs,.inr hc⟩
    · exact (hs.2 b (Nat.ne_of_lt (Nat.lt_of_lt_of_le (Heap.lt_size e) (I.ok.cab x c hfn hc)))).trans (I.base.keep b o e n hb hx)
    · obtain ⟨sl,e1⟩:=I.base.slot b o e n hb hx
      exact ⟨sl,(hs.2 b (Nat.ne_of_lt (Nat.lt_of_lt_of_le (Heap.lt_size e) (I.ok.cab x c hfn hc)))).trans e1⟩
    · obtain ⟨o',e1⟩:=I.base.there b o e hx
      exact ⟨o',(hs.2 b (Nat.ne_of_lt (Nat.lt_of_lt_of_le (Heap.lt_size e) (I.ok.cab x c hfn hc)))).trans e1⟩
    · by_cases hj : j=i
      · subst hj
        rw [hi] at e1; cases e1
        rw [List.getElem?_set_self hiσ] at e2
        cases e2
        exact ⟨u,r,.inr ⟨.inl hk,c,hc,hc'⟩⟩
      · rw [List.getElem?_set_ne (Ne.symm hj)] at e2
        obtain ⟨u',r',q⟩:=hl j y v' e1 e2 e3
        refine ⟨u',r',?_⟩
        rcases q with q | ⟨k,c',e,z'⟩
        · exact .inl q
        · refine .inr ⟨k,c',e,z'.sameBut hs ?_⟩
          rintro rfl
          exact hj (nodup_ix hN e1 (I.ok.inj _ _ _ e hc ▸ hi))
    · by_cases hcc : c' = c
      · subst hcc; exact ⟨_,hc'⟩
      · obtain ⟨w2,z2⟩:=I.cell y c' e
        exact ⟨w2,z2.sameBut hs hcc⟩
    · obtain ⟨e,n,ne,nf,d⟩:=I.pin p hp
      refine ⟨(hs.2 p.1 ?_).trans e,n,ne,nf,d⟩
      intro q
      rw [q,hoc] at e
      have q' : oc=p.2:=Option.some.inj e
      exact d w' (by rw [← q']; exact hocd)
theorem store_ok {M : Model} {A : Around} {E : Value→Shared→Prop} {i : Nat} {x : Str} {v : V} {u : Value} {Q : Unit→Shared→Prop} (I : Inv X pins σ H s) (hN : X.N.Nodup) (hi : X.N[i]? = some x) (hx : Loc X.env.scope x) (r : RelV v u)
    (h : ∀ s',Inv X pins (σ.set i (some v)) H s'→Q () s') (hf : X.fn x=true∨X.env.scope.names.lookup x=some .local:=by first | exact .inl rfl | exact .inr rfl | assumption) : wpAny M A (storeName X.env x u) Q E s:=
  store_ok2 I hN hi hx r (fun s' I' _=>h s' I') hf
theorem Inv.call' {s' : Shared} {ch : List Addr} (I : Inv X pins σ H s) (ho : s'.os=s.os) (u : Un (frs X.stack) ch H H' s.heap s'.heap) (hok : HOk X.prog X.w H' s'.heap) (hg : AllBare s'.gens)
    (hch : ∀ b∈ch,(b∈X.ex∨X.s₀.heap.objs.size≤b)∧b≠X.env.locals∧(∀ x c,X.env.cells.lookup x=some c→c≠b)∧∀ p∈X.pn ++ pins,p.1≠b) : Inv X pins σ H' s':=by
  obtain ⟨h',g',d',t',o'⟩:=s'
  have e : o' = s.os:=ho
  subst e
  exact I.call (g':=g') (t':=t') (d':=d') u hok hg hch
end
abbrev XK:=Value→Option Addr→Hp→Prop
abbrev St:=List (Option V)
abbrev VK:=V→Hp→Prop
abbrev TE:=St→Hp→VK→Prop
abbrev TT:=St→Hp→(Bool→Hp→Prop)→Prop
abbrev TA:=St→Hp→(List V→Hp→Prop)→Prop
structure Ends where
  nx : St→Hp→Prop
  rt : VK
  bk : St→Hp→Prop:=fun _ _=>False
  ct : St→Hp→Prop:=fun _ _=>False
abbrev TS:=Ends→St→Hp→Prop
def EP (X : Cx) (pins : List (Addr×Obj)) (σ : St) (Q : VK) (u : Value) (s' : Shared) : Prop:=∃ v H',Inv X pins σ H' s'∧RelV v u∧Q v H'
def TP (X : Cx) (pins : List (Addr×Obj)) (σ : St) (Q : Bool→Hp→Prop) (b : Bool) (s' : Shared) : Prop:=∃ H',Inv X pins σ H' s'∧Q b H'
def AP (X : Cx) (pins : List (Addr×Obj)) (σ : St) (Q : List V→Hp→Prop) (us : List Value) (s' : Shared) : Prop:=∃ vs H',Inv X pins σ H' s'∧Vals vs us∧Q vs H'
def SP (X : Cx) (pins : List (Addr×Obj)) (D : Ends) (f : Flow) (s' : Shared) : Prop:=
  match f with
  | .next=>∃ σ' H',Inv X pins σ' H' s'∧D.nx σ' H'
  | .brk=>∃ σ' H',Inv X pins σ' H' s'∧D.bk σ' H'
  | .cont=>∃ σ' H',Inv X pins σ' H' s'∧D.ct σ' H'
  | .ret u=>∃ v σ' H',Inv X pins σ' H' s'∧RelV v u∧D.rt v H'
def PE (X : Cx) (e : Expr) (t : TE) : Prop:=
  ∀ (pins : List (Addr×Obj)) (s : Shared) (σ : St) (H : Hp) (Q : VK),Inv X pins σ H s→t σ H Q→wpAny (model X.prog X.w) X.A (eval e X.env) (EP X pins σ Q) X.xe s
def PT (X : Cx) (e : Expr) (t : TT) : Prop:=
  ∀ (pins : List (Addr×Obj)) (s : Shared) (σ : St) (H : Hp) (Q : Bool→Hp→Prop),Inv X pins σ H s→t σ H Q→wpAny (model X.prog X.w) X.A (isTrue e X.env (eval e X.env)) (TP X pins σ Q) X.xe s
def PW (X : Cx) (e : Expr) (t : TT) : Prop:=
  ∀ (whole : Sem Value) (pins : List (Addr×Obj)) (s : Shared) (σ : St) (H : Hp) (Q : Bool→Hp→Prop),Inv X pins σ H s→t σ H Q→wpAny (model X.prog X.w) X.A (isTrue e X.env whole) (TP X pins σ Q) X.xe s
theorem PW.pt {X : Cx} {e : Expr} {t : TT} (h : PW X e t) : PT X e t:=h _
def PA (X : Cx) (es : List Expr) (t : TA) : Prop:=
  ∀ (pos : Pos) (pins : List (Addr×Obj)) (s : Shared) (σ : St) (H : Hp) (Q : List V→Hp→Prop),Inv X pins σ H s→t σ H Q→wpAny (model X.prog X.w) X.A (spliced (backTo pos (starEach es X.env))) (AP X pins σ Q) X.xe s
def PS (X : Cx) (st : Stmt) (t : TS) : Prop:=
  ∀ (pins : List (Addr×Obj)) (s : Shared) (σ : St) (H : Hp) (D : Ends),Inv X pins σ H s→t D σ H→wpAny (model X.prog X.w) X.A (exec st X.env) (SP X pins D) X.xe s
def PSs (X : Cx) (st : List Stmt) (t : TS) : Prop:=
  ∀ (pins : List (Addr×Obj)) (s : Shared) (σ : St) (H : Hp) (D : Ends),Inv X pins σ H s→t D σ H→wpAny (model X.prog X.w) X.A (execs st X.env) (SP X pins D) X.xe s
theorem thn {α : Type} {t : Sem α} {Q Q' : α→Shared→Prop} {M : Model} {A : Around} {E : Value→Shared→Prop} {s : Shared} (h : wpAny M A t Q E s) (hQ : ∀ a s,Q a s→Q' a s) : wpAny M A t Q' E s:=wpAny_mono h hQ fun _ _ x=>x
end L2
namespace L2
open PySem PySem.Spec PyProof.Rows
section
variable {X : Cx}
def tVar (i : Nat) : TE:=fun σ H Q=>∃ v,σ[i]? = some (some v)∧Q v H
def tC (v : V) : TE:=fun _ H Q=>Q v H
theorem pe_var {i : Nat} {x : Str} {pos : Pos} (hN : X.N[i]? = some x) (hv : Vis X.env.scope x) (hd : (x == ("__debug__" : Str))=false:=by decide) (hcd : (x == ("__classdict__" : Str))=false:=by decide) : PE X (.Name x pos) (tVar i):=by
  intro pins s σ H Q I h
  obtain ⟨v,e,h⟩:=h
  obtain ⟨m,hn,hl⟩:=I.loc
  obtain ⟨u,r,l⟩:=hl i x v hN e hv
  have fin : EP X pins σ Q u s:=⟨v,H,I,r,h⟩
  rcases l with ⟨hk,hm⟩ | ⟨hk,c,hc,hcell⟩
  · exact wpAny_Name (wpAny_loadName_local I.ok.kind hk hn hm fin) hd
  · rcases hk with hk | hk
    · exact wpAny_Name (wpAny_loadName_cell I.ok.kind hk hc hcell fin) hd
    · exact wpAny_Name (wpAny_loadName_free I.ok.kind hk hc hcell fin hcd) hd
theorem pe_int {i j pos} : PE X (.Constant (.int i) j pos) (tC (.int i)):=fun _ _ _ H _ I h=>wpAny_Constant_int ⟨.int i,H,I.tok _,⟨_,rfl⟩,h⟩
theorem pe_bl {b j pos} : PE X (.Constant (.bool b) j pos) (tC (.bl b)):=fun _ _ _ H _ I h=>Constant_bool ⟨.bl b,H,I,rfl,h⟩
theorem pe_str {x j pos} : PE X (.Constant (.str x) j pos) (tC (.str x)):=fun _ _ _ H _ I h=>Calls.Constant_str ⟨.str x,H,I.tok _,⟨_,rfl⟩,h⟩
def Gl (X : Cx) (x : Str) : Prop:=X.env.kindOf x=some .globalImplicit
theorem ld_glob {E : Value→Shared→Prop} {pins : List (Addr×Obj)} {s : Shared} {σ : St} {H : Hp} {x : Str} {u : Value} {pos : Pos} {Q : Value→Shared→Prop} (I : Inv X pins σ H s) (hg : Gl X x) (hm : X.mg x=some u) (h : Q u s)
    (hd : (x == ("__debug__" : Str))=false:=by decide) : wpAny (model X.prog X.w) X.A (eval (.Name x pos) X.env) Q E s :=
  Calls.Name_function_global I.ok.kind hg (Calls.loadGlobal_global (by rw [I.ok.glob]; exact I.mod.glob.keeps I.bk) hm h) hd
theorem ld_blt {E : Value→Shared→Prop} {pins : List (Addr×Obj)} {s : Shared} {σ : St} {H : Hp} {x : Str} {u : Value} {pos : Pos} {Q : Value→Shared→Prop} (I : Inv X pins σ H s) (hg : Gl X x) (hm : X.mg x=none) (hv : bootBuiltins x=some u) (h : Q u s)
    (hn : x ≠ "__name__" := by decide) (hd : (x == ("__debug__" : Str))=false:=by decide) : wpAny (model X.prog X.w) X.A (eval (.Name x pos) X.env) Q E s:=by
  obtain ⟨mb,h1,h2⟩:=I.mod.blt
  exact Calls.Name_function_global I.ok.kind hg (Calls.loadGlobal_builtin (by rw [I.ok.glob]; exact I.mod.glob.keeps I.bk) hm (by rw [I.ok.blt]; exact h1.keeps I.bk) ((h2 x hn).trans hv) h) hd
theorem pe_glob {x : Str} {v : V} {u : Value} {pos : Pos} (hg : Gl X x) (hm : X.mg x=some u) (r : RelV v u) (hd : (x == ("__debug__" : Str))=false:=by decide) : PE X (.Name x pos) (tC v) :=
  fun _ _ _ H _ I h=>ld_glob I hg hm ⟨v,H,I,r,h⟩ hd
theorem pe_bltn {x : Str} {v : V} {u : Value} {pos : Pos} (hg : Gl X x) (hm : X.mg x=none) (hv : bootBuiltins x=some u) (r : RelV v u) (hn : x ≠ "__name__" := by decide) (hd : (x == ("__debug__" : Str))=false:=by decide) : PE X (.Name x pos) (tC v) :=
  fun _ _ _ H _ I h=>ld_blt I hg hm hv ⟨v,H,I,r,h⟩ hn hd
variable {a b : Expr} {ta tb : TE} {pos : Pos}
variable {tA tB' : TT} {rest : List Expr}
def tAnd (t u : TT) : TT:=fun σ H Q=>t σ H fun c H1=>if c=true then u σ H1 Q else Q false H1
def tOr (t u : TT) : TT:=fun σ H Q=>t σ H fun c H1=>if c=true then Q true H1 else u σ H1 Q
def tNot (t : TT) : TT:=fun σ H Q=>t σ H fun c H1=>Q (!c) H1
theorem pw_and1 (ha : PT X a tA) : PW X (.BoolOp .And [a] pos) tA:=by
  intro wh pins s σ H Q I h
  refine isTrue_and (thn (ha pins s σ H Q I h) fun c s1 e=>?_)
  cases c with
  | true=>exact isTrue_and_nil e
  | false=>exact e
theorem pw_or1 (ha : PT X a tA) : PW X (.BoolOp .Or [a] pos) tA:=by
  intro wh pins s σ H Q I h
  refine isTrue_or (thn (ha pins s σ H Q I h) fun c s1 e=>?_)
  cases c with
  | false=>exact isTrue_or_nil e
  | true=>exact e
theorem pw_and (ha : PT X a tA) (hb : PW X (.BoolOp .And (b :: rest) pos) tB') : PW X (.BoolOp .And (a :: b :: rest) pos) (tAnd tA tB'):=by
  intro wh pins s σ H Q I h
  refine isTrue_and (thn (ha pins s σ H _ I h) fun c s1 ⟨H1,I1,q1⟩=>?_)
  cases c with
  | true=>exact hb wh pins s1 σ H1 Q I1 q1
  | false=>exact ⟨H1,I1,q1⟩
theorem pw_or (ha : PT X a tA) (hb : PW X (.BoolOp .Or (b :: rest) pos) tB') : PW X (.BoolOp .Or (a :: b :: rest) pos) (tOr tA tB'):=by
  intro wh pins s σ H Q I h
  refine isTrue_or (thn (ha pins s σ H _ I h) fun c s1 ⟨H1,I1,q1⟩=>?_)
  cases c with
  | true=>exact ⟨H1,I1,q1⟩
  | false=>exact hb wh pins s1 σ H1 Q I1 q1
theorem pt_not (ha : PT X a tA) : PT X (.UnaryOp .Not a pos) (tNot tA):=by
  intro pins s σ H Q I h
  exact isTrue_not (ha pins s σ H (fun c H1=>Q (!c) H1) I h)
def tIf (t : TT) (ta tb : TE) : TE:=fun σ H Q=>t σ H fun c H1=>if c=true then ta σ H1 Q else tb σ H1 Q
theorem pe_ifExp {c : Expr} (hc : PT X c tA) (ha : PE X a ta) (hb : PE X b tb) : PE X (.IfExp c a b pos) (tIf tA ta tb):=by
  intro pins s σ H Q I h
  refine wpAny_IfExp (thn (hc pins s σ H _ I h) fun d s1 ⟨H1,I1,q1⟩=>?_)
  cases d with
  | true=>exact ha pins s1 σ H1 Q I1 q1
  | false=>exact hb pins s1 σ H1 Q I1 q1
end
end L2
namespace L2
open PySem PySem.Spec PyProof.Rows
def SqL (K : PySem.W.Frag) (H : Hp) (a : Addr) (xs : List V) : Prop:=
  Rd H a (.lst xs)∨
    ∃ (o : Obj) (its : Array Value) (n : Nat),K.lookup a=some o∧o.cls = .type "list" ∧ o.dict=none∧o.data = .seq its n∧its.size≤sizeLine∧Vals xs its.toList
def SqT (K : PySem.W.Frag) (H : Hp) (a : Addr) (xs : List V) : Prop:=
  Rd H a (.tup xs)∨
    ∃ (o : Obj) (its : Array Value) (n : Nat),K.lookup a=some o∧o.cls = .type "tuple" ∧ o.data = .seq its n∧its.size≤sizeLine∧Vals xs its.toList
def absV : Value→Option V
  | .none=>some .non
  | .bool b=>some (.bl b)
  | .int i _=>some (.int i)
  | .str x _=>some (.str x)
  | .bytes b _=>some (.byt b)
  | .float b _=>some (.flt b)
  | .ref a=>some (.ref a)
  | .type n=>some (.ty n)
  | _=>none
theorem RelV.abs {x : V} {u : Value} (r : RelV x u) : absV u=some x:=by
  cases x with
  | non=>cases r; rfl
  | bl _=>cases r; rfl
  | int _=>obtain ⟨t,rfl⟩:=r; rfl
  | str _=>obtain ⟨t,rfl⟩:=r; rfl
  | byt _=>obtain ⟨t,rfl⟩:=r; rfl
  | flt _=>obtain ⟨t,rfl⟩:=r; rfl
  | ref _=>cases r; rfl
  | ty _=>cases r; rfl
theorem RelV.inj {x y : V} {u : Value} (r : RelV x u) (q : RelV y u) : x=y:=Option.some.inj (r.abs.symm.trans q.abs)
theorem Vals.inj : ∀ {xs ys : List V} {us : List Value},Vals xs us→Vals ys us→xs=ys
  | _,_,_,.nil,.nil=>rfl
  | _,_,_,.cons r t,.cons r' t'=>by rw [r.inj r',Vals.inj t t']
section
variable {X : Cx} {pins : List (Addr×Obj)} {σ : St} {H : Hp} {s : Shared} {a : Addr} {xs ys : List V}
theorem SqL.of {K : PySem.W.Frag} (h : H a=some (.lst xs)) : SqL K H a xs:=.inl (.inl h)
theorem SqT.of {K : PySem.W.Frag} (h : H a=some (.tup xs)) : SqT K H a xs:=.inl (.inl h)
theorem Inv.list (I : Inv X pins σ H s) (h : SqL X.K H a xs) : ∃ its : List Value,Vals xs its∧PlainL s.heap a its.toArray∧xs.length≤sizeLine:=by
  rcases h with h | ⟨o,its,n,hk,hc,hd,hs,hz,r⟩
  · obtain ⟨z,its,n,r,e⟩:=h.ok I.hok
    exact ⟨its,r,⟨_,n,e,rfl,rfl,rfl⟩,z⟩
  · refine ⟨its.toList,r,⟨o,n,I.kIn a o hk,hc,hd,by simpa using hs⟩,?_⟩
    have e:=r.length
    simp only [Array.length_toList] at e
    omega
theorem Inv.tuple (I : Inv X pins σ H s) (h : SqT X.K H a xs) : ∃ its : List Value,Vals xs its∧IsTup s.heap a its.toArray∧xs.length≤sizeLine:=by
  rcases h with h | ⟨o,its,n,hk,hc,hs,hz,r⟩
  · obtain ⟨z,its,r,p⟩:=h.ok I.hok
    exact ⟨its,r,p,z⟩
  · refine ⟨its.toList,r,⟨o,I.kIn a o hk,hc,n,by simpa using hs⟩,?_⟩
    have e:=r.length
    simp only [Array.length_toList] at e
    omega
theorem Inv.list_inj (I : Inv X pins σ H s) (h : SqL X.K H a xs) (h' : SqL X.K H a ys) : xs=ys:=by
  obtain ⟨its,r,⟨o,n,e,_,_,d⟩,_⟩:=I.list h
  obtain ⟨its',r',⟨o',n',e',_,_,d'⟩,_⟩:=I.list h'
  rw [e] at e'; cases e'
  rw [d] at d'
  injection d' with d1 _
  have : its=its':=by simpa using congrArg Array.toList d1
  subst this
  exact r.inj r'
end
abbrev Cx.wish (X : Cx) (E : Value→Shared→Prop) : Cx:={ X with xe:=E }
abbrev Cx.nox (X : Cx) : Cx:=X.wish fun _ _=>False
theorem Cx.Ok.wish {X : Cx} (ok : X.Ok) (E : Value→Shared→Prop) : (X.wish E).Ok:=
  ⟨ok.mod,ok.kind,ok.glob,ok.blt,ok.above,ok.inj,ok.has,ok.cab,ok.hd,ok.frames,ok.stk,ok.exf,ok.bs,ok.bsz,ok.noex,ok.exfs,ok.funs,ok.frf⟩
theorem Cx.Ok.unwish {X : Cx} {E : Value→Shared→Prop} (ok : (X.wish E).Ok) : X.Ok:=
  ⟨ok.mod,ok.kind,ok.glob,ok.blt,ok.above,ok.inj,ok.has,ok.cab,ok.hd,ok.frames,ok.stk,ok.exf,ok.bs,ok.bsz,ok.noex,ok.exfs,ok.funs,ok.frf⟩
section
variable {X : Cx} {pins : List (Addr×Obj)} {σ : St} {H : Hp} {s : Shared} {E : Value→Shared→Prop}
theorem Inv.wish (I : Inv X pins σ H s) (E : Value→Shared→Prop) : Inv (X.wish E) pins σ H s:=⟨I.ok.wish E,I.os,I.bare,I.base,I.loc,I.cell,I.free,I.freeC,I.pin,I.hok,I.len⟩
theorem Inv.unwish (I : Inv (X.wish E) pins σ H s) : Inv X pins σ H s:=⟨I.ok.unwish,I.os,I.bare,I.base,I.loc,I.cell,I.free,I.freeC,I.pin,I.hok,I.len⟩
theorem SP.unwish {D : Ends} {f : Flow} {s' : Shared} (h : SP (X.wish E) pins D f s') : SP X pins D f s':=by
  cases f with
  | next=>obtain ⟨σ',H',I,q⟩:=h; exact ⟨σ',H',I.unwish,q⟩
  | brk=>obtain ⟨σ',H',I,q⟩:=h; exact ⟨σ',H',I.unwish,q⟩
  | cont=>obtain ⟨σ',H',I,q⟩:=h; exact ⟨σ',H',I.unwish,q⟩
  | ret u=>obtain ⟨v,σ',H',I,r,q⟩:=h; exact ⟨v,σ',H',I.unwish,r,q⟩
theorem PSs.nox {st : List Stmt} {t : TS} (h : PSs X.nox st t) : PSs X st t:=fun pins s σ H D I hw=>
  wpAny_mono (h pins s σ H D (I.wish _) hw) (fun _ _ q=>q.unwish) fun _ _ z=>False.elim z
end
section
variable {X : Cx} {st : Stmt} {rest : List Stmt} {t u : TS} {e : Expr} {te : TE} {pos : Pos}
def tNext : TS:=fun D σ H=>D.nx σ H
def tSeq (t u : TS) : TS:=fun D σ H=>t { D with nx:=u D } σ H
theorem pss_nil : PSs X [] tNext:=fun _ _ σ H _ I h=>wpAny_execs_nil ⟨σ,H,I,h⟩
theorem pss_cons (h1 : PS X st t) (h2 : PSs X rest u) : PSs X (st :: rest) (tSeq t u):=by
  intro pins s σ H D I h
  refine wpAny_execs_cons (thn (h1 pins s σ H { D with nx:=u D } I h) fun f s1 q=>?_)
  cases f with
  | next=>
    obtain ⟨σ',H',I',q⟩:=q
    exact h2 pins s1 σ' H' D I' q
  | ret v=>exact q
  | brk=>exact q
  | cont=>exact q
theorem pss_one (h1 : PS X st t) : PSs X [st] t:=by
  intro pins s σ H D I h
  refine wpAny_execs_cons (thn (h1 pins s σ H D I h) fun f s1 q=>?_)
  cases f with
  | next=>exact wpAny_execs_nil q
  | ret v=>exact q
  | brk=>exact q
  | cont=>exact q
theorem Inv.quiet {pins : List (Addr×Obj)} {σ : St} {H : Hp} {s : Shared} (I : Inv X pins σ H s) : interactive X.env=false:=by simp [interactive,I.ok.kind]
def tDrop (te : TE) : TS:=fun D σ H=>te σ H fun _ H1=>D.nx σ H1
theorem ps_expr (he : PE X e te) (hs : swapsWith e none pos.line X.env=pure false:=by rfl) : PS X (.Expr e pos) (tDrop te):=by
  intro pins s σ H D I h
  exact wpAny_Expr_any (thn (he pins s σ H _ I h) fun v s1 ⟨x,H1,I1,r1,q1⟩=>⟨σ,H1,I1,q1⟩) I.quiet hs
def tRet (te : TE) : TS:=fun D σ H=>te σ H D.rt
theorem ps_ret (he : PE X e te) : PS X (.Return (some e) pos) (tRet te):=by
  intro pins s σ H D I h
  exact wpAny_Return_some (thn (he pins s σ H _ I h) fun v s1 ⟨x,H1,I1,r1,q1⟩=>⟨x,σ,H1,I1,r1,q1⟩)
def tIfS (c : TT) (t u : TS) : TS:=fun D σ H=>c σ H fun b H1=>if b=true then t D σ H1 else u D σ H1
theorem ps_if {c : Expr} {a b : List Stmt} {tc : TT} (hc : PT X c tc) (ha : PSs X a t) (hb : PSs X b u) : PS X (.If c a b pos) (tIfS tc t u):=by
  intro pins s σ H D I h
  refine wpAny_If (thn (hc pins s σ H _ I h) fun d s1 ⟨H1,I1,q1⟩=>?_)
  cases d with
  | true=>exact ha pins s1 σ H1 D I1 q1
  | false=>exact hb pins s1 σ H1 D I1 q1
end
abbrev TG:=V→St→Hp→(St→Hp→Prop)→Prop
abbrev TGs:=List V→St→Hp→(St→Hp→Prop)→Prop
def PG (X : Cx) (target : Expr) (t : TG) : Prop:=
  ∀ (pins : List (Addr×Obj)) (s : Shared) (σ : St) (H : Hp) (v : V) (u : Value) (Q : St→Hp→Prop),Inv X pins σ H s→RelV v u→t v σ H Q→
    wpAny (model X.prog X.w) X.A (assign target X.env u) (fun _ s'=>∃ σ' H',Inv X pins σ' H' s'∧Q σ' H') X.xe s
def PGs (X : Cx) (ts : List Expr) (t : TGs) : Prop:=
  ∀ (pins : List (Addr×Obj)) (s : Shared) (σ : St) (H : Hp) (vs : List V) (us : List Value) (Q : St→Hp→Prop),Inv X pins σ H s→Vals vs us→t vs σ H Q→
    wpAny (model X.prog X.w) X.A (assignInOrder ((assignEach ts X.env).map (·.2)) us) (fun _ s'=>∃ σ' H',Inv X pins σ' H' s'∧Q σ' H') X.xe s
abbrev TSet:=V→V→V→Hp→(Hp→Prop)→Prop
def PSet (X : Cx) (t : TSet) : Prop:=
  ∀ (pins : List (Addr×Obj)) (s : Shared) (σ : St) (H : Hp) (o i v : V) (ov iv u : Value) (Q : Hp→Prop),Inv X pins σ H s→RelV o ov→RelV i iv→RelV v u→t o i v H Q→
    wpAny (model X.prog X.w) X.A (setItem ov iv u) (fun _ s'=>∃ H',Inv X pins σ H' s'∧Q H') X.xe s
section
variable {X : Cx} {pos : Pos}
def gName (i : Nat) : TG:=fun v σ H Q=>Q (σ.set i (some v)) H
theorem pg_name {i : Nat} {x : Str} (hN : X.N.Nodup) (hi : X.N[i]? = some x) (hx : Loc X.env.scope x) (hf : X.fn x=true∨X.env.scope.names.lookup x=some .local:=by first | exact .inl rfl | exact .inr rfl | assumption) : PG X (.Name x pos) (gName i):=by
  intro pins s σ H v u Q I r h
  exact wpAny_assign_Name (store_ok I hN hi hx r (fun s' I'=>⟨_,H,I',h⟩) hf)
def gNil : TGs:=fun vs σ H Q=>vs=[]∧Q σ H
def gCons (t : TG) (u : TGs) : TGs:=fun vs σ H Q=>∃ v r,vs=v :: r∧t v σ H fun σ' H'=>u r σ' H' Q
theorem pgs_nil : PGs X [] gNil:=by
  intro pins s σ H vs us Q I r h
  obtain ⟨e,h⟩:=h
  subst e
  cases r
  exact assignInOrder_nil ⟨σ,H,I,h⟩
theorem pgs_cons {e : Expr} {es : List Expr} {t : TG} {u : TGs} (h1 : PG X e t) (h2 : PGs X es u)
    (hs : (assignEach (e :: es) X.env).map (·.2)=assign e X.env :: (assignEach es X.env).map (·.2):=by rfl) : PGs X (e :: es) (gCons t u):=by
  intro pins s σ H vs us Q I r h
  obtain ⟨v,vr,e1,h⟩:=h
  subst e1
  cases r with
  | cons r rr=>
    rw [hs]
    refine assignInOrder_cons (thn (h1 pins s σ H _ _ _ I r h) fun _ s1 ⟨σ1,H1,I1,q1⟩=>?_)
    exact h2 pins s1 σ1 H1 _ _ Q I1 rr q1
def gTup (K : PySem.W.Frag) (n : Nat) (t : TGs) : TG:=fun v σ H Q=>∃ a xs,v = .ref a∧SqT K H a xs∧xs.length=n∧t xs σ H Q
theorem pg_tup {es : List Expr} {k : Nat} {t : TGs} {n : Nat} (hc : X.calm=true) (h : PGs X es t)
    (hn : (assignEach es X.env).length=n:=by rfl) (hst : (assignEach es X.env).findIdx? (·.1)=none:=by rfl) : PG X (.Tuple es k pos) (gTup X.K n t):=by
  intro pins s σ H v u Q I r hw
  obtain ⟨a,xs,e1,hq,hl,hw⟩:=hw
  subst e1
  cases r
  obtain ⟨its,rv,ht,hz⟩:=I.tuple hq
  refine assign_Tuple_tuple (I.ok.hd hc) ht (by simp [hn,← hl,rv.length]) hst fun h' hx=>?_
  have I1 : Inv X pins σ H { s with heap:=h' }:=I.kept (t':=s.toks) fun b o e=>hx b o (Nat.ne_of_lt (Heap.lt_size e)) e
  exact h pins _ σ H xs _ Q I1 (by simpa using rv) hw
def gSub (to ti : TE) (t : TSet) : TG:=fun v σ H Q=>to σ H fun o H1=>ti σ H1 fun i H2=>t o i v H2 fun H3=>Q σ H3
theorem pg_sub {o i : Expr} {to ti : TE} {t : TSet} (ho : PE X o to) (hi : PE X i ti) (hs : PSet X t)
    (ha : ∀ v,assign (.Subscript o i pos) X.env v=(do
      let ov ← holding [v] (eval o X.env)
      let iv ← holding [v,ov] (eval i X.env)
      standAt pos
      holding [v,ov,iv] (setItem ov iv v)
      release [v,ov,iv] []):=by intro _; rfl) : PG X (.Subscript o i pos) (gSub to ti t):=by
  intro pins s σ H v u Q I r h
  rw [ha]
  refine wpAny_bind (wpAny_holding (thn (ho pins s σ H _ I h) fun ov s1 ⟨x,H1,I1,r1,q1⟩=>?_))
  refine wpAny_bind (wpAny_holding (thn (hi pins s1 σ H1 _ I1 q1) fun iv s2 ⟨y,H2,I2,r2,q2⟩=>?_))
  refine wpAny_bind (wpAny_standAt (wpAny_bind (wpAny_holding (thn (hs pins s2 σ H2 x y v ov iv u _ I2 r1 r2 r q2) fun _ s3 ⟨H3,I3,q3⟩=>?_))))
  exact wpAny_release ⟨σ,H3,I3,q3⟩
def tAsg (te : TE) (g : TG) : TS:=fun D σ H=>te σ H fun x H1=>g x σ H1 D.nx
theorem ps_asg {tg e : Expr} {te : TE} {g : TG} (he : PE X e te) (hg : PG X tg g) (hs : swapsWithSole [tg] e pos.line X.env=pure false:=by rfl) (hw : swappedStores [tg] e X.env=pure none:=by rfl)
    (h1 : (assignEach [tg] X.env).map (·.2)=[assign tg X.env]:=by rfl) : PS X (.Assign [tg] e pos) (tAsg te g):=by
  intro pins s σ H D I h
  refine wpAny_Assign_stores (thn (he pins s σ H _ I h) fun v s1 ⟨x,H1,I1,r1,q1⟩=>?_) hs hw
  rw [h1]
  exact thn (hg pins s1 σ H1 x v _ I1 r1 q1) fun _ s2 q=>q
theorem ps_set {i : Nat} {x : Str} {e : Expr} {te : TE} {pos' : Pos} (hN : X.N.Nodup) (hi : X.N[i]? = some x) (hx : Loc X.env.scope x) (he : PE X e te) (hs : swapsWith e (some (.Name x pos')) pos.line X.env=pure false:=by rfl) (hf : X.fn x=true∨X.env.scope.names.lookup x=some .local:=by first | exact .inl rfl | exact .inr rfl | assumption) :
    PS X (.Assign [.Name x pos'] e pos) (tAsg te (gName i)):=by
  intro pins s σ H D I h
  refine wpAny_Assign_Name (thn (he pins s σ H _ I h) fun v s1 ⟨y,H1,I1,r1,q1⟩=>?_) hs
  exact store_ok I1 hN hi hx r1 (fun s2 I2=>⟨_,H1,I2,q1⟩) hf
end
section
variable {X : Cx} {pos : Pos}
end
structure It where
  go : Nat→Hp→Prop
  yld : Nat→Hp→V→Hp→Prop
  stop : Nat→Hp→Prop
def FpOk (X : Cx) (pins : List (Addr×Obj)) (H : Hp) (b : Addr) : Prop:=
  H b=none∧b≠X.env.locals∧b ∉ X.fs∧(b∈X.ex∨X.s₀.heap.objs.size≤b)∧(∀ x c,X.env.cells.lookup x=some c→c≠b)∧∀ p∈X.pn ++ pins,p.1≠b
theorem Inv.fpOk {X : Cx} {pins : List (Addr×Obj)} {σ : St} {H H' : Hp} {s : Shared} {b : Addr} (I : Inv X pins σ H s) (hb : s.heap.objs.size≤b) (hn : H' b=none) : FpOk X pins H' b:=by
  refine ⟨hn,Nat.ne_of_gt (Nat.lt_of_lt_of_le I.lt hb),I.nofs hb,.inr (Nat.le_trans I.sz hb),fun x c e z=>?_,fun p hp z=>?_⟩
  · obtain ⟨v,q⟩:=I.cell x c e
    exact absurd (Nat.lt_of_lt_of_le q.lt (by rw [z]; exact hb)) (Nat.lt_irrefl _)
  · exact absurd (Nat.lt_of_lt_of_le (Heap.lt_size (I.pin p hp).1) (by rw [z]; exact hb)) (Nat.lt_irrefl _)
structure Turn (P : Program) (w : World) (K : PySem.W.Frag) (tg : Expr) (J : It) (fp : List Addr) (it : Addr) (tn : Nat→Heap→Prop) : Prop where
  mem : it∈fp
  obj : ∀ i h,tn i h→∀ b∈fp,∃ o,h.get? b=some o∧∀ v,o.data≠.cell v
  keep : ∀ i h h',tn i h→(∀ b∈fp,∀ o,h.get? b=some o→h'.get? b=some o)→tn i h'
  item : ∀ (X : Cx),X.prog=P→X.w=w→X.K=K→X.calm=true→∀ (i : Nat) (pins : List (Addr×Obj)) (s : Shared) (σ : St) (H : Hp) (E : Value→Shared→Prop),Inv X pins σ H s→(∀ b∈fp,FpOk X pins H b)→tn i s.heap→J.go i H→
    wpAny (model P w) X.A (pyNext (.ref it)) (fun r s1=>∃ u,r=some u∧
      wpAny (model P w) X.A (letOwnedTupleGo tg (.ref it) u) (fun _ s2=>∃ x H',Inv X pins σ H' s2∧RelV x u∧J.yld i H x H'∧tn (i + 1) s2.heap∧∀ b∈fp,H' b=none) E s1) E s
  done : ∀ (X : Cx),X.prog=P→X.w=w→X.K=K→X.calm=true→∀ (i : Nat) (pins : List (Addr×Obj)) (s : Shared) (σ : St) (H : Hp) (E : Value→Shared→Prop),Inv X pins σ H s→(∀ b∈fp,FpOk X pins H b)→tn i s.heap→J.stop i H→
    wpAny (model P w) X.A (pyNext (.ref it)) (fun r s1=>r=none∧Inv X pins σ H s1) E s
  self : ∀ (A : Around) (i : Nat) (s : Shared) (Q : Value→Shared→Prop) (E : Value→Shared→Prop),tn i s.heap→Q (.ref it) s→wpAny (model P w) A (pyIter (.ref it)) Q E s
abbrev TI:=St→Hp→(It→Hp→Prop)→Prop
def PIE (X : Cx) (pins : List (Addr×Obj)) (σ : St) (tg : Expr) (R : It→Hp→Prop) (itv : Value) (s2 : Shared) : Prop:=
  ∃ (it : Addr) (fp : List Addr) (tn : Nat→Heap→Prop) (J : It) (H' : Hp),itv = .ref it∧Inv X pins σ H' s2∧Turn X.prog X.w X.K tg J fp it tn∧tn 0 s2.heap∧(∀ b∈fp,FpOk X pins H' b)∧R J H'
def PI (X : Cx) (tg iter : Expr) (wi : TI) : Prop:=
  ∀ (pins : List (Addr×Obj)) (s : Shared) (σ : St) (H : Hp) (R : It→Hp→Prop),Inv X pins σ H s→wi σ H R→
    wpAny (model X.prog X.w) X.A (eval iter X.env) (fun v s1=>wpAny (model X.prog X.w) X.A (pyIter v) (PIE X pins σ tg R) X.xe s1) X.xe s
theorem go_of {M : Model} {A : Around} {E : Value→Shared→Prop} {s : Shared} {tg : Expr} {it : Addr} {u : Value} {o : Obj} {n : String} {vs : Array Value} {Q : Unit→Shared→Prop} (ho : s.heap.get? it=some o) (hc : o.cls = .type n) (hd : o.data = .fields vs)
    (hn : ["enumerate","zip","dict_itemiterator","dict_reverseitemiterator","odict_iterator","itertools.zip_longest","itertools.pairwise"].contains n=false) (hQ : Q () s) : wpAny M A (letOwnedTupleGo tg (.ref it) u) Q E s:=by
  unfold letOwnedTupleGo
  cases tg <;> first
    | exact wpAny_pure hQ
    | (cases u <;> first
        | exact wpAny_pure hQ
        | (refine wpAny_bind (wpAny_load ho ?_)
           rw [hc,hd]
           show wpAny M A (if (["enumerate","zip","dict_itemiterator","dict_reverseitemiterator","odict_iterator","itertools.zip_longest","itertools.pairwise"].contains n && vs[0]? == some (rawInt _))=true then _ else _) Q E s
           rw [if_neg (by intro h; rw [hn,Bool.false_and] at h; cases h)]
           exact wpAny_pure hQ))
def Itl (K : PySem.W.Frag) (a : Addr) : It:=
  ⟨fun i H=>∃ xs x,SqL K H a xs∧xs[i]? = some x,fun i H x H'=>H' = H∧∀ xs,SqL K H a xs→xs[i]? = some x,fun i H=>∃ xs,SqL K H a xs∧xs.length≤i⟩
def Itr (lo : Int) (n : Nat) : It:=⟨fun i _=>i < n,fun i H x H'=>H' = H∧x = .int (lo + i),fun i _=>n≤i⟩
theorem turn_list {P : Program} {w : World} {K : PySem.W.Frag} {tg : Expr} (a it : Addr) : Turn P w K tg (Itl K a) [it] it (fun i h=>h.IsListIter it a i) where
  mem:=by simp
  obj:=fun i h st b hb=>by
    have e : b=it:=by simpa using hb
    subst e
    obtain ⟨o,e,c,d⟩:=st
    exact ⟨o,e,fun v z=>by rw [d] at z; cases z⟩
  keep:=fun i h h' st k=>st.at fun o e=>k it (by simp) o e
  item:=by
    intro X hP hw hK hc i pins s σ H E I hf st hg
    subst hP hw hK
    obtain ⟨xs,x,hq,hx⟩:=hg
    obtain ⟨its,rv,p,hz⟩:=I.list hq
    obtain ⟨u,hu,ru⟩:=rv.get hx
    obtain ⟨f0,f1,f2,f3,f4,f5⟩:=hf it (by simp)
    refine wpAny_pyNext_list_item st p.isList (x:=u) (by simpa using hu) fun h' st' sb=>?_
    have I1 : Inv X pins σ H { s with heap:=h' }:=I.turned (t':=s.toks) (fun b o hb e=>(sb.2 b hb).trans e) f0 f1 f3 f4 f5
    obtain ⟨o,e,c,d⟩:=id st'
    exact ⟨u,rfl,go_of (s:={ s with heap:=h' }) e c d (by decide) ⟨x,H,I1,ru,⟨rfl,fun ys hy=>by rw [I.list_inj hy hq]; exact hx⟩,st',fun b hb=>(hf b hb).1⟩⟩
  done:=by
    intro X hP hw hK hc i pins s σ H E I hf st hg
    subst hP hw hK
    obtain ⟨xs,hq,hx⟩:=hg
    obtain ⟨its,rv,p,hz⟩:=I.list hq
    obtain ⟨f0,f1,f2,f3,f4,f5⟩:=hf it (by simp)
    have hl:=rv.length
    exact wpAny_pyNext_list_end (I.ok.hd hc) st p.isList (by simp; omega) fun h' eb=>⟨rfl,I.turned (t':=s.toks) (fun b o hb e=>eb b o hb e) f0 f1 f3 f4 f5⟩
  self:=fun _ _ _ _ _ st h=>wpAny_pyIter_listiter st h
theorem turn_range {P : Program} {w : World} {K : PySem.W.Frag} {tg : Expr} (it : Addr) (lo : Int) (n : Nat) : Turn P w K tg (Itr lo n) [it] it (fun i h=>IsRangeIter h it (lo + (i : Nat) * 1) ((n : Int) - (i : Nat)) 1) where
  mem:=by simp
  obj:=fun i h st b hb=>by
    have e : b=it:=by simpa using hb
    subst e
    exact ⟨_,st,fun v z=>by
      have z' : Data.fields _=Data.cell v:=z
      cases z'⟩
  keep:=fun i h h' st k=>k it (by simp) _ st
  item:=by
    intro X hP hw hK hc i pins s σ H E I hf st hg
    subst hP hw hK
    obtain ⟨f0,f1,f2,f3,f4,f5⟩:=hf it (by simp)
    have W:=Walks.range (prog:=X.prog) (w:=X.w) (I.ok.hd hc) it lo 1 n
    refine W.item i s _ _ hg st fun v h' tk hv st' kk=>?_
    obtain ⟨t,rfl⟩:=hv
    have I1 : Inv X pins σ H { s with heap:=h',toks:=tk }:=I.turned (fun b o hb e=>kk b o (by simpa using hb) e) f0 f1 f3 f4 f5
    refine ⟨_,rfl,go_of (s:={ s with heap:=h',toks:=tk }) (n := "range_iterator") st' rfl rfl (by decide) ⟨.int (lo + i),H,I1,⟨t,?_⟩,⟨rfl,rfl⟩,st',fun b hb=>(hf b hb).1⟩⟩
    rw [Int.mul_one]
  done:=by
    intro X hP hw hK hc i pins s σ H E I hf st hg
    subst hP hw hK
    obtain ⟨f0,f1,f2,f3,f4,f5⟩:=hf it (by simp)
    exact wpAny_pyNext_range_end (I.ok.hd hc) st (by have : n≤i:=hg; omega) fun h' eb=>⟨rfl,I.turned (t':=s.toks) (fun b o hb e=>eb b o hb e) f0 f1 f3 f4 f5⟩
  self:=fun _ _ _ _ _ st h=>wpAny_pyIter_rangeiter st h
end L2
namespace L2
open PySem PySem.Spec PyProof.Rows
section
variable {X : Cx} {tg : Expr}
def iList (K : PySem.W.Frag) (tl : TE) : TI:=fun σ H R=>tl σ H fun x H1=>∃ a,x = .ref a∧(∃ xs,SqL K H1 a xs)∧R (Itl K a) H1
theorem pi_list {l : Expr} {tl : TE} (hl : PE X l tl) : PI X tg l (iList X.K tl):=by
  intro pins s σ H R I h
  refine thn (hl pins s σ H _ I h) fun v s1 ⟨x,H1,I1,r1,q1⟩=>?_
  obtain ⟨a,e,⟨xs,hq⟩,q⟩:=q1
  subst e
  cases r1
  obtain ⟨its,rv,p,hz⟩:=I1.list hq
  refine wpAny_pyIter_list p.isList ?_
  refine ⟨s1.heap.objs.size,[s1.heap.objs.size],_,_,H1,rfl,I1.kept (t':=s1.toks) fun b o e=>Heap.get?_push_of_some _ e,turn_list a _,⟨_,Heap.get?_push_size _ rfl,rfl,rfl⟩,fun b hb=>?_,q⟩
  have e : b=s1.heap.objs.size:=by simpa using hb
  subst e
  exact I1.fpOk (Nat.le_refl _) (I1.hok.fresh (Nat.le_refl _))
theorem range_it {pins : List (Addr×Obj)} {σ : St} {H : Hp} {s : Shared} {R : It→Hp→Prop} {E : Value→Shared→Prop} {lo hi : Int} {t u v : Tok} {tk : Nat} (I : Inv X pins σ H s) (h1 : -(2 ^ 62)≤lo) (h2 : lo < 2 ^ 62) (h3 : -(2 ^ 62)≤hi) (h4 : hi < 2 ^ 62)
    (q : R (Itr lo (hi - lo).toNat) H) : wpAny (model X.prog X.w) X.A (pyIter (.ref s.heap.objs.size)) (PIE X pins σ tg R) E { s with heap:=s.heap.push { cls:=.type "range",data:=.fields #[.int lo t,.int hi u,.int 1 v] },toks:=tk }:=by
  refine wpAny_pyIter_range (IsRange.new ..) (small_one h1 h2 h3 h4) ?_
  have I1 : Inv X pins σ H { s with heap:=s.heap.push { cls:=.type "range",data:=.fields #[.int lo t,.int hi u,.int 1 v] },toks:=tk }:=I.kept fun b o e=>Heap.get?_push_of_some _ e
  refine ⟨(s.heap.push { cls:=.type "range",data:=.fields #[.int lo t,.int hi u,.int 1 v] }).objs.size,[(s.heap.push { cls:=.type "range",data:=.fields #[.int lo t,.int hi u,.int 1 v] }).objs.size],_,_,H,rfl,
    I1.kept (t':=tk) fun b o e=>Heap.get?_push_of_some _ e,turn_range _ lo (hi - lo).toNat,?_,fun b hb=>?_,q⟩
  · have e1 : lo + ((0 : Nat) : Int) * 1=lo:=by simp
    have e2 : (((hi - lo).toNat : Nat) : Int) - ((0 : Nat) : Int)=Builtin.Range.rangeSize lo hi 1:=by rw [rangeSize_one]; split <;> omega
    show IsRangeIter _ _ (lo + ((0 : Nat) : Int) * 1) ((((hi - lo).toNat : Nat) : Int) - ((0 : Nat) : Int)) 1
    rw [e1,e2]
    exact Heap.get?_push_size _ rfl
  · have e : b=(s.heap.push { cls:=.type "range",data:=.fields #[.int lo t,.int hi u,.int 1 v] }).objs.size:=by simpa using hb
    subst e
    exact I1.fpOk (Nat.le_refl _) (I1.hok.fresh (Nat.le_refl _))
def iRng1 (ta : TA) : TI:=fun σ H R=>ta σ H fun vs H1=>∃ j : Int,vs=[.int j]∧-(2 ^ 62)≤j∧j < 2 ^ 62∧R (Itr 0 j.toNat) H1
theorem pi_range1 {a : Expr} {ta : TA} {p pos : Pos} (hg : Gl X "range") (hm : X.mg "range" = none) (ha : PA X [a] ta) (hs : starEach [a] X.env=[(false,eval a X.env)]:=by rfl) : PI X tg (.Call (.Name "range" p) [a] [] pos) (iRng1 ta):=by
  intro pins s σ H R I h
  refine Call_ (ld_blt I hg hm boot_range (PyProof.Rows.callWith_type1 (thn (ha pos pins s σ H _ I h) fun us s1 ⟨vs,H1,I1,r1,q1⟩=>?_) hs rfl))
  obtain ⟨j,e,q1,q2,q⟩:=q1
  subst e
  cases r1 with
  | cons r rr=>
    cases rr
    obtain ⟨t,rfl⟩:=r
    exact call_range_1 (range_it I1 (by omega) (by omega) q1 q2 (by simpa using q))
def tFor (wi : TI) (g : TG) (tb : TS) : TS:=fun D σ H=>wi σ H fun J H1=>∃ W : Nat→Nat→St→Hp→Prop,(∃ m,W 0 m σ H1)∧∀ i m σ H,W i m σ H→
  (J.stop i H∧D.nx σ H)∨(J.go i H∧∃ N : St→Hp→Prop,(∀ σ' H',N σ' H'→∃ m',m' < m∧W (i + 1) m' σ' H')∧∀ x H',J.yld i H x H'→g x σ H' fun σ2 H2=>tb { D with nx:=N,ct:=N,bk:=D.nx } σ2 H2)
def pinsAt (fp : List Addr) (h : Heap) : List (Addr×Obj):=fp.filterMap fun b=>(h.get? b).map fun o=>(b,o)
theorem mem_pinsAt {fp : List Addr} {h : Heap} {b : Addr} {o : Obj} (hb : b∈fp) (e : h.get? b=some o) : (b,o)∈pinsAt fp h:=List.mem_filterMap.mpr ⟨b,hb,by rw [e]; rfl⟩
theorem of_pinsAt {fp : List Addr} {h : Heap} {p : Addr×Obj} (hp : p∈pinsAt fp h) : p.1∈fp∧h.get? p.1=some p.2:=by
  obtain ⟨b,hb,e⟩:=List.mem_filterMap.mp hp
  cases q : h.get? b with
  | none=>rw [q] at e; cases e
  | some o=>
    rw [q] at e
    have e' : (b,o)=p:=Option.some.inj e
    subst e'
    exact ⟨hb,q⟩
theorem Inv.pinned {pins : List (Addr×Obj)} {σ : St} {H : Hp} {s : Shared} {fp : List Addr} (I : Inv X pins σ H s) (hf : ∀ b∈fp,FpOk X pins H b) (ho : ∀ b∈fp,∃ o,s.heap.get? b=some o∧∀ v,o.data≠.cell v) : Inv X (pins ++ pinsAt fp s.heap) σ H s:=
  I.pins_of fun p hp=>(List.mem_append.mp hp).elim (fun z=>I.pin p (List.mem_append_right _ z)) fun z=>by
    obtain ⟨hb,e⟩:=of_pinsAt z
    obtain ⟨f0,f1,f2,_⟩:=hf p.1 hb
    obtain ⟨o,e',d⟩:=ho p.1 hb
    rw [e] at e'; cases e'
    exact ⟨e,f0,f1,f2,d⟩
theorem Inv.unpinned {pins pl : List (Addr×Obj)} {σ : St} {H : Hp} {s : Shared} (I : Inv X (pins ++ pl) σ H s) : Inv X pins σ H s:=I.pins_of fun p hp=>I.pin p (List.mem_append_right _ (List.mem_append_left _ hp))
theorem ps_for {iter : Expr} {body : List Stmt} {wi : TI} {g : TG} {tb : TS} {pos : Pos} (hp : PassesOwn (model X.prog X.w) X.A X.env X.xe) (hc : X.calm=true) (hi : PI X tg iter wi) (hg : PG X tg g) (hb : PSs X body tb)
    (hs : ∀ x,foldedSetIterable iter X.env x=pure x:=by intro _; rfl) : PS X (.For tg iter body [] pos) (tFor wi g tb):=by
  intro pins s σ H D I h
  refine wpAny_For (thn (hi pins s σ H _ I h) fun v s1 h1=>thn h1 fun itv s2 h2=>?_) hs
  obtain ⟨it,fp,tn,J,H2,e,I2,T,st2,f2,W,⟨m0,w0⟩,turn⟩:=h2
  subst e
  have stat : ∀ {H' : Hp},(∀ b∈fp,H' b=none)→∀ b∈fp,FpOk X pins H' b:=fun hn b hb=>⟨hn b hb,(f2 b hb).2⟩
  refine codeAny_forLoop_any (fun n s'=>∃ i σ' H',Inv X pins σ' H' s'∧tn i s'.heap∧(∀ b∈fp,H' b=none)∧W i n σ' H') ?_ m0 ⟨0,σ,H2,I2,st2,fun b hb=>(f2 b hb).1,w0⟩
  rintro n s3 ⟨i,σ3,H3,I3,st3,fr3,w3⟩
  rcases turn i n σ3 H3 w3 with ⟨stop,qn⟩ | ⟨go,N,hN,step⟩
  · refine wpAny_passesOwn hp (thn (T.done X rfl rfl rfl hc i pins s3 σ3 H3 X.xe I3 (stat fr3) st3 stop) fun r s4 ⟨hr,I4⟩=>?_)
    subst hr
    exact wpAny_execs_nil ⟨σ3,H3,I4,qn⟩
  · refine wpAny_passesOwn hp (thn (T.item X rfl rfl rfl hc i pins s3 σ3 H3 X.xe I3 (stat fr3) st3 go) fun r s4 ⟨u,hr,h4⟩=>?_)
    subst hr
    refine wpAny_passesOwn hp (thn h4 fun _ s5 ⟨x,H5,I5,r5,y5,st5,fr5⟩=>?_)
    have I5':=I5.pinned (stat fr5) (T.obj _ _ st5)
    refine wpAny_passesOwn hp (thn (hg _ s5 σ3 H5 x u _ I5' r5 (step x H5 y5)) fun _ s6 ⟨σ6,H6,I6,q6⟩=>?_)
    refine wpAny_passesOwn hp (thn (hb _ s6 σ6 H6 _ I6 q6) fun f s7 q7=>?_)
    have again : ∀ {σ7 : St} {H7 : Hp},Inv X (pins ++ pinsAt fp s5.heap) σ7 H7 s7→N σ7 H7→∃ m,m < n∧∃ i σ' H',Inv X pins σ' H' s7∧tn i s7.heap∧(∀ b∈fp,H' b=none)∧W i m σ' H':=fun {σ7 H7} I7 n7=>by
      obtain ⟨m',hm,w7⟩:=hN σ7 H7 n7
      refine ⟨m',hm,i + 1,σ7,H7,I7.unpinned,T.keep _ _ _ st5 fun b hb o e=>(I7.pin (b,o) (List.mem_append_right _ (List.mem_append_right _ (mem_pinsAt hb e)))).1,fun b hb=>?_,w7⟩
      obtain ⟨o,e,d⟩:=T.obj _ _ st5 b hb
      exact (I7.pin (b,o) (List.mem_append_right _ (List.mem_append_right _ (mem_pinsAt hb e)))).2.1
    cases f with
    | next=>obtain ⟨σ7,H7,I7,n7⟩:=q7; exact again I7 n7
    | cont=>obtain ⟨σ7,H7,I7,n7⟩:=q7; exact again I7 n7
    | brk=>obtain ⟨σ7,H7,I7,q7⟩:=q7; exact ⟨σ7,H7,I7.unpinned,q7⟩
    | ret v=>obtain ⟨x7,σ7,H7,I7,r7,q7⟩:=q7; exact ⟨x7,σ7,H7,I7.unpinned,r7,q7⟩
end
theorem for_list {K : PySem.W.Frag} {a : Addr} {xs : List V} {g : TG} {tb : TS} {D : Ends} {σ : St} {H : Hp} (Pv : Nat→St→Hp→Prop) (h0 : Pv 0 σ H) (hl : ∀ i σ H,i≤xs.length→Pv i σ H→SqL K H a xs)
    (hs : ∀ i x σ H,xs[i]? = some x→Pv i σ H→g x σ H fun σ2 H2=>tb { D with nx:=Pv (i + 1),ct:=Pv (i + 1),bk:=D.nx } σ2 H2) (hd : ∀ σ H,Pv xs.length σ H→D.nx σ H) :
    ∃ W : Nat→Nat→St→Hp→Prop,(∃ m,W 0 m σ H)∧∀ i m σ H,W i m σ H→
      ((Itl K a).stop i H∧D.nx σ H)∨((Itl K a).go i H∧∃ N : St→Hp→Prop,(∀ σ' H',N σ' H'→∃ m',m' < m∧W (i + 1) m' σ' H')∧∀ x H',(Itl K a).yld i H x H'→g x σ H' fun σ2 H2=>tb { D with nx:=N,ct:=N,bk:=D.nx } σ2 H2):=by
  refine ⟨fun i m σ H=>m=xs.length - i∧i≤xs.length∧Pv i σ H,⟨xs.length,by simp,Nat.zero_le _,h0⟩,?_⟩
  rintro i m σ H ⟨rfl,hi,p⟩
  have q:=hl i σ H hi p
  by_cases hlt : i < xs.length
  · refine .inr ⟨⟨xs,xs[i],q,by simp [hlt]⟩,Pv (i + 1),fun σ' H' p'=>⟨xs.length - (i + 1),by omega,rfl,hlt,p'⟩,fun x H' y=>?_⟩
    obtain ⟨e,y⟩:=y
    subst e
    exact hs i x σ _ (y xs q) p
  · have e : i=xs.length:=by omega
    subst e
    exact .inl ⟨⟨xs,q,Nat.le_refl _⟩,hd σ H p⟩
theorem for_range {lo : Int} {n : Nat} {g : TG} {tb : TS} {D : Ends} {σ : St} {H : Hp} (Pv : Nat→St→Hp→Prop) (h0 : Pv 0 σ H)
    (hs : ∀ i σ H,i < n→Pv i σ H→g (.int (lo + i)) σ H fun σ2 H2=>tb { D with nx:=Pv (i + 1),ct:=Pv (i + 1),bk:=D.nx } σ2 H2) (hd : ∀ σ H,Pv n σ H→D.nx σ H) :
    ∃ W : Nat→Nat→St→Hp→Prop,(∃ m,W 0 m σ H)∧∀ i m σ H,W i m σ H→
      ((Itr lo n).stop i H∧D.nx σ H)∨((Itr lo n).go i H∧∃ N : St→Hp→Prop,(∀ σ' H',N σ' H'→∃ m',m' < m∧W (i + 1) m' σ' H')∧∀ x H',(Itr lo n).yld i H x H'→g x σ H' fun σ2 H2=>tb { D with nx:=N,ct:=N,bk:=D.nx } σ2 H2):=by
  refine ⟨fun i m σ H=>m=n - i∧i≤n∧Pv i σ H,⟨n,by simp,Nat.zero_le _,h0⟩,?_⟩
  rintro i m σ H ⟨rfl,hi,p⟩
  by_cases hlt : i < n
  · refine .inr ⟨hlt,Pv (i + 1),fun σ' H' p'=>⟨n - (i + 1),by omega,rfl,hlt,p'⟩,fun x H' y=>?_⟩
    obtain ⟨e,y⟩:=y
    subst e y
    exact hs i σ _ hlt p
  · have e : i=n:=by omega
    subst e
    exact .inl ⟨Nat.le_refl _,hd σ H p⟩
end L2
namespace L2
open PySem PySem.Spec PyProof.Rows
abbrev R2:=V→V→Hp→VK→Prop
def OpR (X : Cx) (f : Value→Value→Sem Value) (r : R2) : Prop:=
  ∀ (pins : List (Addr×Obj)) (s : Shared) (σ : St) (H : Hp) (x y : V) (v u : Value) (Q : VK),Inv X pins σ H s→RelV x v→RelV y u→r x y H Q→
    wpAny (model X.prog X.w) X.A (f v u) (EP X pins σ Q) X.xe s
def UnR (X : Cx) (f : Value→Sem Value) (r : V→Hp→VK→Prop) : Prop:=
  ∀ (pins : List (Addr×Obj)) (s : Shared) (σ : St) (H : Hp) (x : V) (v : Value) (Q : VK),Inv X pins σ H s→RelV x v→r x H Q→
    wpAny (model X.prog X.w) X.A (f v) (EP X pins σ Q) X.xe s
def CallR (X : Cx) (f : Value) (r : List V→Hp→VK→Prop) : Prop:=
  ∀ (pins : List (Addr×Obj)) (s : Shared) (σ : St) (H : Hp) (xs : List V) (us : List Value) (Q : VK),Inv X pins σ H s→Vals xs us→r xs H Q→
    wpAny (model X.prog X.w) X.A (call f us) (EP X pins σ Q) X.xe s
def TruR (X : Cx) (r : V→Hp→(Bool→Hp→Prop)→Prop) : Prop:=
  ∀ (pins : List (Addr×Obj)) (s : Shared) (σ : St) (H : Hp) (x : V) (v : Value) (Q : Bool→Hp→Prop),Inv X pins σ H s→RelV x v→r x H Q→
    wpAny (model X.prog X.w) X.A (truthy v) (TP X pins σ Q) X.xe s
def tOp (r : R2) (ta tb : TE) : TE:=fun σ H Q=>ta σ H fun x H1=>tb σ H1 fun y H2=>r x y H2 Q
def tUn (r : V→Hp→VK→Prop) (ta : TE) : TE:=fun σ H Q=>ta σ H fun x H1=>r x H1 Q
def rI (C : Int→Int→Prop) (g : Int→Int→V) : R2:=fun x y H Q=>∃ i j,x = .int i∧y = .int j∧C i j∧Q (g i j) H
def rI0 (g : Int→Int→V) : R2:=fun x y H Q=>∃ i j,x = .int i∧y = .int j∧Q (g i j) H
def rU (g : Int→V) : V→Hp→VK→Prop:=fun x H Q=>∃ i,x = .int i∧Q (g i) H
section
variable {X : Cx} {a b c : Expr} {ta tb tc : TE} {pos : Pos}
theorem binT (ha : PE X a ta) (hb : PE X b tb) {pins : List (Addr×Obj)} {s : Shared} {σ : St} {H : Hp} {R : V→V→Hp→Prop} (I : Inv X pins σ H s)
    (h : ta σ H fun x H1=>tb σ H1 fun y H2=>R x y H2) {Q : Value→Shared→Prop} {f : Value→Value→Sem Value}
    (hf : ∀ v u s2 x y H2,Inv X pins σ H2 s2→RelV x v→RelV y u→R x y H2→wpAny (model X.prog X.w) X.A (f v u) Q X.xe s2) :
    wpAny (model X.prog X.w) X.A (eval a X.env) (fun v s₁=>wpAny (model X.prog X.w) X.A (eval b X.env) (fun u s₂=>wpAny (model X.prog X.w) X.A (f v u) Q X.xe s₂) X.xe s₁) X.xe s:=by
  refine thn (ha pins s σ H _ I h) fun v s1 ⟨x,H1,I1,r1,q1⟩=>?_
  refine thn (hb pins s1 σ H1 _ I1 q1) fun u s2 ⟨y,H2,I2,r2,q2⟩=>?_
  exact hf v u s2 x y H2 I2 r1 r2 q2
theorem pe_op {op : Operator} {r : R2} (ho : OpR X (binaryOp op) r) (ha : PE X a ta) (hb : PE X b tb) : PE X (.BinOp a op b pos) (tOp r ta tb):=by
  intro pins s σ H Q I h
  exact wpAny_BinOp (binT ha hb I h fun v u s2 x y H2 I2 rx ry q=>ho pins s2 σ H2 x y v u Q I2 rx ry q)
theorem pe_un {op : UnaryOp} {r : V→Hp→VK→Prop} (ho : UnR X (unaryOp op) r) (ha : PE X a ta) : PE X (.UnaryOp op a pos) (tUn r ta):=by
  intro pins s σ H Q I h
  exact UnaryOp_ (thn (ha pins s σ H _ I h) fun v s1 ⟨x,H1,I1,r1,q1⟩=>ho pins s1 σ H1 x v Q I1 r1 q1)
theorem opI {f : Value→Value→Sem Value} {C : Int→Int→Prop} {g : Int→Int→Int}
    (rule : ∀ (i j : Int) (t u : Tok) (s : Shared) (Q : Value→Shared→Prop) (E : Value→Shared→Prop),C i j→Q (.int (g i j) s.toks) { s with toks:=s.toks + 1 }→wpAny (model X.prog X.w) X.A (f (.int i t) (.int j u)) Q E s) :
    OpR X f (rI C fun i j=>.int (g i j)):=by
  intro pins s σ H x y v u Q I rx ry h
  obtain ⟨i,j,rfl,rfl,hc,q⟩:=h
  obtain ⟨t,rfl⟩:=rx
  obtain ⟨t',rfl⟩:=ry
  exact rule i j t t' s _ _ hc ⟨.int (g i j),H,I.tok _,⟨_,rfl⟩,q⟩
theorem opI0 {f : Value→Value→Sem Value} {g : Int→Int→Int}
    (rule : ∀ (i j : Int) (t u : Tok) (s : Shared) (Q : Value→Shared→Prop) (E : Value→Shared→Prop),Q (.int (g i j) s.toks) { s with toks:=s.toks + 1 }→wpAny (model X.prog X.w) X.A (f (.int i t) (.int j u)) Q E s) :
    OpR X f (rI0 fun i j=>.int (g i j)):=by
  intro pins s σ H x y v u Q I rx ry h
  obtain ⟨i,j,rfl,rfl,q⟩:=h
  obtain ⟨t,rfl⟩:=rx
  obtain ⟨t',rfl⟩:=ry
  exact rule i j t t' s _ _ ⟨.int (g i j),H,I.tok _,⟨_,rfl⟩,q⟩
theorem opB0 {f : Value→Value→Sem Value} {g : Int→Int→Bool}
    (rule : ∀ (i j : Int) (t u : Tok) (s : Shared) (Q : Value→Shared→Prop) (E : Value→Shared→Prop),Q (.bool (g i j)) s→wpAny (model X.prog X.w) X.A (f (.int i t) (.int j u)) Q E s) :
    OpR X f (rI0 fun i j=>.bl (g i j)):=by
  intro pins s σ H x y v u Q I rx ry h
  obtain ⟨i,j,rfl,rfl,q⟩:=h
  obtain ⟨t,rfl⟩:=rx
  obtain ⟨t',rfl⟩:=ry
  exact rule i j t t' s _ _ ⟨.bl (g i j),H,I,rfl,q⟩
def CPow (i j : Int) : Prop:=0≤j∧j≤1000000∧i.natAbs < 2 ^ 64
def CMul (i j : Int) : Prop:=(-(2 ^ 64) < i∧i < 2 ^ 64)∨(-(2 ^ 64) < j∧j < 2 ^ 64)
theorem CMul.ok {i j : Int} (h : CMul i j) : IntMulOk i j:=by
  rcases h with ⟨h1,h2⟩ | ⟨h1,h2⟩
  · exact .of_left (intBits_le_64 h1 h2)
  · exact .of_right (intBits_le_64 h1 h2)
theorem op_add : OpR X (binaryOp .Add) (rI0 fun i j=>.int (i + j)):=opI0 fun _ _ _ _ _ _ _ q=>add_int q
theorem op_sub : OpR X (binaryOp .Sub) (rI0 fun i j=>.int (i - j)):=opI0 fun _ _ _ _ _ _ _ q=>sub_int q
theorem op_mul : OpR X (binaryOp .Mult) (rI CMul fun i j=>.int (i * j)):=opI fun _ _ _ _ _ _ _ hc q=>mul_int q hc.ok
theorem op_mod : OpR X (binaryOp .Mod) (rI (fun _ j=>0 < j) fun i j=>.int (i % j)):=opI fun i j _ _ _ _ _ hc q=>by
  have h1 : (0 : Int) < j:=hc
  exact mod_int' (by omega) (by rw [Int.fmod_eq_emod_of_nonneg i (by omega)]; exact q)
theorem op_pow : OpR X (binaryOp .Pow) (rI CPow fun i j=>.int (i ^ j.toNat)):=opI fun _ _ _ _ _ _ _ hc q=>pow_int_small hc.1 hc.2.1 hc.2.2 q
theorem unI {f : Value→Sem Value} {g : Int→Int}
    (rule : ∀ (i : Int) (t : Tok) (s : Shared) (Q : Value→Shared→Prop) (E : Value→Shared→Prop),Q (.int (g i) s.toks) { s with toks:=s.toks + 1 }→wpAny (model X.prog X.w) X.A (f (.int i t)) Q E s) :
    UnR X f (rU fun i=>.int (g i)):=by
  intro pins s σ H x v Q I rx h
  obtain ⟨i,rfl,q⟩:=h
  obtain ⟨t,rfl⟩:=rx
  exact rule i t s _ _ ⟨.int (g i),H,I.tok _,⟨_,rfl⟩,q⟩
theorem un_neg : UnR X (unaryOp .USub) (rU fun i=>.int (-i)):=unI fun _ _ _ _ _ q=>neg_int q
end
def scal : V→V→Bool
  | .non,.non=>true | .non,.int _=>true | .int _,.non=>true | .non,.bl _=>true | .bl _,.non=>true | .non,.str _=>true | .str _,.non=>true
  | .int _,.int _=>true | .bl _,.bl _=>true | .str _,.str _=>true | .byt _,.byt _=>true
  | .int _,.str _=>true | .str _,.int _=>true | .bl _,.str _=>true | .str _,.bl _=>true
  | _,_=>false
def rEq : R2:=fun x y H Q=>scal x y=true∧Q (.bl (decide (x=y))) H
def rNe : R2:=fun x y H Q=>scal x y=true∧Q (.bl (!decide (x=y))) H
theorem dec_int {i j : Int} : decide (V.int i=V.int j)=(i == j):=by
  rw [Bool.eq_iff_iff]
  simp
theorem dec_bl {i j : Bool} : decide (V.bl i=V.bl j)=(i == j):=by
  rw [Bool.eq_iff_iff]
  simp
theorem dec_str {i j : Str} : decide (V.str i=V.str j)=(i == j):=by
  rw [Bool.eq_iff_iff]
  simp
theorem dec_byt {i j : Array UInt8} : decide (V.byt i=V.byt j)=(i.toList == j.toList):=by
  rw [Bool.eq_iff_iff]
  cases i
  cases j
  simp
section
variable {X : Cx} {a b c : Expr} {ta tb tc : TE} {pos : Pos}
theorem fin_bl {pins : List (Addr×Obj)} {σ : St} {H : Hp} {s : Shared} {Q : VK} {k k' : Bool} (I : Inv X pins σ H s) (q : Q (.bl k) H) (e : k=k') : EP X pins σ Q (.bool k') s:=by
  subst e
  exact ⟨.bl k,H,I,rfl,q⟩
theorem op_eq : OpR X (compareOp .Eq) rEq:=by
  intro pins s σ H x y v u Q I rx ry h
  obtain ⟨hs,q⟩:=h
  cases x with
  | non=>
    cases rx
    cases y with
    | non=>cases ry; exact PySem.EqNone.eq_none_none (fin_bl I q (by simp))
    | bl j=>cases ry; exact PySem.EqNone.eq_none_bool (fin_bl I q (by simp))
    | int j=>obtain ⟨t',rfl⟩:=ry; exact PySem.EqNone.eq_none_int (fin_bl I q (by simp))
    | str j=>obtain ⟨t',rfl⟩:=ry; exact PySem.EqNone.eq_none_str (fin_bl I q (by simp))
    | _=>exact absurd (show false=true from hs) Bool.false_ne_true
  | bl i=>
    cases rx
    cases y with
    | non=>cases ry; exact PySem.EqNone.eq_bool_none (fin_bl I q (by simp))
    | bl j=>cases ry; exact eq_bool (fin_bl I q dec_bl)
    | str j=>obtain ⟨t',rfl⟩:=ry; exact PySem.EqMixed.eq_bool_str (fin_bl I q (by simp))
    | _=>exact absurd (show false=true from hs) Bool.false_ne_true
  | int i=>
    obtain ⟨t,rfl⟩:=rx
    cases y with
    | non=>cases ry; exact PySem.EqNone.eq_int_none (fin_bl I q (by simp))
    | int j=>obtain ⟨t',rfl⟩:=ry; exact eq_int (fin_bl I q dec_int)
    | str j=>obtain ⟨t',rfl⟩:=ry; exact PySem.EqMixed.eq_int_str (fin_bl I q (by simp))
    | _=>exact absurd (show false=true from hs) Bool.false_ne_true
  | str i=>
    obtain ⟨t,rfl⟩:=rx
    cases y with
    | non=>cases ry; exact PySem.EqNone.eq_str_none (fin_bl I q (by simp))
    | bl j=>cases ry; exact PySem.EqMixed.eq_str_bool (fin_bl I q (by simp))
    | int j=>obtain ⟨t',rfl⟩:=ry; exact PySem.EqMixed.eq_str_int (fin_bl I q (by simp))
    | str j=>obtain ⟨t',rfl⟩:=ry; exact eq_str (fin_bl I q dec_str)
    | _=>exact absurd (show false=true from hs) Bool.false_ne_true
  | byt i=>
    obtain ⟨t,rfl⟩:=rx
    cases y with
    | byt j=>obtain ⟨t',rfl⟩:=ry; exact PySem.W.eq_bytes (fin_bl I q dec_byt)
    | _=>exact absurd (show false=true from hs) Bool.false_ne_true
  | _=>cases y <;> exact absurd (show false=true from hs) Bool.false_ne_true
theorem op_ne : OpR X (compareOp .NotEq) rNe:=by
  intro pins s σ H x y v u Q I rx ry h
  obtain ⟨hs,q⟩:=h
  cases x with
  | non=>
    cases rx
    cases y with
    | non=>cases ry; exact PySem.EqNone.ne_none_none (fin_bl I q (by simp))
    | bl j=>cases ry; exact PySem.EqNone.ne_none_bool (fin_bl I q (by simp))
    | int j=>obtain ⟨t',rfl⟩:=ry; exact PySem.EqNone.ne_none_int (fin_bl I q (by simp))
    | str j=>obtain ⟨t',rfl⟩:=ry; exact PySem.EqNone.ne_none_str (fin_bl I q (by simp))
    | _=>exact absurd (show false=true from hs) Bool.false_ne_true
  | bl i=>
    cases rx
    cases y with
    | non=>cases ry; exact PySem.EqNone.ne_bool_none (fin_bl I q (by simp))
    | bl j=>cases ry; exact ne_bool (fin_bl I q (congrArg not dec_bl))
    | str j=>obtain ⟨t',rfl⟩:=ry; exact PySem.EqMixed.ne_bool_str (fin_bl I q (by simp))
    | _=>exact absurd (show false=true from hs) Bool.false_ne_true
  | int i=>
    obtain ⟨t,rfl⟩:=rx
    cases y with
    | non=>cases ry; exact PySem.EqNone.ne_int_none (fin_bl I q (by simp))
    | int j=>obtain ⟨t',rfl⟩:=ry; exact ne_int (fin_bl I q (congrArg not dec_int))
    | str j=>obtain ⟨t',rfl⟩:=ry; exact PySem.EqMixed.ne_int_str (fin_bl I q (by simp))
    | _=>exact absurd (show false=true from hs) Bool.false_ne_true
  | str i=>
    obtain ⟨t,rfl⟩:=rx
    cases y with
    | non=>cases ry; exact PySem.EqNone.ne_str_none (fin_bl I q (by simp))
    | bl j=>cases ry; exact PySem.EqMixed.ne_str_bool (fin_bl I q (by simp))
    | int j=>obtain ⟨t',rfl⟩:=ry; exact PySem.EqMixed.ne_str_int (fin_bl I q (by simp))
    | str j=>obtain ⟨t',rfl⟩:=ry; exact ne_str (fin_bl I q (congrArg not dec_str))
    | _=>exact absurd (show false=true from hs) Bool.false_ne_true
  | byt i=>
    obtain ⟨t,rfl⟩:=rx
    cases y with
    | byt j=>obtain ⟨t',rfl⟩:=ry; exact PySem.W.ne_bytes (fin_bl I q (congrArg not dec_byt))
    | _=>exact absurd (show false=true from hs) Bool.false_ne_true
  | _=>cases y <;> exact absurd (show false=true from hs) Bool.false_ne_true
theorem op_lt : OpR X (compareOp .Lt) (rI0 fun i j=>.bl (decide (i < j))):=opB0 fun _ _ _ _ _ _ _ q=>lt_int q
theorem op_le : OpR X (compareOp .LtE) (rI0 fun i j=>.bl (decide (i≤j))):=opB0 fun _ _ _ _ _ _ _ q=>le_int q
theorem op_gt : OpR X (compareOp .Gt) (rI0 fun i j=>.bl (decide (j < i))):=opB0 fun _ _ _ _ _ _ _ q=>gt_int q
theorem op_ge : OpR X (compareOp .GtE) (rI0 fun i j=>.bl (decide (j≤i))):=opB0 fun _ _ _ _ _ _ _ q=>ge_int q
theorem nomark (b : Expr) {op : CmpOp} (h : op≠.In:=by decide) (h2 : op≠.NotIn:=by decide) : behindInMarks op b=false:=by
  have e1 : (op == CmpOp.In)=false:=by cases op <;> first | rfl | exact absurd rfl h
  have e2 : (op == CmpOp.NotIn)=false:=by cases op <;> first | rfl | exact absurd rfl h2
  cases b <;> simp [behindInMarks,e1,e2]
theorem pe_cmpR {op : CmpOp} {r : R2} (ho : OpR X (compareOp op) r) (ha : PE X a ta) (hb : PE X b tb) (hm : behindInMarks op b=false) : PE X (.Compare a [op] [b] pos) (tOp r ta tb):=by
  intro pins s σ H Q I h
  exact wpAny_Compare1 (binT ha hb I h fun v u s2 x y H2 I2 rx ry q=>ho pins s2 σ H2 x y v u Q I2 rx ry q) hm
def tTest (t : TE) : TT:=fun σ H Q=>t σ H fun x H'=>∃ k,x = .bl k∧Q k H'
theorem pt_cmpR {op : CmpOp} {r : R2} (ho : OpR X (compareOp op) r) (ha : PE X a ta) (hb : PE X b tb) (hm : behindInMarks op b=false) : PT X (.Compare a [op] [b] pos) (tTest (tOp r ta tb)):=by
  intro pins s σ H Q I h
  refine wpAny_isTrue_Compare1 (thn (ha pins s σ H _ I h) fun v s1 ⟨x,H1,I1,r1,q1⟩=>thn (hb pins s1 σ H1 _ I1 q1) fun u s2 ⟨y,H2,I2,r2,q2⟩=>
    thn (ho pins s2 σ H2 x y v u _ I2 r1 r2 q2) fun c s3 ⟨z,H3,I3,r3,k,e,q3⟩=>?_) hm
  subst e
  cases r3
  exact wpAny_truthy_bool ⟨H3,I3,q3⟩
def tChain (r r' : R2) (ta tb tc : TE) : TE:=fun σ H Q=>ta σ H fun x H1=>tb σ H1 fun y H2=>r x y H2 fun z H3=>∃ k,z = .bl k∧
  (if k=true then tc σ H3 fun w' H4=>r' y w' H4 Q else Q (.bl false) H3)
theorem pe_chain {op op' : CmpOp} {r r' : R2} (ho : OpR X (compareOp op) r) (ho' : OpR X (compareOp op') r') (ha : PE X a ta) (hb : PE X b tb) (hc : PE X c tc)
    (hm : lastMarks [op,op'] [b,c]=false:=by with_unfolding_all rfl) : PE X (.Compare a [op,op'] [b,c] pos) (tChain r r' ta tb tc):=by
  intro pins s σ H Q I h
  refine Compare_chain (thn (ha pins s σ H _ I h) fun v s1 ⟨x,H1,I1,r1,q1⟩=>chain_link (thn (hb pins s1 σ H1 _ I1 q1) fun u s2 ⟨y,H2,I2,r2,q2⟩=>
    thn (ho pins s2 σ H2 x y v u _ I2 r1 r2 q2) fun d s3 ⟨z,H3,I3,r3,k,e,q3⟩=>?_)) hm
  subst e
  cases r3
  refine wpAny_truthy_bool ?_
  cases k with
  | false=>exact ite_ff ⟨.bl false,H3,I3,rfl,q3⟩
  | true=>exact ite_tt (chain_last (thn (hc pins s3 σ H3 _ I3 q3) fun w' s4 ⟨z',H4,I4,r4,q4⟩=>ho' pins s4 σ H4 y z' u w' Q I4 r2 r4 q4))
theorem pt_chain {op op' : CmpOp} {r r' : R2} (ho : OpR X (compareOp op) r) (ho' : OpR X (compareOp op') r') (ha : PE X a ta) (hb : PE X b tb) (hc : PE X c tc)
    (hm : lastMarks [op,op'] [b,c]=false:=by with_unfolding_all rfl) : PT X (.Compare a [op,op'] [b,c] pos) (tTest (tChain r r' ta tb tc)):=by
  intro pins s σ H Q I h
  refine isTrue_chain (thn (ha pins s σ H _ I h) fun v s1 ⟨x,H1,I1,r1,q1⟩=>test_link (thn (hb pins s1 σ H1 _ I1 q1) fun u s2 ⟨y,H2,I2,r2,q2⟩=>
    thn (ho pins s2 σ H2 x y v u _ I2 r1 r2 q2) fun d s3 ⟨z,H3,I3,r3,k,e,q3⟩=>?_)) hm
  subst e
  cases r3
  refine wpAny_truthy_bool ?_
  cases k with
  | false=>
    obtain ⟨k',e',q'⟩:=q3
    cases e'
    exact ite_ff ⟨H3,I3,q'⟩
  | true=>
    refine ite_tt (test_last (thn (hc pins s3 σ H3 _ I3 q3) fun w' s4 ⟨z',H4,I4,r4,q4⟩=>thn (ho' pins s4 σ H4 y z' u w' _ I4 r2 r4 q4) fun d' s5 ⟨z2,H5,I5,r5,k2,e2,q5⟩=>?_))
    subst e2
    cases r5
    exact wpAny_truthy_bool ⟨H5,I5,q5⟩
def TruV (K : PySem.W.Frag) (x : V) (H : Hp) (k : Bool) : Prop:=
  match x with
  | .non=>k=false
  | .bl b=>k=b
  | .int i=>k=(i != 0)
  | .str y=>y.length≤sizeLine∧k=((y.length : Int) != 0)
  | .byt y=>y.size≤sizeLine∧k=((y.size : Int) != 0)
  | .ref p=>(∃ xs,SqL K H p xs∧k = !xs.isEmpty)∨(∃ xs,SqT K H p xs∧k = !xs.isEmpty)∨∃ kvs,H p=some (.dK kvs)∧k = !kvs.isEmpty
  | _=>False
theorem isEmpty_kv {κ : Type} {kvs : List (κ×V)} {vs : List (κ×Value)} (r : KV kvs vs) : (!vs.isEmpty) = !kvs.isEmpty:=by
  cases r <;> rfl
theorem isEmpty_of {xs : List V} {its : List Value} (r : Vals xs its) : (!its.toArray.isEmpty) = !xs.isEmpty:=by
  cases r <;> simp
theorem line63 : (sizeLine : Nat) < 2 ^ 63:=by rw [sizeLine_eq]; decide
theorem tru_ok : TruR X (fun x H Q=>∃ k,TruV X.K x H k∧Q k H):=by
  intro pins s σ H x v Q I rx h
  obtain ⟨k,e,q⟩:=h
  have hl:=line63
  have hs : sizeLine=16777216:=sizeLine_eq
  cases x with
  | non=>
    cases rx
    have e' : k=false:=e
    subst e'
    exact truthy_none ⟨H,I,q⟩
  | bl b=>
    cases rx
    have e' : k=b:=e
    subst e'
    exact wpAny_truthy_bool ⟨H,I,q⟩
  | int i=>
    obtain ⟨t,rfl⟩:=rx
    have e' : k=(i != 0):=e
    subst e'
    exact PySem.P.truthy_int ⟨H,I,q⟩
  | str y=>
    obtain ⟨t,rfl⟩:=rx
    obtain ⟨hy,e'⟩ : y.length≤sizeLine∧k=((y.length : Int) != 0):=e
    subst e'
    exact PySem.P.truthy_str (by omega) ⟨H,I.tok _,q⟩
  | byt y=>
    obtain ⟨t,rfl⟩:=rx
    obtain ⟨hy,e'⟩ : y.size≤sizeLine∧k=((y.size : Int) != 0):=e
    subst e'
    exact PySem.W.truthy_bytes (by omega) ⟨H,I.tok _,q⟩
  | ref p=>
    cases rx
    have e' : (∃ xs,SqL X.K H p xs∧k = !xs.isEmpty)∨(∃ xs,SqT X.K H p xs∧k = !xs.isEmpty)∨∃ kvs,H p=some (.dK kvs)∧k = !kvs.isEmpty:=e
    rcases e' with ⟨xs,hx,e'⟩ | ⟨xs,hx,e'⟩ | ⟨kvs,hx,e'⟩
    · subst e'
      obtain ⟨its,r,pl,hz⟩:=I.list hx
      have hlen:=r.length
      exact wpAny_truthy_list pl.isList (by simp only [List.size_toArray]; omega) ⟨H,I.tok _,by rw [isEmpty_of r]; exact q⟩
    · subst e'
      obtain ⟨its,r,pl,hz⟩:=I.tuple hx
      have hlen:=r.length
      exact truthy_tuple pl (by simp only [List.size_toArray]; omega) ⟨H,I.tok _,by rw [isEmpty_of r]; exact q⟩
    · subst e'
      obtain ⟨hz,hS,vs,r,m⟩ : kvs.length≤sizeLine∧(p == sysModules)=false∧∃ vs,KV kvs vs∧s.heap.DictOf (mixKind X.prog X.w) p vs:=I.hok p _ hx
      have hlen : kvs.length=vs.length:=Paired.length r
      exact wpAny_truthy_dict hS m (by omega) ⟨H,I.tok _,by rw [isEmpty_kv r]; exact q⟩
  | _=>exact (show False from e).elim
theorem pt_truth (ha : PE X a ta) (he : ∀ whole,isTrue a X.env whole=(do let v ← whole; standAt a.pos; holding [v] (truthy v))) :
    PT X a (fun σ H Q=>ta σ H fun x H'=>∃ k,TruV X.K x H' k∧Q k H'):=by
  intro pins s σ H Q I h
  exact isTrue_plain (thn (ha pins s σ H _ I h) fun v s1 ⟨x,H1,I1,r1,q1⟩=>tru_ok pins s1 σ H1 x v Q I1 r1 q1) (he _)
theorem vals1 {x : V} {us : List Value} (r : Vals [x] us) : ∃ u,us=[u]∧RelV x u:=by
  cases r with
  | cons r1 r2=>cases r2; exact ⟨_,rfl,r1⟩
theorem call_int1 : CallR X (.type "int") (fun xs H Q=>(∃ i,xs=[.int i]∧Q (.int i) H)∨∃ k,xs=[.bl k]∧Q (.int (if k then 1 else 0)) H):=by
  intro pins s σ H xs us Q I r h
  rcases h with ⟨i,rfl,q⟩ | ⟨k,rfl,q⟩
  · obtain ⟨u,rfl,t,rfl⟩:=vals1 r
    exact call_int_int ⟨.int i,H,I,⟨_,rfl⟩,q⟩
  · obtain ⟨u,rfl,r1⟩:=vals1 r
    cases r1
    exact call_int_bool ⟨.int (if k then 1 else 0),H,I.tok _,⟨_,rfl⟩,q⟩
end
end L2
namespace L2
open PySem PySem.Spec PyProof.Rows
section
variable {prog : Program} {w : World} {A : Around} {E : Value→Shared→Prop} {s : Shared} {K : PySem.W.Frag} {x dx C f : Addr} {mA : Str→Option Value} {name : Str} {v : Value}
end
section
variable {P : Program} {w : World} {H H' : Hp} {h h' : Heap} {a C dx : Addr} {fs fs' : List (Str×V)}
end
section
variable {X : Cx} {pins : List (Addr×Obj)} {σ : St} {H : Hp} {s : Shared} {a C dx : Addr} {fs : List (Str×V)} {f : Str} {v : V} {A : Around} {E : Value→Shared→Prop}
end
section
variable {X : Cx} {o e value : Expr} {f : Str} {pos pos' tpos : Pos} {ta tv : TE}
end
section
variable {X : Cx} {pins : List (Addr×Obj)} {σ : St} {H : Hp} {s : Shared} {A : Around} {E : Value→Shared→Prop} {Q : Value→Shared→Prop} {c : Value} {b : Bool}
end
end L2
namespace L2
open PySem PySem.Spec PyProof.Rows
structure Room (k : Nat) (A : Around) : Prop where
  hd : A.handled=none
  dp : A.depth + 3 * k + 5 < recursionLimit
  un : A.units + 16 * k + 200 < cLine
theorem Room.mono {j k : Nat} {A : Around} (r : Room k A) (h : j≤k) : Room j A:=⟨r.hd,by have:=r.dp; omega,by have:=r.un; omega⟩
theorem Room.deeper {k : Nat} {A : Around} (r : Room (k + 1) A) (env : Env) : Room k (A.deeper env):=
  ⟨r.hd,by have:=r.dp; show A.depth + 1 + 3 * k + 5 < _; omega,by have:=r.un; show A.units + 3 + 16 * k + 200 < _; omega⟩
theorem Room.depth {k : Nat} {A : Around} (r : Room k A) : A.depth < recursionLimit:=by have:=r.dp; omega
theorem Room.units {k : Nat} {A : Around} (r : Room k A) : A.units + 64 < cLine:=by have:=r.un; omega
def tNil : TA:=fun _ H Q=>Q [] H
def tCons (ta : TE) (tr : TA) : TA:=fun σ H Q=>ta σ H fun x H1=>tr σ H1 fun xs H2=>Q (x :: xs) H2
section
variable {X : Cx} {e : Expr} {es : List Expr} {te : TE} {t : TA} {pos : Pos}
theorem pa_nil : PA X [] tNil:=fun _ _ _ _ H Q I h=>Calls.spliced_nil ⟨[],H,I,.nil,h⟩
theorem pa_cons (ha : PE X e te) (hr : PA X es t) (hs : starEach (e :: es) X.env=(false,eval e X.env) :: starEach es X.env:=by rfl) : PA X (e :: es) (tCons te t):=by
  intro pos pins s σ H Q I h
  rw [hs]
  show wpAny _ _ (spliced ((false,eval e X.env) :: backTo pos (starEach es X.env))) _ _ s
  refine Calls.spliced_cons (thn (ha pins s σ H _ I h) fun u s1 ⟨x,H1,I1,r1,q1⟩=>?_)
  exact thn (hr pos pins s1 σ H1 _ I1 q1) fun us s2 ⟨xs,H2,I2,r2,q2⟩=>⟨x :: xs,H2,I2,.cons r1 r2,q2⟩
def tTup (t : TA) : TE:=fun σ H Q=>t σ H fun xs H1=>xs.length≤sizeLine∧∀ p,H1 p=none→Q (.ref p) (upd H1 p (.tup xs))
def tLst (t : TA) : TE:=fun σ H Q=>t σ H fun xs H1=>xs.length≤sizeLine∧∀ p,H1 p=none→Q (.ref p) (upd H1 p (.lst xs))
theorem pe_tup {x1} (h : PA X es t) : PE X (.Tuple es x1 pos) (tTup t):=by
  intro pins s σ H Q I hq
  refine wpAny_Tuple_spliced (thn (h pos pins s σ H _ I hq) fun us s1 ⟨xs,H1,I1,r,z,q⟩=>⟨by rw [← r.length]; exact z,?_⟩)
  have hf : H1 s1.heap.objs.size=none:=I1.hok.fresh (Nat.le_refl _)
  refine ⟨.ref s1.heap.objs.size,upd H1 s1.heap.objs.size (.tup xs),I1.laid (t':=s1.toks) (fun b u e=>Heap.get?_push_of_some _ e) (Nat.le_refl _) ?_,rfl,q _ hf⟩
  exact ⟨z,us,r,⟨_,Heap.get?_push_size _ rfl,rfl,_,rfl⟩⟩
theorem pe_lst (h : PA X es t) : PE X (.List es pos) (tLst t):=by
  intro pins s σ H Q I hq
  refine wpAny_List_spliced (thn (h pos pins s σ H _ I hq) fun us s1 ⟨xs,H1,I1,r,z,q⟩=>⟨by rw [← r.length]; exact z,?_⟩)
  have hf : H1 s1.heap.objs.size=none:=I1.hok.fresh (Nat.le_refl _)
  refine ⟨.ref s1.heap.objs.size,upd H1 s1.heap.objs.size (.lst xs),I1.laid (t':=s1.toks) (fun b u e=>Heap.get?_push_of_some _ e) (Nat.le_refl _) ?_,rfl,q _ hf⟩
  exact ⟨z,us,0,r,Heap.get?_push_size _ rfl⟩
end
abbrev Sp:=List V→Hp→VK→XK→Prop
abbrev CXT:=List Env→Hp→Shared→XK→Value→Shared→Prop
structure Env0 (P : Program) (w : World) (K : PySem.W.Frag) (mg : Str→Option Value) (base : Heap) (A : Around) (outer : List Env) (s : Shared) (H : Hp) : Prop where
  frames : A.frames=some outer
  mod : Mod K mg base
  bs : ∀ b o,base.get? b=some o→s.heap.get? b=some o∧H b=none
  bsz : base.objs.size≤s.heap.objs.size
  funs : s.heap.FunFrames base outer
  frf : ∀ b∈frs outer,H b=none
  hok : HOk P w H s.heap
  bare : AllBare s.gens
def CE (outer : List Env) (P : Program) (w : World) (H : Hp) (s : Shared) (Q : VK) (u : Value) (s' : Shared) : Prop:=
  ∃ v H',s'.os=s.os∧AllBare s'.gens∧Un (frs outer) [] H H' s.heap s'.heap∧HOk P w H' s'.heap∧RelV v u∧Q v H'
def CR (CX : CXT) (outer : List Env) (P : Program) (w : World) (H : Hp) (s : Shared) (Q : VK) (E : XK) (r : Result) (s' : Shared) : Prop:=
  match r with
  | .ok (.ret u)=>CE outer P w H s Q u s'
  | .ok _=>False
  | .error e=>CX outer H s E e s'
structure FnOk (P : Program) (w : World) (K : PySem.W.Frag) (mg : Str→Option Value) (base : Heap) (CX : CXT) (k : Nat) (f : Addr) (fd : FuncData) (ps : List Str) (sp : Sp) : Prop where
  len : ∀ vs H Q E,sp vs H Q E→vs.length=ps.length
  run : ∀ (A : Around) (outer : List Env) (s : Shared) (H : Hp) (args : Args) (us : List Value) (vs : List V) (Q : VK) (E : XK),Room k A→Env0 P w K mg base A outer s H→BindsTo s fd args (ps.zip us)→Vals vs us→sp vs H Q E→
    codeAny (model P w) A (.call (.ref f) args) (CR CX outer P w H s Q E) s
theorem FnOk.mono {P : Program} {w : World} {K : PySem.W.Frag} {mg : Str→Option Value} {base : Heap} {CX : CXT} {j k : Nat} {f : Addr} {fd : FuncData} {ps : List Str} {sp : Sp} (F : FnOk P w K mg base CX j f fd ps sp) (h : j≤k) :
    FnOk P w K mg base CX k f fd ps sp:=⟨F.len,fun A outer s H args us vs Q E hr=>F.run A outer s H args us vs Q E (hr.mono h)⟩
section
variable {X : Cx} {pins : List (Addr×Obj)} {σ : St} {H : Hp} {s s' : Shared}
theorem Inv.env0 (I : Inv X pins σ H s) : Env0 X.prog X.w X.K X.mg X.base X.A X.stack s H:=
  ⟨I.ok.frames,I.ok.mod,I.bs,Nat.le_trans I.ok.bsz I.sz,I.stack,I.stkFree,I.hok,I.bare⟩
theorem Inv.after {Q : VK} {u : Value} (I : Inv X pins σ H s) (h : CE X.stack X.prog X.w H s Q u s') : EP X pins σ Q u s':=by
  obtain ⟨v,H',os,bare,un,hok,r,q⟩:=h
  obtain ⟨hh,g,d,t,os'⟩:=s'
  obtain rfl : os' = s.os:=os
  exact ⟨v,H',I.call (h':=hh) (g':=g) (d':=d) (t':=t) (ch:=[]) un hok bare (fun b z=>absurd z (by simp)),r,q⟩
end
def tCall (sp : Sp) (dvs : List V) (E : XK) (t : TA) : TE:=fun σ H Q=>t σ H fun vs H1=>sp (vs ++ dvs) H1 Q E
def Binds (K : PySem.W.Frag) (fd : FuncData) (ps : List Str) (ds : List Value) : Prop:=
  ∀ (s : Shared) (us : List Value),K.In s.heap→(us ++ ds).length=ps.length→BindsTo s fd ⟨us,[]⟩ (ps.zip (us ++ ds))
theorem Binds.all {K : PySem.W.Frag} {fd : FuncData} {ps : List Str} (h : ∀ us : List Value,us.length=ps.length→bindArgs fd ⟨us,[]⟩=pure (ps.zip us)) : Binds K fd ps []:=fun s us _ hl=>by
  rw [List.append_nil] at hl ⊢
  exact .of_eq (h us hl)
def Passes (CX : CXT) (X : Cx) (E : XK) : Prop:=∀ (pins : List (Addr×Obj)) (σ : St) (H : Hp) (s : Shared) (e : Value) (s' : Shared),Inv X pins σ H s→CX X.stack H s E e s'→X.xe e s'
section
variable {X : Cx} {CX : CXT} {k : Nat} {f C : Addr} {fd : FuncData} {ps : List Str} {sp : Sp} {dvs : List V} {ds : List Value} {E : XK} {x m : Str} {p pos apos : Pos} {e o : Expr} {es : List Expr} {ta : TE} {t : TA}
theorem run_fn {pins : List (Addr×Obj)} {σ : St} {H : Hp} {s : Shared} {Q : VK} {us : List Value} {vs : List V} (F : FnOk X.prog X.w X.K X.mg X.base CX k f fd ps sp) (hr : Room k X.A) (hb : Binds X.K fd ps ds) (hd : Vals dvs ds) (hx : Passes CX X E)
    (I : Inv X pins σ H s) (r : Vals vs us) (h : sp (vs ++ dvs) H Q E) : wpAny (model X.prog X.w) X.A (call (.ref f) us) (EP X pins σ Q) X.xe s:=by
  have r2 : Vals (vs ++ dvs) (us ++ ds):=r.append hd
  have hl : (us ++ ds).length=ps.length:=by rw [← r2.length]; exact F.len _ _ _ _ h
  refine wpAny_call (codeAny_mono (F.run X.A X.stack s H ⟨us,[]⟩ (us ++ ds) (vs ++ dvs) Q E hr I.env0 (hb s us I.kIn hl) r2 h) fun r s' hq=>?_)
  cases r with
  | error e=>exact hx pins σ H s e s' I hq
  | ok fl=>
    cases fl with
    | ret u=>exact I.after hq
    | next=>exact False.elim hq
    | brk=>exact False.elim hq
    | cont=>exact False.elim hq
theorem pe_call (F : FnOk X.prog X.w X.K X.mg X.base CX k f fd ps sp) (hr : Room k X.A) (hg : Gl X x) (hm : X.mg x=some (.ref f)) (hk : PySem.W.keepIn X.K (.ref f)=true) (hb : Binds X.K fd ps ds) (hd : Vals dvs ds) (hx : Passes CX X E)
    (ha : PA X (e :: es) t) (hdb : (x == ("__debug__" : Str))=false:=by decide) (he : starEach (e :: es) X.env=(false,eval e X.env) :: starEach es X.env:=by rfl) (hpl : (backTo pos (starEach es X.env)).any (·.1)=false:=by rfl) :
    PE X (.Call (.Name x p) (e :: es) [] pos) (tCall sp dvs E t):=by
  intro pins s σ H Q I h
  refine wpAny_Call_Name_kw (ld_glob I hg hm ?_ hdb)
  refine PySem.W.callWith_K (h₀:=X.base) I.ok.mod.kin hk (thn (ha pos pins s σ H _ I h) fun us s1 ⟨vs,H1,I1,r,q⟩=>⟨I1.kIn,?_⟩) he hpl
  exact run_fn F hr hb hd hx I1 r q
end
section
variable {X : Cx} {CX : CXT} {k : Nat} {f C : Addr} {fd : FuncData} {ps ks : List Str} {sp : Sp} {E : XK} {x m : Str} {p pos apos kpos : Pos} {e o : Expr} {es : List Expr} {kws : List Keyword} {te ta : TE} {t tk : TA} {nm : Option Str}
variable {g : List Value→List Value→List Value} {gV : List V→List V→List V}
end
structure FnScope (N P : List Str) (sc : Scope) : Prop where
  kind : sc.kind = .function
  co : sc.isCoroutine=false
  gen : sc.isGenerator=false
  nd : N.Nodup
  pre : N.take P.length=P
  par : ∀ x∈P,sc.names.lookup x=some .local∨sc.names.lookup x=some .cell
  nofree : ∀ y∈sc.names,y.2≠.free
theorem bindL_out {kindOf : Str→Option NameKind} {x : Str} : ∀ {binds : List (Str×Value)} {m : Str→Option Value},(∀ v,(x,v) ∉ binds)→bindL kindOf binds m x=m x
  | [],_,_=>rfl
  | (n,v) :: r,m,h=>by
    unfold bindL
    rw [bindL_out fun w hw=>h w (List.mem_cons_of_mem _ hw)]
    split
    · have : x≠n:=by rintro rfl; exact h v List.mem_cons_self
      simp [this]
    · rfl
theorem bindC_out {kindOf : Str→Option NameKind} {x : Str} : ∀ {binds : List (Str×Value)} {m : Str→Option Value},(∀ v,(x,v) ∉ binds)→bindC kindOf binds m x=m x
  | [],_,_=>rfl
  | (n,v) :: r,m,h=>by
    unfold bindC
    rw [bindC_out fun w hw=>h w (List.mem_cons_of_mem _ hw)]
    split
    · rfl
    · have : x≠n:=by rintro rfl; exact h v List.mem_cons_self
      simp [this]
theorem bindL_get {kindOf : Str→Option NameKind} {x : Str} {v : Value} : ∀ {P : List Str} {vs : List Value} {i : Nat} {m : Str→Option Value},P.Nodup→P[i]? = some x→vs[i]? = some v→kindOf x=some .local→
    bindL kindOf (P.zip vs) m x=some v
  | [],_,_,_,_,h,_,_=>by simp at h
  | _ :: _,[],_,_,_,_,h,_=>by simp at h
  | p :: P,w :: vs,0,m,nd,h1,h2,hk=>by
    simp at h1 h2; subst h1; subst h2
    show bindL kindOf ((p,w) :: P.zip vs) m p=_
    unfold bindL
    rw [bindL_out fun v hv=>(List.nodup_cons.mp nd).1 (List.of_mem_zip hv).1,if_pos hk]
    simp
  | p :: P,w :: vs,i + 1,m,nd,h1,h2,hk=>by
    show bindL kindOf ((p,w) :: P.zip vs) m x=_
    unfold bindL
    exact bindL_get (i:=i) (List.nodup_cons.mp nd).2 (by simpa using h1) (by simpa using h2) hk
theorem bindC_get {kindOf : Str→Option NameKind} {x : Str} {v : Value} : ∀ {P : List Str} {vs : List Value} {i : Nat} {m : Str→Option Value},P.Nodup→P[i]? = some x→vs[i]? = some v→kindOf x≠some .local→
    bindC kindOf (P.zip vs) m x=some v
  | [],_,_,_,_,h,_,_=>by simp at h
  | _ :: _,[],_,_,_,_,h,_=>by simp at h
  | p :: P,w :: vs,0,m,nd,h1,h2,hk=>by
    simp at h1 h2; subst h1; subst h2
    show bindC kindOf ((p,w) :: P.zip vs) m p=_
    unfold bindC
    rw [bindC_out fun v hv=>(List.nodup_cons.mp nd).1 (List.of_mem_zip hv).1,if_neg hk]
    simp
  | p :: P,w :: vs,i + 1,m,nd,h1,h2,hk=>by
    show bindC kindOf ((p,w) :: P.zip vs) m x=_
    unfold bindC
    exact bindC_get (i:=i) (List.nodup_cons.mp nd).2 (by simpa using h1) (by simpa using h2) hk
def start (N : List Str) (vs : List V) : St:=vs.map some ++ List.replicate (N.length - vs.length) none
def cxOf (CX : CXT) (P : Program) (w : World) (K : PySem.W.Frag) (mg : Str→Option Value) (base : Heap) (N : List Str) (qual : Str) (scope : Scope) (f : Addr) (cd : Value) (A : Around) (outer : List Env) (s : Shared) (H : Hp) (E : XK) : Cx where
  prog:=P
  w:=w
  K:=K
  mg:=mg
  base:=base
  A:=A.deeper (envOfC qual scope s.heap.objs.size f cd)
  N:=N
  s₀:=s
  H₀:=H
  env:=envOfC qual scope s.heap.objs.size f cd
  outer:=outer
  stack:=envOfC qual scope s.heap.objs.size f cd :: outer
  ex:=[]
  calm:=true
  fn:=fun _=>true
  pn:=[]
  xe:=fun e s'=>wpAny (model P w) (A.deeper (envOfC qual scope s.heap.objs.size f cd)) (leaving (envOfC qual scope s.heap.objs.size f cd) e) (fun _ s''=>CX outer H s E e s'') (fun e' s''=>CX outer H s E e' s'') s'
theorem cell_has {sc : Scope} {n : Nat} {x : Str} (h : sc.names.lookup x=some .cell) : ∃ c,(cellsFrom n sc.names []).lookup x=some c:=by
  have q:=PySem.W.cellsFrom_some sc.names n [] (.inl h)
  exact Option.isSome_iff_exists.mp q
theorem inv_start {CX : CXT} {P : Program} {w : World} {K : PySem.W.Frag} {mg : Str→Option Value} {base : Heap} {N ps : List Str} {qual : Str} {scope : Scope} {f : Addr} {cd : Value} {A : Around} {outer : List Env} {s s1 : Shared} {H : Hp} {E : XK} {us : List Value} {vs : List V}
    (S : FnScope N ps scope) (hd : A.handled=none) (e0 : Env0 P w K mg base A outer s H) (hl : vs.length=ps.length) (r : Vals vs us)
    (x : InCallC s s.heap.objs.size (bindL (envOfC qual scope s.heap.objs.size f cd).kindOf (ps.zip us) fun _=>none) (cellsFrom (s.heap.objs.size + 1) scope.names []) (bindC (envOfC qual scope s.heap.objs.size f cd).kindOf (ps.zip us) fun _=>none) s1) :
    Inv (cxOf CX P w K mg base N qual scope f cd A outer s H E) [] (start N vs) H s1:=by
  have hpl : ps.length≤N.length:=by have:=congrArg List.length S.pre; rw [List.length_take] at this; omega
  obtain ⟨h1,tk,rfl,hk⟩:=x.done
  have noA : ∀ b : Addr,b ∉ (cxOf CX P w K mg base N qual scope f cd A outer s H E).ex:=fun b z=>absurd (show b∈([] : List Addr) from z) (by simp)
  refine ⟨⟨e0.mod,S.kind,rfl,rfl,Nat.le_refl _,fun y z c h1 h2=>?_,fun y hy=>?_,fun y c _ h=>?_,fun _=>hd,Around.frames_deeper e0.frames,.inr ⟨rfl,rfl⟩,fun b z=>absurd z (noA b),e0.bs,e0.bsz,fun b _ _=>noA b,fun b z=>absurd z (noA b),e0.funs,e0.frf⟩,
    rfl,e0.bare,Un.kept hk,⟨_,x.toInCall.ns,fun i y v h1 h2 h3=>?_⟩,fun y c h=>⟨_,x.cell y c h⟩,e0.hok.fresh (Nat.le_refl _),fun y c h=>?_,fun p hp=>absurd (show p∈([] : List (Addr×Obj)) from hp) (by simp),e0.hok.kept hk,?_⟩
  · exact name_of_addr x.apart (PySem.mem_of_lookup h1) (PySem.mem_of_lookup h2)
  · have hy : scope.names.lookup y=some .cell∨scope.names.lookup y=some .free:=hy
    rcases hy with hy | hy
    · exact cell_has hy
    · exact absurd rfl (S.nofree _ (PySem.mem_of_lookup hy))
  · exact Nat.le_of_lt (x.above y c (PySem.mem_of_lookup h))
  · have hi : i < vs.length:=by
      unfold start at h2
      by_cases hi : i < vs.length
      · exact hi
      · rw [List.getElem?_append_right (by simpa using hi)] at h2
        rw [List.getElem?_replicate] at h2
        split at h2 <;> cases h2
    have ha : vs[i]? = some v:=by
      unfold start at h2
      rw [List.getElem?_append_left (by simpa using hi),List.getElem?_map] at h2
      cases e : vs[i]? with
      | none=>rw [e] at h2; cases h2
      | some a=>rw [e] at h2; cases h2; rfl
    obtain ⟨u,hu,rv⟩:=r.get ha
    have hp : ps[i]? = some y:=by
      rw [← S.pre,List.getElem?_take_of_lt (by omega)]; exact h1
    have ndP : ps.Nodup:=by rw [← S.pre]; exact S.nd.sublist (List.take_sublist _ _)
    refine ⟨u,rv,?_⟩
    rcases S.par y (List.mem_of_getElem? hp) with k | k
    · exact .inl ⟨k,bindL_get ndP hp hu k⟩
    · obtain ⟨c,e⟩:=cell_has (n:=s.heap.objs.size + 1) k
      refine .inr ⟨.inl k,c,e,?_⟩
      have q:=x.cell y c e
      rw [bindC_get ndP hp hu (by show scope.names.lookup y≠_; rw [k]; decide)] at q
      exact q
  · exact e0.hok.fresh (Nat.le_of_lt (x.above y c (PySem.mem_of_lookup h)))
  · unfold start
    show _=N.length
    rw [List.length_append,List.length_map,List.length_replicate]
    omega
theorem fn_of {CX : CXT} {P : Program} {w : World} {K : PySem.W.Frag} {mg : Str→Option Value} {base : Heap} {k : Nat} {f : Addr} {name qual : Str} {params : Arguments} {body : List Stmt} {scope : Scope} {dV kV doc pm cdv ct oc : Value} {an od : Option Addr}
    {osl : Array (Option Value)} {N ps : List Str} {sp : Sp} (lk : K.lookup f=some ⟨oc,od,.func (PySem.W.fnOf name qual params body scope dV kV doc pm an cdv ct),osl⟩) (hcd : PySem.W.codeIn K cdv qual=true) (S : FnScope N ps scope)
    (len : ∀ vs H Q E,sp vs H Q E→vs.length=ps.length)
    (hbody : ∀ (A : Around) (outer : List Env) (s : Shared) (H : Hp) (vs : List V) (Q : VK) (E : XK),Room k (A.deeper (envOfC qual scope s.heap.objs.size f cdv))→sp vs H Q E→
      ∃ t,PSs (cxOf CX P w K mg base N qual scope f cdv A outer s H E) body t∧t { nx:=fun _ H'=>Q .non H',rt:=Q } (start N vs) H) :
    FnOk P w K mg base CX (k + 1) f (PySem.W.fnOf name qual params body scope dV kV doc pm an cdv ct) ps sp:=by
  refine ⟨len,fun A outer s H args us vs Q E hr e0 hb r hsp=>?_⟩
  have hl:=len _ _ _ _ hsp
  have KX : K.In s.heap:=e0.mod.kin.keeps fun b o e=>(e0.bs b o e).1
  have lim : s.heap.NoLimit:=e0.mod.nolimit.keeps fun b o e=>(e0.bs b o e).1
  have hkind : ∀ y∈ps.zip us,scope.names.lookup y.1=some .local∨(scope.names.lookup y.1=some .cell∧((cellsFrom (s.heap.objs.size + 1) scope.names []).lookup y.1).isSome=true):=fun ⟨n,v⟩ hy=>by
    rcases S.par n (List.of_mem_zip hy).1 with q | q
    · exact .inl q
    · exact .inr ⟨q,PySem.W.cellsFrom_some _ _ _ (.inl q)⟩
  refine codeAny_call_function hr.depth (KX _ _ lk) rfl S.co S.gen rfl (PySem.W.codeRec_of KX hcd) (hb _ _ _ _ ?_)
  refine wpAny_newFunctionEnv_cells S.kind hkind fun env he s1 x=>?_
  subst he
  refine ⟨lim.keeps x.toInCall.keep,codeAny_func ?_⟩
  obtain ⟨t,ht,hq⟩:=hbody A outer s H vs Q E (hr.deeper _) hsp
  have I : Inv (cxOf CX P w K mg base N qual scope f cdv A outer s H E) [] (start N vs) H s1:=inv_start S hr.hd e0 hl r x
  refine wpAny_mono (ht [] s1 (start N vs) H _ I hq) (fun fl s' hs=>?_) fun e s' hs=>hs
  have fin : ∀ {σ' : St} {H' : Hp} {v : V} {u : Value},Inv (cxOf CX P w K mg base N qual scope f cdv A outer s H E) [] σ' H' s'→RelV v u→Q v H'→CE outer P w H s Q u s':=
    fun {σ' H' v u} J rv q=>⟨v,H',J.os,J.bare,J.base,J.hok,rv,q⟩
  cases fl with
  | ret u=>
    obtain ⟨v,σ',H',J,rv,q⟩:=hs
    exact fin J rv q
  | next=>
    obtain ⟨σ',H',J,q⟩:=hs
    exact fin (v:=V.non) (u:=Value.none) J rfl q
  | brk=>
    obtain ⟨_,_,_,q⟩:=hs
    exact False.elim q
  | cont=>
    obtain ⟨_,_,_,q⟩:=hs
    exact False.elim q
end L2
namespace L2
open PySem PySem.Spec PyProof.Rows
section
variable {X : Cx} {x : Str} {p pos : Pos} {e : Expr} {es : List Expr} {t : TA} {id T : String} {r : List V→Hp→VK→Prop}
def tCB (r : List V→Hp→VK→Prop) (t : TA) : TE:=fun σ H Q=>t σ H fun vs H1=>r vs H1 Q
theorem pe_callB (hc : CallR X (.builtin id) r) (hg : Gl X x) (hm : X.mg x=none) (hv : bootBuiltins x=some (.builtin id)) (ha : PA X (e :: es) t) (hn : x ≠ "__name__" := by decide) (hdb : (x == ("__debug__" : Str))=false:=by decide)
    (he : starEach (e :: es) X.env=(false,eval e X.env) :: starEach es X.env:=by rfl) (hpl : (backTo pos (starEach es X.env)).any (·.1)=false:=by rfl) : PE X (.Call (.Name x p) (e :: es) [] pos) (tCB r t):=by
  intro pins s σ H Q I h
  refine wpAny_Call_Name_kw (ld_blt I hg hm hv ?_ hn hdb)
  exact PyProof.Rows.callWith_builtin1 (thn (ha pos pins s σ H _ I h) fun us s1 ⟨vs,H1,I1,r1,q1⟩=>hc pins s1 σ H1 vs us Q I1 r1 q1) he hpl
theorem pe_callTy (hc : CallR X (.type T) r) (hg : Gl X x) (hm : X.mg x=none) (hv : bootBuiltins x=some (.type T)) (ha : PA X (e :: es) t) (hn : x ≠ "__name__" := by decide) (hdb : (x == ("__debug__" : Str))=false:=by decide)
    (he : starEach (e :: es) X.env=(false,eval e X.env) :: starEach es X.env:=by rfl) (hpl : (backTo pos (starEach es X.env)).any (·.1)=false:=by rfl) : PE X (.Call (.Name x p) (e :: es) [] pos) (tCB r t):=by
  intro pins s σ H Q I h
  refine wpAny_Call_Name_kw (ld_blt I hg hm hv ?_ hn hdb)
  exact PyProof.Rows.callWith_type1 (thn (ha pos pins s σ H _ I h) fun us s1 ⟨vs,H1,I1,r1,q1⟩=>hc pins s1 σ H1 vs us Q I1 r1 q1) he hpl
end
end L2
namespace HT
open PySem PyProof.Rows
def lexLt : List Int→List Int→Bool
  | [],[]=>false
  | [],_ :: _=>true
  | _ :: _,[]=>false
  | x :: xs,y :: ys=>if x=y then lexLt xs ys else decide (x < y)
theorem lexLt_cons (x y : Int) (xs ys : List Int) : lexLt (x :: xs) (y :: ys)=if x=y then lexLt xs ys else decide (x < y):=rfl
theorem lexLt_nil_nil : lexLt [] []=false:=rfl
theorem lexLt_nil_cons (y : Int) (ys : List Int) : lexLt [] (y :: ys)=true:=rfl
theorem lexLt_cons_nil (x : Int) (xs : List Int) : lexLt (x :: xs) []=false:=rfl
theorem eqAt_int (A : Around) (s : Shared) (a : Int) (t : Tok) (c : Int) (u : Tok) : ∃ e,SeqAt.EqAt A s (.int a t) (.int c u) e∧(e=true↔a=c):=
  ⟨(a == c),SeqAt.EqAt.int_int a t c u,by simp⟩
section
open PySem.SeqAt
open PySem.AutoSeq1 (wpAny_loadPart')
open PySem.MeetsSeq PySem.MeetsSeq2 PySem.MeetsSeq3
end
section
variable {prog : Program} {w : World} {A : Around} {E : Value→Shared→Prop} {s : Shared}
def sIx (n d : Nat) : Option Int→Nat
  | none=>d
  | some v=>if v < 0 then (v + (n : Int)).toNat else min v.toNat n
end
end HT
namespace L2
open PySem PySem.Spec PyProof.Rows
abbrev TO:=St→Hp→(Option Int→Hp→Prop)→Prop
def PO (X : Cx) (e : Option Expr) (t : TO) : Prop:=
  ∀ (pins : List (Addr×Obj)) (s : Shared) (σ : St) (H : Hp) (Q : Option Int→Hp→Prop),Inv X pins σ H s→t σ H Q→
    wpAny (model X.prog X.w) X.A (evalPart e X.env) (fun u s'=>∃ o H',Inv X pins σ H' s'∧IsPart u o∧Q o H') X.xe s
def tNoPart : TO:=fun _ H Q=>Q none H
def tPart (t : TE) : TO:=fun σ H Q=>t σ H fun x H1=>∃ i,x = .int i∧Q (some i) H1
section
variable {X : Cx} {e : Expr} {te : TE} {lo hi : Option Expr} {tl th : TO} {pos p2 : Pos}
theorem po_none : PO X none tNoPart:=by
  intro pins s σ H Q I h
  rw [evalPart_none]
  exact wpAny_pure ⟨none,H,I,.none,h⟩
theorem po_some (h : PE X e te) : PO X (some e) (tPart te):=by
  intro pins s σ H Q I hw
  rw [evalPart_some]
  refine thn (h pins s σ H _ I hw) fun u s1 ⟨x,H1,I1,r1,q1⟩=>?_
  obtain ⟨i,rfl,q⟩:=q1
  obtain ⟨t,rfl⟩:=r1
  exact ⟨some i,H1,I1,.int i t,q⟩
def SlR (X : Cx) (r : V→Option Int→Option Int→Hp→VK→Prop) : Prop:=
  ∀ (pins : List (Addr×Obj)) (s : Shared) (σ : St) (H : Hp) (x : V) (v vl vu : Value) (lo hi : Option Int) (sl : Addr) (Q : VK),Inv X pins σ H s→RelV x v→s.heap.IsSliceOf sl vl vu .none→IsPart vl lo→IsPart vu hi→r x lo hi H Q→
    ∃ T id,typeLookup (.type T) "__getitem__" = pure (some (.builtin id))∧s.TypeIs v T∧wpAny (model X.prog X.w) X.A (getItem v (.ref sl)) (EP X pins σ Q) X.xe s
def tSl (r : V→Option Int→Option Int→Hp→VK→Prop) (te : TE) (tl th : TO) : TE:=fun σ H Q=>te σ H fun x H1=>tl σ H1 fun l H2=>th σ H2 fun u H3=>r x l u H3 Q
theorem pe_slice {r : V→Option Int→Option Int→Hp→VK→Prop} (hr : SlR X r) (he : PE X e te) (hl : PO X lo tl) (hu : PO X hi th) : PE X (.Subscript e (.Slice lo hi none p2) pos) (tSl r te tl th):=by
  intro pins s σ H Q I h
  refine Subscript_ (thn (he pins s σ H _ I h) fun v s1 ⟨x,H1,I1,r1,q1⟩=>?_)
  refine wpAny_Slice (thn (hl pins s1 σ H1 _ I1 q1) fun vl s2 ⟨l,H2,I2,pl,q2⟩=>thn (hu pins s2 σ H2 _ I2 q2) fun vu s3 ⟨u,H3,I3,pu,q3⟩=>?_)
  rw [evalPart_none]
  refine wpAny_pure ?_
  have I4 : Inv X pins σ H3 { s3 with heap:=s3.heap.push { cls:=.type "slice",data:=.fields #[vl,vu,.none] } }:=I3.kept (t':=s3.toks) fun b ob q=>Heap.get?_push_of_some _ q
  obtain ⟨T,id,hT,ht,hg⟩:=hr pins { s3 with heap:=s3.heap.push { cls:=.type "slice",data:=.fields #[vl,vu,.none] } } σ H3 x v vl vu l u s3.heap.objs.size Q I4 r1 (Heap.IsSliceOf.new ..) pl pu q3
  show wpAny (model X.prog X.w) X.A (subscriptTail e (.Slice lo hi none p2) v (.ref s3.heap.objs.size)) (EP X pins σ Q) X.xe { s3 with heap:=s3.heap.push { cls:=.type "slice",data:=.fields #[vl,vu,.none] } }
  exact tail_any (ops:=[.ref s3.heap.objs.size,v]) ht hT hg (by with_unfolding_all rfl)
def cutV (xs : List V) (lo hi : Option Int) : List V:=(xs.drop (HT.sIx xs.length 0 lo)).take (HT.sIx xs.length xs.length hi - HT.sIx xs.length 0 lo)
theorem cutV_length (xs : List V) (lo hi : Option Int) : (cutV xs lo hi).length≤xs.length:=by
  unfold cutV
  rw [List.length_take,List.length_drop]
  omega
end
end L2
namespace L2
open PySem PySem.Spec PyProof.Rows
def ixN (n : Nat) (i : Int) : Option Nat:=if 0≤i then (if i < n then some i.toNat else none) else if -(n : Int)≤i then some (i + n).toNat else none
def atI {α : Type} (xs : List α) (i : Int) : Option α:=(ixN xs.length i).bind fun j=>xs[j]?
theorem ixN_seq {n : Nat} {i : Int} {j : Nat} (h : ixN n i=some j) : seqIndex? i n=some j∧j < n∧-(n : Int)≤i∧i < n:=by
  unfold ixN at h
  by_cases h0 : 0≤i
  · rw [if_pos h0] at h
    by_cases h1 : i < n
    · rw [if_pos h1] at h
      have e : i.toNat=j:=Option.some.inj h
      exact ⟨by rw [seqIndex_of h0 h1,e],by omega,by omega,h1⟩
    · rw [if_neg h1] at h; cases h
  · rw [if_neg h0] at h
    by_cases h1 : -(n : Int)≤i
    · rw [if_pos h1] at h
      have e : (i + n).toNat=j:=Option.some.inj h
      exact ⟨by rw [seqIndex_neg (by omega) h1,e],by omega,h1,by omega⟩
    · rw [if_neg h1] at h; cases h
theorem atI_get {α : Type} {xs : List α} {i : Int} {v : α} (h : atI xs i=some v) : ∃ j,seqIndex? i xs.length=some j∧xs[j]? = some v∧j < xs.length∧-(xs.length : Int)≤i∧i < xs.length:=by
  unfold atI at h
  cases e : ixN xs.length i with
  | none=>rw [e] at h; cases h
  | some j=>
    rw [e] at h
    obtain ⟨h1,h2,h3,h4⟩:=ixN_seq e
    exact ⟨j,h1,h,h2,h3,h4⟩
theorem atI_nat {α : Type} {xs : List α} {j : Nat} {v : α} (h : xs[j]? = some v) : atI xs (j : Int)=some v:=by
  have hj : j < xs.length:=(List.getElem?_eq_some_iff.mp h).1
  have e : ixN xs.length (j : Int)=some j:=by
    unfold ixN
    rw [if_pos (by omega),if_pos (by omega)]; simp
  unfold atI; rw [e]; exact h
def PlainIx (b : Expr) : Prop:=∀ o i,subscripted b false o i=operate [o,i] (getItem o i)
def IxR (X : Cx) (r : R2) : Prop:=
  ∀ (value slice : Expr) (pins : List (Addr×Obj)) (s : Shared) (σ : St) (H : Hp) (x y : V) (v u : Value) (Q : VK),Inv X pins σ H s→RelV x v→RelV y u→r x y H Q→
    subscripted slice false v u=operate [v,u] (getItem v u)→wpAny (model X.prog X.w) X.A (subscriptTail value slice v u) (EP X pins σ Q) X.xe s
def MtR (X : Cx) (id : String) (r : V→List V→Hp→VK→Prop) : Prop:=
  ∀ (pins : List (Addr×Obj)) (s : Shared) (σ : St) (H : Hp) (x : V) (xs : List V) (v : Value) (us : List Value) (Q : VK),Inv X pins σ H s→RelV x v→Vals xs us→r x xs H Q→
    wpAny (model X.prog X.w) X.A (call (.builtin id) (v :: us)) (EP X pins σ Q) X.xe s
section
variable {X : Cx} {a b : Expr} {ta tb : TE} {pos : Pos}
theorem pe_ix {r : R2} (hr : IxR X r) (ha : PE X a ta) (hb : PE X b tb) (hs : PlainIx b) : PE X (.Subscript a b pos) (tOp r ta tb):=by
  intro pins s σ H Q I h
  exact Subscript_ (binT ha hb I h fun v u s2 x y H2 I2 rx ry q=>hr a b pins s2 σ H2 x y v u Q I2 rx ry q (hs _ _))
def rIxL (K : PySem.W.Frag) : R2:=fun x y H Q=>∃ p xs i v,x = .ref p∧y = .int i∧SqL K H p xs∧atI xs i=some v∧Q v H
def rIxT (K : PySem.W.Frag) : R2:=fun x y H Q=>∃ p xs i v,x = .ref p∧y = .int i∧SqT K H p xs∧atI xs i=some v∧Q v H
theorem ix_list : IxR X (rIxL X.K):=by
  intro value slice pins s σ H x y v u Q I rx ry h hs
  obtain ⟨p,xs,i,z,rfl,rfl,hq,he,q⟩:=h
  cases rx
  obtain ⟨t,rfl⟩:=ry
  obtain ⟨its,r,pl,hz⟩:=I.list hq
  obtain ⟨j,h1,h2,h3,h4,h5⟩:=atI_get he
  obtain ⟨w,ew,rw'⟩:=r.get h2
  have hl:=r.length
  have hn:=line63
  have fin : EP X pins σ Q w s:=⟨z,H,I,rw',q⟩
  by_cases h0 : 0≤i
  · have hj : i.toNat=j:=by
      rw [seqIndex_of h0 h5] at h1
      exact Option.some.inj h1
    exact item_listR pl.isList h0 (by omega) (by rw [hj]; simpa using ew) fin hs
  · have hj : (i + (its.toArray.size : Int)).toNat=j:=by
      rw [seqIndex_neg (by omega) h4] at h1
      rw [List.size_toArray,← hl]
      exact Option.some.inj h1
    exact subscriptTail_builtinR (x:=w) pl.isList.typeIs slot_list_getitem.lookup
      (wpAny_getItem_list_neg (Q:=fun r s'=>r=w∧EP X pins σ Q r s') pl.isList (by omega) (by rw [List.size_toArray] <;> omega) (by omega) (by rw [hj]; simpa using ew) ⟨rfl,fin⟩) hs
theorem ix_tup : IxR X (rIxT X.K):=by
  intro value slice pins s σ H x y v u Q I rx ry h hs
  obtain ⟨p,xs,i,z,rfl,rfl,hq,he,q⟩:=h
  cases rx
  obtain ⟨t,rfl⟩:=ry
  obtain ⟨its,r,pl,hz⟩:=I.tuple hq
  obtain ⟨j,h1,h2,h3,h4,h5⟩:=atI_get he
  obtain ⟨w,ew,rw'⟩:=r.get h2
  have hl:=r.length
  have hn:=line63
  have fin : EP X pins σ Q w s:=⟨z,H,I,rw',q⟩
  exact subscriptTail_builtinR (x:=w) pl.typeIs slot_tuple_getitem.lookup
    (getItem_tuple (j:=j) (Q:=fun r s'=>r=w∧EP X pins σ Q r s') pl (by omega) (by omega) (by rw [List.size_toArray,← hl]; exact h1) (by simpa using ew) ⟨rfl,fin⟩) hs
theorem mapSeq_set (its : List Value) (n j : Nat) (u : Value) : Obj.mapSeq (·.setIfInBounds j u) { cls:=.type "list",data:=.seq its.toArray n } = { cls:=.type "list",data:=.seq (its.set j u).toArray n }:=by
  simp [Obj.mapSeq]
theorem Inv.lst {pins : List (Addr×Obj)} {σ : St} {H : Hp} {s : Shared} {p : Addr} {xs : List V} (I : Inv X pins σ H s) (h : H p=some (.lst xs)) :
    ∃ (its : List Value) (n : Nat),Vals xs its∧s.heap.get? p=some { cls:=.type "list",data:=.seq its.toArray n }∧xs.length≤sizeLine:=by
  obtain ⟨z,its,n,r,e⟩:=I.hok p _ h
  exact ⟨its,n,r,e,z⟩
theorem Inv.lstUpd {pins : List (Addr×Obj)} {σ : St} {H : Hp} {s : Shared} {p : Addr} {xs ys : List V} {its its' : List Value} {n n' : Nat} {f : Obj→Obj} (I : Inv X pins σ H s) (h : H p=some (.lst xs))
    (ho : s.heap.get? p=some { cls:=.type "list",data:=.seq its.toArray n }) (hf : f { cls:=.type "list",data:=.seq its.toArray n } = { cls:=.type "list",data:=.seq its'.toArray n' }) (r : Vals ys its') (hz : ys.length≤sizeLine) (t : Nat) :
    Inv X pins σ (upd H p (.lst ys)) { s with heap:=s.heap.update p f,toks:=t }:=by
  have e : (s.heap.update p f).get? p=some { cls:=.type "list",data:=.seq its'.toArray n' }:=by
    rw [Heap.get?_update_self f ho (by rw [hf] <;> rfl),hf]
  refine I.write (x:=p) (e:=p) (by rw [h]; trivial) (.inl rfl) (fun b u hb q=>(Heap.get?_update_other _ _ (Ne.symm hb)).trans q) ⟨_,e⟩ ?_
  exact ⟨hz,its',n',r,e⟩
def rSetL : V→V→V→Hp→(Hp→Prop)→Prop:=fun o i v H Q=>∃ p xs k j,o = .ref p∧i = .int k∧H p=some (.lst xs)∧ixN xs.length k=some j∧Q (upd H p (.lst (xs.set j v)))
theorem set_list : PSet X rSetL:=by
  intro pins s σ H o i v ov iv u Q I ro ri rv h
  obtain ⟨p,xs,k,j,rfl,rfl,hp,hj,q⟩:=h
  cases ro
  obtain ⟨t,rfl⟩:=ri
  obtain ⟨its,n,r,ho,hz⟩:=I.lst hp
  obtain ⟨h1,h2,h3,h4⟩:=ixN_seq hj
  have hl:=r.length
  have hn:=line63
  have I' : Inv X pins σ (upd H p (.lst (xs.set j v))) { s with heap:=s.heap.update p (Obj.mapSeq (·.setIfInBounds j u)) }:=
    I.lstUpd hp ho (mapSeq_set its n j u) (r.set rv j) (by rw [List.length_set]; exact hz) s.toks
  by_cases h0 : 0≤k
  · have hk : k.toNat=j:=by
      rw [seqIndex_of h0 h4] at h1
      exact Option.some.inj h1
    exact PySem.W.ki_setAt ho h0 (by omega) (by rw [List.size_toArray,← hl]; exact h4) (by rw [hk]; exact ⟨_,I',q⟩)
  · have hk : (k + (its.toArray.size : Int)).toNat=j:=by
      rw [seqIndex_neg (by omega) h3] at h1
      rw [List.size_toArray,← hl]
      exact Option.some.inj h1
    exact PySem.W.ki_setBack ho (by omega) (by rw [List.size_toArray,← hl]; exact h3) (by omega) (by rw [hk]; exact ⟨_,I',q⟩)
theorem slice_bounds (lo hi : Option Int) (n : Nat) : (sliceBounds lo hi none n).1=((HT.sIx n 0 lo : Nat) : Int)∧(sliceBounds lo hi none n).2.1=((HT.sIx n n hi : Nat) : Int)∧(sliceBounds lo hi none n).2.2=1:=by
  refine ⟨?_,?_,rfl⟩
  · cases lo with
    | none=>simp [sliceBounds,HT.sIx]
    | some i=>
      simp only [sliceBounds,HT.sIx,Option.getD_none,show (1 : Int) > 0 by decide,if_true]
      by_cases h : i < 0
      · simp only [h,if_true] <;> omega
      · simp only [h,if_false] <;> omega
  · cases hi with
    | none=>simp [sliceBounds,HT.sIx]
    | some i=>
      simp only [sliceBounds,HT.sIx,Option.getD_none,show (1 : Int) > 0 by decide,if_true]
      by_cases h : i < 0
      · simp only [h,if_true] <;> omega
      · simp only [h,if_false] <;> omega
theorem slicePick_cut (its : List Value) (lo hi : Option Int) : slicePick its.toArray lo hi none=((its.drop (HT.sIx its.length 0 lo)).take (HT.sIx its.length its.length hi - HT.sIx its.length 0 lo)).toArray:=by
  obtain ⟨h1,h2,h3⟩:=slice_bounds lo hi its.toArray.size
  unfold slicePick
  rw [h1,h2,h3]
  simp only [sliceRange_one,pick_run,List.size_toArray] <;> rfl
def rSlL (K : PySem.W.Frag) : V→Option Int→Option Int→Hp→VK→Prop:=fun x lo hi H Q=>∃ a xs,x = .ref a∧SqL K H a xs∧∀ p,H p=none→Q (.ref p) (upd H p (.lst (cutV xs lo hi)))
theorem sl_list : SlR X (rSlL X.K):=by
  intro pins s σ H x v vl vu lo hi sl Q I rx hs pl pu h
  obtain ⟨a,xs,rfl,hx,q⟩:=h
  cases rx
  obtain ⟨its,r,ht,hz⟩:=I.list hx
  have hlen:=r.length
  refine ⟨"list",_,slot_list_getitem.lookup,ht.isList.typeIs,?_⟩
  refine wpAny_getItem_list_slice ht.isList hs pl pu .none (by simp) ?_ (by rw [List.size_toArray] <;> omega)
  rw [slicePick_cut,← hlen]
  refine ⟨.ref s.heap.objs.size,_,I.laid (t':=s.toks) (o:=.lst (cutV xs lo hi)) (fun b ob q=>Heap.get?_push_of_some _ q) (Nat.le_refl _) ?_,rfl,q _ (I.hok.fresh (Nat.le_refl _))⟩
  exact ⟨Nat.le_trans (cutV_length xs lo hi) hz,_,0,(r.drop (HT.sIx xs.length 0 lo)).take (HT.sIx xs.length xs.length hi - HT.sIx xs.length 0 lo),Heap.get?_push_size _ rfl⟩
def flatV : V→Bool
  | .non=>true
  | .bl _=>true
  | .int _=>true
  | .str _=>true
  | _=>false
def eqV : V→V→Bool
  | .non,.non=>true
  | .bl a,.bl b=>a == b
  | .bl a,.int b=>(if a then 1 else 0) == b
  | .int a,.bl b=>a == (if b then 1 else 0)
  | .int a,.int b=>a == b
  | .str a,.str b=>a == b
  | _,_=>false
theorem eqAt_V {A : Around} {s : Shared} {y x : V} {u v : Value} (ry : RelV y u) (rx : RelV x v) (fy : flatV y=true) (fx : flatV x=true) : SeqAt.EqAt A s u v (eqV y x):=by
  cases y with
  | non=>
    cases ry
    cases x with
    | non=>cases rx; exact SeqAt.EqAt.same _
    | bl b=>cases rx; exact SeqAt.EqAt.none_bool b
    | int b=>obtain ⟨t,rfl⟩:=rx; exact SeqAt.EqAt.none_int b t
    | str b=>obtain ⟨t,rfl⟩:=rx; exact SeqAt.EqAt.none_str b t
    | _=>exact absurd (show false=true from fx) Bool.false_ne_true
  | bl a=>
    cases ry
    cases x with
    | non=>cases rx; exact SeqAt.EqAt.bool_none a
    | bl b=>cases rx; exact SeqAt.EqAt.bool_bool a b
    | int b=>obtain ⟨t,rfl⟩:=rx; exact SeqAt.EqAt.bool_int a b t
    | str b=>obtain ⟨t,rfl⟩:=rx; exact SeqAt.EqAt.bool_str a b t
    | _=>exact absurd (show false=true from fx) Bool.false_ne_true
  | int a=>
    obtain ⟨t',rfl⟩:=ry
    cases x with
    | non=>cases rx; exact SeqAt.EqAt.int_none a t'
    | bl b=>cases rx; exact SeqAt.EqAt.int_bool a t' b
    | int b=>obtain ⟨t,rfl⟩:=rx; exact SeqAt.EqAt.int_int a t' b t
    | str b=>obtain ⟨t,rfl⟩:=rx; exact SeqAt.EqAt.int_str a t' b t
    | _=>exact absurd (show false=true from fx) Bool.false_ne_true
  | str a=>
    obtain ⟨t',rfl⟩:=ry
    cases x with
    | non=>cases rx; exact SeqAt.EqAt.str_none a t'
    | bl b=>cases rx; exact SeqAt.EqAt.str_bool a t' b
    | int b=>obtain ⟨t,rfl⟩:=rx; exact SeqAt.EqAt.str_int a t' b t
    | str b=>obtain ⟨t,rfl⟩:=rx; exact SeqAt.EqAt.str_str a t' b t
    | _=>exact absurd (show false=true from fx) Bool.false_ne_true
  | _=>exact absurd (show false=true from fy) Bool.false_ne_true
def eqU (x : V) (u : Value) : Bool:=match u with
  | .none=>eqV .non x
  | .bool b=>eqV (.bl b) x
  | .int i _=>eqV (.int i) x
  | .str z _=>eqV (.str z) x
  | _=>false
theorem eqU_of {x y : V} {u : Value} (r : RelV y u) (f : flatV y=true) : eqU x u=eqV y x:=by
  cases y with
  | non=>cases r; rfl
  | bl b=>cases r; rfl
  | int i=>obtain ⟨t,rfl⟩:=r; rfl
  | str z=>obtain ⟨t,rfl⟩:=r; rfl
  | _=>exact absurd (show false=true from f) Bool.false_ne_true
theorem mem_eqAt {A : Around} {s : Shared} {x : V} {v : Value} (rx : RelV x v) (fx : flatV x=true) : ∀ {xs : List V} {us : List Value},Vals xs us→xs.all flatV=true→∀ u∈us,SeqAt.EqAt A s u v (eqU x u)
  | _,_,.nil,_=>fun u hu=>by cases hu
  | y :: xs,u :: us,.cons r t,f=>fun u' hu=>by
    rw [List.all_cons,Bool.and_eq_true] at f
    rcases List.mem_cons.mp hu with rfl | hu
    · rw [eqU_of r f.1]; exact eqAt_V r rx f.1 fx
    · exact mem_eqAt rx fx t f.2 u' hu
theorem call_len_seq : CallR X (.builtin "len") (fun xs H Q=>∃ p ys,xs=[.ref p]∧(SqL X.K H p ys∨SqT X.K H p ys)∧Q (.int ys.length) H):=by
  intro pins s σ H xs us Q I r h
  obtain ⟨p,ys,rfl,hq,q⟩:=h
  obtain ⟨u,rfl,rx⟩:=vals1 r
  cases rx
  have hn:=line63
  rcases hq with hq | hq
  · obtain ⟨its,r',pl,hz⟩:=I.list hq
    have hlen:=r'.length
    exact Calls.call_len_list pl.isList (by simp only [List.size_toArray] <;> omega) ⟨.int ys.length,H,I.tok _,⟨s.toks + 1,by rw [List.size_toArray,hlen]⟩,q⟩
  · obtain ⟨its,r',pl,hz⟩:=I.tuple hq
    have hlen:=r'.length
    exact len_tuple pl (by simp only [List.size_toArray] <;> omega) ⟨.int ys.length,H,I.tok _,⟨s.toks + 1,by rw [List.size_toArray,hlen]⟩,q⟩
theorem call_list_of : CallR X (.type "list") (fun xs H Q=>∃ p ys,xs=[.ref p]∧(SqL X.K H p ys∨SqT X.K H p ys)∧∀ l,H l=none→Q (.ref l) (upd H l (.lst ys))):=by
  intro pins s σ H xs us Q I r h
  obtain ⟨p,ys,rfl,hq,q⟩:=h
  obtain ⟨u,rfl,rx⟩:=vals1 r
  cases rx
  have fin : ∀ (its : List Value),Vals ys its→ys.length≤sizeLine→∀ (h' : Heap) (c' : Nat),(∀ b o',s.heap.get? b=some o'→h'.get? b=some o')→
      h'.get? s.heap.objs.size=some { cls:=.type "list",dict:=none,data:=.seq its.toArray c',slots:=#[] }→EP X pins σ Q (.ref s.heap.objs.size) { s with heap:=h' }:=fun its r' hz h' c' kp e =>
    ⟨.ref s.heap.objs.size,_,I.laid (t':=s.toks) kp (Nat.le_refl _) (show ObjOk X.prog X.w _ h' _ (.lst ys) from ⟨hz,its,c',r',e⟩),rfl,q _ (I.hok.fresh (Nat.le_refl _))⟩
  rcases hq with hq | hq
  · obtain ⟨its,r',pl,hz⟩:=I.list hq
    have hlen:=r'.length
    obtain ⟨o,ho,hc,n,hd⟩:=pl.isList
    exact call_list_seq p (.inl rfl) ho hc hd (fun h' c' kp e=>fin its r' hz h' c' kp e) (by simp only [List.size_toArray] <;> omega)
  · obtain ⟨its,r',pl,hz⟩:=I.tuple hq
    have hlen:=r'.length
    obtain ⟨o,ho,hc,n,hd⟩:=pl
    exact call_list_seq p (.inr rfl) ho hc hd (fun h' c' kp e=>fin its r' hz h' c' kp e) (by simp only [List.size_toArray] <;> omega)
def tyV (K : PySem.W.Frag) (T : String) (x : V) (H : Hp) : Prop:=match x with
  | .str _=>T = "str"
  | .int _=>T = "int"
  | .ref p=>(T = "list" ∧ ∃ xs,SqL K H p xs)∨(T = "tuple" ∧ ∃ o,K.lookup p=some o∧o.cls = .type "tuple" ∧ o.dict=none) ∨
      (T = "dict" ∧ ((∃ kvs,H p=some (.dK kvs))∨∃ kvs,H p=some (.dT kvs)))∨(T = "set" ∧ ∃ S n,H p=some (.set S n))
  | _=>False
theorem tyV_is {pins : List (Addr×Obj)} {σ : St} {H : Hp} {s : Shared} {T : String} {x : V} {v : Value} (I : Inv X pins σ H s) (r : RelV x v) (ty : tyV X.K T x H) :
    s.TypeIs v T∧∀ a,v = .ref a→∃ ob,s.heap.get? a=some ob∧ob.dict=none:=by
  cases x with
  | str z=>
    obtain ⟨t,rfl⟩:=r
    cases (show T = "str" from ty)
    exact ⟨typeIs_str s z t,fun _ e=>nomatch e⟩
  | int i=>
    obtain ⟨t,rfl⟩:=r
    cases (show T = "int" from ty)
    exact ⟨typeIs_int s i t,fun _ e=>nomatch e⟩
  | ref p=>
    cases r
    rcases ty with ⟨rfl,xs,hq⟩ | ⟨rfl,o,hk,hc,hd⟩ | ⟨rfl,hk⟩ | ⟨rfl,S,n,hk⟩
    · obtain ⟨its,_,pl,_⟩:=I.list hq
      refine ⟨pl.isList.typeIs,fun a e=>?_⟩
      cases e
      obtain ⟨o,n,e,c,hd,_⟩:=pl
      exact ⟨o,e,hd⟩
    · refine ⟨⟨o,I.kIn p o hk,hc⟩,fun a e=>?_⟩
      cases e
      exact ⟨o,I.kIn _ o hk,hd⟩
    · have z : ∃ o,s.heap.get? p=some o∧o.ExactDict:=by
        rcases hk with ⟨kvs,hk⟩ | ⟨kvs,hk⟩
        · obtain ⟨_,_,_,_,o,_,_,e,ex,_⟩:=I.hok p _ hk
          exact ⟨o,e,ex⟩
        · obtain ⟨_,_,_,_,o,_,_,e,ex,_⟩:=I.hok p _ hk
          exact ⟨o,e,ex⟩
      obtain ⟨o,e,ex⟩:=z
      refine ⟨⟨o,e,ex.1⟩,fun a e2=>?_⟩
      cases e2
      exact ⟨o,e,ex.2.1⟩
    · obtain ⟨o,_,_,_,e,ex,_⟩:=I.hok p _ hk
      refine ⟨⟨o,e,ex.1⟩,fun a e2=>?_⟩
      cases e2
      exact ⟨o,e,ex.2.1⟩
  | _=>exact False.elim ty
def tBM (K : PySem.W.Frag) (T : String) (r : V→List V→Hp→VK→Prop) (to : TE) (t : TA) : TE:=fun σ H Q=>to σ H fun x H1=>tyV K T x H1∧t σ H1 fun xs H2=>r x xs H2 Q
variable {o e : Expr} {es : List Expr} {to : TE} {t : TA} {name : Str} {apos cpos : Pos} {T id : String} {r : V→List V→Hp→VK→Prop}
theorem pe_bm (pa : PlainAttrs T) (slot : Slot T name id) (hty : typeOf (.builtin id)=pure (.type "method_descriptor")) (hm : MtR X id r) (ho : PE X o to) (ha : PA X (e :: es) t)
    (hbase : attributeBase o name X.env (eval o X.env)=eval o X.env:=by rfl)
    (hfew : ((backTo cpos (starEach (e :: es) X.env)).all (fun x=>!x.1) && (backToKw cpos (keywordEach [] X.env)).all (fun x=>x.1.isSome)
      && decide ((e :: es).length + ([] : List Keyword).length + (if ([] : List Keyword).isEmpty then 0 else 1) < 30))=true:=by rfl)
    (hline : (apos.endLine == cpos.line)=true:=by rfl) (hs : starEach (e :: es) X.env=(false,eval e X.env) :: starEach es X.env:=by rfl) (hplain : (backTo cpos (starEach es X.env)).any (·.1)=false:=by rfl) :
    PE X (.Call (.Attribute o name apos) (e :: es) [] cpos) (tBM X.K T r to t):=by
  intro pins s σ H Q I h
  refine wpAny_Call_method_late hbase hfew hline rfl (thn (ho pins s σ H _ I h) fun v s1 ⟨x,H1,I1,r1,ty,q1⟩=>?_)
  obtain ⟨h1,h2⟩:=tyV_is I1 r1 ty
  refine ⟨T,id,pa,slot,hty,h1,h2,?_⟩
  have hA:=ha cpos pins s1 σ H1 _ I1 q1
  rw [hs] at hA ⊢
  refine Calls.callWith_builtin (by show (false || (backTo cpos (starEach es X.env)).any (·.1))=false; rw [hplain] <;> rfl) (Calls.evalArgs_plain ?_)
  exact thn hA fun us s2 ⟨vs,H2,I2,r2,q2⟩=>hm pins s2 σ H2 x vs v us Q I2 r1 r2 q2
end
end L2
namespace L2
open PySem PySem.Spec PyProof.Rows
def MtM (X : Cx) (id : String) (r : V→List V→Hp→VK→Prop) : Prop:=
  ∀ (pins : List (Addr×Obj)) (s : Shared) (σ : St) (H : Hp) (x : V) (xs : List V) (v : Value) (us : List Value) (Q : VK),Inv X pins σ H s→RelV x v→Vals xs us→r x xs H Q→
    wpAny (model X.prog X.w) X.A (call (.builtin id) (v :: us)) (EP X pins σ Q) X.xe s
theorem Vals.one : ∀ {x : V} {us : List Value},Vals [x] us→∃ u,us=[u]∧RelV x u
  | _,_,.cons r .nil=>⟨_,rfl,r⟩
theorem Vals.two : ∀ {x y : V} {us : List Value},Vals [x,y] us→∃ u v,us=[u,v]∧RelV x u∧RelV y v
  | _,_,_,.cons r (.cons q .nil)=>⟨_,_,rfl,r,q⟩
section
variable {X : Cx} {pins : List (Addr×Obj)} {σ : St} {H : Hp} {s : Shared} {l b : Addr} {xs ys zs : List V}
theorem Inv.lset {its its' : List Value} {n : Nat} {f : Array Value→Array Value} {t' : Nat} (I : Inv X pins σ H s) (hH : H l=some (.lst xs))
    (e : s.heap.get? l=some { cls:=.type "list",data:=.seq its.toArray n }) (hf : f its.toArray=its'.toArray) (hv : Vals ys its') (hz : ys.length≤sizeLine) :
    Inv X pins σ (upd H l (.lst ys)) { s with heap:=s.heap.update l (Obj.mapSeq f),toks:=t' }:=by
  have q:=PySem.IsL.update e f
  rw [hf] at q
  refine I.write (x:=l) (e:=l) (by rw [hH]; exact trivial) (.inl rfl) (fun b' u hb hu=>(Heap.get?_update_other s.heap (Obj.mapSeq f) (Ne.symm hb)).trans hu) ⟨_,q⟩ ?_
  exact ⟨hz,its',_,hv,q⟩
theorem Inv.lnew {its : List Value} {t' : Nat} (I : Inv X pins σ H s) (hv : Vals ys its) (hz : ys.length≤sizeLine) :
    Inv X pins σ (upd H s.heap.objs.size (.lst ys)) { s with heap:=s.heap.push { cls:=.type "list",data:=.seq its.toArray },toks:=t' } :=
  I.laid (fun _ _ q=>Heap.get?_push_of_some _ q) (Nat.le_refl _) ⟨hz,its,0,hv,Heap.get?_push_size _ rfl⟩
theorem Inv.fresh (I : Inv X pins σ H s) : H s.heap.objs.size=none:=I.hok.fresh (Nat.le_refl _)
theorem Inv.lstM (I : Inv X pins σ H s) (hH : H l=some (.lst xs)) : xs.length≤sizeLine∧∃ (its : List Value) (n : Nat),Vals xs its∧xs.length=its.length∧s.heap.get? l=some { cls:=.type "list",data:=.seq its.toArray n }:=by
  obtain ⟨z,its,n,r,e⟩:=I.hok l _ hH
  exact ⟨z,its,n,r,r.length,e⟩
end
section
variable {X : Cx}
def rAppend : V→List V→Hp→VK→Prop:=fun x vs H Q=>∃ l xs y,x = .ref l∧vs=[y]∧H l=some (.lst xs)∧xs.length < sizeLine∧Q .non (upd H l (.lst (xs ++ [y])))
theorem mt_append : MtM X "list.append" rAppend:=by
  intro pins s σ H x vs v us Q I rx rv h
  obtain ⟨l,xs,y,rfl,rfl,hH,hz,q⟩:=h
  cases rx
  obtain ⟨u,rfl,ru⟩:=rv.one
  obtain ⟨z,its,n,r,hl,e⟩:=I.lstM hH
  refine call_meets F.slot_list_append ⟨_,e,rfl⟩ F.entry_list_append (F.args_list_append_2 _ _) (PySem.list_append l its.toArray n u (by rw [List.size_toArray]; omega)) ⟨e,?_⟩
  refine ⟨.non,_,I.lset (its':=its ++ [u]) hH e (by simp) (r.append (.cons ru .nil)) ?_,rfl,q⟩
  rw [List.length_append,List.length_singleton]
  omega
def rCat : R2:=fun x y H Q=>∃ l b xs zs,x = .ref l∧y = .ref b∧H l=some (.lst xs)∧H b=some (.lst zs)∧xs.length + zs.length≤sizeLine∧∀ p,H p=none→Q (.ref p) (upd H p (.lst (xs ++ zs)))
theorem op_cat : OpR X (binaryOp .Add) rCat:=by
  intro pins s σ H x y v u Q I rx ry h
  obtain ⟨l,b,xs,zs,rfl,rfl,hH,hB,hz,q⟩:=h
  cases rx
  cases ry
  obtain ⟨z,its,n,r,hl,e⟩:=I.lstM hH
  obtain ⟨z2,its2,n2,r2,hl2,e2⟩:=I.lstM hB
  refine PySem.P.add_list e e2 ?_ (by rw [List.size_toArray,List.size_toArray]; omega)
  have ea : its.toArray ++ its2.toArray=(its ++ its2).toArray:=by simp
  rw [ea]
  exact ⟨.ref _,_,I.lnew (t':=s.toks) (r.append r2) (by rw [List.length_append]; omega),rfl,q _ I.fresh⟩
end
section
variable {prog : Program} {w : World} {A : Around} {E : Value→Shared→Prop} {s : Shared}
end
section
variable {X : Cx}
end
end L2
namespace Att
open PySem PySem.W PySem.Calls PyProof.Rows
theorem ints_of_wellAll {P : Params} {h : Heap} : ∀ (ns : List Int) (vs : List Value),WellAll P h vs (ns.map WData.int)→IntsAre vs ns:=by
  intro ns
  induction ns with
  | nil=>
    intro vs w
    rw [List.map_nil] at w
    cases w
    exact .nil
  | cons n ns ih=>
    intro vs w
    rw [List.map_cons] at w
    cases w with
    | cons a b=>
      cases a
      exact .cons _ _ (ih _ b)
theorem script_of {l : OpenLaw} {n : Nat} (hn : l.most=some n) {P : Params} {h : Heap} {args : List WData} {vals : List Value}
    (hpre : l.row.toRowW.claim.pre args=true) (hwl : WellAll P h vals args) :
    ∃ a vs ns,vals=[Value.ref a]∧args=[WData.list (ns.map WData.int)]∧h.get? a=some { cls:=.type "list",data:=.seq vs.toArray }∧IntsAre vs ns∧ns.length≤n:=by
  have hsh : WShape.hasAll [] args [.list .int]=true:=(pre_splitW hpre).1
  have hc : l.pre.holds [] { args:=args } = true:=(pre_splitW hpre).2
  obtain ⟨d,r,rfl,h1,h2⟩:=hasAllW_cons hsh
  obtain rfl:=hasAllW_nil h2
  obtain ⟨xs,rfl,h3⟩:=hasW_list h1
  obtain ⟨ns,rfl⟩:=items_int h3
  have hlen : ns.length≤n:=by
    unfold OpenLaw.pre at hc
    have h4 : (WTm.not (.lt (.lit (.int (n : Int))) (.len (.arg 0)))).holds [] { args:=[.list (ns.map .int)] } = true:=by
      have h4:=(holds_andW hc).1
      rw [hn] at h4
      exact h4
    have h5:=condW_of h4 (w_not (w_lt w_lit (w_len_list (w_arg rfl))))
    rw [List.length_map] at h5
    refine Nat.le_of_not_lt fun q=>?_
    have q' : (n : Int) < ((ns.length : Nat) : Int):=by omega
    first
      | (rw [decide_eq_true q'] at h5; exact absurd h5 (by decide))
      | (simp at h5; omega)
  cases hwl with
  | cons w1 w2=>
    cases w2
    cases w1 with
    | list ho hall=>exact ⟨_,_,ns,rfl,rfl,ho,ints_of_wellAll ns _ hall,hlen⟩
theorem post_true (l : OpenLaw) (args : List WData) : l.row.toRowW.claim.post args (.bool true) args=true:=
  postW_of (r:=l.row.toRowW) (X:=(true == true))
    (show WShape.has [] (.bool true) .bool=true by first | rfl | decide | simp [WShape.has,WShape.arms,WShape.armsAll])
    (show (WTm.eq .res (.lit (.bool true))).value [] { args:=args,res:=some (.bool true),after:=args } = some (.bool (true == true)) from w_eq_bool (w_res rfl) w_lit) rfl
theorem attach_call {l : OpenLaw} {n : Nat} {q : Program} {loose : List Str} {XP : (Str→Option Value)→Heap→Prop} {YP : World→Heap→Prop} {d : DefRec}
    (hn : l.most=some n) (hdf : d.params.defaults=[])
    (call : ∀ (w : World) (s₀ s₁ : Shared) (mg mb : Str→Option Value) (fa : Addr) (o : Obj) (pm cd doc : Value) (a : Addr) (vs : List Value) (ns : List Int),
      Ground q loose [] XP w s₀ mg mb s₁.heap→YP w s₁.heap→
      s₁.heap.get? fa=some o→o.data = .func (docDef d.name d.params d.body d.scope pm cd doc)→s₁.heap.CodeRec cd d.name→mg d.name=some (.ref fa)→
      s₁.heap.get? a=some { cls:=.type "list",data:=.seq vs.toArray }→IntsAre vs ns→ns.length≤n→s₁.gens = #[] →
      codeAny (model l.prog w) callerA (.call (.ref fa) ⟨[.ref a],[]⟩) (fun r s'=>r = .ok (.ret (.bool true))∧OldK s₁.heap s'.heap∧s'.os=s₁.os∧AllBare s'.gens) s₁) :
    WalkO q loose XP YP l.row.toRowW d [] (fun f vs=>PySem.call f vs):=by
  intro w s₀ s₁ mg mb G Y fa o pm cd doc dV kV ho hd hcd hD hmg hg args vals as hpre hlay hrd hwl hlo
  obtain rfl : dV = .none:=Dflts.none hD hdf
  obtain rfl : kV = .none:=Dflts.noKw hD
  obtain ⟨a,vs,ns,rfl,rfl,hobj,hints,hlen⟩:=script_of hn hpre hwl
  refine enter_call (codeAny_mono (call w s₀ s₁ mg mb fa o pm cd doc a vs ns G Y ho (fd_plain hd) hcd hmg hobj hints hlen hg) fun r s' hq=>?_)
  obtain ⟨rfl,h2,h3,h4⟩:=hq
  exact ⟨.inl ⟨.bool true,.bool true,[],rfl,fun _=>rfl,.bool true,post_true l _,fun _=>⟨List.Pairwise.nil,fun _ hm=>(nomatch hm)⟩⟩,h2,h3,h4⟩
section
variable {prog : Program} {w : World} {A : Around} {E : Value→Shared→Prop} {s : Shared} {K : Frag}
end
end Att
namespace L2
open PySem PySem.Spec PyProof.Rows
theorem vals_ints : ∀ {vs : List Value} {ns : List Int},IntsAre vs ns→Vals (ns.map V.int) vs
  | _,_,.nil=>.nil
  | _,_,.cons n t h=>.cons ⟨t,rfl⟩ (vals_ints h)
def Only (H : Hp) : Prop:=∀ b,H b=none∨∃ o xs,H b=some (.frz o (.lst xs))
theorem law_call {P : Program} {w : World} {K : PySem.W.Frag} {mg mb : Str→Option Value} {CX : CXT} {k : Nat} {fa a : Addr} {fd : FuncData} {x : Str} {sp : Sp} {s₁ : Shared} {vs : List Value} {ns : List Int}
    (KX : K.In s₁.heap) (hns : s₁.heap.Ns mainGlobals mg) (hb : s₁.heap.Ns builtinsNs mb) (hbb : ∀ x : Str,x ≠ "__name__" → mb x=bootBuiltins x) (hlim : s₁.heap.NoLimit) (hg : s₁.gens = #[])
    (ha : s₁.heap.get? a=some { cls:=.type "list",data:=.seq vs.toArray }) (hi : IntsAre vs ns) (hl : ns.length≤sizeLine) (hr : Room k callerA)
    (F : ∀ base : Heap,K.In base→base.Ns mainGlobals mg→FnOk P w K mg base CX k fa fd [x] sp) (hbind : ∀ (s : Shared) (u : Value),BindsTo s fd ⟨[u],[]⟩ [(x,u)])
    (hsp : ∀ H : Hp,Only H→SqL K H a (ns.map V.int)→sp [.ref a] H (fun v _=>v = .bl true) fun _ _ _=>False)
    (hCX : ∀ H e s',CX [] H s₁ (fun _ _ _=>False) e s'→False) :
    codeAny (model P w) callerA (.call (.ref fa) ⟨[.ref a],[]⟩) (fun r s'=>r = .ok (.ret (.bool true))∧OldK s₁.heap s'.heap∧s'.os=s₁.os∧AllBare s'.gens) s₁:=by
  have rv:=vals_ints hi
  have lenV:=hi.length
  have core : ∀ H : Hp,Only H→SqL K H a (ns.map V.int)→HOk P w H s₁.heap→(∀ b,H b≠none→b=a)→(H a≠none→K.lookup a=none)→
      codeAny (model P w) callerA (.call (.ref fa) ⟨[.ref a],[]⟩) (fun r s'=>r = .ok (.ret (.bool true))∧OldK s₁.heap s'.heap∧s'.os=s₁.os∧AllBare s'.gens) s₁:=by
    intro H hO hS hok hA hK
    have base_of : ∀ {b : Addr} {o : Obj},s₁.heap.get? b=some o→H b=none→(hidT s₁.heap H).get? b=some o:=fun e n=>hidT_get e n
    have noA : ∀ {b : Addr} {o : Obj} {es : Array DictEntry} {ep : Nat},s₁.heap.get? b=some o→o.data = .dict es ep→H b=none:=fun {b o es ep} e d=>by
      cases q : H b with
      | none=>rfl
      | some u=>
        have e' : b=a:=hA b (by rw [q]; simp)
        subst e'
        rw [ha] at e; cases e
        have d' : Data.seq vs.toArray _=Data.dict es ep:=d
        cases d'
    have nsK : ∀ {b : Addr} {m : Str→Option Value},s₁.heap.Ns b m→(hidT s₁.heap H).Ns b m:=fun {b m} ⟨o,es,ep,e,d,r⟩=>⟨o,es,ep,base_of e (noA e d),d,r⟩
    have hKb : K.In (hidT s₁.heap H):=fun b o e=>base_of (KX b o e) (by
      cases q : H b with
      | none=>rfl
      | some u=>
        have e' : b=a:=hA b (by rw [q]; simp)
        subst e'
        rw [hK (by rw [q]; simp)] at e; cases e)
    have hM : Mod K mg (hidT s₁.heap H):=⟨hKb,nsK hns,⟨mb,nsK hb,hbb⟩,let ⟨mc,h1,h2⟩:=hlim; ⟨mc,nsK h1,h2⟩⟩
    have e0 : Env0 P w K mg (hidT s₁.heap H) callerA [] s₁ H:=⟨rfl,hM,fun b o e=>of_hidT e,Nat.le_of_eq (hidT_size _ _),trivial,fun b hb=>absurd (show b∈([] : List Addr) from hb) (by simp),hok,.of_eq hg⟩
    refine codeAny_mono ((F _ hKb (nsK hns)).run callerA [] s₁ H ⟨[.ref a],[]⟩ [.ref a] [.ref a] _ _ hr e0 (hbind s₁ (.ref a)) (.cons rfl .nil) (hsp H hO hS)) fun r s' h=>?_
    cases r with
    | error e=>exact (hCX H e s' h).elim
    | ok fl=>
      cases fl with
      | next=>exact False.elim h
      | brk=>exact False.elim h
      | cont=>exact False.elim h
      | ret u=>
        obtain ⟨v,H',os,bare,un,hok',r',q⟩:=h
        have q' : v = .bl true:=q
        subst q'
        obtain rfl : u=Value.bool true:=r'
        refine ⟨rfl,OldK.of_keep fun b o e=>?_,os,bare⟩
        cases q : H b with
        | none=>exact un.keep b o e q (by intro z; exact absurd (show b∈([] : List Addr) from z) (by simp)) (by simp)
        | some u=>
          rcases hO b with z | ⟨ob,xs,z⟩
          · rw [q] at z; cases z
          · have z2:=un.frzs b ob _ z
            obtain ⟨e1,_⟩:=hok b _ z
            obtain ⟨e2,_⟩:=hok' b _ z2
            rw [e] at e1; cases e1
            exact e2
  cases hk : K.lookup a with
  | some o=>
    have e:=KX a o hk
    rw [ha] at e
    cases e
    refine core (fun _=>none) (fun _=>.inl rfl) (.inr ⟨_,vs.toArray,_,hk,rfl,rfl,rfl,by rw [List.size_toArray,lenV]; exact hl,by simpa using rv⟩) (fun b u z=>by have z' : (none : Option HO)=some u:=z; cases z') (fun b z=>absurd rfl z) fun z=>absurd rfl z
  | none=>
    refine core (fun b=>if b=a then some (.frz { cls:=.type "list",data:=.seq vs.toArray } (.lst (ns.map V.int))) else none) (fun b=>?_) (.inl (.inr ⟨{ cls:=.type "list",data:=.seq vs.toArray },if_pos rfl⟩)) (fun b u z=>?_) (fun b z=>?_) fun _=>hk
    · by_cases hb : b=a
      · exact .inr ⟨_,_,if_pos hb⟩
      · exact .inl (if_neg hb)
    · by_cases hb : b=a
      · have z':=(if_pos hb).symm.trans z
        cases z'
        subst hb
        exact ⟨ha,by rw [List.length_map]; exact hl,vs,_,rv,ha⟩
      · have z':=(if_neg hb).symm.trans z
        cases z'
    · by_cases hb : b=a
      · exact hb
      · exact absurd (if_neg hb) z
end L2
namespace L2
open PySem PySem.Spec PyProof.Rows
theorem walk_of {l : PySem.W.OpenLaw} {n k : Nat} {q : Program} {loose : List Str} {XP : (Str→Option Value)→Heap→Prop} {YP : World→Heap→Prop} {d : DefRec} {K : Params→PySem.W.Frag} {CX : World→CXT} {sp : World→Sp} {x : Str}
    (hn : l.most=some n) (hn2 : n≤sizeLine) (hdf : d.params.defaults=[]) (hr : Room k callerA)
    (hY : ∀ (w : World) (h : Heap),YP w h→(K w.params).In h)
    (F : ∀ (w : World) (mg : Str→Option Value) (fa : Addr) (h : Heap),(K w.params).In h→h.Ns mainGlobals mg→mg d.name=some (.ref fa)→
      ∃ fd : FuncData,(∀ (s : Shared) (u : Value),BindsTo s fd ⟨[u],[]⟩ [(x,u)])∧
        ∀ base : Heap,(K w.params).In base→base.Ns mainGlobals mg→FnOk l.prog w (K w.params) mg base (CX w) k fa fd [x] (sp w))
    (hsp : ∀ (w : World) (H : Hp) (a : Addr) (ns : List Int),ns.length≤n→Only H→SqL (K w.params) H a (ns.map V.int)→sp w [.ref a] H (fun v _=>v = .bl true) fun _ _ _=>False)
    (hCX : ∀ (w : World) (H : Hp) (s : Shared) (e : Value) (s' : Shared),CX w [] H s (fun _ _ _=>False) e s'→False) :
    PySem.W.WalkO q loose XP YP l.row.toRowW d [] (fun f vs=>PySem.call f vs):=by
  refine Att.attach_call hn hdf fun w s₀ s₁ mg mb fa o pm cd doc a vs ns G Y ho hd hcd hmg hobj hints hlen hg=>?_
  have KX:=hY w _ Y
  obtain ⟨fd,hb,hF⟩:=F w mg fa _ KX G.T.g hmg
  exact law_call KX G.T.g G.T.b G.T.builtins G.T.nolimit hg hobj hints (Nat.le_trans hlen hn2) hr hF hb (fun H hO hS=>hsp w H a ns hlen hO hS) fun H e s'=>hCX w H s₁ e s'
end L2
namespace L2
open PySem PySem.Spec PyProof.Rows
def defArgs (s : Stmt) : Arguments:=match s with
  | .FunctionDef _ a _ _ _ _ _ _ _ _=>a
  | _=>{ posonlyargs:=[],args:=[],vararg:=none,kwonlyargs:=[],kw_defaults:=[],kwarg:=none,defaults:=[] }
def defBody (s : Stmt) : List Stmt:=match s with
  | .FunctionDef _ _ b _ _ _ _ _ _ _=>b
  | _=>[]
def defScope (s : Stmt) : Scope:=match s with
  | .FunctionDef _ _ _ _ _ _ sc _ _ _=>sc
  | _=>{ kind:=.function,names:=[],isGenerator:=false,isCoroutine:=false }
abbrev CX0 : CXT:=fun _ _ _ _ _ _=>False
abbrev E0 : XK:=fun _ _ _=>False
theorem pass0 {X : Cx} : Passes CX0 X E0:=fun _ _ _ _ _ _ _ h=>h.elim
structure Fun (K : PySem.W.Frag) (x qual : Str) (st : Stmt) (f : Addr) (fd : FuncData) : Prop where
  ex : ∃ (oc : Value) (od : Option Addr) (kV doc pm : Value) (an : Option Addr) (cdv ct : Value) (osl : Array (Option Value)),
    fd=PySem.W.fnOf x qual (defArgs st) (defBody st) (defScope st) .none kV doc pm an cdv ct∧K.lookup f=some ⟨oc,od,.func fd,osl⟩∧PySem.W.codeIn K cdv qual=true
  kp : PySem.W.keepIn K (.ref f)=true
section
variable {P : Program} {w : World} {K : PySem.W.Frag} {mg : Str→Option Value} {base : Heap}
theorem Fun.ok {x qual : Str} {st : Stmt} {f : Addr} {fd : FuncData} {N ps : List Str} {k : Nat} {sp : Sp} (F : Fun K x qual st f fd) (S : FnScope N ps (defScope st)) (len : ∀ vs H Q E,sp vs H Q E→vs.length=ps.length)
    (hbody : ∀ (cdv : Value) (A : Around) (outer : List Env) (s : Shared) (H : Hp) (vs : List V) (Q : VK) (E : XK),Room k (A.deeper (envOfC qual (defScope st) s.heap.objs.size f cdv))→sp vs H Q E→
      ∃ t,PSs (cxOf CX0 P w K mg base N qual (defScope st) f cdv A outer s H E).nox (defBody st) t∧t { nx:=fun _ H'=>Q .non H',rt:=Q } (start N vs) H) : FnOk P w K mg base CX0 (k + 1) f fd ps sp:=by
  obtain ⟨oc,od,kV,doc,pm,an,cdv,ct,osl,rfl,lk,hcd⟩:=F.ex
  refine fn_of lk hcd S len fun A outer s H vs Q E hr hsp=>?_
  obtain ⟨t,h,q⟩:=hbody cdv A outer s H vs Q E hr hsp
  exact ⟨t,h.nox,q⟩
theorem Fun.binds {x qual : Str} {st : Stmt} {f : Addr} {fd : FuncData} {ps : List Str} (F : Fun K x qual st f fd)
    (h : ∀ (kV doc pm : Value) (an : Option Addr) (cdv ct : Value) (us : List Value),us.length=ps.length→bindArgs (PySem.W.fnOf x qual (defArgs st) (defBody st) (defScope st) .none kV doc pm an cdv ct) ⟨us,[]⟩=pure (ps.zip us)) : Binds K fd ps []:=by
  obtain ⟨oc,od,kV,doc,pm,an,cdv,ct,osl,rfl,lk,hcd⟩:=F.ex
  exact .all (h kV doc pm an cdv ct)
theorem fun_mk {x qual : Str} {st : Stmt} {f : Addr} {oc : Value} {od an : Option Addr} {osl : Array (Option Value)} {kV doc pm cdv ct : Value} (l : K.lookup f=some ⟨oc,od,.func (PySem.W.fnOf x qual (defArgs st) (defBody st) (defScope st) .none kV doc pm an cdv ct),osl⟩)
    (c : PySem.W.codeIn K cdv qual=true) (k : PySem.W.keepIn K (.ref f)=true) : Fun K x qual st f (PySem.W.fnOf x qual (defArgs st) (defBody st) (defScope st) .none kV doc pm an cdv ct):=⟨⟨oc,od,kV,doc,pm,an,cdv,ct,osl,rfl,l,c⟩,k⟩
end
theorem small1000 {n : Nat} (h : n≤1000) : n < sizeLine:=Nat.lt_of_le_of_lt h (by decide)
section
variable {X : Cx}
theorem pv (i : Nat) {x : Str} {pos : Pos} (hN : X.N[i]? = some x:=by rfl) (hv : Vis X.env.scope x:=by first | exact Or.inl rfl | exact Or.inr (Or.inl rfl) | exact Or.inr (Or.inr rfl)) (hd : (x == ("__debug__" : Str))=false:=by decide)
    (hcd : (x == ("__classdict__" : Str))=false:=by decide) : PE X (.Name x pos) (tVar i):=pe_var hN hv hd hcd
end
theorem iteF {A B : Prop} (h : B) : if false=true then A else B:=by
  rw [if_neg Bool.false_ne_true]
  exact h
theorem iteT {A B : Prop} (h : A) : if true=true then A else B:=by
  rw [if_pos rfl]
  exact h
theorem ite2 {c A B : Prop} [Decidable c] (h1 : c→A) (h2 : ¬ c→B) : if c then A else B:=by
  by_cases h : c
  · rw [if_pos h]
    exact h1 h
  · rw [if_neg h]
    exact h2 h
def Same (H H' : Hp) : Prop:=∀ b o,H b=some o→H' b=some o
theorem Same.refl (H : Hp) : Same H H:=fun _ _ h=>h
theorem Same.trans {H H1 H2 : Hp} (a : Same H H1) (b : Same H1 H2) : Same H H2:=fun c o h=>b c o (a c o h)
theorem Same.free {H H' : Hp} (e : Same H H') {l : Addr} (h : H' l=Option.none) : H l=Option.none:=by
  cases q : H l with
  | none=>rfl
  | some o=>
    rw [e l o q] at h
    cases h
end L2
set_option maxHeartbeats 4000000
namespace L2
open PySem PySem.Spec PyProof.Rows
theorem objThere {P : Program} {w : World} {H : Hp} {h : Heap} {a : Addr} {o : HO} (x : ObjOk P w H h a o) : ∃ ob,h.get? a=some ob:=by
  induction o with
  | lst xs=>obtain ⟨_,_,_,_,e⟩:=x; exact ⟨_,e⟩
  | tup xs=>obtain ⟨_,_,_,ob,e,_⟩:=x; exact ⟨_,e⟩
  | dK kvs=>obtain ⟨_,_,_,_,o,_,_,e,_⟩:=x; exact ⟨_,e⟩
  | dT kvs=>obtain ⟨_,_,_,_,o,_,_,e,_⟩:=x; exact ⟨_,e⟩
  | set S n=>obtain ⟨o,_,_,_,e,_⟩:=x; exact ⟨_,e⟩
  | ins C dx fs=>obtain ⟨_,_,_,e,_⟩:=x; exact ⟨_,e⟩
  | own y=>obtain ⟨_,e⟩:=x; exact ⟨_,e⟩
  | xd fs=>obtain ⟨_,⟨_,_,_,e,_⟩,_⟩:=x; exact ⟨_,e⟩
  | rng lo hi=>obtain ⟨_,_,_,e⟩:=x; exact ⟨_,e⟩
  | frz ob u _=>obtain ⟨e,_⟩:=x; exact ⟨_,e⟩
  | tbl ps=>exact ⟨_,(show h.get? a=some _ from x)⟩
  | met f y=>exact ⟨_,(show h.get? a=some _ from x)⟩
  | ext φ=>obtain ⟨_,e,_⟩:=x; exact e
  | cod q pos=>rcases x with e | ⟨_,e,_⟩ <;> exact ⟨_,e⟩
structure UnB (fs : List Addr) (H H' : Hp) (h B h' : Heap) : Prop where
  keep : ∀ b o,h.get? b=some o→H b=none→b ∉ fs→B.get? b=some o
  slot : ∀ b o,h.get? b=some o→H b=none→b∈fs→∃ sl,h'.get? b=some { o with slots:=sl }
  free : ∀ b o,h.get? b=some o→H b=none→H' b=none
  there : ∀ b o,h.get? b=some o→b∈fs∨∃ o',B.get? b=some o'
  tups : ∀ b xs,H b=some (.tup xs)→H' b=some (.tup xs)
  frzs : ∀ b o u,H b=some (.frz o u)→H' b=some (.frz o u)
  tbls : ∀ b ps,H b=some (.tbl ps)→∃ more,H' b=some (.tbl (ps ++ more))
def CXE (P : Program) (w : World) : CXT:=fun outer H s E e s'=>∃ (a : Addr) (cls a0 : Value) (H' : Hp) (B : Heap),e = .ref a∧s'.os=s.os∧AllBare s'.gens∧E cls none H'∧HOk P w H' B∧H' a=none∧s.heap.get? a=none∧
  Heap.FlyingW B outer a cls a0 s'.heap∧UnB (frs outer) H H' s.heap B s'.heap
theorem UnB.un {fs : List Addr} {H H' : Hp} {h B h' h'' : Heap} (u : UnB fs H H' h B h') (hB : B.StaysIn h'') (hs : h'.UpToSlots h'') (hf : ∀ b∈fs,∃ o,h'.get? b=some o∧∀ vs,o.data≠.fields vs) : Un fs [] H H' h h'' where
  keep:=fun b o e n hb _=>hB b o (u.keep b o e n hb)
  slot:=fun b o e n hb _=>by
    obtain ⟨sl,e1⟩:=u.slot b o e n hb
    obtain ⟨o1,e2,nf⟩:=hf b hb
    rw [e1] at e2; cases e2
    obtain ⟨sl',e3⟩:=hs b _ e1 nf
    exact ⟨sl',e3⟩
  free:=fun b o e n _=>u.free b o e n
  there:=fun b o e _=>by
    rcases u.there b o e with hb | ⟨o',e'⟩
    · obtain ⟨o1,e2,nf⟩:=hf b hb
      obtain ⟨sl',e3⟩:=hs b _ e2 nf
      exact ⟨_,e3⟩
    · exact ⟨o',hB b o' e'⟩
  tups:=u.tups
  frzs:=u.frzs
  tbls:=u.tbls
section
variable {X : Cx} {pins : List (Addr×Obj)} {σ : St} {H : Hp} {s s' : Shared} {E : XK}
theorem raise_leaves {CX : CXT} {P : Program} {w : World} {K : PySem.W.Frag} {mg : Str→Option Value} {base : Heap} {N : List Str} {qual : Str} {scope : Scope} {f : Addr} {cd : Value} {A : Around} {outer : List Env} {s₀ : Shared} {H₀ : Hp}
    {pins : List (Addr×Obj)} {σ : St} {H : Hp} {s : Shared} {h' : Heap} {e : Addr} {cls : Value} {args : List Value}
    (I : Inv (cxOf (CXE P w) P w K mg base N qual scope f cd A outer s₀ H₀ E) pins σ H s) (hx : Heap.MadeExcOf s.heap h' e cls args) (hE : E cls none H) :
    (cxOf (CXE P w) P w K mg base N qual scope f cd A outer s₀ H₀ E).xe (.ref e) { s with heap:=h' }:=by
  have hst:=I.stack
  have hlt:=I.lt
  have hnoex : ∀ b : Addr,b ∉ ([] : List Addr):=fun b z=>nomatch z
  show wpAny (model P w) (A.deeper (envOfC qual scope s₀.heap.objs.size f cd)) (leaving (envOfC qual scope s₀.heap.objs.size f cd) (.ref e)) (fun _ s''=>CXE P w outer H₀ s₀ E (.ref e) s'') (fun e' s''=>CXE P w outer H₀ s₀ E e' s'') { s with heap:=h' }
  refine wpAny_leaves_madeW (base:=PySem.W.hideAll s.heap (frs (envOfC qual scope s₀.heap.objs.size f cd :: outer))) (h:=s.heap) (L:=s₀.heap.objs.size) I.ok.frames rfl (fun b o q=>PySem.W.of_hideAll _ q)
    (PySem.W.funFrames_hide hst fun env he b hb=>List.mem_filterMap.mpr ⟨env,he,hb⟩) hx fun h'' t fly _ _ upto=>?_
  have hsub : ∀ b,b∈frs outer→b∈frs (envOfC qual scope s₀.heap.objs.size f cd :: outer):=fun b hb=>by
    obtain ⟨env,he,hf⟩:=List.mem_filterMap.mp hb
    exact List.mem_filterMap.mpr ⟨env,.tail _ he,hf⟩
  have hnot : ∀ b o,s₀.heap.get? b=some o→b ∉ frs outer→b ∉ frs (envOfC qual scope s₀.heap.objs.size f cd :: outer):=fun b o q nb hb=>by
    rcases List.mem_cons.mp (I.stkSub b hb) with z | z
    · exact absurd (Heap.lt_size q) (by rw [z]; exact Nat.lt_irrefl _)
    · exact nb z
  have hfree : ∀ b∈frs (envOfC qual scope s₀.heap.objs.size f cd :: outer),H b=none:=I.stkFree
  have nohid : ∀ b u,H b=some u→b ∉ frs (envOfC qual scope s₀.heap.objs.size f cd :: outer):=fun b u q hb=>by rw [hfree b hb] at q; cases q
  refine ⟨e,cls,.ref t,H,_,rfl,I.os,I.bare,hE,fun b u q=>?_,?_,?_,fly,?_⟩
  · refine (I.hok b u q).stay (fun c v hc r=>PySem.W.hideAll_get _ r ?_) (fun _ r=>r) fun _ _ r=>r
    rcases hc with z | z
    · rw [z]; exact nohid b u q
    · exact nohid c _ z
  · cases q : H e with
    | none=>rfl
    | some u=>
      obtain ⟨ob,e1⟩:=objThere (I.hok e u q)
      rw [hx.new] at e1; cases e1
  · cases q : s₀.heap.get? e with
    | none=>rfl
    | some o=>
      obtain ⟨o',e1⟩:=I.base.there e o q (hnoex e)
      rw [hx.new] at e1; cases e1
  · refine ⟨fun b o q n nb=>PySem.W.hideAll_get _ (I.base.keep b o q n nb (hnoex b)) (hnot b o q nb),fun b o q n hb=>?_,fun b o q n=>I.base.free b o q n (hnoex b),fun b o q=>?_,I.base.tups,I.base.frzs,I.base.tbls⟩
    · obtain ⟨sl,e1⟩:=I.base.slot b o q n hb (hnoex b)
      obtain ⟨_,ob,e2,nf⟩:=hst.mem (hsub b hb)
      rw [e1] at e2; cases e2
      have e3:=hx.keeps b _ e1
      obtain ⟨sl',e4⟩:=upto b _ e3 nf
      exact ⟨sl',e4⟩
    · by_cases hb : b∈frs outer
      · exact .inl hb
      · obtain ⟨o',e1⟩:=I.base.there b o q (hnoex b)
        exact .inr ⟨o',PySem.W.hideAll_get _ e1 (hnot b o q hb)⟩
theorem fly_land {B h'' : Heap} {a : Addr} {cls a0 : Value} {H' : Hp} (I : Inv X pins σ H s) (hos : s'.os=s.os) (hb : AllBare s'.gens) (hok : HOk X.prog X.w H' B) (fly : Heap.FlyingW B X.stack a cls a0 s'.heap) (u : UnB (frs X.stack) H H' s.heap B s'.heap)
    (hB : B.StaysIn h'') (hs : s'.heap.UpToSlots h'') : Inv X pins σ H' { s' with heap:=h'' }:=by
  have un:=u.un hB hs fun b hb=>let ⟨_,o,e,nf⟩:=fly.2.2.1.mem hb; ⟨o,e,nf⟩
  exact I.call' (s':={ s' with heap:=h'' }) (ch:=[]) hos un (hok.kept hB) hb fun b z=>nomatch z
theorem passE {P : Program} {w : World} {K : PySem.W.Frag} {mg : Str→Option Value} {base : Heap} {N : List Str} {qual : Str} {scope : Scope} {f : Addr} {cd : Value} {A : Around} {outer : List Env} {s₀ : Shared} {H₀ : Hp} {E E' : XK}
    (hE : ∀ cls H,E' cls none H→E cls none H) : Passes (CXE P w) (cxOf (CXE P w) P w K mg base N qual scope f cd A outer s₀ H₀ E) E':=by
  intro pins σ H s e s' I h
  obtain ⟨a,cls,a0,H',B,rfl,hos,hb,hE',hok,hna,hfr,fly,u⟩:=h
  have hnoex : ∀ b : Addr,b ∉ ([] : List Addr):=fun b z=>nomatch z
  have hsub : ∀ b,b∈frs outer→b∈frs (envOfC qual scope s₀.heap.objs.size f cd :: outer):=fun b hb=>by
    obtain ⟨env,he,hf⟩:=List.mem_filterMap.mp hb
    exact List.mem_filterMap.mpr ⟨env,.tail _ he,hf⟩
  have hnot : ∀ b o,s₀.heap.get? b=some o→b ∉ frs outer→b ∉ frs (envOfC qual scope s₀.heap.objs.size f cd :: outer):=fun b o q nb hb=>by
    rcases List.mem_cons.mp (I.stkSub b hb) with z | z
    · exact absurd (Heap.lt_size q) (by rw [z]; exact Nat.lt_irrefl _)
    · exact nb z
  show wpAny (model P w) (A.deeper (envOfC qual scope s₀.heap.objs.size f cd)) (leaving (envOfC qual scope s₀.heap.objs.size f cd) (.ref a)) (fun _ s''=>CXE P w outer H₀ s₀ E (.ref a) s'') (fun e' s''=>CXE P w outer H₀ s₀ E e' s'') s'
  refine wpAny_leaves_onW (L:=s₀.heap.objs.size) I.ok.frames rfl fly fun h'' fly' upto=>?_
  refine ⟨a,cls,a0,H',B,rfl,hos.trans I.os,hb,hE cls H' hE',hok,hna,?_,fly',?_⟩
  · cases q : s₀.heap.get? a with
    | none=>rfl
    | some o=>
      obtain ⟨o',e1⟩:=I.base.there a o q (hnoex a)
      rw [hfr] at e1; cases e1
  · refine ⟨fun b o q n nb=>u.keep b o (I.base.keep b o q n nb (hnoex b)) (I.base.free b o q n (hnoex b)) (hnot b o q nb),fun b o q n hb=>?_,fun b o q n=>?_,fun b o q=>?_,fun b xs q=>u.tups b xs (I.base.tups b xs q),fun b o x q=>u.frzs b o x (I.base.frzs b o x q),fun b ps q=>?_⟩
    · obtain ⟨sl,e1⟩:=I.base.slot b o q n hb (hnoex b)
      obtain ⟨sl',e2⟩:=u.slot b _ e1 (I.base.free b o q n (hnoex b)) (hsub b hb)
      obtain ⟨_,ob,e3,nf⟩:=fly.2.2.1.mem (hsub b hb)
      rw [e2] at e3; cases e3
      obtain ⟨sl'',e4⟩:=upto b _ e2 nf
      exact ⟨sl'',e4⟩
    · obtain ⟨o',e1⟩:=I.base.there b o q (hnoex b)
      exact u.free b o' e1 (I.base.free b o q n (hnoex b))
    · by_cases hb : b∈frs outer
      · exact .inl hb
      · obtain ⟨o',e1⟩:=I.base.there b o q (hnoex b)
        rcases u.there b o' e1 with z | z
        · exact absurd z (hnot b o q hb)
        · exact .inr z
    · obtain ⟨m1,e1⟩:=I.base.tbls b ps q
      obtain ⟨m2,e2⟩:=u.tbls b _ e1
      exact ⟨m1 ++ m2,by rw [e2,Array.append_assoc]⟩
end
end L2
namespace L2
open PySem PySem.Spec PyProof.Rows PySem.Builtin.ObjectAttr PySem.Builtin.Getset_descriptor
structure XCls (K : PySem.W.Frag) (D : Addr) : Prop where
  ga : PySem.W.findIn K (.ref D) "__getattribute__" = some (some (.builtin "BaseException.__getattribute__"))
  gt : PySem.W.findIn K (.ref D) "__getattr__" = some none
  cl : PySem.W.findIn K (.ref D) "__class__" = some (some (.builtin "object.__class__"))
  gg : PySem.W.specialIn K (.builtin "object.__class__") "__get__" = some (some (.builtin "getset_descriptor.__get__"))
  tk : PySem.W.takesIn K (.builtin "object.__class__")=some true
  mo : PySem.W.mroIn K D (.type "object")=some true
  sb : PySem.W.subIn K (.ref D) (.type "BaseException")=some true
  is : (PySem.W.clsIn K D).isSome=true
def IsX (a : Addr) (cls : Value) : Heap→Prop:=fun h=>∃ o vs,h.get? a=some o∧o.cls=cls∧o.data = .fields vs
section
variable {prog : Program} {w : World} {A : Around} {E : Value→Shared→Prop} {K : PySem.W.Frag} {x D : Addr} {s : Shared}
theorem xc_ty {M : Model} {h : Heap} {cls : Value} (I : IsX x cls h) : PySem.W.Looks M h (typeOf (.ref x)) cls:=by
  obtain ⟨o,vs,h1,h2,_⟩:=I
  exact h2 ▸ (PySem.W.Looks.ld h1).andThen .now
theorem xc_get {R : Result→Shared→Prop} (X : K.In s.heap) (C : XCls K D) (I : IsX x (.ref D) s.heap) (hR : R (.ok (.ret (.ref D))) s) :
    codeAny (model prog w) A (.call (.builtin "getset_descriptor.__get__") ⟨[.builtin "object.__class__",.ref x,.ref D],[]⟩) R s:=by
  obtain ⟨hp,gs,dr,tt,os⟩:=s
  have T0:=xc_ty (M:=model prog w) I
  have T1:=PySem.W.looks_mroIn (M:=model prog w) X C.mo
  refine codeAny_call_builtin PySem.W.KF.slot_gs.plain PySem.W.KF.entry_gs (PySem.W.KF.slot_gs.check _ _ _ _ _ _ _ _ PySem.W.KF.type_class (PySem.W.KF.args_gs _ _ _) ?_)
  (unfold Builtin.«getset_descriptor.__get__»; unfold descrGet)
  rw [PySem.W.dga_obj]; refine wpAny_bind (wpAny_pure ?_)
  (unfold descrGetter descrCheckInstance; unfold descrNameAndClass isInstance)
  simp only [PySem.W.KF.owner_class]
  repeat lk
  refine ⟨Code.quiet_builtin _ (by decide +kernel),codeAny_builtin PySem.W.KF.entry_class ?_⟩
  (unfold Builtin.«object.__class__»; unfold shownTypeOf)
  repeat lk
  exact hR
theorem xc_find {M : Model} {h : Heap} (X : K.In h) (C : XCls K D) : PySem.W.Looks M h (find (.ref x) (.ref D) "__class__") (.bind (.builtin "getset_descriptor.__get__") (.builtin "object.__class__")):=by
  intro A' Q' E' s' kk qq
  obtain ⟨hp,gs,dr,tt,os⟩:=s'
  have T1:=(PySem.W.looks_findIn (M:=M) X C.cl).keeps kk
  have T2:=(PySem.W.looks_specialIn (M:=M) X C.gg).keeps kk
  have T3:=(PySem.W.looks_takesIn (M:=M) X C.tk).keeps kk
  unfold find
  refine wpAny_bind (T1.at ?_)
  unfold getOf dataDescriptor?
  refine wpAny_bind (T2.at ?_)
  dsimp only
  refine wpAny_bind (wpAny_bind (T3.at ?_))
  rw [if_pos rfl]
  exact wpAny_pure (wpAny_bind (wpAny_rule (wpAny_pure qq)))
theorem xc_attr {Q : Option Value→Shared→Prop} (X : K.In s.heap) (C : XCls K D) (I : IsX x (.ref D) s.heap)
    (h : Q (some (.ref D)) { s with toks:=s.toks + 1 }) : wpAny (model prog w) A (getAttr? (.ref x) "__class__") Q E s:=by
  obtain ⟨hh,g,d,t,os⟩:=s
  have T0:=xc_ty (M:=model prog w) I
  have T1:=PySem.W.looks_findIn (M:=model prog w) X C.ga
  have T2:=PySem.W.looks_findIn (M:=model prog w) X C.gt
  have TI : PySem.W.Looks (model prog w) hh (isInstance (.ref x) (.type "BaseException")) true:=T0.andThen (PySem.W.looks_subIn X C.sb)
  have TF:=xc_find (x:=x) (M:=model prog w) X C
  have hkd : builtinKind "BaseException.__getattribute__" = some .slot:=by decide +kernel
  have hsp : splitId "BaseException.__getattribute__" = some ("BaseException","__getattribute__"):=by decide +kernel
  (unfold getAttr?; unfold getAttrBy? getAttrBy)
  refine wpAny_bind (wpAny_mkText (wpAny_bind (wpAny_attempt (wpAny_holding (wpAny_bind (T0.at (wpAny_bind (T1.at ?_))))))))
  show wpAny _ _ (getAttrByItsOwn (.ref x) _ (.ref D) (.builtin "BaseException.__getattribute__") false false) _ _ _
  unfold getAttrByItsOwn hookBefore
  refine wpAny_bind ?_
  show wpAny _ _ (typeLookup (.ref D) (Str.ofString "__getattr__")) _ _ _
  refine T2.at ?_
  refine wpAny_bind (wpAny_attempt (wpAny_holding ?_))
  show wpAny _ _ (boundAndCalled (.builtin "BaseException.__getattribute__") (.ref x) _) _ _ _
  unfold boundAndCalled
  refine wpAny_bind (wpAny_of_eq (F.attr_ValueError.ga.bind (.ref x)) ?_)
  have har:=F.args_bexc_ga (.ref x) (Value.str "__class__" t)
  refine wpAny_call (codeAny_call_builtin F.attr_ValueError.ga.plain F.entry_bexc_ga ?_)
  simp only [checkBuiltinCall,hkd,hsp]
  refine wpAny_bind (TI.at ?_)
  simp only [Bool.not_true,Bool.false_eq_true,if_false,if_true]
  refine wpAny_of_eq har ?_
  show wpAny _ _ (Builtin.«object.__getattribute__» ⟨[.ref x,.str "__class__" t],[]⟩) _ _ _
  unfold Builtin.«object.__getattribute__»
  refine wpAny_bind (wpAny_pure ?_)
  refine wpAny_bind (wpAny_pure ?_)
  refine wpAny_bind (T0.at ?_)
  refine wpAny_bind (TF.at ?_)
  show wpAny _ _ (holding [.builtin "object.__class__"] (call (.builtin "getset_descriptor.__get__") [.builtin "object.__class__",.ref x,.ref D]) >>= ret) _ _ _
  refine wpAny_bind (wpAny_holding (wpAny_call (xc_get X C I ?_)))
  exact wpAny_pure (PySem.W.handed_on rfl (wpAny_pure h))
theorem kitx_exc (C : XCls K D) : PySem.W.KitX K (.ref x) (.ref D) (IsX x (.ref D)) where
  ty:=fun _ _ _ I=>xc_ty I
  it:=fun M h X _=>by
    obtain ⟨cd,hc⟩:=Option.isSome_iff_exists.mp C.is
    unfold PySem.W.clsIn at hc
    split at hc
    · rename_i ho
      intro A' Q' E' s' kk qq
      unfold isType loadHead
      exact wpAny_bind (wpAny_loadPart (kk _ _ (X _ _ ho)) (wpAny_pure qq))
    · cases hc
  ne:=fun h tp dd its n sl X ht=>by
    obtain ⟨cd,hc⟩:=Option.isSome_iff_exists.mp C.is
    refine Bool.eq_false_iff.mpr fun z=>?_
    have e0 : D=tp:=Value.ref.inj (beq_iff_eq.mp z)
    subst e0
    unfold PySem.W.clsIn at hc
    split at hc
    · rename_i ho
      have z2:=(X _ _ ho).symm.trans ht
      cases z2
    · cases hc
  ca:=fun X I k=>xc_attr X C I k
theorem xc_isi {c : Value} {b : Bool} {Q : Value→Shared→Prop} (X : K.In s.heap) (C : XCls K D) (I : IsX x (.ref D) s.heap) (e : PySem.W.kitOne K (.ref D) c=some b) (h : ∀ tk,Q (.bool b) { s with toks:=tk }) :
    wpAny (model prog w) A (call (.builtin "isinstance") [.ref x,c]) Q E s:=PySem.W.kia_one (kitx_exc C) X I e (fun z=>nomatch z) h
end
end L2
namespace L2
open PySem PySem.Spec PyProof.Rows
theorem exc_obj {K : PySem.W.Frag} {h : Heap} {C : Addr} {bmB : List Value} {newId : String} (X : K.In h) (q : PySem.W.excIn K C bmB newId=true) :
    ∃ bm N nm qn bs hd sn sub ab col dd k0 k1 k2 k3 k5 mN,h.get? C=some (excClassObj nm qn C N bs bm hd sn sub ab col dd k0 k1 k2 k3 k5 newId)∧h.Ns N mN∧mN "__init__" = none∧OwnTail h bmB bm:=by
  unfold PySem.W.excIn at q
  split at q
  · rename_i dd cd sl look
    split at q
    · rename_i C2 bm k0 k1 k2 k3 n k5 hmro hsl
      simp only [Bool.and_eq_true,beq_iff_eq,Bool.not_eq_true'] at q
      obtain ⟨⟨⟨⟨⟨rfl,rfl⟩,hde⟩,htl⟩,hns⟩,hin⟩:=q
      obtain ⟨nm,bs,mro,ns,qn,hd,sn,sub,ab,col,del⟩:=cd
      dsimp only at hmro hde hns hin
      subst hmro hde
      have es : sl = #[k0,k1,k2,k3,some (.builtin n),k5]:=by
        obtain ⟨ls⟩:=sl
        have e1 : ls=[k0,k1,k2,k3,some (.builtin n),k5]:=hsl
        rw [e1]
      subst es
      exact ⟨bm,ns,nm,qn,bs,hd,sn,sub,ab,col,dd,k0,k1,k2,k3,k5,_,X _ _ look,.of_isNs (PySem.W.isNs_of_in X hns),PySem.W.nsMap_none_of_in X hns hin,PySem.W.tail_of_in X htl⟩
    · cases q
  · cases q
section
variable {X : Cx}
def tRaise (C : Addr) (E : XK) (t : TA) : TS:=fun D σ H=>t σ H fun vs H1=>vs.length≤sizeLine∧E (.ref C) none H1
def Makes (X : Cx) (E : XK) : Prop:=∀ (pins : List (Addr×Obj)) (σ : St) (H : Hp) (s : Shared) (h' : Heap) (e : Addr) (cls : Value) (args : List Value),Inv X pins σ H s→Heap.MadeExcOf s.heap h' e cls args→E cls none H→X.xe (.ref e) { s with heap:=h' }
theorem makesE {P : Program} {w : World} {K : PySem.W.Frag} {mg : Str→Option Value} {base : Heap} {N : List Str} {qual : Str} {scope : Scope} {f : Addr} {cd : Value} {A : Around} {outer : List Env} {s₀ : Shared} {H₀ : Hp} {E : XK} :
    Makes (cxOf (CXE P w) P w K mg base N qual scope f cd A outer s₀ H₀ E) E:=fun _ _ _ _ _ _ _ _ I hx hE=>raise_leaves (CX:=CXE P w) I hx hE
theorem ps_raise {x : Str} {C : Addr} {B newId initId : String} {bmB : List Value} {e₀ : Expr} {rest : List Expr} {np cpos pos : Pos} {t : TA} {E : XK} (hg : Gl X x) (hm : X.mg x=some (.ref C)) (hq : PySem.W.excIn X.K C bmB newId=true)
    (FB : ExcBaseFacts B newId initId bmB) (hcalm : X.calm=true) (hxe : Makes X E) (ha : PA X (e₀ :: rest) t) (hd : (x == ("__debug__" : Str))=false:=by decide)
    (he : starEach (e₀ :: rest) X.env=(false,eval e₀ X.env) :: starEach rest X.env:=by rfl) (hpl : (backTo cpos (starEach rest X.env)).any (·.1)=false:=by rfl) :
    PS X (.Raise (some (.Call (.Name x np) (e₀ :: rest) [] cpos)) none pos) (tRaise C E t):=by
  intro pins s σ H D I h
  obtain ⟨bm,N,nm,qn,bs,hdd,sn,sub,ab,col,dd,k0,k1,k2,k3,k5,mN,hC,hN,hni,T⟩:=exc_obj (bmB:=bmB) I.mod.kin hq
  refine wpAny_Raise_call_subT (C:=C) (N:=N) (bm:=bm) (nm:=nm) (q:=qn) (bs:=bs) (hdct:=hdd) (sn:=sn) (sub:=sub) (ab:=ab) (col:=col) (dd:=dd) (k0:=k0) (k1:=k1) (k2:=k2) (k3:=k3) (k5:=k5) FB (mN:=mN) (T.hasType FB.hasBase) (I.ok.hd hcalm)
    (by rw [he]; show (false || (backTo cpos (starEach rest X.env)).any (·.1))=false; rw [hpl]; rfl) hni (ld_glob I hg hm ⟨rfl,?_⟩ hd)
  have h1:=ha cpos pins s σ H _ I h
  rw [he] at h1 ⊢
  refine Calls.evalArgs_plain (thn h1 fun us s1 ⟨vs,H1,I1,r1,q1⟩=>?_)
  exact ⟨rfl,(by rw [← r1.length]; exact q1.1),I1.bk _ _ hC,hN.keeps I1.bk,T.keeps I1.bk,fun h' e hx=>hxe pins σ H1 s1 h' e _ _ I1 hx q1.2⟩
theorem Inv.track {pins : List (Addr×Obj)} {σ : St} {H : Hp} {s : Shared} {a : Addr} {o : HO} (I : Inv X pins σ H s) (hs : X.s₀.heap.get? a=none) (hn : H a=none) (hL : a≠X.env.locals) (hc : ∀ x c,X.env.cells.lookup x=some c→c≠a)
    (hp : ∀ p∈X.pn ++ pins,p.1≠a) (new : ObjOk X.prog X.w (upd H a o) s.heap a o) : Inv X pins σ (upd H a o) s:=by
  have ne : ∀ b ob,X.s₀.heap.get? b=some ob→b≠a:=fun b ob e z=>by rw [z,hs] at e; cases e
  have nt : ∀ b u,H b=some u→b≠a:=fun b u e z=>by rw [z,hn] at e; cases e
  refine ⟨I.ok,I.os,I.bare,⟨I.base.keep,I.base.slot,fun b ob e n hx=>by rw [upd_ne (ne b ob e)]; exact I.base.free b ob e n hx,I.base.there,fun b xs e=>?_,fun b ob xs e=>?_,fun b ps e=>?_⟩,I.loc,I.cell,by rw [upd_ne hL.symm]; exact I.free,fun x c e=>by rw [upd_ne (hc x c e)]; exact I.freeC x c e,fun p hp'=>?_,fun b u e=>?_,I.len⟩
  · have e1:=I.base.tups b xs e
    rw [upd_ne (nt b _ e1)]; exact e1
  · have e1:=I.base.frzs b ob xs e
    rw [upd_ne (nt b _ e1)]; exact e1
  · obtain ⟨more,e1⟩:=I.base.tbls b ps e
    exact ⟨more,by rw [upd_ne (nt b _ e1)]; exact e1⟩
  · obtain ⟨e,n,r⟩:=I.pin p hp'
    exact ⟨e,by rw [upd_ne (hp p hp')]; exact n,r⟩
  · by_cases z : b=a
    · subst z
      rw [upd_same] at e
      cases e
      exact new
    · rw [upd_ne z] at e
      exact (I.hok b u e).stay (fun _ _ _ q=>q) (fun c q=>by rw [upd_ne (nt c _ q)]; exact q) fun c xs q=>by rw [upd_ne (nt c _ q)]; exact q
abbrev Cx.tryCx (X : Cx) (pn : List (Addr×Obj)) (xe : Value→Shared→Prop) : Cx:={ X with pn:=pn,xe:=xe }
abbrev Cx.suite (X : Cx) (e : Addr) : Cx:={ X with A:=X.A.mark (some (.ref e)),calm:=false,xe:=fun _ _=>False }
theorem Cx.Ok.tryCx {pn : List (Addr×Obj)} {xe : Value→Shared→Prop} (ok : X.Ok) : (X.tryCx pn xe).Ok:=
  ⟨ok.mod,ok.kind,ok.glob,ok.blt,ok.above,ok.inj,ok.has,ok.cab,ok.hd,ok.frames,ok.stk,ok.exf,ok.bs,ok.bsz,ok.noex,ok.exfs,ok.funs,ok.frf⟩
theorem Cx.Ok.suite {e : Addr} (ok : X.Ok) : (X.suite e).Ok:=
  ⟨ok.mod,ok.kind,ok.glob,ok.blt,ok.above,ok.inj,ok.has,ok.cab,(fun z=>nomatch z),ok.frames,ok.stk,ok.exf,ok.bs,ok.bsz,ok.noex,ok.exfs,ok.funs,ok.frf⟩
theorem Inv.toTry {pins : List (Addr×Obj)} {σ : St} {H : Hp} {s : Shared} {xe : Value→Shared→Prop} (I : Inv X pins σ H s) : Inv (X.tryCx (X.pn ++ pins) xe) [] σ H s:=
  ⟨I.ok.tryCx,I.os,I.bare,I.base,I.loc,I.cell,I.free,I.freeC,fun p hp=>I.pin p (by rw [List.append_nil] at hp; exact hp),I.hok,I.len⟩
theorem Inv.ofTry {pins : List (Addr×Obj)} {σ : St} {H : Hp} {s : Shared} {xe : Value→Shared→Prop} (ok : X.Ok) (I : Inv (X.tryCx (X.pn ++ pins) xe) [] σ H s) : Inv X pins σ H s:=
  ⟨ok,I.os,I.bare,I.base,I.loc,I.cell,I.free,I.freeC,fun p hp=>I.pin p (by rw [List.append_nil]; exact hp),I.hok,I.len⟩
theorem Inv.ofTry' {pins q : List (Addr×Obj)} {σ : St} {H : Hp} {s : Shared} {xe : Value→Shared→Prop} (ok : X.Ok) (I : Inv (X.tryCx (X.pn ++ pins) xe) q σ H s) : Inv X pins σ H s:=
  ⟨ok,I.os,I.bare,I.base,I.loc,I.cell,I.free,I.freeC,fun p hp=>I.pin p (List.mem_append_left _ hp),I.hok,I.len⟩
theorem Inv.toSuite {pins : List (Addr×Obj)} {σ : St} {H : Hp} {s : Shared} {e : Addr} (I : Inv X pins σ H s) : Inv (X.suite e) pins σ H s:=
  ⟨I.ok.suite,I.os,I.bare,I.base,I.loc,I.cell,I.free,I.freeC,I.pin,I.hok,I.len⟩
theorem Inv.ofSuite {pins : List (Addr×Obj)} {σ : St} {H : Hp} {s : Shared} {e : Addr} (ok : X.Ok) (I : Inv (X.suite e) pins σ H s) : Inv X pins σ H s:=
  ⟨ok,I.os,I.bare,I.base,I.loc,I.cell,I.free,I.freeC,I.pin,I.hok,I.len⟩
theorem SP.ofTry {pins : List (Addr×Obj)} {D : Ends} {f : Flow} {s : Shared} {xe : Value→Shared→Prop} (ok : X.Ok) (h : SP (X.tryCx (X.pn ++ pins) xe) [] D f s) : SP X pins D f s:=by
  cases f with
  | next=>obtain ⟨σ',H',I,q⟩:=h; exact ⟨σ',H',I.ofTry ok,q⟩
  | brk=>obtain ⟨σ',H',I,q⟩:=h; exact ⟨σ',H',I.ofTry ok,q⟩
  | cont=>obtain ⟨σ',H',I,q⟩:=h; exact ⟨σ',H',I.ofTry ok,q⟩
  | ret u=>obtain ⟨v,σ',H',I,r,q⟩:=h; exact ⟨v,σ',H',I.ofTry ok,r,q⟩
theorem Inv.nameGoes {pins : List (Addr×Obj)} {σ : St} {H : Hp} {s : Shared} {i : Nat} {n : Str} {pos : Pos} {M : Model} {A : Around} {E : Value→Shared→Prop} {Q : Unit→Shared→Prop} (I : Inv X pins σ H s) (hN : X.N.Nodup) (hi : X.N[i]? = some n) (hl : X.env.kindOf n=some .local)
    (h : ∀ s',Inv X pins (σ.set i none) H s'→Q () s') : wpAny M A (do bindName X.env n .none; unbindBehindTheSuite X.env n pos) Q E s:=by
  obtain ⟨m,hn,hloc⟩:=id I.loc
  have hcls : (X.env.scope.kind == .class || (X.env.scope.kind == .module && X.env.locals != X.env.globals))=false:=by rw [I.ok.kind]; rfl
  have hiσ : i < σ.length:=by rw [I.len]; exact (List.getElem?_eq_some_iff.mp hi).1
  refine wpAny_nameGoes_keeps hl hn hcls fun h' v hn' hs=>?_
  have neL : ∀ b ob,X.s₀.heap.get? b=some ob→b≠X.env.locals:=fun b ob e=>Nat.ne_of_lt (Nat.lt_of_lt_of_le (Heap.lt_size e) I.ok.above)
  refine h _ ⟨I.ok,I.os,I.bare,⟨fun b o e nn hb hx=>?_,fun b o e nn hb hx=>?_,I.base.free,fun b o e hx=>?_,I.base.tups,I.base.frzs,I.base.tbls⟩,⟨_,hn',fun j y w' e1 e2 e3=>?_⟩,fun y c e=>?_,I.free,I.freeC,fun p hp=>?_,fun b u e=>?_,by simpa using I.len⟩
  · exact (hs.2 b (neL b o e)).trans (I.base.keep b o e nn hb hx)
  · obtain ⟨sl,e1⟩:=I.base.slot b o e nn hb hx
    exact ⟨sl,(hs.2 b (neL b o e)).trans e1⟩
  · obtain ⟨o',e1⟩:=I.base.there b o e hx
    exact ⟨o',(hs.2 b (neL b o e)).trans e1⟩
  · by_cases hj : j=i
    · subst hj
      rw [List.getElem?_set_self hiσ] at e2
      cases e2
    · rw [List.getElem?_set_ne (Ne.symm hj)] at e2
      obtain ⟨u,r,l⟩:=hloc j y w' e1 e2 e3
      refine ⟨u,r,?_⟩
      rcases l with ⟨k,e⟩ | ⟨k,c,e,z⟩
      · refine .inl ⟨k,?_⟩
        have : y≠n:=fun z=>hj (nodup_ix hN e1 (z ▸ hi))
        simp [this,e]
      · exact .inr ⟨k,c,e,z.sameBut hs (I.cne y c e)⟩
  · obtain ⟨w',z⟩:=I.cell y c e
    exact ⟨w',z.sameBut hs (I.cne y c e)⟩
  · obtain ⟨e,nn,ne,nf,d⟩:=I.pin p hp
    exact ⟨(hs.2 p.1 ne).trans e,nn,ne,nf,d⟩
  · refine (I.hok b u e).stay (fun c w' hc q=>(hs.2 c ?_).trans q) (fun _ q=>q) fun _ _ q=>q
    rintro rfl
    have hf:=I.free
    rcases hc with z | z
    · rw [z,e] at hf; cases hf
    · rw [z] at hf; cases hf
end
end L2
namespace L2
open PySem PySem.Spec PyProof.Rows
def clOf (env : Env) : List (Str×NameKind)→List (Str×Addr)→List (Str×Addr)
  | [],cs=>cs
  | (n,k) :: r,cs=>clOf env r (if k == .free then (n,(env.cells.lookup n).getD 0) :: cs else cs)
theorem closureFor_cl {scope : Scope} {env : Env} (h : ∀ y∈scope.names,y.2 = .free→∃ c,env.cells.lookup y.1=some c) : closureFor scope env=pure (clOf env scope.names []):=by
  have all : ∀ (l : List (Str×NameKind)) (cs : List (Str×Addr)),(∀ y∈l,y.2 = .free→∃ c,env.cells.lookup y.1=some c)→
      (forIn l cs fun (x : Str×NameKind) r=>(if (x.2 == NameKind.free)=true then do let a ← cellOf env x.1; pure (ForInStep.yield ((x.1,a) :: r)) else pure (ForInStep.yield r) : Sem (ForInStep (List (Str×Addr)))))=pure (clOf env l cs):=by
    intro l
    induction l with
    | nil=>intro cs _; rfl
    | cons x r ih=>
      intro cs hl
      obtain ⟨n,k⟩:=x
      rw [List.forIn_cons]
      by_cases hk : (k == NameKind.free)=true
      · obtain ⟨c,hc⟩:=hl (n,k) (.head _) (by simpa using hk)
        have e : cellOf env n=pure c:=by unfold cellOf; rw [show env.cells.lookup n=some c from hc]
        simp only [hk,if_true,e,pure_bind]
        rw [ih _ fun y hy=>hl y (.tail _ hy)]
        show _=pure (clOf env r (if k == .free then _ else _))
        rw [if_pos hk,show env.cells.lookup n=some c from hc]
        rfl
      · simp only [hk,Bool.false_eq_true,if_false,pure_bind]
        rw [ih _ fun y hy=>hl y (.tail _ hy)]
        show _=pure (clOf env r (if k == .free then _ else _))
        rw [if_neg hk]
  unfold closureFor
  have:=all scope.names [] h
  simp only [bind_pure] at this ⊢
  exact this
theorem mem_clOf {env : Env} : ∀ (l : List (Str×NameKind)) (cs : List (Str×Addr)) {p : Str×Addr},p∈clOf env l cs→p∈cs∨((p.1,NameKind.free)∈l∧p.2=(env.cells.lookup p.1).getD 0)
  | [],cs,p,h=>.inl h
  | (n,k) :: r,cs,p,h=>by
    unfold clOf at h
    rcases mem_clOf r _ h with z | ⟨z1,z2⟩
    · split at z
      · rename_i hk
        have hk' : k = .free:=by simpa using hk
        rcases List.mem_cons.mp z with rfl | z
        · exact .inr ⟨by rw [hk']; exact .head _,rfl⟩
        · exact .inl z
      · exact .inl z
    · exact .inr ⟨.tail _ z1,z2⟩
theorem clOf_grows {env : Env} : ∀ (l : List (Str×NameKind)) (cs : List (Str×Addr)) {p : Str×Addr},p∈cs→p∈clOf env l cs
  | [],cs,p,h=>h
  | (n,k) :: r,cs,p,h=>by
    unfold clOf
    refine clOf_grows r _ ?_
    split
    · exact .tail _ h
    · exact h
theorem clOf_has {env : Env} : ∀ (l : List (Str×NameKind)) (cs : List (Str×Addr)) {x : Str},(x,NameKind.free)∈l→(x,(env.cells.lookup x).getD 0)∈clOf env l cs
  | (n,k) :: r,cs,x,h=>by
    unfold clOf
    rcases List.mem_cons.mp h with e | h
    · cases e
      refine clOf_grows r _ ?_
      rw [if_pos (by decide)]
      exact .head _
    · exact clOf_has r _ h
theorem lookup_of_mem {α : Type} : ∀ {l : List (Str×α)} {x : Str} {v : α},(x,v)∈l→∃ u,l.lookup x=some u
  | (n,k) :: r,x,v,h=>by
    by_cases e : x=n
    · exact ⟨k,by rw [List.lookup_cons,e]; simp⟩
    · rcases List.mem_cons.mp h with z | z
      · cases z; exact absurd rfl e
      · obtain ⟨u,hu⟩:=lookup_of_mem z
        exact ⟨u,by rw [List.lookup_cons]; rw [show (x == n)=false from by simpa using e]; exact hu⟩
def cxComp (X : Cx) (N' : List Str) (scope : Scope) (C : Addr) (s : Shared) (H : Hp) (fp : List Addr) : Cx where
  prog:=X.prog
  w:=X.w
  K:=X.K
  mg:=X.mg
  base:=X.base
  A:=X.A
  N:=N'
  s₀:=s
  H₀:=H
  env:=compEnvC scope (clOf X.env scope.names []) C X.env
  outer:=X.stack
  stack:=X.stack
  ex:=fp
  fn:=fun _=>false
  calm:=true
  pn:=[]
  xe:=fun _ _=>False
structure CompScope (X : Cx) (N' : List Str) (ix : List (Option Nat)) (scope : Scope) : Prop where
  kind : scope.kind = .function
  nocell : ∀ y∈scope.names,y.2≠.cell
  loc : ∀ y∈scope.names,y.2 = .local→scope.names.lookup y.1=some .local
  nd : N'.Nodup
  len : ix.length=N'.length
  free : ∀ y∈scope.names,y.2 = .free→X.env.kindOf y.1=some .cell
  out : ∀ (k j : Nat) (x : Str),N'[k]? = some x→ix[k]? = some (some j)→X.N[j]? = some x∧(x,NameKind.free)∈scope.names∧(relabel scope X.env).names.lookup x=some .cell
def compSt (ix : List (Option Nat)) (σ : St) : St:=ix.map fun o=>o.bind fun j=>(σ[j]?).join
theorem relabel_back {scope : Scope} {env : Env} {x : Str} {k : NameKind} (hc : ∀ y∈scope.names,y.2≠.cell) (h : (relabel scope env).names.lookup x=some k) (hk : k = .cell∨k = .free) : (x,NameKind.free)∈scope.names:=by
  have m:=PySem.mem_of_lookup h
  unfold relabel at m
  obtain ⟨⟨n,k0⟩,h1,h2⟩:=List.mem_map.mp m
  dsimp only at h2
  split at h2
  · rename_i q
    cases h2
    have : k0 = .free:=by
      simp only [Bool.and_eq_true,beq_iff_eq] at q
      exact q.1.1
    rw [this] at h1
    exact h1
  · cases h2
    rcases hk with rfl | rfl
    · exact absurd rfl (hc _ h1)
    · exact h1
section
variable {X : Cx} {N' : List Str} {ix : List (Option Nat)} {scope : Scope}
theorem cl_cells {pins : List (Addr×Obj)} {σ : St} {H : Hp} {s : Shared} (I : Inv X pins σ H s) (S : CompScope X N' ix scope) {x : Str} {c : Addr} (h : (clOf X.env scope.names []).lookup x=some c) : X.env.cells.lookup x=some c:=by
  rcases mem_clOf _ _ (PySem.mem_of_lookup h) with z | ⟨z1,z2⟩
  · cases z
  · obtain ⟨c',hc⟩:=I.ok.has x (.inl (S.free _ z1 rfl))
    dsimp only at z2
    rw [hc] at z2
    rw [hc,z2]
    rfl
theorem inv_comp {pins : List (Addr×Obj)} {σ : St} {H : Hp} {s : Shared} {h' : Heap} {tk : Nat} {fp : List Addr} (I : Inv X pins σ H s) (hcalm : X.calm=true) (S : CompScope X N' ix scope) (hf : ∀ b∈fp,FpOk X pins H b) (hlt : ∀ b∈fp,b < s.heap.objs.size)
    (hns : h'.Ns s.heap.objs.size (fun _=>none)) (hk : ∀ b o,s.heap.get? b=some o→h'.get? b=some o) : Inv (cxComp X N' scope s.heap.objs.size s H fp) [] (compSt ix σ) H { s with heap:=h',toks:=tk }:=by
  have noL : H s.heap.objs.size=none:=I.hok.fresh (Nat.le_refl _)
  refine ⟨⟨I.ok.mod,S.kind,I.ok.glob,I.ok.blt,Nat.le_refl _,fun x y c h1 h2=>I.ok.inj x y c (cl_cells I S h1) (cl_cells I S h2),fun x hx=>?_,(fun x c z=>nomatch z),fun _=>I.ok.hd hcalm,I.ok.frames,.inl rfl,fun b hb=>⟨Nat.ne_of_lt (hlt b hb),fun x c h=>?_⟩,I.bs,Nat.le_trans I.ok.bsz I.sz,fun b o q hb=>?_,fun b hb=>?_,I.stack,I.stkFree⟩,
    rfl,I.bare,Un.kept hk,⟨_,hns,fun k x v h1 h2 h3=>?_⟩,fun x c h=>?_,noL,fun x c h=>I.freeC x c (cl_cells I S h),(fun p hp=>absurd (show p∈([] : List (Addr×Obj)) from hp) (by simp)),I.hok.kept hk,?_⟩
  · have hx' : (relabel scope X.env).names.lookup x=some .cell∨(relabel scope X.env).names.lookup x=some .free:=hx
    have m : (x,NameKind.free)∈scope.names:=by
      rcases hx' with z | z
      · exact relabel_back S.nocell z (.inl rfl)
      · exact relabel_back S.nocell z (.inr rfl)
    exact lookup_of_mem (clOf_has (env:=X.env) scope.names [] m)
  · exact (hf b hb).2.2.2.2.1 x c (cl_cells I S h)
  · rcases (hf b hb).2.2.2.1 with z | z
    · exact I.ok.noex b o q z
    · exact absurd (Nat.lt_of_lt_of_le (Heap.lt_size (I.ok.bs b o q).1) z) (Nat.lt_irrefl _)
  · intro z
    rcases List.mem_cons.mp (I.stkSub b z) with e | e
    · exact (hf b hb).2.1 e
    · exact (hf b hb).2.2.1 e
  · have e2 : (compSt ix σ)[k]? = some (some v):=h2
    unfold compSt at e2
    rw [List.getElem?_map] at e2
    cases e3 : ix[k]? with
    | none=>rw [e3] at e2; cases e2
    | some o=>
      rw [e3] at e2
      cases o with
      | none=>cases e2
      | some j=>
        obtain ⟨n1,n2,n3⟩:=S.out k j x h1 e3
        have e4 : σ[j]? = some (some v):=by
          have : (σ[j]?).join=some v:=Option.some.inj e2
          cases e5 : σ[j]? with
          | none=>rw [e5] at this; cases this
          | some w=>rw [e5] at this; exact congrArg some this
        have kc:=S.free _ n2 rfl
        obtain ⟨m,hn,hl⟩:=I.loc
        obtain ⟨u,r,l⟩:=hl j x v n1 e4 (.inr (.inl kc))
        refine ⟨u,r,?_⟩
        rcases l with ⟨z,_⟩ | ⟨_,c,hc,hcell⟩
        · dsimp only at kc
          rw [kc] at z; cases z
        · obtain ⟨c',hc'⟩:=lookup_of_mem (clOf_has (env:=X.env) scope.names [] n2)
          have ec:=cl_cells I S hc'
          rw [hc] at ec
          cases ec
          exact .inr ⟨.inl n3,c,hc',hcell.keeps hk⟩
  · obtain ⟨v,q⟩:=I.cell x c (cl_cells I S h)
    exact ⟨v,q.keeps hk⟩
  · unfold compSt
    rw [List.length_map]
    exact S.len
end
end L2
namespace L2
open PySem PySem.Spec PyProof.Rows
def PIfs (X : Cx) (ifs : List Expr) (t : TT) : Prop:=
  ∀ (pins : List (Addr×Obj)) (s : Shared) (σ : St) (H : Hp) (Q : Bool→Hp→Prop),Inv X pins σ H s→t σ H Q→
    wpAny (model X.prog X.w) X.A (forIn ifs true fun c r=>if r=true then do let ok ← isTrue c X.env (eval c X.env); pure (ForInStep.yield ok) else pure (ForInStep.yield r)) (TP X pins σ Q) X.xe s
def tIf0 : TT:=fun _ H Q=>Q true H
theorem pifs_nil {X : Cx} : PIfs X [] tIf0:=fun pins s σ H Q I h=>wpAny_pure ⟨H,I,h⟩
theorem pifs_one {X : Cx} {c : Expr} {t : TT} (h : PT X c t) : PIfs X [c] t:=fun pins s σ H Q I q=>wpAny_tests_one (h pins s σ H Q I q)
def tComp (ix : List (Option Nat)) (wi : TI) (g : TG) (ti : TT) (te : TE) : TE:=fun σ H Q=>wi σ H fun J H1=>∀ D,H1 D=none→∃ W : Nat→Nat→Hp→Prop,(∃ m,W 0 m (upd H1 D (.lst [])))∧∀ i m H,W i m H→
  (J.stop i H∧Q (.ref D) H)∨(J.go i H∧∀ x H',J.yld i H x H'→g x (compSt ix σ) H' fun σ2 H2=>(∀ (k : Nat) v,(compSt ix σ)[k]? = some (some v)→σ2[k]? = some (some v))∧ti σ2 H2 fun b H3=>
    if b=true then te σ2 H3 fun y H4=>∃ zs,H4 D=some (.lst zs)∧zs.length < sizeLine∧∃ m',m' < m∧W (i + 1) m' (upd H4 D (.lst (zs ++ [y]))) else ∃ m',m' < m∧W (i + 1) m' H3)
section
variable {X : Cx} {N' : List Str} {ix : List (Option Nat)} {scope : Scope} {elt tg iter : Expr} {ifs : List Expr} {pos : Pos} {wi : TI} {g : TG} {ti : TT} {te : TE}
def CompEnd (X : Cx) (pins : List (Addr×Obj)) (σ : St) (Q : VK) (acc : Value) (C : Addr) (r : Result) (s' : Shared) : Prop:=
  ∃ D H',acc = .ref D∧(∃ f,r = .ok f)∧Inv X pins σ H' s'∧FpOk X pins H' C∧(∃ m,s'.heap.Ns C m)∧Q (.ref D) H'
theorem comp_loop {X' : Cx} {σ₀ : St} {H : Hp} {s : Shared} {Q : VK} {it D : Addr} {fp : List Addr} {tn : Nat→Heap→Prop} {J : It} {W : Nat→Nat→Hp→Prop} {m0 : Nat} (I : Inv X' [] σ₀ H s) (hcalm : X'.calm=true) (hxe : X'.xe=fun _ _=>False)
    (T : Turn X'.prog X'.w X'.K tg J fp it tn) (st : tn 0 s.heap) (hf : ∀ b∈fp,FpOk X' [] H b) (hg : PG X' tg g) (hi : PIfs X' ifs ti) (he : PE X' elt te) (w0 : W 0 m0 H)
    (turn : ∀ i m H,W i m H→(J.stop i H∧Q (.ref D) H)∨(J.go i H∧∀ x H',J.yld i H x H'→g x σ₀ H' fun σ2 H2=>(∀ (k : Nat) v,σ₀[k]? = some (some v)→σ2[k]? = some (some v))∧ti σ2 H2 fun b H3=>
        if b=true then te σ2 H3 fun y H4=>∃ zs,H4 D=some (.lst zs)∧zs.length < sizeLine∧∃ m',m' < m∧W (i + 1) m' (upd H4 D (.lst (zs ++ [y]))) else ∃ m',m' < m∧W (i + 1) m' H3)) :
    codeAny (model X'.prog X'.w) X'.A (.compStart (.ListComp elt [⟨tg,iter,ifs,0⟩] scope pos) 0 (.ref it) (.ref D) X'.env) (fun r s'=>(∃ f,r = .ok f)∧∃ H',Inv X' [] σ₀ H' s'∧Q (.ref D) H') s:=by
  have stat : ∀ {H' : Hp},(∀ b∈fp,H' b=none)→∀ b∈fp,FpOk X' [] H' b:=fun hn b hb=>⟨hn b hb,(hf b hb).2⟩
  have loop : codeAny (model X'.prog X'.w) X'.A (.compLoop (.ListComp elt [⟨tg,iter,ifs,0⟩] scope pos) 0 (.ref it) (.ref D) X'.env) (fun r s'=>(∃ f,r = .ok f)∧∃ H',Inv X' [] σ₀ H' s'∧Q (.ref D) H') s:=by
    refine codeAny_loop rfl (fun n s'=>∃ i H',Inv X' [] σ₀ H' s'∧tn i s'.heap∧(∀ b∈fp,H' b=none)∧W i n H') ?_ m0 ⟨0,H,I,st,fun b hb=>(hf b hb).1,w0⟩
    rintro n s1 ⟨i,H1,I1,st1,fr1,w1⟩
    show wpAny _ X'.A ((compTurn (.ListComp elt [⟨tg,iter,ifs,0⟩] scope pos) 0 (.ref it) (.ref D) X'.env).onRaise (fun x=>do noteFrame x X'.env; theTreesLotGoes x)) _ _ s1
    refine wpAny_noted ?_
    have noE : ∀ {α : Type} {t : Sem α} {P : α→Shared→Prop} {F : Value→Shared→Prop} {s : Shared},wpAny (model X'.prog X'.w) X'.A t P X'.xe s→wpAny (model X'.prog X'.w) X'.A t P F s:=fun h=>wpAny_mono h (fun _ _ x=>x) fun e s' x=>by rw [hxe] at x; exact x.elim
    rw [compTurn_list]
    refine wpAny_bind (wpAny_standAt (wpAny_bind ?_))
    rcases turn i n H1 w1 with ⟨stop,qn⟩ | ⟨go,step⟩
    · refine thn (T.done X' rfl rfl rfl hcalm i [] s1 σ₀ H1 _ I1 (stat fr1) st1 stop) fun r s2 ⟨hr,I2⟩=>?_
      subst hr
      exact wpAny_pure ⟨⟨_,rfl⟩,H1,I2,qn⟩
    · refine thn (T.item X' rfl rfl rfl hcalm i [] s1 σ₀ H1 _ I1 (stat fr1) st1 go) fun r s2 ⟨u,hr,h2⟩=>?_
      subst hr
      refine wpAny_bind (thn h2 fun _ s3 ⟨x,H3,I3,r3,y3,st3,fr3⟩=>?_)
      have I3':=I3.pinned (stat fr3) (T.obj _ _ st3)
      refine wpAny_bind (noE (thn (hg _ s3 σ₀ H3 x u _ I3' r3 (step x H3 y3)) fun _ s4 ⟨σ4,H4,I4,hk4,q4⟩=>?_))
      refine wpAny_bind (noE (thn (hi _ s4 σ4 H4 _ I4 q4) fun ok s5 ⟨H5,I5,q5⟩=>?_))
      have again' : ∀ {s7 : Shared} {H7 : Hp} {m' : Nat},Inv X' ([] ++ pinsAt fp s3.heap) σ4 H7 s7→m' < n→W (i + 1) m' H7→∃ m,m < n∧∃ i H',Inv X' [] σ₀ H' s7∧tn i s7.heap∧(∀ b∈fp,H' b=none)∧W i m H':=fun {s7 H7 m'} I7 hm w7=>by
        refine ⟨m',hm,i + 1,H7,I7.unpinned.weak (by rw [I3.len,I7.len]) hk4,T.keep _ _ _ st3 fun b hb o e=>(I7.pin (b,o) (List.mem_append_right _ (List.mem_append_right _ (mem_pinsAt hb e)))).1,fun b hb=>?_,w7⟩
        obtain ⟨o,e,d⟩:=T.obj _ _ st3 b hb
        exact (I7.pin (b,o) (List.mem_append_right _ (List.mem_append_right _ (mem_pinsAt hb e)))).2.1
      cases ok with
      | false=>
        obtain ⟨m',hm,w7⟩:=q5
        exact wpAny_pure ⟨rfl,again' I5 hm w7⟩
      | true=>
        refine wpAny_bind (wpAny_bind (noE (thn (he _ s5 σ4 H5 _ I5 q5) fun y s6 ⟨yv,H6,I6,r6,zs,hD,hz,m',hm,w7⟩=>?_)))
        refine wpAny_bind (noE (thn (mt_append (X:=X') _ s6 σ4 H6 (.ref D) [yv] (.ref D) [y] (fun v H7=>H7=upd H6 D (.lst (zs ++ [yv]))) I6 rfl (.cons r6 .nil) ⟨D,zs,yv,rfl,rfl,hD,hz,rfl⟩) fun v s7 ⟨vv,H7,I7,_,e7⟩=>?_))
        subst e7
        exact wpAny_pure (wpAny_pure ⟨rfl,again' I7 hm w7⟩)
  refine codeAny_compStart_list loop (T.self _ 0 s _ _ st loop)
theorem comp_block {pins : List (Addr×Obj)} {σ : St} {H : Hp} {s : Shared} {Q : VK} {it : Addr} {fp : List Addr} {tn : Nat→Heap→Prop} {J : It} {E : Value→Shared→Prop} (I : Inv X pins σ H s) (hcalm : X.calm=true) (S : CompScope X N' ix scope)
    (T : Turn X.prog X.w X.K tg J fp it tn) (st : tn 0 s.heap) (hf : ∀ b∈fp,FpOk X pins H b)
    (hg : ∀ C s H fp,PG (cxComp X N' scope C s H fp) tg g) (hi : ∀ C s H fp,PIfs (cxComp X N' scope C s H fp) ifs ti) (he : ∀ C s H fp,PE (cxComp X N' scope C s H fp) elt te)
    (h : ∀ D,H D=none→∃ W : Nat→Nat→Hp→Prop,(∃ m,W 0 m (upd H D (.lst [])))∧∀ i m H,W i m H→
      (J.stop i H∧Q (.ref D) H)∨(J.go i H∧∀ x H',J.yld i H x H'→g x (compSt ix σ) H' fun σ2 H2=>(∀ (k : Nat) v,(compSt ix σ)[k]? = some (some v)→σ2[k]? = some (some v))∧ti σ2 H2 fun b H3=>
        if b=true then te σ2 H3 fun y H4=>∃ zs,H4 D=some (.lst zs)∧zs.length < sizeLine∧∃ m',m' < m∧W (i + 1) m' (upd H4 D (.lst (zs ++ [y]))) else ∃ m',m' < m∧W (i + 1) m' H3)) :
    wpAny (model X.prog X.w) X.A (newList []) (fun acc s3=>wpAny (model X.prog X.w) X.A (newFunctionEnv scope X.env.globals (clOf X.env scope.names []) [] X.env.qual none .none (some X.env)) (fun cenv s4=>
      codeAny (model X.prog X.w) X.A (.compStart (.ListComp elt [⟨tg,iter,ifs,0⟩] scope pos) 0 (.ref it) acc { cenv with scope:=relabel scope X.env }) (CompEnd X pins σ Q acc cenv.locals) s4) E s3) E s:=by
  refine wpAny_newList ?_
  have fresh0 : H s.heap.objs.size=none:=I.hok.fresh (Nat.le_refl _)
  have I3 : Inv X pins σ (upd H s.heap.objs.size (.lst [])) { s with heap:=s.heap.push { cls:=.type "list",data:=.seq ([] : List Value).toArray } } :=
    I.laid (t':=s.toks) (fun b u e=>Heap.get?_push_of_some _ e) (Nat.le_refl _) ⟨by show 0≤sizeLine; exact Nat.zero_le _,[],0,.nil,Heap.get?_push_size _ rfl⟩
  obtain ⟨W,⟨m0,w0⟩,turn⟩:=h s.heap.objs.size fresh0
  generalize hD : s.heap.objs.size=D at *
  have lt0 : ∀ b∈fp,b < s.heap.objs.size:=fun b hb=>by obtain ⟨o,e,_⟩:=T.obj 0 _ st b hb; exact Heap.lt_size e
  have hf3 : ∀ b∈fp,FpOk X pins (upd H D (.lst [])) b:=fun b hb=>by
    have nb : b≠D:=by rw [← hD]; exact Nat.ne_of_lt (lt0 b hb)
    obtain ⟨f0,fr⟩:=hf b hb
    exact ⟨by rw [upd_ne nb]; exact f0,fr⟩
  have st3 : tn 0 (s.heap.push { cls:=.type "list",data:=.seq ([] : List Value).toArray }):=T.keep _ _ _ st fun b hb o e=>Heap.get?_push_of_some _ e
  revert I3 st3
  generalize (s.heap.push { cls:=.type "list",data:=.seq ([] : List Value).toArray })=h3
  intro I3 st3
  have lt3 : ∀ b∈fp,b < h3.objs.size:=fun b hb=>by obtain ⟨o,e,_⟩:=T.obj 0 _ st3 b hb; exact Heap.lt_size e
  refine wpAny_newFunctionEnv S.nocell (fun x hx=>nomatch hx) (fun h4 hns hsb=>?_) S.kind
  have k4 : ∀ b o,h3.get? b=some o→h4.get? b=some o:=fun b o e=>(hsb.2 b (Nat.ne_of_lt (Heap.lt_size e))).trans (Heap.get?_push_of_some _ e)
  have J4 : Inv (cxComp X N' scope h3.objs.size { s with heap:=h3 } (upd H D (.lst [])) fp) [] (compSt ix σ) (upd H D (.lst [])) { s with heap:=h4,toks:=s.toks + ([] : List (Str×Value)).length }:=
    inv_comp (s:={ s with heap:=h3 }) (tk:=s.toks + ([] : List (Str×Value)).length) I3 hcalm S hf3 lt3 hns k4
  have st4 : tn 0 ({ s with heap:=h4,toks:=s.toks + ([] : List (Str×Value)).length } : Shared).heap:=T.keep _ _ _ st3 fun b hb o e=>k4 b o e
  have fr4 : ∀ b∈fp,upd H D (.lst []) b=none:=fun b hb=>(hf3 b hb).1
  revert J4 st4
  generalize ({ s with heap:=h4,toks:=s.toks + ([] : List (Str×Value)).length } : Shared)=s4
  intro J4 st4
  have hf4 : ∀ b∈fp,FpOk (cxComp X N' scope h3.objs.size { s with heap:=h3 } (upd H D (.lst [])) fp) [] (upd H D (.lst [])) b:=fun b hb=>
    ⟨fr4 b hb,Nat.ne_of_lt (lt3 b hb),J4.ok.exfs b hb,.inl hb,fun x c e=>(J4.ok.exf b hb).2 x c e,fun p hp=>nomatch hp⟩
  refine codeAny_mono (comp_loop (X':=cxComp X N' scope h3.objs.size { s with heap:=h3 } (upd H D (.lst [])) fp) (Q:=Q) (D:=D) J4 rfl rfl T st4 hf4 (hg _ _ _ _) (hi _ _ _ _) (he _ _ _ _) w0 turn) fun r s' ⟨hr,H',J',q'⟩=>?_
  refine ⟨D,H',rfl,hr,I3.call' J'.os J'.base J'.hok J'.bare fun b hb=>?_,?_,?_,q'⟩
  · obtain ⟨_,f1,_,f3,f4,f5⟩:=hf3 b hb
    exact ⟨f3,f1,f4,f5⟩
  · exact I3.fpOk (H':=H') (Nat.le_refl _) J'.free
  · obtain ⟨m,hn,_⟩:=J'.loc
    exact ⟨m,hn⟩
end
end L2
namespace L2
open PySem PySem.Spec PyProof.Rows
section
variable {X : Cx} {N' : List Str} {ix : List (Option Nat)} {scope : Scope} {elt tg iter : Expr} {ifs : List Expr} {pos : Pos} {wi : TI} {g : TG} {ti : TT} {te : TE}
theorem comp_closure {pins : List (Addr×Obj)} {σ : St} {H : Hp} {s : Shared} (I : Inv X pins σ H s) (S : CompScope X N' ix scope) : closureFor scope X.env=pure (clOf X.env scope.names []):=
  closureFor_cl fun y hy e=>I.ok.has y.1 (.inl (S.free y hy e))
theorem pe_comp (hcalm : X.calm=true) (S : CompScope X N' ix scope) (hit : PI X tg iter wi)
    (hg : ∀ C s H fp,PG (cxComp X N' scope C s H fp) tg g) (hi : ∀ C s H fp,PIfs (cxComp X N' scope C s H fp) ifs ti) (he : ∀ C s H fp,PE (cxComp X N' scope C s H fp) elt te)
    (hs : ∀ x,foldedSetIterable iter X.env x=pure x:=by intro _; rfl) : PE X (.ListComp elt [⟨tg,iter,ifs,0⟩] scope pos) (tComp ix wi g ti te):=by
  intro pins s σ H Q I h
  rw [eval_ListComp]
  refine wpAny_comprehension_free (use:=none) rfl hs (comp_closure I S) S.kind S.loc (thn (hit pins s σ H _ I h) fun v s1 h1=>thn h1 fun itv s2 h2=>?_)
  obtain ⟨it,fp,tn,J,H2,rfl,I2,T,st2,f2,q2⟩:=h2
  refine thn (comp_block (E:=X.xe) (elt:=elt) (iter:=iter) (pos:=pos) I2 hcalm S T st2 f2 hg hi he q2) fun acc s3 h3=>thn h3 fun cenv s4 h4=>codeAny_mono h4 fun r s' hr=>?_
  obtain ⟨D,H',rfl,⟨f,rfl⟩,I',⟨g0,g1,_,g3,g4,g5⟩,⟨m,hm⟩,q'⟩:=hr
  exact ⟨m,hm,fun h' hsb=>⟨.ref D,H',I'.turned (t':=s'.toks) (fun b o hb e=>(hsb.2 b hb).trans e) g0 g1 g3 g4 g5,rfl,q'⟩⟩
theorem ps_setComp {i : Nat} {y : Str} {py spos : Pos} (hN : X.N.Nodup) (hy : X.N[i]? = some y) (hly : Loc X.env.scope y) (hcalm : X.calm=true) (S : CompScope X N' ix scope) (hit : PI X tg iter wi)
    (hg : ∀ C s H fp,PG (cxComp X N' scope C s H fp) tg g) (hi : ∀ C s H fp,PIfs (cxComp X N' scope C s H fp) ifs ti) (he : ∀ C s H fp,PE (cxComp X N' scope C s H fp) elt te)
    (hsw : swapsWith (.ListComp elt [⟨tg,iter,ifs,0⟩] scope pos) (some (.Name y py)) spos.line X.env=pure true:=by rfl) (hs : ∀ x,foldedSetIterable iter X.env x=pure x:=by intro _; rfl)
    (hf : X.fn y=true∨X.env.scope.names.lookup y=some .local:=by first | exact .inl rfl | exact .inr rfl | assumption) :
    PS X (.Assign [.Name y py] (.ListComp elt [⟨tg,iter,ifs,0⟩] scope pos) spos) (tAsg (tComp ix wi g ti te) (gName i)):=by
  intro pins s σ H D I h
  rw [exec_Assign_Name_used _ _ _ _ hsw]
  refine wpAny_bind (wpAny_standAt (wpAny_bind ?_))
  show wpAny _ X.A (do let _ ← comprehension (.ListComp elt [⟨tg,iter,ifs,0⟩] scope pos) scope X.env _ (newList []) false (eval iter X.env) (some (assign (.Name y py) X.env))) _ _ s
  refine wpAny_bind (thn (wpAny_comprehension_free (use:=some (assign (.Name y py) X.env)) (Q:=fun _ s'=>SP X pins D .next s') rfl hs (comp_closure I S) S.kind S.loc (thn (hit pins s σ H _ I h) fun v s1 h1=>thn h1 fun itv s2 h2=>?_)) fun _ s' hq=>wpAny_pure (wpAny_pure hq))
  obtain ⟨it,fp,tn,J,H2,rfl,I2,T,st2,f2,q2⟩:=h2
  refine thn (comp_block (E:=X.xe) (Q:=fun x H1=>gName i x σ H1 D.nx) (elt:=elt) (iter:=iter) (pos:=pos) I2 hcalm S T st2 f2 hg hi he q2) fun acc s3 h3=>thn h3 fun cenv s4 h4=>codeAny_mono h4 fun r s' hr=>?_
  obtain ⟨A,H',rfl,⟨f,rfl⟩,I',⟨g0,g1,g2,g3,g4,g5⟩,⟨m,hm⟩,q'⟩:=hr
  show wpAny _ X.A (assign (.Name y py) X.env (.ref A)) _ _ _
  refine wpAny_assign_Name (store_ok2 I' hN hy hly (v:=.ref A) rfl (fun s5 I5 ⟨a,hsb,ha⟩=>?_) hf)
  have na : cenv.locals≠a:=by
    rcases ha with z | z
    · rw [z]; exact g1
    · exact (g4 y a z).symm
  exact ⟨m,hm.sameBut hsb na,fun h' hsb'=>⟨_,H',I5.turned (t':=s5.toks) (fun b o hb e=>(hsb'.2 b hb).trans e) g0 g1 g3 g4 g5,q'⟩⟩
end
end L2
namespace L2
open PySem PySem.Spec PyProof.Rows PySem.Builtin.SmallTypes
section
variable {prog : Program} {w : World} {A : Around} {E : Value→Shared→Prop} {s : Shared}
variable {z TI TO i1 i2 l1 l2 : Addr} {b1 b2 : Bool} {k1 k2 : Nat} {xs ys : Array Value} {x y a b : Value}
end
end L2
namespace L2
open PySem PySem.Spec PyProof.Rows PySem.Builtin.SmallTypes
section
variable {prog : Program} {w : World} {A : Around} {E : Value→Shared→Prop} {s : Shared}
variable {z TI TO i1 i2 l1 l2 : Addr} {b1 b2 : Bool} {k1 k2 : Nat} {xs ys : Array Value} {x y a b : Value}
end
end L2
namespace L2
open PySem PySem.Spec PyProof.Rows
section
variable {X : Cx} {pins : List (Addr×Obj)} {σ : St} {H : Hp} {s : Shared}
end
section
variable {X : Cx} {es : List Expr} {x1 : Nat} {tp : Pos}
end
end L2
namespace L2
open PySem PySem.Spec PyProof.Rows
section
variable {X : Cx}
theorem count_eqU {x : V} : ∀ {xs : List V} {us : List Value},Vals xs us→xs.all flatV=true→us.countP (eqU x)=xs.countP fun y=>eqV y x
  | _,_,.nil,_=>rfl
  | y :: xs,u :: us,.cons r t,f=>by
    rw [List.all_cons,Bool.and_eq_true] at f
    rw [List.countP_cons,List.countP_cons,eqU_of r f.1,count_eqU t f.2]
def rCount : V→List V→Hp→VK→Prop:=fun x vs H Q=>∃ l xs y,x = .ref l∧vs=[y]∧H l=some (.lst xs)∧flatV y=true∧xs.all flatV=true∧Q (.int ((xs.countP fun z=>eqV z y : Nat) : Int)) H
theorem mt_count : MtM X "list.count" rCount:=by
  intro pins s σ H x vs v us Q I rx rv h
  obtain ⟨l,xs,y,rfl,rfl,hH,fy,fs,q⟩:=h
  cases rx
  obtain ⟨u,rfl,ru⟩:=rv.one
  obtain ⟨z,its,n,r,hl,e⟩:=I.lstM hH
  refine call_meets F.slot_list_count ⟨_,e,rfl⟩ F.entry_list_count (F.args_list_count_2 _ _) (SeqAt.list_countAt l its.toArray n none #[] u (eqU y)) ⟨e,fun w hw=>mem_eqAt ru fy r fs w (by simpa using hw),?_⟩
  refine ⟨.int _,H,I.tok _,⟨_,rfl⟩,?_⟩
  rw [show its.toArray.toList=its by simp,count_eqU r fs]
  exact q
def rIndex : V→List V→Hp→VK→Prop:=fun x vs H Q=>∃ l xs y j,x = .ref l∧vs=[y]∧H l=some (.lst xs)∧flatV y=true∧xs.all flatV=true∧(∃ z,xs[j]? = some z∧eqV z y=true)∧(∀ m z,m < j→xs[m]? = some z→eqV z y=false)∧Q (.int (j : Nat)) H
theorem mt_index : MtM X "list.index" rIndex:=by
  intro pins s σ H x vs v us Q I rx rv h
  obtain ⟨l,xs,y,j,rfl,rfl,hH,fy,fs,⟨zj,ej,hj⟩,hno,q⟩:=h
  cases rx
  obtain ⟨u,rfl,ru⟩:=rv.one
  obtain ⟨z,its,n,r,hl,e⟩:=I.lstM hH
  have fl : ∀ (m : Nat) w,xs[m]? = some w→flatV w=true:=fun m w em=>List.all_eq_true.mp fs w (List.mem_of_getElem? em)
  obtain ⟨uj,euj,ruj⟩:=r.get ej
  obtain ⟨hlt,eget⟩:=List.getElem?_eq_some_iff.mp euj
  have hs63 : (sizeLine : Nat) < 2 ^ 62:=by decide
  refine call_meets F.slot_list_index ⟨_,e,rfl⟩ F.entry_list_index (F.args_list_index_2 _ _)
    (SeqAt.list_indexAt l its.toArray n none #[] u (eqU y) j (by simpa using hlt) (by omega) ?_ ?_) ⟨e,fun w hw=>mem_eqAt ru fy r fs w (by simpa using hw),⟨.int _,H,I.tok _,⟨_,rfl⟩,q⟩⟩
  · show eqU y (its.toArray[j]'(by simpa using hlt))=true
    rw [List.getElem_toArray,eget,eqU_of ruj (fl j zj ej)]
    exact hj
  · intro m hm hmj
    have hm' : m < xs.length:=by rw [hl]; simpa using hm
    have em : xs[m]? = some xs[m]:=List.getElem?_eq_getElem hm'
    obtain ⟨um,eum,rum⟩:=r.get em
    obtain ⟨hlt',eget'⟩:=List.getElem?_eq_some_iff.mp eum
    rw [List.getElem_toArray,eget',eqU_of rum (fl m _ em)]
    exact hno m _ hmj em
def CDivL (i j : Int) : Prop:=0 < j∧j < 18446744073709551616
theorem op_fdivL : OpR X (binaryOp .FloorDiv) (rI CDivL fun i j=>.int (i / j)):=opI fun i j _ _ _ _ _ hc q=>by
  have hj : j.natAbs.log2 < 9000:=by
    have h0 : j.natAbs≠0:=by have:=hc.1; omega
    have h1 : j.natAbs < 2 ^ 64:=by
      have h2:=hc.1
      have h3 : j < 2 ^ 64:=hc.2
      omega
    have:=(Nat.log2_lt h0).mpr h1
    omega
  have e : i / j=i.fdiv j:=(Int.fdiv_eq_ediv_of_nonneg i (Int.le_of_lt hc.1)).symm
  rw [e] at q
  exact floordiv_int (by have:=hc.1; omega) q (.inl (PyProof.noPylong_of_log2 hj))
def clsV : V→Option Value
  | .ty n=>some (.type n)
  | .ref a=>some (.ref a)
  | _=>none
theorem clsV_rel {c : V} {u w : Value} (r : RelV c u) (h : clsV c=some w) : u=w:=by
  cases c with
  | ty n=>cases h; exact r
  | ref a=>cases h; exact r
  | _=>cases h
def rIsX (K : PySem.W.Frag) : List V→Hp→VK→Prop:=fun xs H Q=>∃ a c D w b,xs=[.ref a,c]∧clsV c=some w∧H a=some (.ext (IsX a (.ref D)))∧XCls K D∧PySem.W.kitOne K (.ref D) w=some b∧Q (.bl b) H
theorem call_isX : CallR X (.builtin "isinstance") (rIsX X.K):=by
  intro pins s σ H xs us Q I r h
  obtain ⟨a,c,D,w,b,rfl,hw,hH,hx,e,q⟩:=h
  obtain ⟨u,v,rfl,ru,rv⟩:=r.two
  rw [clsV_rel rv hw]
  cases ru
  obtain ⟨p,_,_⟩:=I.hok a _ hH
  exact xc_isi I.kIn hx p e fun tk=>⟨.bl b,H,I.tok tk,rfl,q⟩
end
end L2
namespace L2
open PySem PySem.Spec PyProof.Rows
section
variable {X : Cx} {pins : List (Addr×Obj)} {σ : St} {H : Hp} {s : Shared}
end
theorem same_new {H : Hp} {p : Addr} (h : H p=none) (o : HO) : Same H (upd H p o):=fun b u q=>by rw [upd_ne (ne_of_none q h)]; exact q
def plainE : Expr→Bool
  | .Starred ..=>false
  | _=>true
theorem star_plain {e : Expr} {es : List Expr} {env : Env} (h : plainE e=true) : starEach (e :: es) env=(false,eval e env) :: starEach es env:=by
  cases e <;> first | rfl | cases h
theorem pa_c {X : Cx} {e : Expr} {es : List Expr} {te : TE} {t : TA} (ha : PE X e te) (hr : PA X es t) (hn : plainE e=true:=by rfl) : PA X (e :: es) (tCons te t):=pa_cons ha hr (star_plain hn)
end L2
namespace L2
open PySem PySem.Spec PyProof.Rows
inductive EqB (K : PySem.W.Frag) (H : Hp) : Nat→V→V→Bool→Prop
  | flat {n : Nat} {x y : V} (hx : flatV x=true) (hy : flatV y=true) : EqB K H n x y (eqV x y)
  | same {n : Nat} {p : Addr} : EqB K H n (.ref p) (.ref p) true
  | tup {n : Nat} {a b : Addr} {xs ys : List V} (e : Nat→Bool) (hn : a≠b) (h1 : SqT K H a xs) (h2 : SqT K H b ys) (he : ∀ j x y,xs[j]? = some x→ys[j]? = some y→EqB K H n x y (e j)) : EqB K H (n + 1) (.ref a) (.ref b) ((List.range (min xs.length ys.length)).all e && xs.length == ys.length)
  | lst {n : Nat} {a b : Addr} {xs ys : List V} (e : Nat→Bool) (hn : a≠b) (hl : xs.length=ys.length) (h1 : SqL K H a xs) (h2 : SqL K H b ys) (he : ∀ j x y,xs[j]? = some x→ys[j]? = some y→EqB K H n x y (e j)) : EqB K H (n + 1) (.ref a) (.ref b) ((List.range xs.length).all e)
  | lsn {n : Nat} {a b : Addr} {xs ys : List V} (hl : xs.length≠ys.length) (h1 : SqL K H a xs) (h2 : SqL K H b ys) : EqB K H (n + 1) (.ref a) (.ref b) false
theorem in1_units {A : Around} : A.in1.units=A.units + 1:=rfl
section
variable {X : Cx} {pins : List (Addr×Obj)} {σ : St} {H : Hp} {s : Shared}
theorem items_eqAt {A : Around} {n : Nat} {xs ys : List V} {us vs : List Value} {e : Nat→Bool} (rx : Vals xs us) (ry : Vals ys vs) (h : ∀ j x y u v,xs[j]? = some x→ys[j]? = some y→RelV x u→RelV y v→SeqAt.EqAt A s u v (e j)) :
    ∀ j (h1 : j < us.toArray.size) (h2 : j < vs.toArray.size),SeqAt.EqAt A s us.toArray[j] vs.toArray[j] (e j):=fun j h1 h2=>by
  have l1:=rx.length
  have l2:=ry.length
  have g1 : j < xs.length:=by simp at h1; omega
  have g2 : j < ys.length:=by simp at h2; omega
  obtain ⟨u,eu,ru⟩:=rx.get (List.getElem?_eq_getElem g1)
  obtain ⟨v,ev,rv⟩:=ry.get (List.getElem?_eq_getElem g2)
  have e1 : us.toArray[j]=u:=by
    have:=List.getElem?_eq_some_iff.mp eu
    obtain ⟨_,e⟩:=this
    simpa using e
  have e2 : vs.toArray[j]=v:=by
    have:=List.getElem?_eq_some_iff.mp ev
    obtain ⟨_,e⟩:=this
    simpa using e
  rw [e1,e2]
  exact h j _ _ u v (List.getElem?_eq_getElem g1) (List.getElem?_eq_getElem g2) ru rv
theorem EqB.eqAt (I : Inv X pins σ H s) {n : Nat} {x y : V} {b : Bool} (h : EqB X.K H n x y b) : ∀ (A : Around) (u v : Value),A.units + n < cLine→RelV x u→RelV y v→SeqAt.EqAt A s u v b:=by
  induction h with
  | flat hx hy=>exact fun A u v _ rx ry=>eqAt_V rx ry hx hy
  | same=>intro A u v _ rx ry; cases rx; cases ry; exact SeqAt.EqAt.same _
  | @tup n a b xs ys e hn h1 h2 he ih=>
    intro A u v hu rx ry
    cases rx; cases ry
    obtain ⟨us,r1,p1,_⟩:=I.tuple h1
    obtain ⟨vs,r2,p2,_⟩:=I.tuple h2
    refine SeqAt.EqAt.of_refs hn ?_
    have:=SeqAt.RcAt.tuples (s:=s) (A:=A) (e:=e) p1 p2 (by omega) (items_eqAt (n:=n) r1 r2 fun j x y u v e1 e2 ru rv=>ih j x y e1 e2 A.in1 u v (by rw [in1_units]; omega) ru rv)
    have l1:=r1.length
    have l2:=r2.length
    simpa [l1,l2] using this
  | @lst n a b xs ys e hn hl h1 h2 he ih=>
    intro A u v hu rx ry
    cases rx; cases ry
    obtain ⟨us,r1,p1,_⟩:=I.list h1
    obtain ⟨vs,r2,p2,_⟩:=I.list h2
    have l1:=r1.length
    have l2:=r2.length
    refine SeqAt.EqAt.of_refs hn ?_
    have:=SeqAt.RcAt.lists (s:=s) (A:=A) (e:=e) p1.isList p2.isList (by simp; omega) (by omega) (items_eqAt (n:=n) r1 r2 fun j x y u v e1 e2 ru rv=>ih j x y e1 e2 A.in1 u v (by rw [in1_units]; omega) ru rv)
    simpa [l1,l2] using this
  | @lsn n a b xs ys hl h1 h2=>
    intro A u v hu rx ry
    cases rx; cases ry
    have hn : a≠b:=fun z=>by subst z; exact hl (by rw [I.list_inj h1 h2])
    obtain ⟨us,r1,p1,_⟩:=I.list h1
    obtain ⟨vs,r2,p2,_⟩:=I.list h2
    have l1:=r1.length
    have l2:=r2.length
    refine SeqAt.EqAt.of_refs hn ?_
    exact SeqAt.RcAt.lists_lengths (s:=s) (A:=A) p1.isList p2.isList (by simp; omega) (by omega)
def rCmpL (K : PySem.W.Frag) (neg : Bool) : R2:=fun x y H Q=>∃ a b xs ys,x = .ref a∧y = .ref b∧SqL K H a xs∧SqL K H b ys∧
  ((xs.length≠ys.length∧Q (.bl neg) H)∨(xs.length=ys.length∧∃ (n : Nat) (e : Nat→Bool),n≤32∧(∀ j x y,xs[j]? = some x→ys[j]? = some y→EqB K H n x y (e j))∧Q (.bl (neg != (List.range xs.length).all e)) H))
theorem op_neL (hu : X.A.units + 64 < cLine) : OpR X (compareOp .NotEq) (rCmpL X.K true):=by
  intro pins s σ H x y v u Q I rx ry h
  obtain ⟨a,b,xs,ys,rfl,rfl,h1,h2,h⟩:=h
  cases rx; cases ry
  obtain ⟨us,r1,p1,_⟩:=I.list h1
  obtain ⟨vs,r2,p2,_⟩:=I.list h2
  have l1:=r1.length
  have l2:=r2.length
  rcases h with ⟨hl,q⟩ | ⟨hl,n,e,hn,he,q⟩
  · exact SeqAt.RcNeAt.lists_lengths (s:=s) (A:=X.A) p1.isList p2.isList (by simp; omega) (by omega) _ _ _ _ ⟨.bl _,H,I,rfl,q⟩
  · refine SeqAt.RcNeAt.lists (s:=s) (A:=X.A) (e:=e) p1.isList p2.isList (by simp; omega) (by omega) (items_eqAt (n:=n) r1 r2 fun j x y u v e1 e2 ru rv=>(he j x y e1 e2).eqAt I _ u v (by rw [in1_units]; omega) ru rv) _ _ _ _ ⟨.bl _,H,I,rfl,?_⟩
    simpa [l1] using q
end
structure Cal (P : Program) (w : World) (K : PySem.W.Frag) (mg : Str→Option Value) (base : Heap) (CX : CXT) (k : Nat) (x : Str) (ps : List Str) (sp : Sp) : Prop where
  ex : ∃ (f : Addr) (fd : FuncData),FnOk P w K mg base CX k f fd ps sp∧Binds K fd ps []∧PySem.W.keepIn K (.ref f)=true∧mg x=some (.ref f)
theorem pe_cal {X : Cx} {CX : CXT} {k j : Nat} {ps : List Str} {sp : Sp} {E : XK} {x : Str} {p pos : Pos} {e : Expr} {es : List Expr} {t : TA} (F : Cal X.prog X.w X.K X.mg X.base CX k x ps sp) (hr : Room j X.A) (hg : Gl X x) (hx : Passes CX X E) (ha : PA X (e :: es) t)
    (hk : k≤j:=by decide) (hdb : (x == ("__debug__" : Str))=false:=by decide) (he : starEach (e :: es) X.env=(false,eval e X.env) :: starEach es X.env:=by rfl) (hpl : (backTo pos (starEach es X.env)).any (·.1)=false:=by rfl) :
    PE X (.Call (.Name x p) (e :: es) [] pos) (tCall sp [] E t):=by
  obtain ⟨f,fd,h1,h2,h3,h4⟩:=F.ex
  exact pe_call (h1.mono hk) hr hg h4 h3 h2 .nil hx ha hdb he hpl
end L2
namespace L2
open PySem PySem.Spec PyProof.Rows
section
variable {X : Cx} {es : List Expr} {x1 : Nat} {tp : Pos}
end
end L2
namespace L2
open PySem PySem.Spec PyProof.Rows
def relabelD (scope D : Scope) : List (Str×NameKind):=scope.names.map fun (n,k)=>if (k == .free && D.kind == .function && D.names.lookup n == some .cell) then (n,.cell) else (n,k)
def compOk (N N' : List Str) (ix : List (Option Nat)) (scope D : Scope) : Bool:=
  (scope.kind == .function) && (scope.names.all fun y=>(y.2 == .local && scope.names.lookup y.1 == some .local) || (y.2 == .free && D.names.lookup y.1 == some .cell) || (y.2 != .local && y.2 != .free && y.2 != .cell)) && decide N'.Nodup && (ix.length == N'.length) &&
  ((List.range N'.length).all fun k=>match ix[k]?,N'[k]? with
    | some (some j),some x=>N[j]? == some x && scope.names.contains (x,.free) && (relabelD scope D).lookup x == some .cell
    | _,_=>true)
theorem comp_scope {X : Cx} {N' : List Str} {ix : List (Option Nat)} {scope : Scope} {N : List Str} {D : Scope} (h : compOk N N' ix scope D=true) (hN : X.N=N:=by rfl) (hD : X.env.scope=D:=by rfl) : CompScope X N' ix scope:=by
  unfold compOk at h
  simp only [Bool.and_eq_true,decide_eq_true_eq] at h
  obtain ⟨⟨⟨⟨h1,h2⟩,h3⟩,h4⟩,h5⟩:=h
  have hall:=List.all_eq_true.mp h2
  refine ⟨by simpa using h1,fun y hy=>?_,fun y hy e=>?_,h3,by simpa using h4,fun y hy e=>?_,fun k j x e1 e2=>?_⟩
  · have:=hall y hy
    intro z
    rw [z] at this
    simp at this
  · have:=hall y hy
    rw [e] at this
    simpa using this
  · have:=hall y hy
    rw [e] at this
    have q : D.names.lookup y.1=some .cell:=by simpa using this
    show X.env.scope.names.lookup y.1=some .cell
    rw [hD]; exact q
  · have hk : k < N'.length:=(List.getElem?_eq_some_iff.mp e1).1
    have:=List.all_eq_true.mp h5 k (List.mem_range.mpr hk)
    rw [e1,e2] at this
    simp only [Bool.and_eq_true,beq_iff_eq] at this
    obtain ⟨⟨a1,a2⟩,a3⟩:=this
    refine ⟨by rw [hN]; exact a1,by simpa using a2,?_⟩
    show (relabelD scope X.env.scope).lookup x=some .cell
    rw [hD]; exact a3
end L2
namespace L2
open PySem PySem.Spec PyProof.Rows
def tTryE (i k : Nat) (E : XK) (tb : TS) (th : Addr→TS) : TS:=fun D σ H=>tb D σ H∧∀ (C a : Addr) (H1 : Hp),E (.ref C) none H1→H1 a=none→
  th a { nx:=fun σ' H'=>D.nx (σ'.set i none) H',rt:=D.rt,bk:=fun σ' H'=>D.bk (σ'.set i none) H',ct:=fun σ' H'=>D.ct (σ'.set i none) H' } ((List.replicate k none).set i (some (.ref a))) (upd H1 a (.ext (IsX a (.ref C))))
section
variable {X : Cx}
theorem ps_tryE {body : List Stmt} {b₀ : Stmt} {suite : List Stmt} {x n : Str} {C : Addr} {i : Nat} {E : XK} {tb : TS} {th : Addr→TS} {np hpos pos : Pos} (hN : X.N.Nodup) (hi : X.N[i]? = some n) (hl : X.env.scope.names.lookup n=some .local)
    (hfr : X.env.frame=some X.env.locals) (hstk : X.stack=X.env :: X.outer) (hg : Gl X x) (hm : X.mg x=some (.ref C)) (hcalm : X.calm=true) (hex : X.ex=[]) (hx : ∀ cls H,E cls none H→(∃ D,cls = .ref D)∧PySem.W.exmOne X.K cls (.ref C)=some true)
    (hb : ∀ pn xe,Passes (CXE X.prog X.w) (X.tryCx pn xe) E→PSs (X.tryCx pn xe) body tb) (hs : ∀ e,PSs (X.suite e) (b₀ :: suite) (th e)) (hd : (x == ("__debug__" : Str))=false:=by decide) :
    PS X (.Try body [.ExceptHandler (some (.Name x np)) (some n) (b₀ :: suite) hpos] [] [] pos) (tTryE i X.N.length E tb th):=by
  intro pins s σ H D I ⟨h1,h2⟩
  refine wpAny_Try_except ?_
  refine wpAny_mono (hb (X.pn ++ pins) _ ?_ [] s σ H D I.toTry h1) (fun f s1 q=>?_) fun e s1 q=>q
  · -- what an exception finds here
    intro pins' σ' H' s0 e s' J hcx
    obtain ⟨a,cls,a0,H1,B,rfl,hos,hbare,hE,hok,hna,hnew,fly,u⟩:=hcx
    obtain ⟨⟨D1,rfl⟩,hmatch⟩:=hx cls H1 hE
    have land : ∀ (h'' : Heap) (tk : Nat),B.StaysIn h''→s'.heap.UpToSlots h''→Inv X pins (List.replicate X.N.length none) H1 { s' with heap:=h'',toks:=tk }:=fun h'' tk b1 b2=>by
      have J1:=(fly_land J hos hbare hok fly u b1 b2).tok tk
      exact (J1.ofTry' I.ok).weak (by rw [List.length_replicate]; exact J1.len.symm) fun k v e=>by
        rw [List.getElem?_replicate] at e
        split at e <;> cases e
    have fly' : Heap.FlyingW B (X.env :: X.outer) a (.ref D1) a0 s'.heap:=by rw [← hstk]; exact fly
    refine wpAny_looks_onW (L:=X.env.locals) (by rw [I.ok.frames,hstk]) hfr fly' fun h4 held4 up4=>?_
    refine wpAny_landsW held4 fun h5 fly5 up5=>?_
    have J5:=land h5 s'.toks fly5.1 (up4.trans up5)
    obtain ⟨o5,vs5,e5,c5,d5,_⟩:=fly5.first
    refine wpAny_handleBy_cons (codeAny_handlers_test (ld_glob (X:=X.suite a) (pins:=pins) (σ:=List.replicate X.N.length none) (H:=H1) J5.toSuite hg hm ?_ hd)) (by intro q; cases q)
    refine (PySem.W.exm_one (M:=model X.prog X.w) J5.kIn (xc_ty ⟨o5,vs5,e5,c5,d5⟩) hmatch).here ?_
    refine codeAny_handlers_suite_as ?_
    refine lands_againW fly5 fun h6 fly6 up6=>?_
    have J6:=land h6 s'.toks fly6.1 ((up4.trans up5).trans up6)
    obtain ⟨o6,vs6,e6,c6,d6,_⟩:=fly6.first
    have ne0 : ∀ b ob,s0.heap.get? b=some ob→b≠a:=fun b ob q z=>by rw [z,hnew] at q; cases q
    have JT : Inv X pins (List.replicate X.N.length none) (upd H1 a (.ext (IsX a (.ref D1)))) { s' with heap:=h6,toks:=s'.toks }:=by
      refine J6.track ?_ hna (fun z=>?_) (fun y c q z=>?_) (fun p hp z=>?_) ⟨⟨o6,vs6,e6,c6,d6⟩,⟨o6,e6⟩,fun g1 g2 ⟨o,vs,y1,y2,y3⟩ k=>⟨o,vs,k o y1,y2,y3⟩⟩
      · cases q : X.s₀.heap.get? a with
        | none=>rfl
        | some ob=>
          obtain ⟨ob',q1⟩:=J.base.there a ob q (by rw [show (X.tryCx _ _).ex=[] from hex]; intro z; cases z)
          exact absurd rfl (ne0 a ob' q1)
      · obtain ⟨m,⟨ob,_,_,q,_⟩,_⟩:=J.loc
        exact ne0 _ ob q z.symm
      · obtain ⟨v,ob,q1,_⟩:=J.cell y c q
        exact ne0 c ob q1 z
      · exact ne0 p.1 p.2 (J.pin p (List.mem_append_left _ hp)).1 z
    refine store_ok (X:=X) (i:=i) (v:=.ref a) JT hN hi (.inl hl) rfl (fun s7 J7=>?_) (.inr hl)
    refine wpAny_mono (hs a pins s7 _ _ _ J7.toSuite (h2 D1 a H1 hE hna)) (fun f s8 q8=>?_) fun _ _ z=>z.elim
    cases f with
    | next=>
      obtain ⟨σ8,H8,J8,q⟩:=q8
      exact (J8.ofSuite I.ok).nameGoes hN hi hl fun s9 J9=>⟨_,H8,J9,q⟩
    | brk=>
      obtain ⟨σ8,H8,J8,q⟩:=q8
      exact (J8.ofSuite I.ok).nameGoes hN hi hl fun s9 J9=>⟨_,H8,J9,q⟩
    | cont=>
      obtain ⟨σ8,H8,J8,q⟩:=q8
      exact (J8.ofSuite I.ok).nameGoes hN hi hl fun s9 J9=>⟨_,H8,J9,q⟩
    | ret v=>
      obtain ⟨v8,σ8,H8,J8,r8,q⟩:=q8
      exact (J8.ofSuite I.ok).nameGoes hN hi hl fun s9 J9=>⟨v8,_,H8,J9,r8,q⟩
  · cases f with
    | next=>exact wpAny_execs_nil (SP.ofTry I.ok q)
    | brk=>exact SP.ofTry I.ok q
    | cont=>exact SP.ofTry I.ok q
    | ret v=>exact SP.ofTry I.ok q
end
end L2
namespace L2
open PySem PySem.Spec PyProof.Rows
section
variable {K : PySem.W.Frag} {c d : Addr} {b : Bool} {v : Value}
theorem cls_some (h : PySem.W.mroIn K c v=some b) : (PySem.W.clsIn K c).isSome=true:=by
  unfold PySem.W.mroIn at h
  cases e : PySem.W.clsIn K c with
  | none=>rw [e] at h; cases h
  | some x=>rfl
theorem kit_of {t : Value} (h0 : (t == .ref d)=false) (h1 : (PySem.W.clsIn K d).isSome=true) (h2 : PySem.W.typeIn K (.ref d)=some (.type "type")) (h3 : PySem.W.subIn K t (.ref d)=some b) : PySem.W.kitOne K t (.ref d)=some b:=by
  unfold PySem.W.kitOne
  rw [if_neg (by rw [h0]; decide)]
  show (if ((PySem.W.clsIn K d).isSome && PySem.W.typeIn K (.ref d) == some (.type "type"))=true then PySem.W.subIn K t (.ref d) else none)=some b
  rw [h1,h2,if_pos (by simp)]
  exact h3
theorem kit_self : PySem.W.kitOne K (.ref c) (.ref c)=some true:=by
  unfold PySem.W.kitOne
  rw [if_pos (by simp)]
theorem kit_ne (hs : PySem.W.mroIn K c (.ref c)=some true) (h1 : (PySem.W.clsIn K d).isSome=true) (h2 : PySem.W.typeIn K (.ref d)=some (.type "type")) (h3 : PySem.W.mroIn K c (.ref d)=some false) : PySem.W.kitOne K (.ref c) (.ref d)=some false:=by
  refine kit_of ?_ h1 h2 h3
  refine Bool.eq_false_iff.mpr fun z=>?_
  have e : c=d:=Value.ref.inj (beq_iff_eq.mp z)
  subst e
  rw [hs] at h3
  cases h3
theorem kit_ty {T : String} (hm : PySem.W.kitMeta T=true) (h : PySem.W.mroIn K c (.type T)=some b) : PySem.W.kitOne K (.ref c) (.type T)=some b:=by
  unfold PySem.W.kitOne
  rw [if_neg (by intro z; cases beq_iff_eq.mp z)]
  show (if PySem.W.kitMeta T=true then PySem.W.subIn K (.ref c) (.type T) else none)=some b
  rw [if_pos hm]
  exact h
theorem exm_of (h0 : PySem.W.subIn K (.ref d) (.type "BaseException")=some true) (h1 : (PySem.W.clsIn K d).isSome=true) (h2 : PySem.W.typeIn K (.ref d)=some (.type "type")) (h3 : PySem.W.mroIn K c (.ref d)=some b) : PySem.W.exmOne K (.ref c) (.ref d)=some b:=by
  unfold PySem.W.exmOne
  rw [if_pos (by rw [h0]; simp)]
  show (if ((PySem.W.clsIn K d).isSome && PySem.W.typeIn K (.ref d) == some (.type "type"))=true then PySem.W.subIn K (.ref c) (.ref d) else none)=some b
  rw [h1,h2,if_pos (by simp)]
  exact h3
theorem meta_VE : PySem.W.kitMeta "ValueError" = true:=by decide +kernel
end
end L2
namespace L2
open PySem PySem.Spec PyProof.Rows
theorem Fun.okE {P : Program} {w : World} {K : PySem.W.Frag} {mg : Str→Option Value} {base : Heap} {x qual : Str} {st : Stmt} {f : Addr} {fd : FuncData} {N ps : List Str} {k : Nat} {sp : Sp} (F : Fun K x qual st f fd) (S : FnScope N ps (defScope st))
    (len : ∀ vs H Q E,sp vs H Q E→vs.length=ps.length)
    (hbody : ∀ (cdv : Value) (A : Around) (outer : List Env) (s : Shared) (H : Hp) (vs : List V) (Q : VK) (E : XK),Room k (A.deeper (envOfC qual (defScope st) s.heap.objs.size f cdv))→sp vs H Q E→
      ∃ t,PSs (cxOf (CXE P w) P w K mg base N qual (defScope st) f cdv A outer s H E) (defBody st) t∧t { nx:=fun _ H'=>Q .non H',rt:=Q } (start N vs) H) : FnOk P w K mg base (CXE P w) (k + 1) f fd ps sp:=by
  obtain ⟨oc,od,kV,doc,pm,an,cdv,ct,osl,rfl,lk,hcd⟩:=F.ex
  exact fn_of lk hcd S len fun A outer s H vs Q E hr hsp=>hbody cdv A outer s H vs Q E hr hsp
theorem tSeq_by {t u : TS} {D : Ends} {σ : St} {H : Hp} (R : St→Hp→Prop) (h1 : ∀ D' : Ends,(∀ σ' H',R σ' H'→D'.nx σ' H')→D'.rt=D.rt→t D' σ H) (h2 : ∀ σ' H',R σ' H'→u D σ' H') : tSeq t u D σ H:=h1 { D with nx:=u D } h2 rfl
theorem boot_VE : bootBuiltins "ValueError" = some (.type "ValueError"):=by decide +kernel
structure Bn (mg : Str→Option Value) : Prop where
  len : mg "len" = none
  list : mg "list" = none
  isi : mg "isinstance" = none
  bool : mg "bool" = none
  int : mg "int" = none
  str : mg "str" = none
  tuple : mg "tuple" = none
  all : mg "all" = none
  any : mg "any" = none
  zip : mg "zip" = none
  range : mg "range" = none
  max : mg "max" = none
  min : mg "min" = none
  enumerate : mg "enumerate" = none
  sum : mg "sum" = none
  sorted : mg "sorted" = none
  verr : mg "ValueError" = none
def KeepBut (a : Addr) (H H' : Hp) : Prop:=∀ b o,b≠a→H b=some o→H' b=some o
theorem KeepBut.refl {a : Addr} {H : Hp} : KeepBut a H H:=fun _ _ _ h=>h
theorem KeepBut.trans {a : Addr} {H H1 H2 : Hp} (x : KeepBut a H H1) (y : KeepBut a H1 H2) : KeepBut a H H2:=fun b o n h=>y b o n (x b o n h)
theorem KeepBut.upd {a : Addr} {H H1 : Hp} {o : HO} (x : KeepBut a H H1) : KeepBut a H (L2.upd H1 a o):=fun b u n h=>by rw [upd_ne n]; exact x b u n h
theorem KeepBut.new {a p : Addr} {H H1 : Hp} {o : HO} (x : KeepBut a H H1) (hp : H1 p=none) : KeepBut a H (L2.upd H1 p o):=fun b u n h=>by
  have:=x b u n h
  rw [upd_ne (ne_of_none this hp)]; exact this
theorem KeepBut.of_same {a : Addr} {H H1 : Hp} (x : Same H H1) : KeepBut a H H1:=fun b o _ h=>x b o h
theorem Same.young {p : Addr} {H H1 : Hp} {o : HO} (x : Same H H1) (hp : H p=none) : Same H (L2.upd H1 p o):=fun b u h=>by
  rw [upd_ne (ne_of_none h hp)]; exact x b u h
def Draw (H : Hp) (a c : Addr) (ns : List Int) (i x y z : Int) : Prop:=H a=some (.lst [.ref c,.int i,.int x,.int y,.int z])∧H c=some (.lst (ns.map V.int))∧c≠a∧0≤i∧0≤y∧y < 1000000007
def DrawAt (H : Hp) (a c : Addr) : Prop:=∃ ns i x y z,Draw H a c ns i x y z
theorem DrawAt.new {H : Hp} {a c p : Addr} {o : HO} (d : DrawAt H a c) (hp : H p=none) : DrawAt (L2.upd H p o) a c:=by
  obtain ⟨ns,i,x,y,z,h1,h2,r⟩:=d
  exact ⟨ns,i,x,y,z,by rw [upd_ne (ne_of_none h1 hp)]; exact h1,by rw [upd_ne (ne_of_none h2 hp)]; exact h2,r⟩
theorem DrawAt.upd {H : Hp} {a c p : Addr} {o : HO} (d : DrawAt H a c) (na : p≠a) (nc : p≠c) : DrawAt (L2.upd H p o) a c:=by
  obtain ⟨ns,i,x,y,z,h1,h2,r⟩:=d
  exact ⟨ns,i,x,y,z,by rw [upd_ne na.symm]; exact h1,by rw [upd_ne nc.symm]; exact h2,r⟩
theorem DrawAt.same {H H' : Hp} {a c : Addr} (d : DrawAt H a c) (s : Same H H') : DrawAt H' a c:=by
  obtain ⟨ns,i,x,y,z,h1,h2,r⟩:=d
  exact ⟨ns,i,x,y,z,s _ _ h1,s _ _ h2,r⟩
theorem DrawAt.there {H : Hp} {a c : Addr} (d : DrawAt H a c) : ∃ o,H a=some o:=by
  obtain ⟨ns,i,x,y,z,h1,_⟩:=d
  exact ⟨_,h1⟩
theorem DrawAt.ne {H : Hp} {a c p : Addr} (d : DrawAt H a c) (hp : H p=none) : p≠a:=by
  obtain ⟨o,e⟩:=d.there
  exact (ne_of_none e hp).symm
theorem DrawAt.nc {H : Hp} {a c p : Addr} (d : DrawAt H a c) (hp : H p=none) : p≠c:=by
  obtain ⟨ns,i,x,y,z,_,h2,_⟩:=d
  exact (ne_of_none h2 hp).symm
theorem DrawAt.neT {H : Hp} {a c p : Addr} {xs : List V} (d : DrawAt H a c) (hp : H p=some (.tup xs)) : p≠a:=by
  obtain ⟨_,_,_,_,_,h,_⟩:=d
  exact ne_of hp h (by intro z; cases z)
def spBegin (K : PySem.W.Frag) : Sp:=fun vs H Q _=>∃ (a : Addr) (ns : List Int),vs=[.ref a]∧SqL K H a (ns.map V.int)∧ns.length≤63∧∀ l c H',H l=none→H c=none→Same H H'→DrawAt H' l c→Q (.ref l) H'
def spPick : Sp:=fun vs H Q _=>∃ (a c : Addr) (m : Int),vs=[.ref a,.int m]∧DrawAt H a c∧0 < m∧m < 18446744073709551616∧∀ r H',0≤r→r < m→DrawAt H' a c→KeepBut a H H'→Q (.int r) H'
def spSome : Sp:=fun vs H Q _=>∃ a c : Addr,vs=[.ref a]∧DrawAt H a c∧∀ r H',0≤r→r≤400→DrawAt H' a c→KeepBut a H H'→Q (.int r) H'
def spOdd : Sp:=fun vs H Q _=>∃ a c : Addr,vs=[.ref a]∧DrawAt H a c∧∀ (r : Int) H',DrawAt H' a c→KeepBut a H H'→Q (.int r) H'
theorem cut_ints (ns : List Int) (lo hi : Option Int) : ∃ ms : List Int,cutV (ns.map V.int) lo hi=ms.map V.int∧ms.length≤ns.length:=by
  unfold cutV
  rw [← List.map_drop,← List.map_take]
  exact ⟨_,rfl,by rw [List.length_take,List.length_drop]; omega⟩
theorem at_int {xs : List V} (h : ∀ x∈xs,∃ v,x=V.int v) {r : Int} (h0 : 0≤r) (h1 : r < (xs.length : Int)) : ∃ v,atI xs r=some (.int v):=by
  have hk : r.toNat < xs.length:=by omega
  obtain ⟨v,ev⟩:=h _ (List.getElem_mem hk)
  refine ⟨v,?_⟩
  have:=atI_nat (xs:=xs) (j:=r.toNat) (v:=.int v) (by rw [List.getElem?_eq_getElem hk,ev])
  rw [show ((r.toNat : Nat) : Int)=r by omega] at this
  exact this
theorem atI_some {xs : List V} {r : Int} {v : V} (h0 : 0≤r) (h : xs[r.toNat]? = some v) : atI xs r=some v:=by
  have:=atI_nat (xs:=xs) (j:=r.toNat) (v:=v) h
  rw [show ((r.toNat : Nat) : Int)=r by omega] at this
  exact this
def Rows (H : Hp) (a : Addr) (rs : List (List Int)) : Prop:=∃ ps : List Addr,H a=some (.lst (ps.map V.ref))∧ps.length=rs.length∧∀ (i : Nat) p r,ps[i]? = some p→rs[i]? = some r→H p=some (.tup (r.map V.int))
theorem Rows.same {H H' : Hp} {a : Addr} {rs : List (List Int)} (h : Rows H a rs) (s : Same H H') : Rows H' a rs:=by
  obtain ⟨ps,h1,h2,h3⟩:=h
  exact ⟨ps,s _ _ h1,h2,fun i p r e1 e2=>s _ _ (h3 i p r e1 e2)⟩
theorem Rows.keep {H H' : Hp} {a l c : Addr} {rs : List (List Int)} (h : Rows H a rs) (n : a≠l) (d : DrawAt H l c) (k : KeepBut l H H') : Rows H' a rs:=by
  obtain ⟨ps,h1,h2,h3⟩:=h
  exact ⟨ps,k _ _ n h1,h2,fun i p r e1 e2=>k _ _ (d.neT (h3 i p r e1 e2)) (h3 i p r e1 e2)⟩
theorem Rows.get {H : Hp} {a : Addr} {rs : List (List Int)} (h : Rows H a rs) : ∃ xs : List V,H a=some (.lst xs)∧xs.length=rs.length∧∀ (i : Nat) x,xs[i]? = some x→∃ p r,x = .ref p∧rs[i]? = some r∧H p=some (.tup (r.map V.int)):=by
  obtain ⟨ps,h1,h2,h3⟩:=h
  refine ⟨_,h1,by rw [List.length_map,h2],fun i x e=>?_⟩
  rw [List.getElem?_map] at e
  cases q : ps[i]? with
  | none=>rw [q] at e; cases e
  | some p=>
    rw [q] at e
    have hi:=(List.getElem?_eq_some_iff.mp q).1
    have hr : rs[i]? = some (rs[i]'(by omega)):=List.getElem?_eq_getElem (by omega)
    exact ⟨p,_,(Option.some.inj e).symm,hr,h3 i p _ q hr⟩
theorem Rows.push {H : Hp} {a p : Addr} {rs : List (List Int)} {xs : List V} {r : List Int} (h : Rows H a rs) (hx : H a=some (.lst xs)) (hp : H p=none) : Rows (L2.upd (L2.upd H p (.tup (r.map V.int))) a (.lst (xs ++ [.ref p]))) a (rs ++ [r]):=by
  obtain ⟨ps,h1,h2,h3⟩:=h
  rw [hx] at h1
  cases h1
  refine ⟨ps ++ [p],by rw [upd_same,List.map_append]; rfl,by rw [List.length_append,List.length_append,h2]; rfl,fun i q r' e1 e2=>?_⟩
  by_cases hi : i < ps.length
  · rw [List.getElem?_append_left hi] at e1
    rw [List.getElem?_append_left (by omega)] at e2
    have:=h3 i q r' e1 e2
    rw [upd_ne (ne_of this hx (by intro z; cases z)),upd_ne (ne_of_none this hp)]
    exact this
  · have hi' : i=ps.length:=by
      have:=(List.getElem?_eq_some_iff.mp e1).1
      rw [List.length_append,List.length_singleton] at this
      omega
    subst hi'
    rw [List.getElem?_append_right (Nat.le_refl _),Nat.sub_self] at e1
    rw [h2,List.getElem?_append_right (Nat.le_refl _),Nat.sub_self] at e2
    cases e1
    cases e2
    rw [upd_ne (ne_of_none hx hp).symm,upd_same]
theorem Rows.nil {H : Hp} {a : Addr} (h : H a=some (.lst [])) : Rows H a []:=⟨[],h,rfl,fun i p r e=>by cases e⟩
end L2
namespace K31
open PySem L2
def top (i : Nat) : Stmt:=PySem.Challenge.pw_drawback_k31_sureties_refused.main.body.getD i (.Pass ⟨0,0,0,0⟩)
abbrev s_begin : Stmt:=top 20
abbrev n_begin : List Str:=["_law_script"]
abbrev p_begin : List Str:=["_law_script"]
theorem sc_begin : FnScope n_begin p_begin (defScope s_begin):=⟨rfl,rfl,rfl,by decide +kernel,rfl,by decide +kernel,by decide +kernel⟩
abbrev s_pick : Stmt:=top 21
abbrev n_pick : List Str:=["_law_draw","_law_many","_law_cell","_law_got"]
abbrev p_pick : List Str:=["_law_draw","_law_many"]
theorem sc_pick : FnScope n_pick p_pick (defScope s_pick):=⟨rfl,rfl,rfl,by decide +kernel,rfl,by decide +kernel,by decide +kernel⟩
abbrev s_some_term : Stmt:=top 23
abbrev n_some_term : List Str:=["_law_draw"]
abbrev p_some_term : List Str:=["_law_draw"]
theorem sc_some_term : FnScope n_some_term p_some_term (defScope s_some_term):=⟨rfl,rfl,rfl,by decide +kernel,rfl,by decide +kernel,by decide +kernel⟩
section
variable {P : Program} {w : World} {K : PySem.W.Frag} {mg : Str→Option Value} {base : Heap} {f : Addr} {fd : FuncData}
theorem ok_begin (F : Fun K "_law_begin" "_law_begin" s_begin f fd) (B : Bn mg) : FnOk P w K mg base CX0 1 f fd p_begin (spBegin K):=by
  refine F.ok sc_begin (fun vs H Q E h=>?_) (fun cdv A outer s H vs Q E hr h=>?_)
  · obtain ⟨a,ns,rfl,_⟩:=h; rfl
  obtain ⟨a,ns,rfl,hS,hl,q⟩:=h
  refine ⟨_,(pss_one (ps_ret (pe_lst (pa_c (pe_callTy call_list_of rfl B.list PyProof.Rows.boot_list (pa_c (pe_slice sl_list (pv 0) po_none (po_some pe_int)) pa_nil)) (pa_c pe_int (pa_c pe_int (pa_c pe_int (pa_c pe_int pa_nil)))))))),?_⟩
  refine ⟨_,rfl,_,rfl,a,_,rfl,hS,fun p hp=>?_⟩
  obtain ⟨ms,em,hm⟩:=cut_ints ns none (some 63)
  refine ⟨p,_,rfl,.inl (SqL.of upd_same),fun c hc=>?_⟩
  refine ⟨by show 5≤sizeLine; decide,fun l hl'=>?_⟩
  have s1 : Same H (L2.upd H p (.lst (cutV (ns.map V.int) none (some 63)))):=same_new hp _
  have s2:=s1.trans (same_new hc (.lst (cutV (ns.map V.int) none (some 63))))
  have s3:=s2.trans (same_new hl' (.lst [.ref c,.int 0,.int 0,.int 1,.int 0]))
  have ncl : c≠l:=ne_of_none (upd_same (H:=L2.upd H p _) (o:=.lst (cutV (ns.map V.int) none (some 63)))) hl'
  refine q l c _ (s2.free hl') (s1.free hc) s3 ⟨ms,0,0,1,0,upd_same,?_,ncl,by decide,by decide,by decide⟩
  rw [upd_ne ncl,upd_same,em]
theorem ok_pick (F : Fun K "_law_pick" "_law_pick" s_pick f fd) (B : Bn mg) : FnOk P w K mg base CX0 1 f fd p_pick spPick:=by
  refine F.ok sc_pick (fun vs H Q E h=>?_) (fun cdv A outer s H vs Q E hr h=>?_)
  · obtain ⟨a,c,m,rfl,_⟩:=h; rfl
  obtain ⟨a,c,m,rfl,⟨ns,i,x,y,z,d1,d2,nca,hi,hy,hy2⟩,hm,hm2,q⟩:=h
  refine ⟨_,(pss_cons (ps_if (PW.pt (pw_and (pt_cmpR op_lt (pe_ix ix_list (pv 0) pe_int (fun _ _=>rfl)) (pv 1) (nomark _)) (pw_and1 (pt_cmpR op_lt (pe_ix ix_list (pv 0) pe_int (fun _ _=>rfl)) (pe_callB call_len_seq rfl B.len PySem.boot_len (pa_c (pe_ix ix_list (pv 0) pe_int (fun _ _=>rfl)) pa_nil)) (nomark _))))) (pss_cons (ps_set (i:=2) sc_pick.nd rfl (Or.inl rfl) (pe_ix ix_list (pe_ix ix_list (pv 0) pe_int (fun _ _=>rfl)) (pe_ix ix_list (pv 0) pe_int (fun _ _=>rfl)) (fun _ _=>rfl)))
      (pss_cons (ps_asg (pe_op op_add (pe_ix ix_list (pv 0) pe_int (fun _ _=>rfl)) pe_int) (pg_sub (pv 0) pe_int set_list))
      (pss_cons (ps_asg pe_int (pg_sub (pv 0) pe_int set_list))
      (pss_one (ps_if (pt_cmpR op_ge (pv 2) (pe_op op_pow pe_int pe_int) (nomark _)) (pss_one (ps_asg (pv 2) (pg_sub (pv 0) pe_int set_list))) (pss_one (ps_asg (pe_op op_mod (pe_op op_add (pe_ix ix_list (pv 0) pe_int (fun _ _=>rfl)) (pv 2)) pe_int) (pg_sub (pv 0) pe_int set_list)))))))) pss_nil)
    (pss_cons (ps_if (pt_cmpR op_ge (pe_ix ix_list (pv 0) pe_int (fun _ _=>rfl)) (pv 1) (nomark _)) (pss_cons (ps_set (i:=3) sc_pick.nd rfl (Or.inl rfl) (pe_op op_mod (pe_ix ix_list (pv 0) pe_int (fun _ _=>rfl)) (pv 1)))
      (pss_cons (ps_asg (pe_op op_fdivL (pe_ix ix_list (pv 0) pe_int (fun _ _=>rfl)) (pv 1)) (pg_sub (pv 0) pe_int set_list))
      (pss_one (ps_ret (pv 3))))) pss_nil)
    (pss_cons (ps_asg (pe_op op_add (pe_ix ix_list (pv 0) pe_int (fun _ _=>rfl)) pe_int) (pg_sub (pv 0) pe_int set_list))
    (pss_cons (ps_asg (pe_op op_mod (pe_op op_add (pe_op op_add (pe_op op_pow (pe_ix ix_list (pv 0) pe_int (fun _ _=>rfl)) pe_int) (pe_op op_mul pe_int (pe_ix ix_list (pv 0) pe_int (fun _ _=>rfl)))) pe_int) pe_int) (pg_sub (pv 0) pe_int set_list))
    (pss_one (ps_ret (pe_op op_mod (pe_op op_fdivL (pe_ix ix_list (pv 0) pe_int (fun _ _=>rfl)) pe_int) (pv 1)))))))),?_⟩
  refine (show ∀ (u : TS),(∀ (cv : Option V) (H1 : Hp) (i x y z : Int),Draw H1 a c ns i x y z→KeepBut a H H1→u { nx:=fun _ H'=>Q .non H',rt:=Q } [some (.ref a),some (.int m),cv,none] H1)→tSeq _ u _ _ _ from fun u hu=>?_) _ ?_
  · -- if draw[2] < many and draw[1] < len(draw[0])
    refine ⟨_,rfl,a,_,_,.int x,rfl,rfl,SqL.of d1,rfl,_,rfl,_,_,rfl,rfl,_,rfl,?_⟩
    by_cases c1 : x < m
    · rw [decide_eq_true c1]
      refine iteT ⟨_,rfl,a,_,_,.int i,rfl,rfl,SqL.of d1,rfl,_,rfl,a,_,_,.ref c,rfl,rfl,SqL.of d1,rfl,c,_,rfl,.inl (SqL.of d2),_,_,rfl,rfl,_,rfl,?_⟩
      rw [List.length_map]
      by_cases c2 : i < (ns.length : Int)
      · rw [decide_eq_true c2]
        have hk : i.toNat < ns.length:=by omega
        have ei : ((i.toNat : Nat) : Int)=i:=by omega
        have eat : atI (ns.map V.int) i=some (.int ns[i.toNat]):=by
          have:=atI_nat (xs:=ns.map V.int) (j:=i.toNat) (v:=.int ns[i.toNat]) (by rw [List.getElem?_map,List.getElem?_eq_getElem hk]; rfl)
          rw [ei] at this; exact this
        refine iteT ⟨_,rfl,a,_,_,.ref c,rfl,rfl,SqL.of d1,rfl,_,rfl,a,_,_,.int i,rfl,rfl,SqL.of d1,rfl,c,_,_,.int ns[i.toNat],rfl,rfl,SqL.of d2,eat,?_⟩
        generalize ns[i.toNat]=v
        refine ⟨_,rfl,a,_,_,.int i,rfl,rfl,SqL.of d1,rfl,_,_,rfl,rfl,_,rfl,a,_,_,1,rfl,rfl,d1,rfl,?_⟩
        refine ⟨_,rfl,a,_,_,2,rfl,rfl,upd_same,rfl,?_⟩
        rw [upd_upd]
        have e2 : L2.upd H a (.lst [.ref c,.int (i + 1),.int 0,.int y,.int z]) c=some (.lst (ns.map V.int)):=by rw [upd_ne nca]; exact d2
        refine ⟨_,rfl,_,_,rfl,rfl,⟨by decide,by decide,by decide⟩,_,_,rfl,rfl,_,rfl,?_⟩
        refine ite2 (fun _=>?_) (fun _=>?_)
        · refine ⟨_,rfl,_,rfl,a,_,_,2,rfl,rfl,upd_same,rfl,?_⟩
          rw [upd_upd]
          exact hu _ _ (i + 1) v y z ⟨upd_same,by rw [upd_ne nca]; exact d2,nca,by omega,hy,hy2⟩ KeepBut.refl.upd
        · refine ⟨_,rfl,a,_,_,.int y,rfl,rfl,SqL.of upd_same,rfl,_,rfl,_,_,rfl,rfl,_,_,rfl,rfl,(by show (0 : Int) < 1000000007; decide),_,rfl,a,_,_,3,rfl,rfl,upd_same,rfl,?_⟩
          rw [upd_upd]
          exact hu _ _ (i + 1) 0 ((y + v) % 1000000007) z ⟨upd_same,by rw [upd_ne nca]; exact d2,nca,by omega,by omega,by omega⟩ KeepBut.refl.upd
      · rw [decide_eq_false c2]
        exact iteF (hu _ H i x y z ⟨d1,d2,nca,hi,hy,hy2⟩ KeepBut.refl)
    · rw [decide_eq_false c1]
      exact iteF (iteF (hu _ H i x y z ⟨d1,d2,nca,hi,hy,hy2⟩ KeepBut.refl))
  · -- the rest
    clear d1 d2 hi hy hy2 i x y z
    rintro cv H1 i x y z ⟨d1,d2,_,hi,hy,hy2⟩ kb
    refine ⟨_,rfl,a,_,_,.int x,rfl,rfl,SqL.of d1,rfl,_,rfl,_,_,rfl,rfl,_,rfl,?_⟩
    by_cases c1 : m≤x
    · rw [decide_eq_true c1]
      refine iteT ⟨_,rfl,a,_,_,.int x,rfl,rfl,SqL.of d1,rfl,_,rfl,_,_,rfl,rfl,hm,?_⟩
      refine ⟨_,rfl,a,_,_,.int x,rfl,rfl,SqL.of d1,rfl,_,rfl,_,_,rfl,rfl,⟨hm,hm2⟩,_,rfl,a,_,_,2,rfl,rfl,d1,rfl,?_⟩
      refine ⟨_,rfl,?_⟩
      exact q _ _ (Int.emod_nonneg _ (by omega)) (Int.emod_lt_of_pos _ hm) ⟨ns,i,x / m,y,z,upd_same,by rw [upd_ne nca]; exact d2,nca,hi,hy,hy2⟩ kb.upd
    · rw [decide_eq_false c1]
      refine iteF ?_
      refine ⟨_,rfl,a,_,_,.int z,rfl,rfl,SqL.of d1,rfl,_,_,rfl,rfl,_,rfl,a,_,_,4,rfl,rfl,d1,rfl,?_⟩
      refine ⟨_,rfl,a,_,_,.int y,rfl,rfl,SqL.of upd_same,rfl,_,_,rfl,rfl,⟨by decide,by decide,by omega⟩,_,rfl,a,_,_,.int (z + 1),rfl,rfl,SqL.of upd_same,rfl,_,_,rfl,rfl,.inl ⟨by decide,by decide⟩,_,_,rfl,rfl,_,_,rfl,rfl,_,_,rfl,rfl,(by show (0 : Int) < 1000000007; decide),_,rfl,a,_,_,3,rfl,rfl,upd_same,rfl,?_⟩
      rw [upd_upd]
      have hy4 : 0≤(y ^ (3 : Int).toNat + 40503 * (z + 1) + 17) % 1000000007∧(y ^ (3 : Int).toNat + 40503 * (z + 1) + 17) % 1000000007 < 1000000007:=⟨Int.emod_nonneg _ (by decide),Int.emod_lt_of_pos _ (by decide)⟩
      refine ⟨_,rfl,a,_,_,.int ((y ^ (3 : Int).toNat + 40503 * (z + 1) + 17) % 1000000007),rfl,rfl,SqL.of upd_same,rfl,_,_,rfl,rfl,⟨by decide,by decide⟩,_,rfl,_,_,rfl,rfl,hm,?_⟩
      exact q _ _ (Int.emod_nonneg _ (by omega)) (Int.emod_lt_of_pos _ hm) ⟨ns,i,x,(y ^ (3 : Int).toNat + 40503 * (z + 1) + 17) % 1000000007,z + 1,upd_same,by rw [upd_ne nca]; exact d2,nca,hi,hy4.1,hy4.2⟩ kb.upd
variable (B : Bn mg) (G_pick : Cal P w K mg base CX0 1 "_law_pick" p_pick spPick)
include B G_pick
theorem ok_some_term (F : Fun K "_law_some_term" "_law_some_term" s_some_term f fd) : FnOk P w K mg base CX0 2 f fd p_some_term spSome:=by
  refine F.ok sc_some_term (fun vs H Q E h=>?_) (fun cdv A outer s H vs Q E hr h=>?_)
  · obtain ⟨a,c,rfl,_⟩:=h; rfl
  obtain ⟨a,c,rfl,d,q⟩:=h
  refine ⟨_,(pss_one (ps_ret (pe_ix ix_tup (pe_tup (pa_c pe_int (pa_c pe_int (pa_c pe_int (pa_c (pe_cal G_pick hr rfl pass0 (pa_c (pv 0) (pa_c pe_int pa_nil))) (pa_c (pe_cal G_pick hr rfl pass0 (pa_c (pv 0) (pa_c pe_int pa_nil))) (pa_c pe_int pa_nil))))))) (pe_cal G_pick hr rfl pass0 (pa_c (pv 0) (pa_c pe_int pa_nil))) (fun _ _=>rfl)))),?_⟩
  refine ⟨_,rfl,a,c,12,rfl,d,by decide,by decide,fun r1 H1 a1 c1 d1 kb1=>?_⟩
  refine ⟨_,rfl,a,c,60,rfl,d1,by decide,by decide,fun r2 H2 a2 c2 d2 kb2=>?_⟩
  refine ⟨by show 6≤sizeLine; decide,fun p hp=>?_⟩
  refine ⟨_,rfl,a,c,6,rfl,d2.new hp,by decide,by decide,fun r3 H3 a3 c3 d3 kb3=>?_⟩
  have ht:=kb3 p _ (d2.ne hp) upd_same
  have hv : ∃ v,atI [V.int 0,.int 1,.int 3,.int r1,.int r2,.int 400] r3=some (.int v)∧0≤v∧v≤400:=by
    have : r3=0∨r3=1∨r3=2∨r3=3∨r3=4∨r3=5:=by omega
    rcases this with rfl | rfl | rfl | rfl | rfl | rfl
    · exact ⟨0,rfl,by omega,by omega⟩
    · exact ⟨1,rfl,by omega,by omega⟩
    · exact ⟨3,rfl,by omega,by omega⟩
    · exact ⟨r1,rfl,by omega,by omega⟩
    · exact ⟨r2,rfl,by omega,by omega⟩
    · exact ⟨400,rfl,by omega,by omega⟩
  obtain ⟨v,ev,v0,v1⟩:=hv
  exact ⟨p,_,_,.int v,rfl,rfl,SqT.of ht,ev,q v H3 v0 v1 d3 ((kb1.trans (kb2.new hp)).trans kb3)⟩
end
end K31
namespace L2
open PySem PySem.W PyProof.Rows
structure Ordr (lt : Nat→Nat→Bool) : Prop where
  irr : ∀ i,lt i i=false
  tr : ∀ i j k,lt j i=false→lt k j=false→lt k i=false
  asy : ∀ i j,lt i j=true→lt j i=false
section
variable {n : Nat} {lt : Nat→Nat→Bool}
variable (O : Ordr lt)
include O
end
end L2
namespace L2
open PySem PySem.Spec PyProof.Rows
section
variable {X : Cx} {a b e : Expr} {es : List Expr} {pos : Pos}
theorem PE.weak {t t' : TE} (h : PE X e t) (k : ∀ σ H Q,t' σ H Q→t σ H Q) : PE X e t':=fun pins s σ H Q I q=>h pins s σ H Q I (k _ _ _ q)
def PIn (X : Cx) (e : Expr) : Prop:=∃ v : Int,PE X e (tC (.int v))
theorem pin_of {v : Int} (h : PE X e (tC (.int v))) : PIn X e:=⟨v,h⟩
theorem pin_neg (h : PIn X a) : PIn X (.UnaryOp .USub a pos):=by
  obtain ⟨v,h⟩:=h
  exact ⟨-v,(pe_un un_neg h).weak fun σ H Q q=>⟨v,rfl,q⟩⟩
theorem pin_pow {i j : Int} (h : PE X a (tC (.int i))) (h' : PE X b (tC (.int j))) (hc : CPow i j) : PIn X (.BinOp a .Pow b pos):=⟨i ^ j.toNat,(pe_op op_pow h h').weak fun σ H Q q=>⟨i,j,rfl,rfl,hc,q⟩⟩
theorem pin_add (h : PIn X a) (h' : PIn X b) : PIn X (.BinOp a .Add b pos):=by
  obtain ⟨v,h⟩:=h
  obtain ⟨u,h'⟩:=h'
  exact ⟨v + u,(pe_op op_add h h').weak fun σ H Q q=>⟨v,u,rfl,rfl,q⟩⟩
def tInts (vs : List Int) : TA:=fun _ H Q=>Q (vs.map V.int) H
def PIs (X : Cx) (es : List Expr) (n : Nat) : Prop:=∃ vs : List Int,vs.length=n∧PA X es (tInts vs)
theorem pis_nil : PIs X [] 0:=⟨[],rfl,pa_nil⟩
theorem pis_cons {n : Nat} (h : PIn X e) (r : PIs X es n) (hn : plainE e=true:=by rfl) : PIs X (e :: es) (n + 1):=by
  obtain ⟨v,h⟩:=h
  obtain ⟨vs,hl,r⟩:=r
  refine ⟨v :: vs,by rw [List.length_cons,hl],fun pos pins s σ H Q I q=>pa_c h r hn pos pins s σ H Q I q⟩
def tIntL (n : Nat) : TE:=fun _ H Q=>n≤sizeLine∧∀ vs : List Int,vs.length=n→∀ p,H p=none→Q (.ref p) (upd H p (.lst (vs.map V.int)))
theorem pe_intL {n : Nat} (h : PIs X es n) : PE X (.List es pos) (tIntL n):=by
  obtain ⟨vs,hl,h⟩:=h
  exact (pe_lst h).weak fun σ H Q q=>⟨by rw [List.length_map,hl]; exact q.1,fun p hp=>q.2 vs hl p hp⟩
end
end L2
namespace L2
open PySem PySem.Spec PyProof.Rows
theorem pe_glI {X : Cx} {x : Str} {v : Int} {pos : Pos} (hg : Gl X x) (hm : ∃ t,X.mg x=some (.int v t)) (hd : (x == ("__debug__" : Str))=false:=by decide) : PE X (.Name x pos) (tC (.int v)):=by
  obtain ⟨t,h⟩:=hm
  exact pe_glob hg h ⟨_,rfl⟩ hd
abbrev inB (v hi : Int) : Prop:=1≤v∧v≤hi
theorem take_next {rs : List (List Int)} {i : Nat} {r : List Int} (e : rs[i]? = some r) : rs.take i ++ [r]=rs.take (i + 1):=by
  obtain ⟨hi,e'⟩:=List.getElem?_eq_some_iff.mp e
  rw [List.take_succ_eq_append_getElem hi,e']
def spIn (c : Addr) (hi : Int) : Sp:=fun vs H Q E=>∃ v : Int,vs=[.int v]∧(inB v hi→Q .non H)∧(¬ inB v hi→E (.ref c) none H)
def spIsDay : Sp:=fun vs H Q _=>∃ d : Int,vs=[.int d]∧Q (.bl (decide (inB d 999))) H
theorem len2 {r : List Int} (h : r.length=2) : ∃ d c,r=[d,c]:=match r,h with | [d,c],_=>⟨d,c,rfl⟩
end L2
namespace L2
open PySem PySem.Spec PyProof.Rows
theorem all_true (n : Nat) : (List.range n).all (fun _=>true)=true:=by simp
theorem Rows.set {H : Hp} {a p : Addr} {rs : List (List Int)} {xs : List V} {r : List Int} {j : Nat} (h : Rows H a rs) (hx : H a=some (.lst xs)) (hp : H p=some (.tup (r.map V.int))) : Rows (L2.upd H a (.lst (xs.set j (.ref p)))) a (rs.set j r):=by
  obtain ⟨ps,h1,h2,h3⟩:=h
  rw [hx] at h1
  cases h1
  refine ⟨ps.set j p,by rw [upd_same,List.map_set],by rw [List.length_set,List.length_set,h2],fun i q r' e1 e2=>?_⟩
  have fin : ∀ z : List Int,H q=some (.tup (z.map V.int))→L2.upd H a (.lst ((ps.map V.ref).set j (.ref p))) q=some (.tup (z.map V.int)):=fun z e=>by rw [upd_ne (ne_of e hx (by intro z; cases z))]; exact e
  by_cases hij : j=i
  · subst hij
    have hj : j < ps.length:=by have:=(List.getElem?_eq_some_iff.mp e1).1; rw [List.length_set] at this; exact this
    rw [List.getElem?_set_self hj] at e1
    rw [List.getElem?_set_self (by omega)] at e2
    cases e1
    cases e2
    exact fin r hp
  · rw [List.getElem?_set_ne hij] at e1 e2
    exact fin r' (h3 i q r' e1 e2)
end L2
namespace L2
open PySem PySem.Spec PySem.W PyProof.Rows
theorem ints_of : ∀ {ns : List Int} {us : List Value},Vals (ns.map V.int) us→IntsAre us ns
  | [],_,.nil=>.nil
  | n :: r,_,.cons x t=>by
    obtain ⟨k,rfl⟩:=x
    exact .cons n k (ints_of t)
def lexB : List Int→List Int→Bool
  | a :: as,b :: bs=>if a=b then lexB as bs else decide (a < b)
  | [],_ :: _=>true
  | _,[]=>false
theorem lex_irr : ∀ a : List Int,lexB a a=false
  | []=>rfl
  | a :: as=>by show (if a=a then lexB as as else _)=false; rw [if_pos rfl]; exact lex_irr as
theorem lex_asy : ∀ {a b : List Int},lexB a b=true→lexB b a=false
  | [],[],h=>by cases h
  | [],b :: bs,_=>rfl
  | a :: as,[],h=>by cases h
  | a :: as,b :: bs,h=>by
    show (if b=a then lexB bs as else decide (b < a))=false
    have h' : (if a=b then lexB as bs else decide (a < b))=true:=h
    by_cases e : a=b
    · rw [if_pos e] at h'
      rw [if_pos e.symm]
      exact lex_asy h'
    · rw [if_neg e] at h'
      rw [if_neg (Ne.symm e)]
      have:=of_decide_eq_true h'
      exact decide_eq_false (by omega)
theorem lex_tr : ∀ {a b c : List Int},lexB b a=false→lexB c b=false→lexB c a=false
  | [],[],[],_,_=>rfl
  | [],[],_ :: _,_,_=>rfl
  | [],_ :: _,[],_,h=>by cases h
  | [],_ :: _,_ :: _,_,_=>rfl
  | _ :: _,[],_,h,_=>by cases h
  | _ :: _,_ :: _,[],_,h=>by cases h
  | a :: as,b :: bs,c :: cs,h,g=>by
    have h' : (if b=a then lexB bs as else decide (b < a))=false:=h
    have g' : (if c=b then lexB cs bs else decide (c < b))=false:=g
    show (if c=a then lexB cs as else decide (c < a))=false
    by_cases e1 : b=a
    · rw [if_pos e1] at h'
      subst e1
      by_cases e2 : c=b
      · rw [if_pos e2] at g'
        rw [if_pos e2]
        exact lex_tr h' g'
      · rw [if_neg e2] at g' ⊢
        exact g'
    · rw [if_neg e1] at h'
      have h1:=of_decide_eq_false h'
      by_cases e2 : c=b
      · subst e2
        rw [if_neg e1]
        exact h'
      · rw [if_neg e2] at g'
        have g1:=of_decide_eq_false g'
        rw [if_neg (by omega)]
        exact decide_eq_false (by omega)
section
variable {prog : Program} {w : World} {A : Around} {E : Value→Shared→Prop} {s : Shared}
def TupsAt (h : Heap) (bs : List Addr) (rs : List (List Int)) : Prop:=bs.length=rs.length∧∀ (i : Nat) b r,bs[i]? = some b→rs[i]? = some r→∃ its : List Value,IsTup h b its.toArray∧IntsAre its r
end
section
variable {X : Cx}
def rSum (K : PySem.W.Frag) : List V→Hp→VK→Prop:=fun xs H Q=>∃ (p : Addr) (ns : List Int),xs=[.ref p]∧SqL K H p (ns.map V.int)∧Q (.int ns.sum) H
theorem call_sumI (hc : X.calm=true) : CallR X (.builtin "sum") (rSum X.K):=by
  intro pins s σ H xs us Q I r h
  obtain ⟨p,ns,rfl,hq,q⟩:=h
  obtain ⟨u,rfl,ru⟩:=r.one
  cases ru
  obtain ⟨its,rv,pl,hz⟩:=I.list hq
  have ia:=ints_of rv
  obtain ⟨ys,ey⟩:=ia.allInts.items
  have hl:=pl.isList
  have e2 : (numsOf its.toArray.toList).sum=ns.sum:=by rw [show its.toArray.toList=its by simp,ia.numsOf]
  rw [ey] at hl e2
  refine sum_intListG (I.ok.hd hc) hl fun h' tk t' kk=>⟨.int ns.sum,H,I.kept (t':=tk) kk,⟨t',?_⟩,q⟩
  rw [nums_intItems] at e2
  rw [preSum_eq,List.take_of_length_le (by simp),e2]
end
end L2
namespace L2
open PySem PySem.Spec PySem.W PyProof.Rows
section
variable {X : Cx}
end
end L2
namespace L2
open PySem PySem.Spec PySem.W PyProof.Rows
abbrev colAt (rs : List (List Int)) (k : Nat) (i : Int) : Int:=(rs.getD i.toNat []).getD k 0
end L2
namespace L2
open PySem PySem.Spec PySem.W PyProof.Rows
end L2
namespace L2
open PySem PySem.Spec PySem.W PyProof.Rows
def vbm : List Value:=[.type "ValueError",.type "Exception",.type "BaseException",.type "object"]
abbrev okTerm (t : Int) : Prop:=0≤t∧t≤400
def spTerm (c : Addr) : Sp:=fun vs H Q E=>∃ v : Int,vs=[.int v]∧(okTerm v→Q .non H)∧(¬ okTerm v→E (.ref c) none H)
theorem chain_lo {lo v hi : Int} {R : Bool→Prop} (h : R (decide (lo≤v∧v≤hi))) : ∃ i j : Int,V.int lo = .int i∧V.int v = .int j∧∃ b,V.bl (decide (i≤j)) = .bl b∧if b=true then ∃ i' j' : Int,V.int v = .int i'∧V.int hi = .int j'∧∃ b',V.bl (decide (i'≤j')) = .bl b'∧R b' else ∃ b',V.bl false = .bl b'∧R b':=by
  refine ⟨_,_,rfl,rfl,_,rfl,?_⟩
  refine ite2 (fun c=>?_) (fun c=>?_)
  · have c1 : lo≤v:=of_decide_eq_true c
    refine ⟨_,_,rfl,rfl,_,rfl,?_⟩
    have e : decide (v≤hi)=decide (lo≤v∧v≤hi):=by by_cases z : v≤hi <;> simp [z,c1]
    rw [e]; exact h
  · have c1 : ¬ lo≤v:=of_decide_eq_false (Bool.eq_false_iff.mpr c)
    have e : false=decide (lo≤v∧v≤hi):=by simp [c1]
    exact ⟨_,rfl,by rw [e]; exact h⟩
theorem filter_take {α : Type} {rs : List α} {i : Nat} {r : α} (p : α→Bool) (e : rs[i]? = some r) : (rs.take (i + 1)).filter p=(rs.take i).filter p ++ if p r=true then [r] else []:=by
  obtain ⟨hi,e'⟩:=List.getElem?_eq_some_iff.mp e
  rw [List.take_succ_eq_append_getElem hi,List.filter_append,e']
  congr 1
  by_cases z : p r=true
  · rw [if_pos z,List.filter_cons_of_pos z]; rfl
  · rw [if_neg z,List.filter_cons_of_neg z]; rfl
structure XcL (K : PySem.W.Frag) (cl : Nat→Addr) (l : List Nat) : Prop where
  x : ∀ i∈l,XCls K (cl i)
  m : ∀ i∈l,PySem.W.exmOne K (.ref (cl i)) (.ref (cl 0))=some true
  d : ∀ i∈l,∀ j∈l,PySem.W.kitOne K (.ref (cl i)) (.ref (cl j))=some (decide (i=j))
  v : ∀ i∈l,PySem.W.kitOne K (.ref (cl i)) (.type "ValueError")=some true
theorem cmp_nil {K : PySem.W.Frag} {H : Hp} {l e : Addr} {xs : List V} {neg : Bool} {Q : VK} (hl : H l=some (.lst xs)) (he : H e=some (.lst [])) (q : Q (.bl (neg != decide (xs.length=0))) H) : rCmpL K neg (.ref l) (.ref e) H Q:=by
  refine ⟨l,e,xs,[],rfl,rfl,SqL.of hl,SqL.of he,?_⟩
  by_cases z : xs.length=0
  · refine .inr ⟨z,0,fun _=>true,by decide,fun j x y e1 e2=>(by cases e2),?_⟩
    rw [z] at q ⊢
    exact q
  · refine .inl ⟨z,?_⟩
    rw [decide_eq_false z] at q
    cases neg <;> exact q
end L2
namespace K31
open PySem L2
structure Txt (K : PySem.W.Frag) (mg : Str→Option Value) (cl : Nat→Addr) : Prop where
  FIRST_DAY : ∃ t,mg "FIRST_DAY" = some (.int 1 t)
  LAST_DAY : ∃ t,mg "LAST_DAY" = some (.int 999 t)
  MOST_TERM : ∃ t,mg "MOST_TERM" = some (.int 400 t)
  MOST_PAID : ∃ t,mg "MOST_PAID" = some (.int 60 t)
  gCustomsError : mg "CustomsError" = some (.ref (cl 0))
  gBadDay : mg "BadDay" = some (.ref (cl 1))
  gBadTerm : mg "BadTerm" = some (.ref (cl 2))
  gBadCount : mg "BadCount" = some (.ref (cl 3))
  gBadRows : mg "BadRows" = some (.ref (cl 5))
  eBadDay : PySem.W.excIn K (cl 1) vbm "ValueError.__new__" = true
  eBadTerm : PySem.W.excIn K (cl 2) vbm "ValueError.__new__" = true
  eBadCount : PySem.W.excIn K (cl 3) vbm "ValueError.__new__" = true
  eBadRows : PySem.W.excIn K (cl 5) vbm "ValueError.__new__" = true
abbrev s_is_day : Stmt:=top 10
abbrev n_is_day : List Str:=["day"]
abbrev p_is_day : List Str:=["day"]
theorem sc_is_day : FnScope n_is_day p_is_day (defScope s_is_day):=⟨rfl,rfl,rfl,by decide +kernel,rfl,by decide +kernel,by decide +kernel⟩
abbrev s_check_day : Stmt:=top 11
abbrev n_check_day : List Str:=["day"]
abbrev p_check_day : List Str:=["day"]
theorem sc_check_day : FnScope n_check_day p_check_day (defScope s_check_day):=⟨rfl,rfl,rfl,by decide +kernel,rfl,by decide +kernel,by decide +kernel⟩
abbrev s_check_term : Stmt:=top 12
abbrev n_check_term : List Str:=["term"]
abbrev p_check_term : List Str:=["term"]
theorem sc_check_term : FnScope n_check_term p_check_term (defScope s_check_term):=⟨rfl,rfl,rfl,by decide +kernel,rfl,by decide +kernel,by decide +kernel⟩
section
variable {P : Program} {w : World} {K : PySem.W.Frag} {mg : Str→Option Value} {base : Heap} {f : Addr} {fd : FuncData} {cl : Nat→Addr} (T : Txt K mg cl) (B : Bn mg)
include T B
theorem ok_is_day (F : Fun K "is_day" "is_day" s_is_day f fd) : FnOk P w K mg base CX0 1 f fd p_is_day spIsDay:=by
  refine F.ok sc_is_day (fun vs H Q E h=>?_) (fun cdv A outer s H vs Q E hr h=>?_)
  · obtain ⟨d,rfl,_⟩:=h; rfl
  obtain ⟨d,rfl,q⟩:=h
  refine ⟨_,(pss_one (ps_ret (pe_chain op_le op_le (pe_glI rfl T.FIRST_DAY) (pv 0) (pe_glI rfl T.LAST_DAY)))),?_⟩
  refine ⟨_,rfl,_,_,rfl,rfl,_,rfl,?_⟩
  refine ite2 (fun c=>?_) (fun c=>?_)
  · have c1 : (1 : Int)≤d:=of_decide_eq_true c
    refine ⟨_,_,rfl,rfl,?_⟩
    have e : decide (d≤999)=decide (inB d 999):=by by_cases z : d≤999 <;> simp [z,c1,inB]
    show Q (.bl (decide (d≤999))) H
    rw [e]; exact q
  · have c1 : ¬ (1 : Int)≤d:=of_decide_eq_false (Bool.eq_false_iff.mpr c)
    have e : false=decide (inB d 999):=by simp [inB,c1]
    show Q (.bl false) H
    rw [e]; exact q
theorem ok_check_day (G_is_day : Cal P w K mg base CX0 1 "is_day" p_is_day spIsDay) (F : Fun K "check_day" "check_day" s_check_day f fd) : FnOk P w K mg base (CXE P w) 2 f fd p_check_day (spIn (cl 1) 999):=by
  refine F.okE sc_check_day (fun vs H Q E h=>?_) (fun cdv A outer s H vs Q E hr h=>?_)
  · obtain ⟨d,rfl,_⟩:=h; rfl
  obtain ⟨d,rfl,q1,q2⟩:=h
  refine ⟨_,pss_one (ps_if (pt_not (pt_truth (pe_cal G_is_day hr rfl pass0 (pa_c (pv 0) pa_nil)) (fun _=>rfl))) (pss_one (ps_raise (E:=E) rfl T.gBadDay T.eBadDay PySem.F.excBase_ValueError rfl makesE (pa_c pe_str pa_nil))) pss_nil),?_⟩
  refine ⟨_,rfl,d,rfl,_,rfl,?_⟩
  by_cases c : inB d 999
  · rw [decide_eq_true c]
    exact iteF (q1 c)
  · rw [decide_eq_false c]
    exact iteT ⟨by show 1≤sizeLine; decide,q2 c⟩
theorem ok_check_term (F : Fun K "check_term" "check_term" s_check_term f fd) : FnOk P w K mg base (CXE P w) 2 f fd p_check_term (spTerm (cl 2)):=by
  refine F.okE sc_check_term (fun vs H Q E h=>?_) (fun cdv A outer s H vs Q E hr h=>?_)
  · obtain ⟨d,rfl,_⟩:=h; rfl
  obtain ⟨d,rfl,q1,q2⟩:=h
  refine ⟨_,(pss_one (ps_if (pt_not (pt_chain op_le op_le pe_int (pv 0) (pe_glI rfl T.MOST_TERM))) (pss_one (ps_raise (E:=E) rfl T.gBadTerm T.eBadTerm PySem.F.excBase_ValueError rfl makesE (pa_c pe_str pa_nil))) pss_nil)),?_⟩
  refine ⟨_,rfl,?_⟩
  refine chain_lo (lo:=0) (v:=d) (hi:=400) ?_
  by_cases c : okTerm d
  · rw [decide_eq_true c]
    exact iteF (q1 c)
  · rw [decide_eq_false c]
    exact iteT ⟨by show 1≤sizeLine; decide,q2 c⟩
end
end K31
namespace L2
open PySem PySem.Spec PySem.W PyProof.Rows
section
variable {X : Cx} {a b c d e : Expr} {ta tb tc td te : TE} {pos p2 : Pos}
end
theorem keep_refl {σ₀ : St} : ∀ (k : Nat) v,σ₀[k]? = some (some v)→σ₀[k]? = some (some v):=fun _ _ h=>h
theorem keep_set {σ₀ σ : St} {j : Nat} {x : Option V} (h : ∀ (k : Nat) v,σ₀[k]? = some (some v)→σ[k]? = some (some v)) (hj : σ₀[j]? = some none) : ∀ (k : Nat) v,σ₀[k]? = some (some v)→(σ.set j x)[k]? = some (some v):=fun k v e=>by
  have : j≠k:=fun z=>by rw [z,e] at hj; cases hj
  rw [List.getElem?_set_ne this]
  exact h k v e
theorem comp_by {K : PySem.W.Frag} {a D : Addr} {xs : List V} {g : TG} {ti : TT} {te : TE} {σ₀ : St} {H1 : Hp} {R : Hp→Prop} (P : Nat→List V→Hp→Prop) (hD : H1 D=none) (hx : H1 a=some (.lst xs)) (hn : xs.length≤1000)
    (st : ∀ i zs H H',P i zs H→(∀ b o,b≠D→H b=some o→H' b=some o)→P i zs H') (h0 : P 0 [] H1)
    (step : ∀ i x zs H,xs[i]? = some x→Same H1 H→P i zs H→∀ (K1 : V→Hp→Prop) (K2 : Hp→Prop),(∀ y H4,Same H H4→P (i + 1) (zs ++ [y]) H4→K1 y H4)→(∀ H3,Same H H3→P (i + 1) zs H3→K2 H3)→
      g x σ₀ H fun σ2 H2=>(∀ (k : Nat) v,σ₀[k]? = some (some v)→σ2[k]? = some (some v))∧ti σ2 H2 fun b H3=>if b=true then te σ2 H3 K1 else K2 H3)
    (fin : ∀ zs H,Same H1 H→P xs.length zs H→zs.length≤xs.length→H D=some (.lst zs)→R H) :
    ∃ W : Nat→Nat→Hp→Prop,(∃ m,W 0 m (upd H1 D (.lst [])))∧∀ i m H,W i m H→((Itl K a).stop i H∧R H)∨((Itl K a).go i H∧∀ x H',(Itl K a).yld i H x H'→g x σ₀ H' fun σ2 H2=>(∀ (k : Nat) v,σ₀[k]? = some (some v)→σ2[k]? = some (some v))∧ti σ2 H2 fun b H3=>
      if b=true then te σ2 H3 fun y H4=>∃ zs,H4 D=some (.lst zs)∧zs.length < sizeLine∧∃ m',m' < m∧W (i + 1) m' (upd H4 D (.lst (zs ++ [y]))) else ∃ m',m' < m∧W (i + 1) m' H3):=by
  refine ⟨fun i m H=>i + m=xs.length∧Same H1 H∧∃ zs,H D=some (.lst zs)∧zs.length≤i∧P i zs H,⟨xs.length,by omega,same_new hD _,[],upd_same,Nat.le_refl _,st _ _ _ _ h0 fun b o hb e=>by rw [upd_ne hb]; exact e⟩,?_⟩
  rintro i m H ⟨him,s1,zs,hz,hl,hp⟩
  have ex:=s1 _ _ hx
  by_cases hi : i < xs.length
  · refine .inr ⟨⟨xs,_,SqL.of ex,List.getElem?_eq_getElem hi⟩,?_⟩
    rintro x H' ⟨rfl,hy⟩
    refine step i x zs H' (hy _ (SqL.of ex)) s1 hp _ _ (fun y H4 s4 p4=>⟨zs,s4 _ _ hz,small1000 (by omega),m - 1,by omega,by omega,(s1.trans s4).young hD,zs ++ [y],upd_same,by rw [List.length_append,List.length_singleton]; omega,st _ _ _ _ p4 fun b o hb e=>by rw [upd_ne hb]; exact e⟩) fun H3 s3 p3=>⟨m - 1,by omega,by omega,s1.trans s3,zs,s3 _ _ hz,by omega,p3⟩
  · have e : i=xs.length:=by omega
    subst e
    exact .inl ⟨⟨xs,SqL.of ex,Nat.le_refl _⟩,fin zs H s1 hp hl hz⟩
def Tups (H : Hp) (xs : List V) (rs : List (List Int)) : Prop:=xs.length=rs.length∧∀ (i : Nat) x r,xs[i]? = some x→rs[i]? = some r→∃ p,x = .ref p∧H p=some (.tup (r.map V.int))
theorem Tups.nil {H : Hp} : Tups H [] []:=⟨rfl,fun i x r e=>by cases e⟩
theorem Tups.one {H : Hp} {p : Addr} {r : List Int} (h : H p=some (.tup (r.map V.int))) : Tups H [.ref p] [r]:=⟨rfl,fun i x r' e1 e2=>by
  match i,e1,e2 with
  | 0,e1,e2=>cases e1; cases e2; exact ⟨p,rfl,h⟩
  | i + 1,e1,_=>cases e1⟩
theorem Tups.drop {H : Hp} {xs : List V} {rs : List (List Int)} (h : Tups H xs rs) (n : Nat) : Tups H (xs.drop n) (rs.drop n):=by
  refine ⟨by rw [List.length_drop,List.length_drop,h.1],fun i x r e1 e2=>?_⟩
  rw [List.getElem?_drop] at e1 e2
  exact h.2 _ x r e1 e2
theorem Tups.keep {H H' : Hp} {xs : List V} {rs : List (List Int)} (h : Tups H xs rs) (k : ∀ (p : Addr) (z : List V),H p=some (.tup z)→H' p=some (.tup z)) : Tups H' xs rs:=⟨h.1,fun i x r e1 e2=>by
  obtain ⟨p,e,hp⟩:=h.2 i x r e1 e2
  exact ⟨p,e,k _ _ hp⟩⟩
theorem Tups.same {H H' : Hp} {xs : List V} {rs : List (List Int)} (h : Tups H xs rs) (s : Same H H') : Tups H' xs rs:=h.keep fun _ _ e=>s _ _ e
theorem Tups.draw {H H' : Hp} {a c : Addr} {xs : List V} {rs : List (List Int)} (h : Tups H xs rs) (d : DrawAt H a c) (k : KeepBut a H H') : Tups H' xs rs:=h.keep fun p z e=>k _ _ (d.neT e) e
theorem Tups.at {H : Hp} {xs : List V} {rs : List (List Int)} (h : Tups H xs rs) {i : Nat} {x : V} (e : xs[i]? = some x) : ∃ p r,x = .ref p∧rs[i]? = some r∧H p=some (.tup (r.map V.int)):=by
  have hi:=(List.getElem?_eq_some_iff.mp e).1
  have hr : rs[i]? = some (rs[i]'(by rw [← h.1]; exact hi)):=List.getElem?_eq_getElem (by rw [← h.1]; exact hi)
  obtain ⟨p,e',hp⟩:=h.2 i x _ e hr
  exact ⟨p,_,e',hr,hp⟩
theorem Tups.rows {H : Hp} {a : Addr} {xs : List V} {rs : List (List Int)} (h : Tups H xs rs) (ha : H a=some (.lst xs)) : Rows H a rs:=by
  obtain ⟨ps,e⟩ : ∃ ps : List Addr,xs=ps.map V.ref:=by
    have : ∀ (xs : List V) (rs : List (List Int)),Tups H xs rs→∃ ps : List Addr,xs=ps.map V.ref:=by
      intro xs
      induction xs with
      | nil=>exact fun _ _=>⟨[],rfl⟩
      | cons x r ih=>
        intro rs h
        obtain ⟨p,_,e,_⟩:=h.at (i:=0) rfl
        obtain ⟨ps,e'⟩:=ih (rs.drop 1) (by simpa using h.drop 1)
        exact ⟨p :: ps,by rw [e,e']; rfl⟩
    exact this xs rs h
  subst e
  refine ⟨ps,ha,by rw [← h.1,List.length_map],fun i p r e1 e2=>?_⟩
  obtain ⟨q,e,hq⟩:=h.2 i (.ref p) r (by rw [List.getElem?_map,e1]; rfl) e2
  cases e
  exact hq
theorem Rows.tups {H : Hp} {a : Addr} {rs : List (List Int)} (h : Rows H a rs) : ∃ xs,H a=some (.lst xs)∧Tups H xs rs:=by
  obtain ⟨ps,h1,h2,h3⟩:=h
  refine ⟨_,h1,by rw [List.length_map,h2],fun i x r e1 e2=>?_⟩
  rw [List.getElem?_map] at e1
  cases q : ps[i]? with
  | none=>rw [q] at e1; cases e1
  | some p=>rw [q] at e1; cases e1; exact ⟨p,rfl,h3 i p r q e2⟩
end L2
namespace HT
open PySem PyProof.Rows
theorem rcGt_int (A : Around) (s : Shared) (a : Int) (t : Tok) (c : Int) (u : Tok) (prog : Program) (w : World) : ∀ {Q : Value→Shared→Prop} {E : Value→Shared→Prop},Q (.bool (decide (c < a))) s→wpAny (model prog w) A (richCompare .Gt (.int a t) (.int c u)) Q E s:=fun {Q E} h=>
  CmpOf.ints_gt (prog:=prog) (w:=w) (A:=A) (P:=fun i v=>if i=0 then v = .int a t else v = .int c u) (fun i=>if i=0 then a else c) (fun i v hv=>by
    by_cases z : i=0
    · rw [if_pos z] at hv; exact ⟨t,by rw [if_pos z]; exact hv⟩
    · rw [if_neg z] at hv; exact ⟨u,by rw [if_neg z]; exact hv⟩) 0 1 _ _ s Q E rfl rfl h
section
theorem tuple_gt_ints (l b : Addr) (items items2 : Array Value) (n n2 : Nat) (dd dd2 : Option Addr) (sl sl2 : Array (Option Value)) (ns ms : List Int) (hi : IntsAre items.toList ns) (hj : IntsAre items2.toList ms) :
    Meets (Builtin.«tuple.__gt__» ⟨[.ref l,.ref b],[]⟩)
      (fun _ R s=>s.heap.get? l=some { cls:=.type "tuple",dict:=dd,data:=.seq items n,slots:=sl }∧s.heap.get? b=some { cls:=.type "tuple",dict:=dd2,data:=.seq items2 n2,slots:=sl2 } ∧
        R (.ok (.ret (.bool (lexLt ms ns)))) s):=
  .of_wp fun prog w A R s h=>by
    obtain ⟨hp,g,d,tk,os⟩:=s; obtain ⟨hl,hb,h⟩:=h
    have f2:=AutoSeq1.sub_tuple_tuple
    have z1 : items.size=ns.length:=by rw [← hi.length]; simp
    have z2 : items2.size=ms.length:=by rw [← hj.length]; simp
    wp_walk using wpAny_loadPart' hl,wpAny_loadPart' hb,wpAny_forIn_list _ (fun rest b s'=>b.1=none∧s' = ⟨hp,g,d,tk,os⟩∧∃ (vs ws : List Value) (ns' ms' : List Int),rest=vs.zip ws∧
      IntsAre vs ns'∧IntsAre ws ms'∧ns'.length + items2.size=ms'.length + items.size∧R (.ok (.ret (.bool (lexLt ms' ns')))) ⟨hp,g,d,tk,os⟩) _
    case turn=>
      rintro ⟨y,x⟩ rest b s' ⟨hb',rfl,vs,ws,ns',ms',hz,hvi,hwi,hlen,hR⟩
      cases hvi with
      | nil=>rw [List.zip_nil_left] at hz; cases hz
      | cons a t hvi'=>
        cases hwi with
        | nil=>rw [List.zip_nil_right] at hz; cases hz
        | cons c u hwi'=>
          rw [List.zip_cons_cons] at hz
          injection hz with hyx hrest
          injection hyx with hy hx
          subst hy hx
          rw [lexLt_cons] at hR
          simp only [List.length_cons] at hlen
          obtain ⟨e,he,hiff⟩:=eqAt_int A.in1 ⟨hp,g,d,tk,os⟩ a t c u
          refine wpAny_bind (he prog w _ _ ?_)
          cases e with
          | true=>
            rw [if_pos (hiff.mp rfl).symm] at hR
            wp_walk
            exact ⟨rfl,rfl,_,_,_,_,hrest,hvi',hwi',by omega,hR⟩
          | false=>
            rw [if_neg (fun q=>absurd (hiff.mpr q.symm) Bool.false_ne_true)] at hR
            have hri : ∀ {Q : Value→Shared→Prop} {E : Value→Shared→Prop},Q (.bool (decide (c < a))) ⟨hp,g,d,tk,os⟩→wpAny (model prog w) A.in1 (richCompare .Gt (.int a t) (.int c u)) Q E ⟨hp,g,d,tk,os⟩:=rcGt_int A.in1 ⟨hp,g,d,tk,os⟩ a t c u prog w
            wp_walk using hri
            exact ⟨_,rfl,by simpa using hR⟩
    case fin=>
      rintro ⟨b1,b2⟩ s' ⟨hb',rfl,vs,ws,ns',ms',hz,hvi,hwi,hlen,hR⟩
      simp only at hb'
      subst hb'
      have hv : lexLt ms' ns' = decide (items2.size < items.size):=by
        cases hvi with
        | nil=>
          cases hwi with
          | nil=>
            simp only [List.length_nil] at hlen
            rw [lexLt_nil_nil]
            exact (decide_eq_false (by omega)).symm
          | cons c u hw=>
            simp only [List.length_nil,List.length_cons] at hlen
            rw [lexLt_cons_nil]
            exact (decide_eq_false (by omega)).symm
        | cons a t hv=>
          cases hwi with
          | nil=>
            simp only [List.length_nil,List.length_cons] at hlen
            rw [lexLt_nil_cons]
            exact (decide_eq_true (by omega)).symm
          | cons c u hw=>
            rw [List.zip_cons_cons] at hz
            cases hz
      rw [hv] at hR
      wp_walk
      exact ⟨_,rfl,by simpa [Builtin.Tuple.tupleCompareSizes] using hR⟩
    case h=>
      exact ⟨rfl,rfl,items.toList,items2.toList,ns,ms,rfl,hi,hj,by omega,h⟩
end
section
variable {prog : Program} {w : World} {A : Around} {E : Value→Shared→Prop} {s : Shared}
theorem gt_tupInts {l b : Addr} {items items2 : Array Value} {ns ms : List Int} {Q : Value→Shared→Prop} (hl : IsTup s.heap l items) (hb : IsTup s.heap b items2) (hi : IntsAre items.toList ns) (hj : IntsAre items2.toList ms)
    (hu : A.units < cLine) (h : Q (.bool (lexLt ms ns)) s) : wpAny (model prog w) A (richCompare .Gt (.ref l) (.ref b)) Q E s:=by
  obtain ⟨⟨cls,dd,data,sl⟩,ho,hc,n,hd⟩:=id hl
  obtain ⟨⟨cls2,dd2,data2,sl2⟩,ho2,hc2,n2,hd2⟩:=id hb
  simp only at hc hd hc2 hd2
  subst hc hd hc2 hd2
  exact richCompare_meets_room (op:=.Gt) ⟨_,ho,rfl⟩ ⟨_,ho2,rfl⟩ PySem.F.slot_tuple_gt PySem.F.entry_tuple_gt (PySem.F.args_tuple_gt_2 _ _) (tuple_gt_ints l b items items2 n n2 dd dd2 sl sl2 ns ms hi hj)
    ⟨ho,ho2,show Value.bool (lexLt ms ns)≠Value.notImplemented∧Q (.bool (lexLt ms ns)) s from ⟨(fun x=>nomatch x),h⟩⟩ hu
end
end HT
namespace L2
open PySem PySem.Spec PyProof.Rows
theorem args_maxD (a d : Value) : argsOk "max" ⟨[a],[(Str.ofString "default",d)]⟩:=by unfold argsOk; kernel_rfl
section
variable {prog : Program} {w : World} {A : Around} {R : Result→Shared→Prop} {I : Addr} {fp wr : List Addr} {n : Nat} {P : Nat→Value→Prop} {St : Nat→Heap→Prop}
def CmpJ (prog : Program) (w : World) (A : Around) (J : Heap→Prop) (P : Nat→Value→Prop) (bt : Nat→Nat→Bool) : Prop:=
  ∀ i j vi vj (s : Shared) (Q : Value→Shared→Prop) (E : Value→Shared→Prop),J s.heap→P i vi→P j vj→Q (.bool (bt i j)) s→wpAny (model prog w) A (richCompare .Gt vi vj) Q E s
theorem maxJ_loop {J : Heap→Prop} {d : Value} (W : Walks prog w A.in1 I fp wr n P St) (bt : Nat→Nat→Bool) (hcmp : CmpJ prog w A.in1 J P bt) (S : Addr) (hSf : S ∉ fp) (hJ : ∀ h h',J h→(∀ b o,b ∉ wr→b≠S→h.get? b=some o→h'.get? b=some o)→J h') :
    ∀ (k j : Nat) (s : Shared) (vb : Value) (c : Nat),n - (j + 1)=k→j + 1≤n→St (j + 1) s.heap→J s.heap→P (argBest bt j) vb→
    s.heap.get? S=some { cls:=.type "list",dict:=none,data:=.seq #[vb,vb] c,slots:=#[] } →
    (∀ v h' tk,P (argBest bt (n - 1)) v→(∀ b o,b ∉ wr→b≠S→s.heap.get? b=some o→h'.get? b=some o)→R (.ok (.ret v)) { s with heap:=h',toks:=tk })→
    codeAny (model prog w) A (.builtin "max.loop" ⟨[.ref I,.none,.ref S],[(Str.ofString "default",d)]⟩) R s:=by
  have hSw : S ∉ wr:=fun h=>hSf (W.sub _ h)
  have hname : (toString "max" ++ toString ".loop" : String) = "max.loop" := by decide
  intro k
  induction k with
  | zero=>
    intro j s vb c hk hj hst hj0 hPb hS hR
    have hin : j + 1=n:=by omega
    refine codeAny_builtin F.entry_max_loop ?_
    rw [Around.under_plainId F.plain_max_loop _]
    show wpAny _ A.in1 (seqItems? (.ref S) >>= _) _ _ s
    refine wpAny_bind (wpAny_seqItems hS rfl ?_)
    show wpAny _ A.in1 (tryCatch (pyNext (.ref I)) _ >>= _) _ _ s
    refine wpAny_bind (wpAny_tryCatch (W.done s _ _ (hin ▸ hst) fun h' tk hk'=>?_))
    have hS':=hk' S _ hSw hS
    show wpAny _ A.in1 (updateSeq S (fun _=>#[]) >>= _) _ _ _
    refine wpAny_bind ?_
    refine wpAny_updateSeq hS' rfl (wpAny_bind (wpAny_letGo (wpAny_pure ?_)))
    refine hR vb _ tk (by rw [← hin]; exact hPb) fun b o hbw hbS e=>(Heap.get?_update_other _ _ (Ne.symm hbS)).trans (hk' b o hbw e)
  | succ k ih=>
    intro j s vb c hk hj hst hj0 hPb hS hR
    have hlt : j + 1 < n:=by omega
    refine codeAny_builtin F.entry_max_loop ?_
    rw [Around.under_plainId F.plain_max_loop _]
    show wpAny _ A.in1 (seqItems? (.ref S) >>= _) _ _ s
    refine wpAny_bind (wpAny_seqItems hS rfl ?_)
    show wpAny _ A.in1 (tryCatch (pyNext (.ref I)) _ >>= _) _ _ s
    refine wpAny_bind (wpAny_tryCatch (W.item (j + 1) s _ _ hlt hst fun v h' tk hP hst' hk'=>?_))
    have hS':=hk' S _ hSw hS
    have hj1 : J h':=hJ _ _ hj0 fun b o hb _ e=>hk' b o hb e
    show wpAny _ A.in1 (tryCatch (holding [v,v] (richCompare .Gt v vb >>= _)) _ >>= _) _ _ _
    refine wpAny_bind (wpAny_tryCatch (wpAny_holding (wpAny_bind (hcmp (j + 1) (argBest bt j) v vb _ _ _ hj1 hP hPb ?_))))
    refine wpAny_bind (wpAny_holding (wpAny_truthy_bool ?_))
    refine wpAny_bind (wpAny_letGo (wpAny_pure ?_))
    cases hb : bt (j + 1) (argBest bt j) with
    | true=>
      simp only [if_true]
      refine wpAny_bind ?_
      refine wpAny_updateSeq hS' rfl (wpAny_bind (wpAny_letGo ?_))
      rw [hname]
      refine wpAny_pure ⟨plainId_quiet F.plain_max_loop _,ih (j + 1) _ v _ (by omega) hlt (W.frame _ _ _ hst' fun b hbf o e=>?_) (hJ _ _ hj1 fun b o _ hbS e=>(Heap.get?_update_other _ _ (Ne.symm hbS)).trans e) (by simp only [argBest,hb,if_true]; exact hP) (Heap.get?_update_self _ hS' rfl)
        fun v' h'' tk'' hP' hk''=>?_⟩
      · exact (Heap.get?_update_other _ _ (fun h : S=b=>hSf (by rw [h]; exact hbf))).trans e
      · exact hR v' h'' tk'' hP' fun b o hbw hbS e=>hk'' b o hbw hbS ((Heap.get?_update_other _ _ (Ne.symm hbS)).trans (hk' b o hbw e))
    | false=>
      simp only [Bool.false_eq_true,if_false]
      refine wpAny_bind (wpAny_letGo ?_)
      rw [hname]
      refine wpAny_pure ⟨plainId_quiet F.plain_max_loop _,ih (j + 1) _ vb c (by omega) hlt hst' hj1 (by simp only [argBest,hb,Bool.false_eq_true,if_false]; exact hPb) hS' fun v' h'' tk'' hP' hk''=>?_⟩
      exact hR v' h'' tk'' hP' fun b o hbw hbS e=>hk'' b o hbw hbS (hk' b o hbw e)
theorem maxJ_first {J : Heap→Prop} {d : Value} (W : Walks prog w A.in1 I fp wr n P St) (bt : Nat→Nat→Bool) (hcmp : CmpJ prog w A.in1 J P bt) (S : Addr) (hSf : S ∉ fp) (hJ : ∀ h h',J h→(∀ b o,b ∉ wr→b≠S→h.get? b=some o→h'.get? b=some o)→J h') {s : Shared} {c : Nat} (hst : St 0 s.heap) (hj0 : J s.heap)
    (hS : s.heap.get? S=some { cls:=.type "list",dict:=none,data:=.seq #[] c,slots:=#[] })
    (h0 : n=0→∀ h' tk,(∀ b o,b ∉ wr→b≠S→s.heap.get? b=some o→h'.get? b=some o)→R (.ok (.ret d)) { s with heap:=h',toks:=tk })
    (hR : 0 < n→∀ v h' tk,P (argBest bt (n - 1)) v→(∀ b o,b ∉ wr→b≠S→s.heap.get? b=some o→h'.get? b=some o)→R (.ok (.ret v)) { s with heap:=h',toks:=tk }) :
    codeAny (model prog w) A (.builtin "max.loop" ⟨[.ref I,.none,.ref S],[(Str.ofString "default",d)]⟩) R s:=by
  have hSw : S ∉ wr:=fun h=>hSf (W.sub _ h)
  have hname : (toString "max" ++ toString ".loop" : String) = "max.loop" := by decide
  refine codeAny_builtin F.entry_max_loop ?_
  rw [Around.under_plainId F.plain_max_loop _]
  show wpAny _ A.in1 (seqItems? (.ref S) >>= _) _ _ s
  refine wpAny_bind (wpAny_seqItems hS rfl ?_)
  show wpAny _ A.in1 (tryCatch (pyNext (.ref I)) _ >>= _) _ _ s
  by_cases hn : n=0
  · subst hn
    refine wpAny_bind (wpAny_tryCatch (W.done s _ _ hst fun h' tk hk'=>?_))
    refine wpAny_bind (wpAny_rule ?_)
    exact wpAny_pure (h0 rfl h' tk fun b o hb _ e=>hk' b o hb e)
  refine wpAny_bind (wpAny_tryCatch (W.item 0 s _ _ (by omega) hst fun v h' tk hP hst' hk'=>?_))
  have hS':=hk' S _ hSw hS
  have hj1 : J h':=hJ _ _ hj0 fun b o hb _ e=>hk' b o hb e
  show wpAny _ A.in1 (updateSeq S (fun _=>#[v,v]) >>= _) _ _ _
  refine wpAny_bind ?_
  refine wpAny_updateSeq hS' rfl ?_
  rw [hname]
  refine wpAny_pure ⟨plainId_quiet F.plain_max_loop _,maxJ_loop W bt hcmp S hSf hJ _ 0 _ v _ rfl (by omega) (W.frame _ _ _ hst' fun b hbf o e=>?_) (hJ _ _ hj1 fun b o _ hbS e=>(Heap.get?_update_other _ _ (Ne.symm hbS)).trans e) hP (Heap.get?_update_self _ hS' rfl) fun v' h'' tk'' hP' hk''=>?_⟩
  · exact (Heap.get?_update_other _ _ (fun h : S=b=>hSf (by rw [h]; exact hbf))).trans e
  · exact hR (by omega) v' h'' tk'' hP' fun b o hbw hbS e=>hk'' b o hbw hbS ((Heap.get?_update_other _ _ (Ne.symm hbS)).trans (hk' b o hbw e))
end
section
variable {prog : Program} {w : World} {A : Around} {E : Value→Shared→Prop} {s : Shared}
theorem call_tree_kw {id : String} {b : Builtin} {args : List Value} {kw : List (Str×Value)} {Q : Value→Shared→Prop} (hk : builtinKind id=none) (hp : plainId id=true)
    (hb : entryFor table id=some b) (ha : argsOk id ⟨args,kw⟩)
    (hc : wpAny (model prog w) A.in1 (b ⟨args,kw⟩) (fun fin s'=>match fin with
      | .done f=>(match (Except.ok f : Result) with | .ok (.ret v)=>Q v s' | .ok _=>False | .error e=>E e s')
      | .again c'=>c'.quiet=true∧codeAny (model prog w) A c' (fun r s'=>match r with | .ok (.ret v)=>Q v s' | .ok _=>False | .error e=>E e s') s') E s) :
    wpAny (model prog w) A (call (.builtin id) args kw) Q E s:=by
  refine wpAny_call (codeAny_call_builtin hp hb ?_)
  simp only [checkBuiltinCall,hk]
  cases hsig : Manifest.signature? id with
  | none=>exact wpAny_pure hc
  | some sig=>
    have ha' : Bind.checkArgs id sig ⟨args,kw⟩=pure ():=by simpa only [argsOk,hsig] using ha
    simp only [ha']
    exact wpAny_pure hc
theorem max_tups {l : Addr} {bs : List Addr} {rs : List (List Int)} {d : Value} {Q : Value→Shared→Prop} (hh : A.handled=none) (hu : A.units + 2 < cLine) (hl : s.heap.IsList l (bs.map Value.ref).toArray) (t : TupsAt s.heap bs rs)
    (h0 : bs=[]→∀ h' tk,(∀ b o,s.heap.get? b=some o→h'.get? b=some o)→Q d { s with heap:=h',toks:=tk })
    (h : ∀ b h' tk,0 < bs.length→bs[argBest (fun i j=>HT.lexLt (rs.getD j []) (rs.getD i [])) (bs.length - 1)]? = some b→(∀ b o,s.heap.get? b=some o→h'.get? b=some o)→Q (.ref b) { s with heap:=h',toks:=tk }) :
    wpAny (model prog w) A (call (.builtin "max") [.ref l] [(Str.ofString "default",d)]) Q E s:=by
  have hname : (toString "max" ++ toString ".loop" : String) = "max.loop" := by decide
  refine call_tree_kw F.kind_max F.plain_max F.entry_max (args_maxD _ _) ?_
  show wpAny _ A.in1 (Builtin.Builtins.bindParams "max" ["key","default"] 0 ⟨[],[(Str.ofString "default",d)]⟩ >>= _) _ _ s
  refine wpAny_bind (wpAny_of_eq (show Builtin.Builtins.bindParams "max" ["key","default"] 0 ⟨[],[(Str.ofString "default",d)]⟩=pure [none,some d] from rfl) ?_)
  refine wpAny_bind (wpAny_pure ?_)
  have hlt : l < s.heap.objs.size:=by obtain ⟨_,e,_⟩:=hl; exact Heap.lt_size e
  refine wpAny_bind (wpAny_pyIter_list hl ?_)
  have hst : (s.heap.push { cls:=.type "list_iterator",data:=.fields #[.ref l,.int 0 0] }).IsListIter s.heap.objs.size l 0:=⟨_,Heap.get?_push_size _ rfl,rfl,rfl⟩
  have hl2:=hl.push { cls:=.type "list_iterator",data:=.fields #[.ref l,.int 0 0] }
  have hk0 : ∀ b o,s.heap.get? b=some o→(s.heap.push { cls:=.type "list_iterator",data:=.fields #[.ref l,.int 0 0] }).get? b=some o:=fun b o e=>Heap.get?_push_of_some _ e
  have hsz : (s.heap.push { cls:=.type "list_iterator",data:=.fields #[.ref l,.int 0 0] }).objs.size=s.heap.objs.size + 1:=Heap.size_push ..
  refine wpAny_bind (wpAny_newObj_type ?_)
  have hlow : ∀ b∈bs,b < s.heap.objs.size:=fun b hb=>by
    obtain ⟨k,hk,rfl⟩:=List.getElem_of_mem hb
    obtain ⟨its,⟨o,e,_⟩,_⟩:=t.2 k _ _ (List.getElem?_eq_getElem hk) (List.getElem?_eq_getElem (by rw [← t.1]; exact hk))
    exact Heap.lt_size e
  have hlI : l≠s.heap.objs.size:=Nat.ne_of_lt hlt
  have W:=Walks.list (prog:=prog) (w:=w) (A:=A.in1) hh s.heap.objs.size l hlI (bs.map Value.ref).toArray
  have keepT : ∀ {h h' : Heap},TupsAt h bs rs→(∀ b o,b ∉ [s.heap.objs.size]→b≠(s.heap.push { cls:=.type "list_iterator",data:=.fields #[.ref l,.int 0 0] }).objs.size→h.get? b=some o→h'.get? b=some o)→TupsAt h' bs rs:=fun {h h'} T k=>⟨T.1,fun i b r e1 e2=>by
    obtain ⟨its,⟨o,e,q⟩,ii⟩:=T.2 i b r e1 e2
    have hb:=hlow b (List.mem_of_getElem? e1)
    exact ⟨its,⟨o,k b o (by rw [List.mem_singleton]; exact Nat.ne_of_lt hb) (by rw [hsz]; exact Nat.ne_of_lt (Nat.lt_succ_of_lt hb)) e,q⟩,ii⟩⟩
  have hcmp : CmpJ prog w A.in1 (fun h=>TupsAt h bs rs) (fun i v=>(bs.map Value.ref).toArray[i]? = some v) (fun i j=>HT.lexLt (rs.getD j []) (rs.getD i [])):=by
    intro i j vi vj s' Q' E' T hi hj q
    have get : ∀ {k : Nat} {v : Value},(bs.map Value.ref).toArray[k]? = some v→∃ b its,v = .ref b∧IsTup s'.heap b its.toArray∧IntsAre its (rs.getD k []):=fun {k v} hk=>by
      rw [List.getElem?_toArray,List.getElem?_map] at hk
      cases e : bs[k]? with
      | none=>rw [e] at hk; cases hk
      | some b=>
        rw [e] at hk
        cases hk
        have hlt:=(List.getElem?_eq_some_iff.mp e).1
        have er : rs[k]? = some (rs.getD k []):=by rw [List.getD_eq_getElem?_getD,List.getElem?_eq_getElem (by rw [← T.1]; exact hlt)]; rfl
        obtain ⟨its,a1,a2⟩:=T.2 k b _ e er
        exact ⟨b,its,rfl,a1,a2⟩
    obtain ⟨b1,i1,rfl,a1,c1⟩:=get hi
    obtain ⟨b2,i2,rfl,a2,c2⟩:=get hj
    exact HT.gt_tupInts a1 a2 (by simpa using c1) (by simpa using c2) (by show A.units + 1 < cLine; omega) q
  have hSf : (s.heap.push { cls:=.type "list_iterator",data:=.fields #[.ref l,.int 0 0] }).objs.size ∉ [s.heap.objs.size,l]:=fun hm=>by
    rw [hsz] at hm
    rcases List.mem_cons.mp hm with z | z
    · exact Nat.succ_ne_self _ z
    · have:=List.mem_singleton.mp z
      exact absurd hlt (by rw [← this]; exact Nat.not_lt.mpr (Nat.le_succ _))
  rw [hname]
  have hsz2 : (bs.map Value.ref).toArray.size=bs.length:=by simp
  refine wpAny_pure ⟨plainId_quiet F.plain_max_loop _,maxJ_first W _ hcmp _ hSf (fun h h' T k=>keepT T k) (W.frame _ _ _ ⟨hst,hl2⟩ fun b _ o e=>Heap.get?_push_of_some _ e) ?_ (Heap.get?_push_size _ rfl) (fun hn h' tk hk=>?_) (fun hn v h' tk hP hk=>?_)⟩
  · exact ⟨t.1,fun i b r e1 e2=>by
      obtain ⟨its,⟨o,e,q⟩,ii⟩:=t.2 i b r e1 e2
      exact ⟨its,⟨o,Heap.get?_push_of_some _ (hk0 _ _ e),q⟩,ii⟩⟩
  · exact h0 (List.length_eq_zero_iff.mp (by rw [← hsz2]; exact hn)) h' tk fun b o e=>hk b o (by rw [List.mem_singleton]; exact Nat.ne_of_lt (Heap.lt_size e)) (by rw [hsz]; exact Nat.ne_of_lt (Nat.lt_succ_of_lt (Heap.lt_size e))) (Heap.get?_push_of_some _ (hk0 _ _ e))
  · rw [hsz2] at hP hn
    rw [List.getElem?_toArray,List.getElem?_map] at hP
    cases e : bs[argBest (fun i j=>HT.lexLt (rs.getD j []) (rs.getD i [])) (bs.length - 1)]? with
    | none=>rw [e] at hP; cases hP
    | some b=>
      rw [e] at hP
      cases hP
      exact h b h' tk hn e fun b o e=>hk b o (by rw [List.mem_singleton]; exact Nat.ne_of_lt (Heap.lt_size e)) (by rw [hsz]; exact Nat.ne_of_lt (Nat.lt_succ_of_lt (Heap.lt_size e))) (Heap.get?_push_of_some _ (hk0 _ _ e))
end
theorem lex_eq : ∀ a b : List Int,HT.lexLt a b=lexB a b
  | [],[]=>rfl
  | [],_ :: _=>rfl
  | _ :: _,[]=>rfl
  | x :: xs,y :: ys=>by
    show (if x=y then HT.lexLt xs ys else _)=(if x=y then lexB xs ys else _)
    rw [lex_eq xs ys]
theorem argBest_max (f : Nat→List Int) : ∀ n : Nat,argBest (fun i j=>HT.lexLt (f j) (f i)) n≤n∧∀ j,j≤n→lexB (f (argBest (fun i j=>HT.lexLt (f j) (f i)) n)) (f j)=false
  | 0 => ⟨Nat.le_refl _, fun j hj => by have : j = 0 := by omega
                                        subst this; exact lex_irr _⟩
  | n + 1=>by
    obtain ⟨h1,h2⟩:=argBest_max f n
    unfold argBest
    generalize argBest (fun i j=>HT.lexLt (f j) (f i)) n=k at *
    cases e : HT.lexLt (f k) (f (n + 1)) with
    | true=>
      rw [if_pos rfl]
      refine ⟨Nat.le_refl _,fun j hj=>?_⟩
      rw [lex_eq] at e
      by_cases z : j=n + 1
      · subst z; exact lex_irr _
      · exact lex_tr (h2 j (by omega)) (lex_asy e)
    | false=>
      rw [if_neg (by decide)]
      refine ⟨by omega,fun j hj=>?_⟩
      rw [lex_eq] at e
      by_cases z : j=n + 1
      · subst z; exact e
      · exact h2 j (by omega)
def rMaxD : V→V→Hp→VK→Prop:=fun x y H Q=>∃ (p : Addr) (rs : List (List Int)),x = .ref p∧Rows H p rs∧(rs=[]→Q y H)∧∀ b r,r∈rs→(∀ r'∈rs,lexB r r' = false)→H b=some (.tup (r.map V.int))→Q (.ref b) H
def tMaxD (te td : TE) : TE:=fun σ H Q=>te σ H fun x H1=>td σ H1 fun y H2=>rMaxD x y H2 Q
theorem pe_maxD {X : Cx} {e d : Expr} {te td : TE} {npos kpos pos : PySem.Pos} (hc : X.calm=true) (hu : X.A.units + 64 < cLine) (ha : PA X [e] (tCons te tNil)) (hd : PE X d td) (hg : Gl X "max") (hm : X.mg "max" = none) (hv : bootBuiltins "max" = some (.builtin "max"))
    (he : backTo pos (starEach [e] X.env)=(false,eval e X.env) :: backTo pos (starEach [] X.env):=by rfl) (hpl : (backTo pos (starEach [e] X.env)).any (·.1)=false:=by rfl) :
    PE X (.Call (.Name "max" npos) [e] [⟨some (Str.ofString "default"),d,kpos⟩] pos) (tMaxD te td):=by
  intro pins s σ H Q I h
  refine wpAny_Call_Name_kw (ld_blt I hg hm hv ?_ (by decide) (by decide))
  refine callWith_kw (thn (ha pos pins s σ H (fun vs H1=>match vs with | [v]=>td σ H1 fun y H2=>rMaxD v y H2 Q | _=>False) I h) fun us s1 ⟨vs,H1,I1,r1,q1⟩=>?_) he hpl
  obtain ⟨v,rfl⟩ : ∃ v,vs=[v]:=by
    match vs,q1 with
    | [v],_=>exact ⟨v,rfl⟩
  obtain ⟨u,rfl,ru⟩:=r1.one
  show wpAny _ _ (evalAll ((do let v ← eval d X.env; standAt pos; pure v) :: [])) _ _ s1
  refine wpAny_evalAll_cons (wpAny_bind (thn (hd pins s1 σ H1 _ I1 q1) fun dv s2 ⟨y,H2,I2,r2,q2⟩=>?_))
  refine wpAny_bind (wpAny_standAt (wpAny_pure (wpAny_evalAll_nil ?_)))
  obtain ⟨p,rs,rfl,hR,q0,q⟩:=q2
  cases ru
  show wpAny _ _ (call (.builtin "max") [.ref p] [(Str.ofString "default",dv)]) _ _ s2
  obtain ⟨ps,h1,h2,h3⟩:=id hR
  obtain ⟨its,rv,pl,hz⟩:=I2.list (SqL.of h1)
  have eits : its=ps.map Value.ref:=by
    clear hz pl h1 h2 h3 hR
    induction ps generalizing its with
    | nil=>cases rv; rfl
    | cons a r ih=>
      cases rv with
      | cons x t=>rw [show _=Value.ref a from x,ih _ t]; rfl
  subst eits
  have tt : TupsAt s2.heap ps rs:=⟨h2,fun i b r e1 e2=>by
    obtain ⟨_,us,rr,y⟩:=(show ObjOk X.prog X.w H2 s2.heap b (.tup (r.map V.int)) from I2.hok b _ (h3 i b r e1 e2))
    exact ⟨us,y,ints_of rr⟩⟩
  refine max_tups (I2.ok.hd hc) (by omega) pl.isList tt (fun z h' tk hk=>?_) fun b h' tk hn eb hk=>?_
  · subst z
    exact ⟨y,H2,I2.kept (t':=tk) hk,r2,q0 (List.length_eq_zero_iff.mp h2.symm)⟩
  · obtain ⟨m1,m2⟩:=argBest_max (fun i=>rs.getD i []) (ps.length - 1)
    generalize argBest (fun i j=>HT.lexLt (rs.getD j []) (rs.getD i [])) (ps.length - 1)=k at *
    have hk' : k < rs.length:=by omega
    have er : rs[k]? = some (rs.getD k []):=by rw [List.getD_eq_getElem?_getD,List.getElem?_eq_getElem hk']; rfl
    refine ⟨.ref b,H2,I2.kept (t':=tk) hk,rfl,q b (rs.getD k []) (List.mem_of_getElem? er) (fun r' hr'=>?_) (h3 k b _ eb er)⟩
    obtain ⟨j,hj,rfl⟩:=List.getElem_of_mem hr'
    have:=m2 j (by omega)
    rw [List.getD_eq_getElem?_getD (l:=rs) (i:=j),List.getElem?_eq_getElem hj] at this
    exact this
end L2
namespace L2
open PySem PySem.Spec PySem.W PyProof.Rows
section
variable {X : Cx} {pins : List (Addr×Obj)} {σ : St} {H : Hp} {s : Shared}
end
end L2
namespace L2
open PySem PySem.Spec PySem.W PyProof.Rows
section
variable {X : Cx} {pins : List (Addr×Obj)} {σ : St} {H : Hp} {s : Shared} {N' : List Str} {ix : List (Option Nat)} {p q : Str} {scope : Scope}
end
end L2
namespace L2
open PySem PySem.Spec PySem.W PyProof.Rows
section
variable {X : Cx} {pins : List (Addr×Obj)} {σ : St} {H : Hp} {s : Shared}
end
end L2
namespace L2
open PySem PySem.Spec PySem.W PyProof.Rows
end L2
namespace L2
def S : List (Int×Int)→Int→Int→Int
  | [],_,_=>0
  | p :: r,f,l=>(if f≤p.1∧p.1≤l then p.2 else 0) + S r f l
end L2
namespace L2
open PySem PySem.Spec PyProof.Rows
section
variable {κ : Type} [DecidableEq κ]
end
section
variable {P : Program} {w : World} {H : Hp} {h : Heap} {a : Addr}
end
section
variable {X : Cx} {pins : List (Addr×Obj)} {σ : St} {H : Hp} {s : Shared} {a : Addr} {y v : V} {u r : Value} {o : Option V} {A : Around} {E : Value→Shared→Prop}
end
section
variable {X : Cx} {pins : List (Addr×Obj)} {σ : St} {H : Hp} {s : Shared} {a : Addr} {kvs : List (Key×V)} {k : Key} {u : Value} {A : Around} {E : Value→Shared→Prop}
end
section
variable {X : Cx} {o i e value : Expr} {pos pos' tpos : Pos} {td ty tv : TE}
end
section
variable {X : Cx} {pos : Pos}
end
section
variable {X : Cx} {pins : List (Addr×Obj)} {σ : St} {H : Hp} {s : Shared} {a : Addr} {y d : V} {u r : Value} {o : Option V} {A : Around} {E : Value→Shared→Prop}
end
section
variable {X : Cx} {o e f : Expr} {apos cpos : Pos} {td ty tx : TE}
end
section
variable {X : Cx} {pins : List (Addr×Obj)} {σ : St} {H : Hp} {s : Shared} {a : Addr} {kvs : List (Key×V)} {A : Around} {E : Value→Shared→Prop}
end
section
variable {X : Cx} {pins : List (Addr×Obj)} {σ : St} {H : Hp} {s : Shared} {a : Addr} {y : V} {u : Value} {A : Around} {E : Value→Shared→Prop}
end
end L2
namespace L2
open PySem PySem.Spec PyProof.Rows
section
variable {X : Cx} {pins : List (Addr×Obj)} {σ : St} {H : Hp} {s : Shared}
end
section
variable {X : Cx} {N' : List Str} {ix : List (Option Nat)} {scope : Scope} {kx vx tg iter : Expr} {ifs : List Expr} {pos : Pos} {wi : TI} {g : TG} {ti : TT} {tk tv : TE}
end
end L2
namespace L2
open PySem PySem.Spec PyProof.Rows
section
variable {prog : Program} {w : World} {A : Around} {E : Value→Shared→Prop} {s : Shared}
end
section
variable {prog : Program} {w : World} {A : Around} {E : Value→Shared→Prop} {s : Shared}
end
section
variable {X : Cx} {es : List Expr} {x1 : Nat} {tp : Pos} {oe : Expr} {td : TE} {apos cpos : Pos}
end
section
variable {X : Cx} {tg : Expr} {oe : Expr} {td : TE} {apos cpos : Pos}
end
end L2
namespace L2
open PySem PySem.Spec PyProof.Rows
section
variable {prog : Program} {w : World} {A : Around} {R : Result→Shared→Prop} {s : Shared}
end
section
variable {X : Cx} {N' : List Str} {ix : List (Option Nat)} {scope : Scope} {elt tg iter : Expr} {ifs : List Expr} {pos : Pos} {wi : TI} {g : TG} {ti : TT} {te : TE}
variable {t1 i1 : Expr} {wi1 : TI} {g1 : TG}
end
end L2
namespace L2
open PySem PySem.Spec PyProof.Rows
end L2
namespace L2
open PySem PySem.Spec PyProof.Rows
section
variable {prog : Program} {w : World} {A : Around} {E : Value→Shared→Prop} {s : Shared}
end
end L2
namespace L2
open PySem PySem.Spec PyProof.Rows
section
variable {prog : Program} {w : World} {A : Around} {R : Result→Shared→Prop} {s : Shared}
end
section
variable {X : Cx} {N' : List Str} {ix : List (Option Nat)} {scope : Scope} {elt tg iter : Expr} {ifs : List Expr} {pos : Pos} {wi : TI} {g : TG} {ti : TT} {te : TE}
end
end L2
namespace L2
open PySem PySem.Spec PyProof.Rows
section
variable {prog : Program} {w : World} {A : Around} {E : Value→Shared→Prop} {s : Shared}
end
section
variable {prog : Program} {w : World} {A : Around} {E : Value→Shared→Prop} {s : Shared}
end
end L2
namespace L2
open PySem PySem.Spec PyProof.Rows
section
variable {prog : Program} {w : World} {A : Around} {E : Value→Shared→Prop} {s : Shared}
end
end L2
namespace L2
open PySem PySem.Spec PySem.W PyProof.Rows
variable {X : Cx}
end L2
namespace L2
open PySem PySem.Spec PySem.W PyProof.Rows
section
variable {prog : Program} {w : World} {A : Around} {E : Value→Shared→Prop} {s : Shared}
end
end L2
namespace L2
open PySem PySem.Spec PySem.W PyProof.Rows
section
variable {X : Cx}
end
end L2
namespace L2
open PySem PySem.Spec PySem.W PyProof.Rows
section
variable {o : Obj} {kvs : List (List Key×V)} {a D : Addr} {g : TG} {ti : TT} {te tk tv : TE} {σ₀ : St} {H1 : Hp} {R : Hp→Prop}
end
end L2
namespace L2
open PySem PySem.Spec PySem.W PyProof.Rows
end L2
namespace L2
end L2
namespace L2
open PySem PySem.Spec PySem.W PyProof.Rows
def Within (rs : List (List Int)) (cs : List Int) : Prop:=∀ (j : Nat) u,cs[j]? = some u→0≤u∧u≤colAt rs 1 (j : Int)
end L2
namespace L2
open PySem PySem.Spec PySem.W PyProof.Rows
end L2
namespace L2
open PySem PySem.Spec PySem.W PyProof.Rows
end L2
namespace L2
open PySem PySem.Spec PySem.W PyProof.Rows
end L2
namespace L2
abbrev Quad:=Int×Int×Int×Int
def SX (f l : Int) : List Quad→Int
  | []=>0
  | (d,c,x,y) :: Z=>(if f≤d∧d≤l then x else 0) + SX f l Z
def one (d x : Int) (Ts : List (Int×Int)) : Int:=(Ts.map fun T=>if T.1≤d∧d≤T.2 then x else 0).sum
def CX (Ts : List (Int×Int)) (Z : List Quad) : Int:=(Ts.map fun T=>SX T.1 T.2 Z).sum
end L2
namespace L2
end L2
namespace L2
end L2
namespace L2
end L2
namespace L2
end L2
namespace L2
end L2
namespace L2
open PySem PySem.Spec PySem.W PyProof.Rows
end L2
namespace L2
open PySem PySem.Spec PySem.W PyProof.Rows
section
variable {K : PySem.W.Frag} {a c x D : Addr} {g : TG} {te : TE} {σ₀ : St} {H1 : Hp} {R : Hp→Prop}
end
theorem comp_byD {K : PySem.W.Frag} {a D : Addr} {xs : List V} {g : TG} {te : TE} {σ₀ : St} {H1 : Hp} {R : Hp→Prop} (P : Nat→List V→Hp→Prop) (hD : H1 D=none) (hx : H1 a=some (.lst xs)) (hn : xs.length≤1000)
    (st : ∀ i zs H H',P i zs H→(H D=none∨∃ l,H D=some (.lst l))→(∀ b o,b≠D→H b=some o→H' b=some o)→P i zs H') (h0 : P 0 [] H1)
    (step : ∀ i x zs H,xs[i]? = some x→H D=some (.lst zs)→Same H1 H→P i zs H→∀ K1 : V→Hp→Prop,(∀ y H4,Same H H4→P (i + 1) (zs ++ [y]) H4→K1 y H4)→
      g x σ₀ H fun σ2 H2=>(∀ (k : Nat) v,σ₀[k]? = some (some v)→σ2[k]? = some (some v))∧te σ2 H2 K1)
    (fin : ∀ zs H,Same H1 H→P xs.length zs H→zs.length=xs.length→H D=some (.lst zs)→R H) :
    ∃ W : Nat→Nat→Hp→Prop,(∃ m,W 0 m (upd H1 D (.lst [])))∧∀ i m H,W i m H→((Itl K a).stop i H∧R H)∨((Itl K a).go i H∧∀ x H',(Itl K a).yld i H x H'→g x σ₀ H' fun σ2 H2=>(∀ (k : Nat) v,σ₀[k]? = some (some v)→σ2[k]? = some (some v))∧tIf0 σ2 H2 fun b H3=>
      if b=true then te σ2 H3 fun y H4=>∃ zs,H4 D=some (.lst zs)∧zs.length < sizeLine∧∃ m',m' < m∧W (i + 1) m' (upd H4 D (.lst (zs ++ [y]))) else ∃ m',m' < m∧W (i + 1) m' H3):=by
  refine ⟨fun i m H=>i + m=xs.length∧Same H1 H∧∃ zs,H D=some (.lst zs)∧zs.length=i∧P i zs H,⟨xs.length,by omega,same_new hD _,[],upd_same,rfl,st _ _ _ _ h0 (.inl hD) fun b o hb e=>by rw [upd_ne hb]; exact e⟩,?_⟩
  rintro i m H ⟨him,s1,zs,hz,hl,hp⟩
  have ex:=s1 _ _ hx
  by_cases hi : i < xs.length
  · refine .inr ⟨⟨xs,_,SqL.of ex,List.getElem?_eq_getElem hi⟩,?_⟩
    rintro x H' ⟨rfl,hy⟩
    refine step i x zs H' (hy _ (SqL.of ex)) hz s1 hp _ fun y H4 s4 p4=>⟨zs,s4 _ _ hz,small1000 (by omega),m - 1,by omega,by omega,(s1.trans s4).young hD,zs ++ [y],upd_same,by rw [List.length_append,List.length_singleton]; omega,st _ _ _ _ p4 (.inr ⟨_,s4 _ _ hz⟩) fun b o hb e=>by rw [upd_ne hb]; exact e⟩
  · have e : i=xs.length:=by omega
    subst e
    exact .inl ⟨⟨xs,SqL.of ex,Nat.le_refl _⟩,fin zs H s1 hp hl hz⟩
theorem Tups.cat {H : Hp} {xs ys : List V} {rs qs : List (List Int)} (h : Tups H xs rs) (h' : Tups H ys qs) : Tups H (xs ++ ys) (rs ++ qs):=by
  obtain ⟨h1,h2⟩:=h
  obtain ⟨g1,g2⟩:=h'
  refine ⟨by rw [List.length_append,List.length_append,h1,g1],fun i x r e1 e2=>?_⟩
  by_cases c : i < xs.length
  · rw [List.getElem?_append_left c] at e1
    rw [List.getElem?_append_left (by omega)] at e2
    exact h2 i x r e1 e2
  · rw [List.getElem?_append_right (by omega)] at e1
    rw [List.getElem?_append_right (by omega),← h1] at e2
    exact g2 _ x r e1 e2
end L2
namespace HT
open PySem PySem.Spec PyProof.Rows
variable {prog : Program} {w : World} {A : Around} {E : Value→Shared→Prop} {s : Shared}
end HT
namespace L2
open PySem PySem.Spec PyProof.Rows
end L2
namespace L2
open PySem PySem.Spec PySem.W PyProof.Rows
end L2
namespace L2
open PySem
def nmF : Option Nat→Str
  | none => ""
  | some 1 => "BadDay"
  | some 2 => "BadTerm"
  | some 3 => "BadCount"
  | some 4 => "BadDuty"
  | some 5 => "BadRows"
  | some 6 => "BadStretch"
  | some 7 => "BadTaken"
  | some 8 => "NotDealable"
  | some _ => "NoPlace"
def flags (ks : List Nat) (n : Nat) : List V:=ks.map fun j=>.bl (decide (n=j))
theorem idx_at {ks : List Nat} {n : Nat} (h : n∈ks) : ks[ks.idxOf n]? = some n:=by
  have hl : ks.idxOf n < ks.length:=List.idxOf_lt_length_iff.mpr h
  rw [List.getElem?_eq_getElem hl,List.getElem_idxOf hl]
theorem flags_at {ks : List Nat} {n : Nat} (h : n∈ks) : ∃ z,(flags ks n)[ks.idxOf n]? = some z∧eqV z (.bl true)=true:=
  ⟨.bl (decide (n=n)),by unfold flags; rw [List.getElem?_map,idx_at h]; rfl,by rw [decide_eq_true rfl]; rfl⟩
theorem flags_not {ks : List Nat} {n : Nat} : ∀ (m : Nat) z,m < ks.idxOf n→(flags ks n)[m]? = some z→eqV z (.bl true)=false:=fun m z hm hz=>by
  obtain ⟨j,hj,rfl⟩ : ∃ j,ks[m]? = some j∧V.bl (decide (n=j))=z:=by
    unfold flags at hz
    rw [List.getElem?_map] at hz
    cases e : ks[m]? with
    | none=>rw [e] at hz; cases hz
    | some j=>rw [e] at hz; exact ⟨j,rfl,Option.some.inj hz⟩
  have hl : m < ks.length:=(List.getElem?_eq_some_iff.mp hj).1
  have e:=(List.getElem?_eq_some_iff.mp hj).2
  have:=List.not_of_lt_findIdx (p:=(· == n)) (xs:=ks) hm
  rw [e] at this
  have ne : n≠j:=fun z=>by rw [z,beq_self_eq_true] at this; cases this
  rw [decide_eq_false ne]; rfl
theorem flags_count {n : Nat} : ∀ {ks : List Nat},n∈ks→ks.Nodup→((flags ks n).countP fun z=>eqV z (.bl true))=1
  | j :: ks,h,nd=>by
    rw [List.nodup_cons] at nd
    show ((V.bl (decide (n=j)) :: flags ks n).countP fun z=>eqV z (.bl true))=1
    by_cases z : n=j
    · subst z
      rw [List.countP_cons,decide_eq_true rfl]
      have : (flags ks n).countP (fun z=>eqV z (.bl true))=0:=by
        rw [List.countP_eq_zero]
        intro v hv
        obtain ⟨j,hj,rfl⟩:=List.mem_map.mp hv
        have ne : n≠j:=fun z=>nd.1 (z ▸ hj)
        rw [decide_eq_false ne]; decide
      rw [this]; rfl
    · rw [List.countP_cons,decide_eq_false z,flags_count ((List.mem_cons.mp h).resolve_left z) nd.2]; rfl
theorem names_at {ks : List Nat} {n : Nat} (h : n∈ks) : atI (ks.map fun n=>V.str (nmF (some n))) ((ks.idxOf n : Nat) : Int)=some (.str (nmF (some n))):=
  atI_nat (by rw [List.getElem?_map,idx_at h]; rfl)
def saidE (ks : List Nat) (H : Hp) (cl : Nat→Addr) (o : Option Nat) : XK:=fun cls _ H1=>Same H H1∧∃ n : Nat,n∈ks∧cls = .ref (cl n)∧o=some n
theorem saidP {ks : List Nat} {K : PySem.W.Frag} {cl : Nat→Addr} {H : Hp} {o : Option Nat} (Y : XcL K cl ks) : ∀ cls H1,saidE ks H cl o cls none H1→(∃ D,cls = .ref D)∧PySem.W.exmOne K cls (.ref (cl 0))=some true:=fun cls H1 h=>by
  obtain ⟨_,n,hn,rfl,_⟩:=h
  exact ⟨⟨_,rfl⟩,Y.m _ hn⟩
end L2
namespace L2
open PySem
def payBad (r : List Int) : Option Nat:=if inB (r.getD 0 0) 999 then (if r.getD 1 0 < 1 then some 3 else none) else some 1
def paysBad (rs : List (List Int)) : Option Nat:=rs.findSome? payBad
def paidNo (rs : List (List Int)) : Option Nat:=if 60 < rs.length then some 5 else paysBad rs
theorem paysBad_take {rs : List (List Int)} {i : Nat} {r : List Int} (h : paysBad (rs.take i)=none) (e : rs[i]? = some r) (b : payBad r=none) : paysBad (rs.take (i + 1))=none:=by
  unfold paysBad at *
  rw [List.findSome?_eq_none_iff] at *
  intro x hx
  rw [List.take_succ,e] at hx
  rcases List.mem_append.mp hx with z | z
  · exact h x z
  · rw [show x=r by simpa using z]; exact b
theorem paysBad_hit {rs : List (List Int)} {i n : Nat} {r : List Int} (h : paysBad (rs.take i)=none) (e : rs[i]? = some r) (b : payBad r=some n) : paysBad rs=some n:=by
  obtain ⟨hi,e'⟩:=List.getElem?_eq_some_iff.mp e
  unfold paysBad at *
  rw [← List.take_append_drop i rs,List.findSome?_append,h,List.drop_eq_getElem_cons hi,e',List.findSome?_cons,b]; rfl
def spChkPaid (cl : Nat→Addr) : Sp:=fun vs H Q E=>∃ (a : Addr) (rs : List (List Int)),vs=[.ref a]∧Rows H a rs∧(∀ r∈rs,r.length=2)∧(∀ n,paidNo rs=some n→∀ H',Same H H'→E (.ref (cl n)) none H')∧(paidNo rs=none→∀ l H',H l=none→Same H H'→Rows H' l rs→Q (.ref l) H')
def payB (wt day : Int) (r : List Int) : Bool:=decide (day - wt≤r.getD 0 0∧r.getD 0 0≤day)
def sumFor (rs : List (List Int)) (wt day : Int) : Int:=((rs.filter (payB wt day)).map fun r=>r.getD 1 0).sum
def spSumFor : Sp:=fun vs H Q _=>∃ (a : Addr) (rs : List (List Int)) (wt day : Int),vs=[.ref a,.int wt,.int day]∧Rows H a rs∧(∀ r∈rs,r.length=2)∧rs.length≤100∧∀ H',Same H H'→Q (.int (sumFor rs wt day)) H'
def vouNo (rs : List (List Int)) (wt : Int) : Option Nat:=match paidNo rs with
  | some n=>some n
  | none=>if okTerm wt then none else some 2
def spVouched (cl : Nat→Addr) : Sp:=fun vs H Q E=>∃ (a : Addr) (rs : List (List Int)) (wt day : Int),vs=[.ref a,.int wt,.int day]∧Rows H a rs∧(∀ r∈rs,r.length=2)∧(∀ n,vouNo rs wt=some n→∀ H',Same H H'→E (.ref (cl n)) none H')∧
  (vouNo rs wt=none→(¬ inB day 999→∀ H',Same H H'→E (.ref (cl 1)) none H')∧(inB day 999→∀ H',Same H H'→Q (.int (sumFor rs wt day)) H'))
def SureIs (rs : List (List Int)) (wt g d : Int) : Prop:=(rs=[]→g=0∧d=0)∧(rs≠[]→(∃ r∈rs,r.getD 0 0=d)∧g=sumFor rs wt d∧∀ r∈rs,sumFor rs wt (r.getD 0 0) < g∨(sumFor rs wt (r.getD 0 0)=g∧d≤r.getD 0 0))
def spSurety (cl : Nat→Addr) : Sp:=fun vs H Q E=>∃ (a : Addr) (rs : List (List Int)) (wt : Int),vs=[.ref a,.int wt]∧Rows H a rs∧(∀ r∈rs,r.length=2)∧(∀ n,vouNo rs wt=some n→∀ H',Same H H'→E (.ref (cl n)) none H')∧
  (vouNo rs wt=none→∀ g d t H',SureIs rs wt g d→Same H H'→H' t=some (.tup [.int g,.int d])→H t=none→Q (.ref t) H')
theorem vouNo_p {rs : List (List Int)} {wt : Int} {n : Nat} (h : paidNo rs=some n) : vouNo rs wt=some n:=by unfold vouNo; rw [h]
theorem vouNo_t {rs : List (List Int)} {wt : Int} (h : paidNo rs=none) : vouNo rs wt=if okTerm wt then none else some 2:=by unfold vouNo; rw [h]
theorem paidNo_len {rs : List (List Int)} (h : paidNo rs=none) : rs.length≤60:=by
  unfold paidNo at h
  split at h
  · cases h
  · omega
end L2
namespace K31
open PySem L2
abbrev s_checked_paid : Stmt:=top 15
abbrev n_checked_paid : List Str:=["paid","told","day","coins"]
abbrev p_checked_paid : List Str:=["paid"]
theorem sc_checked_paid : FnScope n_checked_paid p_checked_paid (defScope s_checked_paid):=⟨rfl,rfl,rfl,by decide +kernel,rfl,by decide +kernel,by decide +kernel⟩
abbrev s_sum_for : Stmt:=top 16
abbrev n_sum_for : List Str:=["paid","wait","day"]
abbrev p_sum_for : List Str:=["paid","wait","day"]
theorem sc_sum_for : FnScope n_sum_for p_sum_for (defScope s_sum_for):=⟨rfl,rfl,rfl,by decide +kernel,rfl,by decide +kernel,by decide +kernel⟩
abbrev s_vouched : Stmt:=top 17
abbrev n_vouched : List Str:=["paid","wait","day","rows"]
abbrev p_vouched : List Str:=["paid","wait","day"]
theorem sc_vouched : FnScope n_vouched p_vouched (defScope s_vouched):=⟨rfl,rfl,rfl,by decide +kernel,rfl,by decide +kernel,by decide +kernel⟩
abbrev s_surety : Stmt:=top 18
abbrev n_surety : List Str:=["paid","wait","rows","sums","greatest","turned"]
abbrev p_surety : List Str:=["paid","wait"]
theorem sc_surety : FnScope n_surety p_surety (defScope s_surety):=⟨rfl,rfl,rfl,by decide +kernel,rfl,by decide +kernel,by decide +kernel⟩
section
variable {P : Program} {w : World} {K : PySem.W.Frag} {mg : Str→Option Value} {base : Heap} {f : Addr} {fd : FuncData} {cl : Nat→Addr} (T : Txt K mg cl) (B : Bn mg)
include T B
theorem ok_checked_paid (G_check_day : Cal P w K mg base (CXE P w) 2 "check_day" p_check_day (spIn (cl 1) 999)) (F : Fun K "checked_paid" "checked_paid" s_checked_paid f fd) : FnOk P w K mg base (CXE P w) 3 f fd p_checked_paid (spChkPaid cl):=by
  refine F.okE sc_checked_paid (fun vs H Q E h=>?_) (fun cdv A outer s H vs Q E hr h=>?_)
  · obtain ⟨a,rs,rfl,_⟩:=h; rfl
  obtain ⟨a,rs,rfl,hR,h2,q1,q2⟩:=h
  refine ⟨_,(pss_cons (ps_if (pt_cmpR op_gt (pe_callB call_len_seq rfl B.len PySem.boot_len (pa_c (pv 0) pa_nil)) (pe_glI rfl T.MOST_PAID) (nomark _)) (pss_one (ps_raise (E:=E) rfl T.gBadRows T.eBadRows PySem.F.excBase_ValueError rfl makesE (pa_c pe_str pa_nil))) pss_nil)
    (pss_cons (ps_set (i:=1) sc_checked_paid.nd rfl (Or.inl rfl) (pe_lst pa_nil))
    (pss_cons (ps_for PassesOwn.leaving rfl (pi_list (pv 0)) (pg_tup rfl (pgs_cons (pg_name (i:=2) sc_checked_paid.nd rfl (Or.inl rfl)) (pgs_cons (pg_name (i:=3) sc_checked_paid.nd rfl (Or.inl rfl)) pgs_nil))) (pss_cons (ps_expr (pe_cal (E:=E) G_check_day hr rfl (passE fun _ _ z=>z) (pa_c (pv 2) pa_nil)))
      (pss_cons (ps_if (pt_cmpR op_lt (pv 3) pe_int (nomark _)) (pss_one (ps_raise (E:=E) rfl T.gBadCount T.eBadCount PySem.F.excBase_ValueError rfl makesE (pa_c pe_str pa_nil))) pss_nil)
      (pss_one (ps_expr (pe_bm PySem.F.plainAttrs_list PySem.F.slot_list_append PySem.F.type_list_append mt_append (pv 1) (pa_c (pe_tup (pa_c (pv 2) (pa_c (pv 3) pa_nil))) pa_nil)))))))
    (pss_one (ps_ret (pv 1)))))),?_⟩
  obtain ⟨xs,ex,exl,exi⟩:=hR.get
  refine ⟨_,rfl,a,_,rfl,.inl (SqL.of ex),_,_,rfl,rfl,_,rfl,?_⟩
  by_cases c : (60 : Int) < xs.length
  · rw [decide_eq_true c]
    exact iteT ⟨by show 1≤sizeLine; decide,q1 5 (by unfold paidNo; rw [if_pos (by omega)]) H (Same.refl H)⟩
  rw [decide_eq_false c]
  have c60 : ¬ 60 < rs.length:=by omega
  refine iteF ?_
  refine ⟨by show 0≤sizeLine; decide,fun l hl=>?_⟩
  refine ⟨_,rfl,a,rfl,⟨xs,SqL.of (by rw [upd_ne (ne_of_none ex hl)]; exact ex)⟩,?_⟩
  refine for_list (xs:=xs) (fun i σ H3=>∃ o2 o3,σ=[some (.ref a),some (.ref l),o2,o3]∧Same H H3∧Rows H3 l (rs.take i)∧paysBad (rs.take i)=none) ⟨_,_,rfl,same_new hl _,Rows.nil upd_same,rfl⟩ ?_ ?_ ?_
  · rintro i σ H3 hi ⟨o2,o3,rfl,sm,_⟩
    exact SqL.of (sm _ _ ex)
  · rintro i x σ H3 exi' ⟨o2,o3,rfl,sm,R3,hb⟩
    obtain ⟨p,r,rfl,er,hp⟩:=exi i x exi'
    obtain ⟨d,c,rfl⟩:=len2 (h2 r (List.mem_of_getElem? er))
    refine ⟨p,_,rfl,SqT.of (sm _ _ hp),rfl,_,_,rfl,_,_,rfl,rfl,?_⟩
    have bad : ∀ n,payBad [d,c]=some n→E (.ref (cl n)) none H3:=fun n e=>q1 n (by unfold paidNo; rw [if_neg c60]; exact paysBad_hit hb er e) H3 sm
    refine ⟨_,rfl,d,rfl,fun c1=>?_,fun c1=>bad 1 (by show (if inB d 999 then _ else _)=_; rw [if_neg c1])⟩
    refine ⟨_,rfl,_,_,rfl,rfl,_,rfl,?_⟩
    by_cases c2 : c < 1
    · rw [decide_eq_true c2]
      exact iteT ⟨by show 1≤sizeLine; decide,bad 3 (by show (if inB d 999 then (if c < 1 then some 3 else none) else _)=_; rw [if_pos c1,if_pos c2])⟩
    rw [decide_eq_false c2]
    refine iteF ?_
    have good : payBad [d,c]=none:=by show (if inB d 999 then (if c < 1 then some 3 else none) else _)=_; rw [if_pos c1,if_neg c2]
    obtain ⟨ys,ey,eyl,_⟩:=R3.get
    refine ⟨_,rfl,.inl ⟨rfl,_,SqL.of ey⟩,?_⟩
    refine ⟨_,rfl,_,rfl,by show 2≤sizeLine; decide,fun t ht=>?_⟩
    refine ⟨l,ys,.ref t,rfl,rfl,by rw [upd_ne (ne_of_none ey ht)]; exact ey,small1000 (by rw [eyl,List.length_take]; omega),?_⟩
    refine ⟨_,_,rfl,(sm.trans (same_new ht _)).young hl,?_,paysBad_take hb er good⟩
    rw [← take_next er]
    exact R3.push (r:=[d,c]) ey ht
  · rintro σ H3 ⟨o2,o3,rfl,sm,R3,hb⟩
    rw [exl,List.take_length] at R3 hb
    exact ⟨_,rfl,q2 (by unfold paidNo; rw [if_neg c60]; exact hb) l H3 hl sm R3⟩
theorem ok_sum_for (F : Fun K "sum_for" "sum_for" s_sum_for f fd) : FnOk P w K mg base CX0 1 f fd p_sum_for spSumFor:=by
  refine F.ok sc_sum_for (fun vs H Q E h=>?_) (fun cdv A outer s H vs Q E hr h=>?_)
  · obtain ⟨a,rs,wt,day,rfl,_⟩:=h; rfl
  obtain ⟨a,rs,wt,day,rfl,hR,h2,hn,q⟩:=h
  refine ⟨_,(pss_one (ps_ret (pe_callB (call_sumI rfl) rfl B.sum PyProof.Rows.boot_sum (pa_c (pe_comp (N':=["back","coins","day","wait"]) (ix:=[none,none,some 2,some 1]) (g:=(gTup K 2 (gCons (gName 0) (gCons (gName 1) gNil)))) (ti:=(tTest (tChain (rI0 fun i j=>.bl (decide (i≤j))) (rI0 fun i j=>.bl (decide (i≤j))) (tOp (rI0 fun i j=>.int (i - j)) (tVar 2) (tVar 3)) (tVar 0) (tVar 2)))) (te:=(tVar 1)) rfl (comp_scope (N:=n_sum_for) (D:=defScope s_sum_for) (by decide +kernel)) (pi_list (pv 0)) (fun C s H fp=>(pg_tup rfl (pgs_cons (pg_name (i:=0) (show (["back","coins","day","wait"] : List Str).Nodup by decide +kernel) rfl (Or.inl rfl)) (pgs_cons (pg_name (i:=1) (show (["back","coins","day","wait"] : List Str).Nodup by decide +kernel) rfl (Or.inl rfl)) pgs_nil)))) (fun C s H fp=>(pifs_one (pt_chain op_le op_le (pe_op op_sub (pv 2) (pv 3)) (pv 0) (pv 2)))) (fun C s H fp=>(pv 1))) pa_nil)))),?_⟩
  obtain ⟨xs,ex,exl,exi⟩:=hR.get
  refine ⟨_,rfl,a,rfl,⟨xs,SqL.of ex⟩,fun D hD=>?_⟩
  refine comp_by (fun i zs _=>zs=(((rs.take i).filter (payB wt day)).map fun r=>r.getD 1 0).map V.int) hD ex (by omega) (fun i zs _ _ h _=>h) rfl (fun i x zs H3 e1 s3 hp K1 K2 k1 k2=>?_) fun zs H3 s3 hp ln hz=>?_
  · obtain ⟨pr,r,rfl,er,hpr⟩:=exi i x e1
    obtain ⟨d,cc,rfl⟩:=len2 (h2 r (List.mem_of_getElem? er))
    refine ⟨pr,_,rfl,SqT.of (s3 _ _ hpr),rfl,_,_,rfl,_,_,rfl,rfl,keep_set (keep_set keep_refl rfl) rfl,?_⟩
    have ft:=filter_take (rs:=rs) (payB wt day) er
    have gb : payB wt day [d,cc]=decide (day - wt≤d∧d≤day):=rfl
    refine ⟨_,rfl,_,rfl,_,_,rfl,rfl,_,rfl,_,_,rfl,rfl,_,rfl,?_⟩
    have no : ¬ (day - wt≤d∧d≤day)→K2 H3:=fun z=>k2 _ (fun _ _ h=>h) (by rw [hp,ft,gb,if_neg (fun y=>z (of_decide_eq_true y)),List.append_nil])
    by_cases z1 : day - wt≤d
    · rw [decide_eq_true z1]
      refine iteT ⟨_,rfl,_,_,rfl,rfl,_,rfl,?_⟩
      by_cases z2 : d≤day
      · rw [decide_eq_true z2]
        refine iteT ⟨_,rfl,k1 _ _ (fun _ _ h=>h) ?_⟩
        rw [hp,ft,gb,if_pos (decide_eq_true ⟨z1,z2⟩),List.map_append,List.map_append]; rfl
      · rw [decide_eq_false z2]
        exact iteF (no fun y=>z2 y.2)
    · rw [decide_eq_false z1]
      exact iteF ⟨_,rfl,iteF (no fun y=>z1 y.1)⟩
  · rw [exl,List.take_length] at hp
    subst hp
    exact ⟨D,_,rfl,SqL.of hz,q _ s3⟩
theorem ok_vouched (G_checked_paid : Cal P w K mg base (CXE P w) 3 "checked_paid" p_checked_paid (spChkPaid cl)) (G_check_term : Cal P w K mg base (CXE P w) 2 "check_term" p_check_term (spTerm (cl 2))) (G_check_day : Cal P w K mg base (CXE P w) 2 "check_day" p_check_day (spIn (cl 1) 999)) (G_sum_for : Cal P w K mg base CX0 1 "sum_for" p_sum_for spSumFor)
    (F : Fun K "vouched" "vouched" s_vouched f fd) : FnOk P w K mg base (CXE P w) 4 f fd p_vouched (spVouched cl):=by
  refine F.okE sc_vouched (fun vs H Q E h=>?_) (fun cdv A outer s H vs Q E hr h=>?_)
  · obtain ⟨a,rs,wt,day,rfl,_⟩:=h; rfl
  obtain ⟨a,rs,wt,day,rfl,hR,h2,q1,q2⟩:=h
  refine ⟨_,(pss_cons (ps_set (i:=3) sc_vouched.nd rfl (Or.inl rfl) (pe_cal (E:=E) G_checked_paid hr rfl (passE fun _ _ z=>z) (pa_c (pv 0) pa_nil)))
    (pss_cons (ps_expr (pe_cal (E:=E) G_check_term hr rfl (passE fun _ _ z=>z) (pa_c (pv 1) pa_nil)))
    (pss_cons (ps_expr (pe_cal (E:=E) G_check_day hr rfl (passE fun _ _ z=>z) (pa_c (pv 2) pa_nil)))
    (pss_one (ps_ret (pe_cal G_sum_for hr rfl pass0 (pa_c (pv 3) (pa_c (pv 1) (pa_c (pv 2) pa_nil))))))))),?_⟩
  refine ⟨_,rfl,a,rs,rfl,hR,h2,fun n e H' sm=>q1 n (vouNo_p e) H' sm,fun pn l H1 hl s1 R1=>?_⟩
  have vt:=vouNo_t (wt:=wt) pn
  refine ⟨_,rfl,wt,rfl,fun c1=>?_,fun c1=>q1 2 (by rw [vt,if_neg c1]) H1 s1⟩
  obtain ⟨q3,q4⟩:=q2 (by rw [vt,if_pos c1])
  refine ⟨_,rfl,day,rfl,fun c2=>?_,fun c2=>q3 c2 H1 s1⟩
  exact ⟨_,rfl,_,rfl,_,rfl,l,rs,wt,day,rfl,R1,h2,by have:=paidNo_len pn; omega,fun H2 s2=>q4 c2 H2 (s1.trans s2)⟩
theorem ok_surety (G_checked_paid : Cal P w K mg base (CXE P w) 3 "checked_paid" p_checked_paid (spChkPaid cl)) (G_check_term : Cal P w K mg base (CXE P w) 2 "check_term" p_check_term (spTerm (cl 2))) (G_sum_for : Cal P w K mg base CX0 1 "sum_for" p_sum_for spSumFor)
    (F : Fun K "surety" "surety" s_surety f fd) : FnOk P w K mg base (CXE P w) 4 f fd p_surety (spSurety cl):=by
  refine F.okE sc_surety (fun vs H Q E h=>?_) (fun cdv A outer s H vs Q E hr h=>?_)
  · obtain ⟨a,rs,wt,rfl,_⟩:=h; rfl
  obtain ⟨a,rs,wt,rfl,hR,h2,q1,q2⟩:=h
  refine ⟨_,(pss_cons (ps_set (i:=2) sc_surety.nd rfl (Or.inr rfl) (pe_cal (E:=E) G_checked_paid hr rfl (passE fun _ _ z=>z) (pa_c (pv 0) pa_nil)))
    (pss_cons (ps_expr (pe_cal (E:=E) G_check_term hr rfl (passE fun _ _ z=>z) (pa_c (pv 1) pa_nil)))
    (pss_cons (ps_setComp (i:=3) sc_surety.nd rfl (Or.inl rfl) (N':=["day","coins","rows","wait"]) (ix:=[none,none,some 2,some 1]) (g:=(gTup K 2 (gCons (gName 0) (gCons (gName 1) gNil)))) (ti:=tIf0) (te:=(tTup (tCons (tCall spSumFor [] E0 (tCons (tVar 2) (tCons (tVar 3) (tCons (tVar 0) tNil)))) (tCons (tUn (rU fun i=>.int (-i)) (tVar 0)) tNil)))) rfl (comp_scope (N:=n_surety) (D:=defScope s_surety) (by decide +kernel)) (pi_list (pv 2)) (fun C s H fp=>(pg_tup rfl (pgs_cons (pg_name (i:=0) (show (["day","coins","rows","wait"] : List Str).Nodup by decide +kernel) rfl (Or.inl rfl)) (pgs_cons (pg_name (i:=1) (show (["day","coins","rows","wait"] : List Str).Nodup by decide +kernel) rfl (Or.inl rfl)) pgs_nil)))) (fun C s H fp=>pifs_nil) (fun C s H fp=>(pe_tup (pa_c (pe_cal G_sum_for hr rfl pass0 (pa_c (pv 2) (pa_c (pv 3) (pa_c (pv 0) pa_nil)))) (pa_c (pe_un un_neg (pv 0)) pa_nil)))))
    (pss_cons (ps_asg (pe_maxD rfl hr.units (pa_c (pv 3) pa_nil) (pe_tup (pa_c pe_int (pa_c pe_int pa_nil))) rfl B.max PyProof.Rows.boot_max) (pg_tup rfl (pgs_cons (pg_name (i:=4) sc_surety.nd rfl (Or.inl rfl)) (pgs_cons (pg_name (i:=5) sc_surety.nd rfl (Or.inl rfl)) pgs_nil))))
    (pss_one (ps_ret (pe_tup (pa_c (pv 4) (pa_c (pe_un un_neg (pv 5)) pa_nil))))))))),?_⟩
  refine ⟨_,rfl,a,rs,rfl,hR,h2,fun n e H' sm=>q1 n (vouNo_p e) H' sm,fun pn l H1 hl s1 R1=>?_⟩
  have vt:=vouNo_t (wt:=wt) pn
  have ln:=paidNo_len pn
  refine ⟨_,rfl,wt,rfl,fun c1=>?_,fun c1=>q1 2 (by rw [vt,if_neg c1]) H1 s1⟩
  have q3:=q2 (by rw [vt,if_pos c1])
  obtain ⟨xs,ex,hx⟩:=R1.tups
  have lx:=hx.1
  refine ⟨_,rfl,l,rfl,⟨xs,SqL.of ex⟩,fun D hD=>?_⟩
  refine comp_byD (fun i zs H'=>Tups H' zs ((rs.take i).map fun (r : List Int)=>[sumFor rs wt (r.getD 0 0),-(r.getD 0 0)])) hD ex (by omega) (fun i zs H' H'' h nl hk=>h.keep fun p z e=>hk p _ (fun y=>by subst y; rcases nl with n | ⟨_,n⟩ <;> rw [n] at e <;> cases e) e) Tups.nil (fun i x zs H3 e1 hz s3 hp K1 k1=>?_) fun zs H3 s3 hp lz hD3=>?_
  · obtain ⟨pr,r,rfl,er,hpr⟩:=(hx.same s3).at e1
    obtain ⟨d,cc,rfl⟩:=len2 (h2 r (List.mem_of_getElem? er))
    refine ⟨pr,_,rfl,SqT.of hpr,rfl,_,_,rfl,_,_,rfl,rfl,keep_set (keep_set keep_refl rfl) rfl,?_⟩
    refine ⟨_,rfl,_,rfl,_,rfl,l,rs,wt,d,rfl,(R1.same s3),h2,by omega,fun H4 s4=>⟨_,rfl,_,rfl,by show 2≤sizeLine; decide,fun t ht=>?_⟩⟩
    have s5:=same_new ht (.tup [.int (sumFor rs wt d),.int (-d)])
    refine k1 _ _ (s4.trans s5) ?_
    rw [← take_next er,List.map_append]
    exact ((hp.same s4).same s5).cat (Tups.one (r:=[sumFor rs wt d,-d]) upd_same)
  rw [lx,List.take_length] at hp
  refine ⟨_,rfl,by show 2≤sizeLine; decide,fun tz htz=>?_⟩
  have sz:=same_new (H:=H3) htz (.tup [.int 0,.int 0])
  have S4:=(s1.trans s3).trans sz
  have hp4:=hp.same sz
  refine ⟨D,_,rfl,hp4.rows (sz _ _ hD3),fun e0=>?_,fun b r hr hmax hb=>?_⟩
  · refine ⟨tz,_,rfl,SqT.of upd_same,rfl,_,_,rfl,_,_,rfl,rfl,?_⟩
    refine ⟨_,rfl,_,rfl,_,rfl,by show 2≤sizeLine; decide,fun t ht=>?_⟩
    have e1 : rs=[]:=List.map_eq_nil_iff.mp e0
    subst e1
    exact q3 0 (-0) t _ ⟨fun _=>⟨rfl,rfl⟩,fun z=>absurd rfl z⟩ (S4.trans (same_new ht _)) upd_same (S4.free ht)
  · obtain ⟨r0,hr0,rfl⟩:=List.mem_map.mp hr
    refine ⟨b,_,rfl,SqT.of hb,rfl,_,_,rfl,_,_,rfl,rfl,?_⟩
    refine ⟨_,rfl,_,rfl,_,rfl,by show 2≤sizeLine; decide,fun t ht=>?_⟩
    refine q3 _ _ t _ ⟨fun z=>(by subst z; cases hr0),fun _=>⟨⟨r0,hr0,by omega⟩,by rw [Int.neg_neg],fun r' hr'=>?_⟩⟩ (S4.trans (same_new ht _)) upd_same (S4.free ht)
    have:=hmax _ (List.mem_map.mpr ⟨r',hr',rfl⟩)
    change (if sumFor rs wt (r0.getD 0 0)=sumFor rs wt (r'.getD 0 0) then (if -(r0.getD 0 0) = -(r'.getD 0 0) then false else decide (-(r0.getD 0 0) < -(r'.getD 0 0))) else decide (sumFor rs wt (r0.getD 0 0) < sumFor rs wt (r'.getD 0 0)))=false at this
    by_cases c2 : sumFor rs wt (r0.getD 0 0)=sumFor rs wt (r'.getD 0 0)
    · rw [if_pos c2] at this
      refine .inr ⟨c2.symm,?_⟩
      by_cases c3 : -(r0.getD 0 0) = -(r'.getD 0 0)
      · omega
      · rw [if_neg c3] at this
        have:=of_decide_eq_false this
        omega
    · rw [if_neg c2] at this
      have:=of_decide_eq_false this
      exact .inl (by omega)
end
end K31
namespace K31
open PySem L2
abbrev s_odd : Stmt:=top 22
abbrev n_odd : List Str:=["_law_draw","_law_odd_here"]
abbrev p_odd : List Str:=["_law_draw"]
theorem sc_odd : FnScope n_odd p_odd (defScope s_odd):=⟨rfl,rfl,rfl,by decide +kernel,rfl,by decide +kernel,by decide +kernel⟩
section
variable {P : Program} {w : World} {K : PySem.W.Frag} {mg : Str→Option Value} {base : Heap} {f : Addr} {fd : FuncData}
theorem ok_odd (B : Bn mg) (G_pick : Cal P w K mg base CX0 1 "_law_pick" p_pick spPick) (F : Fun K "_law_odd" "_law_odd" s_odd f fd) : FnOk P w K mg base CX0 2 f fd p_odd spOdd:=by
  refine F.ok sc_odd (fun vs H Q E h=>?_) (fun cdv A outer s H vs Q E hr h=>?_)
  · obtain ⟨a,c,rfl,_⟩:=h; rfl
  obtain ⟨a,c,rfl,d,q⟩:=h
  refine ⟨_,(pss_cons (ps_set (i:=1) sc_odd.nd rfl (Or.inl rfl) (pe_intL (pis_cons (pin_neg (pin_pow pe_int pe_int ⟨by decide,by decide,by decide⟩)) (pis_cons (pin_neg (pin_of pe_int)) (pis_cons (pin_of pe_int) (pis_cons (pin_of pe_int) (pis_cons (pin_of pe_int) (pis_cons (pin_of pe_int) (pis_cons (pin_of pe_int) (pis_cons (pin_of pe_int) (pis_cons (pin_of pe_int) (pis_cons (pin_of pe_int) (pis_cons (pin_of pe_int) (pis_cons (pin_of pe_int) (pis_cons (pin_pow pe_int pe_int ⟨by decide,by decide,by decide⟩) (pis_cons (pin_add (pin_pow pe_int pe_int ⟨by decide,by decide,by decide⟩) (pin_of pe_int)) (pis_cons (pin_pow pe_int pe_int ⟨by decide,by decide,by decide⟩) (pis_cons (pin_add (pin_pow pe_int pe_int ⟨by decide,by decide,by decide⟩) (pin_of pe_int)) pis_nil))))))))))))))))))
    (pss_cons (ps_set (i:=1) sc_odd.nd rfl (Or.inl rfl) (pe_op op_cat (pv 1) (pe_lst (pa_c (pe_op op_pow pe_int pe_int) pa_nil))))
    (pss_one (ps_ret (pe_ix ix_list (pv 1) (pe_cal G_pick hr rfl pass0 (pa_c (pv 0) (pa_c (pe_callB call_len_seq rfl B.len PySem.boot_len (pa_c (pv 1) pa_nil)) pa_nil))) (fun _ _=>rfl)))))),?_⟩
  refine ⟨by decide,fun vs hl l1 n1=>?_⟩
  refine ⟨_,rfl,_,_,rfl,rfl,⟨by decide,by decide,by decide⟩,by show 1≤sizeLine; decide,fun l2 n2=>?_⟩
  refine ⟨l1,l2,vs.map V.int,_,rfl,rfl,by rw [upd_ne (ne_of_none upd_same n2)]; exact upd_same,upd_same,by rw [List.length_map,hl]; show 17≤sizeLine; decide,fun l3 n3=>?_⟩
  have d3:=fun o=>((d.new n1).new n2).new (o:=o) n3
  refine ⟨_,rfl,_,rfl,_,rfl,l3,_,rfl,.inl (SqL.of upd_same),a,c,_,rfl,d3 _,?_,?_,fun r H4 a4 c4 d4 kb4=>?_⟩
  · rw [List.length_append,List.length_map,hl]; decide
  · rw [List.length_append,List.length_map,hl]; decide
  have ht:=kb4 l3 _ (((d.new n1).new n2).ne n3) upd_same
  obtain ⟨v,ev⟩:=at_int (r:=r) (by
    intro x hx'
    rcases List.mem_append.mp hx' with h | h
    · obtain ⟨v,_,e⟩:=List.mem_map.mp h
      exact ⟨v,e.symm⟩
    · exact ⟨_,List.mem_singleton.mp h⟩) a4 c4
  exact ⟨l3,_,_,.int v,rfl,rfl,SqL.of ht,ev,q v H4 d4 ((((KeepBut.refl.new n1).new n2).new n3).trans kb4)⟩
end
end K31
namespace K31
open PySem L2
abbrev s_said : Stmt:=top 24
abbrev n_said : List Str:=["_law_way","_law_paid","_law_wait","_law_day","_law_said_here","e","_law_kinds"]
abbrev p_said : List Str:=["_law_way","_law_paid","_law_wait","_law_day"]
theorem sc_said : FnScope n_said p_said (defScope s_said):=⟨rfl,rfl,rfl,by decide +kernel,rfl,by decide +kernel,by decide +kernel⟩
abbrev s_due : Stmt:=top 25
abbrev n_due : List Str:=["_law_way","_law_paid","_law_wait","_law_day","_law_when","_law_coins"]
abbrev p_due : List Str:=["_law_way","_law_paid","_law_wait","_law_day"]
theorem sc_due : FnScope n_due p_due (defScope s_due):=⟨rfl,rfl,rfl,by decide +kernel,rfl,by decide +kernel,by decide +kernel⟩
abbrev s_law : Stmt:=top 26
abbrev n_law : List Str:=["_law_script","_law_draw","_law_k","_law_many","_law_paid","_law_more","_law_at","_law_odd_here","_law_wait","_law_day","_law_kept","_law_way"]
abbrev p_law : List Str:=["_law_script"]
theorem sc_law : FnScope n_law p_law (defScope s_law):=⟨rfl,rfl,rfl,by decide +kernel,rfl,by decide +kernel,by decide +kernel⟩
abbrev ks : List Nat:=[5,1,3,2]
def ans (rs : List (List Int)) (wt k day : Int) : Option Nat:=match vouNo rs wt with
  | some n=>some n
  | none=>if k=1∧¬ inB day 999 then some 1 else none
theorem payBad_in {r : List Int} {n : Nat} (h : payBad r=some n) : n=3∨n=1:=by
  unfold payBad at h
  repeat' split at h
  all_goals first | (cases h; done) | (cases h; simp)
theorem ans_in {rs : List (List Int)} {wt k day : Int} {n : Nat} (h : ans rs wt k day=some n) : n∈ks:=by
  unfold ans at h
  split at h
  · cases h
    rename_i e
    unfold vouNo at e
    split at e
    · cases e
      rename_i e
      unfold paidNo at e
      split at e
      · cases e; decide
      · obtain ⟨r,_,e'⟩:=List.exists_of_findSome?_eq_some e
        rcases payBad_in e' with rfl | rfl <;> decide
    · split at e
      · cases e
      · cases e; decide
  · split at h
    · cases h; decide
    · cases h
def spSaid : Sp:=fun vs H Q _=>∃ (p : Addr) (rs : List (List Int)) (wt k day : Int),vs=[.int k,.ref p,.int wt,.int day]∧(k=0∨k=1)∧Rows H p rs∧(∀ r∈rs,r.length=2)∧∀ H',Same H H'→Q (.str (nmF (ans rs wt k day))) H'
def spLaw (K : PySem.W.Frag) : Sp:=fun vs H Q _=>∃ (a : Addr) (ns : List Int),vs=[.ref a]∧SqL K H a (ns.map V.int)∧ns.length≤63∧∀ H',Q (.bl true) H'
section
variable {P : Program} {w : World} {K : PySem.W.Frag} {mg : Str→Option Value} {base : Heap} {f : Addr} {fd : FuncData} {cl : Nat→Addr} (B : Bn mg)
include B
theorem ok_said (T : Txt K mg cl) (Y : XcL K cl ks) (G_surety : Cal P w K mg base (CXE P w) 4 "surety" p_surety (spSurety cl)) (G_vouched : Cal P w K mg base (CXE P w) 4 "vouched" p_vouched (spVouched cl)) (F : Fun K "_law_said" "_law_said" s_said f fd) : FnOk P w K mg base CX0 5 f fd p_said spSaid:=by
  refine F.ok sc_said (fun vs H Q E h=>?_) (fun cdv A outer s H vs Q E hr h=>?_)
  · obtain ⟨p,rs,wt,k,day,rfl,_⟩:=h; rfl
  obtain ⟨p,rs,wt,k,day,rfl,hk,hR,h2,q⟩:=h
  refine ⟨_,(pss_cons (ps_set (i:=4) sc_said.nd rfl (Or.inl rfl) pe_str)
    (pss_cons (ps_tryE (i:=5) (E:=saidE ks H cl (ans rs wt k day)) sc_said.nd rfl rfl rfl rfl rfl T.gCustomsError rfl rfl (saidP Y)
    (fun pn xe hps=>(pss_one (ps_if (pt_cmpR op_eq (pv 0) pe_int (nomark _)) (pss_one (ps_expr (pe_cal G_surety hr rfl hps (pa_c (pv 1) (pa_c (pv 2) pa_nil))))) (pss_one (ps_expr (pe_cal G_vouched hr rfl hps (pa_c (pv 1) (pa_c (pv 2) (pa_c (pv 3) pa_nil)))))))))
    (fun e=>(pss_cons (ps_set (i:=6) sc_said.nd rfl (Or.inl rfl) (pe_lst (pa_c (pe_callB call_isX rfl B.isi PyProof.Rows.boot_isinstance (pa_c (pv 5) (pa_c (pe_glob rfl T.gBadRows (v:=.ref (cl 5)) rfl) pa_nil))) (pa_c (pe_callB call_isX rfl B.isi PyProof.Rows.boot_isinstance (pa_c (pv 5) (pa_c (pe_glob rfl T.gBadDay (v:=.ref (cl 1)) rfl) pa_nil))) (pa_c (pe_callB call_isX rfl B.isi PyProof.Rows.boot_isinstance (pa_c (pv 5) (pa_c (pe_glob rfl T.gBadCount (v:=.ref (cl 3)) rfl) pa_nil))) (pa_c (pe_callB call_isX rfl B.isi PyProof.Rows.boot_isinstance (pa_c (pv 5) (pa_c (pe_glob rfl T.gBadTerm (v:=.ref (cl 2)) rfl) pa_nil))) pa_nil))))))
      (pss_cons (ps_set (i:=4) sc_said.nd rfl (Or.inl rfl) pe_str)
      (pss_one (ps_if (PW.pt (pw_and (pt_cmpR op_eq (pe_bm PySem.F.plainAttrs_list PySem.F.slot_list_count PySem.F.type_list_count mt_count (pv 6) (pa_c pe_bl pa_nil)) pe_int (nomark _)) (pw_and1 (pt_truth (pe_callB call_isX rfl B.isi PyProof.Rows.boot_isinstance (pa_c (pv 5) (pa_c (pe_bltn rfl B.verr boot_VE (v:=.ty "ValueError") rfl) pa_nil))) (fun _=>rfl))))) (pss_one (ps_set (i:=4) sc_said.nd rfl (Or.inl rfl) (pe_ix ix_tup (pe_tup (pa_c pe_str (pa_c pe_str (pa_c pe_str (pa_c pe_str pa_nil))))) (pe_bm PySem.F.plainAttrs_list PySem.F.slot_list_index PySem.F.type_list_index mt_index (pv 6) (pa_c pe_bl pa_nil)) (fun _ _=>rfl)))) pss_nil))))))
    (pss_one (ps_ret (pv 4))))),?_⟩
  have qe : ∀ n,vouNo rs wt=some n→∀ H',Same H H'→saidE ks H cl (ans rs wt k day) (.ref (cl n)) none H':=fun n e H' sm=>by
    have : ans rs wt k day=some n:=by unfold ans; rw [e]
    exact ⟨sm,n,ans_in this,rfl,this⟩
  refine ⟨?_,?_⟩
  · refine ⟨_,rfl,rfl,_,rfl,?_⟩
    rcases hk with rfl | rfl
    · refine iteT ⟨_,rfl,_,rfl,p,rs,wt,rfl,hR,h2,qe,fun e g d t H' _ sm _ _=>⟨_,rfl,?_⟩⟩
      have : ans rs wt 0 day=none:=by unfold ans; rw [e]; exact if_neg (fun z=>absurd z.1 (by decide))
      rw [this] at q
      exact q _ sm
    · refine iteF ⟨_,rfl,_,rfl,_,rfl,p,rs,wt,day,rfl,hR,h2,qe,fun e=>⟨fun c1 H' sm=>?_,fun c1 H' sm=>⟨_,rfl,?_⟩⟩⟩
      · have : ans rs wt 1 day=some 1:=by unfold ans; rw [e]; exact if_pos ⟨rfl,c1⟩
        exact ⟨sm,1,by decide,rfl,this⟩
      · have : ans rs wt 1 day=none:=by unfold ans; rw [e]; exact if_neg (fun z=>z.2 c1)
        rw [this] at q
        exact q _ sm
  · rintro C e H1 ⟨sm,n,hn,hC,ha⟩ he
    cases hC
    have s1 : Same H (L2.upd H1 e (.ext (IsX e (.ref (cl n))))):=sm.trans (same_new he _)
    have e1:=upd_same (H:=H1) (a:=e) (o:=.ext (IsX e (.ref (cl n))))
    refine ⟨_,rfl,e,_,_,_,_,rfl,rfl,e1,Y.x _ hn,Y.d _ hn 5 (by decide),_,rfl,e,_,_,_,_,rfl,rfl,e1,Y.x _ hn,Y.d _ hn 1 (by decide),_,rfl,e,_,_,_,_,rfl,rfl,e1,Y.x _ hn,Y.d _ hn 3 (by decide),_,rfl,e,_,_,_,_,rfl,rfl,e1,Y.x _ hn,Y.d _ hn 2 (by decide),by show 4≤sizeLine; decide,fun l1 hl1=>?_⟩
    have u1:=same_new (H:=L2.upd H1 e (.ext (IsX e (.ref (cl n))))) hl1 (.lst (flags ks n))
    have f1:=upd_same (H:=L2.upd H1 e (.ext (IsX e (.ref (cl n))))) (a:=l1) (o:=.lst (flags ks n))
    refine ⟨_,rfl,.inl ⟨rfl,_,SqL.of f1⟩,l1,flags ks n,_,rfl,rfl,f1,rfl,rfl,rfl,_,rfl,?_⟩
    show if (decide (V.int (((flags ks n).countP fun z=>eqV z (.bl true) : Nat) : Int)=V.int 1))=true then _ else _
    rw [flags_count hn (by decide)]
    refine iteT ⟨_,rfl,e,_,_,_,true,rfl,rfl,u1 _ _ e1,Y.x _ hn,Y.v _ hn,_,rfl,?_⟩
    refine iteT ?_
    refine ⟨by show 4≤sizeLine; decide,fun tp htp=>?_⟩
    have u2:=u1.trans (same_new htp (.tup (ks.map fun n=>V.str (nmF (some n)))))
    have f2:=same_new htp (.tup (ks.map fun n=>V.str (nmF (some n)))) _ _ f1
    refine ⟨_,rfl,.inl ⟨rfl,_,SqL.of f2⟩,l1,flags ks n,_,ks.idxOf n,rfl,rfl,f2,rfl,rfl,flags_at hn,flags_not,tp,ks.map fun n=>V.str (nmF (some n)),_,.str (nmF (some n)),rfl,rfl,SqT.of upd_same,names_at hn,?_⟩
    rw [ha] at q
    exact ⟨_,rfl,q _ (s1.trans u2)⟩
theorem ok_due (F : Fun K "_law_due" "_law_due" s_due f fd) : FnOk P w K mg base CX0 1 f fd p_due spSaid:=by
  refine F.ok sc_due (fun vs H Q E h=>?_) (fun cdv A outer s H vs Q E hr h=>?_)
  · obtain ⟨p,rs,wt,k,day,rfl,_⟩:=h; rfl
  obtain ⟨p,rs,wt,k,day,rfl,hk,hR,h2,q⟩:=h
  refine ⟨_,(pss_cons (ps_if (pt_cmpR op_gt (pe_callB call_len_seq rfl B.len PySem.boot_len (pa_c (pv 1) pa_nil)) pe_int (nomark _)) (pss_one (ps_ret pe_str)) pss_nil)
    (pss_cons (ps_for PassesOwn.never rfl (pi_list (pv 1)) (pg_tup rfl (pgs_cons (pg_name (i:=4) sc_due.nd rfl (Or.inl rfl)) (pgs_cons (pg_name (i:=5) sc_due.nd rfl (Or.inl rfl)) pgs_nil))) (pss_cons (ps_if (PW.pt (pw_or (pt_cmpR op_lt (pv 4) pe_int (nomark _)) (pw_or1 (pt_cmpR op_gt (pv 4) pe_int (nomark _))))) (pss_one (ps_ret pe_str)) pss_nil)
      (pss_one (ps_if (pt_cmpR op_lt (pv 5) pe_int (nomark _)) (pss_one (ps_ret pe_str)) pss_nil))))
    (pss_cons (ps_if (PW.pt (pw_or (pt_cmpR op_lt (pv 2) pe_int (nomark _)) (pw_or1 (pt_cmpR op_gt (pv 2) pe_int (nomark _))))) (pss_one (ps_ret pe_str)) pss_nil)
    (pss_one (ps_ret (pe_ifExp (PW.pt (pw_and (pt_cmpR op_eq (pv 0) pe_int (nomark _)) (pw_and1 (pt_not (pt_chain op_le op_le pe_int (pv 3) pe_int))))) pe_str pe_str)))))),?_⟩
  obtain ⟨xs,ex,exl,exi⟩:=hR.get
  refine ⟨_,rfl,p,_,rfl,.inl (SqL.of ex),_,_,rfl,rfl,_,rfl,?_⟩
  by_cases c : (60 : Int) < xs.length
  · rw [decide_eq_true c]
    have : ans rs wt k day=some 5:=by unfold ans; rw [vouNo_p (n:=5) (by unfold paidNo; rw [if_pos (by omega)])]
    rw [this] at q
    exact iteT (q _ (Same.refl H))
  rw [decide_eq_false c]
  have c60 : ¬ 60 < rs.length:=by omega
  refine iteF ?_
  refine ⟨_,rfl,p,rfl,⟨xs,SqL.of ex⟩,?_⟩
  refine for_list (xs:=xs) (fun i σ H3=>∃ o4 o5,σ=[some (.int k),some (.ref p),some (.int wt),some (.int day),o4,o5]∧H=H3∧paysBad (rs.take i)=none) ⟨_,_,rfl,rfl,rfl⟩ ?_ ?_ ?_
  · rintro i σ H3 hi ⟨o4,o5,rfl,e,_⟩
    subst e
    exact SqL.of ex
  · rintro i x σ H3 exi' ⟨o4,o5,rfl,e,hb⟩
    subst e
    obtain ⟨pr,r,rfl,er,hp⟩:=exi i x exi'
    obtain ⟨d,c,rfl⟩:=len2 (h2 r (List.mem_of_getElem? er))
    refine ⟨pr,_,rfl,SqT.of hp,rfl,_,_,rfl,_,_,rfl,rfl,?_⟩
    have bad : ∀ n,payBad [d,c]=some n→Q (.str (nmF (some n))) H:=fun n e=>by
      have : ans rs wt k day=some n:=by unfold ans; rw [vouNo_p (n:=n) (by unfold paidNo; rw [if_neg c60]; exact paysBad_hit hb er e)]
      rw [this] at q
      exact q _ (Same.refl H)
    refine ⟨_,rfl,_,_,rfl,rfl,_,rfl,?_⟩
    by_cases c1 : d < 1
    · rw [decide_eq_true c1]
      exact iteT (iteT (bad 1 (by show (if inB d 999 then _ else _)=_; rw [if_neg (fun z=>by have:=z.1; omega)])))
    rw [decide_eq_false c1]
    refine iteF ⟨_,rfl,_,_,rfl,rfl,_,rfl,?_⟩
    by_cases c2 : (999 : Int) < d
    · rw [decide_eq_true c2]
      exact iteT (bad 1 (by show (if inB d 999 then _ else _)=_; rw [if_neg (fun z=>by have:=z.2; omega)]))
    rw [decide_eq_false c2]
    have ind : inB d 999:=⟨by omega,by omega⟩
    refine iteF ⟨_,rfl,_,_,rfl,rfl,_,rfl,?_⟩
    by_cases c3 : c < 1
    · rw [decide_eq_true c3]
      exact iteT (bad 3 (by show (if inB d 999 then (if c < 1 then some 3 else none) else _)=_; rw [if_pos ind,if_pos c3]))
    rw [decide_eq_false c3]
    exact iteF ⟨_,_,rfl,rfl,paysBad_take hb er (by show (if inB d 999 then (if c < 1 then some 3 else none) else _)=_; rw [if_pos ind,if_neg c3])⟩
  · rintro σ H3 ⟨o4,o5,rfl,e,hb⟩
    subst e
    rw [exl,List.take_length] at hb
    have pn : paidNo rs=none:=by unfold paidNo; rw [if_neg c60]; exact hb
    have vt:=vouNo_t (wt:=wt) pn
    dsimp only
    refine tSeq_by (fun σ H'=>σ=[some (.int k),some (.ref p),some (.int wt),some (.int day),o4,o5]∧H=H'∧okTerm wt) (fun D' nx rt=>?_) ?_
    · have bad : ¬ okTerm wt→Q (.str "BadTerm") H:=fun z=>by
        have : ans rs wt k day=some 2:=by unfold ans; rw [vt,if_neg z]
        rw [this] at q
        exact q _ (Same.refl H)
      refine ⟨_,rfl,_,_,rfl,rfl,_,rfl,?_⟩
      by_cases c1 : wt < 0
      · rw [decide_eq_true c1]
        refine iteT (iteT ?_)
        unfold tRet
        rw [rt]
        exact bad fun z=>by have:=z.1; omega
      rw [decide_eq_false c1]
      refine iteF ⟨_,rfl,_,_,rfl,rfl,_,rfl,?_⟩
      by_cases c2 : (400 : Int) < wt
      · rw [decide_eq_true c2]
        refine iteT ?_
        unfold tRet
        rw [rt]
        exact bad fun z=>by have:=z.2; omega
      rw [decide_eq_false c2]
      exact iteF (nx _ _ ⟨rfl,rfl,by omega,by omega⟩)
    rintro σ H' ⟨rfl,e,ot⟩
    subst e
    rw [if_pos ot] at vt
    have ea : ans rs wt k day=if k=1∧¬ inB day 999 then some 1 else none:=by unfold ans; rw [vt]
    rw [ea] at q
    refine ⟨_,rfl,rfl,_,rfl,?_⟩
    rcases hk with rfl | rfl
    · rw [if_neg (fun z=>absurd z.1 (by decide))] at q
      exact iteF (iteF (q _ (Same.refl H)))
    · refine iteT ⟨_,rfl,_,_,rfl,rfl,_,rfl,?_⟩
      by_cases c1 : 1≤day
      · rw [decide_eq_true c1]
        refine iteT ⟨_,_,rfl,rfl,_,rfl,?_⟩
        by_cases c2 : day≤999
        · rw [decide_eq_true c2]
          rw [if_neg (fun z=>z.2 ⟨c1,c2⟩)] at q
          exact iteF (q _ (Same.refl H))
        · rw [decide_eq_false c2]
          rw [if_pos ⟨rfl,fun z=>c2 z.2⟩] at q
          exact iteT (q _ (Same.refl H))
      · rw [decide_eq_false c1]
        rw [if_pos ⟨rfl,fun z=>c1 z.1⟩] at q
        exact iteF ⟨_,rfl,iteT (q _ (Same.refl H))⟩
variable (G_begin : Cal P w K mg base CX0 1 "_law_begin" p_begin (spBegin K)) (G_pick : Cal P w K mg base CX0 1 "_law_pick" p_pick spPick) (G_odd : Cal P w K mg base CX0 2 "_law_odd" p_odd spOdd) (G_some_term : Cal P w K mg base CX0 2 "_law_some_term" p_some_term spSome)
  (G_said : Cal P w K mg base CX0 5 "_law_said" p_said spSaid) (G_due : Cal P w K mg base CX0 1 "_law_due" p_due spSaid)
include G_begin G_pick G_odd G_some_term G_said G_due
theorem ok_law (F : Fun K "law" "law" s_law f fd) : FnOk P w K mg base CX0 6 f fd p_law (spLaw K):=by
  refine F.ok sc_law (fun vs H Q E h=>?_) (fun cdv A outer s H vs Q E hr h=>?_)
  · obtain ⟨a,ns,rfl,_⟩:=h; rfl
  obtain ⟨a0,ns,rfl,hS,hlen,q⟩:=h
  refine ⟨_,(pss_cons (ps_set (i:=1) sc_law.nd rfl (Or.inl rfl) (pe_cal G_begin hr rfl pass0 (pa_c (pv 0) pa_nil)))
    (pss_cons (ps_for PassesOwn.never rfl (pi_range1 rfl B.range (pa_c pe_int pa_nil)) (pg_name (i:=2) sc_law.nd rfl (Or.inl rfl)) (pss_cons (ps_set (i:=3) sc_law.nd rfl (Or.inl rfl) (pe_ix ix_tup (pe_tup (pa_c (pe_cal G_pick hr rfl pass0 (pa_c (pv 1) (pa_c pe_int pa_nil))) (pa_c (pe_op op_add pe_int (pe_cal G_pick hr rfl pass0 (pa_c (pv 1) (pa_c pe_int pa_nil)))) pa_nil))) (pe_callTy call_int1 rfl B.int PyProof.Rows.boot_int (pa_c (pe_cmpR op_eq (pe_cal G_pick hr rfl pass0 (pa_c (pv 1) (pa_c pe_int pa_nil))) pe_int (nomark _)) pa_nil)) (fun _ _=>rfl)))
      (pss_cons (ps_set (i:=4) sc_law.nd rfl (Or.inl rfl) (pe_lst pa_nil))
      (pss_cons (ps_for PassesOwn.never rfl (pi_range1 rfl B.range (pa_c (pv 3) pa_nil)) (pg_name (i:=5) sc_law.nd rfl (Or.inl rfl)) (pss_one (ps_expr (pe_bm PySem.F.plainAttrs_list PySem.F.slot_list_append PySem.F.type_list_append mt_append (pv 4) (pa_c (pe_tup (pa_c (pe_op op_add pe_int (pe_cal G_pick hr rfl pass0 (pa_c (pv 1) (pa_c pe_int pa_nil)))) (pa_c (pe_op op_add pe_int (pe_cal G_pick hr rfl pass0 (pa_c (pv 1) (pa_c pe_int pa_nil)))) pa_nil))) pa_nil)))))
      (pss_cons (ps_for PassesOwn.never rfl (pi_range1 rfl B.range (pa_c (pe_op op_mul (pe_cal G_pick hr rfl pass0 (pa_c (pv 1) (pa_c pe_int pa_nil))) (pe_callTy call_int1 rfl B.int PyProof.Rows.boot_int (pa_c (pe_cmpR (op_neL hr.units) (pv 4) (pe_lst pa_nil) (nomark _)) pa_nil))) pa_nil)) (pg_name (i:=5) sc_law.nd rfl (Or.inl rfl)) (pss_cons (ps_set (i:=6) sc_law.nd rfl (Or.inl rfl) (pe_cal G_pick hr rfl pass0 (pa_c (pv 1) (pa_c (pe_callB call_len_seq rfl B.len PySem.boot_len (pa_c (pv 4) pa_nil)) pa_nil))))
        (pss_cons (ps_set (i:=7) sc_law.nd rfl (Or.inl rfl) (pe_cal G_odd hr rfl pass0 (pa_c (pv 1) pa_nil)))
        (pss_one (ps_asg (pe_ix ix_tup (pe_tup (pa_c (pe_tup (pa_c (pv 7) (pa_c (pe_ix ix_tup (pe_ix ix_list (pv 4) (pv 6) (fun _ _=>rfl)) pe_int (fun _ _=>rfl)) pa_nil))) (pa_c (pe_tup (pa_c (pe_ix ix_tup (pe_ix ix_list (pv 4) (pv 6) (fun _ _=>rfl)) pe_int (fun _ _=>rfl)) (pa_c (pv 7) pa_nil))) pa_nil))) (pe_cal G_pick hr rfl pass0 (pa_c (pv 1) (pa_c pe_int pa_nil))) (fun _ _=>rfl)) (pg_sub (pv 4) (pv 6) set_list))))))
      (pss_cons (ps_set (i:=8) sc_law.nd rfl (Or.inl rfl) (pe_ix ix_tup (pe_tup (pa_c (pe_cal G_some_term hr rfl pass0 (pa_c (pv 1) pa_nil)) (pa_c (pe_cal G_odd hr rfl pass0 (pa_c (pv 1) pa_nil)) pa_nil))) (pe_cal G_pick hr rfl pass0 (pa_c (pv 1) (pa_c pe_int pa_nil))) (fun _ _=>rfl)))
      (pss_cons (ps_set (i:=9) sc_law.nd rfl (Or.inl rfl) (pe_ix ix_tup (pe_tup (pa_c (pe_op op_add pe_int (pe_cal G_pick hr rfl pass0 (pa_c (pv 1) (pa_c pe_int pa_nil)))) (pa_c (pe_cal G_odd hr rfl pass0 (pa_c (pv 1) pa_nil)) pa_nil))) (pe_cal G_pick hr rfl pass0 (pa_c (pv 1) (pa_c pe_int pa_nil))) (fun _ _=>rfl)))
      (pss_cons (ps_set (i:=10) sc_law.nd rfl (Or.inl rfl) (pe_callTy call_list_of rfl B.list PyProof.Rows.boot_list (pa_c (pv 4) pa_nil)))
      (pss_one (ps_for PassesOwn.never rfl (pi_range1 rfl B.range (pa_c pe_int pa_nil)) (pg_name (i:=11) sc_law.nd rfl (Or.inl rfl)) (pss_cons (ps_if (pt_cmpR op_ne (pe_cal G_said hr rfl pass0 (pa_c (pv 11) (pa_c (pv 4) (pa_c (pv 8) (pa_c (pv 9) pa_nil))))) (pe_cal G_due hr rfl pass0 (pa_c (pv 11) (pa_c (pv 4) (pa_c (pv 8) (pa_c (pv 9) pa_nil))))) (nomark _)) (pss_one (ps_ret pe_bl)) pss_nil)
        (pss_one (ps_if (pt_cmpR (op_neL hr.units) (pv 4) (pv 10) (nomark _)) (pss_one (ps_ret pe_bl)) pss_nil)))))))))))))
    (pss_one (ps_ret pe_bl)))),?_⟩
  refine ⟨_,rfl,a0,ns,rfl,hS,hlen,fun a c H1 ha hc s1 d1=>?_⟩
  refine ⟨4,rfl,by decide,by decide,for_range (n:=4) (fun _ σ H2=>∃ o2 o3 o4 o5 o6 o7 o8 o9 o10 o11,σ=[some (.ref a0),some (.ref a),o2,o3,o4,o5,o6,o7,o8,o9,o10,o11]∧DrawAt H2 a c) ⟨_,_,_,_,_,_,_,_,_,_,rfl,d1⟩ ?_ ?_⟩
  · clear d1 s1 ha hc hS H1
    rintro ii σ H2 hii ⟨o2,o3,o4,o5,o6,o7,o8,o9,o10,o11,rfl,d2⟩
    refine ⟨_,rfl,a,c,9,rfl,d2,by decide,by decide,fun y0 H3 y00 y01 d3 kb3=>?_⟩
    refine ⟨_,rfl,a,c,4,rfl,d3,by decide,by decide,fun y1 H4 y10 y11 d4 kb4=>⟨_,_,rfl,rfl,by show 2≤sizeLine; decide,fun tp htp=>?_⟩⟩
    have s5:=same_new (H:=H4) htp (.tup [.int y0,.int (59 + y1)])
    refine ⟨_,rfl,a,c,4,rfl,d4.same s5,by decide,by decide,fun z H6 z0 z1 d6 kb6=>⟨rfl,.inr ⟨_,rfl,?_⟩⟩⟩
    have tp6 : H6 tp=some (.tup [.int y0,.int (59 + y1)]):=kb6 _ _ ((d4.same s5).neT upd_same) upd_same
    obtain ⟨m,hm,m0,m1⟩ : ∃ m : Int,atI [V.int y0,V.int (59 + y1)] (if decide (V.int z=V.int 1)=true then 1 else 0)=some (.int m)∧0≤m∧m≤62:=by
      split
      · exact ⟨59 + y1,rfl,by omega,by omega⟩
      · exact ⟨y0,rfl,y00,by omega⟩
    refine ⟨tp,_,_,.int m,rfl,rfl,SqT.of tp6,hm,?_⟩
    clear hm tp6 s5 htp d4 kb4 d3 kb3 d2 kb6
    refine ⟨by show 0≤sizeLine; decide,fun p hp=>?_⟩
    have npa : p≠a:=d6.ne hp
    have npc : p≠c:=d6.nc hp
    have s7:=same_new (H:=H6) hp (.lst [])
    have d7:=d6.same s7
    refine ⟨_,rfl,m,rfl,by omega,by omega,for_range (n:=m.toNat) (fun i σ H8=>∃ o5 rs,σ=[some (.ref a0),some (.ref a),some (.int (0 + (ii : Int))),some (.int m),some (.ref p),o5,o6,o7,o8,o9,o10,o11]∧DrawAt H8 a c∧Rows H8 p rs∧rs.length=i∧∀ r∈rs,r.length=2) ⟨_,[],rfl,d7,Rows.nil upd_same,rfl,fun r hr=>(by cases hr)⟩ ?_ ?_⟩
    · rintro jj σ H8 hjj ⟨o5,rs,rfl,d8,R8,hl8,hw8⟩
      obtain ⟨ys,ey,eyl,_⟩:=R8.get
      refine ⟨_,rfl,.inl ⟨rfl,_,SqL.of ey⟩,?_⟩
      refine ⟨_,rfl,a,c,999,rfl,d8,by decide,by decide,fun u H9 _ _ d9 kb9=>⟨_,_,rfl,rfl,?_⟩⟩
      refine ⟨_,rfl,a,c,99,rfl,d9,by decide,by decide,fun v H10 _ _ d10 kb10=>⟨_,_,rfl,rfl,by show 2≤sizeLine; decide,fun t ht=>?_⟩⟩
      have kb:=kb9.trans kb10
      have ey10:=kb _ _ npa ey
      have R10:=R8.keep npa d8 kb
      refine ⟨p,ys,.ref t,rfl,rfl,by rw [upd_ne (ne_of_none ey10 ht)]; exact ey10,small1000 (by omega),?_⟩
      have R11:=R10.push (r:=[1 + u,1 + v]) ey10 ht
      refine ⟨_,_,rfl,(d10.same (same_new ht (.tup [.int (1 + u),.int (1 + v)]))).upd npa npc,R11,by rw [List.length_append,hl8]; rfl,fun r hr=>?_⟩
      rcases List.mem_append.mp hr with y | y
      · exact hw8 r y
      · rw [List.mem_singleton.mp y]; rfl
    clear d7 s7 hp d6 H2 H3 H4 H6
    rintro σ H7 ⟨o5,rs,rfl,d7,R7,hl7,hw7⟩
    obtain ⟨xs,ex,hx⟩:=R7.tups
    have lx:=hx.1
    refine ⟨_,rfl,a,c,3,rfl,d7,by decide,by decide,fun y H8 y0' y1' d8 kb8=>?_⟩
    have ex8:=kb8 _ _ npa ex
    refine ⟨_,rfl,by show 0≤sizeLine; decide,fun e he=>?_⟩
    have sE:=same_new (H:=H8) he (.lst [])
    refine cmp_nil (sE _ _ ex8) upd_same (.inr ⟨_,rfl,?_⟩)
    have d9:=d8.same sE
    have R9:=(R7.keep npa d7 kb8).same sE
    generalize L2.upd H8 e (.lst [])=H9 at *
    have hw : ∃ b : Int,(if (true != decide (xs.length=0))=true then (1 : Int) else 0)=b∧(b=0∨(b=1∧0 < xs.length)):=by
      by_cases z : xs.length=0
      · rw [decide_eq_true z]; exact ⟨0,rfl,.inl rfl⟩
      · rw [decide_eq_false z]; exact ⟨1,rfl,.inr ⟨rfl,by omega⟩⟩
    obtain ⟨b,eb,hb⟩:=hw
    rw [eb]
    refine ⟨_,_,rfl,rfl,.inl ⟨by omega,by omega⟩,y * b,rfl,?_,?_,?_⟩
    · rcases hb with z | z
      · rw [z]; omega
      · rw [z.1]; omega
    · rcases hb with z | z
      · rw [z]; omega
      · rw [z.1]; omega
    refine for_range (n:=(y * b).toNat) (fun i σ H8=>∃ o5 o6 o7 rs,σ=[some (.ref a0),some (.ref a),some (.int (0 + (ii : Int))),some (.int m),some (.ref p),o5,o6,o7,o8,o9,o10,o11]∧DrawAt H8 a c∧Rows H8 p rs∧rs.length=xs.length∧∀ r∈rs,r.length=2) ⟨_,_,_,rs,rfl,d9,R9,lx.symm,hw7⟩ ?_ ?_
    · rintro jj σ H10 hjj ⟨o5,o6,o7,rs,rfl,d10,R10,hl10,hw10⟩
      have hpos : 0 < xs.length:=by
        rcases hb with z | z
        · rw [z,Int.mul_zero] at hjj; exact absurd hjj (Nat.not_lt_zero _)
        · exact z.2
      obtain ⟨zs,ez,hz⟩:=R10.tups
      have lz:=hz.1
      refine ⟨_,rfl,_,rfl,p,_,rfl,.inl (SqL.of ez),a,c,_,rfl,d10,by omega,by omega,fun x1 H11 a11 c11 d11 kb11=>?_⟩
      refine ⟨_,rfl,a,c,rfl,d11,fun od H12 d12 kb12=>?_⟩
      have kb:=kb11.trans kb12
      have ez12:=kb _ _ npa ez
      have hz12:=hz.draw d10 kb
      have R12:=R10.keep npa d10 kb
      have hlt : x1.toNat < zs.length:=by omega
      obtain ⟨pr,r,ep,er,hpr⟩:=hz12.at (List.getElem?_eq_getElem hlt)
      have eat : atI zs x1=some (.ref pr):=atI_some a11 (by rw [List.getElem?_eq_getElem hlt,ep])
      obtain ⟨d',c',rfl⟩:=len2 (hw10 r (List.mem_of_getElem? er))
      refine ⟨_,rfl,_,rfl,_,rfl,p,_,_,_,rfl,rfl,SqL.of ez12,eat,pr,_,_,.int c',rfl,rfl,SqT.of hpr,rfl,by show 2≤sizeLine; decide,fun t1 ht1=>?_⟩
      have v1:=same_new (H:=H12) ht1 (.tup [.int od,.int c'])
      refine ⟨_,rfl,_,rfl,p,_,_,_,rfl,rfl,SqL.of (v1 _ _ ez12),eat,pr,_,_,.int d',rfl,rfl,SqT.of (v1 _ _ hpr),rfl,_,rfl,by show 2≤sizeLine; decide,fun t2 ht2=>?_⟩
      have v2:=v1.trans (same_new ht2 (.tup [.int d',.int od]))
      have T1:=same_new ht2 (.tup [.int d',.int od]) _ _ (upd_same (H:=H12) (a:=t1) (o:=.tup [.int od,.int c']))
      refine ⟨by show 2≤sizeLine; decide,fun t3 ht3=>?_⟩
      have v3:=v2.trans (same_new ht3 (.tup [.ref t1,.ref t2]))
      have T1':=same_new ht3 (.tup [.ref t1,.ref t2]) _ _ T1
      have T2':=same_new ht3 (.tup [.ref t1,.ref t2]) _ _ (upd_same (H:=L2.upd H12 t1 (.tup [.int od,.int c'])) (a:=t2) (o:=.tup [.int d',.int od]))
      have T3':=upd_same (H:=L2.upd (L2.upd H12 t1 (.tup [.int od,.int c'])) t2 (.tup [.int d',.int od])) (a:=t3) (o:=.tup [.ref t1,.ref t2])
      have d13:=d12.same v3
      have R13:=R12.same v3
      have ez13:=v3 _ _ ez12
      generalize L2.upd (L2.upd (L2.upd H12 t1 (.tup [.int od,.int c'])) t2 (.tup [.int d',.int od])) t3 (.tup [.ref t1,.ref t2])=H13 at *
      refine ⟨_,rfl,a,c,2,rfl,d13,by decide,by decide,fun w H14 w0 w1 d14 kb14=>?_⟩
      have T3:=kb14 _ _ (d13.neT T3') T3'
      obtain ⟨tz,r',ez',hr',hl'⟩ : ∃ tz r',atI [V.ref t1,V.ref t2] w=some (.ref tz)∧H14 tz=some (.tup ((r' : List Int).map V.int))∧r'.length=2:=by
        have : w=0∨w=1:=by omega
        rcases this with rfl | rfl
        · exact ⟨t1,[od,c'],rfl,kb14 _ _ (d13.neT T1') T1',rfl⟩
        · exact ⟨t2,[d',od],rfl,kb14 _ _ (d13.neT T2') T2',rfl⟩
      refine ⟨t3,_,_,.ref tz,rfl,rfl,SqT.of T3,ez',?_⟩
      have ez14:=kb14 _ _ npa ez13
      have ix : ixN zs.length x1=some x1.toNat:=by unfold ixN; rw [if_pos a11,if_pos (by omega)]
      refine ⟨_,rfl,_,rfl,p,zs,x1,x1.toNat,rfl,rfl,ez14,ix,?_⟩
      refine ⟨_,_,_,rs.set x1.toNat r',rfl,d14.upd npa npc,(R13.keep npa d13 kb14).set ez14 hr',by rw [List.length_set]; exact hl10,fun r0 hr0=>?_⟩
      rcases List.mem_or_eq_of_mem_set hr0 with y' | y'
      · exact hw10 r0 y'
      · rw [y']; exact hl'
    clear d9 R9 hb eb ex8 ex hx R7 d7 d8 kb8 sE he
    rintro σ H9 ⟨o5,o6,o7,rs,rfl,d9,R9,hl9,hw9⟩
    refine ⟨_,rfl,a,c,rfl,d9,fun w0 H10 _ _ d10 kb10=>⟨_,rfl,a,c,rfl,d10,fun w1 H11 d11 kb11=>⟨by show 2≤sizeLine; decide,fun tq htq=>?_⟩⟩⟩
    have s12:=same_new (H:=H11) htq (.tup [.int w0,.int w1])
    refine ⟨_,rfl,a,c,2,rfl,d11.same s12,by decide,by decide,fun u H13 u0 u1 d13 kb13=>?_⟩
    have tq13 : H13 tq=some (.tup [.int w0,.int w1]):=kb13 _ _ ((d11.same s12).neT upd_same) upd_same
    obtain ⟨wt,ewt⟩ : ∃ wt : Int,atI [V.int w0,V.int w1] u=some (.int wt):=by
      have : u=0∨u=1:=by omega
      rcases this with rfl | rfl
      · exact ⟨w0,rfl⟩
      · exact ⟨w1,rfl⟩
    refine ⟨tq,_,_,.int wt,rfl,rfl,SqT.of tq13,ewt,?_⟩
    have k13 : KeepBut a H9 H13:=((kb10.trans kb11).trans (KeepBut.of_same s12)).trans kb13
    have R13:=R9.keep npa d9 k13
    clear k13 kb13 kb11 kb10 s12 htq tq13 ewt d11 d10 d9 R9
    refine ⟨_,rfl,a,c,999,rfl,d13,by decide,by decide,fun v0 H14 _ _ d14 kb14=>⟨_,_,rfl,rfl,?_⟩⟩
    refine ⟨_,rfl,a,c,rfl,d14,fun v1 H15 d15 kb15=>⟨by show 2≤sizeLine; decide,fun tr htr=>?_⟩⟩
    have s16:=same_new (H:=H15) htr (.tup [.int (1 + v0),.int v1])
    refine ⟨_,rfl,a,c,2,rfl,d15.same s16,by decide,by decide,fun u' H17 u0' u1' d17 kb17=>?_⟩
    have tr17 : H17 tr=some (.tup [.int (1 + v0),.int v1]):=kb17 _ _ ((d15.same s16).neT upd_same) upd_same
    obtain ⟨day,eday⟩ : ∃ day : Int,atI [V.int (1 + v0),V.int v1] u' = some (.int day):=by
      have : u' = 0∨u' = 1:=by omega
      rcases this with rfl | rfl
      · exact ⟨1 + v0,rfl⟩
      · exact ⟨v1,rfl⟩
    refine ⟨tr,_,_,.int day,rfl,rfl,SqT.of tr17,eday,?_⟩
    have k17 : KeepBut a H13 H17:=((kb14.trans kb15).trans (KeepBut.of_same s16)).trans kb17
    have R17:=R13.keep npa d13 k17
    clear k17 kb17 kb15 kb14 s16 htr tr17 eday d15 d14 d13 R13
    obtain ⟨xs',ex,hx⟩:=R17.tups
    refine ⟨_,rfl,p,_,rfl,.inl (SqL.of ex),fun kt hkt=>?_⟩
    have s18:=same_new (H:=H17) hkt (.lst xs')
    have npk : p≠kt:=ne_of_none ex hkt
    have K18:=upd_same (H:=H17) (a:=kt) (o:=.lst xs')
    generalize L2.upd H17 kt (.lst xs')=H18 at *
    refine ⟨2,rfl,by decide,by decide,for_range (n:=2) (fun _ σ H19=>∃ o11,σ=[some (.ref a0),some (.ref a),some (.int (0 + (ii : Int))),some (.int m),some (.ref p),o5,o6,o7,some (.int wt),some (.int day),some (.ref kt),o11]∧Same H18 H19) ⟨_,rfl,Same.refl _⟩ ?_ ?_⟩
    · rintro jj σ H19 hjj ⟨o11,rfl,s19⟩
      have S19:=s18.trans s19
      have hk : (0 + (jj : Int)=0∨0 + (jj : Int)=1):=by omega
      refine ⟨_,rfl,_,rfl,_,rfl,_,rfl,p,rs,wt,(0 + (jj : Int)),day,rfl,hk,R17.same S19,hw9,fun H20 s20=>?_⟩
      have S20:=S19.trans s20
      refine ⟨_,rfl,_,rfl,_,rfl,_,rfl,p,rs,wt,(0 + (jj : Int)),day,rfl,hk,R17.same S20,hw9,fun H21 s21=>⟨rfl,_,rfl,?_⟩⟩
      rw [decide_eq_true rfl]
      refine iteF ?_
      have S21:=s19.trans (s20.trans s21)
      have T21:=s18.trans S21
      refine ⟨_,rfl,_,rfl,p,kt,_,_,rfl,rfl,SqL.of (T21 _ _ ex),SqL.of (S21 _ _ K18),.inr ⟨rfl,1,fun _=>true,by decide,fun j x y e1 e2=>?_,_,rfl,?_⟩⟩
      · rw [e1] at e2
        cases e2
        obtain ⟨pr,_,rfl,_,_⟩:=hx.at e1
        exact .same
      rw [all_true]
      exact iteF ⟨_,rfl,S21⟩
    rintro σ H19 ⟨o11,rfl,s19⟩
    exact ⟨_,_,_,_,_,_,_,_,_,_,rfl,d17.same (s18.trans s19)⟩
  · rintro σ H2 ⟨o2,o3,o4,o5,o6,o7,o8,o9,o10,o11,rfl,d2⟩
    exact q _
end
end K31
namespace K31
open PySem L2
def clF (c_0 c_1 c_2 c_3 c_5 : Addr) : Nat→Addr
  | 0=>c_0
  | 1=>c_1
  | 2=>c_2
  | 3=>c_3
  | 5=>c_5
  | _=>c_0
theorem all_mk {l : PySem.W.OpenLaw} {w : World} {K : PySem.W.Frag} {h : Heap} {mg : Str→Option Value} {fa f0 f1 f2 f3 f4 f5 f6 f7 f8 f9 f10 f11 f12 f13 c_0 c_1 c_2 c_3 c_5 : Addr} {u_FIRST_DAY u_LAST_DAY u_MOST_TERM u_MOST_PAID : Tok} (X : K.In h) (G : h.Ns mainGlobals mg) (hfa : mg "law" = some (.ref fa))
    {od0 an0 od1 an1 od2 an2 od3 an3 od4 an4 od5 an5 od6 an6 od7 an7 od8 an8 od9 an9 od10 an10 od11 an11 od12 an12 od13 an13 : Option Addr} {sl0 sl1 sl2 sl3 sl4 sl5 sl6 sl7 sl8 sl9 sl10 sl11 sl12 sl13 : Array (Option Value)} {oc0 kV0 dc0 pm0 cd0 ct0 oc1 kV1 dc1 pm1 cd1 ct1 oc2 kV2 dc2 pm2 cd2 ct2 oc3 kV3 dc3 pm3 cd3 ct3 oc4 kV4 dc4 pm4 cd4 ct4 oc5 kV5 dc5 pm5 cd5 ct5 oc6 kV6 dc6 pm6 cd6 ct6 oc7 kV7 dc7 pm7 cd7 ct7 oc8 kV8 dc8 pm8 cd8 ct8 oc9 kV9 dc9 pm9 cd9 ct9 oc10 kV10 dc10 pm10 cd10 ct10 oc11 kV11 dc11 pm11 cd11 ct11 oc12 kV12 dc12 pm12 cd12 ct12 oc13 kV13 dc13 pm13 cd13 ct13 : Value}
    (a0 : PySem.W.nsIn K mainGlobals "is_day" = some (some (.ref f0)))
    (l0 : K.lookup f0=some ⟨oc0,od0,.func (PySem.W.fnOf "is_day" "is_day" (defArgs s_is_day) (defBody s_is_day) (defScope s_is_day) .none kV0 dc0 pm0 an0 cd0 ct0),sl0⟩)
    (c0 : PySem.W.codeIn K cd0 "is_day" = true)
    (k0 : PySem.W.keepIn K (.ref f0)=true)
    (a1 : PySem.W.nsIn K mainGlobals "check_day" = some (some (.ref f1)))
    (l1 : K.lookup f1=some ⟨oc1,od1,.func (PySem.W.fnOf "check_day" "check_day" (defArgs s_check_day) (defBody s_check_day) (defScope s_check_day) .none kV1 dc1 pm1 an1 cd1 ct1),sl1⟩)
    (c1 : PySem.W.codeIn K cd1 "check_day" = true)
    (k1 : PySem.W.keepIn K (.ref f1)=true)
    (a2 : PySem.W.nsIn K mainGlobals "check_term" = some (some (.ref f2)))
    (l2 : K.lookup f2=some ⟨oc2,od2,.func (PySem.W.fnOf "check_term" "check_term" (defArgs s_check_term) (defBody s_check_term) (defScope s_check_term) .none kV2 dc2 pm2 an2 cd2 ct2),sl2⟩)
    (c2 : PySem.W.codeIn K cd2 "check_term" = true)
    (k2 : PySem.W.keepIn K (.ref f2)=true)
    (a3 : PySem.W.nsIn K mainGlobals "checked_paid" = some (some (.ref f3)))
    (l3 : K.lookup f3=some ⟨oc3,od3,.func (PySem.W.fnOf "checked_paid" "checked_paid" (defArgs s_checked_paid) (defBody s_checked_paid) (defScope s_checked_paid) .none kV3 dc3 pm3 an3 cd3 ct3),sl3⟩)
    (c3 : PySem.W.codeIn K cd3 "checked_paid" = true)
    (k3 : PySem.W.keepIn K (.ref f3)=true)
    (a4 : PySem.W.nsIn K mainGlobals "sum_for" = some (some (.ref f4)))
    (l4 : K.lookup f4=some ⟨oc4,od4,.func (PySem.W.fnOf "sum_for" "sum_for" (defArgs s_sum_for) (defBody s_sum_for) (defScope s_sum_for) .none kV4 dc4 pm4 an4 cd4 ct4),sl4⟩)
    (c4 : PySem.W.codeIn K cd4 "sum_for" = true)
    (k4 : PySem.W.keepIn K (.ref f4)=true)
    (a5 : PySem.W.nsIn K mainGlobals "vouched" = some (some (.ref f5)))
    (l5 : K.lookup f5=some ⟨oc5,od5,.func (PySem.W.fnOf "vouched" "vouched" (defArgs s_vouched) (defBody s_vouched) (defScope s_vouched) .none kV5 dc5 pm5 an5 cd5 ct5),sl5⟩)
    (c5 : PySem.W.codeIn K cd5 "vouched" = true)
    (k5 : PySem.W.keepIn K (.ref f5)=true)
    (a6 : PySem.W.nsIn K mainGlobals "surety" = some (some (.ref f6)))
    (l6 : K.lookup f6=some ⟨oc6,od6,.func (PySem.W.fnOf "surety" "surety" (defArgs s_surety) (defBody s_surety) (defScope s_surety) .none kV6 dc6 pm6 an6 cd6 ct6),sl6⟩)
    (c6 : PySem.W.codeIn K cd6 "surety" = true)
    (k6 : PySem.W.keepIn K (.ref f6)=true)
    (a7 : PySem.W.nsIn K mainGlobals "_law_begin" = some (some (.ref f7)))
    (l7 : K.lookup f7=some ⟨oc7,od7,.func (PySem.W.fnOf "_law_begin" "_law_begin" (defArgs s_begin) (defBody s_begin) (defScope s_begin) .none kV7 dc7 pm7 an7 cd7 ct7),sl7⟩)
    (c7 : PySem.W.codeIn K cd7 "_law_begin" = true)
    (k7 : PySem.W.keepIn K (.ref f7)=true)
    (a8 : PySem.W.nsIn K mainGlobals "_law_pick" = some (some (.ref f8)))
    (l8 : K.lookup f8=some ⟨oc8,od8,.func (PySem.W.fnOf "_law_pick" "_law_pick" (defArgs s_pick) (defBody s_pick) (defScope s_pick) .none kV8 dc8 pm8 an8 cd8 ct8),sl8⟩)
    (c8 : PySem.W.codeIn K cd8 "_law_pick" = true)
    (k8 : PySem.W.keepIn K (.ref f8)=true)
    (a9 : PySem.W.nsIn K mainGlobals "_law_odd" = some (some (.ref f9)))
    (l9 : K.lookup f9=some ⟨oc9,od9,.func (PySem.W.fnOf "_law_odd" "_law_odd" (defArgs s_odd) (defBody s_odd) (defScope s_odd) .none kV9 dc9 pm9 an9 cd9 ct9),sl9⟩)
    (c9 : PySem.W.codeIn K cd9 "_law_odd" = true)
    (k9 : PySem.W.keepIn K (.ref f9)=true)
    (a10 : PySem.W.nsIn K mainGlobals "_law_some_term" = some (some (.ref f10)))
    (l10 : K.lookup f10=some ⟨oc10,od10,.func (PySem.W.fnOf "_law_some_term" "_law_some_term" (defArgs s_some_term) (defBody s_some_term) (defScope s_some_term) .none kV10 dc10 pm10 an10 cd10 ct10),sl10⟩)
    (c10 : PySem.W.codeIn K cd10 "_law_some_term" = true)
    (k10 : PySem.W.keepIn K (.ref f10)=true)
    (a11 : PySem.W.nsIn K mainGlobals "_law_said" = some (some (.ref f11)))
    (l11 : K.lookup f11=some ⟨oc11,od11,.func (PySem.W.fnOf "_law_said" "_law_said" (defArgs s_said) (defBody s_said) (defScope s_said) .none kV11 dc11 pm11 an11 cd11 ct11),sl11⟩)
    (c11 : PySem.W.codeIn K cd11 "_law_said" = true)
    (k11 : PySem.W.keepIn K (.ref f11)=true)
    (a12 : PySem.W.nsIn K mainGlobals "_law_due" = some (some (.ref f12)))
    (l12 : K.lookup f12=some ⟨oc12,od12,.func (PySem.W.fnOf "_law_due" "_law_due" (defArgs s_due) (defBody s_due) (defScope s_due) .none kV12 dc12 pm12 an12 cd12 ct12),sl12⟩)
    (c12 : PySem.W.codeIn K cd12 "_law_due" = true)
    (k12 : PySem.W.keepIn K (.ref f12)=true)
    (a13 : PySem.W.nsIn K mainGlobals "law" = some (some (.ref f13)))
    (l13 : K.lookup f13=some ⟨oc13,od13,.func (PySem.W.fnOf "law" "law" (defArgs s_law) (defBody s_law) (defScope s_law) .none kV13 dc13 pm13 an13 cd13 ct13),sl13⟩)
    (c13 : PySem.W.codeIn K cd13 "law" = true)
    (k13 : PySem.W.keepIn K (.ref f13)=true)
    (z_len : PySem.W.nsIn K mainGlobals "len" = some none)
    (z_list : PySem.W.nsIn K mainGlobals "list" = some none)
    (z_isi : PySem.W.nsIn K mainGlobals "isinstance" = some none)
    (z_bool : PySem.W.nsIn K mainGlobals "bool" = some none)
    (z_int : PySem.W.nsIn K mainGlobals "int" = some none)
    (z_str : PySem.W.nsIn K mainGlobals "str" = some none)
    (z_tuple : PySem.W.nsIn K mainGlobals "tuple" = some none)
    (z_all : PySem.W.nsIn K mainGlobals "all" = some none)
    (z_any : PySem.W.nsIn K mainGlobals "any" = some none)
    (z_zip : PySem.W.nsIn K mainGlobals "zip" = some none)
    (z_range : PySem.W.nsIn K mainGlobals "range" = some none)
    (z_max : PySem.W.nsIn K mainGlobals "max" = some none)
    (z_min : PySem.W.nsIn K mainGlobals "min" = some none)
    (z_enumerate : PySem.W.nsIn K mainGlobals "enumerate" = some none)
    (z_sum : PySem.W.nsIn K mainGlobals "sum" = some none)
    (z_sorted : PySem.W.nsIn K mainGlobals "sorted" = some none)
    (z_verr : PySem.W.nsIn K mainGlobals "ValueError" = some none)
    (g_FIRST_DAY : PySem.W.nsIn K mainGlobals "FIRST_DAY" = some (some (.int 1 u_FIRST_DAY)))
    (g_LAST_DAY : PySem.W.nsIn K mainGlobals "LAST_DAY" = some (some (.int 999 u_LAST_DAY)))
    (g_MOST_TERM : PySem.W.nsIn K mainGlobals "MOST_TERM" = some (some (.int 400 u_MOST_TERM)))
    (g_MOST_PAID : PySem.W.nsIn K mainGlobals "MOST_PAID" = some (some (.int 60 u_MOST_PAID)))
    (g_0 : PySem.W.nsIn K mainGlobals "CustomsError" = some (some (.ref c_0)))
    (g_1 : PySem.W.nsIn K mainGlobals "BadDay" = some (some (.ref c_1)))
    (g_2 : PySem.W.nsIn K mainGlobals "BadTerm" = some (some (.ref c_2)))
    (g_3 : PySem.W.nsIn K mainGlobals "BadCount" = some (some (.ref c_3)))
    (g_4 : PySem.W.nsIn K mainGlobals "BadRows" = some (some (.ref c_5)))
    (x_1 : PySem.W.excIn K c_1 vbm "ValueError.__new__" = true)
    (x_2 : PySem.W.excIn K c_2 vbm "ValueError.__new__" = true)
    (x_3 : PySem.W.excIn K c_3 vbm "ValueError.__new__" = true)
    (x_4 : PySem.W.excIn K c_5 vbm "ValueError.__new__" = true)
    (ga_4 : PySem.W.findIn K (.ref c_5) "__getattribute__" = some (some (.builtin "BaseException.__getattribute__")))
    (gt_4 : PySem.W.findIn K (.ref c_5) "__getattr__" = some none)
    (cl_4 : PySem.W.findIn K (.ref c_5) "__class__" = some (some (.builtin "object.__class__")))
    (mo_4 : PySem.W.mroIn K c_5 (.type "object")=some true)
    (sb_4 : PySem.W.subIn K (.ref c_5) (.type "BaseException")=some true)
    (mC_4 : PySem.W.mroIn K c_5 (.ref c_0)=some true)
    (q_4_4 : PySem.W.mroIn K c_5 (.ref c_5)=some true)
    (q_4_1 : PySem.W.mroIn K c_5 (.ref c_1)=some false)
    (q_4_3 : PySem.W.mroIn K c_5 (.ref c_3)=some false)
    (q_4_2 : PySem.W.mroIn K c_5 (.ref c_2)=some false)
    (v_4 : PySem.W.mroIn K c_5 (.type "ValueError")=some true)
    (t_4 : PySem.W.typeIn K (.ref c_5)=some (.type "type"))
    (ga_1 : PySem.W.findIn K (.ref c_1) "__getattribute__" = some (some (.builtin "BaseException.__getattribute__")))
    (gt_1 : PySem.W.findIn K (.ref c_1) "__getattr__" = some none)
    (cl_1 : PySem.W.findIn K (.ref c_1) "__class__" = some (some (.builtin "object.__class__")))
    (mo_1 : PySem.W.mroIn K c_1 (.type "object")=some true)
    (sb_1 : PySem.W.subIn K (.ref c_1) (.type "BaseException")=some true)
    (mC_1 : PySem.W.mroIn K c_1 (.ref c_0)=some true)
    (q_1_4 : PySem.W.mroIn K c_1 (.ref c_5)=some false)
    (q_1_1 : PySem.W.mroIn K c_1 (.ref c_1)=some true)
    (q_1_3 : PySem.W.mroIn K c_1 (.ref c_3)=some false)
    (q_1_2 : PySem.W.mroIn K c_1 (.ref c_2)=some false)
    (v_1 : PySem.W.mroIn K c_1 (.type "ValueError")=some true)
    (t_1 : PySem.W.typeIn K (.ref c_1)=some (.type "type"))
    (ga_3 : PySem.W.findIn K (.ref c_3) "__getattribute__" = some (some (.builtin "BaseException.__getattribute__")))
    (gt_3 : PySem.W.findIn K (.ref c_3) "__getattr__" = some none)
    (cl_3 : PySem.W.findIn K (.ref c_3) "__class__" = some (some (.builtin "object.__class__")))
    (mo_3 : PySem.W.mroIn K c_3 (.type "object")=some true)
    (sb_3 : PySem.W.subIn K (.ref c_3) (.type "BaseException")=some true)
    (mC_3 : PySem.W.mroIn K c_3 (.ref c_0)=some true)
    (q_3_4 : PySem.W.mroIn K c_3 (.ref c_5)=some false)
    (q_3_1 : PySem.W.mroIn K c_3 (.ref c_1)=some false)
    (q_3_3 : PySem.W.mroIn K c_3 (.ref c_3)=some true)
    (q_3_2 : PySem.W.mroIn K c_3 (.ref c_2)=some false)
    (v_3 : PySem.W.mroIn K c_3 (.type "ValueError")=some true)
    (t_3 : PySem.W.typeIn K (.ref c_3)=some (.type "type"))
    (ga_2 : PySem.W.findIn K (.ref c_2) "__getattribute__" = some (some (.builtin "BaseException.__getattribute__")))
    (gt_2 : PySem.W.findIn K (.ref c_2) "__getattr__" = some none)
    (cl_2 : PySem.W.findIn K (.ref c_2) "__class__" = some (some (.builtin "object.__class__")))
    (mo_2 : PySem.W.mroIn K c_2 (.type "object")=some true)
    (sb_2 : PySem.W.subIn K (.ref c_2) (.type "BaseException")=some true)
    (mC_2 : PySem.W.mroIn K c_2 (.ref c_0)=some true)
    (q_2_4 : PySem.W.mroIn K c_2 (.ref c_5)=some false)
    (q_2_1 : PySem.W.mroIn K c_2 (.ref c_1)=some false)
    (q_2_3 : PySem.W.mroIn K c_2 (.ref c_3)=some false)
    (q_2_2 : PySem.W.mroIn K c_2 (.ref c_2)=some true)
    (v_2 : PySem.W.mroIn K c_2 (.type "ValueError")=some true)
    (t_2 : PySem.W.typeIn K (.ref c_2)=some (.type "type"))
    (t_0 : PySem.W.typeIn K (.ref c_0)=some (.type "type"))
    (sb_0 : PySem.W.subIn K (.ref c_0) (.type "BaseException")=some true)
    (gg : PySem.W.specialIn K (.builtin "object.__class__") "__get__" = some (some (.builtin "getset_descriptor.__get__")))
    (tk : PySem.W.takesIn K (.builtin "object.__class__")=some true)
    : ∃ fd : FuncData,(∀ (s : Shared) (v : Value),BindsTo s fd ⟨[v],[]⟩ [("_law_script",v)])∧∀ base : Heap,K.In base→base.Ns mainGlobals mg→FnOk l.prog w K mg base CX0 6 fa fd ["_law_script"] (spLaw K):=by
  have e:=hfa.symm.trans (PySem.W.mg_of X G a13)
  cases e
  have F0:=fun_mk (st:=s_is_day) l0 c0 k0
  have F1:=fun_mk (st:=s_check_day) l1 c1 k1
  have F2:=fun_mk (st:=s_check_term) l2 c2 k2
  have F3:=fun_mk (st:=s_checked_paid) l3 c3 k3
  have F4:=fun_mk (st:=s_sum_for) l4 c4 k4
  have F5:=fun_mk (st:=s_vouched) l5 c5 k5
  have F6:=fun_mk (st:=s_surety) l6 c6 k6
  have F7:=fun_mk (st:=s_begin) l7 c7 k7
  have F8:=fun_mk (st:=s_pick) l8 c8 k8
  have F9:=fun_mk (st:=s_odd) l9 c9 k9
  have F10:=fun_mk (st:=s_some_term) l10 c10 k10
  have F11:=fun_mk (st:=s_said) l11 c11 k11
  have F12:=fun_mk (st:=s_due) l12 c12 k12
  have F13:=fun_mk (st:=s_law) l13 c13 k13
  have b0:=F0.binds (ps:=p_is_day) fun _ _ _ _ _ _ us hl=>match us,hl with | [_],_=>rfl
  have m0:=PySem.W.mg_of X G a0
  have b1:=F1.binds (ps:=p_check_day) fun _ _ _ _ _ _ us hl=>match us,hl with | [_],_=>rfl
  have m1:=PySem.W.mg_of X G a1
  have b2:=F2.binds (ps:=p_check_term) fun _ _ _ _ _ _ us hl=>match us,hl with | [_],_=>rfl
  have m2:=PySem.W.mg_of X G a2
  have b3:=F3.binds (ps:=p_checked_paid) fun _ _ _ _ _ _ us hl=>match us,hl with | [_],_=>rfl
  have m3:=PySem.W.mg_of X G a3
  have b4:=F4.binds (ps:=p_sum_for) fun _ _ _ _ _ _ us hl=>match us,hl with | [_,_,_],_=>rfl
  have m4:=PySem.W.mg_of X G a4
  have b5:=F5.binds (ps:=p_vouched) fun _ _ _ _ _ _ us hl=>match us,hl with | [_,_,_],_=>rfl
  have m5:=PySem.W.mg_of X G a5
  have b6:=F6.binds (ps:=p_surety) fun _ _ _ _ _ _ us hl=>match us,hl with | [_,_],_=>rfl
  have m6:=PySem.W.mg_of X G a6
  have b7:=F7.binds (ps:=p_begin) fun _ _ _ _ _ _ us hl=>match us,hl with | [_],_=>rfl
  have m7:=PySem.W.mg_of X G a7
  have b8:=F8.binds (ps:=p_pick) fun _ _ _ _ _ _ us hl=>match us,hl with | [_,_],_=>rfl
  have m8:=PySem.W.mg_of X G a8
  have b9:=F9.binds (ps:=p_odd) fun _ _ _ _ _ _ us hl=>match us,hl with | [_],_=>rfl
  have m9:=PySem.W.mg_of X G a9
  have b10:=F10.binds (ps:=p_some_term) fun _ _ _ _ _ _ us hl=>match us,hl with | [_],_=>rfl
  have m10:=PySem.W.mg_of X G a10
  have b11:=F11.binds (ps:=p_said) fun _ _ _ _ _ _ us hl=>match us,hl with | [_,_,_,_],_=>rfl
  have m11:=PySem.W.mg_of X G a11
  have b12:=F12.binds (ps:=p_due) fun _ _ _ _ _ _ us hl=>match us,hl with | [_,_,_,_],_=>rfl
  have m12:=PySem.W.mg_of X G a12
  have B : Bn mg:=⟨PySem.W.mg_none_of X G z_len,PySem.W.mg_none_of X G z_list,PySem.W.mg_none_of X G z_isi,PySem.W.mg_none_of X G z_bool,PySem.W.mg_none_of X G z_int,PySem.W.mg_none_of X G z_str,PySem.W.mg_none_of X G z_tuple,PySem.W.mg_none_of X G z_all,PySem.W.mg_none_of X G z_any,PySem.W.mg_none_of X G z_zip,PySem.W.mg_none_of X G z_range,PySem.W.mg_none_of X G z_max,PySem.W.mg_none_of X G z_min,PySem.W.mg_none_of X G z_enumerate,PySem.W.mg_none_of X G z_sum,PySem.W.mg_none_of X G z_sorted,PySem.W.mg_none_of X G z_verr⟩
  have TY : ∃ cl,Txt K mg cl∧XcL K cl [5,1,3,2]:=by
    refine ⟨(clF c_0 c_1 c_2 c_3 c_5),⟨⟨⟨_,PySem.W.mg_of X G g_FIRST_DAY⟩,⟨_,PySem.W.mg_of X G g_LAST_DAY⟩,⟨_,PySem.W.mg_of X G g_MOST_TERM⟩,⟨_,PySem.W.mg_of X G g_MOST_PAID⟩,PySem.W.mg_of X G g_0,PySem.W.mg_of X G g_1,PySem.W.mg_of X G g_2,PySem.W.mg_of X G g_3,PySem.W.mg_of X G g_4,x_1,x_2,x_3,x_4⟩,?_⟩⟩
    have X_4 : XCls K c_5:=⟨ga_4,gt_4,cl_4,gg,tk,mo_4,sb_4,cls_some mo_4⟩
    have X_1 : XCls K c_1:=⟨ga_1,gt_1,cl_1,gg,tk,mo_1,sb_1,cls_some mo_1⟩
    have X_3 : XCls K c_3:=⟨ga_3,gt_3,cl_3,gg,tk,mo_3,sb_3,cls_some mo_3⟩
    have X_2 : XCls K c_2:=⟨ga_2,gt_2,cl_2,gg,tk,mo_2,sb_2,cls_some mo_2⟩
    have iC : (PySem.W.clsIn K c_0).isSome=true:=cls_some (b:=true) (v:=.type "BaseException") sb_0
    exact ⟨(List.forall_mem_cons.mpr ⟨X_4,(List.forall_mem_cons.mpr ⟨X_1,(List.forall_mem_cons.mpr ⟨X_3,(List.forall_mem_cons.mpr ⟨X_2,(fun _ h=>nomatch h)⟩)⟩)⟩)⟩),(List.forall_mem_cons.mpr ⟨exm_of sb_0 iC t_0 mC_4,(List.forall_mem_cons.mpr ⟨exm_of sb_0 iC t_0 mC_1,(List.forall_mem_cons.mpr ⟨exm_of sb_0 iC t_0 mC_3,(List.forall_mem_cons.mpr ⟨exm_of sb_0 iC t_0 mC_2,(fun _ h=>nomatch h)⟩)⟩)⟩)⟩),(List.forall_mem_cons.mpr ⟨(List.forall_mem_cons.mpr ⟨kit_self,(List.forall_mem_cons.mpr ⟨kit_ne q_4_4 (cls_some mo_1) t_1 q_4_1,(List.forall_mem_cons.mpr ⟨kit_ne q_4_4 (cls_some mo_3) t_3 q_4_3,(List.forall_mem_cons.mpr ⟨kit_ne q_4_4 (cls_some mo_2) t_2 q_4_2,(fun _ h=>nomatch h)⟩)⟩)⟩)⟩),(List.forall_mem_cons.mpr ⟨(List.forall_mem_cons.mpr ⟨kit_ne q_1_1 (cls_some mo_4) t_4 q_1_4,(List.forall_mem_cons.mpr ⟨kit_self,(List.forall_mem_cons.mpr ⟨kit_ne q_1_1 (cls_some mo_3) t_3 q_1_3,(List.forall_mem_cons.mpr ⟨kit_ne q_1_1 (cls_some mo_2) t_2 q_1_2,(fun _ h=>nomatch h)⟩)⟩)⟩)⟩),(List.forall_mem_cons.mpr ⟨(List.forall_mem_cons.mpr ⟨kit_ne q_3_3 (cls_some mo_4) t_4 q_3_4,(List.forall_mem_cons.mpr ⟨kit_ne q_3_3 (cls_some mo_1) t_1 q_3_1,(List.forall_mem_cons.mpr ⟨kit_self,(List.forall_mem_cons.mpr ⟨kit_ne q_3_3 (cls_some mo_2) t_2 q_3_2,(fun _ h=>nomatch h)⟩)⟩)⟩)⟩),(List.forall_mem_cons.mpr ⟨(List.forall_mem_cons.mpr ⟨kit_ne q_2_2 (cls_some mo_4) t_4 q_2_4,(List.forall_mem_cons.mpr ⟨kit_ne q_2_2 (cls_some mo_1) t_1 q_2_1,(List.forall_mem_cons.mpr ⟨kit_ne q_2_2 (cls_some mo_3) t_3 q_2_3,(List.forall_mem_cons.mpr ⟨kit_self,(fun _ h=>nomatch h)⟩)⟩)⟩)⟩),(fun _ h=>nomatch h)⟩)⟩)⟩)⟩),(List.forall_mem_cons.mpr ⟨kit_ty meta_VE v_4,(List.forall_mem_cons.mpr ⟨kit_ty meta_VE v_1,(List.forall_mem_cons.mpr ⟨kit_ty meta_VE v_3,(List.forall_mem_cons.mpr ⟨kit_ty meta_VE v_2,(fun _ h=>nomatch h)⟩)⟩)⟩)⟩)⟩
  obtain ⟨cl,T,Y⟩:=TY
  refine ⟨PySem.W.fnOf "law" "law" (defArgs s_law) (defBody s_law) (defScope s_law) .none kV13 dc13 pm13 an13 cd13 ct13,fun s v=>.of_eq rfl,fun base _ _=>?_⟩
  have G0 : Cal l.prog w K mg base CX0 1 "is_day" p_is_day spIsDay:=⟨⟨_,_,ok_is_day T B F0,b0,k0,m0⟩⟩
  have G1 : Cal l.prog w K mg base (CXE l.prog w) 2 "check_day" p_check_day (spIn (cl 1) 999):=⟨⟨_,_,ok_check_day T B G0 F1,b1,k1,m1⟩⟩
  have G2 : Cal l.prog w K mg base (CXE l.prog w) 2 "check_term" p_check_term (spTerm (cl 2)):=⟨⟨_,_,ok_check_term T B F2,b2,k2,m2⟩⟩
  have G3 : Cal l.prog w K mg base (CXE l.prog w) 3 "checked_paid" p_checked_paid (spChkPaid cl):=⟨⟨_,_,ok_checked_paid T B G1 F3,b3,k3,m3⟩⟩
  have G4 : Cal l.prog w K mg base CX0 1 "sum_for" p_sum_for spSumFor:=⟨⟨_,_,ok_sum_for T B F4,b4,k4,m4⟩⟩
  have G5 : Cal l.prog w K mg base (CXE l.prog w) 4 "vouched" p_vouched (spVouched cl):=⟨⟨_,_,ok_vouched T B G3 G2 G1 G4 F5,b5,k5,m5⟩⟩
  have G6 : Cal l.prog w K mg base (CXE l.prog w) 4 "surety" p_surety (spSurety cl):=⟨⟨_,_,ok_surety T B G3 G2 G4 F6,b6,k6,m6⟩⟩
  have G7 : Cal l.prog w K mg base CX0 1 "_law_begin" p_begin (spBegin K):=⟨⟨_,_,ok_begin F7 B,b7,k7,m7⟩⟩
  have G8 : Cal l.prog w K mg base CX0 1 "_law_pick" p_pick spPick:=⟨⟨_,_,ok_pick F8 B,b8,k8,m8⟩⟩
  have G9 : Cal l.prog w K mg base CX0 2 "_law_odd" p_odd spOdd:=⟨⟨_,_,ok_odd B G8 F9,b9,k9,m9⟩⟩
  have G10 : Cal l.prog w K mg base CX0 2 "_law_some_term" p_some_term spSome:=⟨⟨_,_,ok_some_term B G8 F10,b10,k10,m10⟩⟩
  have G11 : Cal l.prog w K mg base CX0 5 "_law_said" p_said spSaid:=⟨⟨_,_,ok_said B T Y G6 G5 F11,b11,k11,m11⟩⟩
  have G12 : Cal l.prog w K mg base CX0 1 "_law_due" p_due spSaid:=⟨⟨_,_,ok_due B F12,b12,k12,m12⟩⟩
  exact ok_law B G7 G8 G9 G10 G11 G12 F13
theorem walk {l : PySem.W.OpenLaw} {q : Program} {loose : List Str} {XP : (Str→Option Value)→Heap→Prop} {YP : World→Heap→Prop} {d : DefRec} {K : Params→PySem.W.Frag} (hn : l.most=some 63) (hdf : d.params.defaults=[])
    (hY : ∀ (w : World) (h : Heap),YP w h→(K w.params).In h)
    (F : ∀ (w : World) (mg : Str→Option Value) (fa : Addr) (h : Heap),(K w.params).In h→h.Ns mainGlobals mg→mg d.name=some (.ref fa)→
      ∃ fd : FuncData,(∀ (s : Shared) (u : Value),BindsTo s fd ⟨[u],[]⟩ [("_law_script",u)])∧∀ base : Heap,(K w.params).In base→base.Ns mainGlobals mg→FnOk l.prog w (K w.params) mg base CX0 6 fa fd ["_law_script"] (spLaw (K w.params))) :
    PySem.W.WalkO q loose XP YP l.row.toRowW d [] (fun f vs=>PySem.call f vs):=
  L2.walk_of (n:=63) (k:=6) (x := "_law_script") (CX:=fun _=>CX0) (sp:=fun w=>spLaw (K w.params)) hn (by decide) hdf ⟨rfl,by decide,by decide⟩ hY F (fun _ _ a ns hl _ hS=>⟨a,ns,rfl,hS,hl,fun _=>rfl⟩) fun _ _ _ _ _ z=>z
end K31
def PySem.W.Fast.tw8573294272702568770 : Nat:=0
def PySem.W.Fast.tw917854839204121032 : Nat:=0
def PySem.W.Fast.tw14962616271060866021 : Nat:=0
def PySem.W.Fast.tw11101368647937722171 : Nat:=0
def PySem.W.Fast.tw18147826550601801263 : Nat:=0
def PySem.W.Fast.tw16625195202898388305 : Nat:=0
def PySem.W.Fast.tw8508772047221803728 : Nat:=0
def PySem.W.Fast.tw18244388609225446433 : Nat:=0
def PySem.W.Fast.tw8663275488621269161 : Nat:=0
def PySem.W.Fast.tw71328030102386788 : Nat:=0
def PySem.W.Fast.tw13874626640796422036 : Nat:=0
def PySem.W.Fast.tw1087527731488937299 : Nat:=0
def PySem.W.Fast.tw4220563639425156682 : Nat:=0
def PySem.W.Fast.tw15939617936142189875 : Nat:=0
def PySem.W.Fast.tw13872703615284199851 : Nat:=0
def PySem.W.Fast.tw12808281964972898139 : Nat:=0
def PySem.W.Fast.tw3248998111919417069 : Nat:=0
def PySem.W.Fast.tw16552422061575998569 : Nat:=0
def PySem.W.Fast.tw5830118288117857052 : Nat:=0
def PySem.W.Fast.tw5888467100712309028 : Nat:=0
def PySem.W.Fast.tw7039586465676987931 : Nat:=0
def PySem.W.Fast.tw12194290818465253344 : Nat:=0
def PySem.W.Fast.tw5344904795144543189 : Nat:=0
def PySem.W.Fast.tw17275617615295733273 : Nat:=0
def PySem.W.Fast.tw15857358890062176026 : Nat:=0
def PySem.W.Fast.tw2679386237585730367 : Nat:=0
def PySem.W.Fast.tw7432970444010614518 : Nat:=0
def PySem.W.Fast.tw18099492555016574471 : Nat:=0
def PySem.W.Fast.tw4788447391155982700 : Nat:=0
def PySem.W.Fast.tw17217935925162835642 : Nat:=0
def PySem.W.Fast.tw15297659080004140550 : Nat:=0
def PySem.W.Fast.tw7874340543119282008 : Nat:=0
def PySem.W.Fast.tw5549768728686134799 : Nat:=0
def PySem.W.Fast.tw15789472610897770753 : Nat:=0
def PySem.W.Fast.tw7001683876718485593 : Nat:=0
def PySem.W.Fast.tw5453232107672231678 : Nat:=0
def PySem.W.Fast.tw15704536043641227897 : Nat:=0
def PySem.W.Fast.tw12154637622847166897 : Nat:=0
def PySem.W.Fast.tw7646797883969666071 : Nat:=0
def PySem.W.Fast.tw916424789122229033 : Nat:=0
def PySem.W.Fast.tw5405840465808539309 : Nat:=0
def PySem.W.Fast.tw8863863596047492902 : Nat:=0
def PySem.W.Fast.tw4229082037740946933 : Nat:=0
def PySem.W.Fast.tw18266373870664199297 : Nat:=0
def PySem.W.Fast.tw2141470188755572642 : Nat:=0
def PySem.W.Fast.tw1453221527265426356 : Nat:=0
def PySem.W.Fast.tw13784255000136679900 : Nat:=0
def PySem.W.Fast.tw102399924332139275 : Nat:=0
def PySem.W.Fast.tw14295780791929109495 : Nat:=0
def PySem.W.Fast.tw16387239699110527000 : Nat:=0
def PySem.W.Fast.tw15774225999832509357 : Nat:=0
def PySem.W.Fast.tw17906275636561478448 : Nat:=0
def PySem.W.Fast.tw7795957702521214472 : Nat:=0
def PySem.W.Fast.tw8115670907305184305 : Nat:=0
def PySem.W.Fast.tw3332551808486264480 : Nat:=0
def PySem.W.Fast.tw14266629148568814745 : Nat:=0
def PySem.W.Fast.tw3397300381644419871 : Nat:=0
def PySem.W.Fast.tw17817799912952307065 : Nat:=0
def PySem.W.Fast.tw10160434407564556714 : Nat:=0
def PySem.W.Fast.tw14321865906921818602 : Nat:=0
def PySem.W.Fast.tw10724658681728327988 : Nat:=0
def PySem.W.Fast.tw14064013578725368954 : Nat:=0
def PySem.W.Fast.tw13776414635548474441 : Nat:=0
def PySem.W.Fast.tw16781316299914584220 : Nat:=0
def PySem.W.Fast.tw10697512041682907643 : Nat:=0
def PySem.W.Fast.tw15333717027733361254 : Nat:=0
def PySem.W.Fast.tw14184321800878887735 : Nat:=0
def PySem.W.Fast.tw12673660385178104636 : Nat:=0
def PySem.W.Fast.tw12008704320486318678 : Nat:=0
def PySem.W.Fast.tw17743831694024098368 : Nat:=0
def PySem.W.Fast.tw10901011421279579377 : Nat:=0
def PySem.W.Fast.tw11666592356014694456 : Nat:=0
def PySem.W.Fast.tw15832412849259804131 : Nat:=0
def PySem.W.Fast.tw15254281913641042092 : Nat:=0
def PySem.W.Fast.tw9179475120277476069 : Nat:=0
def PySem.W.Fast.tw13890133652477547950 : Nat:=0
def PySem.W.Fast.tw9357748822226918630 : Nat:=0
def PySem.W.Fast.tw9321160824123742448 : Nat:=0
def PySem.W.Fast.tw16451870224179912623 : Nat:=0
def PySem.W.Fast.tw9046150219305565386 : Nat:=0
def PySem.W.Fast.tw17486583315870061388 : Nat:=0
def PySem.W.Fast.tw12053284902463637734 : Nat:=0
def PySem.W.Fast.tw11256137598089816980 : Nat:=0
def PySem.W.Fast.tw16159007997071968240 : Nat:=0
def PySem.W.Fast.tw487200627485465990 : Nat:=0
def PySem.W.Fast.tw2869416416252644641 : Nat:=0
def PySem.W.Fast.tw4300771558700756362 : Nat:=0
def PySem.W.Fast.tw3963862307021751460 : Nat:=0
def PySem.W.Fast.tw6398121263855096648 : Nat:=0
def PySem.W.Fast.tw9293419011406303746 : Nat:=0
def PySem.W.Fast.tw4201346186468521969 : Nat:=0
def PySem.W.Fast.tw11844301477127514842 : Nat:=0
def PySem.W.Fast.tw7159695364404851351 : Nat:=0
def PySem.W.Fast.tw7770052177581915016 : Nat:=0
def PySem.W.Fast.tw14176282351112353247 : Nat:=0
def PySem.W.Fast.tw4075346974524741322 : Nat:=0
def PySem.W.Fast.tw1615342819398095437 : Nat:=0
def PySem.W.Fast.tw1783143849520076741 : Nat:=0
def PySem.W.Fast.tw11444679190522140228 : Nat:=0
def PySem.W.Fast.tw1082542909269516083 : Nat:=0
def PySem.W.Fast.tw17008844994765542889 : Nat:=0
def PySem.W.Fast.tw4818051711934805198 : Nat:=0
def PySem.W.Fast.tw7744864691675275713 : Nat:=0
def PySem.W.Fast.tw1945532753353282585 : Nat:=0
def PySem.W.Fast.tw3442792126612561586 : Nat:=0
def PySem.W.Fast.tw12351052007207400250 : Nat:=0
def PySem.W.Fast.tw2404158374655119026 : Nat:=0
def PySem.W.Fast.tw11344403026681351076 : Nat:=0
def PySem.W.Fast.tw17408722708720143023 : Nat:=0
def PySem.W.Fast.tw4431047003860477900 : Nat:=0
def PySem.W.Fast.tw11907471816476051151 : Nat:=0
def PySem.W.Fast.tw5758706575487248305 : Nat:=0
def PySem.W.Fast.tw9242906034610893524 : Nat:=0
def PySem.W.Fast.tw4511615586861281458 : Nat:=0
def PySem.W.Fast.tw1964116384260203246 : Nat:=0
def PySem.W.Fast.tw14566954144412119307 : Nat:=0
def PySem.W.Fast.tw11920075123218877924 : Nat:=0
def PySem.W.Fast.tw10616567987969455064 : Nat:=0
def PySem.W.Fast.tw7513988451721206960 : Nat:=0
def PySem.W.Fast.tw17884578554007961276 : Nat:=0
def PySem.W.Fast.tw3433949850659495341 : Nat:=0
def PySem.W.Fast.tw11897154819171056965 : Nat:=0
def PySem.W.Fast.tw9328288358110674890 : Nat:=0
open PySem PySem.W PyProof.Rows
set_option maxRecDepth 100000 in
set_option maxHeartbeats 0 in
theorem PySem.Challenge.cw_drawback_k31_sureties_refused_holds : PySem.Challenge.rw_drawback_k31_sureties_refused.Holds := by
  w_on; o_law; k_head; (case hw=>w_witness2)
  k_fill
  refine K31.walk (l:=PySem.Challenge.rw_drawback_k31_sureties_refused) rfl rfl (fun w h Y=>PySem.W.kIn_of Y) ?F
  case F=>
    intro w mg fa h KX G hmg
    refine' K31.all_mk KX G hmg ?a0 ?l0 ?c0 ?k0 ?a1 ?l1 ?c1 ?k1 ?a2 ?l2 ?c2 ?k2 ?a3 ?l3 ?c3 ?k3 ?a4 ?l4 ?c4 ?k4 ?a5 ?l5 ?c5 ?k5 ?a6 ?l6 ?c6 ?k6 ?a7 ?l7 ?c7 ?k7 ?a8 ?l8 ?c8 ?k8 ?a9 ?l9 ?c9 ?k9 ?a10 ?l10 ?c10 ?k10 ?a11 ?l11 ?c11 ?k11 ?a12 ?l12 ?c12 ?k12 ?a13 ?l13 ?c13 ?k13 ?z_len ?z_list ?z_isi ?z_bool ?z_int ?z_str ?z_tuple ?z_all ?z_any ?z_zip ?z_range ?z_max ?z_min ?z_enumerate ?z_sum ?z_sorted ?z_verr ?g_FIRST_DAY ?g_LAST_DAY ?g_MOST_TERM ?g_MOST_PAID ?g_0 ?g_1 ?g_2 ?g_3 ?g_4 ?x_1 ?x_2 ?x_3 ?x_4 ?ga_4 ?gt_4 ?cl_4 ?mo_4 ?sb_4 ?mC_4 ?q_4_4 ?q_4_1 ?q_4_3 ?q_4_2 ?v_4 ?t_4 ?ga_1 ?gt_1 ?cl_1 ?mo_1 ?sb_1 ?mC_1 ?q_1_4 ?q_1_1 ?q_1_3 ?q_1_2 ?v_1 ?t_1 ?ga_3 ?gt_3 ?cl_3 ?mo_3 ?sb_3 ?mC_3 ?q_3_4 ?q_3_1 ?q_3_3 ?q_3_2 ?v_3 ?t_3 ?ga_2 ?gt_2 ?cl_2 ?mo_2 ?sb_2 ?mC_2 ?q_2_4 ?q_2_1 ?q_2_3 ?q_2_2 ?v_2 ?t_2 ?t_0 ?sb_0 ?gg ?tk
    (case a0=>k_is)
    (case l0=>k_is)
    (case c0=>k_is)
    (case k0=>k_is)
    (case a1=>k_is)
    (case l1=>k_is)
    (case c1=>k_is)
    (case k1=>k_is)
    (case a2=>k_is)
    (case l2=>k_is)
    (case c2=>k_is)
    (case k2=>k_is)
    (case a3=>k_is)
    (case l3=>k_is)
    (case c3=>k_is)
    (case k3=>k_is)
    (case a4=>k_is)
    (case l4=>k_is)
    (case c4=>k_is)
    (case k4=>k_is)
    (case a5=>k_is)
    (case l5=>k_is)
    (case c5=>k_is)
    (case k5=>k_is)
    (case a6=>k_is)
    (case l6=>k_is)
    (case c6=>k_is)
    (case k6=>k_is)
    (case a7=>k_is)
    (case l7=>k_is)
    (case c7=>k_is)
    (case k7=>k_is)
    (case a8=>k_is)
    (case l8=>k_is)
    (case c8=>k_is)
    (case k8=>k_is)
    (case a9=>k_is)
    (case l9=>k_is)
    (case c9=>k_is)
    (case k9=>k_is)
    (case a10=>k_is)
    (case l10=>k_is)
    (case c10=>k_is)
    (case k10=>k_is)
    (case a11=>k_is)
    (case l11=>k_is)
    (case c11=>k_is)
    (case k11=>k_is)
    (case a12=>k_is)
    (case l12=>k_is)
    (case c12=>k_is)
    (case k12=>k_is)
    (case a13=>k_is)
    (case l13=>k_is)
    (case c13=>k_is)
    (case k13=>k_is)
    (case z_len=>k_is)
    (case z_list=>k_is)
    (case z_isi=>k_is)
    (case z_bool=>k_is)
    (case z_int=>k_is)
    (case z_str=>k_is)
    (case z_tuple=>k_is)
    (case z_all=>k_is)
    (case z_any=>k_is)
    (case z_zip=>k_is)
    (case z_range=>k_is)
    (case z_max=>k_is)
    (case z_min=>k_is)
    (case z_enumerate=>k_is)
    (case z_sum=>k_is)
    (case z_sorted=>k_is)
    (case z_verr=>k_is)
    (case g_FIRST_DAY=>k_is)
    (case g_LAST_DAY=>k_is)
    (case g_MOST_TERM=>k_is)
    (case g_MOST_PAID=>k_is)
    (case g_0=>k_is)
    (case g_1=>k_is)
    (case g_2=>k_is)
    (case g_3=>k_is)
    (case g_4=>k_is)
    (case x_1=>first | k_is | k_exc)
    (case x_2=>first | k_is | k_exc)
    (case x_3=>first | k_is | k_exc)
    (case x_4=>first | k_is | k_exc)
    (case ga_4=>k_is)
    (case gt_4=>k_is)
    (case cl_4=>k_is)
    (case mo_4=>k_is)
    (case sb_4=>k_is)
    (case mC_4=>k_is)
    (case q_4_4=>k_is)
    (case q_4_1=>k_is)
    (case q_4_3=>k_is)
    (case q_4_2=>k_is)
    (case v_4=>k_is)
    (case t_4=>k_is)
    (case ga_1=>k_is)
    (case gt_1=>k_is)
    (case cl_1=>k_is)
    (case mo_1=>k_is)
    (case sb_1=>k_is)
    (case mC_1=>k_is)
    (case q_1_4=>k_is)
    (case q_1_1=>k_is)
    (case q_1_3=>k_is)
    (case q_1_2=>k_is)
    (case v_1=>k_is)
    (case t_1=>k_is)
    (case ga_3=>k_is)
    (case gt_3=>k_is)
    (case cl_3=>k_is)
    (case mo_3=>k_is)
    (case sb_3=>k_is)
    (case mC_3=>k_is)
    (case q_3_4=>k_is)
    (case q_3_1=>k_is)
    (case q_3_3=>k_is)
    (case q_3_2=>k_is)
    (case v_3=>k_is)
    (case t_3=>k_is)
    (case ga_2=>k_is)
    (case gt_2=>k_is)
    (case cl_2=>k_is)
    (case mo_2=>k_is)
    (case sb_2=>k_is)
    (case mC_2=>k_is)
    (case q_2_4=>k_is)
    (case q_2_1=>k_is)
    (case q_2_3=>k_is)
    (case q_2_2=>k_is)
    (case v_2=>k_is)
    (case t_2=>k_is)
    (case t_0=>k_is)
    (case sb_0=>k_is)
    (case gg=>k_is)
    (case tk=>k_is)
