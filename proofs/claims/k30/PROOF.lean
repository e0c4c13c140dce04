import PyProof.Rows.All
import Wide.All
import OpenK.AllK
import Wide.FinOn
import Lean
import PyProof.EqAt
import PyProof.EqKinds
import PyProof.TupleCall
import PySem.Challenge.RW_drawback_k30_what_must_be_vouched_for
set_option Elab.async false
set_option linter.all false
set_option maxRecDepth 100000
namespace L2
open PySem PySem.Spec PyProof.Rows
abbrev Key:=Sum Int Str
def keyIs : Key→Value→Bool
  | .inl k,v=>Value.isInt k v
  | .inr x,v=>Value.isStrOf x v
def keyH (w : World) : Key→Int
  | .inl k=>hashInt k
  | .inr x=>hashStr w x
theorem keyIs_shape : ∀ {k : Key} {v : Value},keyIs k v=true→(∃ i t,k=Sum.inl i∧v=Value.int i t)∨(∃ x t,k=Sum.inr x∧v=Value.str x t)
  | .inl i,v,h=>by
    obtain ⟨t,e⟩:=Value.isInt_shape (k:=i) (v:=v) h
    exact .inl ⟨i,t,rfl,e⟩
  | .inr x,v,h=>by
    obtain ⟨t,e⟩:=Value.isStrOf_shape (x:=x) (v:=v) h
    exact .inr ⟨x,t,rfl,e⟩
theorem key_ll (a b : Int) : decide ((Sum.inl a : Key)=Sum.inl b)=(a == b):=by
  by_cases e : a=b
  · subst e; simp
  · have h : ¬ (Sum.inl a : Key)=Sum.inl b:=fun q=>e (Sum.inl.inj q)
    rw [decide_eq_false h]
    exact (beq_eq_false_iff_ne.mpr e).symm
theorem key_rr (a b : Str) : decide ((Sum.inr a : Key)=Sum.inr b)=decide (a=b):=by
  by_cases e : a=b
  · subst e; simp
  · have h : ¬ (Sum.inr a : Key)=Sum.inr b:=fun q=>e (Sum.inr.inj q)
    rw [decide_eq_false h,decide_eq_false e]
theorem key_lr (a : Int) (b : Str) : decide ((Sum.inl a : Key)=Sum.inr b)=false:=decide_eq_false (fun q=>nomatch q)
theorem key_rl (a : Str) (b : Int) : decide ((Sum.inr a : Key)=Sum.inl b)=false:=decide_eq_false (fun q=>nomatch q)
def mixKind (prog : Program) (w : World) : PySem.KeyKind prog w Key where
  is:=keyIs
  hash:=keyH w
  inj:=fun v a b ha hb=>by
    rcases keyIs_shape ha with ⟨i,t,rfl,rfl⟩ | ⟨x,t,rfl,rfl⟩
    · rcases keyIs_shape hb with ⟨j,u,rfl,e⟩ | ⟨y,u,rfl,e⟩
      · injection e with e1 _; rw [e1]
      · exact nomatch e
    · rcases keyIs_shape hb with ⟨j,u,rfl,e⟩ | ⟨y,u,rfl,e⟩
      · exact nomatch e
      · injection e with e1 _; rw [e1]
  byValue:=fun k v h=>by
    rcases keyIs_shape h with ⟨i,t,rfl,rfl⟩ | ⟨x,t,rfl,rfl⟩ <;> rfl
  pyHash:=fun hv h=>by
    rcases keyIs_shape hv with ⟨i,t,rfl,rfl⟩ | ⟨x,t,rfl,rfl⟩
    · exact wpAny_pyHash_int h
    · exact wpAny_pyHash_str h
  eqBool:=fun hu hv h=>by
    rcases keyIs_shape hu with ⟨i,t,rfl,rfl⟩ | ⟨x,t,rfl,rfl⟩
    · rcases keyIs_shape hv with ⟨j,u,rfl,rfl⟩ | ⟨y,u,rfl,rfl⟩
      · rw [key_ll] at h; exact wpAny_eqBool_int h
      · rw [key_lr] at h; exact SeqAt.EqAt.int_str i t y u _ _ _ _ h
    · rcases keyIs_shape hv with ⟨j,u,rfl,rfl⟩ | ⟨y,u,rfl,rfl⟩
      · rw [key_rl] at h; exact SeqAt.EqAt.str_int x t j u _ _ _ _ h
      · rw [key_rr] at h; exact wpAny_eqBool_str h
  «strs»:=fun k x t v h=>by
    rcases keyIs_shape h with ⟨i,u,rfl,e⟩ | ⟨y,u,rfl,e⟩
    · exact nomatch e
    · injection e with e1 _
      subst e1
      cases v <;> rfl
end L2
namespace L2
open PySem PySem.Spec PyProof.Rows
inductive V where
  | non | bl (b : Bool) | int (i : Int) | str (x : Str) | byt (b : Array UInt8) | flt (b : UInt64) | ref (a : Addr) | ty (n : String)
  deriving DecidableEq
def RelV : V→Value→Prop
  | .non,u=>u=Value.none
  | .bl b,u=>u=Value.bool b
  | .int i,u=>∃ t,u=Value.int i t
  | .str x,u=>∃ t,u=Value.str x t
  | .byt b,u=>∃ t,u=Value.bytes b t
  | .flt b,u=>∃ t,u=Value.float b t
  | .ref a,u=>u=Value.ref a
  | .ty n,u=>u=Value.type n
abbrev Vals : List V→List Value→Prop:=Paired RelV
theorem Vals.length {xs : List V} {us : List Value} (r : Vals xs us) : xs.length=us.length:=Paired.length r
theorem Vals.get : ∀ {xs : List V} {us : List Value} {i : Nat} {x : V},Vals xs us→xs[i]? = some x→∃ u,us[i]? = some u∧RelV x u
  | _,_,_,_,.nil,e=>by simp at e
  | _,_,0,_,.cons r _,e=>by simp at e; subst e; exact ⟨_,rfl,r⟩
  | _,_,i + 1,x,.cons _ t,e=>by
    obtain ⟨u,h1,h2⟩:=Vals.get (i:=i) (x:=x) t (by simpa using e)
    exact ⟨u,by simpa using h1,h2⟩
theorem Vals.set {x : V} {u : Value} (r : RelV x u) : ∀ {xs : List V} {us : List Value} (i : Nat),Vals xs us→Vals (xs.set i x) (us.set i u)
  | _,_,_,.nil=>.nil
  | _,_,0,.cons _ t=>.cons r t
  | _,_,i + 1,.cons q t=>.cons q (Vals.set r i t)
theorem Vals.append : ∀ {xs ys : List V} {us ws : List Value},Vals xs us→Vals ys ws→Vals (xs ++ ys) (us ++ ws)
  | _,_,_,_,.nil,s=>s
  | _,_,_,_,.cons r t,s=>.cons r (Vals.append t s)
theorem Vals.take : ∀ {xs : List V} {us : List Value} (n : Nat),Vals xs us→Vals (xs.take n) (us.take n)
  | _,_,0,_=>.nil
  | _,_,_ + 1,.nil=>.nil
  | _,_,n + 1,.cons r t=>.cons r (Vals.take n t)
theorem Vals.drop : ∀ {xs : List V} {us : List Value} (n : Nat),Vals xs us→Vals (xs.drop n) (us.drop n)
  | _,_,0,r=>r
  | _,_,_ + 1,.nil=>.nil
  | _,_,n + 1,.cons _ t=>Vals.drop n t
def RelO : Option V→Option Value→Prop
  | some v,some u=>RelV v u
  | none,none=>True
  | _,_=>False
def KV {κ : Type} : List (κ×V)→List (κ×Value)→Prop:=Paired fun (p : κ×V) (q : κ×Value)=>p.1=q.1∧RelV p.2 q.2
def kV : Key→V
  | .inl i=>.int i
  | .inr x=>.str x
inductive HO where
  | lst (xs : List V)
  | tup (xs : List V)
  | dK (kvs : List (Key×V)) | dT (kvs : List (List Key×V))
  | set (S : Int→Bool) (n : Nat)
  | ins (C dx : Addr) (fs : List (Str×V))
  | own (x : Addr)
  | xd (fs : List (Str×V))
  | met (f x : Addr)
  | rng (lo hi : Int)
  | frz (o : Obj) (u : HO)
  | tbl (ps : Array Value)
  | ext (φ : Heap→Prop)
  | cod (q : Str) (pos : Pos)
abbrev Hp:=Addr→Option HO
def upd (H : Hp) (a : Addr) (o : HO) : Hp:=fun b=>if b=a then some o else H b
theorem upd_same {H : Hp} {a : Addr} {o : HO} : upd H a o a=some o:=by unfold upd; rw [if_pos rfl]
theorem upd_ne {H : Hp} {a b : Addr} {o : HO} (h : b≠a) : upd H a o b=H b:=by unfold upd; rw [if_neg h]
theorem upd_upd {H : Hp} {a : Addr} {o u : HO} : upd (upd H a o) a u=upd H a u:=by
  funext b; unfold upd; split <;> rfl
theorem ne_of {H : Hp} {a b : Addr} {o u : HO} (h : H a=some o) (h' : H b=some u) (d : o≠u) : a≠b:=by
  intro e; subst e; rw [h] at h'; exact d (Option.some.inj h')
theorem ne_of_none {H : Hp} {a b : Addr} {o : HO} (h : H a=some o) (h' : H b=none) : a≠b:=by
  intro e; subst e; rw [h] at h'; cases h'
section
variable (P : Program) (w : World)
def ObjOk (H : Hp) (h : Heap) (a : Addr) : HO→Prop
  | .lst xs=>xs.length≤sizeLine∧∃ (its : List Value) (n : Nat),Vals xs its∧h.get? a=some { cls:=.type "list",data:=.seq its.toArray n }
  | .tup xs=>xs.length≤sizeLine∧∃ its : List Value,Vals xs its∧IsTup h a its.toArray
  | .dK kvs=>kvs.length≤sizeLine∧(a == sysModules)=false∧∃ vs,KV kvs vs∧h.DictOf (mixKind P w) a vs
  | .dT kvs=>kvs.length≤sizeLine∧(a == sysModules)=false∧∃ xs : List (List Key×Addr×Value),
      Paired (fun (p : List Key×V) (q : List Key×Addr×Value)=>p.1=q.1∧H q.2.1=some (.tup (p.1.map kV))∧RelV p.2 q.2.2) kvs xs∧
      ∃ o es ep,h.get? a=some o∧o.ExactDict∧o.data = .dict es ep∧es.toList=xs.map (entryOfKey (tupleKind (mixKind P w)))∧(xs.map (·.1)).Nodup
  | .set S n=>h.SetOf (intKind P w) a S n
  | .ins C dx fs=>H dx=some (.own a)∧fs.length≤1000∧dx≠a∧h.get? a=some (PySem.W.instObj C dx)∧
      ∃ mA,h.Ns1 dx mA∧(∀ f,RelO (fs.lookup f) (mA f))∧PySem.Within mA (fs.map (·.1))
  | .own _=>∃ o,h.get? a=some o
  | .xd fs=>∃ mA,h.Ns1 a mA∧∀ f,RelO (fs.lookup f) (mA f)
  | .rng lo hi=>∃ t u v,h.get? a=some { cls:=.type "range",data:=.fields #[.int lo t,.int hi u,.int 1 v] }
  | .frz o u=>h.get? a=some o∧ObjOk H h a u
  | .tbl ps=>h.get? a=some { cls:=.none,data:=.fields ps }
  | .met f x=>h.get? a=some (PySem.W.methodObj (.ref f) (.ref x))
  | .ext φ=>φ h∧(∃ o,h.get? a=some o)∧∀ h1 h2 : Heap,φ h1→(∀ o,h1.get? a=some o→h2.get? a=some o)→φ h2
  | .cod q pos=>h.get? a=some { cls:=.none,data:=.fields #[] }∨∃ c,h.get? a=some { cls:=.none,data:=.fields #[rawInt pos.line,rawInt pos.col,.ref c] }∧H c=some (.own a)∧h.CodeRec (.ref c) q
def HOk (H : Hp) (h : Heap) : Prop:=∀ a o,H a=some o→ObjOk P w H h a o
end
section
variable {P : Program} {w : World} {H H' : Hp} {h h' : Heap} {a : Addr} {o : HO}
theorem ObjOk.lt (x : ObjOk P w H h a o) : a < h.objs.size:=by
  cases o with
  | lst xs=>obtain ⟨_,_,_,_,e⟩:=x; exact Heap.lt_size e
  | tup xs=>obtain ⟨_,_,_,p⟩:=x; exact p.lt
  | dK kvs=>obtain ⟨_,_,_,_,o,_,_,e,_⟩:=x; exact Heap.lt_size e
  | dT kvs=>obtain ⟨_,_,_,_,o,_,_,e,_⟩:=x; exact Heap.lt_size e
  | set S n=>obtain ⟨o,_,_,_,e,_⟩:=x; exact Heap.lt_size e
  | ins C dx fs=>obtain ⟨_,_,_,e,_⟩:=x; exact Heap.lt_size e
  | own y=>obtain ⟨_,e⟩:=x; exact Heap.lt_size e
  | xd fs=>obtain ⟨_,⟨_,_,_,e,_⟩,_⟩:=x; exact Heap.lt_size e
  | rng lo hi=>obtain ⟨_,_,_,e⟩:=x; exact Heap.lt_size e
  | frz ob u=>obtain ⟨e,_⟩:=x; exact Heap.lt_size e
  | tbl ps=>exact Heap.lt_size (show h.get? a=some _ from x)
  | met f y=>exact Heap.lt_size (show h.get? a=some _ from x)
  | ext φ=>obtain ⟨_,⟨_,e⟩,_⟩:=x; exact Heap.lt_size e
  | cod q pos=>rcases x with e | ⟨_,e,_⟩ <;> exact Heap.lt_size e
theorem Paired.mapP {α β : Type} {F G : α→β→Prop} : ∀ {l₁ : List α} {l₂ : List β},Paired F l₁ l₂→(∀ a b,F a b→G a b)→Paired G l₁ l₂
  | _,_,.nil,_=>.nil
  | _,_,.cons r t,f=>.cons (f _ _ r) (Paired.mapP t f)
theorem ObjOk.stay (x : ObjOk P w H h a o) (k : ∀ b u,(b=a∨H b=some (.own a))→h.get? b=some u→h'.get? b=some u)
    (ho : ∀ b,H b=some (.own a)→H' b=some (.own a)) (ht : ∀ b xs,H b=some (.tup xs)→H' b=some (.tup xs)) : ObjOk P w H' h' a o:=by
  induction o with
  | lst xs=>obtain ⟨z,its,n,r,e⟩:=x; exact ⟨z,its,n,r,k _ _ (.inl rfl) e⟩
  | tup xs=>obtain ⟨z,its,r,ob,e,c⟩:=x; exact ⟨z,its,r,ob,k _ _ (.inl rfl) e,c⟩
  | dK kvs=>obtain ⟨z,y,vs,r,ob,es,ep,e,c⟩:=x; exact ⟨z,y,vs,r,ob,es,ep,k _ _ (.inl rfl) e,c⟩
  | dT kvs=>
    obtain ⟨z,y,xs,r,ob,es,ep,e,c⟩:=x
    exact ⟨z,y,xs,Paired.mapP r fun p q z=>⟨z.1,ht _ _ z.2.1,z.2.2⟩,ob,es,ep,k _ _ (.inl rfl) e,c⟩
  | set S n=>obtain ⟨ob,es,ep,t,e,c⟩:=x; exact ⟨ob,es,ep,t,k _ _ (.inl rfl) e,c⟩
  | ins C dx fs=>
    obtain ⟨d,z,ne,e,mA,⟨od,es,ep,e2,c⟩,r⟩:=x
    exact ⟨ho _ d,z,ne,k _ _ (.inl rfl) e,mA,⟨od,es,ep,k _ _ (.inr d) e2,c⟩,r⟩
  | own y=>obtain ⟨ob,e⟩:=x; exact ⟨ob,k _ _ (.inl rfl) e⟩
  | xd fs=>obtain ⟨mA,⟨od,es,ep,e,c⟩,r⟩:=x; exact ⟨mA,⟨od,es,ep,k _ _ (.inl rfl) e,c⟩,r⟩
  | rng lo hi=>obtain ⟨t,u,v,e⟩:=x; exact ⟨t,u,v,k _ _ (.inl rfl) e⟩
  | frz ob u ih=>obtain ⟨e,q⟩:=x; exact ⟨k _ _ (.inl rfl) e,ih q⟩
  | tbl ps=>
    have e : h.get? a=some { cls:=.none,data:=.fields ps }:=x
    show h'.get? a=some { cls:=.none,data:=.fields ps }
    exact k a _ (.inl rfl) e
  | met f y=>
    have e : h.get? a=some (PySem.W.methodObj (.ref f) (.ref y)):=x
    show h'.get? a=some (PySem.W.methodObj (.ref f) (.ref y))
    exact k a _ (.inl rfl) e
  | ext φ=>obtain ⟨p,⟨o,e⟩,st⟩:=x; exact ⟨st _ _ p fun o q=>k _ _ (.inl rfl) q,⟨o,k _ _ (.inl rfl) e⟩,st⟩
  | cod q pos=>
    rcases x with e | ⟨c,e,hw,c2,oc,vs,t,e1,e2,r⟩
    · exact .inl (k _ _ (.inl rfl) e)
    · cases e1
      exact .inr ⟨c,k _ _ (.inl rfl) e,ho _ hw,c,oc,vs,t,rfl,k _ _ (.inr hw) e2,r⟩
theorem HOk.lt (x : HOk P w H h) (e : H a=some o) : a < h.objs.size:=(x a o e).lt
theorem HOk.fresh (x : HOk P w H h) (e : h.objs.size≤a) : H a=none:=by
  cases q : H a with
  | none=>rfl
  | some u=>exact absurd (Nat.lt_of_lt_of_le (x.lt q) e) (Nat.lt_irrefl _)
theorem HOk.kept (x : HOk P w H h) (k : ∀ b u,h.get? b=some u→h'.get? b=some u) : HOk P w H h':=fun a o e=>
  (x a o e).stay (fun b u _ q=>k b u q) (fun _ q=>q) fun _ _ q=>q
theorem HOk.laid (x : HOk P w H h) (k : ∀ b u,h.get? b=some u→h'.get? b=some u) (hp : h.objs.size≤a) (new : ObjOk P w (upd H a o) h' a o) : HOk P w (upd H a o) h':=fun b u e=>by
  have hn:=x.fresh hp
  by_cases hb : b=a
  · subst hb; rw [upd_same] at e; cases e; exact new
  · rw [upd_ne hb] at e
    exact (x b u e).stay (fun c v _ q=>k c v q) (fun c q=>by rw [upd_ne (ne_of_none q hn)]; exact q) fun c xs q=>by rw [upd_ne (ne_of_none q hn)]; exact q
end
def Rd (H : Hp) (a : Addr) (u : HO) : Prop:=H a=some u∨∃ o,H a=some (.frz o u)
theorem Rd.ok {P : Program} {w : World} {H : Hp} {h : Heap} {a : Addr} {u : HO} (r : Rd H a u) (x : HOk P w H h) : ObjOk P w H h a u:=by
  rcases r with r | ⟨o,r⟩
  · exact x a u r
  · obtain ⟨_,q⟩:=x a _ r
    exact q
def Mut : Option HO→Prop
  | some (.lst _)=>True
  | some (.dK _)=>True
  | some (.dT _)=>True
  | some (.set _ _)=>True
  | some (.ins _ _ _)=>True
  | some (.ext _)=>True
  | _=>False
section
variable {P : Program} {w : World} {H : Hp} {h h' : Heap} {x e : Addr} {o' : HO}
theorem HOk.write (ok : HOk P w H h) (mu : Mut (H x)) (he : e=x∨H e=some (.own x)) (k : ∀ b u,b≠e→h.get? b=some u→h'.get? b=some u) (heo : ∃ u,h'.get? e=some u)
    (new : ObjOk P w (upd H x o') h' x o') : HOk P w (upd H x o') h':=fun b u q=>by
  have nown : ∀ c y,H c=some (.own y)→c≠x:=fun c y r z=>by subst z; rw [r] at mu; exact mu
  have ntup : ∀ c xs,H c=some (.tup xs)→c≠x:=fun c xs r z=>by subst z; rw [r] at mu; exact mu
  by_cases hb : b=x
  · subst hb; rw [upd_same] at q; cases q; exact new
  · rw [upd_ne hb] at q
    by_cases hbe : b=e
    · have q' : H b=some (.own x):=by
        rcases he with z | z
        · exact absurd (hbe.trans z) hb
        · rw [hbe]; exact z
      rw [q] at q'; cases q'
      obtain ⟨v,hv⟩:=heo
      exact ⟨v,by rw [hbe]; exact hv⟩
    · refine (ok b u q).stay (fun c v hc r=>k c v ?_ r) (fun c r=>by rw [upd_ne (nown c b r)]; exact r) fun c xs r=>by rw [upd_ne (ntup c xs r)]; exact r
      rcases hc with rfl | hc
      · exact hbe
      · rintro rfl
        rcases he with z | z
        · exact nown c b hc z
        · rw [hc] at z; cases z; exact hb rfl
end
structure Un (fs ex : List Addr) (H H' : Hp) (h h' : Heap) : Prop where
  keep : ∀ b o,h.get? b=some o→H b=none→b ∉ fs→b ∉ ex→h'.get? b=some o
  slot : ∀ b o,h.get? b=some o→H b=none→b∈fs→b ∉ ex→∃ sl,h'.get? b=some { o with slots:=sl }
  free : ∀ b o,h.get? b=some o→H b=none→b ∉ ex→H' b=none
  there : ∀ b o,h.get? b=some o→b ∉ ex→∃ o',h'.get? b=some o'
  tups : ∀ b xs,H b=some (.tup xs)→H' b=some (.tup xs)
  frzs : ∀ b o u,H b=some (.frz o u)→H' b=some (.frz o u)
  tbls : ∀ b ps,H b=some (.tbl ps)→∃ more,H' b=some (.tbl (ps ++ more))
section
variable {fs fs' ex ex' : List Addr} {H H1 H2 : Hp} {h h1 h2 h' : Heap} {a x e : Addr} {o : HO}
theorem Un.any (u : Un fs ex H H1 h h1) {b : Addr} {ob : Obj} (q : h.get? b=some ob) (n : H b=none) (hx : b ∉ ex) : ∃ sl,h1.get? b=some { ob with slots:=sl }:=by
  by_cases hb : b∈fs
  · exact u.slot b ob q n hb hx
  · exact ⟨ob.slots,u.keep b ob q n hb hx⟩
theorem Un.kept (k : ∀ b u,h.get? b=some u→h'.get? b=some u) : Un fs ex H H h h':=
  ⟨fun b ob q _ _ _=>k b ob q,fun b ob q _ _ _=>⟨ob.slots,k b ob q⟩,fun _ _ _ n _=>n,fun b ob q _=>⟨ob,k b ob q⟩,fun _ _ q=>q,fun _ _ _ q=>q,fun _ ps q=>⟨#[],by rw [q]; simp⟩⟩
theorem Un.refl : Un fs ex H H h h:=Un.kept fun _ _ q=>q
theorem Un.laid (k : ∀ b u,h.get? b=some u→h'.get? b=some u) (hp : h.objs.size≤a) (hn : H a=none) : Un fs ex H (upd H a o) h h' where
  keep:=fun b u q _ _ _=>k b u q
  slot:=fun b u q _ _ _=>⟨u.slots,k b u q⟩
  free:=fun b u q n _=>by rw [upd_ne (Nat.ne_of_lt (Nat.lt_of_lt_of_le (Heap.lt_size q) hp))]; exact n
  there:=fun b u q _=>⟨u,k b u q⟩
  tups:=fun b xs q=>by rw [upd_ne (ne_of_none q hn)]; exact q
  frzs:=fun b u xs q=>by rw [upd_ne (ne_of_none q hn)]; exact q
  tbls:=fun b ps q=>⟨#[],by rw [upd_ne (ne_of_none q hn),q]; simp⟩
theorem Un.write (mu : Mut (H x)) (he : e=x∨H e=some (.own x)) (k : ∀ b u,b≠e→h.get? b=some u→h'.get? b=some u) (heo : ∃ u,h'.get? e=some u) : Un fs ex H (upd H x o) h h':=by
  have hx : ∀ b,H b=none→b≠x:=fun b n z=>by subst z; rw [n] at mu; exact mu
  have hb : ∀ b,H b=none→b≠e:=fun b n z=>by
    subst z
    rcases he with r | r
    · exact hx b n r
    · rw [n] at r; cases r
  have hm : ∀ b u,H b=some u→¬ Mut (some u)→b≠x:=fun b u q nm z=>by subst z; rw [q] at mu; exact nm mu
  refine ⟨fun b u q n _ _=>k b u (hb b n) q,fun b u q n _ _=>⟨u.slots,k b u (hb b n) q⟩,fun b u q n _=>by rw [upd_ne (hx b n)]; exact n,fun b u q _=>?_,
    fun b xs q=>by rw [upd_ne (hm b _ q fun z=>z)]; exact q,fun b u xs q=>by rw [upd_ne (hm b _ q fun z=>z)]; exact q,fun b ps q=>⟨#[],by rw [upd_ne (hm b _ q fun z=>z),q]; simp⟩⟩
  by_cases hbe : b=e
  · subst hbe; exact heo
  · exact ⟨u,k b u hbe q⟩
end
def trk (h : Heap) (H : Hp) : List Addr:=(List.range h.objs.size).filter fun a=>(H a).isSome
def hidT (h : Heap) (H : Hp) : Heap:=PySem.W.hideAll h (trk h H)
theorem hidT_size (h : Heap) (H : Hp) : (hidT h H).objs.size=h.objs.size:=PySem.W.hideAll_size _ _
theorem hidT_get {h : Heap} {H : Hp} {b : Addr} {o : Obj} (e : h.get? b=some o) (n : H b=none) : (hidT h H).get? b=some o:=
  PySem.W.hideAll_get _ e fun hm=>by
    have q : (H b).isSome=true:=(List.mem_filter.mp hm).2
    rw [n] at q; simp at q
theorem of_hidT {h : Heap} {H : Hp} {b : Addr} {o : Obj} (e : (hidT h H).get? b=some o) : h.get? b=some o∧H b=none:=by
  have e' : h.get? b=some o:=PySem.W.of_hideAll (trk h H) e
  refine ⟨e',?_⟩
  cases q : H b with
  | none=>rfl
  | some x=>
    have hm : b∈trk h H:=List.mem_filter.mpr ⟨List.mem_range.mpr (Heap.lt_size e'),by simp [q]⟩
    have z : (hidT h H).get? b=none:=PySem.W.hideAll_none (trk h H) hm
    rw [z] at e; cases e
def allNews (g h : Heap) (L : Addr) : List (Addr×Obj):=(List.range h.objs.size).filterMap fun a=>if a=L∨(g.get? a).isSome=true then none else (h.get? a).map fun o=>(a,o)
def rest (g h : Heap) (L d : Addr) : List (Addr×Obj):=(allNews g h L).filter fun p=>decide (p.1≠d)
end L2
namespace L2
open PySem PySem.Spec PyProof.Rows
structure Mod (K : PySem.W.Frag) (mg : Str→Option Value) (base : Heap) : Prop where
  kin : K.In base
  glob : base.Ns mainGlobals mg
  blt : ∃ mb,base.Ns builtinsNs mb∧∀ x : Str,x ≠ "__name__" → mb x=bootBuiltins x
  nolimit : base.NoLimit
structure Cx where
  prog : Program
  w : World
  K : PySem.W.Frag
  mg : Str→Option Value
  base : Heap
  A : Around
  N : List Str
  s₀ : Shared
  H₀ : Hp
  env : Env
  outer : List Env
  stack : List Env
  ex : List Addr
  fn : Str→Bool
  calm : Bool
  pn : List (Addr×Obj)
  xe : Value→Shared→Prop
def frs (l : List Env) : List Addr:=l.filterMap (·.frame)
abbrev Cx.fs (X : Cx) : List Addr:=frs X.outer
def Vis (sc : Scope) (x : Str) : Prop:=sc.names.lookup x=some .local∨sc.names.lookup x=some .cell∨sc.names.lookup x=some .free
def Loc (sc : Scope) (x : Str) : Prop:=sc.names.lookup x=some .local∨sc.names.lookup x=some .cell
def Look (env : Env) (h : Heap) (m : Str→Option Value) (x : Str) (u : Value) : Prop:=
  (env.kindOf x=some .local∧m x=some u)∨((env.kindOf x=some .cell∨env.kindOf x=some .free)∧∃ c,env.cells.lookup x=some c∧h.IsCell c (some u))
structure Cx.Ok (X : Cx) : Prop where
  mod : Mod X.K X.mg X.base
  kind : X.env.scope.kind = .function
  glob : X.env.globals=mainGlobals
  blt : X.env.builtins=builtinsNs
  above : X.s₀.heap.objs.size≤X.env.locals
  inj : ∀ x y c,X.env.cells.lookup x=some c→X.env.cells.lookup y=some c→x=y
  has : ∀ x,(X.env.kindOf x=some .cell∨X.env.kindOf x=some .free)→∃ c,X.env.cells.lookup x=some c
  cab : ∀ x c,X.fn x=true→X.env.cells.lookup x=some c→X.s₀.heap.objs.size≤c
  hd : X.calm=true→X.A.handled=none
  frames : X.A.frames=some X.stack
  stk : X.stack=X.outer∨(X.stack=X.env :: X.outer∧X.env.frame=some X.env.locals)
  exf : ∀ b∈X.ex,b≠X.env.locals∧∀ x c,X.env.cells.lookup x=some c→c≠b
  bs : ∀ b o,X.base.get? b=some o→X.s₀.heap.get? b=some o∧X.H₀ b=none
  bsz : X.base.objs.size≤X.s₀.heap.objs.size
  noex : ∀ b o,X.base.get? b=some o→b ∉ X.ex
  exfs : ∀ b∈X.ex,b ∉ X.fs
  funs : X.s₀.heap.FunFrames X.base X.outer
  frf : ∀ b∈X.fs,X.H₀ b=none
structure Inv (X : Cx) (pins : List (Addr×Obj)) (σ : List (Option V)) (H : Hp) (s : Shared) : Prop where
  ok : X.Ok
  os : s.os=X.s₀.os
  bare : AllBare s.gens
  base : Un X.fs X.ex X.H₀ H X.s₀.heap s.heap
  loc : ∃ m,s.heap.Ns X.env.locals m∧∀ (i : Nat) (x : Str) (v : V),X.N[i]? = some x→σ[i]? = some (some v)→Vis X.env.scope x→∃ u,RelV v u∧Look X.env s.heap m x u
  cell : ∀ x c,X.env.cells.lookup x=some c→∃ v,s.heap.IsCell c v
  free : H X.env.locals=none
  freeC : ∀ x c,X.env.cells.lookup x=some c→H c=none
  pin : ∀ p∈X.pn ++ pins,s.heap.get? p.1=some p.2∧H p.1=none∧p.1≠X.env.locals∧p.1 ∉ X.fs∧∀ v,p.2.data≠.cell v
  hok : HOk X.prog X.w H s.heap
  len : σ.length=X.N.length
section
variable {X : Cx} {pins : List (Addr×Obj)} {σ : List (Option V)} {H H' : Hp} {s : Shared} {h' : Heap}
theorem Cx.Ok.nofr (ok : X.Ok) {b : Addr} {o : Obj} (e : X.base.get? b=some o) : b ∉ X.fs:=fun hb=>by
  have:=(ok.funs.mem hb).1
  rw [e] at this; cases this
theorem Inv.bs (I : Inv X pins σ H s) : ∀ b o,X.base.get? b=some o→s.heap.get? b=some o∧H b=none:=fun b o e=>
  ⟨I.base.keep b o (I.ok.bs b o e).1 (I.ok.bs b o e).2 (I.ok.nofr e) (I.ok.noex b o e),I.base.free b o (I.ok.bs b o e).1 (I.ok.bs b o e).2 (I.ok.noex b o e)⟩
theorem Inv.bk (I : Inv X pins σ H s) : ∀ b o,X.base.get? b=some o→s.heap.get? b=some o:=fun b o e=>(I.bs b o e).1
theorem Inv.mod (I : Inv X pins σ H s) : Mod X.K X.mg X.base:=I.ok.mod
theorem Inv.kIn (I : Inv X pins σ H s) : X.K.In s.heap:=I.ok.mod.kin.keeps I.bk
theorem Inv.lt (I : Inv X pins σ H s) : X.env.locals < s.heap.objs.size:=let ⟨_,hn,_⟩:=I.loc; hn.lt
theorem Inv.sz (I : Inv X pins σ H s) : X.s₀.heap.objs.size≤s.heap.objs.size:=Nat.le_trans I.ok.above (Nat.le_of_lt I.lt)
theorem Inv.nofs (I : Inv X pins σ H s) {a : Addr} (h : s.heap.objs.size≤a) : a ∉ X.fs:=fun hb=>by
  obtain ⟨_,o,ho,_⟩:=I.ok.funs.mem hb
  exact absurd (Nat.lt_of_lt_of_le (Heap.lt_size ho) (Nat.le_trans I.sz h)) (Nat.lt_irrefl _)
theorem Inv.cne (I : Inv X pins σ H s) : ∀ x c,X.env.cells.lookup x=some c→c≠X.env.locals:=fun x c e z=>by
  obtain ⟨v,o,ho,hd⟩:=I.cell x c e
  obtain ⟨m,⟨o',es,ep,ho',hd',_⟩,_⟩:=I.loc
  rw [z,ho'] at ho; cases ho; rw [hd'] at hd; cases hd
theorem Inv.funs (I : Inv X pins σ H s) : s.heap.FunFrames X.base X.outer:=by
  have all : ∀ (l : List Env),(∀ b∈frs l,b∈X.fs)→X.s₀.heap.FunFrames X.base l→s.heap.FunFrames X.base l:=by
    intro l
    induction l with
    | nil=>intro _ _; trivial
    | cons env r ih=>
      intro hs hl
      obtain ⟨hk,⟨L,o,hf,hn,ho,hd⟩,hr⟩:=hl
      have hL : L∈X.fs:=hs L (by unfold frs; rw [List.filterMap_cons,hf]; exact List.mem_cons_self)
      obtain ⟨sl,e⟩:=I.base.slot L o ho (I.ok.frf L hL) hL fun z=>I.ok.exfs L z hL
      exact ⟨hk,⟨L,_,hf,hn,e,hd⟩,ih (fun b hb=>hs b (by unfold frs; rw [List.filterMap_cons,hf]; exact List.mem_cons_of_mem _ hb)) hr⟩
  exact all X.outer (fun _ hb=>hb) I.ok.funs
theorem Inv.stack (I : Inv X pins σ H s) : s.heap.FunFrames X.base X.stack:=by
  rcases I.ok.stk with e | ⟨e,hf⟩
  · rw [e]; exact I.funs
  · rw [e]
    obtain ⟨m,hn,_⟩:=I.loc
    refine .cons (by rw [I.ok.kind]; decide) hf hn ?_ I.funs
    exact Heap.get?_none_of_le (Nat.le_trans I.ok.bsz I.ok.above)
theorem Inv.stkSub (I : Inv X pins σ H s) : ∀ b∈frs X.stack,b∈X.env.locals :: X.fs:=fun b hb=>by
  rcases I.ok.stk with e | ⟨e,hf⟩
  · rw [e] at hb; exact List.mem_cons_of_mem _ hb
  · rw [e] at hb
    unfold frs at hb
    rw [List.filterMap_cons,hf] at hb
    exact hb
theorem Inv.stkFree (I : Inv X pins σ H s) : ∀ b∈frs X.stack,H b=none:=fun b hb=>by
  rcases List.mem_cons.mp (I.stkSub b hb) with e | hb
  · rw [e]; exact I.free
  · obtain ⟨_,o,ho,_⟩:=I.ok.funs.mem hb
    exact I.base.free b o ho (I.ok.frf b hb) fun z=>I.ok.exfs b z hb
theorem Inv.step {g' : Array GenState} {t' : Nat} {d' : Drawn} {ch : List Addr} (I : Inv X pins σ H s)
    (hch : ∀ b∈ch,(b∈X.ex∨X.s₀.heap.objs.size≤b)∧b≠X.env.locals∧(∀ x c,X.env.cells.lookup x=some c→c≠b)∧∀ p∈X.pn ++ pins,p.1≠b)
    (keep : ∀ b o,b≠X.env.locals→b ∉ X.fs→b ∉ ch→s.heap.get? b=some o→H b=none→h'.get? b=some o)
    (slot : ∀ b o,b≠X.env.locals→b∈X.fs→b ∉ ch→s.heap.get? b=some o→H b=none→∃ sl,h'.get? b=some { o with slots:=sl }) (free : ∀ b o,b ∉ ch→s.heap.get? b=some o→H b=none→H' b=none)
    (there : ∀ b o,b ∉ ch→s.heap.get? b=some o→∃ o',h'.get? b=some o')
    (tups : ∀ b xs,H b=some (.tup xs)→H' b=some (.tup xs)) (frzs : ∀ b o u,H b=some (.frz o u)→H' b=some (.frz o u)) (tbls : ∀ b ps,H b=some (.tbl ps)→∃ more,H' b=some (.tbl (ps ++ more)))
    (ns : ∀ m,s.heap.Ns X.env.locals m→h'.Ns X.env.locals m) (hok : HOk X.prog X.w H' h') (hg : AllBare g') :
    Inv X pins σ H' { s with heap:=h',gens:=g',drawn:=d',toks:=t' }:=by
  have neL : ∀ b o,X.s₀.heap.get? b=some o→b≠X.env.locals:=fun b o e=>Nat.ne_of_lt (Nat.lt_of_lt_of_le (Heap.lt_size e) I.ok.above)
  have neC : ∀ b o,X.s₀.heap.get? b=some o→b ∉ X.ex→b ∉ ch:=fun b o e hx hb=>by
    rcases (hch b hb).1 with z | z
    · exact hx z
    · exact absurd (Nat.lt_of_lt_of_le (Heap.lt_size e) z) (Nat.lt_irrefl _)
  have cellK : ∀ x c,X.env.cells.lookup x=some c→∀ v,s.heap.IsCell c v→h'.IsCell c v:=fun x c e v ⟨o,ho,hd⟩=>by
    have nch : c ∉ ch:=fun z=>(hch c z).2.2.1 x c e rfl
    by_cases hc : c∈X.fs
    · obtain ⟨sl,q⟩:=slot c o (I.cne x c e) hc nch ho (I.freeC x c e)
      exact ⟨_,q,hd⟩
    · exact ⟨o,keep c o (I.cne x c e) hc nch ho (I.freeC x c e),hd⟩
  refine ⟨I.ok,I.os,hg,⟨fun b o e n hb hx=>?_,fun b o e n hb hx=>?_,fun b o e n hx=>?_,fun b o e hx=>?_,fun b xs e=>tups b xs (I.base.tups b xs e),fun b o xs e=>frzs b o xs (I.base.frzs b o xs e),fun b ps e=>?_⟩,?_,fun x c e=>?_,?_,fun x c e=>?_,fun p hp=>?_,hok,I.len⟩
  · exact keep b o (neL b o e) hb (neC b o e hx) (I.base.keep b o e n hb hx) (I.base.free b o e n hx)
  · obtain ⟨sl,e1⟩:=I.base.slot b o e n hb hx
    obtain ⟨sl',e2⟩:=slot b _ (neL b o e) hb (neC b o e hx) e1 (I.base.free b o e n hx)
    exact ⟨sl',e2⟩
  · obtain ⟨o',e1⟩:=I.base.there b o e hx
    exact free b o' (neC b o e hx) e1 (I.base.free b o e n hx)
  · obtain ⟨o',e1⟩:=I.base.there b o e hx
    exact there b o' (neC b o e hx) e1
  · obtain ⟨m1,e1⟩:=I.base.tbls b ps e
    obtain ⟨m2,e2⟩:=tbls b _ e1
    exact ⟨m1 ++ m2,by rw [e2,Array.append_assoc]⟩
  · obtain ⟨m,hn,hl⟩:=I.loc
    refine ⟨m,ns m hn,fun i x v e1 e2 e3=>?_⟩
    obtain ⟨u,r,l⟩:=hl i x v e1 e2 e3
    refine ⟨u,r,?_⟩
    rcases l with l | ⟨k,c,e,z⟩
    · exact .inl l
    · exact .inr ⟨k,c,e,cellK x c e _ z⟩
  · obtain ⟨v,z⟩:=I.cell x c e
    exact ⟨v,cellK x c e v z⟩
  · obtain ⟨m,⟨o,_,_,ho,_⟩,_⟩:=I.loc
    exact free _ o (fun z=>(hch _ z).2.1 rfl) ho I.free
  · obtain ⟨v,o,ho,hd⟩:=I.cell x c e
    exact free c o (fun z=>(hch c z).2.2.1 x c e rfl) ho (I.freeC x c e)
  · obtain ⟨e,n,ne,nf,d⟩:=I.pin p hp
    have nch : p.1 ∉ ch:=fun z=>(hch p.1 z).2.2.2 p hp rfl
    exact ⟨keep p.1 p.2 ne nf nch e n,free p.1 p.2 nch e n,ne,nf,d⟩
theorem Inv.un {t' : Nat} (I : Inv X pins σ H s) (u : Un X.fs [] H H' s.heap h') (hok : HOk X.prog X.w H' h') : Inv X pins σ H' { s with heap:=h',toks:=t' }:=by
  obtain ⟨m,⟨o,es,ep,ho,r⟩,_⟩:=id I.loc
  obtain ⟨sl,hL⟩:=u.any ho I.free (by simp)
  exact I.step (g':=s.gens) (d':=s.drawn) (ch:=[]) (fun _ z=>nomatch z) (fun b o _ hb _ e n=>u.keep b o e n hb (by simp)) (fun b o _ hb _ e n=>u.slot b o e n hb (by simp)) (fun b o _ e n=>u.free b o e n (by simp)) (fun b o _ e=>u.there b o e (by simp)) u.tups u.frzs u.tbls (fun m' hm=>by
    obtain ⟨o',es',ep',ho',r'⟩:=hm
    rw [ho] at ho'; cases ho'
    exact ⟨_,es',ep',hL,r'⟩) hok I.bare
theorem Inv.call {g' : Array GenState} {t' : Nat} {d' : Drawn} {ch : List Addr} (I : Inv X pins σ H s) (u : Un (frs X.stack) ch H H' s.heap h') (hok : HOk X.prog X.w H' h') (hg : AllBare g')
    (hch : ∀ b∈ch,(b∈X.ex∨X.s₀.heap.objs.size≤b)∧b≠X.env.locals∧(∀ x c,X.env.cells.lookup x=some c→c≠b)∧∀ p∈X.pn ++ pins,p.1≠b) :
    Inv X pins σ H' { s with heap:=h',gens:=g',drawn:=d',toks:=t' }:=by
  obtain ⟨m,⟨o,es,ep,ho,r⟩,_⟩:=id I.loc
  obtain ⟨sl,hL⟩:=u.any ho I.free fun z=>(hch _ z).2.1 rfl
  exact I.step (ch:=ch) hch (fun b o hL hb hc e n=>u.keep b o e n (fun z=>(List.mem_cons.mp (I.stkSub b z)).elim hL hb) hc) (fun b o _ _ hc e n=>u.any e n hc) (fun b o hc e n=>u.free b o e n hc) (fun b o hc e=>u.there b o e hc) u.tups u.frzs u.tbls (fun m' hm=>by
    obtain ⟨o',es',ep',ho',r'⟩:=hm
    rw [ho] at ho'; cases ho'
    exact ⟨_,es',ep',hL,r'⟩) hok hg
theorem Inv.turned {t' : Nat} {it : Addr} (I : Inv X pins σ H s) (k : ∀ b o,b≠it→s.heap.get? b=some o→h'.get? b=some o) (hn : H it=none) (hL : it≠X.env.locals)
    (h1 : it∈X.ex∨X.s₀.heap.objs.size≤it) (h2 : ∀ x c,X.env.cells.lookup x=some c→c≠it) (h3 : ∀ p∈X.pn ++ pins,p.1≠it) : Inv X pins σ H { s with heap:=h',toks:=t' }:=by
  have nit : ∀ b u,H b=some u→b≠it:=fun b u e z=>by rw [z,hn] at e; cases e
  refine I.step (g':=s.gens) (d':=s.drawn) (ch:=[it]) (fun b hb=>?_) (fun b o _ _ hc e _=>k b o (fun z=>hc (by simp [z])) e) (fun b o _ _ hc e _=>⟨o.slots,k b o (fun z=>hc (by simp [z])) e⟩) (fun _ _ _ _ n=>n)
    (fun b o hc e=>⟨o,k b o (fun z=>hc (by simp [z])) e⟩) (fun _ _ e=>e) (fun _ _ _ e=>e) (fun b ps e=>⟨#[],by rw [e]; simp⟩) (fun m hm=>?_) (fun b u e=>?_) I.bare
  · have e : b=it:=by simpa using hb
    subst e
    exact ⟨h1,hL,h2,h3⟩
  · obtain ⟨o,es,ep,ho,r⟩:=hm
    exact ⟨o,es,ep,k _ o (Ne.symm hL) ho,r⟩
  · refine (I.hok b u e).stay (fun c v hc q=>k c v ?_ q) (fun _ q=>q) fun _ _ q=>q
    rcases hc with z | z
    · rw [z]; exact nit b u e
    · exact nit c _ z
theorem Inv.tok (I : Inv X pins σ H s) (t : Nat) : Inv X pins σ H { s with toks:=t }:=I.un (h':=s.heap) (t':=t) Un.refl I.hok
theorem Inv.kept {t' : Nat} (I : Inv X pins σ H s) (k : ∀ b u,s.heap.get? b=some u→h'.get? b=some u) : Inv X pins σ H { s with heap:=h',toks:=t' }:=I.un (Un.kept k) (I.hok.kept k)
theorem Inv.laid {a : Addr} {o : HO} {t' : Nat} (I : Inv X pins σ H s) (k : ∀ b u,s.heap.get? b=some u→h'.get? b=some u) (hp : s.heap.objs.size≤a) (new : ObjOk X.prog X.w (upd H a o) h' a o) :
    Inv X pins σ (upd H a o) { s with heap:=h',toks:=t' }:=I.un (Un.laid k hp (I.hok.fresh hp)) (I.hok.laid k hp new)
theorem Inv.write {x e : Addr} {o : HO} {t' : Nat} (I : Inv X pins σ H s) (mu : Mut (H x)) (he : e=x∨H e=some (.own x)) (k : ∀ b u,b≠e→s.heap.get? b=some u→h'.get? b=some u) (heo : ∃ u,h'.get? e=some u)
    (new : ObjOk X.prog X.w (upd H x o) h' x o) : Inv X pins σ (upd H x o) { s with heap:=h',toks:=t' }:=I.un (Un.write mu he k heo) (I.hok.write mu he k heo new)
theorem Inv.weak {σ' : List (Option V)} (I : Inv X pins σ H s) (hl : σ'.length=σ.length) (w : ∀ (i : Nat) v,σ'[i]? = some (some v)→σ[i]? = some (some v)) : Inv X pins σ' H s:=
  ⟨I.ok,I.os,I.bare,I.base,let ⟨m,hn,hl'⟩:=I.loc; ⟨m,hn,fun i x v e1 e2 e3=>hl' i x v e1 (w i v e2) e3⟩,I.cell,I.free,I.freeC,I.pin,I.hok,hl.trans I.len⟩
theorem Inv.pins_of {pins' : List (Addr×Obj)} (I : Inv X pins σ H s) (h : ∀ p∈pins',s.heap.get? p.1=some p.2∧H p.1=none∧p.1≠X.env.locals∧p.1 ∉ X.fs∧∀ v,p.2.data≠.cell v) : Inv X pins' σ H s:=
  ⟨I.ok,I.os,I.bare,I.base,I.loc,I.cell,I.free,I.freeC,fun p hp=>(List.mem_append.mp hp).elim (fun z=>I.pin p (List.mem_append_left _ z)) (h p),I.hok,I.len⟩
theorem nodup_ix {N : List Str} (hN : N.Nodup) {i j : Nat} {x : Str} (a : N[i]? = some x) (b : N[j]? = some x) : i=j:=by
  obtain ⟨h1,e1⟩:=List.getElem?_eq_some_iff.mp a
  obtain ⟨h2,e2⟩:=List.getElem?_eq_some_iff.mp b
  exact (List.getElem_inj hN).mp (e1.trans e2.symm)
theorem store_ok2 {M : Model} {A : Around} {E : Value→Shared→Prop} {i : Nat} {x : Str} {v : V} {u : Value} {Q : Unit→Shared→Prop} (I : Inv X pins σ H s) (hN : X.N.Nodup) (hi : X.N[i]? = some x) (hx : Loc X.env.scope x) (r : RelV v u)
    (h : ∀ s',Inv X pins (σ.set i (some v)) H s'→(∃ a,Heap.SameBut a s.heap s'.heap∧(a=X.env.locals∨X.env.cells.lookup x=some a))→Q () s') (hf : X.fn x=true∨X.env.scope.names.lookup x=some .local:=by first | exact .inl rfl | exact .inr rfl | assumption) : wpAny M A (storeName X.env x u) Q E s:=by
  obtain ⟨m,hn,hl⟩:=id I.loc
  have hcls : (X.env.scope.kind == .class || (X.env.scope.kind == .module && X.env.locals != X.env.globals))=false:=by rw [I.ok.kind]; rfl
  have hiσ : i < σ.length:=by rw [I.len]; exact (List.getElem?_eq_some_iff.mp hi).1
  have cne:=I.cne
  have tracked : ∀ {a : Addr} {h' : Heap},(∃ o,s.heap.get? a=some o∧H a=none)→Heap.SameBut a s.heap h'→HOk X.prog X.w H h':=fun {a h'} ha hs b ob e=>by
    obtain ⟨_,_,hfree⟩:=ha
    refine (I.hok b ob e).stay (fun c w' hc q=>(hs.2 c ?_).trans q) (fun _ q=>q) fun _ _ q=>q
    rintro rfl
    rcases hc with rfl | hc
    · rw [hfree] at e; cases e
    · rw [hfree] at hc; cases hc
  rcases hx with hk | hk
  · refine wpAny_storeName_local hk hn (fun h' hn' hs=>?_) hcls
    obtain ⟨oL,_,_,hoL,_⟩:=id hn
    refine h _ ⟨I.ok,I.os,I.bare,⟨fun b o e n hb hx=>?_,fun b o e n hb hx=>?_,I.base.free,fun b o e hx=>?_,I.base.tups,I.base.frzs,I.base.tbls⟩,⟨_,hn',fun j y v' e1 e2 e3=>?_⟩,fun y c e=>?_,I.free,I.freeC,fun p hp=>?_,tracked ⟨oL,hoL,I.free⟩ hs,by simpa using I.len⟩ ⟨_,hs,.inl rfl⟩
    · exact (hs.2 b (Nat.ne_of_lt (Nat.lt_of_lt_of_le (Heap.lt_size e) I.ok.above))).trans (I.base.keep b o e n hb hx)
    · obtain ⟨sl,e1⟩:=I.base.slot b o e n hb hx
      exact ⟨sl,(hs.2 b (Nat.ne_of_lt (Nat.lt_of_lt_of_le (Heap.lt_size e) I.ok.above))).trans e1⟩
    · obtain ⟨o',e1⟩:=I.base.there b o e hx
      exact ⟨o',(hs.2 b (Nat.ne_of_lt (Nat.lt_of_lt_of_le (Heap.lt_size e) I.ok.above))).trans e1⟩
    · by_cases hj : j=i
      · subst hj
        rw [hi] at e1; cases e1
        rw [List.getElem?_set_self hiσ] at e2
        cases e2
        exact ⟨u,r,.inl ⟨hk,by simp⟩⟩
      · rw [List.getElem?_set_ne (Ne.symm hj)] at e2
        obtain ⟨u',r',q⟩:=hl j y v' e1 e2 e3
        refine ⟨u',r',?_⟩
        rcases q with ⟨k,e⟩ | ⟨k,c,e,z⟩
        · refine .inl ⟨k,?_⟩
          have : y≠x:=fun e=>hj (nodup_ix hN e1 (e ▸ hi))
          simp [this,e]
        · exact .inr ⟨k,c,e,z.sameBut hs (cne y c e)⟩
    · obtain ⟨w',z⟩:=I.cell y c e
      exact ⟨w',z.sameBut hs (cne y c e)⟩
    · obtain ⟨e,n,ne,nf,d⟩:=I.pin p hp
      exact ⟨(hs.2 p.1 ne).trans e,n,ne,nf,d⟩
  · have hfn : X.fn x=true:=by
      rcases hf with z | z
      · exact z
      · rw [z] at hk; cases hk
    obtain ⟨c,hc⟩:=I.ok.has x (.inl hk)
    obtain ⟨w',z⟩:=I.cell x c hc
    refine wpAny_storeName_cell I.ok.kind hk hc z (fun h' hc' hs=>?_)
    obtain ⟨oc,hoc,hocd⟩:=id z
    refine h { s with heap:=h' } ⟨I.ok,I.os,I.bare,⟨fun b o e n hb hx=>?_,fun b o e n hb hx=>?_,I.base.free,fun b o e hx=>?_,I.base.tups,I.base.frzs,I.base.tbls⟩,⟨m,hn.sameBut hs (Ne.symm (cne x c hc)),fun j y v' e1 e2 e3=>?_⟩,fun y c' e=>?_,I.free,I.freeC,fun p hp=>?_,tracked ⟨oc,hoc,I.freeC x c hc⟩ hs,by simpa using I.len⟩ ⟨c,hs,.inr hc⟩
    · exact (hs.2 b (Nat.ne_of_lt (Nat.lt_of_lt_of_le (Heap.lt_size e) (I.ok.cab x c hfn hc)))).trans (I.base.keep b o e n hb hx)
    · obtain ⟨sl,e1⟩:=I.base.slot b o e n hb hx
      exact ⟨sl,(hs.2 b (Nat.ne_of_lt (Nat.lt_of_lt_of_le (Heap.lt_size e) (I.ok.cab x c hfn hc)))).trans e1⟩
    · obtain ⟨o',e1⟩:=I.base.there b o e hx
      exact ⟨o',(hs.2 b (Nat.ne_of_lt (Nat.lt_of_lt_of_le (Heap.lt_size e) (I.ok.cab x c hfn hc)))).trans e1⟩
    · by_cases hj : j=i
      · subst hj
        rw [hi] at e1; cases e1
        rw [List.getElem?_set_self hiσ] at e2
        cases e2
        exact ⟨u,r,.inr ⟨.inl hk,c,hc,hc'⟩⟩
      · rw [List.getElem?_set_ne (Ne.symm hj)] at e2
        obtain ⟨u',r',q⟩:=hl j y v' e1 e2 e3
        refine ⟨u',r',?_⟩
        rcases q with q | ⟨k,c',e,z'⟩
        · exact .inl q
        · refine .inr ⟨k,c',e,z'.sameBut hs ?_⟩
          rintro rfl
          exact hj (nodup_ix hN e1 (I.ok.inj _ _ _ e hc ▸ hi))
    · by_cases hcc : c' = c
      · subst hcc; exact ⟨_,hc'⟩
      · obtain ⟨w2,z2⟩:=I.cell y c' e
        exact ⟨w2,z2.sameBut hs hcc⟩
    · obtain ⟨e,n,ne,nf,d⟩:=I.pin p hp
      refine ⟨(hs.2 p.1 ?_).trans e,n,ne,nf,d⟩
      intro q
      rw [q,hoc] at e
      have q' : oc=p.2:=Option.some.inj e
      exact d w' (by rw [← q']; exact hocd)
theorem store_ok {M : Model} {A : Around} {E : Value→Shared→Prop} {i : Nat} {x : Str} {v : V} {u : Value} {Q : Unit→Shared→Prop} (I : Inv X pins σ H s) (hN : X.N.Nodup) (hi : X.N[i]? = some x) (hx : Loc X.env.scope x) (r : RelV v u)
    (h : ∀ s',Inv X pins (σ.set i (some v)) H s'→Q () s') (hf : X.fn x=true∨X.env.scope.names.lookup x=some .local:=by first | exact .inl rfl | exact .inr rfl | assumption) : wpAny M A (storeName X.env x u) Q E s:=
  store_ok2 I hN hi hx r (fun s' I' _=>h s' I') hf
theorem Inv.call' {s' : Shared} {ch : List Addr} (I : Inv X pins σ H s) (ho : s'.os=s.os) (u : Un (frs X.stack) ch H H' s.heap s'.heap) (hok : HOk X.prog X.w H' s'.heap) (hg : AllBare s'.gens)
    (hch : ∀ b∈ch,(b∈X.ex∨X.s₀.heap.objs.size≤b)∧b≠X.env.locals∧(∀ x c,X.env.cells.lookup x=some c→c≠b)∧∀ p∈X.pn ++ pins,p.1≠b) : Inv X pins σ H' s':=by
  obtain ⟨h',g',d',t',o'⟩:=s'
  have e : o' = s.os:=ho
  subst e
  exact I.call (g':=g') (t':=t') (d':=d') u hok hg hch
end
abbrev XK:=Value→Option Addr→Hp→Prop
abbrev St:=List (Option V)
abbrev VK:=V→Hp→Prop
abbrev TE:=St→Hp→VK→Prop
abbrev TT:=St→Hp→(Bool→Hp→Prop)→Prop
abbrev TA:=St→Hp→(List V→Hp→Prop)→Prop
structure Ends where
  nx : St→Hp→Prop
  rt : VK
  bk : St→Hp→Prop:=fun _ _=>False
  ct : St→Hp→Prop:=fun _ _=>False
abbrev TS:=Ends→St→Hp→Prop
def EP (X : Cx) (pins : List (Addr×Obj)) (σ : St) (Q : VK) (u : Value) (s' : Shared) : Prop:=∃ v H',Inv X pins σ H' s'∧RelV v u∧Q v H'
def TP (X : Cx) (pins : List (Addr×Obj)) (σ : St) (Q : Bool→Hp→Prop) (b : Bool) (s' : Shared) : Prop:=∃ H',Inv X pins σ H' s'∧Q b H'
def AP (X : Cx) (pins : List (Addr×Obj)) (σ : St) (Q : List V→Hp→Prop) (us : List Value) (s' : Shared) : Prop:=∃ vs H',Inv X pins σ H' s'∧Vals vs us∧Q vs H'
def SP (X : Cx) (pins : List (Addr×Obj)) (D : Ends) (f : Flow) (s' : Shared) : Prop:=
  match f with
  | .next=>∃ σ' H',Inv X pins σ' H' s'∧D.nx σ' H'
  | .brk=>∃ σ' H',Inv X pins σ' H' s'∧D.bk σ' H'
  | .cont=>∃ σ' H',Inv X pins σ' H' s'∧D.ct σ' H'
  | .ret u=>∃ v σ' H',Inv X pins σ' H' s'∧RelV v u∧D.rt v H'
def PE (X : Cx) (e : Expr) (t : TE) : Prop:=
  ∀ (pins : List (Addr×Obj)) (s : Shared) (σ : St) (H : Hp) (Q : VK),Inv X pins σ H s→t σ H Q→wpAny (model X.prog X.w) X.A (eval e X.env) (EP X pins σ Q) X.xe s
def PT (X : Cx) (e : Expr) (t : TT) : Prop:=
  ∀ (pins : List (Addr×Obj)) (s : Shared) (σ : St) (H : Hp) (Q : Bool→Hp→Prop),Inv X pins σ H s→t σ H Q→wpAny (model X.prog X.w) X.A (isTrue e X.env (eval e X.env)) (TP X pins σ Q) X.xe s
def PW (X : Cx) (e : Expr) (t : TT) : Prop:=
  ∀ (whole : Sem Value) (pins : List (Addr×Obj)) (s : Shared) (σ : St) (H : Hp) (Q : Bool→Hp→Prop),Inv X pins σ H s→t σ H Q→wpAny (model X.prog X.w) X.A (isTrue e X.env whole) (TP X pins σ Q) X.xe s
theorem PW.pt {X : Cx} {e : Expr} {t : TT} (h : PW X e t) : PT X e t:=h _
def PA (X : Cx) (es : List Expr) (t : TA) : Prop:=
  ∀ (pos : Pos) (pins : List (Addr×Obj)) (s : Shared) (σ : St) (H : Hp) (Q : List V→Hp→Prop),Inv X pins σ H s→t σ H Q→wpAny (model X.prog X.w) X.A (spliced (backTo pos (starEach es X.env))) (AP X pins σ Q) X.xe s
def PS (X : Cx) (st : Stmt) (t : TS) : Prop:=
  ∀ (pins : List (Addr×Obj)) (s : Shared) (σ : St) (H : Hp) (D : Ends),Inv X pins σ H s→t D σ H→wpAny (model X.prog X.w) X.A (exec st X.env) (SP X pins D) X.xe s
def PSs (X : Cx) (st : List Stmt) (t : TS) : Prop:=
  ∀ (pins : List (Addr×Obj)) (s : Shared) (σ : St) (H : Hp) (D : Ends),Inv X pins σ H s→t D σ H→wpAny (model X.prog X.w) X.A (execs st X.env) (SP X pins D) X.xe s
theorem thn {α : Type} {t : Sem α} {Q Q' : α→Shared→Prop} {M : Model} {A : Around} {E : Value→Shared→Prop} {s : Shared} (h : wpAny M A t Q E s) (hQ : ∀ a s,Q a s→Q' a s) : wpAny M A t Q' E s:=wpAny_mono h hQ fun _ _ x=>x
end L2
namespace L2
open PySem PySem.Spec PyProof.Rows
section
variable {X : Cx}
def tVar (i : Nat) : TE:=fun σ H Q=>∃ v,σ[i]? = some (some v)∧Q v H
def tC (v : V) : TE:=fun _ H Q=>Q v H
theorem pe_var {i : Nat} {x : Str} {pos : Pos} (hN : X.N[i]? = some x) (hv : Vis X.env.scope x) (hd : (x == ("__debug__" : Str))=false:=by decide) (hcd : (x == ("__classdict__" : Str))=false:=by decide) : PE X (.Name x pos) (tVar i):=by
  intro pins s σ H Q I h
  obtain ⟨v,e,h⟩:=h
  obtain ⟨m,hn,hl⟩:=I.loc
  obtain ⟨u,r,l⟩:=hl i x v hN e hv
  have fin : EP X pins σ Q u s:=⟨v,H,I,r,h⟩
  rcases l with ⟨hk,hm⟩ | ⟨hk,c,hc,hcell⟩
  · exact wpAny_Name (wpAny_loadName_local I.ok.kind hk hn hm fin) hd
  · rcases hk with hk | hk
    · exact wpAny_Name (wpAny_loadName_cell I.ok.kind hk hc hcell fin) hd
    · exact wpAny_Name (wpAny_loadName_free I.ok.kind hk hc hcell fin hcd) hd
theorem pe_int {i j pos} : PE X (.Constant (.int i) j pos) (tC (.int i)):=fun _ _ _ H _ I h=>wpAny_Constant_int ⟨.int i,H,I.tok _,⟨_,rfl⟩,h⟩
theorem pe_bl {b j pos} : PE X (.Constant (.bool b) j pos) (tC (.bl b)):=fun _ _ _ H _ I h=>Constant_bool ⟨.bl b,H,I,rfl,h⟩
theorem pe_non {j pos} : PE X (.Constant .none j pos) (tC .non):=fun _ _ _ H _ I h=>Constant_none ⟨.non,H,I,rfl,h⟩
theorem pe_str {x j pos} : PE X (.Constant (.str x) j pos) (tC (.str x)):=fun _ _ _ H _ I h=>Calls.Constant_str ⟨.str x,H,I.tok _,⟨_,rfl⟩,h⟩
def Gl (X : Cx) (x : Str) : Prop:=X.env.kindOf x=some .globalImplicit
theorem ld_glob {E : Value→Shared→Prop} {pins : List (Addr×Obj)} {s : Shared} {σ : St} {H : Hp} {x : Str} {u : Value} {pos : Pos} {Q : Value→Shared→Prop} (I : Inv X pins σ H s) (hg : Gl X x) (hm : X.mg x=some u) (h : Q u s)
    (hd : (x == ("__debug__" : Str))=false:=by decide) : wpAny (model X.prog X.w) X.A (eval (.Name x pos) X.env) Q E s :=
  Calls.Name_function_global I.ok.kind hg (Calls.loadGlobal_global (by rw [I.ok.glob]; exact I.mod.glob.keeps I.bk) hm h) hd
theorem ld_blt {E : Value→Shared→Prop} {pins : List (Addr×Obj)} {s : Shared} {σ : St} {H : Hp} {x : Str} {u : Value} {pos : Pos} {Q : Value→Shared→Prop} (I : Inv X pins σ H s) (hg : Gl X x) (hm : X.mg x=none) (hv : bootBuiltins x=some u) (h : Q u s)
    (hn : x ≠ "__name__" := by decide) (hd : (x == ("__debug__" : Str))=false:=by decide) : wpAny (model X.prog X.w) X.A (eval (.Name x pos) X.env) Q E s:=by
  obtain ⟨mb,h1,h2⟩:=I.mod.blt
  exact Calls.Name_function_global I.ok.kind hg (Calls.loadGlobal_builtin (by rw [I.ok.glob]; exact I.mod.glob.keeps I.bk) hm (by rw [I.ok.blt]; exact h1.keeps I.bk) ((h2 x hn).trans hv) h) hd
theorem pe_glob {x : Str} {v : V} {u : Value} {pos : Pos} (hg : Gl X x) (hm : X.mg x=some u) (r : RelV v u) (hd : (x == ("__debug__" : Str))=false:=by decide) : PE X (.Name x pos) (tC v) :=
  fun _ _ _ H _ I h=>ld_glob I hg hm ⟨v,H,I,r,h⟩ hd
theorem pe_bltn {x : Str} {v : V} {u : Value} {pos : Pos} (hg : Gl X x) (hm : X.mg x=none) (hv : bootBuiltins x=some u) (r : RelV v u) (hn : x ≠ "__name__" := by decide) (hd : (x == ("__debug__" : Str))=false:=by decide) : PE X (.Name x pos) (tC v) :=
  fun _ _ _ H _ I h=>ld_blt I hg hm hv ⟨v,H,I,r,h⟩ hn hd
variable {a b : Expr} {ta tb : TE} {pos : Pos}
variable {tA tB' : TT} {rest : List Expr}
def tAnd (t u : TT) : TT:=fun σ H Q=>t σ H fun c H1=>if c=true then u σ H1 Q else Q false H1
def tOr (t u : TT) : TT:=fun σ H Q=>t σ H fun c H1=>if c=true then Q true H1 else u σ H1 Q
def tNot (t : TT) : TT:=fun σ H Q=>t σ H fun c H1=>Q (!c) H1
theorem pw_and1 (ha : PT X a tA) : PW X (.BoolOp .And [a] pos) tA:=by
  intro wh pins s σ H Q I h
  refine isTrue_and (thn (ha pins s σ H Q I h) fun c s1 e=>?_)
  cases c with
  | true=>exact isTrue_and_nil e
  | false=>exact e
theorem pw_or1 (ha : PT X a tA) : PW X (.BoolOp .Or [a] pos) tA:=by
  intro wh pins s σ H Q I h
  refine isTrue_or (thn (ha pins s σ H Q I h) fun c s1 e=>?_)
  cases c with
  | false=>exact isTrue_or_nil e
  | true=>exact e
theorem pw_and (ha : PT X a tA) (hb : PW X (.BoolOp .And (b :: rest) pos) tB') : PW X (.BoolOp .And (a :: b :: rest) pos) (tAnd tA tB'):=by
  intro wh pins s σ H Q I h
  refine isTrue_and (thn (ha pins s σ H _ I h) fun c s1 ⟨H1,I1,q1⟩=>?_)
  cases c with
  | true=>exact hb wh pins s1 σ H1 Q I1 q1
  | false=>exact ⟨H1,I1,q1⟩
theorem pw_or (ha : PT X a tA) (hb : PW X (.BoolOp .Or (b :: rest) pos) tB') : PW X (.BoolOp .Or (a :: b :: rest) pos) (tOr tA tB'):=by
  intro wh pins s σ H Q I h
  refine isTrue_or (thn (ha pins s σ H _ I h) fun c s1 ⟨H1,I1,q1⟩=>?_)
  cases c with
  | true=>exact ⟨H1,I1,q1⟩
  | false=>exact hb wh pins s1 σ H1 Q I1 q1
theorem pt_not (ha : PT X a tA) : PT X (.UnaryOp .Not a pos) (tNot tA):=by
  intro pins s σ H Q I h
  exact isTrue_not (ha pins s σ H (fun c H1=>Q (!c) H1) I h)
def tAndV (ta tb : TE) : TE:=fun σ H Q=>ta σ H fun x H1=>∃ c,x = .bl c∧if c=true then tb σ H1 Q else Q (.bl false) H1
theorem pe_one {op} {t : TE} (h : PE X a t) : PE X (.BoolOp op [a] pos) t:=fun pins s σ H Q I hw=>BoolOp_one (h pins s σ H Q I hw)
theorem pe_and (ha : PE X a ta) (hb : PE X (.BoolOp .And (b :: rest) pos) tb) : PE X (.BoolOp .And (a :: b :: rest) pos) (tAndV ta tb):=by
  intro pins s σ H Q I h
  refine BoolOp_and (thn (ha pins s σ H _ I h) fun v s1 ⟨x,H1,I1,r1,q1⟩=>?_)
  obtain ⟨c,rfl,q1⟩:=q1
  cases r1
  refine wpAny_truthy_bool ?_
  cases c with
  | true=>exact hb pins s1 σ H1 Q I1 q1
  | false=>exact ⟨.bl false,H1,I1,rfl,q1⟩
end
end L2
namespace L2
open PySem PySem.Spec PyProof.Rows
def SqL (K : PySem.W.Frag) (H : Hp) (a : Addr) (xs : List V) : Prop:=
  Rd H a (.lst xs)∨
    ∃ (o : Obj) (its : Array Value) (n : Nat),K.lookup a=some o∧o.cls = .type "list" ∧ o.dict=none∧o.data = .seq its n∧its.size≤sizeLine∧Vals xs its.toList
def SqT (K : PySem.W.Frag) (H : Hp) (a : Addr) (xs : List V) : Prop:=
  Rd H a (.tup xs)∨
    ∃ (o : Obj) (its : Array Value) (n : Nat),K.lookup a=some o∧o.cls = .type "tuple" ∧ o.data = .seq its n∧its.size≤sizeLine∧Vals xs its.toList
def absV : Value→Option V
  | .none=>some .non
  | .bool b=>some (.bl b)
  | .int i _=>some (.int i)
  | .str x _=>some (.str x)
  | .bytes b _=>some (.byt b)
  | .float b _=>some (.flt b)
  | .ref a=>some (.ref a)
  | .type n=>some (.ty n)
  | _=>none
theorem RelV.abs {x : V} {u : Value} (r : RelV x u) : absV u=some x:=by
  cases x with
  | non=>cases r; rfl
  | bl _=>cases r; rfl
  | int _=>obtain ⟨t,rfl⟩:=r; rfl
  | str _=>obtain ⟨t,rfl⟩:=r; rfl
  | byt _=>obtain ⟨t,rfl⟩:=r; rfl
  | flt _=>obtain ⟨t,rfl⟩:=r; rfl
  | ref _=>cases r; rfl
  | ty _=>cases r; rfl
theorem RelV.inj {x y : V} {u : Value} (r : RelV x u) (q : RelV y u) : x=y:=Option.some.inj (r.abs.symm.trans q.abs)
theorem Vals.inj : ∀ {xs ys : List V} {us : List Value},Vals xs us→Vals ys us→xs=ys
  | _,_,_,.nil,.nil=>rfl
  | _,_,_,.cons r t,.cons r' t'=>by rw [r.inj r',Vals.inj t t']
section
variable {X : Cx} {pins : List (Addr×Obj)} {σ : St} {H : Hp} {s : Shared} {a : Addr} {xs ys : List V}
theorem SqL.of {K : PySem.W.Frag} (h : H a=some (.lst xs)) : SqL K H a xs:=.inl (.inl h)
theorem SqT.of {K : PySem.W.Frag} (h : H a=some (.tup xs)) : SqT K H a xs:=.inl (.inl h)
theorem Inv.list (I : Inv X pins σ H s) (h : SqL X.K H a xs) : ∃ its : List Value,Vals xs its∧PlainL s.heap a its.toArray∧xs.length≤sizeLine:=by
  rcases h with h | ⟨o,its,n,hk,hc,hd,hs,hz,r⟩
  · obtain ⟨z,its,n,r,e⟩:=h.ok I.hok
    exact ⟨its,r,⟨_,n,e,rfl,rfl,rfl⟩,z⟩
  · refine ⟨its.toList,r,⟨o,n,I.kIn a o hk,hc,hd,by simpa using hs⟩,?_⟩
    have e:=r.length
    simp only [Array.length_toList] at e
    omega
theorem Inv.tuple (I : Inv X pins σ H s) (h : SqT X.K H a xs) : ∃ its : List Value,Vals xs its∧IsTup s.heap a its.toArray∧xs.length≤sizeLine:=by
  rcases h with h | ⟨o,its,n,hk,hc,hs,hz,r⟩
  · obtain ⟨z,its,r,p⟩:=h.ok I.hok
    exact ⟨its,r,p,z⟩
  · refine ⟨its.toList,r,⟨o,I.kIn a o hk,hc,n,by simpa using hs⟩,?_⟩
    have e:=r.length
    simp only [Array.length_toList] at e
    omega
theorem Inv.list_inj (I : Inv X pins σ H s) (h : SqL X.K H a xs) (h' : SqL X.K H a ys) : xs=ys:=by
  obtain ⟨its,r,⟨o,n,e,_,_,d⟩,_⟩:=I.list h
  obtain ⟨its',r',⟨o',n',e',_,_,d'⟩,_⟩:=I.list h'
  rw [e] at e'; cases e'
  rw [d] at d'
  injection d' with d1 _
  have : its=its':=by simpa using congrArg Array.toList d1
  subst this
  exact r.inj r'
theorem Inv.tuple_inj (I : Inv X pins σ H s) (h : SqT X.K H a xs) (h' : SqT X.K H a ys) : xs=ys:=by
  obtain ⟨its,r,⟨o,e,_,n,d⟩,_⟩:=I.tuple h
  obtain ⟨its',r',⟨o',e',_,n',d'⟩,_⟩:=I.tuple h'
  rw [e] at e'; cases e'
  rw [d] at d'
  injection d' with d1 _
  have : its=its':=by simpa using congrArg Array.toList d1
  subst this
  exact r.inj r'
end
abbrev Cx.wish (X : Cx) (E : Value→Shared→Prop) : Cx:={ X with xe:=E }
abbrev Cx.nox (X : Cx) : Cx:=X.wish fun _ _=>False
theorem Cx.Ok.wish {X : Cx} (ok : X.Ok) (E : Value→Shared→Prop) : (X.wish E).Ok:=
  ⟨ok.mod,ok.kind,ok.glob,ok.blt,ok.above,ok.inj,ok.has,ok.cab,ok.hd,ok.frames,ok.stk,ok.exf,ok.bs,ok.bsz,ok.noex,ok.exfs,ok.funs,ok.frf⟩
theorem Cx.Ok.unwish {X : Cx} {E : Value→Shared→Prop} (ok : (X.wish E).Ok) : X.Ok:=
  ⟨ok.mod,ok.kind,ok.glob,ok.blt,ok.above,ok.inj,ok.has,ok.cab,ok.hd,ok.frames,ok.stk,ok.exf,ok.bs,ok.bsz,ok.noex,ok.exfs,ok.funs,ok.frf⟩
section
variable {X : Cx} {pins : List (Addr×Obj)} {σ : St} {H : Hp} {s : Shared} {E : Value→Shared→Prop}
theorem Inv.wish (I : Inv X pins σ H s) (E : Value→Shared→Prop) : Inv (X.wish E) pins σ H s:=⟨I.ok.wish E,I.os,I.bare,I.base,I.loc,I.cell,I.free,I.freeC,I.pin,I.hok,I.len⟩
theorem Inv.unwish (I : Inv (X.wish E) pins σ H s) : Inv X pins σ H s:=⟨I.ok.unwish,I.os,I.bare,I.base,I.loc,I.cell,I.free,I.freeC,I.pin,I.hok,I.len⟩
theorem SP.unwish {D : Ends} {f : Flow} {s' : Shared} (h : SP (X.wish E) pins D f s') : SP X pins D f s':=by
  cases f with
  | next=>obtain ⟨σ',H',I,q⟩:=h; exact ⟨σ',H',I.unwish,q⟩
  | brk=>obtain ⟨σ',H',I,q⟩:=h; exact ⟨σ',H',I.unwish,q⟩
  | cont=>obtain ⟨σ',H',I,q⟩:=h; exact ⟨σ',H',I.unwish,q⟩
  | ret u=>obtain ⟨v,σ',H',I,r,q⟩:=h; exact ⟨v,σ',H',I.unwish,r,q⟩
theorem PSs.nox {st : List Stmt} {t : TS} (h : PSs X.nox st t) : PSs X st t:=fun pins s σ H D I hw=>
  wpAny_mono (h pins s σ H D (I.wish _) hw) (fun _ _ q=>q.unwish) fun _ _ z=>False.elim z
end
section
variable {X : Cx} {st : Stmt} {rest : List Stmt} {t u : TS} {e : Expr} {te : TE} {pos : Pos}
def tNext : TS:=fun D σ H=>D.nx σ H
def tSeq (t u : TS) : TS:=fun D σ H=>t { D with nx:=u D } σ H
theorem pss_nil : PSs X [] tNext:=fun _ _ σ H _ I h=>wpAny_execs_nil ⟨σ,H,I,h⟩
theorem pss_cons (h1 : PS X st t) (h2 : PSs X rest u) : PSs X (st :: rest) (tSeq t u):=by
  intro pins s σ H D I h
  refine wpAny_execs_cons (thn (h1 pins s σ H { D with nx:=u D } I h) fun f s1 q=>?_)
  cases f with
  | next=>
    obtain ⟨σ',H',I',q⟩:=q
    exact h2 pins s1 σ' H' D I' q
  | ret v=>exact q
  | brk=>exact q
  | cont=>exact q
theorem pss_one (h1 : PS X st t) : PSs X [st] t:=by
  intro pins s σ H D I h
  refine wpAny_execs_cons (thn (h1 pins s σ H D I h) fun f s1 q=>?_)
  cases f with
  | next=>exact wpAny_execs_nil q
  | ret v=>exact q
  | brk=>exact q
  | cont=>exact q
theorem Inv.quiet {pins : List (Addr×Obj)} {σ : St} {H : Hp} {s : Shared} (I : Inv X pins σ H s) : interactive X.env=false:=by simp [interactive,I.ok.kind]
def tDrop (te : TE) : TS:=fun D σ H=>te σ H fun _ H1=>D.nx σ H1
theorem ps_expr (he : PE X e te) (hs : swapsWith e none pos.line X.env=pure false:=by rfl) : PS X (.Expr e pos) (tDrop te):=by
  intro pins s σ H D I h
  exact wpAny_Expr_any (thn (he pins s σ H _ I h) fun v s1 ⟨x,H1,I1,r1,q1⟩=>⟨σ,H1,I1,q1⟩) I.quiet hs
def tRet (te : TE) : TS:=fun D σ H=>te σ H D.rt
theorem ps_ret (he : PE X e te) : PS X (.Return (some e) pos) (tRet te):=by
  intro pins s σ H D I h
  exact wpAny_Return_some (thn (he pins s σ H _ I h) fun v s1 ⟨x,H1,I1,r1,q1⟩=>⟨x,σ,H1,I1,r1,q1⟩)
def tIfS (c : TT) (t u : TS) : TS:=fun D σ H=>c σ H fun b H1=>if b=true then t D σ H1 else u D σ H1
theorem ps_if {c : Expr} {a b : List Stmt} {tc : TT} (hc : PT X c tc) (ha : PSs X a t) (hb : PSs X b u) : PS X (.If c a b pos) (tIfS tc t u):=by
  intro pins s σ H D I h
  refine wpAny_If (thn (hc pins s σ H _ I h) fun d s1 ⟨H1,I1,q1⟩=>?_)
  cases d with
  | true=>exact ha pins s1 σ H1 D I1 q1
  | false=>exact hb pins s1 σ H1 D I1 q1
end
abbrev TG:=V→St→Hp→(St→Hp→Prop)→Prop
abbrev TGs:=List V→St→Hp→(St→Hp→Prop)→Prop
def PG (X : Cx) (target : Expr) (t : TG) : Prop:=
  ∀ (pins : List (Addr×Obj)) (s : Shared) (σ : St) (H : Hp) (v : V) (u : Value) (Q : St→Hp→Prop),Inv X pins σ H s→RelV v u→t v σ H Q→
    wpAny (model X.prog X.w) X.A (assign target X.env u) (fun _ s'=>∃ σ' H',Inv X pins σ' H' s'∧Q σ' H') X.xe s
def PGs (X : Cx) (ts : List Expr) (t : TGs) : Prop:=
  ∀ (pins : List (Addr×Obj)) (s : Shared) (σ : St) (H : Hp) (vs : List V) (us : List Value) (Q : St→Hp→Prop),Inv X pins σ H s→Vals vs us→t vs σ H Q→
    wpAny (model X.prog X.w) X.A (assignInOrder ((assignEach ts X.env).map (·.2)) us) (fun _ s'=>∃ σ' H',Inv X pins σ' H' s'∧Q σ' H') X.xe s
abbrev TSet:=V→V→V→Hp→(Hp→Prop)→Prop
def PSet (X : Cx) (t : TSet) : Prop:=
  ∀ (pins : List (Addr×Obj)) (s : Shared) (σ : St) (H : Hp) (o i v : V) (ov iv u : Value) (Q : Hp→Prop),Inv X pins σ H s→RelV o ov→RelV i iv→RelV v u→t o i v H Q→
    wpAny (model X.prog X.w) X.A (setItem ov iv u) (fun _ s'=>∃ H',Inv X pins σ H' s'∧Q H') X.xe s
section
variable {X : Cx} {pos : Pos}
def gName (i : Nat) : TG:=fun v σ H Q=>Q (σ.set i (some v)) H
theorem pg_name {i : Nat} {x : Str} (hN : X.N.Nodup) (hi : X.N[i]? = some x) (hx : Loc X.env.scope x) (hf : X.fn x=true∨X.env.scope.names.lookup x=some .local:=by first | exact .inl rfl | exact .inr rfl | assumption) : PG X (.Name x pos) (gName i):=by
  intro pins s σ H v u Q I r h
  exact wpAny_assign_Name (store_ok I hN hi hx r (fun s' I'=>⟨_,H,I',h⟩) hf)
def gNil : TGs:=fun vs σ H Q=>vs=[]∧Q σ H
def gCons (t : TG) (u : TGs) : TGs:=fun vs σ H Q=>∃ v r,vs=v :: r∧t v σ H fun σ' H'=>u r σ' H' Q
theorem pgs_nil : PGs X [] gNil:=by
  intro pins s σ H vs us Q I r h
  obtain ⟨e,h⟩:=h
  subst e
  cases r
  exact assignInOrder_nil ⟨σ,H,I,h⟩
theorem pgs_cons {e : Expr} {es : List Expr} {t : TG} {u : TGs} (h1 : PG X e t) (h2 : PGs X es u)
    (hs : (assignEach (e :: es) X.env).map (·.2)=assign e X.env :: (assignEach es X.env).map (·.2):=by rfl) : PGs X (e :: es) (gCons t u):=by
  intro pins s σ H vs us Q I r h
  obtain ⟨v,vr,e1,h⟩:=h
  subst e1
  cases r with
  | cons r rr=>
    rw [hs]
    refine assignInOrder_cons (thn (h1 pins s σ H _ _ _ I r h) fun _ s1 ⟨σ1,H1,I1,q1⟩=>?_)
    exact h2 pins s1 σ1 H1 _ _ Q I1 rr q1
def gTup (K : PySem.W.Frag) (n : Nat) (t : TGs) : TG:=fun v σ H Q=>∃ a xs,v = .ref a∧SqT K H a xs∧xs.length=n∧t xs σ H Q
theorem pg_tup {es : List Expr} {k : Nat} {t : TGs} {n : Nat} (hc : X.calm=true) (h : PGs X es t)
    (hn : (assignEach es X.env).length=n:=by rfl) (hst : (assignEach es X.env).findIdx? (·.1)=none:=by rfl) : PG X (.Tuple es k pos) (gTup X.K n t):=by
  intro pins s σ H v u Q I r hw
  obtain ⟨a,xs,e1,hq,hl,hw⟩:=hw
  subst e1
  cases r
  obtain ⟨its,rv,ht,hz⟩:=I.tuple hq
  refine assign_Tuple_tuple (I.ok.hd hc) ht (by simp [hn,← hl,rv.length]) hst fun h' hx=>?_
  have I1 : Inv X pins σ H { s with heap:=h' }:=I.kept (t':=s.toks) fun b o e=>hx b o (Nat.ne_of_lt (Heap.lt_size e)) e
  exact h pins _ σ H xs _ Q I1 (by simpa using rv) hw
def gSub (to ti : TE) (t : TSet) : TG:=fun v σ H Q=>to σ H fun o H1=>ti σ H1 fun i H2=>t o i v H2 fun H3=>Q σ H3
theorem pg_sub {o i : Expr} {to ti : TE} {t : TSet} (ho : PE X o to) (hi : PE X i ti) (hs : PSet X t)
    (ha : ∀ v,assign (.Subscript o i pos) X.env v=(do
      let ov ← holding [v] (eval o X.env)
      let iv ← holding [v,ov] (eval i X.env)
      standAt pos
      holding [v,ov,iv] (setItem ov iv v)
      release [v,ov,iv] []):=by intro _; rfl) : PG X (.Subscript o i pos) (gSub to ti t):=by
  intro pins s σ H v u Q I r h
  rw [ha]
  refine wpAny_bind (wpAny_holding (thn (ho pins s σ H _ I h) fun ov s1 ⟨x,H1,I1,r1,q1⟩=>?_))
  refine wpAny_bind (wpAny_holding (thn (hi pins s1 σ H1 _ I1 q1) fun iv s2 ⟨y,H2,I2,r2,q2⟩=>?_))
  refine wpAny_bind (wpAny_standAt (wpAny_bind (wpAny_holding (thn (hs pins s2 σ H2 x y v ov iv u _ I2 r1 r2 r q2) fun _ s3 ⟨H3,I3,q3⟩=>?_))))
  exact wpAny_release ⟨σ,H3,I3,q3⟩
def tAsg (te : TE) (g : TG) : TS:=fun D σ H=>te σ H fun x H1=>g x σ H1 D.nx
theorem ps_asg {tg e : Expr} {te : TE} {g : TG} (he : PE X e te) (hg : PG X tg g) (hs : swapsWithSole [tg] e pos.line X.env=pure false:=by rfl) (hw : swappedStores [tg] e X.env=pure none:=by rfl)
    (h1 : (assignEach [tg] X.env).map (·.2)=[assign tg X.env]:=by rfl) : PS X (.Assign [tg] e pos) (tAsg te g):=by
  intro pins s σ H D I h
  refine wpAny_Assign_stores (thn (he pins s σ H _ I h) fun v s1 ⟨x,H1,I1,r1,q1⟩=>?_) hs hw
  rw [h1]
  exact thn (hg pins s1 σ H1 x v _ I1 r1 q1) fun _ s2 q=>q
theorem ps_set {i : Nat} {x : Str} {e : Expr} {te : TE} {pos' : Pos} (hN : X.N.Nodup) (hi : X.N[i]? = some x) (hx : Loc X.env.scope x) (he : PE X e te) (hs : swapsWith e (some (.Name x pos')) pos.line X.env=pure false:=by rfl) (hf : X.fn x=true∨X.env.scope.names.lookup x=some .local:=by first | exact .inl rfl | exact .inr rfl | assumption) :
    PS X (.Assign [.Name x pos'] e pos) (tAsg te (gName i)):=by
  intro pins s σ H D I h
  refine wpAny_Assign_Name (thn (he pins s σ H _ I h) fun v s1 ⟨y,H1,I1,r1,q1⟩=>?_) hs
  exact store_ok I1 hN hi hx r1 (fun s2 I2=>⟨_,H1,I2,q1⟩) hf
end
section
variable {X : Cx} {pos : Pos}
end
structure It where
  go : Nat→Hp→Prop
  yld : Nat→Hp→V→Hp→Prop
  stop : Nat→Hp→Prop
def FpOk (X : Cx) (pins : List (Addr×Obj)) (H : Hp) (b : Addr) : Prop:=
  H b=none∧b≠X.env.locals∧b ∉ X.fs∧(b∈X.ex∨X.s₀.heap.objs.size≤b)∧(∀ x c,X.env.cells.lookup x=some c→c≠b)∧∀ p∈X.pn ++ pins,p.1≠b
theorem Inv.fpOk {X : Cx} {pins : List (Addr×Obj)} {σ : St} {H H' : Hp} {s : Shared} {b : Addr} (I : Inv X pins σ H s) (hb : s.heap.objs.size≤b) (hn : H' b=none) : FpOk X pins H' b:=by
  refine ⟨hn,Nat.ne_of_gt (Nat.lt_of_lt_of_le I.lt hb),I.nofs hb,.inr (Nat.le_trans I.sz hb),fun x c e z=>?_,fun p hp z=>?_⟩
  · obtain ⟨v,q⟩:=I.cell x c e
    exact absurd (Nat.lt_of_lt_of_le q.lt (by rw [z]; exact hb)) (Nat.lt_irrefl _)
  · exact absurd (Nat.lt_of_lt_of_le (Heap.lt_size (I.pin p hp).1) (by rw [z]; exact hb)) (Nat.lt_irrefl _)
structure Turn (P : Program) (w : World) (K : PySem.W.Frag) (tg : Expr) (J : It) (fp : List Addr) (it : Addr) (tn : Nat→Heap→Prop) : Prop where
  mem : it∈fp
  obj : ∀ i h,tn i h→∀ b∈fp,∃ o,h.get? b=some o∧∀ v,o.data≠.cell v
  keep : ∀ i h h',tn i h→(∀ b∈fp,∀ o,h.get? b=some o→h'.get? b=some o)→tn i h'
  item : ∀ (X : Cx),X.prog=P→X.w=w→X.K=K→X.calm=true→∀ (i : Nat) (pins : List (Addr×Obj)) (s : Shared) (σ : St) (H : Hp) (E : Value→Shared→Prop),Inv X pins σ H s→(∀ b∈fp,FpOk X pins H b)→tn i s.heap→J.go i H→
    wpAny (model P w) X.A (pyNext (.ref it)) (fun r s1=>∃ u,r=some u∧
      wpAny (model P w) X.A (letOwnedTupleGo tg (.ref it) u) (fun _ s2=>∃ x H',Inv X pins σ H' s2∧RelV x u∧J.yld i H x H'∧tn (i + 1) s2.heap∧∀ b∈fp,H' b=none) E s1) E s
  done : ∀ (X : Cx),X.prog=P→X.w=w→X.K=K→X.calm=true→∀ (i : Nat) (pins : List (Addr×Obj)) (s : Shared) (σ : St) (H : Hp) (E : Value→Shared→Prop),Inv X pins σ H s→(∀ b∈fp,FpOk X pins H b)→tn i s.heap→J.stop i H→
    wpAny (model P w) X.A (pyNext (.ref it)) (fun r s1=>r=none∧Inv X pins σ H s1) E s
  self : ∀ (A : Around) (i : Nat) (s : Shared) (Q : Value→Shared→Prop) (E : Value→Shared→Prop),tn i s.heap→Q (.ref it) s→wpAny (model P w) A (pyIter (.ref it)) Q E s
abbrev TI:=St→Hp→(It→Hp→Prop)→Prop
def PIE (X : Cx) (pins : List (Addr×Obj)) (σ : St) (tg : Expr) (R : It→Hp→Prop) (itv : Value) (s2 : Shared) : Prop:=
  ∃ (it : Addr) (fp : List Addr) (tn : Nat→Heap→Prop) (J : It) (H' : Hp),itv = .ref it∧Inv X pins σ H' s2∧Turn X.prog X.w X.K tg J fp it tn∧tn 0 s2.heap∧(∀ b∈fp,FpOk X pins H' b)∧R J H'
def PI (X : Cx) (tg iter : Expr) (wi : TI) : Prop:=
  ∀ (pins : List (Addr×Obj)) (s : Shared) (σ : St) (H : Hp) (R : It→Hp→Prop),Inv X pins σ H s→wi σ H R→
    wpAny (model X.prog X.w) X.A (eval iter X.env) (fun v s1=>wpAny (model X.prog X.w) X.A (pyIter v) (PIE X pins σ tg R) X.xe s1) X.xe s
theorem go_of {M : Model} {A : Around} {E : Value→Shared→Prop} {s : Shared} {tg : Expr} {it : Addr} {u : Value} {o : Obj} {n : String} {vs : Array Value} {Q : Unit→Shared→Prop} (ho : s.heap.get? it=some o) (hc : o.cls = .type n) (hd : o.data = .fields vs)
    (hn : ["enumerate","zip","dict_itemiterator","dict_reverseitemiterator","odict_iterator","itertools.zip_longest","itertools.pairwise"].contains n=false) (hQ : Q () s) : wpAny M A (letOwnedTupleGo tg (.ref it) u) Q E s:=by
  unfold letOwnedTupleGo
  cases tg <;> first
    | exact wpAny_pure hQ
    | (cases u <;> first
        | exact wpAny_pure hQ
        | (refine wpAny_bind (wpAny_load ho ?_)
           rw [hc,hd]
           show wpAny M A (if (["enumerate","zip","dict_itemiterator","dict_reverseitemiterator","odict_iterator","itertools.zip_longest","itertools.pairwise"].contains n && vs[0]? == some (rawInt _))=true then _ else _) Q E s
           rw [if_neg (by intro h; rw [hn,Bool.false_and] at h; cases h)]
           exact wpAny_pure hQ))
def Itl (K : PySem.W.Frag) (a : Addr) : It:=
  ⟨fun i H=>∃ xs x,SqL K H a xs∧xs[i]? = some x,fun i H x H'=>H' = H∧∀ xs,SqL K H a xs→xs[i]? = some x,fun i H=>∃ xs,SqL K H a xs∧xs.length≤i⟩
def Itr (lo : Int) (n : Nat) : It:=⟨fun i _=>i < n,fun i H x H'=>H' = H∧x = .int (lo + i),fun i _=>n≤i⟩
theorem turn_list {P : Program} {w : World} {K : PySem.W.Frag} {tg : Expr} (a it : Addr) : Turn P w K tg (Itl K a) [it] it (fun i h=>h.IsListIter it a i) where
  mem:=by simp
  obj:=fun i h st b hb=>by
    have e : b=it:=by simpa using hb
    subst e
    obtain ⟨o,e,c,d⟩:=st
    exact ⟨o,e,fun v z=>by rw [d] at z; cases z⟩
  keep:=fun i h h' st k=>st.at fun o e=>k it (by simp) o e
  item:=by
    intro X hP hw hK hc i pins s σ H E I hf st hg
    subst hP hw hK
    obtain ⟨xs,x,hq,hx⟩:=hg
    obtain ⟨its,rv,p,hz⟩:=I.list hq
    obtain ⟨u,hu,ru⟩:=rv.get hx
    obtain ⟨f0,f1,f2,f3,f4,f5⟩:=hf it (by simp)
    refine wpAny_pyNext_list_item st p.isList (x:=u) (by simpa using hu) fun h' st' sb=>?_
    have I1 : Inv X pins σ H { s with heap:=h' }:=I.turned (t':=s.toks) (fun b o hb e=>(sb.2 b hb).trans e) f0 f1 f3 f4 f5
    obtain ⟨o,e,c,d⟩:=id st'
    exact ⟨u,rfl,go_of (s:={ s with heap:=h' }) e c d (by decide) ⟨x,H,I1,ru,⟨rfl,fun ys hy=>by rw [I.list_inj hy hq]; exact hx⟩,st',fun b hb=>(hf b hb).1⟩⟩
  done:=by
    intro X hP hw hK hc i pins s σ H E I hf st hg
    subst hP hw hK
    obtain ⟨xs,hq,hx⟩:=hg
    obtain ⟨its,rv,p,hz⟩:=I.list hq
    obtain ⟨f0,f1,f2,f3,f4,f5⟩:=hf it (by simp)
    have hl:=rv.length
    exact wpAny_pyNext_list_end (I.ok.hd hc) st p.isList (by simp; omega) fun h' eb=>⟨rfl,I.turned (t':=s.toks) (fun b o hb e=>eb b o hb e) f0 f1 f3 f4 f5⟩
  self:=fun _ _ _ _ _ st h=>wpAny_pyIter_listiter st h
theorem turn_range {P : Program} {w : World} {K : PySem.W.Frag} {tg : Expr} (it : Addr) (lo : Int) (n : Nat) : Turn P w K tg (Itr lo n) [it] it (fun i h=>IsRangeIter h it (lo + (i : Nat) * 1) ((n : Int) - (i : Nat)) 1) where
  mem:=by simp
  obj:=fun i h st b hb=>by
    have e : b=it:=by simpa using hb
    subst e
    exact ⟨_,st,fun v z=>by
      have z' : Data.fields _=Data.cell v:=z
      cases z'⟩
  keep:=fun i h h' st k=>k it (by simp) _ st
  item:=by
    intro X hP hw hK hc i pins s σ H E I hf st hg
    subst hP hw hK
    obtain ⟨f0,f1,f2,f3,f4,f5⟩:=hf it (by simp)
    have W:=Walks.range (prog:=X.prog) (w:=X.w) (I.ok.hd hc) it lo 1 n
    refine W.item i s _ _ hg st fun v h' tk hv st' kk=>?_
    obtain ⟨t,rfl⟩:=hv
    have I1 : Inv X pins σ H { s with heap:=h',toks:=tk }:=I.turned (fun b o hb e=>kk b o (by simpa using hb) e) f0 f1 f3 f4 f5
    refine ⟨_,rfl,go_of (s:={ s with heap:=h',toks:=tk }) (n := "range_iterator") st' rfl rfl (by decide) ⟨.int (lo + i),H,I1,⟨t,?_⟩,⟨rfl,rfl⟩,st',fun b hb=>(hf b hb).1⟩⟩
    rw [Int.mul_one]
  done:=by
    intro X hP hw hK hc i pins s σ H E I hf st hg
    subst hP hw hK
    obtain ⟨f0,f1,f2,f3,f4,f5⟩:=hf it (by simp)
    exact wpAny_pyNext_range_end (I.ok.hd hc) st (by have : n≤i:=hg; omega) fun h' eb=>⟨rfl,I.turned (t':=s.toks) (fun b o hb e=>eb b o hb e) f0 f1 f3 f4 f5⟩
  self:=fun _ _ _ _ _ st h=>wpAny_pyIter_rangeiter st h
end L2
namespace L2
open PySem PySem.Spec PyProof.Rows
section
variable {X : Cx} {tg : Expr}
def iList (K : PySem.W.Frag) (tl : TE) : TI:=fun σ H R=>tl σ H fun x H1=>∃ a,x = .ref a∧(∃ xs,SqL K H1 a xs)∧R (Itl K a) H1
theorem pi_list {l : Expr} {tl : TE} (hl : PE X l tl) : PI X tg l (iList X.K tl):=by
  intro pins s σ H R I h
  refine thn (hl pins s σ H _ I h) fun v s1 ⟨x,H1,I1,r1,q1⟩=>?_
  obtain ⟨a,e,⟨xs,hq⟩,q⟩:=q1
  subst e
  cases r1
  obtain ⟨its,rv,p,hz⟩:=I1.list hq
  refine wpAny_pyIter_list p.isList ?_
  refine ⟨s1.heap.objs.size,[s1.heap.objs.size],_,_,H1,rfl,I1.kept (t':=s1.toks) fun b o e=>Heap.get?_push_of_some _ e,turn_list a _,⟨_,Heap.get?_push_size _ rfl,rfl,rfl⟩,fun b hb=>?_,q⟩
  have e : b=s1.heap.objs.size:=by simpa using hb
  subst e
  exact I1.fpOk (Nat.le_refl _) (I1.hok.fresh (Nat.le_refl _))
theorem range_it {pins : List (Addr×Obj)} {σ : St} {H : Hp} {s : Shared} {R : It→Hp→Prop} {E : Value→Shared→Prop} {lo hi : Int} {t u v : Tok} {tk : Nat} (I : Inv X pins σ H s) (h1 : -(2 ^ 62)≤lo) (h2 : lo < 2 ^ 62) (h3 : -(2 ^ 62)≤hi) (h4 : hi < 2 ^ 62)
    (q : R (Itr lo (hi - lo).toNat) H) : wpAny (model X.prog X.w) X.A (pyIter (.ref s.heap.objs.size)) (PIE X pins σ tg R) E { s with heap:=s.heap.push { cls:=.type "range",data:=.fields #[.int lo t,.int hi u,.int 1 v] },toks:=tk }:=by
  refine wpAny_pyIter_range (IsRange.new ..) (small_one h1 h2 h3 h4) ?_
  have I1 : Inv X pins σ H { s with heap:=s.heap.push { cls:=.type "range",data:=.fields #[.int lo t,.int hi u,.int 1 v] },toks:=tk }:=I.kept fun b o e=>Heap.get?_push_of_some _ e
  refine ⟨(s.heap.push { cls:=.type "range",data:=.fields #[.int lo t,.int hi u,.int 1 v] }).objs.size,[(s.heap.push { cls:=.type "range",data:=.fields #[.int lo t,.int hi u,.int 1 v] }).objs.size],_,_,H,rfl,
    I1.kept (t':=tk) fun b o e=>Heap.get?_push_of_some _ e,turn_range _ lo (hi - lo).toNat,?_,fun b hb=>?_,q⟩
  · have e1 : lo + ((0 : Nat) : Int) * 1=lo:=by simp
    have e2 : (((hi - lo).toNat : Nat) : Int) - ((0 : Nat) : Int)=Builtin.Range.rangeSize lo hi 1:=by rw [rangeSize_one]; split <;> omega
    show IsRangeIter _ _ (lo + ((0 : Nat) : Int) * 1) ((((hi - lo).toNat : Nat) : Int) - ((0 : Nat) : Int)) 1
    rw [e1,e2]
    exact Heap.get?_push_size _ rfl
  · have e : b=(s.heap.push { cls:=.type "range",data:=.fields #[.int lo t,.int hi u,.int 1 v] }).objs.size:=by simpa using hb
    subst e
    exact I1.fpOk (Nat.le_refl _) (I1.hok.fresh (Nat.le_refl _))
def iRng1 (ta : TA) : TI:=fun σ H R=>ta σ H fun vs H1=>∃ j : Int,vs=[.int j]∧-(2 ^ 62)≤j∧j < 2 ^ 62∧R (Itr 0 j.toNat) H1
def iRng2 (ta : TA) : TI:=fun σ H R=>ta σ H fun vs H1=>∃ i j : Int,vs=[.int i,.int j]∧(-(2 ^ 62)≤i∧i < 2 ^ 62∧-(2 ^ 62)≤j∧j < 2 ^ 62)∧R (Itr i (j - i).toNat) H1
theorem pi_range1 {a : Expr} {ta : TA} {p pos : Pos} (hg : Gl X "range") (hm : X.mg "range" = none) (ha : PA X [a] ta) (hs : starEach [a] X.env=[(false,eval a X.env)]:=by rfl) : PI X tg (.Call (.Name "range" p) [a] [] pos) (iRng1 ta):=by
  intro pins s σ H R I h
  refine Call_ (ld_blt I hg hm boot_range (PyProof.Rows.callWith_type1 (thn (ha pos pins s σ H _ I h) fun us s1 ⟨vs,H1,I1,r1,q1⟩=>?_) hs rfl))
  obtain ⟨j,e,q1,q2,q⟩:=q1
  subst e
  cases r1 with
  | cons r rr=>
    cases rr
    obtain ⟨t,rfl⟩:=r
    exact call_range_1 (range_it I1 (by omega) (by omega) q1 q2 (by simpa using q))
theorem pi_range2 {a b : Expr} {ta : TA} {p pos : Pos} (hg : Gl X "range") (hm : X.mg "range" = none) (ha : PA X [a,b] ta) (hs : starEach [a,b] X.env=[(false,eval a X.env),(false,eval b X.env)]:=by rfl) (hs2 : starEach [b] X.env=[(false,eval b X.env)]:=by rfl) :
    PI X tg (.Call (.Name "range" p) [a,b] [] pos) (iRng2 ta):=by
  intro pins s σ H R I h
  refine Call_ (ld_blt I hg hm boot_range (PyProof.Rows.callWith_type1 (thn (ha pos pins s σ H _ I h) fun us s1 ⟨vs,H1,I1,r1,q1⟩=>?_) (by rw [hs,hs2]) (by rw [hs2]; rfl)))
  obtain ⟨i,j,e,⟨q1,q2,q3,q4⟩,q⟩:=q1
  subst e
  cases r1 with
  | cons r rr=>
    cases rr with
    | cons r' rr=>
      cases rr
      obtain ⟨t,rfl⟩:=r
      obtain ⟨t',rfl⟩:=r'
      exact call_range_2 (range_it I1 q1 q2 q3 q4 q)
def tFor (wi : TI) (g : TG) (tb : TS) : TS:=fun D σ H=>wi σ H fun J H1=>∃ W : Nat→Nat→St→Hp→Prop,(∃ m,W 0 m σ H1)∧∀ i m σ H,W i m σ H→
  (J.stop i H∧D.nx σ H)∨(J.go i H∧∃ N : St→Hp→Prop,(∀ σ' H',N σ' H'→∃ m',m' < m∧W (i + 1) m' σ' H')∧∀ x H',J.yld i H x H'→g x σ H' fun σ2 H2=>tb { D with nx:=N,ct:=N,bk:=D.nx } σ2 H2)
def pinsAt (fp : List Addr) (h : Heap) : List (Addr×Obj):=fp.filterMap fun b=>(h.get? b).map fun o=>(b,o)
theorem mem_pinsAt {fp : List Addr} {h : Heap} {b : Addr} {o : Obj} (hb : b∈fp) (e : h.get? b=some o) : (b,o)∈pinsAt fp h:=List.mem_filterMap.mpr ⟨b,hb,by rw [e]; rfl⟩
theorem of_pinsAt {fp : List Addr} {h : Heap} {p : Addr×Obj} (hp : p∈pinsAt fp h) : p.1∈fp∧h.get? p.1=some p.2:=by
  obtain ⟨b,hb,e⟩:=List.mem_filterMap.mp hp
  cases q : h.get? b with
  | none=>rw [q] at e; cases e
  | some o=>
    rw [q] at e
    have e' : (b,o)=p:=Option.some.inj e
    subst e'
    exact ⟨hb,q⟩
theorem Inv.pinned {pins : List (Addr×Obj)} {σ : St} {H : Hp} {s : Shared} {fp : List Addr} (I : Inv X pins σ H s) (hf : ∀ b∈fp,FpOk X pins H b) (ho : ∀ b∈fp,∃ o,s.heap.get? b=some o∧∀ v,o.data≠.cell v) : Inv X (pins ++ pinsAt fp s.heap) σ H s:=
  I.pins_of fun p hp=>(List.mem_append.mp hp).elim (fun z=>I.pin p (List.mem_append_right _ z)) fun z=>by
    obtain ⟨hb,e⟩:=of_pinsAt z
    obtain ⟨f0,f1,f2,_⟩:=hf p.1 hb
    obtain ⟨o,e',d⟩:=ho p.1 hb
    rw [e] at e'; cases e'
    exact ⟨e,f0,f1,f2,d⟩
theorem Inv.unpinned {pins pl : List (Addr×Obj)} {σ : St} {H : Hp} {s : Shared} (I : Inv X (pins ++ pl) σ H s) : Inv X pins σ H s:=I.pins_of fun p hp=>I.pin p (List.mem_append_right _ (List.mem_append_left _ hp))
theorem ps_for {iter : Expr} {body : List Stmt} {wi : TI} {g : TG} {tb : TS} {pos : Pos} (hp : PassesOwn (model X.prog X.w) X.A X.env X.xe) (hc : X.calm=true) (hi : PI X tg iter wi) (hg : PG X tg g) (hb : PSs X body tb)
    (hs : ∀ x,foldedSetIterable iter X.env x=pure x:=by intro _; rfl) : PS X (.For tg iter body [] pos) (tFor wi g tb):=by
  intro pins s σ H D I h
  refine wpAny_For (thn (hi pins s σ H _ I h) fun v s1 h1=>thn h1 fun itv s2 h2=>?_) hs
  obtain ⟨it,fp,tn,J,H2,e,I2,T,st2,f2,W,⟨m0,w0⟩,turn⟩:=h2
  subst e
  have stat : ∀ {H' : Hp},(∀ b∈fp,H' b=none)→∀ b∈fp,FpOk X pins H' b:=fun hn b hb=>⟨hn b hb,(f2 b hb).2⟩
  refine codeAny_forLoop_any (fun n s'=>∃ i σ' H',Inv X pins σ' H' s'∧tn i s'.heap∧(∀ b∈fp,H' b=none)∧W i n σ' H') ?_ m0 ⟨0,σ,H2,I2,st2,fun b hb=>(f2 b hb).1,w0⟩
  rintro n s3 ⟨i,σ3,H3,I3,st3,fr3,w3⟩
  rcases turn i n σ3 H3 w3 with ⟨stop,qn⟩ | ⟨go,N,hN,step⟩
  · refine wpAny_passesOwn hp (thn (T.done X rfl rfl rfl hc i pins s3 σ3 H3 X.xe I3 (stat fr3) st3 stop) fun r s4 ⟨hr,I4⟩=>?_)
    subst hr
    exact wpAny_execs_nil ⟨σ3,H3,I4,qn⟩
  · refine wpAny_passesOwn hp (thn (T.item X rfl rfl rfl hc i pins s3 σ3 H3 X.xe I3 (stat fr3) st3 go) fun r s4 ⟨u,hr,h4⟩=>?_)
    subst hr
    refine wpAny_passesOwn hp (thn h4 fun _ s5 ⟨x,H5,I5,r5,y5,st5,fr5⟩=>?_)
    have I5':=I5.pinned (stat fr5) (T.obj _ _ st5)
    refine wpAny_passesOwn hp (thn (hg _ s5 σ3 H5 x u _ I5' r5 (step x H5 y5)) fun _ s6 ⟨σ6,H6,I6,q6⟩=>?_)
    refine wpAny_passesOwn hp (thn (hb _ s6 σ6 H6 _ I6 q6) fun f s7 q7=>?_)
    have again : ∀ {σ7 : St} {H7 : Hp},Inv X (pins ++ pinsAt fp s5.heap) σ7 H7 s7→N σ7 H7→∃ m,m < n∧∃ i σ' H',Inv X pins σ' H' s7∧tn i s7.heap∧(∀ b∈fp,H' b=none)∧W i m σ' H':=fun {σ7 H7} I7 n7=>by
      obtain ⟨m',hm,w7⟩:=hN σ7 H7 n7
      refine ⟨m',hm,i + 1,σ7,H7,I7.unpinned,T.keep _ _ _ st5 fun b hb o e=>(I7.pin (b,o) (List.mem_append_right _ (List.mem_append_right _ (mem_pinsAt hb e)))).1,fun b hb=>?_,w7⟩
      obtain ⟨o,e,d⟩:=T.obj _ _ st5 b hb
      exact (I7.pin (b,o) (List.mem_append_right _ (List.mem_append_right _ (mem_pinsAt hb e)))).2.1
    cases f with
    | next=>obtain ⟨σ7,H7,I7,n7⟩:=q7; exact again I7 n7
    | cont=>obtain ⟨σ7,H7,I7,n7⟩:=q7; exact again I7 n7
    | brk=>obtain ⟨σ7,H7,I7,q7⟩:=q7; exact ⟨σ7,H7,I7.unpinned,q7⟩
    | ret v=>obtain ⟨x7,σ7,H7,I7,r7,q7⟩:=q7; exact ⟨x7,σ7,H7,I7.unpinned,r7,q7⟩
end
theorem for_list {K : PySem.W.Frag} {a : Addr} {xs : List V} {g : TG} {tb : TS} {D : Ends} {σ : St} {H : Hp} (Pv : Nat→St→Hp→Prop) (h0 : Pv 0 σ H) (hl : ∀ i σ H,i≤xs.length→Pv i σ H→SqL K H a xs)
    (hs : ∀ i x σ H,xs[i]? = some x→Pv i σ H→g x σ H fun σ2 H2=>tb { D with nx:=Pv (i + 1),ct:=Pv (i + 1),bk:=D.nx } σ2 H2) (hd : ∀ σ H,Pv xs.length σ H→D.nx σ H) :
    ∃ W : Nat→Nat→St→Hp→Prop,(∃ m,W 0 m σ H)∧∀ i m σ H,W i m σ H→
      ((Itl K a).stop i H∧D.nx σ H)∨((Itl K a).go i H∧∃ N : St→Hp→Prop,(∀ σ' H',N σ' H'→∃ m',m' < m∧W (i + 1) m' σ' H')∧∀ x H',(Itl K a).yld i H x H'→g x σ H' fun σ2 H2=>tb { D with nx:=N,ct:=N,bk:=D.nx } σ2 H2):=by
  refine ⟨fun i m σ H=>m=xs.length - i∧i≤xs.length∧Pv i σ H,⟨xs.length,by simp,Nat.zero_le _,h0⟩,?_⟩
  rintro i m σ H ⟨rfl,hi,p⟩
  have q:=hl i σ H hi p
  by_cases hlt : i < xs.length
  · refine .inr ⟨⟨xs,xs[i],q,by simp [hlt]⟩,Pv (i + 1),fun σ' H' p'=>⟨xs.length - (i + 1),by omega,rfl,hlt,p'⟩,fun x H' y=>?_⟩
    obtain ⟨e,y⟩:=y
    subst e
    exact hs i x σ _ (y xs q) p
  · have e : i=xs.length:=by omega
    subst e
    exact .inl ⟨⟨xs,q,Nat.le_refl _⟩,hd σ H p⟩
theorem for_range {lo : Int} {n : Nat} {g : TG} {tb : TS} {D : Ends} {σ : St} {H : Hp} (Pv : Nat→St→Hp→Prop) (h0 : Pv 0 σ H)
    (hs : ∀ i σ H,i < n→Pv i σ H→g (.int (lo + i)) σ H fun σ2 H2=>tb { D with nx:=Pv (i + 1),ct:=Pv (i + 1),bk:=D.nx } σ2 H2) (hd : ∀ σ H,Pv n σ H→D.nx σ H) :
    ∃ W : Nat→Nat→St→Hp→Prop,(∃ m,W 0 m σ H)∧∀ i m σ H,W i m σ H→
      ((Itr lo n).stop i H∧D.nx σ H)∨((Itr lo n).go i H∧∃ N : St→Hp→Prop,(∀ σ' H',N σ' H'→∃ m',m' < m∧W (i + 1) m' σ' H')∧∀ x H',(Itr lo n).yld i H x H'→g x σ H' fun σ2 H2=>tb { D with nx:=N,ct:=N,bk:=D.nx } σ2 H2):=by
  refine ⟨fun i m σ H=>m=n - i∧i≤n∧Pv i σ H,⟨n,by simp,Nat.zero_le _,h0⟩,?_⟩
  rintro i m σ H ⟨rfl,hi,p⟩
  by_cases hlt : i < n
  · refine .inr ⟨hlt,Pv (i + 1),fun σ' H' p'=>⟨n - (i + 1),by omega,rfl,hlt,p'⟩,fun x H' y=>?_⟩
    obtain ⟨e,y⟩:=y
    subst e y
    exact hs i σ _ hlt p
  · have e : i=n:=by omega
    subst e
    exact .inl ⟨Nat.le_refl _,hd σ H p⟩
end L2
namespace L2
open PySem PySem.Spec PyProof.Rows
abbrev R2:=V→V→Hp→VK→Prop
def OpR (X : Cx) (f : Value→Value→Sem Value) (r : R2) : Prop:=
  ∀ (pins : List (Addr×Obj)) (s : Shared) (σ : St) (H : Hp) (x y : V) (v u : Value) (Q : VK),Inv X pins σ H s→RelV x v→RelV y u→r x y H Q→
    wpAny (model X.prog X.w) X.A (f v u) (EP X pins σ Q) X.xe s
def UnR (X : Cx) (f : Value→Sem Value) (r : V→Hp→VK→Prop) : Prop:=
  ∀ (pins : List (Addr×Obj)) (s : Shared) (σ : St) (H : Hp) (x : V) (v : Value) (Q : VK),Inv X pins σ H s→RelV x v→r x H Q→
    wpAny (model X.prog X.w) X.A (f v) (EP X pins σ Q) X.xe s
def CallR (X : Cx) (f : Value) (r : List V→Hp→VK→Prop) : Prop:=
  ∀ (pins : List (Addr×Obj)) (s : Shared) (σ : St) (H : Hp) (xs : List V) (us : List Value) (Q : VK),Inv X pins σ H s→Vals xs us→r xs H Q→
    wpAny (model X.prog X.w) X.A (call f us) (EP X pins σ Q) X.xe s
def TruR (X : Cx) (r : V→Hp→(Bool→Hp→Prop)→Prop) : Prop:=
  ∀ (pins : List (Addr×Obj)) (s : Shared) (σ : St) (H : Hp) (x : V) (v : Value) (Q : Bool→Hp→Prop),Inv X pins σ H s→RelV x v→r x H Q→
    wpAny (model X.prog X.w) X.A (truthy v) (TP X pins σ Q) X.xe s
def tOp (r : R2) (ta tb : TE) : TE:=fun σ H Q=>ta σ H fun x H1=>tb σ H1 fun y H2=>r x y H2 Q
def tUn (r : V→Hp→VK→Prop) (ta : TE) : TE:=fun σ H Q=>ta σ H fun x H1=>r x H1 Q
def rI (C : Int→Int→Prop) (g : Int→Int→V) : R2:=fun x y H Q=>∃ i j,x = .int i∧y = .int j∧C i j∧Q (g i j) H
def rI0 (g : Int→Int→V) : R2:=fun x y H Q=>∃ i j,x = .int i∧y = .int j∧Q (g i j) H
def rU (g : Int→V) : V→Hp→VK→Prop:=fun x H Q=>∃ i,x = .int i∧Q (g i) H
section
variable {X : Cx} {a b c : Expr} {ta tb tc : TE} {pos : Pos}
theorem binT (ha : PE X a ta) (hb : PE X b tb) {pins : List (Addr×Obj)} {s : Shared} {σ : St} {H : Hp} {R : V→V→Hp→Prop} (I : Inv X pins σ H s)
    (h : ta σ H fun x H1=>tb σ H1 fun y H2=>R x y H2) {Q : Value→Shared→Prop} {f : Value→Value→Sem Value}
    (hf : ∀ v u s2 x y H2,Inv X pins σ H2 s2→RelV x v→RelV y u→R x y H2→wpAny (model X.prog X.w) X.A (f v u) Q X.xe s2) :
    wpAny (model X.prog X.w) X.A (eval a X.env) (fun v s₁=>wpAny (model X.prog X.w) X.A (eval b X.env) (fun u s₂=>wpAny (model X.prog X.w) X.A (f v u) Q X.xe s₂) X.xe s₁) X.xe s:=by
  refine thn (ha pins s σ H _ I h) fun v s1 ⟨x,H1,I1,r1,q1⟩=>?_
  refine thn (hb pins s1 σ H1 _ I1 q1) fun u s2 ⟨y,H2,I2,r2,q2⟩=>?_
  exact hf v u s2 x y H2 I2 r1 r2 q2
theorem pe_op {op : Operator} {r : R2} (ho : OpR X (binaryOp op) r) (ha : PE X a ta) (hb : PE X b tb) : PE X (.BinOp a op b pos) (tOp r ta tb):=by
  intro pins s σ H Q I h
  exact wpAny_BinOp (binT ha hb I h fun v u s2 x y H2 I2 rx ry q=>ho pins s2 σ H2 x y v u Q I2 rx ry q)
theorem pe_un {op : UnaryOp} {r : V→Hp→VK→Prop} (ho : UnR X (unaryOp op) r) (ha : PE X a ta) : PE X (.UnaryOp op a pos) (tUn r ta):=by
  intro pins s σ H Q I h
  exact UnaryOp_ (thn (ha pins s σ H _ I h) fun v s1 ⟨x,H1,I1,r1,q1⟩=>ho pins s1 σ H1 x v Q I1 r1 q1)
theorem opI {f : Value→Value→Sem Value} {C : Int→Int→Prop} {g : Int→Int→Int}
    (rule : ∀ (i j : Int) (t u : Tok) (s : Shared) (Q : Value→Shared→Prop) (E : Value→Shared→Prop),C i j→Q (.int (g i j) s.toks) { s with toks:=s.toks + 1 }→wpAny (model X.prog X.w) X.A (f (.int i t) (.int j u)) Q E s) :
    OpR X f (rI C fun i j=>.int (g i j)):=by
  intro pins s σ H x y v u Q I rx ry h
  obtain ⟨i,j,rfl,rfl,hc,q⟩:=h
  obtain ⟨t,rfl⟩:=rx
  obtain ⟨t',rfl⟩:=ry
  exact rule i j t t' s _ _ hc ⟨.int (g i j),H,I.tok _,⟨_,rfl⟩,q⟩
theorem opI0 {f : Value→Value→Sem Value} {g : Int→Int→Int}
    (rule : ∀ (i j : Int) (t u : Tok) (s : Shared) (Q : Value→Shared→Prop) (E : Value→Shared→Prop),Q (.int (g i j) s.toks) { s with toks:=s.toks + 1 }→wpAny (model X.prog X.w) X.A (f (.int i t) (.int j u)) Q E s) :
    OpR X f (rI0 fun i j=>.int (g i j)):=by
  intro pins s σ H x y v u Q I rx ry h
  obtain ⟨i,j,rfl,rfl,q⟩:=h
  obtain ⟨t,rfl⟩:=rx
  obtain ⟨t',rfl⟩:=ry
  exact rule i j t t' s _ _ ⟨.int (g i j),H,I.tok _,⟨_,rfl⟩,q⟩
theorem opB0 {f : Value→Value→Sem Value} {g : Int→Int→Bool}
    (rule : ∀ (i j : Int) (t u : Tok) (s : Shared) (Q : Value→Shared→Prop) (E : Value→Shared→Prop),Q (.bool (g i j)) s→wpAny (model X.prog X.w) X.A (f (.int i t) (.int j u)) Q E s) :
    OpR X f (rI0 fun i j=>.bl (g i j)):=by
  intro pins s σ H x y v u Q I rx ry h
  obtain ⟨i,j,rfl,rfl,q⟩:=h
  obtain ⟨t,rfl⟩:=rx
  obtain ⟨t',rfl⟩:=ry
  exact rule i j t t' s _ _ ⟨.bl (g i j),H,I,rfl,q⟩
def CPow (i j : Int) : Prop:=0≤j∧j≤1000000∧i.natAbs < 2 ^ 64
def CMul (i j : Int) : Prop:=(-(2 ^ 64) < i∧i < 2 ^ 64)∨(-(2 ^ 64) < j∧j < 2 ^ 64)
theorem CMul.ok {i j : Int} (h : CMul i j) : IntMulOk i j:=by
  rcases h with ⟨h1,h2⟩ | ⟨h1,h2⟩
  · exact .of_left (intBits_le_64 h1 h2)
  · exact .of_right (intBits_le_64 h1 h2)
theorem op_add : OpR X (binaryOp .Add) (rI0 fun i j=>.int (i + j)):=opI0 fun _ _ _ _ _ _ _ q=>add_int q
theorem op_sub : OpR X (binaryOp .Sub) (rI0 fun i j=>.int (i - j)):=opI0 fun _ _ _ _ _ _ _ q=>sub_int q
theorem op_mul : OpR X (binaryOp .Mult) (rI CMul fun i j=>.int (i * j)):=opI fun _ _ _ _ _ _ _ hc q=>mul_int q hc.ok
theorem op_mod : OpR X (binaryOp .Mod) (rI (fun _ j=>0 < j) fun i j=>.int (i % j)):=opI fun i j _ _ _ _ _ hc q=>by
  have h1 : (0 : Int) < j:=hc
  exact mod_int' (by omega) (by rw [Int.fmod_eq_emod_of_nonneg i (by omega)]; exact q)
theorem op_pow : OpR X (binaryOp .Pow) (rI CPow fun i j=>.int (i ^ j.toNat)):=opI fun _ _ _ _ _ _ _ hc q=>pow_int_small hc.1 hc.2.1 hc.2.2 q
theorem unI {f : Value→Sem Value} {g : Int→Int}
    (rule : ∀ (i : Int) (t : Tok) (s : Shared) (Q : Value→Shared→Prop) (E : Value→Shared→Prop),Q (.int (g i) s.toks) { s with toks:=s.toks + 1 }→wpAny (model X.prog X.w) X.A (f (.int i t)) Q E s) :
    UnR X f (rU fun i=>.int (g i)):=by
  intro pins s σ H x v Q I rx h
  obtain ⟨i,rfl,q⟩:=h
  obtain ⟨t,rfl⟩:=rx
  exact rule i t s _ _ ⟨.int (g i),H,I.tok _,⟨_,rfl⟩,q⟩
theorem un_neg : UnR X (unaryOp .USub) (rU fun i=>.int (-i)):=unI fun _ _ _ _ _ q=>neg_int q
end
def scal : V→V→Bool
  | .non,.non=>true | .non,.int _=>true | .int _,.non=>true | .non,.bl _=>true | .bl _,.non=>true | .non,.str _=>true | .str _,.non=>true
  | .int _,.int _=>true | .bl _,.bl _=>true | .str _,.str _=>true | .byt _,.byt _=>true
  | .int _,.str _=>true | .str _,.int _=>true | .bl _,.str _=>true | .str _,.bl _=>true
  | _,_=>false
def rEq : R2:=fun x y H Q=>scal x y=true∧Q (.bl (decide (x=y))) H
def rNe : R2:=fun x y H Q=>scal x y=true∧Q (.bl (!decide (x=y))) H
theorem dec_int {i j : Int} : decide (V.int i=V.int j)=(i == j):=by
  rw [Bool.eq_iff_iff]
  simp
theorem dec_bl {i j : Bool} : decide (V.bl i=V.bl j)=(i == j):=by
  rw [Bool.eq_iff_iff]
  simp
theorem dec_str {i j : Str} : decide (V.str i=V.str j)=(i == j):=by
  rw [Bool.eq_iff_iff]
  simp
theorem dec_byt {i j : Array UInt8} : decide (V.byt i=V.byt j)=(i.toList == j.toList):=by
  rw [Bool.eq_iff_iff]
  cases i
  cases j
  simp
section
variable {X : Cx} {a b c : Expr} {ta tb tc : TE} {pos : Pos}
theorem fin_bl {pins : List (Addr×Obj)} {σ : St} {H : Hp} {s : Shared} {Q : VK} {k k' : Bool} (I : Inv X pins σ H s) (q : Q (.bl k) H) (e : k=k') : EP X pins σ Q (.bool k') s:=by
  subst e
  exact ⟨.bl k,H,I,rfl,q⟩
theorem op_eq : OpR X (compareOp .Eq) rEq:=by
  intro pins s σ H x y v u Q I rx ry h
  obtain ⟨hs,q⟩:=h
  cases x with
  | non=>
    cases rx
    cases y with
    | non=>cases ry; exact PySem.EqNone.eq_none_none (fin_bl I q (by simp))
    | bl j=>cases ry; exact PySem.EqNone.eq_none_bool (fin_bl I q (by simp))
    | int j=>obtain ⟨t',rfl⟩:=ry; exact PySem.EqNone.eq_none_int (fin_bl I q (by simp))
    | str j=>obtain ⟨t',rfl⟩:=ry; exact PySem.EqNone.eq_none_str (fin_bl I q (by simp))
    | _=>exact absurd (show false=true from hs) Bool.false_ne_true
  | bl i=>
    cases rx
    cases y with
    | non=>cases ry; exact PySem.EqNone.eq_bool_none (fin_bl I q (by simp))
    | bl j=>cases ry; exact eq_bool (fin_bl I q dec_bl)
    | str j=>obtain ⟨t',rfl⟩:=ry; exact PySem.EqMixed.eq_bool_str (fin_bl I q (by simp))
    | _=>exact absurd (show false=true from hs) Bool.false_ne_true
  | int i=>
    obtain ⟨t,rfl⟩:=rx
    cases y with
    | non=>cases ry; exact PySem.EqNone.eq_int_none (fin_bl I q (by simp))
    | int j=>obtain ⟨t',rfl⟩:=ry; exact eq_int (fin_bl I q dec_int)
    | str j=>obtain ⟨t',rfl⟩:=ry; exact PySem.EqMixed.eq_int_str (fin_bl I q (by simp))
    | _=>exact absurd (show false=true from hs) Bool.false_ne_true
  | str i=>
    obtain ⟨t,rfl⟩:=rx
    cases y with
    | non=>cases ry; exact PySem.EqNone.eq_str_none (fin_bl I q (by simp))
    | bl j=>cases ry; exact PySem.EqMixed.eq_str_bool (fin_bl I q (by simp))
    | int j=>obtain ⟨t',rfl⟩:=ry; exact PySem.EqMixed.eq_str_int (fin_bl I q (by simp))
    | str j=>obtain ⟨t',rfl⟩:=ry; exact eq_str (fin_bl I q dec_str)
    | _=>exact absurd (show false=true from hs) Bool.false_ne_true
  | byt i=>
    obtain ⟨t,rfl⟩:=rx
    cases y with
    | byt j=>obtain ⟨t',rfl⟩:=ry; exact PySem.W.eq_bytes (fin_bl I q dec_byt)
    | _=>exact absurd (show false=true from hs) Bool.false_ne_true
  | _=>cases y <;> exact absurd (show false=true from hs) Bool.false_ne_true
theorem op_ne : OpR X (compareOp .NotEq) rNe:=by
  intro pins s σ H x y v u Q I rx ry h
  obtain ⟨hs,q⟩:=h
  cases x with
  | non=>
    cases rx
    cases y with
    | non=>cases ry; exact PySem.EqNone.ne_none_none (fin_bl I q (by simp))
    | bl j=>cases ry; exact PySem.EqNone.ne_none_bool (fin_bl I q (by simp))
    | int j=>obtain ⟨t',rfl⟩:=ry; exact PySem.EqNone.ne_none_int (fin_bl I q (by simp))
    | str j=>obtain ⟨t',rfl⟩:=ry; exact PySem.EqNone.ne_none_str (fin_bl I q (by simp))
    | _=>exact absurd (show false=true from hs) Bool.false_ne_true
  | bl i=>
    cases rx
    cases y with
    | non=>cases ry; exact PySem.EqNone.ne_bool_none (fin_bl I q (by simp))
    | bl j=>cases ry; exact ne_bool (fin_bl I q (congrArg not dec_bl))
    | str j=>obtain ⟨t',rfl⟩:=ry; exact PySem.EqMixed.ne_bool_str (fin_bl I q (by simp))
    | _=>exact absurd (show false=true from hs) Bool.false_ne_true
  | int i=>
    obtain ⟨t,rfl⟩:=rx
    cases y with
    | non=>cases ry; exact PySem.EqNone.ne_int_none (fin_bl I q (by simp))
    | int j=>obtain ⟨t',rfl⟩:=ry; exact ne_int (fin_bl I q (congrArg not dec_int))
    | str j=>obtain ⟨t',rfl⟩:=ry; exact PySem.EqMixed.ne_int_str (fin_bl I q (by simp))
    | _=>exact absurd (show false=true from hs) Bool.false_ne_true
  | str i=>
    obtain ⟨t,rfl⟩:=rx
    cases y with
    | non=>cases ry; exact PySem.EqNone.ne_str_none (fin_bl I q (by simp))
    | bl j=>cases ry; exact PySem.EqMixed.ne_str_bool (fin_bl I q (by simp))
    | int j=>obtain ⟨t',rfl⟩:=ry; exact PySem.EqMixed.ne_str_int (fin_bl I q (by simp))
    | str j=>obtain ⟨t',rfl⟩:=ry; exact ne_str (fin_bl I q (congrArg not dec_str))
    | _=>exact absurd (show false=true from hs) Bool.false_ne_true
  | byt i=>
    obtain ⟨t,rfl⟩:=rx
    cases y with
    | byt j=>obtain ⟨t',rfl⟩:=ry; exact PySem.W.ne_bytes (fin_bl I q (congrArg not dec_byt))
    | _=>exact absurd (show false=true from hs) Bool.false_ne_true
  | _=>cases y <;> exact absurd (show false=true from hs) Bool.false_ne_true
theorem op_lt : OpR X (compareOp .Lt) (rI0 fun i j=>.bl (decide (i < j))):=opB0 fun _ _ _ _ _ _ _ q=>lt_int q
theorem op_le : OpR X (compareOp .LtE) (rI0 fun i j=>.bl (decide (i≤j))):=opB0 fun _ _ _ _ _ _ _ q=>le_int q
theorem op_gt : OpR X (compareOp .Gt) (rI0 fun i j=>.bl (decide (j < i))):=opB0 fun _ _ _ _ _ _ _ q=>gt_int q
theorem op_ge : OpR X (compareOp .GtE) (rI0 fun i j=>.bl (decide (j≤i))):=opB0 fun _ _ _ _ _ _ _ q=>ge_int q
theorem op_isN : OpR X (compareOp .Is) (fun x y H Q=>y = .non∧Q (.bl (decide (x = .non))) H):=by
  intro pins s σ H x y v u Q I rx ry h
  obtain ⟨rfl,q⟩:=h
  cases ry
  refine is_none_gen (fin_bl I q ?_)
  cases x <;> first
    | (cases rx; rfl)
    | (obtain ⟨t,rfl⟩:=rx; rfl)
theorem nomark (b : Expr) {op : CmpOp} (h : op≠.In:=by decide) (h2 : op≠.NotIn:=by decide) : behindInMarks op b=false:=by
  have e1 : (op == CmpOp.In)=false:=by cases op <;> first | rfl | exact absurd rfl h
  have e2 : (op == CmpOp.NotIn)=false:=by cases op <;> first | rfl | exact absurd rfl h2
  cases b <;> simp [behindInMarks,e1,e2]
theorem pe_cmpR {op : CmpOp} {r : R2} (ho : OpR X (compareOp op) r) (ha : PE X a ta) (hb : PE X b tb) (hm : behindInMarks op b=false) : PE X (.Compare a [op] [b] pos) (tOp r ta tb):=by
  intro pins s σ H Q I h
  exact wpAny_Compare1 (binT ha hb I h fun v u s2 x y H2 I2 rx ry q=>ho pins s2 σ H2 x y v u Q I2 rx ry q) hm
def tTest (t : TE) : TT:=fun σ H Q=>t σ H fun x H'=>∃ k,x = .bl k∧Q k H'
theorem pt_cmpR {op : CmpOp} {r : R2} (ho : OpR X (compareOp op) r) (ha : PE X a ta) (hb : PE X b tb) (hm : behindInMarks op b=false) : PT X (.Compare a [op] [b] pos) (tTest (tOp r ta tb)):=by
  intro pins s σ H Q I h
  refine wpAny_isTrue_Compare1 (thn (ha pins s σ H _ I h) fun v s1 ⟨x,H1,I1,r1,q1⟩=>thn (hb pins s1 σ H1 _ I1 q1) fun u s2 ⟨y,H2,I2,r2,q2⟩=>
    thn (ho pins s2 σ H2 x y v u _ I2 r1 r2 q2) fun c s3 ⟨z,H3,I3,r3,k,e,q3⟩=>?_) hm
  subst e
  cases r3
  exact wpAny_truthy_bool ⟨H3,I3,q3⟩
def tChain (r r' : R2) (ta tb tc : TE) : TE:=fun σ H Q=>ta σ H fun x H1=>tb σ H1 fun y H2=>r x y H2 fun z H3=>∃ k,z = .bl k∧
  (if k=true then tc σ H3 fun w' H4=>r' y w' H4 Q else Q (.bl false) H3)
theorem pe_chain {op op' : CmpOp} {r r' : R2} (ho : OpR X (compareOp op) r) (ho' : OpR X (compareOp op') r') (ha : PE X a ta) (hb : PE X b tb) (hc : PE X c tc)
    (hm : lastMarks [op,op'] [b,c]=false:=by with_unfolding_all rfl) : PE X (.Compare a [op,op'] [b,c] pos) (tChain r r' ta tb tc):=by
  intro pins s σ H Q I h
  refine Compare_chain (thn (ha pins s σ H _ I h) fun v s1 ⟨x,H1,I1,r1,q1⟩=>chain_link (thn (hb pins s1 σ H1 _ I1 q1) fun u s2 ⟨y,H2,I2,r2,q2⟩=>
    thn (ho pins s2 σ H2 x y v u _ I2 r1 r2 q2) fun d s3 ⟨z,H3,I3,r3,k,e,q3⟩=>?_)) hm
  subst e
  cases r3
  refine wpAny_truthy_bool ?_
  cases k with
  | false=>exact ite_ff ⟨.bl false,H3,I3,rfl,q3⟩
  | true=>exact ite_tt (chain_last (thn (hc pins s3 σ H3 _ I3 q3) fun w' s4 ⟨z',H4,I4,r4,q4⟩=>ho' pins s4 σ H4 y z' u w' Q I4 r2 r4 q4))
theorem pt_chain {op op' : CmpOp} {r r' : R2} (ho : OpR X (compareOp op) r) (ho' : OpR X (compareOp op') r') (ha : PE X a ta) (hb : PE X b tb) (hc : PE X c tc)
    (hm : lastMarks [op,op'] [b,c]=false:=by with_unfolding_all rfl) : PT X (.Compare a [op,op'] [b,c] pos) (tTest (tChain r r' ta tb tc)):=by
  intro pins s σ H Q I h
  refine isTrue_chain (thn (ha pins s σ H _ I h) fun v s1 ⟨x,H1,I1,r1,q1⟩=>test_link (thn (hb pins s1 σ H1 _ I1 q1) fun u s2 ⟨y,H2,I2,r2,q2⟩=>
    thn (ho pins s2 σ H2 x y v u _ I2 r1 r2 q2) fun d s3 ⟨z,H3,I3,r3,k,e,q3⟩=>?_)) hm
  subst e
  cases r3
  refine wpAny_truthy_bool ?_
  cases k with
  | false=>
    obtain ⟨k',e',q'⟩:=q3
    cases e'
    exact ite_ff ⟨H3,I3,q'⟩
  | true=>
    refine ite_tt (test_last (thn (hc pins s3 σ H3 _ I3 q3) fun w' s4 ⟨z',H4,I4,r4,q4⟩=>thn (ho' pins s4 σ H4 y z' u w' _ I4 r2 r4 q4) fun d' s5 ⟨z2,H5,I5,r5,k2,e2,q5⟩=>?_))
    subst e2
    cases r5
    exact wpAny_truthy_bool ⟨H5,I5,q5⟩
def TruV (K : PySem.W.Frag) (x : V) (H : Hp) (k : Bool) : Prop:=
  match x with
  | .non=>k=false
  | .bl b=>k=b
  | .int i=>k=(i != 0)
  | .str y=>y.length≤sizeLine∧k=((y.length : Int) != 0)
  | .byt y=>y.size≤sizeLine∧k=((y.size : Int) != 0)
  | .ref p=>(∃ xs,SqL K H p xs∧k = !xs.isEmpty)∨(∃ xs,SqT K H p xs∧k = !xs.isEmpty)∨∃ kvs,H p=some (.dK kvs)∧k = !kvs.isEmpty
  | _=>False
theorem isEmpty_kv {κ : Type} {kvs : List (κ×V)} {vs : List (κ×Value)} (r : KV kvs vs) : (!vs.isEmpty) = !kvs.isEmpty:=by
  cases r <;> rfl
theorem isEmpty_of {xs : List V} {its : List Value} (r : Vals xs its) : (!its.toArray.isEmpty) = !xs.isEmpty:=by
  cases r <;> simp
theorem line63 : (sizeLine : Nat) < 2 ^ 63:=by rw [sizeLine_eq]; decide
theorem tru_ok : TruR X (fun x H Q=>∃ k,TruV X.K x H k∧Q k H):=by
  intro pins s σ H x v Q I rx h
  obtain ⟨k,e,q⟩:=h
  have hl:=line63
  have hs : sizeLine=16777216:=sizeLine_eq
  cases x with
  | non=>
    cases rx
    have e' : k=false:=e
    subst e'
    exact truthy_none ⟨H,I,q⟩
  | bl b=>
    cases rx
    have e' : k=b:=e
    subst e'
    exact wpAny_truthy_bool ⟨H,I,q⟩
  | int i=>
    obtain ⟨t,rfl⟩:=rx
    have e' : k=(i != 0):=e
    subst e'
    exact PySem.P.truthy_int ⟨H,I,q⟩
  | str y=>
    obtain ⟨t,rfl⟩:=rx
    obtain ⟨hy,e'⟩ : y.length≤sizeLine∧k=((y.length : Int) != 0):=e
    subst e'
    exact PySem.P.truthy_str (by omega) ⟨H,I.tok _,q⟩
  | byt y=>
    obtain ⟨t,rfl⟩:=rx
    obtain ⟨hy,e'⟩ : y.size≤sizeLine∧k=((y.size : Int) != 0):=e
    subst e'
    exact PySem.W.truthy_bytes (by omega) ⟨H,I.tok _,q⟩
  | ref p=>
    cases rx
    have e' : (∃ xs,SqL X.K H p xs∧k = !xs.isEmpty)∨(∃ xs,SqT X.K H p xs∧k = !xs.isEmpty)∨∃ kvs,H p=some (.dK kvs)∧k = !kvs.isEmpty:=e
    rcases e' with ⟨xs,hx,e'⟩ | ⟨xs,hx,e'⟩ | ⟨kvs,hx,e'⟩
    · subst e'
      obtain ⟨its,r,pl,hz⟩:=I.list hx
      have hlen:=r.length
      exact wpAny_truthy_list pl.isList (by simp only [List.size_toArray]; omega) ⟨H,I.tok _,by rw [isEmpty_of r]; exact q⟩
    · subst e'
      obtain ⟨its,r,pl,hz⟩:=I.tuple hx
      have hlen:=r.length
      exact truthy_tuple pl (by simp only [List.size_toArray]; omega) ⟨H,I.tok _,by rw [isEmpty_of r]; exact q⟩
    · subst e'
      obtain ⟨hz,hS,vs,r,m⟩ : kvs.length≤sizeLine∧(p == sysModules)=false∧∃ vs,KV kvs vs∧s.heap.DictOf (mixKind X.prog X.w) p vs:=I.hok p _ hx
      have hlen : kvs.length=vs.length:=Paired.length r
      exact wpAny_truthy_dict hS m (by omega) ⟨H,I.tok _,by rw [isEmpty_kv r]; exact q⟩
  | _=>exact (show False from e).elim
theorem pt_truth (ha : PE X a ta) (he : ∀ whole,isTrue a X.env whole=(do let v ← whole; standAt a.pos; holding [v] (truthy v))) :
    PT X a (fun σ H Q=>ta σ H fun x H'=>∃ k,TruV X.K x H' k∧Q k H'):=by
  intro pins s σ H Q I h
  exact isTrue_plain (thn (ha pins s σ H _ I h) fun v s1 ⟨x,H1,I1,r1,q1⟩=>tru_ok pins s1 σ H1 x v Q I1 r1 q1) (he _)
theorem vals1 {x : V} {us : List Value} (r : Vals [x] us) : ∃ u,us=[u]∧RelV x u:=by
  cases r with
  | cons r1 r2=>cases r2; exact ⟨_,rfl,r1⟩
theorem vals2 {x y : V} {us : List Value} (r : Vals [x,y] us) : ∃ u w',us=[u,w']∧RelV x u∧RelV y w':=by
  cases r with
  | cons r1 r2=>
    cases r2 with
    | cons r3 r4=>cases r4; exact ⟨_,_,rfl,r1,r3⟩
theorem call_max2 (hc : X.calm=true) : CallR X (.builtin "max") (fun xs H Q=>∃ i j,xs=[.int i,.int j]∧Q (.int (if j > i then j else i)) H):=by
  intro pins s σ H xs us Q I r h
  obtain ⟨i,j,rfl,q⟩:=h
  obtain ⟨u,w',rfl,⟨t,rfl⟩,⟨t',rfl⟩⟩:=vals2 r
  refine max_two_ints (I.ok.hd hc) fun h' tk k=>⟨_,H,I.kept k,?_,q⟩
  by_cases hj : j > i
  · rw [if_pos hj,if_pos hj]; exact ⟨_,rfl⟩
  · rw [if_neg hj,if_neg hj]; exact ⟨_,rfl⟩
theorem call_min2 (hc : X.calm=true) : CallR X (.builtin "min") (fun xs H Q=>∃ i j,xs=[.int i,.int j]∧Q (.int (if j < i then j else i)) H):=by
  intro pins s σ H xs us Q I r h
  obtain ⟨i,j,rfl,q⟩:=h
  obtain ⟨u,w',rfl,⟨t,rfl⟩,⟨t',rfl⟩⟩:=vals2 r
  refine min_two_ints (I.ok.hd hc) fun h' tk k=>⟨_,H,I.kept k,?_,q⟩
  by_cases hj : j < i
  · rw [if_pos hj,if_pos hj]; exact ⟨_,rfl⟩
  · rw [if_neg hj,if_neg hj]; exact ⟨_,rfl⟩
theorem call_int1 : CallR X (.type "int") (fun xs H Q=>(∃ i,xs=[.int i]∧Q (.int i) H)∨∃ k,xs=[.bl k]∧Q (.int (if k then 1 else 0)) H):=by
  intro pins s σ H xs us Q I r h
  rcases h with ⟨i,rfl,q⟩ | ⟨k,rfl,q⟩
  · obtain ⟨u,rfl,t,rfl⟩:=vals1 r
    exact call_int_int ⟨.int i,H,I,⟨_,rfl⟩,q⟩
  · obtain ⟨u,rfl,r1⟩:=vals1 r
    cases r1
    exact call_int_bool ⟨.int (if k then 1 else 0),H,I.tok _,⟨_,rfl⟩,q⟩
end
end L2
namespace L2
open PySem PySem.Spec PyProof.Rows
structure ObjM (h : Heap) (x dx C : Addr) (mA : Str→Option Value) : Prop where
  obj : h.get? x=some (PySem.W.instObj C dx)
  ns : h.Ns1 dx mA
  ne : dx≠x
theorem lookIn_ns {h : Heap} {dx : Addr} {mA : Str→Option Value} (n : h.Ns1 dx mA) : ∃ od,h.get? dx=some od∧∀ name,PySem.W.lookIn name od=some (mA name):=by
  obtain ⟨o,es,ep,ho,hd,hk,_,hm⟩:=n
  refine ⟨o,ho,fun name=>?_⟩
  have e:=hm name
  unfold nsFind findBy at e
  rw [← Array.find?_toList] at e
  unfold PySem.W.lookIn
  rw [hd]
  dsimp only
  split
  · rename_i y q
    rw [q] at e
    exact congrArg some e
  · rename_i q
    rw [q] at e
    have a : es.toList.any (·.refKey)=false:=by
      rw [List.any_eq_false]
      intro y hy
      obtain ⟨z,t,hkey⟩:=hk y (Array.mem_toList_iff.mp hy)
      simp [DictEntry.refKey,hkey]
    have a' : ¬ es.toList.any (·.refKey)=true:=by rw [a]; exact Bool.false_ne_true
    rw [if_neg a']
    exact congrArg some e
theorem ObjM.look {h : Heap} {x dx C : Addr} {mA : Str→Option Value} (I : ObjM h x dx C mA) : ∃ od,PySem.W.InstAt h x (PySem.W.instObj C dx) C (some od)∧∀ name,PySem.W.lookIn name od=some (mA name):=
  let ⟨od,ho,hl⟩:=lookIn_ns I.ns
  ⟨od,⟨I.obj,rfl,rfl,ho⟩,hl⟩
section
variable {prog : Program} {w : World} {A : Around} {E : Value→Shared→Prop} {s : Shared} {K : PySem.W.Frag} {x dx C f : Addr} {mA : Str→Option Value} {name : Str} {v : Value}
end
section
variable {P : Program} {w : World} {H H' : Hp} {h h' : Heap} {a C dx : Addr} {fs fs' : List (Str×V)}
theorem ins_get (hok : HOk P w H h) (e : H a=some (.ins C dx fs)) : ∃ mA,ObjM h a dx C mA∧(∀ f,RelO (fs.lookup f) (mA f))∧PySem.Within mA (fs.map (·.1))∧fs.length≤1000∧H dx=some (.own a):=by
  obtain ⟨d,z,ne,ob,mA,n,r,q⟩:=(show ObjOk P w H h a (.ins C dx fs) from hok a _ e)
  exact ⟨mA,⟨ob,n,ne⟩,r,q,z,d⟩
end
structure Cls (K : PySem.W.Frag) (C : Addr) : Prop where
  pg : PySem.W.plainGet K C Str.empty=true
  hd : PySem.W.hasDictIn K C=true
  po : PySem.W.plainOver K C=true
  sa : PySem.W.findIn K (.ref C) "__setattr__" = some (some (.builtin "object.__setattr__"))
theorem Cls.get {K : PySem.W.Frag} {C : Addr} (c : Cls K C) (f : Str) : PySem.W.plainGet K C f=true:=c.pg
section
variable {X : Cx} {pins : List (Addr×Obj)} {σ : St} {H : Hp} {s : Shared} {a C dx : Addr} {fs : List (Str×V)} {f : Str} {v : V} {A : Around} {E : Value→Shared→Prop}
end
section
variable {X : Cx} {o e value : Expr} {f : Str} {pos pos' tpos : Pos} {ta tv : TE}
end
section
variable {X : Cx} {pins : List (Addr×Obj)} {σ : St} {H : Hp} {s : Shared} {A : Around} {E : Value→Shared→Prop} {Q : Value→Shared→Prop} {c : Value} {b : Bool}
inductive TyOf (K : PySem.W.Frag) (H : Hp) : V→Value→Prop where
  | non : TyOf K H .non (.type "NoneType")
  | bl (x : Bool) : TyOf K H (.bl x) (.type "bool")
  | int (i : Int) : TyOf K H (.int i) (.type "int")
  | str (x : Str) : TyOf K H (.str x) (.type "str")
  | flt (x : UInt64) : TyOf K H (.flt x) (.type "float")
  | lst {a : Addr} {xs : List V} (e : H a=some (.lst xs)) : TyOf K H (.ref a) (.type "list")
  | frz {a : Addr} {o : Obj} {xs : List V} (e : H a=some (.frz o (.lst xs))) : TyOf K H (.ref a) (.type "list")
  | tup {a : Addr} {xs : List V} (e : H a=some (.tup xs)) : TyOf K H (.ref a) (.type "tuple")
  | dK {a : Addr} {kvs : List (Key×V)} (e : H a=some (.dK kvs)) : TyOf K H (.ref a) (.type "dict")
  | dT {a : Addr} {kvs : List (List Key×V)} (e : H a=some (.dT kvs)) : TyOf K H (.ref a) (.type "dict")
  | ins {a C dx : Addr} {fs : List (Str×V)} (e : H a=some (.ins C dx fs)) (cl : Cls K C) (ha : PySem.W.findIn K (.ref C) "__class__" = some (some (.builtin "object.__class__")))
      (hn : PySem.W.specialIn K (.builtin "object.__class__") "__get__" = some (some (.builtin "getset_descriptor.__get__"))) (htk : PySem.W.takesIn K (.builtin "object.__class__")=some true)
      (hm : PySem.W.mroIn K C (.type "object")=some true) : TyOf K H (.ref a) (.ref C)
theorem isinst_ok {x : V} {u t : Value} (I : Inv X pins σ H s) (rx : RelV x u) (ty : TyOf X.K H x t) (e : PySem.W.kitOne X.K t c=some b) (h : ∀ tk,Q (.bool b) { s with toks:=tk }) :
    wpAny (model X.prog X.w) A (call (.builtin "isinstance") [u,c]) Q E s:=by
  cases ty with
  | non=>cases (show u=Value.none from rx); exact PySem.W.kia_one PySem.W.kitx_none I.kIn True.intro e (fun z=>nomatch z) h
  | bl y=>cases (show u=Value.bool y from rx); exact PySem.W.kia_one PySem.W.kitx_bool I.kIn True.intro e (fun z=>nomatch z) h
  | int i=>obtain ⟨t,q⟩:=(show ∃ t,u=Value.int i t from rx); cases q; exact PySem.W.kia_one PySem.W.kitx_int I.kIn True.intro e (fun z=>nomatch z) h
  | str y=>obtain ⟨t,q⟩:=(show ∃ t,u=Value.str y t from rx); cases q; exact PySem.W.kia_one PySem.W.kitx_str I.kIn True.intro e (fun z=>nomatch z) h
  | flt y=>obtain ⟨t,q⟩:=(show ∃ t,u=Value.float y t from rx); cases q; exact PySem.W.kia_one PySem.W.kitx_float I.kIn True.intro e (fun z=>nomatch z) h
  | @lst a xs ea=>
    cases (show u=Value.ref a from rx)
    obtain ⟨_,_,n,_,h1⟩:=(show ObjOk X.prog X.w H s.heap a (.lst xs) from I.hok a _ ea)
    exact PySem.W.kia_one PySem.W.kitx_list I.kIn ⟨_,h1,rfl⟩ e (fun z=>nomatch z) h
  | @frz a ob xs ea=>
    cases (show u=Value.ref a from rx)
    obtain ⟨_,_,_,n,_,h1⟩:=(show ObjOk X.prog X.w H s.heap a (.frz ob (.lst xs)) from I.hok a _ ea)
    exact PySem.W.kia_one PySem.W.kitx_list I.kIn ⟨_,h1,rfl⟩ e (fun z=>nomatch z) h
  | @tup a xs ea=>
    cases (show u=Value.ref a from rx)
    obtain ⟨_,_,_,p⟩:=(show ObjOk X.prog X.w H s.heap a (.tup xs) from I.hok a _ ea)
    obtain ⟨o,h1,h2,_⟩:=p
    exact PySem.W.kia_one PySem.W.kitx_tuple I.kIn ⟨o,h1,h2⟩ e (fun z=>nomatch z) h
  | @dK a kvs ea=>
    cases (show u=Value.ref a from rx)
    obtain ⟨_,_,vs,_,p⟩:=(show ObjOk X.prog X.w H s.heap a (.dK kvs) from I.hok a _ ea)
    obtain ⟨o,es,ep,h1,h2,_⟩:=p
    exact PySem.W.kia_one PySem.W.kitx_dict I.kIn ⟨o,h1,h2.1⟩ e (fun z=>nomatch z) h
  | @dT a kvs ea=>
    cases (show u=Value.ref a from rx)
    obtain ⟨_,_,xs,_,o,es,ep,h1,h2,_⟩:=(show ObjOk X.prog X.w H s.heap a (.dT kvs) from I.hok a _ ea)
    exact PySem.W.kia_one PySem.W.kitx_dict I.kIn ⟨o,h1,h2.1⟩ e (fun z=>nomatch z) h
  | @ins a C dx fs ea cl ha hn htk hm=>
    cases (show u=Value.ref a from rx)
    obtain ⟨mA,O,_⟩:=ins_get I.hok ea
    obtain ⟨od,J,_⟩:=O.look
    exact PySem.W.kia_one (PySem.W.kitx_own (cl.get _) cl.hd ha hn htk hm) I.kIn J e (fun z=>nomatch z) h
end
end L2
namespace L2
open PySem PySem.Spec PyProof.Rows
structure Room (k : Nat) (A : Around) : Prop where
  hd : A.handled=none
  dp : A.depth + 3 * k + 5 < recursionLimit
  un : A.units + 16 * k + 200 < cLine
theorem Room.mono {j k : Nat} {A : Around} (r : Room k A) (h : j≤k) : Room j A:=⟨r.hd,by have:=r.dp; omega,by have:=r.un; omega⟩
theorem Room.deeper {k : Nat} {A : Around} (r : Room (k + 1) A) (env : Env) : Room k (A.deeper env):=
  ⟨r.hd,by have:=r.dp; show A.depth + 1 + 3 * k + 5 < _; omega,by have:=r.un; show A.units + 3 + 16 * k + 200 < _; omega⟩
theorem Room.depth {k : Nat} {A : Around} (r : Room k A) : A.depth < recursionLimit:=by have:=r.dp; omega
theorem Room.units {k : Nat} {A : Around} (r : Room k A) : A.units + 64 < cLine:=by have:=r.un; omega
def tNil : TA:=fun _ H Q=>Q [] H
def tCons (ta : TE) (tr : TA) : TA:=fun σ H Q=>ta σ H fun x H1=>tr σ H1 fun xs H2=>Q (x :: xs) H2
section
variable {X : Cx} {e : Expr} {es : List Expr} {te : TE} {t : TA} {pos : Pos}
theorem pa_nil : PA X [] tNil:=fun _ _ _ _ H Q I h=>Calls.spliced_nil ⟨[],H,I,.nil,h⟩
theorem pa_cons (ha : PE X e te) (hr : PA X es t) (hs : starEach (e :: es) X.env=(false,eval e X.env) :: starEach es X.env:=by rfl) : PA X (e :: es) (tCons te t):=by
  intro pos pins s σ H Q I h
  rw [hs]
  show wpAny _ _ (spliced ((false,eval e X.env) :: backTo pos (starEach es X.env))) _ _ s
  refine Calls.spliced_cons (thn (ha pins s σ H _ I h) fun u s1 ⟨x,H1,I1,r1,q1⟩=>?_)
  exact thn (hr pos pins s1 σ H1 _ I1 q1) fun us s2 ⟨xs,H2,I2,r2,q2⟩=>⟨x :: xs,H2,I2,.cons r1 r2,q2⟩
def tTup (t : TA) : TE:=fun σ H Q=>t σ H fun xs H1=>xs.length≤sizeLine∧∀ p,H1 p=none→Q (.ref p) (upd H1 p (.tup xs))
def tLst (t : TA) : TE:=fun σ H Q=>t σ H fun xs H1=>xs.length≤sizeLine∧∀ p,H1 p=none→Q (.ref p) (upd H1 p (.lst xs))
theorem pe_tup {x1} (h : PA X es t) : PE X (.Tuple es x1 pos) (tTup t):=by
  intro pins s σ H Q I hq
  refine wpAny_Tuple_spliced (thn (h pos pins s σ H _ I hq) fun us s1 ⟨xs,H1,I1,r,z,q⟩=>⟨by rw [← r.length]; exact z,?_⟩)
  have hf : H1 s1.heap.objs.size=none:=I1.hok.fresh (Nat.le_refl _)
  refine ⟨.ref s1.heap.objs.size,upd H1 s1.heap.objs.size (.tup xs),I1.laid (t':=s1.toks) (fun b u e=>Heap.get?_push_of_some _ e) (Nat.le_refl _) ?_,rfl,q _ hf⟩
  exact ⟨z,us,r,⟨_,Heap.get?_push_size _ rfl,rfl,_,rfl⟩⟩
theorem pe_lst (h : PA X es t) : PE X (.List es pos) (tLst t):=by
  intro pins s σ H Q I hq
  refine wpAny_List_spliced (thn (h pos pins s σ H _ I hq) fun us s1 ⟨xs,H1,I1,r,z,q⟩=>⟨by rw [← r.length]; exact z,?_⟩)
  have hf : H1 s1.heap.objs.size=none:=I1.hok.fresh (Nat.le_refl _)
  refine ⟨.ref s1.heap.objs.size,upd H1 s1.heap.objs.size (.lst xs),I1.laid (t':=s1.toks) (fun b u e=>Heap.get?_push_of_some _ e) (Nat.le_refl _) ?_,rfl,q _ hf⟩
  exact ⟨z,us,0,r,Heap.get?_push_size _ rfl⟩
end
abbrev Sp:=List V→Hp→VK→XK→Prop
abbrev CXT:=List Env→Hp→Shared→XK→Value→Shared→Prop
structure Env0 (P : Program) (w : World) (K : PySem.W.Frag) (mg : Str→Option Value) (base : Heap) (A : Around) (outer : List Env) (s : Shared) (H : Hp) : Prop where
  frames : A.frames=some outer
  mod : Mod K mg base
  bs : ∀ b o,base.get? b=some o→s.heap.get? b=some o∧H b=none
  bsz : base.objs.size≤s.heap.objs.size
  funs : s.heap.FunFrames base outer
  frf : ∀ b∈frs outer,H b=none
  hok : HOk P w H s.heap
  bare : AllBare s.gens
def CE (outer : List Env) (P : Program) (w : World) (H : Hp) (s : Shared) (Q : VK) (u : Value) (s' : Shared) : Prop:=
  ∃ v H',s'.os=s.os∧AllBare s'.gens∧Un (frs outer) [] H H' s.heap s'.heap∧HOk P w H' s'.heap∧RelV v u∧Q v H'
def CR (CX : CXT) (outer : List Env) (P : Program) (w : World) (H : Hp) (s : Shared) (Q : VK) (E : XK) (r : Result) (s' : Shared) : Prop:=
  match r with
  | .ok (.ret u)=>CE outer P w H s Q u s'
  | .ok _=>False
  | .error e=>CX outer H s E e s'
structure FnOk (P : Program) (w : World) (K : PySem.W.Frag) (mg : Str→Option Value) (base : Heap) (CX : CXT) (k : Nat) (f : Addr) (fd : FuncData) (ps : List Str) (sp : Sp) : Prop where
  len : ∀ vs H Q E,sp vs H Q E→vs.length=ps.length
  run : ∀ (A : Around) (outer : List Env) (s : Shared) (H : Hp) (args : Args) (us : List Value) (vs : List V) (Q : VK) (E : XK),Room k A→Env0 P w K mg base A outer s H→BindsTo s fd args (ps.zip us)→Vals vs us→sp vs H Q E→
    codeAny (model P w) A (.call (.ref f) args) (CR CX outer P w H s Q E) s
theorem FnOk.mono {P : Program} {w : World} {K : PySem.W.Frag} {mg : Str→Option Value} {base : Heap} {CX : CXT} {j k : Nat} {f : Addr} {fd : FuncData} {ps : List Str} {sp : Sp} (F : FnOk P w K mg base CX j f fd ps sp) (h : j≤k) :
    FnOk P w K mg base CX k f fd ps sp:=⟨F.len,fun A outer s H args us vs Q E hr=>F.run A outer s H args us vs Q E (hr.mono h)⟩
section
variable {X : Cx} {pins : List (Addr×Obj)} {σ : St} {H : Hp} {s s' : Shared}
theorem Inv.env0 (I : Inv X pins σ H s) : Env0 X.prog X.w X.K X.mg X.base X.A X.stack s H:=
  ⟨I.ok.frames,I.ok.mod,I.bs,Nat.le_trans I.ok.bsz I.sz,I.stack,I.stkFree,I.hok,I.bare⟩
theorem Inv.after {Q : VK} {u : Value} (I : Inv X pins σ H s) (h : CE X.stack X.prog X.w H s Q u s') : EP X pins σ Q u s':=by
  obtain ⟨v,H',os,bare,un,hok,r,q⟩:=h
  obtain ⟨hh,g,d,t,os'⟩:=s'
  obtain rfl : os' = s.os:=os
  exact ⟨v,H',I.call (h':=hh) (g':=g) (d':=d) (t':=t) (ch:=[]) un hok bare (fun b z=>absurd z (by simp)),r,q⟩
end
def tCall (sp : Sp) (dvs : List V) (E : XK) (t : TA) : TE:=fun σ H Q=>t σ H fun vs H1=>sp (vs ++ dvs) H1 Q E
def Binds (K : PySem.W.Frag) (fd : FuncData) (ps : List Str) (ds : List Value) : Prop:=
  ∀ (s : Shared) (us : List Value),K.In s.heap→(us ++ ds).length=ps.length→BindsTo s fd ⟨us,[]⟩ (ps.zip (us ++ ds))
theorem Binds.all {K : PySem.W.Frag} {fd : FuncData} {ps : List Str} (h : ∀ us : List Value,us.length=ps.length→bindArgs fd ⟨us,[]⟩=pure (ps.zip us)) : Binds K fd ps []:=fun s us _ hl=>by
  rw [List.append_nil] at hl ⊢
  exact .of_eq (h us hl)
def Passes (CX : CXT) (X : Cx) (E : XK) : Prop:=∀ (pins : List (Addr×Obj)) (σ : St) (H : Hp) (s : Shared) (e : Value) (s' : Shared),Inv X pins σ H s→CX X.stack H s E e s'→X.xe e s'
section
variable {X : Cx} {CX : CXT} {k : Nat} {f C : Addr} {fd : FuncData} {ps : List Str} {sp : Sp} {dvs : List V} {ds : List Value} {E : XK} {x m : Str} {p pos apos : Pos} {e o : Expr} {es : List Expr} {ta : TE} {t : TA}
theorem run_fn {pins : List (Addr×Obj)} {σ : St} {H : Hp} {s : Shared} {Q : VK} {us : List Value} {vs : List V} (F : FnOk X.prog X.w X.K X.mg X.base CX k f fd ps sp) (hr : Room k X.A) (hb : Binds X.K fd ps ds) (hd : Vals dvs ds) (hx : Passes CX X E)
    (I : Inv X pins σ H s) (r : Vals vs us) (h : sp (vs ++ dvs) H Q E) : wpAny (model X.prog X.w) X.A (call (.ref f) us) (EP X pins σ Q) X.xe s:=by
  have r2 : Vals (vs ++ dvs) (us ++ ds):=r.append hd
  have hl : (us ++ ds).length=ps.length:=by rw [← r2.length]; exact F.len _ _ _ _ h
  refine wpAny_call (codeAny_mono (F.run X.A X.stack s H ⟨us,[]⟩ (us ++ ds) (vs ++ dvs) Q E hr I.env0 (hb s us I.kIn hl) r2 h) fun r s' hq=>?_)
  cases r with
  | error e=>exact hx pins σ H s e s' I hq
  | ok fl=>
    cases fl with
    | ret u=>exact I.after hq
    | next=>exact False.elim hq
    | brk=>exact False.elim hq
    | cont=>exact False.elim hq
theorem pe_call (F : FnOk X.prog X.w X.K X.mg X.base CX k f fd ps sp) (hr : Room k X.A) (hg : Gl X x) (hm : X.mg x=some (.ref f)) (hk : PySem.W.keepIn X.K (.ref f)=true) (hb : Binds X.K fd ps ds) (hd : Vals dvs ds) (hx : Passes CX X E)
    (ha : PA X (e :: es) t) (hdb : (x == ("__debug__" : Str))=false:=by decide) (he : starEach (e :: es) X.env=(false,eval e X.env) :: starEach es X.env:=by rfl) (hpl : (backTo pos (starEach es X.env)).any (·.1)=false:=by rfl) :
    PE X (.Call (.Name x p) (e :: es) [] pos) (tCall sp dvs E t):=by
  intro pins s σ H Q I h
  refine wpAny_Call_Name_kw (ld_glob I hg hm ?_ hdb)
  refine PySem.W.callWith_K (h₀:=X.base) I.ok.mod.kin hk (thn (ha pos pins s σ H _ I h) fun us s1 ⟨vs,H1,I1,r,q⟩=>⟨I1.kIn,?_⟩) he hpl
  exact run_fn F hr hb hd hx I1 r q
end
section
variable {X : Cx} {CX : CXT} {k : Nat} {f C : Addr} {fd : FuncData} {ps ks : List Str} {sp : Sp} {E : XK} {x m : Str} {p pos apos kpos : Pos} {e o : Expr} {es : List Expr} {kws : List Keyword} {te ta : TE} {t tk : TA} {nm : Option Str}
variable {g : List Value→List Value→List Value} {gV : List V→List V→List V}
end
structure FnScope (N P : List Str) (sc : Scope) : Prop where
  kind : sc.kind = .function
  co : sc.isCoroutine=false
  gen : sc.isGenerator=false
  nd : N.Nodup
  pre : N.take P.length=P
  par : ∀ x∈P,sc.names.lookup x=some .local∨sc.names.lookup x=some .cell
  nofree : ∀ y∈sc.names,y.2≠.free
theorem bindL_out {kindOf : Str→Option NameKind} {x : Str} : ∀ {binds : List (Str×Value)} {m : Str→Option Value},(∀ v,(x,v) ∉ binds)→bindL kindOf binds m x=m x
  | [],_,_=>rfl
  | (n,v) :: r,m,h=>by
    unfold bindL
    rw [bindL_out fun w hw=>h w (List.mem_cons_of_mem _ hw)]
    split
    · have : x≠n:=by rintro rfl; exact h v List.mem_cons_self
      simp [this]
    · rfl
theorem bindC_out {kindOf : Str→Option NameKind} {x : Str} : ∀ {binds : List (Str×Value)} {m : Str→Option Value},(∀ v,(x,v) ∉ binds)→bindC kindOf binds m x=m x
  | [],_,_=>rfl
  | (n,v) :: r,m,h=>by
    unfold bindC
    rw [bindC_out fun w hw=>h w (List.mem_cons_of_mem _ hw)]
    split
    · rfl
    · have : x≠n:=by rintro rfl; exact h v List.mem_cons_self
      simp [this]
theorem bindL_get {kindOf : Str→Option NameKind} {x : Str} {v : Value} : ∀ {P : List Str} {vs : List Value} {i : Nat} {m : Str→Option Value},P.Nodup→P[i]? = some x→vs[i]? = some v→kindOf x=some .local→
    bindL kindOf (P.zip vs) m x=some v
  | [],_,_,_,_,h,_,_=>by simp at h
  | _ :: _,[],_,_,_,_,h,_=>by simp at h
  | p :: P,w :: vs,0,m,nd,h1,h2,hk=>by
    simp at h1 h2; subst h1; subst h2
    show bindL kindOf ((p,w) :: P.zip vs) m p=_
    unfold bindL
    rw [bindL_out fun v hv=>(List.nodup_cons.mp nd).1 (List.of_mem_zip hv).1,if_pos hk]
    simp
  | p :: P,w :: vs,i + 1,m,nd,h1,h2,hk=>by
    show bindL kindOf ((p,w) :: P.zip vs) m x=_
    unfold bindL
    exact bindL_get (i:=i) (List.nodup_cons.mp nd).2 (by simpa using h1) (by simpa using h2) hk
theorem bindC_get {kindOf : Str→Option NameKind} {x : Str} {v : Value} : ∀ {P : List Str} {vs : List Value} {i : Nat} {m : Str→Option Value},P.Nodup→P[i]? = some x→vs[i]? = some v→kindOf x≠some .local→
    bindC kindOf (P.zip vs) m x=some v
  | [],_,_,_,_,h,_,_=>by simp at h
  | _ :: _,[],_,_,_,_,h,_=>by simp at h
  | p :: P,w :: vs,0,m,nd,h1,h2,hk=>by
    simp at h1 h2; subst h1; subst h2
    show bindC kindOf ((p,w) :: P.zip vs) m p=_
    unfold bindC
    rw [bindC_out fun v hv=>(List.nodup_cons.mp nd).1 (List.of_mem_zip hv).1,if_neg hk]
    simp
  | p :: P,w :: vs,i + 1,m,nd,h1,h2,hk=>by
    show bindC kindOf ((p,w) :: P.zip vs) m x=_
    unfold bindC
    exact bindC_get (i:=i) (List.nodup_cons.mp nd).2 (by simpa using h1) (by simpa using h2) hk
def start (N : List Str) (vs : List V) : St:=vs.map some ++ List.replicate (N.length - vs.length) none
def cxOf (CX : CXT) (P : Program) (w : World) (K : PySem.W.Frag) (mg : Str→Option Value) (base : Heap) (N : List Str) (qual : Str) (scope : Scope) (f : Addr) (cd : Value) (A : Around) (outer : List Env) (s : Shared) (H : Hp) (E : XK) : Cx where
  prog:=P
  w:=w
  K:=K
  mg:=mg
  base:=base
  A:=A.deeper (envOfC qual scope s.heap.objs.size f cd)
  N:=N
  s₀:=s
  H₀:=H
  env:=envOfC qual scope s.heap.objs.size f cd
  outer:=outer
  stack:=envOfC qual scope s.heap.objs.size f cd :: outer
  ex:=[]
  calm:=true
  fn:=fun _=>true
  pn:=[]
  xe:=fun e s'=>wpAny (model P w) (A.deeper (envOfC qual scope s.heap.objs.size f cd)) (leaving (envOfC qual scope s.heap.objs.size f cd) e) (fun _ s''=>CX outer H s E e s'') (fun e' s''=>CX outer H s E e' s'') s'
theorem cell_has {sc : Scope} {n : Nat} {x : Str} (h : sc.names.lookup x=some .cell) : ∃ c,(cellsFrom n sc.names []).lookup x=some c:=by
  have q:=PySem.W.cellsFrom_some sc.names n [] (.inl h)
  exact Option.isSome_iff_exists.mp q
theorem inv_start {CX : CXT} {P : Program} {w : World} {K : PySem.W.Frag} {mg : Str→Option Value} {base : Heap} {N ps : List Str} {qual : Str} {scope : Scope} {f : Addr} {cd : Value} {A : Around} {outer : List Env} {s s1 : Shared} {H : Hp} {E : XK} {us : List Value} {vs : List V}
    (S : FnScope N ps scope) (hd : A.handled=none) (e0 : Env0 P w K mg base A outer s H) (hl : vs.length=ps.length) (r : Vals vs us)
    (x : InCallC s s.heap.objs.size (bindL (envOfC qual scope s.heap.objs.size f cd).kindOf (ps.zip us) fun _=>none) (cellsFrom (s.heap.objs.size + 1) scope.names []) (bindC (envOfC qual scope s.heap.objs.size f cd).kindOf (ps.zip us) fun _=>none) s1) :
    Inv (cxOf CX P w K mg base N qual scope f cd A outer s H E) [] (start N vs) H s1:=by
  have hpl : ps.length≤N.length:=by have:=congrArg List.length S.pre; rw [List.length_take] at this; omega
  obtain ⟨h1,tk,rfl,hk⟩:=x.done
  have noA : ∀ b : Addr,b ∉ (cxOf CX P w K mg base N qual scope f cd A outer s H E).ex:=fun b z=>absurd (show b∈([] : List Addr) from z) (by simp)
  refine ⟨⟨e0.mod,S.kind,rfl,rfl,Nat.le_refl _,fun y z c h1 h2=>?_,fun y hy=>?_,fun y c _ h=>?_,fun _=>hd,Around.frames_deeper e0.frames,.inr ⟨rfl,rfl⟩,fun b z=>absurd z (noA b),e0.bs,e0.bsz,fun b _ _=>noA b,fun b z=>absurd z (noA b),e0.funs,e0.frf⟩,
    rfl,e0.bare,Un.kept hk,⟨_,x.toInCall.ns,fun i y v h1 h2 h3=>?_⟩,fun y c h=>⟨_,x.cell y c h⟩,e0.hok.fresh (Nat.le_refl _),fun y c h=>?_,fun p hp=>absurd (show p∈([] : List (Addr×Obj)) from hp) (by simp),e0.hok.kept hk,?_⟩
  · exact name_of_addr x.apart (PySem.mem_of_lookup h1) (PySem.mem_of_lookup h2)
  · have hy : scope.names.lookup y=some .cell∨scope.names.lookup y=some .free:=hy
    rcases hy with hy | hy
    · exact cell_has hy
    · exact absurd rfl (S.nofree _ (PySem.mem_of_lookup hy))
  · exact Nat.le_of_lt (x.above y c (PySem.mem_of_lookup h))
  · have hi : i < vs.length:=by
      unfold start at h2
      by_cases hi : i < vs.length
      · exact hi
      · rw [List.getElem?_append_right (by simpa using hi)] at h2
        rw [List.getElem?_replicate] at h2
        split at h2 <;> cases h2
    have ha : vs[i]? = some v:=by
      unfold start at h2
      rw [List.getElem?_append_left (by simpa using hi),List.getElem?_map] at h2
      cases e : vs[i]? with
      | none=>rw [e] at h2; cases h2
      | some a=>rw [e] at h2; cases h2; rfl
    obtain ⟨u,hu,rv⟩:=r.get ha
    have hp : ps[i]? = some y:=by
      rw [← S.pre,List.getElem?_take_of_lt (by omega)]; exact h1
    have ndP : ps.Nodup:=by rw [← S.pre]; exact S.nd.sublist (List.take_sublist _ _)
    refine ⟨u,rv,?_⟩
    rcases S.par y (List.mem_of_getElem? hp) with k | k
    · exact .inl ⟨k,bindL_get ndP hp hu k⟩
    · obtain ⟨c,e⟩:=cell_has (n:=s.heap.objs.size + 1) k
      refine .inr ⟨.inl k,c,e,?_⟩
      have q:=x.cell y c e
      rw [bindC_get ndP hp hu (by show scope.names.lookup y≠_; rw [k]; decide)] at q
      exact q
  · exact e0.hok.fresh (Nat.le_of_lt (x.above y c (PySem.mem_of_lookup h)))
  · unfold start
    show _=N.length
    rw [List.length_append,List.length_map,List.length_replicate]
    omega
theorem fn_of {CX : CXT} {P : Program} {w : World} {K : PySem.W.Frag} {mg : Str→Option Value} {base : Heap} {k : Nat} {f : Addr} {name qual : Str} {params : Arguments} {body : List Stmt} {scope : Scope} {dV kV doc pm cdv ct oc : Value} {an od : Option Addr}
    {osl : Array (Option Value)} {N ps : List Str} {sp : Sp} (lk : K.lookup f=some ⟨oc,od,.func (PySem.W.fnOf name qual params body scope dV kV doc pm an cdv ct),osl⟩) (hcd : PySem.W.codeIn K cdv qual=true) (S : FnScope N ps scope)
    (len : ∀ vs H Q E,sp vs H Q E→vs.length=ps.length)
    (hbody : ∀ (A : Around) (outer : List Env) (s : Shared) (H : Hp) (vs : List V) (Q : VK) (E : XK),Room k (A.deeper (envOfC qual scope s.heap.objs.size f cdv))→sp vs H Q E→
      ∃ t,PSs (cxOf CX P w K mg base N qual scope f cdv A outer s H E) body t∧t { nx:=fun _ H'=>Q .non H',rt:=Q } (start N vs) H) :
    FnOk P w K mg base CX (k + 1) f (PySem.W.fnOf name qual params body scope dV kV doc pm an cdv ct) ps sp:=by
  refine ⟨len,fun A outer s H args us vs Q E hr e0 hb r hsp=>?_⟩
  have hl:=len _ _ _ _ hsp
  have KX : K.In s.heap:=e0.mod.kin.keeps fun b o e=>(e0.bs b o e).1
  have lim : s.heap.NoLimit:=e0.mod.nolimit.keeps fun b o e=>(e0.bs b o e).1
  have hkind : ∀ y∈ps.zip us,scope.names.lookup y.1=some .local∨(scope.names.lookup y.1=some .cell∧((cellsFrom (s.heap.objs.size + 1) scope.names []).lookup y.1).isSome=true):=fun ⟨n,v⟩ hy=>by
    rcases S.par n (List.of_mem_zip hy).1 with q | q
    · exact .inl q
    · exact .inr ⟨q,PySem.W.cellsFrom_some _ _ _ (.inl q)⟩
  refine codeAny_call_function hr.depth (KX _ _ lk) rfl S.co S.gen rfl (PySem.W.codeRec_of KX hcd) (hb _ _ _ _ ?_)
  refine wpAny_newFunctionEnv_cells S.kind hkind fun env he s1 x=>?_
  subst he
  refine ⟨lim.keeps x.toInCall.keep,codeAny_func ?_⟩
  obtain ⟨t,ht,hq⟩:=hbody A outer s H vs Q E (hr.deeper _) hsp
  have I : Inv (cxOf CX P w K mg base N qual scope f cdv A outer s H E) [] (start N vs) H s1:=inv_start S hr.hd e0 hl r x
  refine wpAny_mono (ht [] s1 (start N vs) H _ I hq) (fun fl s' hs=>?_) fun e s' hs=>hs
  have fin : ∀ {σ' : St} {H' : Hp} {v : V} {u : Value},Inv (cxOf CX P w K mg base N qual scope f cdv A outer s H E) [] σ' H' s'→RelV v u→Q v H'→CE outer P w H s Q u s':=
    fun {σ' H' v u} J rv q=>⟨v,H',J.os,J.bare,J.base,J.hok,rv,q⟩
  cases fl with
  | ret u=>
    obtain ⟨v,σ',H',J,rv,q⟩:=hs
    exact fin J rv q
  | next=>
    obtain ⟨σ',H',J,q⟩:=hs
    exact fin (v:=V.non) (u:=Value.none) J rfl q
  | brk=>
    obtain ⟨_,_,_,q⟩:=hs
    exact False.elim q
  | cont=>
    obtain ⟨_,_,_,q⟩:=hs
    exact False.elim q
end L2
namespace L2
open PySem PySem.Spec PyProof.Rows
section
variable {X : Cx} {x : Str} {p pos : Pos} {e : Expr} {es : List Expr} {t : TA} {id T : String} {r : List V→Hp→VK→Prop}
def tCB (r : List V→Hp→VK→Prop) (t : TA) : TE:=fun σ H Q=>t σ H fun vs H1=>r vs H1 Q
theorem pe_callB (hc : CallR X (.builtin id) r) (hg : Gl X x) (hm : X.mg x=none) (hv : bootBuiltins x=some (.builtin id)) (ha : PA X (e :: es) t) (hn : x ≠ "__name__" := by decide) (hdb : (x == ("__debug__" : Str))=false:=by decide)
    (he : starEach (e :: es) X.env=(false,eval e X.env) :: starEach es X.env:=by rfl) (hpl : (backTo pos (starEach es X.env)).any (·.1)=false:=by rfl) : PE X (.Call (.Name x p) (e :: es) [] pos) (tCB r t):=by
  intro pins s σ H Q I h
  refine wpAny_Call_Name_kw (ld_blt I hg hm hv ?_ hn hdb)
  exact PyProof.Rows.callWith_builtin1 (thn (ha pos pins s σ H _ I h) fun us s1 ⟨vs,H1,I1,r1,q1⟩=>hc pins s1 σ H1 vs us Q I1 r1 q1) he hpl
theorem pe_callTy (hc : CallR X (.type T) r) (hg : Gl X x) (hm : X.mg x=none) (hv : bootBuiltins x=some (.type T)) (ha : PA X (e :: es) t) (hn : x ≠ "__name__" := by decide) (hdb : (x == ("__debug__" : Str))=false:=by decide)
    (he : starEach (e :: es) X.env=(false,eval e X.env) :: starEach es X.env:=by rfl) (hpl : (backTo pos (starEach es X.env)).any (·.1)=false:=by rfl) : PE X (.Call (.Name x p) (e :: es) [] pos) (tCB r t):=by
  intro pins s σ H Q I h
  refine wpAny_Call_Name_kw (ld_blt I hg hm hv ?_ hn hdb)
  exact PyProof.Rows.callWith_type1 (thn (ha pos pins s σ H _ I h) fun us s1 ⟨vs,H1,I1,r1,q1⟩=>hc pins s1 σ H1 vs us Q I1 r1 q1) he hpl
end
end L2
namespace HT
open PySem PyProof.Rows
def lexLt : List Int→List Int→Bool
  | [],[]=>false
  | [],_ :: _=>true
  | _ :: _,[]=>false
  | x :: xs,y :: ys=>if x=y then lexLt xs ys else decide (x < y)
theorem lexLt_cons (x y : Int) (xs ys : List Int) : lexLt (x :: xs) (y :: ys)=if x=y then lexLt xs ys else decide (x < y):=rfl
theorem lexLt_nil_nil : lexLt [] []=false:=rfl
theorem lexLt_nil_cons (y : Int) (ys : List Int) : lexLt [] (y :: ys)=true:=rfl
theorem lexLt_cons_nil (x : Int) (xs : List Int) : lexLt (x :: xs) []=false:=rfl
theorem eqAt_int (A : Around) (s : Shared) (a : Int) (t : Tok) (c : Int) (u : Tok) : ∃ e,SeqAt.EqAt A s (.int a t) (.int c u) e∧(e=true↔a=c):=
  ⟨(a == c),SeqAt.EqAt.int_int a t c u,by simp⟩
section
open PySem.SeqAt
open PySem.AutoSeq1 (wpAny_loadPart')
open PySem.MeetsSeq PySem.MeetsSeq2 PySem.MeetsSeq3
end
section
variable {prog : Program} {w : World} {A : Around} {E : Value→Shared→Prop} {s : Shared}
def sIx (n d : Nat) : Option Int→Nat
  | none=>d
  | some v=>if v < 0 then (v + (n : Int)).toNat else min v.toNat n
end
end HT
namespace L2
open PySem PySem.Spec PyProof.Rows
abbrev TO:=St→Hp→(Option Int→Hp→Prop)→Prop
def PO (X : Cx) (e : Option Expr) (t : TO) : Prop:=
  ∀ (pins : List (Addr×Obj)) (s : Shared) (σ : St) (H : Hp) (Q : Option Int→Hp→Prop),Inv X pins σ H s→t σ H Q→
    wpAny (model X.prog X.w) X.A (evalPart e X.env) (fun u s'=>∃ o H',Inv X pins σ H' s'∧IsPart u o∧Q o H') X.xe s
def tNoPart : TO:=fun _ H Q=>Q none H
def tPart (t : TE) : TO:=fun σ H Q=>t σ H fun x H1=>∃ i,x = .int i∧Q (some i) H1
section
variable {X : Cx} {e : Expr} {te : TE} {lo hi : Option Expr} {tl th : TO} {pos p2 : Pos}
theorem po_none : PO X none tNoPart:=by
  intro pins s σ H Q I h
  rw [evalPart_none]
  exact wpAny_pure ⟨none,H,I,.none,h⟩
theorem po_some (h : PE X e te) : PO X (some e) (tPart te):=by
  intro pins s σ H Q I hw
  rw [evalPart_some]
  refine thn (h pins s σ H _ I hw) fun u s1 ⟨x,H1,I1,r1,q1⟩=>?_
  obtain ⟨i,rfl,q⟩:=q1
  obtain ⟨t,rfl⟩:=r1
  exact ⟨some i,H1,I1,.int i t,q⟩
def SlR (X : Cx) (r : V→Option Int→Option Int→Hp→VK→Prop) : Prop:=
  ∀ (pins : List (Addr×Obj)) (s : Shared) (σ : St) (H : Hp) (x : V) (v vl vu : Value) (lo hi : Option Int) (sl : Addr) (Q : VK),Inv X pins σ H s→RelV x v→s.heap.IsSliceOf sl vl vu .none→IsPart vl lo→IsPart vu hi→r x lo hi H Q→
    ∃ T id,typeLookup (.type T) "__getitem__" = pure (some (.builtin id))∧s.TypeIs v T∧wpAny (model X.prog X.w) X.A (getItem v (.ref sl)) (EP X pins σ Q) X.xe s
def tSl (r : V→Option Int→Option Int→Hp→VK→Prop) (te : TE) (tl th : TO) : TE:=fun σ H Q=>te σ H fun x H1=>tl σ H1 fun l H2=>th σ H2 fun u H3=>r x l u H3 Q
theorem pe_slice {r : V→Option Int→Option Int→Hp→VK→Prop} (hr : SlR X r) (he : PE X e te) (hl : PO X lo tl) (hu : PO X hi th) : PE X (.Subscript e (.Slice lo hi none p2) pos) (tSl r te tl th):=by
  intro pins s σ H Q I h
  refine Subscript_ (thn (he pins s σ H _ I h) fun v s1 ⟨x,H1,I1,r1,q1⟩=>?_)
  refine wpAny_Slice (thn (hl pins s1 σ H1 _ I1 q1) fun vl s2 ⟨l,H2,I2,pl,q2⟩=>thn (hu pins s2 σ H2 _ I2 q2) fun vu s3 ⟨u,H3,I3,pu,q3⟩=>?_)
  rw [evalPart_none]
  refine wpAny_pure ?_
  have I4 : Inv X pins σ H3 { s3 with heap:=s3.heap.push { cls:=.type "slice",data:=.fields #[vl,vu,.none] } }:=I3.kept (t':=s3.toks) fun b ob q=>Heap.get?_push_of_some _ q
  obtain ⟨T,id,hT,ht,hg⟩:=hr pins { s3 with heap:=s3.heap.push { cls:=.type "slice",data:=.fields #[vl,vu,.none] } } σ H3 x v vl vu l u s3.heap.objs.size Q I4 r1 (Heap.IsSliceOf.new ..) pl pu q3
  show wpAny (model X.prog X.w) X.A (subscriptTail e (.Slice lo hi none p2) v (.ref s3.heap.objs.size)) (EP X pins σ Q) X.xe { s3 with heap:=s3.heap.push { cls:=.type "slice",data:=.fields #[vl,vu,.none] } }
  exact tail_any (ops:=[.ref s3.heap.objs.size,v]) ht hT hg (by with_unfolding_all rfl)
def cutV (xs : List V) (lo hi : Option Int) : List V:=(xs.drop (HT.sIx xs.length 0 lo)).take (HT.sIx xs.length xs.length hi - HT.sIx xs.length 0 lo)
theorem cutV_length (xs : List V) (lo hi : Option Int) : (cutV xs lo hi).length≤xs.length:=by
  unfold cutV
  rw [List.length_take,List.length_drop]
  omega
end
end L2
namespace L2
open PySem PySem.Spec PyProof.Rows
def ixN (n : Nat) (i : Int) : Option Nat:=if 0≤i then (if i < n then some i.toNat else none) else if -(n : Int)≤i then some (i + n).toNat else none
def atI {α : Type} (xs : List α) (i : Int) : Option α:=(ixN xs.length i).bind fun j=>xs[j]?
theorem ixN_seq {n : Nat} {i : Int} {j : Nat} (h : ixN n i=some j) : seqIndex? i n=some j∧j < n∧-(n : Int)≤i∧i < n:=by
  unfold ixN at h
  by_cases h0 : 0≤i
  · rw [if_pos h0] at h
    by_cases h1 : i < n
    · rw [if_pos h1] at h
      have e : i.toNat=j:=Option.some.inj h
      exact ⟨by rw [seqIndex_of h0 h1,e],by omega,by omega,h1⟩
    · rw [if_neg h1] at h; cases h
  · rw [if_neg h0] at h
    by_cases h1 : -(n : Int)≤i
    · rw [if_pos h1] at h
      have e : (i + n).toNat=j:=Option.some.inj h
      exact ⟨by rw [seqIndex_neg (by omega) h1,e],by omega,h1,by omega⟩
    · rw [if_neg h1] at h; cases h
theorem atI_get {α : Type} {xs : List α} {i : Int} {v : α} (h : atI xs i=some v) : ∃ j,seqIndex? i xs.length=some j∧xs[j]? = some v∧j < xs.length∧-(xs.length : Int)≤i∧i < xs.length:=by
  unfold atI at h
  cases e : ixN xs.length i with
  | none=>rw [e] at h; cases h
  | some j=>
    rw [e] at h
    obtain ⟨h1,h2,h3,h4⟩:=ixN_seq e
    exact ⟨j,h1,h,h2,h3,h4⟩
theorem atI_nat {α : Type} {xs : List α} {j : Nat} {v : α} (h : xs[j]? = some v) : atI xs (j : Int)=some v:=by
  have hj : j < xs.length:=(List.getElem?_eq_some_iff.mp h).1
  have e : ixN xs.length (j : Int)=some j:=by
    unfold ixN
    rw [if_pos (by omega),if_pos (by omega)]; simp
  unfold atI; rw [e]; exact h
def PlainIx (b : Expr) : Prop:=∀ o i,subscripted b false o i=operate [o,i] (getItem o i)
def IxR (X : Cx) (r : R2) : Prop:=
  ∀ (value slice : Expr) (pins : List (Addr×Obj)) (s : Shared) (σ : St) (H : Hp) (x y : V) (v u : Value) (Q : VK),Inv X pins σ H s→RelV x v→RelV y u→r x y H Q→
    subscripted slice false v u=operate [v,u] (getItem v u)→wpAny (model X.prog X.w) X.A (subscriptTail value slice v u) (EP X pins σ Q) X.xe s
def MtR (X : Cx) (id : String) (r : V→List V→Hp→VK→Prop) : Prop:=
  ∀ (pins : List (Addr×Obj)) (s : Shared) (σ : St) (H : Hp) (x : V) (xs : List V) (v : Value) (us : List Value) (Q : VK),Inv X pins σ H s→RelV x v→Vals xs us→r x xs H Q→
    wpAny (model X.prog X.w) X.A (call (.builtin id) (v :: us)) (EP X pins σ Q) X.xe s
section
variable {X : Cx} {a b : Expr} {ta tb : TE} {pos : Pos}
theorem pe_ix {r : R2} (hr : IxR X r) (ha : PE X a ta) (hb : PE X b tb) (hs : PlainIx b) : PE X (.Subscript a b pos) (tOp r ta tb):=by
  intro pins s σ H Q I h
  exact Subscript_ (binT ha hb I h fun v u s2 x y H2 I2 rx ry q=>hr a b pins s2 σ H2 x y v u Q I2 rx ry q (hs _ _))
def rIxL (K : PySem.W.Frag) : R2:=fun x y H Q=>∃ p xs i v,x = .ref p∧y = .int i∧SqL K H p xs∧atI xs i=some v∧Q v H
def rIxT (K : PySem.W.Frag) : R2:=fun x y H Q=>∃ p xs i v,x = .ref p∧y = .int i∧SqT K H p xs∧atI xs i=some v∧Q v H
theorem ix_list : IxR X (rIxL X.K):=by
  intro value slice pins s σ H x y v u Q I rx ry h hs
  obtain ⟨p,xs,i,z,rfl,rfl,hq,he,q⟩:=h
  cases rx
  obtain ⟨t,rfl⟩:=ry
  obtain ⟨its,r,pl,hz⟩:=I.list hq
  obtain ⟨j,h1,h2,h3,h4,h5⟩:=atI_get he
  obtain ⟨w,ew,rw'⟩:=r.get h2
  have hl:=r.length
  have hn:=line63
  have fin : EP X pins σ Q w s:=⟨z,H,I,rw',q⟩
  by_cases h0 : 0≤i
  · have hj : i.toNat=j:=by
      rw [seqIndex_of h0 h5] at h1
      exact Option.some.inj h1
    exact item_listR pl.isList h0 (by omega) (by rw [hj]; simpa using ew) fin hs
  · have hj : (i + (its.toArray.size : Int)).toNat=j:=by
      rw [seqIndex_neg (by omega) h4] at h1
      rw [List.size_toArray,← hl]
      exact Option.some.inj h1
    exact subscriptTail_builtinR (x:=w) pl.isList.typeIs slot_list_getitem.lookup
      (wpAny_getItem_list_neg (Q:=fun r s'=>r=w∧EP X pins σ Q r s') pl.isList (by omega) (by rw [List.size_toArray] <;> omega) (by omega) (by rw [hj]; simpa using ew) ⟨rfl,fin⟩) hs
theorem ix_tup : IxR X (rIxT X.K):=by
  intro value slice pins s σ H x y v u Q I rx ry h hs
  obtain ⟨p,xs,i,z,rfl,rfl,hq,he,q⟩:=h
  cases rx
  obtain ⟨t,rfl⟩:=ry
  obtain ⟨its,r,pl,hz⟩:=I.tuple hq
  obtain ⟨j,h1,h2,h3,h4,h5⟩:=atI_get he
  obtain ⟨w,ew,rw'⟩:=r.get h2
  have hl:=r.length
  have hn:=line63
  have fin : EP X pins σ Q w s:=⟨z,H,I,rw',q⟩
  exact subscriptTail_builtinR (x:=w) pl.typeIs slot_tuple_getitem.lookup
    (getItem_tuple (j:=j) (Q:=fun r s'=>r=w∧EP X pins σ Q r s') pl (by omega) (by omega) (by rw [List.size_toArray,← hl]; exact h1) (by simpa using ew) ⟨rfl,fin⟩) hs
theorem mapSeq_set (its : List Value) (n j : Nat) (u : Value) : Obj.mapSeq (·.setIfInBounds j u) { cls:=.type "list",data:=.seq its.toArray n } = { cls:=.type "list",data:=.seq (its.set j u).toArray n }:=by
  simp [Obj.mapSeq]
theorem Inv.lst {pins : List (Addr×Obj)} {σ : St} {H : Hp} {s : Shared} {p : Addr} {xs : List V} (I : Inv X pins σ H s) (h : H p=some (.lst xs)) :
    ∃ (its : List Value) (n : Nat),Vals xs its∧s.heap.get? p=some { cls:=.type "list",data:=.seq its.toArray n }∧xs.length≤sizeLine:=by
  obtain ⟨z,its,n,r,e⟩:=I.hok p _ h
  exact ⟨its,n,r,e,z⟩
theorem Inv.lstUpd {pins : List (Addr×Obj)} {σ : St} {H : Hp} {s : Shared} {p : Addr} {xs ys : List V} {its its' : List Value} {n n' : Nat} {f : Obj→Obj} (I : Inv X pins σ H s) (h : H p=some (.lst xs))
    (ho : s.heap.get? p=some { cls:=.type "list",data:=.seq its.toArray n }) (hf : f { cls:=.type "list",data:=.seq its.toArray n } = { cls:=.type "list",data:=.seq its'.toArray n' }) (r : Vals ys its') (hz : ys.length≤sizeLine) (t : Nat) :
    Inv X pins σ (upd H p (.lst ys)) { s with heap:=s.heap.update p f,toks:=t }:=by
  have e : (s.heap.update p f).get? p=some { cls:=.type "list",data:=.seq its'.toArray n' }:=by
    rw [Heap.get?_update_self f ho (by rw [hf] <;> rfl),hf]
  refine I.write (x:=p) (e:=p) (by rw [h]; trivial) (.inl rfl) (fun b u hb q=>(Heap.get?_update_other _ _ (Ne.symm hb)).trans q) ⟨_,e⟩ ?_
  exact ⟨hz,its',n',r,e⟩
def rSetL : V→V→V→Hp→(Hp→Prop)→Prop:=fun o i v H Q=>∃ p xs k j,o = .ref p∧i = .int k∧H p=some (.lst xs)∧ixN xs.length k=some j∧Q (upd H p (.lst (xs.set j v)))
theorem set_list : PSet X rSetL:=by
  intro pins s σ H o i v ov iv u Q I ro ri rv h
  obtain ⟨p,xs,k,j,rfl,rfl,hp,hj,q⟩:=h
  cases ro
  obtain ⟨t,rfl⟩:=ri
  obtain ⟨its,n,r,ho,hz⟩:=I.lst hp
  obtain ⟨h1,h2,h3,h4⟩:=ixN_seq hj
  have hl:=r.length
  have hn:=line63
  have I' : Inv X pins σ (upd H p (.lst (xs.set j v))) { s with heap:=s.heap.update p (Obj.mapSeq (·.setIfInBounds j u)) }:=
    I.lstUpd hp ho (mapSeq_set its n j u) (r.set rv j) (by rw [List.length_set]; exact hz) s.toks
  by_cases h0 : 0≤k
  · have hk : k.toNat=j:=by
      rw [seqIndex_of h0 h4] at h1
      exact Option.some.inj h1
    exact PySem.W.ki_setAt ho h0 (by omega) (by rw [List.size_toArray,← hl]; exact h4) (by rw [hk]; exact ⟨_,I',q⟩)
  · have hk : (k + (its.toArray.size : Int)).toNat=j:=by
      rw [seqIndex_neg (by omega) h3] at h1
      rw [List.size_toArray,← hl]
      exact Option.some.inj h1
    exact PySem.W.ki_setBack ho (by omega) (by rw [List.size_toArray,← hl]; exact h3) (by omega) (by rw [hk]; exact ⟨_,I',q⟩)
theorem slice_bounds (lo hi : Option Int) (n : Nat) : (sliceBounds lo hi none n).1=((HT.sIx n 0 lo : Nat) : Int)∧(sliceBounds lo hi none n).2.1=((HT.sIx n n hi : Nat) : Int)∧(sliceBounds lo hi none n).2.2=1:=by
  refine ⟨?_,?_,rfl⟩
  · cases lo with
    | none=>simp [sliceBounds,HT.sIx]
    | some i=>
      simp only [sliceBounds,HT.sIx,Option.getD_none,show (1 : Int) > 0 by decide,if_true]
      by_cases h : i < 0
      · simp only [h,if_true] <;> omega
      · simp only [h,if_false] <;> omega
  · cases hi with
    | none=>simp [sliceBounds,HT.sIx]
    | some i=>
      simp only [sliceBounds,HT.sIx,Option.getD_none,show (1 : Int) > 0 by decide,if_true]
      by_cases h : i < 0
      · simp only [h,if_true] <;> omega
      · simp only [h,if_false] <;> omega
theorem slicePick_cut (its : List Value) (lo hi : Option Int) : slicePick its.toArray lo hi none=((its.drop (HT.sIx its.length 0 lo)).take (HT.sIx its.length its.length hi - HT.sIx its.length 0 lo)).toArray:=by
  obtain ⟨h1,h2,h3⟩:=slice_bounds lo hi its.toArray.size
  unfold slicePick
  rw [h1,h2,h3]
  simp only [sliceRange_one,pick_run,List.size_toArray] <;> rfl
def rSlL (K : PySem.W.Frag) : V→Option Int→Option Int→Hp→VK→Prop:=fun x lo hi H Q=>∃ a xs,x = .ref a∧SqL K H a xs∧∀ p,H p=none→Q (.ref p) (upd H p (.lst (cutV xs lo hi)))
theorem sl_list : SlR X (rSlL X.K):=by
  intro pins s σ H x v vl vu lo hi sl Q I rx hs pl pu h
  obtain ⟨a,xs,rfl,hx,q⟩:=h
  cases rx
  obtain ⟨its,r,ht,hz⟩:=I.list hx
  have hlen:=r.length
  refine ⟨"list",_,slot_list_getitem.lookup,ht.isList.typeIs,?_⟩
  refine wpAny_getItem_list_slice ht.isList hs pl pu .none (by simp) ?_ (by rw [List.size_toArray] <;> omega)
  rw [slicePick_cut,← hlen]
  refine ⟨.ref s.heap.objs.size,_,I.laid (t':=s.toks) (o:=.lst (cutV xs lo hi)) (fun b ob q=>Heap.get?_push_of_some _ q) (Nat.le_refl _) ?_,rfl,q _ (I.hok.fresh (Nat.le_refl _))⟩
  exact ⟨Nat.le_trans (cutV_length xs lo hi) hz,_,0,(r.drop (HT.sIx xs.length 0 lo)).take (HT.sIx xs.length xs.length hi - HT.sIx xs.length 0 lo),Heap.get?_push_size _ rfl⟩
def flatV : V→Bool
  | .non=>true
  | .bl _=>true
  | .int _=>true
  | .str _=>true
  | _=>false
def eqV : V→V→Bool
  | .non,.non=>true
  | .bl a,.bl b=>a == b
  | .bl a,.int b=>(if a then 1 else 0) == b
  | .int a,.bl b=>a == (if b then 1 else 0)
  | .int a,.int b=>a == b
  | .str a,.str b=>a == b
  | _,_=>false
theorem eqAt_V {A : Around} {s : Shared} {y x : V} {u v : Value} (ry : RelV y u) (rx : RelV x v) (fy : flatV y=true) (fx : flatV x=true) : SeqAt.EqAt A s u v (eqV y x):=by
  cases y with
  | non=>
    cases ry
    cases x with
    | non=>cases rx; exact SeqAt.EqAt.same _
    | bl b=>cases rx; exact SeqAt.EqAt.none_bool b
    | int b=>obtain ⟨t,rfl⟩:=rx; exact SeqAt.EqAt.none_int b t
    | str b=>obtain ⟨t,rfl⟩:=rx; exact SeqAt.EqAt.none_str b t
    | _=>exact absurd (show false=true from fx) Bool.false_ne_true
  | bl a=>
    cases ry
    cases x with
    | non=>cases rx; exact SeqAt.EqAt.bool_none a
    | bl b=>cases rx; exact SeqAt.EqAt.bool_bool a b
    | int b=>obtain ⟨t,rfl⟩:=rx; exact SeqAt.EqAt.bool_int a b t
    | str b=>obtain ⟨t,rfl⟩:=rx; exact SeqAt.EqAt.bool_str a b t
    | _=>exact absurd (show false=true from fx) Bool.false_ne_true
  | int a=>
    obtain ⟨t',rfl⟩:=ry
    cases x with
    | non=>cases rx; exact SeqAt.EqAt.int_none a t'
    | bl b=>cases rx; exact SeqAt.EqAt.int_bool a t' b
    | int b=>obtain ⟨t,rfl⟩:=rx; exact SeqAt.EqAt.int_int a t' b t
    | str b=>obtain ⟨t,rfl⟩:=rx; exact SeqAt.EqAt.int_str a t' b t
    | _=>exact absurd (show false=true from fx) Bool.false_ne_true
  | str a=>
    obtain ⟨t',rfl⟩:=ry
    cases x with
    | non=>cases rx; exact SeqAt.EqAt.str_none a t'
    | bl b=>cases rx; exact SeqAt.EqAt.str_bool a t' b
    | int b=>obtain ⟨t,rfl⟩:=rx; exact SeqAt.EqAt.str_int a t' b t
    | str b=>obtain ⟨t,rfl⟩:=rx; exact SeqAt.EqAt.str_str a t' b t
    | _=>exact absurd (show false=true from fx) Bool.false_ne_true
  | _=>exact absurd (show false=true from fy) Bool.false_ne_true
theorem call_len_seq : CallR X (.builtin "len") (fun xs H Q=>∃ p ys,xs=[.ref p]∧(SqL X.K H p ys∨SqT X.K H p ys)∧Q (.int ys.length) H):=by
  intro pins s σ H xs us Q I r h
  obtain ⟨p,ys,rfl,hq,q⟩:=h
  obtain ⟨u,rfl,rx⟩:=vals1 r
  cases rx
  have hn:=line63
  rcases hq with hq | hq
  · obtain ⟨its,r',pl,hz⟩:=I.list hq
    have hlen:=r'.length
    exact Calls.call_len_list pl.isList (by simp only [List.size_toArray] <;> omega) ⟨.int ys.length,H,I.tok _,⟨s.toks + 1,by rw [List.size_toArray,hlen]⟩,q⟩
  · obtain ⟨its,r',pl,hz⟩:=I.tuple hq
    have hlen:=r'.length
    exact len_tuple pl (by simp only [List.size_toArray] <;> omega) ⟨.int ys.length,H,I.tok _,⟨s.toks + 1,by rw [List.size_toArray,hlen]⟩,q⟩
theorem call_list_of : CallR X (.type "list") (fun xs H Q=>∃ p ys,xs=[.ref p]∧(SqL X.K H p ys∨SqT X.K H p ys)∧∀ l,H l=none→Q (.ref l) (upd H l (.lst ys))):=by
  intro pins s σ H xs us Q I r h
  obtain ⟨p,ys,rfl,hq,q⟩:=h
  obtain ⟨u,rfl,rx⟩:=vals1 r
  cases rx
  have fin : ∀ (its : List Value),Vals ys its→ys.length≤sizeLine→∀ (h' : Heap) (c' : Nat),(∀ b o',s.heap.get? b=some o'→h'.get? b=some o')→
      h'.get? s.heap.objs.size=some { cls:=.type "list",dict:=none,data:=.seq its.toArray c',slots:=#[] }→EP X pins σ Q (.ref s.heap.objs.size) { s with heap:=h' }:=fun its r' hz h' c' kp e =>
    ⟨.ref s.heap.objs.size,_,I.laid (t':=s.toks) kp (Nat.le_refl _) (show ObjOk X.prog X.w _ h' _ (.lst ys) from ⟨hz,its,c',r',e⟩),rfl,q _ (I.hok.fresh (Nat.le_refl _))⟩
  rcases hq with hq | hq
  · obtain ⟨its,r',pl,hz⟩:=I.list hq
    have hlen:=r'.length
    obtain ⟨o,ho,hc,n,hd⟩:=pl.isList
    exact call_list_seq p (.inl rfl) ho hc hd (fun h' c' kp e=>fin its r' hz h' c' kp e) (by simp only [List.size_toArray] <;> omega)
  · obtain ⟨its,r',pl,hz⟩:=I.tuple hq
    have hlen:=r'.length
    obtain ⟨o,ho,hc,n,hd⟩:=pl
    exact call_list_seq p (.inr rfl) ho hc hd (fun h' c' kp e=>fin its r' hz h' c' kp e) (by simp only [List.size_toArray] <;> omega)
def tyV (K : PySem.W.Frag) (T : String) (x : V) (H : Hp) : Prop:=match x with
  | .str _=>T = "str"
  | .int _=>T = "int"
  | .ref p=>(T = "list" ∧ ∃ xs,SqL K H p xs)∨(T = "tuple" ∧ ∃ o,K.lookup p=some o∧o.cls = .type "tuple" ∧ o.dict=none) ∨
      (T = "dict" ∧ ((∃ kvs,H p=some (.dK kvs))∨∃ kvs,H p=some (.dT kvs)))∨(T = "set" ∧ ∃ S n,H p=some (.set S n))
  | _=>False
theorem tyV_is {pins : List (Addr×Obj)} {σ : St} {H : Hp} {s : Shared} {T : String} {x : V} {v : Value} (I : Inv X pins σ H s) (r : RelV x v) (ty : tyV X.K T x H) :
    s.TypeIs v T∧∀ a,v = .ref a→∃ ob,s.heap.get? a=some ob∧ob.dict=none:=by
  cases x with
  | str z=>
    obtain ⟨t,rfl⟩:=r
    cases (show T = "str" from ty)
    exact ⟨typeIs_str s z t,fun _ e=>nomatch e⟩
  | int i=>
    obtain ⟨t,rfl⟩:=r
    cases (show T = "int" from ty)
    exact ⟨typeIs_int s i t,fun _ e=>nomatch e⟩
  | ref p=>
    cases r
    rcases ty with ⟨rfl,xs,hq⟩ | ⟨rfl,o,hk,hc,hd⟩ | ⟨rfl,hk⟩ | ⟨rfl,S,n,hk⟩
    · obtain ⟨its,_,pl,_⟩:=I.list hq
      refine ⟨pl.isList.typeIs,fun a e=>?_⟩
      cases e
      obtain ⟨o,n,e,c,hd,_⟩:=pl
      exact ⟨o,e,hd⟩
    · refine ⟨⟨o,I.kIn p o hk,hc⟩,fun a e=>?_⟩
      cases e
      exact ⟨o,I.kIn _ o hk,hd⟩
    · have z : ∃ o,s.heap.get? p=some o∧o.ExactDict:=by
        rcases hk with ⟨kvs,hk⟩ | ⟨kvs,hk⟩
        · obtain ⟨_,_,_,_,o,_,_,e,ex,_⟩:=I.hok p _ hk
          exact ⟨o,e,ex⟩
        · obtain ⟨_,_,_,_,o,_,_,e,ex,_⟩:=I.hok p _ hk
          exact ⟨o,e,ex⟩
      obtain ⟨o,e,ex⟩:=z
      refine ⟨⟨o,e,ex.1⟩,fun a e2=>?_⟩
      cases e2
      exact ⟨o,e,ex.2.1⟩
    · obtain ⟨o,_,_,_,e,ex,_⟩:=I.hok p _ hk
      refine ⟨⟨o,e,ex.1⟩,fun a e2=>?_⟩
      cases e2
      exact ⟨o,e,ex.2.1⟩
  | _=>exact False.elim ty
def tBM (K : PySem.W.Frag) (T : String) (r : V→List V→Hp→VK→Prop) (to : TE) (t : TA) : TE:=fun σ H Q=>to σ H fun x H1=>tyV K T x H1∧t σ H1 fun xs H2=>r x xs H2 Q
variable {o e : Expr} {es : List Expr} {to : TE} {t : TA} {name : Str} {apos cpos : Pos} {T id : String} {r : V→List V→Hp→VK→Prop}
theorem pe_bm (pa : PlainAttrs T) (slot : Slot T name id) (hty : typeOf (.builtin id)=pure (.type "method_descriptor")) (hm : MtR X id r) (ho : PE X o to) (ha : PA X (e :: es) t)
    (hbase : attributeBase o name X.env (eval o X.env)=eval o X.env:=by rfl)
    (hfew : ((backTo cpos (starEach (e :: es) X.env)).all (fun x=>!x.1) && (backToKw cpos (keywordEach [] X.env)).all (fun x=>x.1.isSome)
      && decide ((e :: es).length + ([] : List Keyword).length + (if ([] : List Keyword).isEmpty then 0 else 1) < 30))=true:=by rfl)
    (hline : (apos.endLine == cpos.line)=true:=by rfl) (hs : starEach (e :: es) X.env=(false,eval e X.env) :: starEach es X.env:=by rfl) (hplain : (backTo cpos (starEach es X.env)).any (·.1)=false:=by rfl) :
    PE X (.Call (.Attribute o name apos) (e :: es) [] cpos) (tBM X.K T r to t):=by
  intro pins s σ H Q I h
  refine wpAny_Call_method_late hbase hfew hline rfl (thn (ho pins s σ H _ I h) fun v s1 ⟨x,H1,I1,r1,ty,q1⟩=>?_)
  obtain ⟨h1,h2⟩:=tyV_is I1 r1 ty
  refine ⟨T,id,pa,slot,hty,h1,h2,?_⟩
  have hA:=ha cpos pins s1 σ H1 _ I1 q1
  rw [hs] at hA ⊢
  refine Calls.callWith_builtin (by show (false || (backTo cpos (starEach es X.env)).any (·.1))=false; rw [hplain] <;> rfl) (Calls.evalArgs_plain ?_)
  exact thn hA fun us s2 ⟨vs,H2,I2,r2,q2⟩=>hm pins s2 σ H2 x vs v us Q I2 r1 r2 q2
end
end L2
namespace L2
open PySem PySem.Spec PyProof.Rows
def MtM (X : Cx) (id : String) (r : V→List V→Hp→VK→Prop) : Prop:=
  ∀ (pins : List (Addr×Obj)) (s : Shared) (σ : St) (H : Hp) (x : V) (xs : List V) (v : Value) (us : List Value) (Q : VK),Inv X pins σ H s→RelV x v→Vals xs us→r x xs H Q→
    wpAny (model X.prog X.w) X.A (call (.builtin id) (v :: us)) (EP X pins σ Q) X.xe s
theorem Vals.one : ∀ {x : V} {us : List Value},Vals [x] us→∃ u,us=[u]∧RelV x u
  | _,_,.cons r .nil=>⟨_,rfl,r⟩
theorem Vals.two : ∀ {x y : V} {us : List Value},Vals [x,y] us→∃ u v,us=[u,v]∧RelV x u∧RelV y v
  | _,_,_,.cons r (.cons q .nil)=>⟨_,_,rfl,r,q⟩
section
variable {X : Cx} {pins : List (Addr×Obj)} {σ : St} {H : Hp} {s : Shared} {l b : Addr} {xs ys zs : List V}
theorem Inv.lset {its its' : List Value} {n : Nat} {f : Array Value→Array Value} {t' : Nat} (I : Inv X pins σ H s) (hH : H l=some (.lst xs))
    (e : s.heap.get? l=some { cls:=.type "list",data:=.seq its.toArray n }) (hf : f its.toArray=its'.toArray) (hv : Vals ys its') (hz : ys.length≤sizeLine) :
    Inv X pins σ (upd H l (.lst ys)) { s with heap:=s.heap.update l (Obj.mapSeq f),toks:=t' }:=by
  have q:=PySem.IsL.update e f
  rw [hf] at q
  refine I.write (x:=l) (e:=l) (by rw [hH]; exact trivial) (.inl rfl) (fun b' u hb hu=>(Heap.get?_update_other s.heap (Obj.mapSeq f) (Ne.symm hb)).trans hu) ⟨_,q⟩ ?_
  exact ⟨hz,its',_,hv,q⟩
theorem Inv.lnew {its : List Value} {t' : Nat} (I : Inv X pins σ H s) (hv : Vals ys its) (hz : ys.length≤sizeLine) :
    Inv X pins σ (upd H s.heap.objs.size (.lst ys)) { s with heap:=s.heap.push { cls:=.type "list",data:=.seq its.toArray },toks:=t' } :=
  I.laid (fun _ _ q=>Heap.get?_push_of_some _ q) (Nat.le_refl _) ⟨hz,its,0,hv,Heap.get?_push_size _ rfl⟩
theorem Inv.fresh (I : Inv X pins σ H s) : H s.heap.objs.size=none:=I.hok.fresh (Nat.le_refl _)
theorem Inv.lstM (I : Inv X pins σ H s) (hH : H l=some (.lst xs)) : xs.length≤sizeLine∧∃ (its : List Value) (n : Nat),Vals xs its∧xs.length=its.length∧s.heap.get? l=some { cls:=.type "list",data:=.seq its.toArray n }:=by
  obtain ⟨z,its,n,r,e⟩:=I.hok l _ hH
  exact ⟨z,its,n,r,r.length,e⟩
end
section
variable {X : Cx}
def rAppend : V→List V→Hp→VK→Prop:=fun x vs H Q=>∃ l xs y,x = .ref l∧vs=[y]∧H l=some (.lst xs)∧xs.length < sizeLine∧Q .non (upd H l (.lst (xs ++ [y])))
theorem mt_append : MtM X "list.append" rAppend:=by
  intro pins s σ H x vs v us Q I rx rv h
  obtain ⟨l,xs,y,rfl,rfl,hH,hz,q⟩:=h
  cases rx
  obtain ⟨u,rfl,ru⟩:=rv.one
  obtain ⟨z,its,n,r,hl,e⟩:=I.lstM hH
  refine call_meets F.slot_list_append ⟨_,e,rfl⟩ F.entry_list_append (F.args_list_append_2 _ _) (PySem.list_append l its.toArray n u (by rw [List.size_toArray]; omega)) ⟨e,?_⟩
  refine ⟨.non,_,I.lset (its':=its ++ [u]) hH e (by simp) (r.append (.cons ru .nil)) ?_,rfl,q⟩
  rw [List.length_append,List.length_singleton]
  omega
def rCat : R2:=fun x y H Q=>∃ l b xs zs,x = .ref l∧y = .ref b∧H l=some (.lst xs)∧H b=some (.lst zs)∧xs.length + zs.length≤sizeLine∧∀ p,H p=none→Q (.ref p) (upd H p (.lst (xs ++ zs)))
theorem op_cat : OpR X (binaryOp .Add) rCat:=by
  intro pins s σ H x y v u Q I rx ry h
  obtain ⟨l,b,xs,zs,rfl,rfl,hH,hB,hz,q⟩:=h
  cases rx
  cases ry
  obtain ⟨z,its,n,r,hl,e⟩:=I.lstM hH
  obtain ⟨z2,its2,n2,r2,hl2,e2⟩:=I.lstM hB
  refine PySem.P.add_list e e2 ?_ (by rw [List.size_toArray,List.size_toArray]; omega)
  have ea : its.toArray ++ its2.toArray=(its ++ its2).toArray:=by simp
  rw [ea]
  exact ⟨.ref _,_,I.lnew (t':=s.toks) (r.append r2) (by rw [List.length_append]; omega),rfl,q _ I.fresh⟩
end
section
variable {prog : Program} {w : World} {A : Around} {E : Value→Shared→Prop} {s : Shared}
end
section
variable {X : Cx}
end
end L2
namespace Att
open PySem PySem.W PySem.Calls PyProof.Rows
theorem ints_of_wellAll {P : Params} {h : Heap} : ∀ (ns : List Int) (vs : List Value),WellAll P h vs (ns.map WData.int)→IntsAre vs ns:=by
  intro ns
  induction ns with
  | nil=>
    intro vs w
    rw [List.map_nil] at w
    cases w
    exact .nil
  | cons n ns ih=>
    intro vs w
    rw [List.map_cons] at w
    cases w with
    | cons a b=>
      cases a
      exact .cons _ _ (ih _ b)
theorem script_of {l : OpenLaw} {n : Nat} (hn : l.most=some n) {P : Params} {h : Heap} {args : List WData} {vals : List Value}
    (hpre : l.row.toRowW.claim.pre args=true) (hwl : WellAll P h vals args) :
    ∃ a vs ns,vals=[Value.ref a]∧args=[WData.list (ns.map WData.int)]∧h.get? a=some { cls:=.type "list",data:=.seq vs.toArray }∧IntsAre vs ns∧ns.length≤n:=by
  have hsh : WShape.hasAll [] args [.list .int]=true:=(pre_splitW hpre).1
  have hc : l.pre.holds [] { args:=args } = true:=(pre_splitW hpre).2
  obtain ⟨d,r,rfl,h1,h2⟩:=hasAllW_cons hsh
  obtain rfl:=hasAllW_nil h2
  obtain ⟨xs,rfl,h3⟩:=hasW_list h1
  obtain ⟨ns,rfl⟩:=items_int h3
  have hlen : ns.length≤n:=by
    unfold OpenLaw.pre at hc
    have h4 : (WTm.not (.lt (.lit (.int (n : Int))) (.len (.arg 0)))).holds [] { args:=[.list (ns.map .int)] } = true:=by
      have h4:=(holds_andW hc).1
      rw [hn] at h4
      exact h4
    have h5:=condW_of h4 (w_not (w_lt w_lit (w_len_list (w_arg rfl))))
    rw [List.length_map] at h5
    refine Nat.le_of_not_lt fun q=>?_
    have q' : (n : Int) < ((ns.length : Nat) : Int):=by omega
    first
      | (rw [decide_eq_true q'] at h5; exact absurd h5 (by decide))
      | (simp at h5; omega)
  cases hwl with
  | cons w1 w2=>
    cases w2
    cases w1 with
    | list ho hall=>exact ⟨_,_,ns,rfl,rfl,ho,ints_of_wellAll ns _ hall,hlen⟩
theorem post_true (l : OpenLaw) (args : List WData) : l.row.toRowW.claim.post args (.bool true) args=true:=
  postW_of (r:=l.row.toRowW) (X:=(true == true))
    (show WShape.has [] (.bool true) .bool=true by first | rfl | decide | simp [WShape.has,WShape.arms,WShape.armsAll])
    (show (WTm.eq .res (.lit (.bool true))).value [] { args:=args,res:=some (.bool true),after:=args } = some (.bool (true == true)) from w_eq_bool (w_res rfl) w_lit) rfl
theorem attach_call {l : OpenLaw} {n : Nat} {q : Program} {loose : List Str} {XP : (Str→Option Value)→Heap→Prop} {YP : World→Heap→Prop} {d : DefRec}
    (hn : l.most=some n) (hdf : d.params.defaults=[])
    (call : ∀ (w : World) (s₀ s₁ : Shared) (mg mb : Str→Option Value) (fa : Addr) (o : Obj) (pm cd doc : Value) (a : Addr) (vs : List Value) (ns : List Int),
      Ground q loose [] XP w s₀ mg mb s₁.heap→YP w s₁.heap→
      s₁.heap.get? fa=some o→o.data = .func (docDef d.name d.params d.body d.scope pm cd doc)→s₁.heap.CodeRec cd d.name→mg d.name=some (.ref fa)→
      s₁.heap.get? a=some { cls:=.type "list",data:=.seq vs.toArray }→IntsAre vs ns→ns.length≤n→s₁.gens = #[] →
      codeAny (model l.prog w) callerA (.call (.ref fa) ⟨[.ref a],[]⟩) (fun r s'=>r = .ok (.ret (.bool true))∧OldK s₁.heap s'.heap∧s'.os=s₁.os∧AllBare s'.gens) s₁) :
    WalkO q loose XP YP l.row.toRowW d [] (fun f vs=>PySem.call f vs):=by
  intro w s₀ s₁ mg mb G Y fa o pm cd doc dV kV ho hd hcd hD hmg hg args vals as hpre hlay hrd hwl hlo
  obtain rfl : dV = .none:=Dflts.none hD hdf
  obtain rfl : kV = .none:=Dflts.noKw hD
  obtain ⟨a,vs,ns,rfl,rfl,hobj,hints,hlen⟩:=script_of hn hpre hwl
  refine enter_call (codeAny_mono (call w s₀ s₁ mg mb fa o pm cd doc a vs ns G Y ho (fd_plain hd) hcd hmg hobj hints hlen hg) fun r s' hq=>?_)
  obtain ⟨rfl,h2,h3,h4⟩:=hq
  exact ⟨.inl ⟨.bool true,.bool true,[],rfl,fun _=>rfl,.bool true,post_true l _,fun _=>⟨List.Pairwise.nil,fun _ hm=>(nomatch hm)⟩⟩,h2,h3,h4⟩
section
variable {prog : Program} {w : World} {A : Around} {E : Value→Shared→Prop} {s : Shared} {K : Frag}
end
end Att
namespace L2
open PySem PySem.Spec PyProof.Rows
theorem vals_ints : ∀ {vs : List Value} {ns : List Int},IntsAre vs ns→Vals (ns.map V.int) vs
  | _,_,.nil=>.nil
  | _,_,.cons n t h=>.cons ⟨t,rfl⟩ (vals_ints h)
def Only (H : Hp) : Prop:=∀ b,H b=none∨∃ o xs,H b=some (.frz o (.lst xs))
theorem law_call {P : Program} {w : World} {K : PySem.W.Frag} {mg mb : Str→Option Value} {CX : CXT} {k : Nat} {fa a : Addr} {fd : FuncData} {x : Str} {sp : Sp} {s₁ : Shared} {vs : List Value} {ns : List Int}
    (KX : K.In s₁.heap) (hns : s₁.heap.Ns mainGlobals mg) (hb : s₁.heap.Ns builtinsNs mb) (hbb : ∀ x : Str,x ≠ "__name__" → mb x=bootBuiltins x) (hlim : s₁.heap.NoLimit) (hg : s₁.gens = #[])
    (ha : s₁.heap.get? a=some { cls:=.type "list",data:=.seq vs.toArray }) (hi : IntsAre vs ns) (hl : ns.length≤sizeLine) (hr : Room k callerA)
    (F : ∀ base : Heap,K.In base→base.Ns mainGlobals mg→FnOk P w K mg base CX k fa fd [x] sp) (hbind : ∀ (s : Shared) (u : Value),BindsTo s fd ⟨[u],[]⟩ [(x,u)])
    (hsp : ∀ H : Hp,Only H→SqL K H a (ns.map V.int)→sp [.ref a] H (fun v _=>v = .bl true) fun _ _ _=>False)
    (hCX : ∀ H e s',CX [] H s₁ (fun _ _ _=>False) e s'→False) :
    codeAny (model P w) callerA (.call (.ref fa) ⟨[.ref a],[]⟩) (fun r s'=>r = .ok (.ret (.bool true))∧OldK s₁.heap s'.heap∧s'.os=s₁.os∧AllBare s'.gens) s₁:=by
  have rv:=vals_ints hi
  have lenV:=hi.length
  have core : ∀ H : Hp,Only H→SqL K H a (ns.map V.int)→HOk P w H s₁.heap→(∀ b,H b≠none→b=a)→(H a≠none→K.lookup a=none)→
      codeAny (model P w) callerA (.call (.ref fa) ⟨[.ref a],[]⟩) (fun r s'=>r = .ok (.ret (.bool true))∧OldK s₁.heap s'.heap∧s'.os=s₁.os∧AllBare s'.gens) s₁:=by
    intro H hO hS hok hA hK
    have base_of : ∀ {b : Addr} {o : Obj},s₁.heap.get? b=some o→H b=none→(hidT s₁.heap H).get? b=some o:=fun e n=>hidT_get e n
    have noA : ∀ {b : Addr} {o : Obj} {es : Array DictEntry} {ep : Nat},s₁.heap.get? b=some o→o.data = .dict es ep→H b=none:=fun {b o es ep} e d=>by
      cases q : H b with
      | none=>rfl
      | some u=>
        have e' : b=a:=hA b (by rw [q]; simp)
        subst e'
        rw [ha] at e; cases e
        have d' : Data.seq vs.toArray _=Data.dict es ep:=d
        cases d'
    have nsK : ∀ {b : Addr} {m : Str→Option Value},s₁.heap.Ns b m→(hidT s₁.heap H).Ns b m:=fun {b m} ⟨o,es,ep,e,d,r⟩=>⟨o,es,ep,base_of e (noA e d),d,r⟩
    have hKb : K.In (hidT s₁.heap H):=fun b o e=>base_of (KX b o e) (by
      cases q : H b with
      | none=>rfl
      | some u=>
        have e' : b=a:=hA b (by rw [q]; simp)
        subst e'
        rw [hK (by rw [q]; simp)] at e; cases e)
    have hM : Mod K mg (hidT s₁.heap H):=⟨hKb,nsK hns,⟨mb,nsK hb,hbb⟩,let ⟨mc,h1,h2⟩:=hlim; ⟨mc,nsK h1,h2⟩⟩
    have e0 : Env0 P w K mg (hidT s₁.heap H) callerA [] s₁ H:=⟨rfl,hM,fun b o e=>of_hidT e,Nat.le_of_eq (hidT_size _ _),trivial,fun b hb=>absurd (show b∈([] : List Addr) from hb) (by simp),hok,.of_eq hg⟩
    refine codeAny_mono ((F _ hKb (nsK hns)).run callerA [] s₁ H ⟨[.ref a],[]⟩ [.ref a] [.ref a] _ _ hr e0 (hbind s₁ (.ref a)) (.cons rfl .nil) (hsp H hO hS)) fun r s' h=>?_
    cases r with
    | error e=>exact (hCX H e s' h).elim
    | ok fl=>
      cases fl with
      | next=>exact False.elim h
      | brk=>exact False.elim h
      | cont=>exact False.elim h
      | ret u=>
        obtain ⟨v,H',os,bare,un,hok',r',q⟩:=h
        have q' : v = .bl true:=q
        subst q'
        obtain rfl : u=Value.bool true:=r'
        refine ⟨rfl,OldK.of_keep fun b o e=>?_,os,bare⟩
        cases q : H b with
        | none=>exact un.keep b o e q (by intro z; exact absurd (show b∈([] : List Addr) from z) (by simp)) (by simp)
        | some u=>
          rcases hO b with z | ⟨ob,xs,z⟩
          · rw [q] at z; cases z
          · have z2:=un.frzs b ob _ z
            obtain ⟨e1,_⟩:=hok b _ z
            obtain ⟨e2,_⟩:=hok' b _ z2
            rw [e] at e1; cases e1
            exact e2
  cases hk : K.lookup a with
  | some o=>
    have e:=KX a o hk
    rw [ha] at e
    cases e
    refine core (fun _=>none) (fun _=>.inl rfl) (.inr ⟨_,vs.toArray,_,hk,rfl,rfl,rfl,by rw [List.size_toArray,lenV]; exact hl,by simpa using rv⟩) (fun b u z=>by have z' : (none : Option HO)=some u:=z; cases z') (fun b z=>absurd rfl z) fun z=>absurd rfl z
  | none=>
    refine core (fun b=>if b=a then some (.frz { cls:=.type "list",data:=.seq vs.toArray } (.lst (ns.map V.int))) else none) (fun b=>?_) (.inl (.inr ⟨{ cls:=.type "list",data:=.seq vs.toArray },if_pos rfl⟩)) (fun b u z=>?_) (fun b z=>?_) fun _=>hk
    · by_cases hb : b=a
      · exact .inr ⟨_,_,if_pos hb⟩
      · exact .inl (if_neg hb)
    · by_cases hb : b=a
      · have z':=(if_pos hb).symm.trans z
        cases z'
        subst hb
        exact ⟨ha,by rw [List.length_map]; exact hl,vs,_,rv,ha⟩
      · have z':=(if_neg hb).symm.trans z
        cases z'
    · by_cases hb : b=a
      · exact hb
      · exact absurd (if_neg hb) z
end L2
namespace L2
open PySem PySem.Spec PyProof.Rows
theorem walk_of {l : PySem.W.OpenLaw} {n k : Nat} {q : Program} {loose : List Str} {XP : (Str→Option Value)→Heap→Prop} {YP : World→Heap→Prop} {d : DefRec} {K : Params→PySem.W.Frag} {CX : World→CXT} {sp : World→Sp} {x : Str}
    (hn : l.most=some n) (hn2 : n≤sizeLine) (hdf : d.params.defaults=[]) (hr : Room k callerA)
    (hY : ∀ (w : World) (h : Heap),YP w h→(K w.params).In h)
    (F : ∀ (w : World) (mg : Str→Option Value) (fa : Addr) (h : Heap),(K w.params).In h→h.Ns mainGlobals mg→mg d.name=some (.ref fa)→
      ∃ fd : FuncData,(∀ (s : Shared) (u : Value),BindsTo s fd ⟨[u],[]⟩ [(x,u)])∧
        ∀ base : Heap,(K w.params).In base→base.Ns mainGlobals mg→FnOk l.prog w (K w.params) mg base (CX w) k fa fd [x] (sp w))
    (hsp : ∀ (w : World) (H : Hp) (a : Addr) (ns : List Int),ns.length≤n→Only H→SqL (K w.params) H a (ns.map V.int)→sp w [.ref a] H (fun v _=>v = .bl true) fun _ _ _=>False)
    (hCX : ∀ (w : World) (H : Hp) (s : Shared) (e : Value) (s' : Shared),CX w [] H s (fun _ _ _=>False) e s'→False) :
    PySem.W.WalkO q loose XP YP l.row.toRowW d [] (fun f vs=>PySem.call f vs):=by
  refine Att.attach_call hn hdf fun w s₀ s₁ mg mb fa o pm cd doc a vs ns G Y ho hd hcd hmg hobj hints hlen hg=>?_
  have KX:=hY w _ Y
  obtain ⟨fd,hb,hF⟩:=F w mg fa _ KX G.T.g hmg
  exact law_call KX G.T.g G.T.b G.T.builtins G.T.nolimit hg hobj hints (Nat.le_trans hlen hn2) hr hF hb (fun H hO hS=>hsp w H a ns hlen hO hS) fun H e s'=>hCX w H s₁ e s'
end L2
namespace L2
open PySem PySem.Spec PyProof.Rows
def defArgs (s : Stmt) : Arguments:=match s with
  | .FunctionDef _ a _ _ _ _ _ _ _ _=>a
  | _=>{ posonlyargs:=[],args:=[],vararg:=none,kwonlyargs:=[],kw_defaults:=[],kwarg:=none,defaults:=[] }
def defBody (s : Stmt) : List Stmt:=match s with
  | .FunctionDef _ _ b _ _ _ _ _ _ _=>b
  | _=>[]
def defScope (s : Stmt) : Scope:=match s with
  | .FunctionDef _ _ _ _ _ _ sc _ _ _=>sc
  | _=>{ kind:=.function,names:=[],isGenerator:=false,isCoroutine:=false }
abbrev CX0 : CXT:=fun _ _ _ _ _ _=>False
abbrev E0 : XK:=fun _ _ _=>False
theorem pass0 {X : Cx} : Passes CX0 X E0:=fun _ _ _ _ _ _ _ h=>h.elim
structure Fun (K : PySem.W.Frag) (x qual : Str) (st : Stmt) (f : Addr) (fd : FuncData) : Prop where
  ex : ∃ (oc : Value) (od : Option Addr) (kV doc pm : Value) (an : Option Addr) (cdv ct : Value) (osl : Array (Option Value)),
    fd=PySem.W.fnOf x qual (defArgs st) (defBody st) (defScope st) .none kV doc pm an cdv ct∧K.lookup f=some ⟨oc,od,.func fd,osl⟩∧PySem.W.codeIn K cdv qual=true
  kp : PySem.W.keepIn K (.ref f)=true
section
variable {P : Program} {w : World} {K : PySem.W.Frag} {mg : Str→Option Value} {base : Heap}
theorem Fun.ok {x qual : Str} {st : Stmt} {f : Addr} {fd : FuncData} {N ps : List Str} {k : Nat} {sp : Sp} (F : Fun K x qual st f fd) (S : FnScope N ps (defScope st)) (len : ∀ vs H Q E,sp vs H Q E→vs.length=ps.length)
    (hbody : ∀ (cdv : Value) (A : Around) (outer : List Env) (s : Shared) (H : Hp) (vs : List V) (Q : VK) (E : XK),Room k (A.deeper (envOfC qual (defScope st) s.heap.objs.size f cdv))→sp vs H Q E→
      ∃ t,PSs (cxOf CX0 P w K mg base N qual (defScope st) f cdv A outer s H E).nox (defBody st) t∧t { nx:=fun _ H'=>Q .non H',rt:=Q } (start N vs) H) : FnOk P w K mg base CX0 (k + 1) f fd ps sp:=by
  obtain ⟨oc,od,kV,doc,pm,an,cdv,ct,osl,rfl,lk,hcd⟩:=F.ex
  refine fn_of lk hcd S len fun A outer s H vs Q E hr hsp=>?_
  obtain ⟨t,h,q⟩:=hbody cdv A outer s H vs Q E hr hsp
  exact ⟨t,h.nox,q⟩
theorem Fun.binds {x qual : Str} {st : Stmt} {f : Addr} {fd : FuncData} {ps : List Str} (F : Fun K x qual st f fd)
    (h : ∀ (kV doc pm : Value) (an : Option Addr) (cdv ct : Value) (us : List Value),us.length=ps.length→bindArgs (PySem.W.fnOf x qual (defArgs st) (defBody st) (defScope st) .none kV doc pm an cdv ct) ⟨us,[]⟩=pure (ps.zip us)) : Binds K fd ps []:=by
  obtain ⟨oc,od,kV,doc,pm,an,cdv,ct,osl,rfl,lk,hcd⟩:=F.ex
  exact .all (h kV doc pm an cdv ct)
theorem fun_mk {x qual : Str} {st : Stmt} {f : Addr} {oc : Value} {od an : Option Addr} {osl : Array (Option Value)} {kV doc pm cdv ct : Value} (l : K.lookup f=some ⟨oc,od,.func (PySem.W.fnOf x qual (defArgs st) (defBody st) (defScope st) .none kV doc pm an cdv ct),osl⟩)
    (c : PySem.W.codeIn K cdv qual=true) (k : PySem.W.keepIn K (.ref f)=true) : Fun K x qual st f (PySem.W.fnOf x qual (defArgs st) (defBody st) (defScope st) .none kV doc pm an cdv ct):=⟨⟨oc,od,kV,doc,pm,an,cdv,ct,osl,rfl,l,c⟩,k⟩
end
theorem small1000 {n : Nat} (h : n≤1000) : n < sizeLine:=Nat.lt_of_le_of_lt h (by decide)
section
variable {X : Cx}
theorem pv (i : Nat) {x : Str} {pos : Pos} (hN : X.N[i]? = some x:=by rfl) (hv : Vis X.env.scope x:=by first | exact Or.inl rfl | exact Or.inr (Or.inl rfl) | exact Or.inr (Or.inr rfl)) (hd : (x == ("__debug__" : Str))=false:=by decide)
    (hcd : (x == ("__classdict__" : Str))=false:=by decide) : PE X (.Name x pos) (tVar i):=pe_var hN hv hd hcd
end
theorem iteF {A B : Prop} (h : B) : if false=true then A else B:=by
  rw [if_neg Bool.false_ne_true]
  exact h
theorem iteT {A B : Prop} (h : A) : if true=true then A else B:=by
  rw [if_pos rfl]
  exact h
theorem ite2 {c A B : Prop} [Decidable c] (h1 : c→A) (h2 : ¬ c→B) : if c then A else B:=by
  by_cases h : c
  · rw [if_pos h]
    exact h1 h
  · rw [if_neg h]
    exact h2 h
theorem iteNS {c A B : Prop} [Decidable c] (hc : c) (h : B) : if (!decide c)=true then A else B:=by
  rw [decide_eq_true hc]
  exact iteF h
def Same (H H' : Hp) : Prop:=∀ b o,H b=some o→H' b=some o
theorem Same.refl (H : Hp) : Same H H:=fun _ _ h=>h
theorem Same.trans {H H1 H2 : Hp} (a : Same H H1) (b : Same H1 H2) : Same H H2:=fun c o h=>b c o (a c o h)
theorem Same.free {H H' : Hp} (e : Same H H') {l : Addr} (h : H' l=Option.none) : H l=Option.none:=by
  cases q : H l with
  | none=>rfl
  | some o=>
    rw [e l o q] at h
    cases h
end L2
set_option maxHeartbeats 4000000
namespace L2
open PySem PySem.Spec PyProof.Rows
theorem objThere {P : Program} {w : World} {H : Hp} {h : Heap} {a : Addr} {o : HO} (x : ObjOk P w H h a o) : ∃ ob,h.get? a=some ob:=by
  induction o with
  | lst xs=>obtain ⟨_,_,_,_,e⟩:=x; exact ⟨_,e⟩
  | tup xs=>obtain ⟨_,_,_,ob,e,_⟩:=x; exact ⟨_,e⟩
  | dK kvs=>obtain ⟨_,_,_,_,o,_,_,e,_⟩:=x; exact ⟨_,e⟩
  | dT kvs=>obtain ⟨_,_,_,_,o,_,_,e,_⟩:=x; exact ⟨_,e⟩
  | set S n=>obtain ⟨o,_,_,_,e,_⟩:=x; exact ⟨_,e⟩
  | ins C dx fs=>obtain ⟨_,_,_,e,_⟩:=x; exact ⟨_,e⟩
  | own y=>obtain ⟨_,e⟩:=x; exact ⟨_,e⟩
  | xd fs=>obtain ⟨_,⟨_,_,_,e,_⟩,_⟩:=x; exact ⟨_,e⟩
  | rng lo hi=>obtain ⟨_,_,_,e⟩:=x; exact ⟨_,e⟩
  | frz ob u _=>obtain ⟨e,_⟩:=x; exact ⟨_,e⟩
  | tbl ps=>exact ⟨_,(show h.get? a=some _ from x)⟩
  | met f y=>exact ⟨_,(show h.get? a=some _ from x)⟩
  | ext φ=>obtain ⟨_,e,_⟩:=x; exact e
  | cod q pos=>rcases x with e | ⟨_,e,_⟩ <;> exact ⟨_,e⟩
structure UnB (fs : List Addr) (H H' : Hp) (h B h' : Heap) : Prop where
  keep : ∀ b o,h.get? b=some o→H b=none→b ∉ fs→B.get? b=some o
  slot : ∀ b o,h.get? b=some o→H b=none→b∈fs→∃ sl,h'.get? b=some { o with slots:=sl }
  free : ∀ b o,h.get? b=some o→H b=none→H' b=none
  there : ∀ b o,h.get? b=some o→b∈fs∨∃ o',B.get? b=some o'
  tups : ∀ b xs,H b=some (.tup xs)→H' b=some (.tup xs)
  frzs : ∀ b o u,H b=some (.frz o u)→H' b=some (.frz o u)
  tbls : ∀ b ps,H b=some (.tbl ps)→∃ more,H' b=some (.tbl (ps ++ more))
def CXE (P : Program) (w : World) : CXT:=fun outer H s E e s'=>∃ (a : Addr) (cls a0 : Value) (H' : Hp) (B : Heap),e = .ref a∧s'.os=s.os∧AllBare s'.gens∧E cls none H'∧HOk P w H' B∧H' a=none∧s.heap.get? a=none∧
  Heap.FlyingW B outer a cls a0 s'.heap∧UnB (frs outer) H H' s.heap B s'.heap
section
variable {X : Cx} {pins : List (Addr×Obj)} {σ : St} {H : Hp} {s s' : Shared} {E : XK}
theorem raise_leaves {CX : CXT} {P : Program} {w : World} {K : PySem.W.Frag} {mg : Str→Option Value} {base : Heap} {N : List Str} {qual : Str} {scope : Scope} {f : Addr} {cd : Value} {A : Around} {outer : List Env} {s₀ : Shared} {H₀ : Hp}
    {pins : List (Addr×Obj)} {σ : St} {H : Hp} {s : Shared} {h' : Heap} {e : Addr} {cls : Value} {args : List Value}
    (I : Inv (cxOf (CXE P w) P w K mg base N qual scope f cd A outer s₀ H₀ E) pins σ H s) (hx : Heap.MadeExcOf s.heap h' e cls args) (hE : E cls none H) :
    (cxOf (CXE P w) P w K mg base N qual scope f cd A outer s₀ H₀ E).xe (.ref e) { s with heap:=h' }:=by
  have hst:=I.stack
  have hlt:=I.lt
  have hnoex : ∀ b : Addr,b ∉ ([] : List Addr):=fun b z=>nomatch z
  show wpAny (model P w) (A.deeper (envOfC qual scope s₀.heap.objs.size f cd)) (leaving (envOfC qual scope s₀.heap.objs.size f cd) (.ref e)) (fun _ s''=>CXE P w outer H₀ s₀ E (.ref e) s'') (fun e' s''=>CXE P w outer H₀ s₀ E e' s'') { s with heap:=h' }
  refine wpAny_leaves_madeW (base:=PySem.W.hideAll s.heap (frs (envOfC qual scope s₀.heap.objs.size f cd :: outer))) (h:=s.heap) (L:=s₀.heap.objs.size) I.ok.frames rfl (fun b o q=>PySem.W.of_hideAll _ q)
    (PySem.W.funFrames_hide hst fun env he b hb=>List.mem_filterMap.mpr ⟨env,he,hb⟩) hx fun h'' t fly _ _ upto=>?_
  have hsub : ∀ b,b∈frs outer→b∈frs (envOfC qual scope s₀.heap.objs.size f cd :: outer):=fun b hb=>by
    obtain ⟨env,he,hf⟩:=List.mem_filterMap.mp hb
    exact List.mem_filterMap.mpr ⟨env,.tail _ he,hf⟩
  have hnot : ∀ b o,s₀.heap.get? b=some o→b ∉ frs outer→b ∉ frs (envOfC qual scope s₀.heap.objs.size f cd :: outer):=fun b o q nb hb=>by
    rcases List.mem_cons.mp (I.stkSub b hb) with z | z
    · exact absurd (Heap.lt_size q) (by rw [z]; exact Nat.lt_irrefl _)
    · exact nb z
  have hfree : ∀ b∈frs (envOfC qual scope s₀.heap.objs.size f cd :: outer),H b=none:=I.stkFree
  have nohid : ∀ b u,H b=some u→b ∉ frs (envOfC qual scope s₀.heap.objs.size f cd :: outer):=fun b u q hb=>by rw [hfree b hb] at q; cases q
  refine ⟨e,cls,.ref t,H,_,rfl,I.os,I.bare,hE,fun b u q=>?_,?_,?_,fly,?_⟩
  · refine (I.hok b u q).stay (fun c v hc r=>PySem.W.hideAll_get _ r ?_) (fun _ r=>r) fun _ _ r=>r
    rcases hc with z | z
    · rw [z]; exact nohid b u q
    · exact nohid c _ z
  · cases q : H e with
    | none=>rfl
    | some u=>
      obtain ⟨ob,e1⟩:=objThere (I.hok e u q)
      rw [hx.new] at e1; cases e1
  · cases q : s₀.heap.get? e with
    | none=>rfl
    | some o=>
      obtain ⟨o',e1⟩:=I.base.there e o q (hnoex e)
      rw [hx.new] at e1; cases e1
  · refine ⟨fun b o q n nb=>PySem.W.hideAll_get _ (I.base.keep b o q n nb (hnoex b)) (hnot b o q nb),fun b o q n hb=>?_,fun b o q n=>I.base.free b o q n (hnoex b),fun b o q=>?_,I.base.tups,I.base.frzs,I.base.tbls⟩
    · obtain ⟨sl,e1⟩:=I.base.slot b o q n hb (hnoex b)
      obtain ⟨_,ob,e2,nf⟩:=hst.mem (hsub b hb)
      rw [e1] at e2; cases e2
      have e3:=hx.keeps b _ e1
      obtain ⟨sl',e4⟩:=upto b _ e3 nf
      exact ⟨sl',e4⟩
    · by_cases hb : b∈frs outer
      · exact .inl hb
      · obtain ⟨o',e1⟩:=I.base.there b o q (hnoex b)
        exact .inr ⟨o',PySem.W.hideAll_get _ e1 (hnot b o q hb)⟩
theorem passE {P : Program} {w : World} {K : PySem.W.Frag} {mg : Str→Option Value} {base : Heap} {N : List Str} {qual : Str} {scope : Scope} {f : Addr} {cd : Value} {A : Around} {outer : List Env} {s₀ : Shared} {H₀ : Hp} {E E' : XK}
    (hE : ∀ cls H,E' cls none H→E cls none H) : Passes (CXE P w) (cxOf (CXE P w) P w K mg base N qual scope f cd A outer s₀ H₀ E) E':=by
  intro pins σ H s e s' I h
  obtain ⟨a,cls,a0,H',B,rfl,hos,hb,hE',hok,hna,hfr,fly,u⟩:=h
  have hnoex : ∀ b : Addr,b ∉ ([] : List Addr):=fun b z=>nomatch z
  have hsub : ∀ b,b∈frs outer→b∈frs (envOfC qual scope s₀.heap.objs.size f cd :: outer):=fun b hb=>by
    obtain ⟨env,he,hf⟩:=List.mem_filterMap.mp hb
    exact List.mem_filterMap.mpr ⟨env,.tail _ he,hf⟩
  have hnot : ∀ b o,s₀.heap.get? b=some o→b ∉ frs outer→b ∉ frs (envOfC qual scope s₀.heap.objs.size f cd :: outer):=fun b o q nb hb=>by
    rcases List.mem_cons.mp (I.stkSub b hb) with z | z
    · exact absurd (Heap.lt_size q) (by rw [z]; exact Nat.lt_irrefl _)
    · exact nb z
  show wpAny (model P w) (A.deeper (envOfC qual scope s₀.heap.objs.size f cd)) (leaving (envOfC qual scope s₀.heap.objs.size f cd) (.ref a)) (fun _ s''=>CXE P w outer H₀ s₀ E (.ref a) s'') (fun e' s''=>CXE P w outer H₀ s₀ E e' s'') s'
  refine wpAny_leaves_onW (L:=s₀.heap.objs.size) I.ok.frames rfl fly fun h'' fly' upto=>?_
  refine ⟨a,cls,a0,H',B,rfl,hos.trans I.os,hb,hE cls H' hE',hok,hna,?_,fly',?_⟩
  · cases q : s₀.heap.get? a with
    | none=>rfl
    | some o=>
      obtain ⟨o',e1⟩:=I.base.there a o q (hnoex a)
      rw [hfr] at e1; cases e1
  · refine ⟨fun b o q n nb=>u.keep b o (I.base.keep b o q n nb (hnoex b)) (I.base.free b o q n (hnoex b)) (hnot b o q nb),fun b o q n hb=>?_,fun b o q n=>?_,fun b o q=>?_,fun b xs q=>u.tups b xs (I.base.tups b xs q),fun b o x q=>u.frzs b o x (I.base.frzs b o x q),fun b ps q=>?_⟩
    · obtain ⟨sl,e1⟩:=I.base.slot b o q n hb (hnoex b)
      obtain ⟨sl',e2⟩:=u.slot b _ e1 (I.base.free b o q n (hnoex b)) (hsub b hb)
      obtain ⟨_,ob,e3,nf⟩:=fly.2.2.1.mem (hsub b hb)
      rw [e2] at e3; cases e3
      obtain ⟨sl'',e4⟩:=upto b _ e2 nf
      exact ⟨sl'',e4⟩
    · obtain ⟨o',e1⟩:=I.base.there b o q (hnoex b)
      exact u.free b o' e1 (I.base.free b o q n (hnoex b))
    · by_cases hb : b∈frs outer
      · exact .inl hb
      · obtain ⟨o',e1⟩:=I.base.there b o q (hnoex b)
        rcases u.there b o' e1 with z | z
        · exact absurd z (hnot b o q hb)
        · exact .inr z
    · obtain ⟨m1,e1⟩:=I.base.tbls b ps q
      obtain ⟨m2,e2⟩:=u.tbls b _ e1
      exact ⟨m1 ++ m2,by rw [e2,Array.append_assoc]⟩
end
end L2
namespace L2
open PySem PySem.Spec PyProof.Rows PySem.Builtin.ObjectAttr PySem.Builtin.Getset_descriptor
section
variable {prog : Program} {w : World} {A : Around} {E : Value→Shared→Prop} {K : PySem.W.Frag} {x D : Addr} {s : Shared}
end
end L2
namespace L2
open PySem PySem.Spec PyProof.Rows
theorem exc_obj {K : PySem.W.Frag} {h : Heap} {C : Addr} {bmB : List Value} {newId : String} (X : K.In h) (q : PySem.W.excIn K C bmB newId=true) :
    ∃ bm N nm qn bs hd sn sub ab col dd k0 k1 k2 k3 k5 mN,h.get? C=some (excClassObj nm qn C N bs bm hd sn sub ab col dd k0 k1 k2 k3 k5 newId)∧h.Ns N mN∧mN "__init__" = none∧OwnTail h bmB bm:=by
  unfold PySem.W.excIn at q
  split at q
  · rename_i dd cd sl look
    split at q
    · rename_i C2 bm k0 k1 k2 k3 n k5 hmro hsl
      simp only [Bool.and_eq_true,beq_iff_eq,Bool.not_eq_true'] at q
      obtain ⟨⟨⟨⟨⟨rfl,rfl⟩,hde⟩,htl⟩,hns⟩,hin⟩:=q
      obtain ⟨nm,bs,mro,ns,qn,hd,sn,sub,ab,col,del⟩:=cd
      dsimp only at hmro hde hns hin
      subst hmro hde
      have es : sl = #[k0,k1,k2,k3,some (.builtin n),k5]:=by
        obtain ⟨ls⟩:=sl
        have e1 : ls=[k0,k1,k2,k3,some (.builtin n),k5]:=hsl
        rw [e1]
      subst es
      exact ⟨bm,ns,nm,qn,bs,hd,sn,sub,ab,col,dd,k0,k1,k2,k3,k5,_,X _ _ look,.of_isNs (PySem.W.isNs_of_in X hns),PySem.W.nsMap_none_of_in X hns hin,PySem.W.tail_of_in X htl⟩
    · cases q
  · cases q
section
variable {X : Cx}
def tRaise (C : Addr) (E : XK) (t : TA) : TS:=fun D σ H=>t σ H fun vs H1=>vs.length≤sizeLine∧E (.ref C) none H1
def Makes (X : Cx) (E : XK) : Prop:=∀ (pins : List (Addr×Obj)) (σ : St) (H : Hp) (s : Shared) (h' : Heap) (e : Addr) (cls : Value) (args : List Value),Inv X pins σ H s→Heap.MadeExcOf s.heap h' e cls args→E cls none H→X.xe (.ref e) { s with heap:=h' }
theorem makesE {P : Program} {w : World} {K : PySem.W.Frag} {mg : Str→Option Value} {base : Heap} {N : List Str} {qual : Str} {scope : Scope} {f : Addr} {cd : Value} {A : Around} {outer : List Env} {s₀ : Shared} {H₀ : Hp} {E : XK} :
    Makes (cxOf (CXE P w) P w K mg base N qual scope f cd A outer s₀ H₀ E) E:=fun _ _ _ _ _ _ _ _ I hx hE=>raise_leaves (CX:=CXE P w) I hx hE
theorem ps_raise {x : Str} {C : Addr} {B newId initId : String} {bmB : List Value} {e₀ : Expr} {rest : List Expr} {np cpos pos : Pos} {t : TA} {E : XK} (hg : Gl X x) (hm : X.mg x=some (.ref C)) (hq : PySem.W.excIn X.K C bmB newId=true)
    (FB : ExcBaseFacts B newId initId bmB) (hcalm : X.calm=true) (hxe : Makes X E) (ha : PA X (e₀ :: rest) t) (hd : (x == ("__debug__" : Str))=false:=by decide)
    (he : starEach (e₀ :: rest) X.env=(false,eval e₀ X.env) :: starEach rest X.env:=by rfl) (hpl : (backTo cpos (starEach rest X.env)).any (·.1)=false:=by rfl) :
    PS X (.Raise (some (.Call (.Name x np) (e₀ :: rest) [] cpos)) none pos) (tRaise C E t):=by
  intro pins s σ H D I h
  obtain ⟨bm,N,nm,qn,bs,hdd,sn,sub,ab,col,dd,k0,k1,k2,k3,k5,mN,hC,hN,hni,T⟩:=exc_obj (bmB:=bmB) I.mod.kin hq
  refine wpAny_Raise_call_subT (C:=C) (N:=N) (bm:=bm) (nm:=nm) (q:=qn) (bs:=bs) (hdct:=hdd) (sn:=sn) (sub:=sub) (ab:=ab) (col:=col) (dd:=dd) (k0:=k0) (k1:=k1) (k2:=k2) (k3:=k3) (k5:=k5) FB (mN:=mN) (T.hasType FB.hasBase) (I.ok.hd hcalm)
    (by rw [he]; show (false || (backTo cpos (starEach rest X.env)).any (·.1))=false; rw [hpl]; rfl) hni (ld_glob I hg hm ⟨rfl,?_⟩ hd)
  have h1:=ha cpos pins s σ H _ I h
  rw [he] at h1 ⊢
  refine Calls.evalArgs_plain (thn h1 fun us s1 ⟨vs,H1,I1,r1,q1⟩=>?_)
  exact ⟨rfl,(by rw [← r1.length]; exact q1.1),I1.bk _ _ hC,hN.keeps I1.bk,T.keeps I1.bk,fun h' e hx=>hxe pins σ H1 s1 h' e _ _ I1 hx q1.2⟩
theorem Inv.track {pins : List (Addr×Obj)} {σ : St} {H : Hp} {s : Shared} {a : Addr} {o : HO} (I : Inv X pins σ H s) (hs : X.s₀.heap.get? a=none) (hn : H a=none) (hL : a≠X.env.locals) (hc : ∀ x c,X.env.cells.lookup x=some c→c≠a)
    (hp : ∀ p∈X.pn ++ pins,p.1≠a) (new : ObjOk X.prog X.w (upd H a o) s.heap a o) : Inv X pins σ (upd H a o) s:=by
  have ne : ∀ b ob,X.s₀.heap.get? b=some ob→b≠a:=fun b ob e z=>by rw [z,hs] at e; cases e
  have nt : ∀ b u,H b=some u→b≠a:=fun b u e z=>by rw [z,hn] at e; cases e
  refine ⟨I.ok,I.os,I.bare,⟨I.base.keep,I.base.slot,fun b ob e n hx=>by rw [upd_ne (ne b ob e)]; exact I.base.free b ob e n hx,I.base.there,fun b xs e=>?_,fun b ob xs e=>?_,fun b ps e=>?_⟩,I.loc,I.cell,by rw [upd_ne hL.symm]; exact I.free,fun x c e=>by rw [upd_ne (hc x c e)]; exact I.freeC x c e,fun p hp'=>?_,fun b u e=>?_,I.len⟩
  · have e1:=I.base.tups b xs e
    rw [upd_ne (nt b _ e1)]; exact e1
  · have e1:=I.base.frzs b ob xs e
    rw [upd_ne (nt b _ e1)]; exact e1
  · obtain ⟨more,e1⟩:=I.base.tbls b ps e
    exact ⟨more,by rw [upd_ne (nt b _ e1)]; exact e1⟩
  · obtain ⟨e,n,r⟩:=I.pin p hp'
    exact ⟨e,by rw [upd_ne (hp p hp')]; exact n,r⟩
  · by_cases z : b=a
    · subst z
      rw [upd_same] at e
      cases e
      exact new
    · rw [upd_ne z] at e
      exact (I.hok b u e).stay (fun _ _ _ q=>q) (fun c q=>by rw [upd_ne (nt c _ q)]; exact q) fun c xs q=>by rw [upd_ne (nt c _ q)]; exact q
end
end L2
namespace L2
open PySem PySem.Spec PyProof.Rows
def clOf (env : Env) : List (Str×NameKind)→List (Str×Addr)→List (Str×Addr)
  | [],cs=>cs
  | (n,k) :: r,cs=>clOf env r (if k == .free then (n,(env.cells.lookup n).getD 0) :: cs else cs)
theorem closureFor_cl {scope : Scope} {env : Env} (h : ∀ y∈scope.names,y.2 = .free→∃ c,env.cells.lookup y.1=some c) : closureFor scope env=pure (clOf env scope.names []):=by
  have all : ∀ (l : List (Str×NameKind)) (cs : List (Str×Addr)),(∀ y∈l,y.2 = .free→∃ c,env.cells.lookup y.1=some c)→
      (forIn l cs fun (x : Str×NameKind) r=>(if (x.2 == NameKind.free)=true then do let a ← cellOf env x.1; pure (ForInStep.yield ((x.1,a) :: r)) else pure (ForInStep.yield r) : Sem (ForInStep (List (Str×Addr)))))=pure (clOf env l cs):=by
    intro l
    induction l with
    | nil=>intro cs _; rfl
    | cons x r ih=>
      intro cs hl
      obtain ⟨n,k⟩:=x
      rw [List.forIn_cons]
      by_cases hk : (k == NameKind.free)=true
      · obtain ⟨c,hc⟩:=hl (n,k) (.head _) (by simpa using hk)
        have e : cellOf env n=pure c:=by unfold cellOf; rw [show env.cells.lookup n=some c from hc]
        simp only [hk,if_true,e,pure_bind]
        rw [ih _ fun y hy=>hl y (.tail _ hy)]
        show _=pure (clOf env r (if k == .free then _ else _))
        rw [if_pos hk,show env.cells.lookup n=some c from hc]
        rfl
      · simp only [hk,Bool.false_eq_true,if_false,pure_bind]
        rw [ih _ fun y hy=>hl y (.tail _ hy)]
        show _=pure (clOf env r (if k == .free then _ else _))
        rw [if_neg hk]
  unfold closureFor
  have:=all scope.names [] h
  simp only [bind_pure] at this ⊢
  exact this
theorem mem_clOf {env : Env} : ∀ (l : List (Str×NameKind)) (cs : List (Str×Addr)) {p : Str×Addr},p∈clOf env l cs→p∈cs∨((p.1,NameKind.free)∈l∧p.2=(env.cells.lookup p.1).getD 0)
  | [],cs,p,h=>.inl h
  | (n,k) :: r,cs,p,h=>by
    unfold clOf at h
    rcases mem_clOf r _ h with z | ⟨z1,z2⟩
    · split at z
      · rename_i hk
        have hk' : k = .free:=by simpa using hk
        rcases List.mem_cons.mp z with rfl | z
        · exact .inr ⟨by rw [hk']; exact .head _,rfl⟩
        · exact .inl z
      · exact .inl z
    · exact .inr ⟨.tail _ z1,z2⟩
theorem clOf_grows {env : Env} : ∀ (l : List (Str×NameKind)) (cs : List (Str×Addr)) {p : Str×Addr},p∈cs→p∈clOf env l cs
  | [],cs,p,h=>h
  | (n,k) :: r,cs,p,h=>by
    unfold clOf
    refine clOf_grows r _ ?_
    split
    · exact .tail _ h
    · exact h
theorem clOf_has {env : Env} : ∀ (l : List (Str×NameKind)) (cs : List (Str×Addr)) {x : Str},(x,NameKind.free)∈l→(x,(env.cells.lookup x).getD 0)∈clOf env l cs
  | (n,k) :: r,cs,x,h=>by
    unfold clOf
    rcases List.mem_cons.mp h with e | h
    · cases e
      refine clOf_grows r _ ?_
      rw [if_pos (by decide)]
      exact .head _
    · exact clOf_has r _ h
theorem lookup_of_mem {α : Type} : ∀ {l : List (Str×α)} {x : Str} {v : α},(x,v)∈l→∃ u,l.lookup x=some u
  | (n,k) :: r,x,v,h=>by
    by_cases e : x=n
    · exact ⟨k,by rw [List.lookup_cons,e]; simp⟩
    · rcases List.mem_cons.mp h with z | z
      · cases z; exact absurd rfl e
      · obtain ⟨u,hu⟩:=lookup_of_mem z
        exact ⟨u,by rw [List.lookup_cons]; rw [show (x == n)=false from by simpa using e]; exact hu⟩
def cxComp (X : Cx) (N' : List Str) (scope : Scope) (C : Addr) (s : Shared) (H : Hp) (fp : List Addr) : Cx where
  prog:=X.prog
  w:=X.w
  K:=X.K
  mg:=X.mg
  base:=X.base
  A:=X.A
  N:=N'
  s₀:=s
  H₀:=H
  env:=compEnvC scope (clOf X.env scope.names []) C X.env
  outer:=X.stack
  stack:=X.stack
  ex:=fp
  fn:=fun _=>false
  calm:=true
  pn:=[]
  xe:=fun _ _=>False
structure CompScope (X : Cx) (N' : List Str) (ix : List (Option Nat)) (scope : Scope) : Prop where
  kind : scope.kind = .function
  nocell : ∀ y∈scope.names,y.2≠.cell
  loc : ∀ y∈scope.names,y.2 = .local→scope.names.lookup y.1=some .local
  nd : N'.Nodup
  len : ix.length=N'.length
  free : ∀ y∈scope.names,y.2 = .free→X.env.kindOf y.1=some .cell
  out : ∀ (k j : Nat) (x : Str),N'[k]? = some x→ix[k]? = some (some j)→X.N[j]? = some x∧(x,NameKind.free)∈scope.names∧(relabel scope X.env).names.lookup x=some .cell
def compSt (ix : List (Option Nat)) (σ : St) : St:=ix.map fun o=>o.bind fun j=>(σ[j]?).join
theorem relabel_back {scope : Scope} {env : Env} {x : Str} {k : NameKind} (hc : ∀ y∈scope.names,y.2≠.cell) (h : (relabel scope env).names.lookup x=some k) (hk : k = .cell∨k = .free) : (x,NameKind.free)∈scope.names:=by
  have m:=PySem.mem_of_lookup h
  unfold relabel at m
  obtain ⟨⟨n,k0⟩,h1,h2⟩:=List.mem_map.mp m
  dsimp only at h2
  split at h2
  · rename_i q
    cases h2
    have : k0 = .free:=by
      simp only [Bool.and_eq_true,beq_iff_eq] at q
      exact q.1.1
    rw [this] at h1
    exact h1
  · cases h2
    rcases hk with rfl | rfl
    · exact absurd rfl (hc _ h1)
    · exact h1
section
variable {X : Cx} {N' : List Str} {ix : List (Option Nat)} {scope : Scope}
theorem cl_cells {pins : List (Addr×Obj)} {σ : St} {H : Hp} {s : Shared} (I : Inv X pins σ H s) (S : CompScope X N' ix scope) {x : Str} {c : Addr} (h : (clOf X.env scope.names []).lookup x=some c) : X.env.cells.lookup x=some c:=by
  rcases mem_clOf _ _ (PySem.mem_of_lookup h) with z | ⟨z1,z2⟩
  · cases z
  · obtain ⟨c',hc⟩:=I.ok.has x (.inl (S.free _ z1 rfl))
    dsimp only at z2
    rw [hc] at z2
    rw [hc,z2]
    rfl
theorem inv_comp {pins : List (Addr×Obj)} {σ : St} {H : Hp} {s : Shared} {h' : Heap} {tk : Nat} {fp : List Addr} (I : Inv X pins σ H s) (hcalm : X.calm=true) (S : CompScope X N' ix scope) (hf : ∀ b∈fp,FpOk X pins H b) (hlt : ∀ b∈fp,b < s.heap.objs.size)
    (hns : h'.Ns s.heap.objs.size (fun _=>none)) (hk : ∀ b o,s.heap.get? b=some o→h'.get? b=some o) : Inv (cxComp X N' scope s.heap.objs.size s H fp) [] (compSt ix σ) H { s with heap:=h',toks:=tk }:=by
  have noL : H s.heap.objs.size=none:=I.hok.fresh (Nat.le_refl _)
  refine ⟨⟨I.ok.mod,S.kind,I.ok.glob,I.ok.blt,Nat.le_refl _,fun x y c h1 h2=>I.ok.inj x y c (cl_cells I S h1) (cl_cells I S h2),fun x hx=>?_,(fun x c z=>nomatch z),fun _=>I.ok.hd hcalm,I.ok.frames,.inl rfl,fun b hb=>⟨Nat.ne_of_lt (hlt b hb),fun x c h=>?_⟩,I.bs,Nat.le_trans I.ok.bsz I.sz,fun b o q hb=>?_,fun b hb=>?_,I.stack,I.stkFree⟩,
    rfl,I.bare,Un.kept hk,⟨_,hns,fun k x v h1 h2 h3=>?_⟩,fun x c h=>?_,noL,fun x c h=>I.freeC x c (cl_cells I S h),(fun p hp=>absurd (show p∈([] : List (Addr×Obj)) from hp) (by simp)),I.hok.kept hk,?_⟩
  · have hx' : (relabel scope X.env).names.lookup x=some .cell∨(relabel scope X.env).names.lookup x=some .free:=hx
    have m : (x,NameKind.free)∈scope.names:=by
      rcases hx' with z | z
      · exact relabel_back S.nocell z (.inl rfl)
      · exact relabel_back S.nocell z (.inr rfl)
    exact lookup_of_mem (clOf_has (env:=X.env) scope.names [] m)
  · exact (hf b hb).2.2.2.2.1 x c (cl_cells I S h)
  · rcases (hf b hb).2.2.2.1 with z | z
    · exact I.ok.noex b o q z
    · exact absurd (Nat.lt_of_lt_of_le (Heap.lt_size (I.ok.bs b o q).1) z) (Nat.lt_irrefl _)
  · intro z
    rcases List.mem_cons.mp (I.stkSub b z) with e | e
    · exact (hf b hb).2.1 e
    · exact (hf b hb).2.2.1 e
  · have e2 : (compSt ix σ)[k]? = some (some v):=h2
    unfold compSt at e2
    rw [List.getElem?_map] at e2
    cases e3 : ix[k]? with
    | none=>rw [e3] at e2; cases e2
    | some o=>
      rw [e3] at e2
      cases o with
      | none=>cases e2
      | some j=>
        obtain ⟨n1,n2,n3⟩:=S.out k j x h1 e3
        have e4 : σ[j]? = some (some v):=by
          have : (σ[j]?).join=some v:=Option.some.inj e2
          cases e5 : σ[j]? with
          | none=>rw [e5] at this; cases this
          | some w=>rw [e5] at this; exact congrArg some this
        have kc:=S.free _ n2 rfl
        obtain ⟨m,hn,hl⟩:=I.loc
        obtain ⟨u,r,l⟩:=hl j x v n1 e4 (.inr (.inl kc))
        refine ⟨u,r,?_⟩
        rcases l with ⟨z,_⟩ | ⟨_,c,hc,hcell⟩
        · dsimp only at kc
          rw [kc] at z; cases z
        · obtain ⟨c',hc'⟩:=lookup_of_mem (clOf_has (env:=X.env) scope.names [] n2)
          have ec:=cl_cells I S hc'
          rw [hc] at ec
          cases ec
          exact .inr ⟨.inl n3,c,hc',hcell.keeps hk⟩
  · obtain ⟨v,q⟩:=I.cell x c (cl_cells I S h)
    exact ⟨v,q.keeps hk⟩
  · unfold compSt
    rw [List.length_map]
    exact S.len
end
end L2
namespace L2
open PySem PySem.Spec PyProof.Rows
def PIfs (X : Cx) (ifs : List Expr) (t : TT) : Prop:=
  ∀ (pins : List (Addr×Obj)) (s : Shared) (σ : St) (H : Hp) (Q : Bool→Hp→Prop),Inv X pins σ H s→t σ H Q→
    wpAny (model X.prog X.w) X.A (forIn ifs true fun c r=>if r=true then do let ok ← isTrue c X.env (eval c X.env); pure (ForInStep.yield ok) else pure (ForInStep.yield r)) (TP X pins σ Q) X.xe s
def tIf0 : TT:=fun _ H Q=>Q true H
theorem pifs_nil {X : Cx} : PIfs X [] tIf0:=fun pins s σ H Q I h=>wpAny_pure ⟨H,I,h⟩
theorem pifs_one {X : Cx} {c : Expr} {t : TT} (h : PT X c t) : PIfs X [c] t:=fun pins s σ H Q I q=>wpAny_tests_one (h pins s σ H Q I q)
def tComp (ix : List (Option Nat)) (wi : TI) (g : TG) (ti : TT) (te : TE) : TE:=fun σ H Q=>wi σ H fun J H1=>∀ D,H1 D=none→∃ W : Nat→Nat→Hp→Prop,(∃ m,W 0 m (upd H1 D (.lst [])))∧∀ i m H,W i m H→
  (J.stop i H∧Q (.ref D) H)∨(J.go i H∧∀ x H',J.yld i H x H'→g x (compSt ix σ) H' fun σ2 H2=>(∀ (k : Nat) v,(compSt ix σ)[k]? = some (some v)→σ2[k]? = some (some v))∧ti σ2 H2 fun b H3=>
    if b=true then te σ2 H3 fun y H4=>∃ zs,H4 D=some (.lst zs)∧zs.length < sizeLine∧∃ m',m' < m∧W (i + 1) m' (upd H4 D (.lst (zs ++ [y]))) else ∃ m',m' < m∧W (i + 1) m' H3)
section
variable {X : Cx} {N' : List Str} {ix : List (Option Nat)} {scope : Scope} {elt tg iter : Expr} {ifs : List Expr} {pos : Pos} {wi : TI} {g : TG} {ti : TT} {te : TE}
def CompEnd (X : Cx) (pins : List (Addr×Obj)) (σ : St) (Q : VK) (acc : Value) (C : Addr) (r : Result) (s' : Shared) : Prop:=
  ∃ D H',acc = .ref D∧(∃ f,r = .ok f)∧Inv X pins σ H' s'∧FpOk X pins H' C∧(∃ m,s'.heap.Ns C m)∧Q (.ref D) H'
theorem comp_loop {X' : Cx} {σ₀ : St} {H : Hp} {s : Shared} {Q : VK} {it D : Addr} {fp : List Addr} {tn : Nat→Heap→Prop} {J : It} {W : Nat→Nat→Hp→Prop} {m0 : Nat} (I : Inv X' [] σ₀ H s) (hcalm : X'.calm=true) (hxe : X'.xe=fun _ _=>False)
    (T : Turn X'.prog X'.w X'.K tg J fp it tn) (st : tn 0 s.heap) (hf : ∀ b∈fp,FpOk X' [] H b) (hg : PG X' tg g) (hi : PIfs X' ifs ti) (he : PE X' elt te) (w0 : W 0 m0 H)
    (turn : ∀ i m H,W i m H→(J.stop i H∧Q (.ref D) H)∨(J.go i H∧∀ x H',J.yld i H x H'→g x σ₀ H' fun σ2 H2=>(∀ (k : Nat) v,σ₀[k]? = some (some v)→σ2[k]? = some (some v))∧ti σ2 H2 fun b H3=>
        if b=true then te σ2 H3 fun y H4=>∃ zs,H4 D=some (.lst zs)∧zs.length < sizeLine∧∃ m',m' < m∧W (i + 1) m' (upd H4 D (.lst (zs ++ [y]))) else ∃ m',m' < m∧W (i + 1) m' H3)) :
    codeAny (model X'.prog X'.w) X'.A (.compStart (.ListComp elt [⟨tg,iter,ifs,0⟩] scope pos) 0 (.ref it) (.ref D) X'.env) (fun r s'=>(∃ f,r = .ok f)∧∃ H',Inv X' [] σ₀ H' s'∧Q (.ref D) H') s:=by
  have stat : ∀ {H' : Hp},(∀ b∈fp,H' b=none)→∀ b∈fp,FpOk X' [] H' b:=fun hn b hb=>⟨hn b hb,(hf b hb).2⟩
  have loop : codeAny (model X'.prog X'.w) X'.A (.compLoop (.ListComp elt [⟨tg,iter,ifs,0⟩] scope pos) 0 (.ref it) (.ref D) X'.env) (fun r s'=>(∃ f,r = .ok f)∧∃ H',Inv X' [] σ₀ H' s'∧Q (.ref D) H') s:=by
    refine codeAny_loop rfl (fun n s'=>∃ i H',Inv X' [] σ₀ H' s'∧tn i s'.heap∧(∀ b∈fp,H' b=none)∧W i n H') ?_ m0 ⟨0,H,I,st,fun b hb=>(hf b hb).1,w0⟩
    rintro n s1 ⟨i,H1,I1,st1,fr1,w1⟩
    show wpAny _ X'.A ((compTurn (.ListComp elt [⟨tg,iter,ifs,0⟩] scope pos) 0 (.ref it) (.ref D) X'.env).onRaise (fun x=>do noteFrame x X'.env; theTreesLotGoes x)) _ _ s1
    refine wpAny_noted ?_
    have noE : ∀ {α : Type} {t : Sem α} {P : α→Shared→Prop} {F : Value→Shared→Prop} {s : Shared},wpAny (model X'.prog X'.w) X'.A t P X'.xe s→wpAny (model X'.prog X'.w) X'.A t P F s:=fun h=>wpAny_mono h (fun _ _ x=>x) fun e s' x=>by rw [hxe] at x; exact x.elim
    rw [compTurn_list]
    refine wpAny_bind (wpAny_standAt (wpAny_bind ?_))
    rcases turn i n H1 w1 with ⟨stop,qn⟩ | ⟨go,step⟩
    · refine thn (T.done X' rfl rfl rfl hcalm i [] s1 σ₀ H1 _ I1 (stat fr1) st1 stop) fun r s2 ⟨hr,I2⟩=>?_
      subst hr
      exact wpAny_pure ⟨⟨_,rfl⟩,H1,I2,qn⟩
    · refine thn (T.item X' rfl rfl rfl hcalm i [] s1 σ₀ H1 _ I1 (stat fr1) st1 go) fun r s2 ⟨u,hr,h2⟩=>?_
      subst hr
      refine wpAny_bind (thn h2 fun _ s3 ⟨x,H3,I3,r3,y3,st3,fr3⟩=>?_)
      have I3':=I3.pinned (stat fr3) (T.obj _ _ st3)
      refine wpAny_bind (noE (thn (hg _ s3 σ₀ H3 x u _ I3' r3 (step x H3 y3)) fun _ s4 ⟨σ4,H4,I4,hk4,q4⟩=>?_))
      refine wpAny_bind (noE (thn (hi _ s4 σ4 H4 _ I4 q4) fun ok s5 ⟨H5,I5,q5⟩=>?_))
      have again' : ∀ {s7 : Shared} {H7 : Hp} {m' : Nat},Inv X' ([] ++ pinsAt fp s3.heap) σ4 H7 s7→m' < n→W (i + 1) m' H7→∃ m,m < n∧∃ i H',Inv X' [] σ₀ H' s7∧tn i s7.heap∧(∀ b∈fp,H' b=none)∧W i m H':=fun {s7 H7 m'} I7 hm w7=>by
        refine ⟨m',hm,i + 1,H7,I7.unpinned.weak (by rw [I3.len,I7.len]) hk4,T.keep _ _ _ st3 fun b hb o e=>(I7.pin (b,o) (List.mem_append_right _ (List.mem_append_right _ (mem_pinsAt hb e)))).1,fun b hb=>?_,w7⟩
        obtain ⟨o,e,d⟩:=T.obj _ _ st3 b hb
        exact (I7.pin (b,o) (List.mem_append_right _ (List.mem_append_right _ (mem_pinsAt hb e)))).2.1
      cases ok with
      | false=>
        obtain ⟨m',hm,w7⟩:=q5
        exact wpAny_pure ⟨rfl,again' I5 hm w7⟩
      | true=>
        refine wpAny_bind (wpAny_bind (noE (thn (he _ s5 σ4 H5 _ I5 q5) fun y s6 ⟨yv,H6,I6,r6,zs,hD,hz,m',hm,w7⟩=>?_)))
        refine wpAny_bind (noE (thn (mt_append (X:=X') _ s6 σ4 H6 (.ref D) [yv] (.ref D) [y] (fun v H7=>H7=upd H6 D (.lst (zs ++ [yv]))) I6 rfl (.cons r6 .nil) ⟨D,zs,yv,rfl,rfl,hD,hz,rfl⟩) fun v s7 ⟨vv,H7,I7,_,e7⟩=>?_))
        subst e7
        exact wpAny_pure (wpAny_pure ⟨rfl,again' I7 hm w7⟩)
  refine codeAny_compStart_list loop (T.self _ 0 s _ _ st loop)
theorem comp_block {pins : List (Addr×Obj)} {σ : St} {H : Hp} {s : Shared} {Q : VK} {it : Addr} {fp : List Addr} {tn : Nat→Heap→Prop} {J : It} {E : Value→Shared→Prop} (I : Inv X pins σ H s) (hcalm : X.calm=true) (S : CompScope X N' ix scope)
    (T : Turn X.prog X.w X.K tg J fp it tn) (st : tn 0 s.heap) (hf : ∀ b∈fp,FpOk X pins H b)
    (hg : ∀ C s H fp,PG (cxComp X N' scope C s H fp) tg g) (hi : ∀ C s H fp,PIfs (cxComp X N' scope C s H fp) ifs ti) (he : ∀ C s H fp,PE (cxComp X N' scope C s H fp) elt te)
    (h : ∀ D,H D=none→∃ W : Nat→Nat→Hp→Prop,(∃ m,W 0 m (upd H D (.lst [])))∧∀ i m H,W i m H→
      (J.stop i H∧Q (.ref D) H)∨(J.go i H∧∀ x H',J.yld i H x H'→g x (compSt ix σ) H' fun σ2 H2=>(∀ (k : Nat) v,(compSt ix σ)[k]? = some (some v)→σ2[k]? = some (some v))∧ti σ2 H2 fun b H3=>
        if b=true then te σ2 H3 fun y H4=>∃ zs,H4 D=some (.lst zs)∧zs.length < sizeLine∧∃ m',m' < m∧W (i + 1) m' (upd H4 D (.lst (zs ++ [y]))) else ∃ m',m' < m∧W (i + 1) m' H3)) :
    wpAny (model X.prog X.w) X.A (newList []) (fun acc s3=>wpAny (model X.prog X.w) X.A (newFunctionEnv scope X.env.globals (clOf X.env scope.names []) [] X.env.qual none .none (some X.env)) (fun cenv s4=>
      codeAny (model X.prog X.w) X.A (.compStart (.ListComp elt [⟨tg,iter,ifs,0⟩] scope pos) 0 (.ref it) acc { cenv with scope:=relabel scope X.env }) (CompEnd X pins σ Q acc cenv.locals) s4) E s3) E s:=by
  refine wpAny_newList ?_
  have fresh0 : H s.heap.objs.size=none:=I.hok.fresh (Nat.le_refl _)
  have I3 : Inv X pins σ (upd H s.heap.objs.size (.lst [])) { s with heap:=s.heap.push { cls:=.type "list",data:=.seq ([] : List Value).toArray } } :=
    I.laid (t':=s.toks) (fun b u e=>Heap.get?_push_of_some _ e) (Nat.le_refl _) ⟨by show 0≤sizeLine; exact Nat.zero_le _,[],0,.nil,Heap.get?_push_size _ rfl⟩
  obtain ⟨W,⟨m0,w0⟩,turn⟩:=h s.heap.objs.size fresh0
  generalize hD : s.heap.objs.size=D at *
  have lt0 : ∀ b∈fp,b < s.heap.objs.size:=fun b hb=>by obtain ⟨o,e,_⟩:=T.obj 0 _ st b hb; exact Heap.lt_size e
  have hf3 : ∀ b∈fp,FpOk X pins (upd H D (.lst [])) b:=fun b hb=>by
    have nb : b≠D:=by rw [← hD]; exact Nat.ne_of_lt (lt0 b hb)
    obtain ⟨f0,fr⟩:=hf b hb
    exact ⟨by rw [upd_ne nb]; exact f0,fr⟩
  have st3 : tn 0 (s.heap.push { cls:=.type "list",data:=.seq ([] : List Value).toArray }):=T.keep _ _ _ st fun b hb o e=>Heap.get?_push_of_some _ e
  revert I3 st3
  generalize (s.heap.push { cls:=.type "list",data:=.seq ([] : List Value).toArray })=h3
  intro I3 st3
  have lt3 : ∀ b∈fp,b < h3.objs.size:=fun b hb=>by obtain ⟨o,e,_⟩:=T.obj 0 _ st3 b hb; exact Heap.lt_size e
  refine wpAny_newFunctionEnv S.nocell (fun x hx=>nomatch hx) (fun h4 hns hsb=>?_) S.kind
  have k4 : ∀ b o,h3.get? b=some o→h4.get? b=some o:=fun b o e=>(hsb.2 b (Nat.ne_of_lt (Heap.lt_size e))).trans (Heap.get?_push_of_some _ e)
  have J4 : Inv (cxComp X N' scope h3.objs.size { s with heap:=h3 } (upd H D (.lst [])) fp) [] (compSt ix σ) (upd H D (.lst [])) { s with heap:=h4,toks:=s.toks + ([] : List (Str×Value)).length }:=
    inv_comp (s:={ s with heap:=h3 }) (tk:=s.toks + ([] : List (Str×Value)).length) I3 hcalm S hf3 lt3 hns k4
  have st4 : tn 0 ({ s with heap:=h4,toks:=s.toks + ([] : List (Str×Value)).length } : Shared).heap:=T.keep _ _ _ st3 fun b hb o e=>k4 b o e
  have fr4 : ∀ b∈fp,upd H D (.lst []) b=none:=fun b hb=>(hf3 b hb).1
  revert J4 st4
  generalize ({ s with heap:=h4,toks:=s.toks + ([] : List (Str×Value)).length } : Shared)=s4
  intro J4 st4
  have hf4 : ∀ b∈fp,FpOk (cxComp X N' scope h3.objs.size { s with heap:=h3 } (upd H D (.lst [])) fp) [] (upd H D (.lst [])) b:=fun b hb=>
    ⟨fr4 b hb,Nat.ne_of_lt (lt3 b hb),J4.ok.exfs b hb,.inl hb,fun x c e=>(J4.ok.exf b hb).2 x c e,fun p hp=>nomatch hp⟩
  refine codeAny_mono (comp_loop (X':=cxComp X N' scope h3.objs.size { s with heap:=h3 } (upd H D (.lst [])) fp) (Q:=Q) (D:=D) J4 rfl rfl T st4 hf4 (hg _ _ _ _) (hi _ _ _ _) (he _ _ _ _) w0 turn) fun r s' ⟨hr,H',J',q'⟩=>?_
  refine ⟨D,H',rfl,hr,I3.call' J'.os J'.base J'.hok J'.bare fun b hb=>?_,?_,?_,q'⟩
  · obtain ⟨_,f1,_,f3,f4,f5⟩:=hf3 b hb
    exact ⟨f3,f1,f4,f5⟩
  · exact I3.fpOk (H':=H') (Nat.le_refl _) J'.free
  · obtain ⟨m,hn,_⟩:=J'.loc
    exact ⟨m,hn⟩
end
end L2
namespace L2
open PySem PySem.Spec PyProof.Rows
section
variable {X : Cx} {N' : List Str} {ix : List (Option Nat)} {scope : Scope} {elt tg iter : Expr} {ifs : List Expr} {pos : Pos} {wi : TI} {g : TG} {ti : TT} {te : TE}
theorem comp_closure {pins : List (Addr×Obj)} {σ : St} {H : Hp} {s : Shared} (I : Inv X pins σ H s) (S : CompScope X N' ix scope) : closureFor scope X.env=pure (clOf X.env scope.names []):=
  closureFor_cl fun y hy e=>I.ok.has y.1 (.inl (S.free y hy e))
theorem pe_comp (hcalm : X.calm=true) (S : CompScope X N' ix scope) (hit : PI X tg iter wi)
    (hg : ∀ C s H fp,PG (cxComp X N' scope C s H fp) tg g) (hi : ∀ C s H fp,PIfs (cxComp X N' scope C s H fp) ifs ti) (he : ∀ C s H fp,PE (cxComp X N' scope C s H fp) elt te)
    (hs : ∀ x,foldedSetIterable iter X.env x=pure x:=by intro _; rfl) : PE X (.ListComp elt [⟨tg,iter,ifs,0⟩] scope pos) (tComp ix wi g ti te):=by
  intro pins s σ H Q I h
  rw [eval_ListComp]
  refine wpAny_comprehension_free (use:=none) rfl hs (comp_closure I S) S.kind S.loc (thn (hit pins s σ H _ I h) fun v s1 h1=>thn h1 fun itv s2 h2=>?_)
  obtain ⟨it,fp,tn,J,H2,rfl,I2,T,st2,f2,q2⟩:=h2
  refine thn (comp_block (E:=X.xe) (elt:=elt) (iter:=iter) (pos:=pos) I2 hcalm S T st2 f2 hg hi he q2) fun acc s3 h3=>thn h3 fun cenv s4 h4=>codeAny_mono h4 fun r s' hr=>?_
  obtain ⟨D,H',rfl,⟨f,rfl⟩,I',⟨g0,g1,_,g3,g4,g5⟩,⟨m,hm⟩,q'⟩:=hr
  exact ⟨m,hm,fun h' hsb=>⟨.ref D,H',I'.turned (t':=s'.toks) (fun b o hb e=>(hsb.2 b hb).trans e) g0 g1 g3 g4 g5,rfl,q'⟩⟩
theorem ps_setComp {i : Nat} {y : Str} {py spos : Pos} (hN : X.N.Nodup) (hy : X.N[i]? = some y) (hly : Loc X.env.scope y) (hcalm : X.calm=true) (S : CompScope X N' ix scope) (hit : PI X tg iter wi)
    (hg : ∀ C s H fp,PG (cxComp X N' scope C s H fp) tg g) (hi : ∀ C s H fp,PIfs (cxComp X N' scope C s H fp) ifs ti) (he : ∀ C s H fp,PE (cxComp X N' scope C s H fp) elt te)
    (hsw : swapsWith (.ListComp elt [⟨tg,iter,ifs,0⟩] scope pos) (some (.Name y py)) spos.line X.env=pure true:=by rfl) (hs : ∀ x,foldedSetIterable iter X.env x=pure x:=by intro _; rfl)
    (hf : X.fn y=true∨X.env.scope.names.lookup y=some .local:=by first | exact .inl rfl | exact .inr rfl | assumption) :
    PS X (.Assign [.Name y py] (.ListComp elt [⟨tg,iter,ifs,0⟩] scope pos) spos) (tAsg (tComp ix wi g ti te) (gName i)):=by
  intro pins s σ H D I h
  rw [exec_Assign_Name_used _ _ _ _ hsw]
  refine wpAny_bind (wpAny_standAt (wpAny_bind ?_))
  show wpAny _ X.A (do let _ ← comprehension (.ListComp elt [⟨tg,iter,ifs,0⟩] scope pos) scope X.env _ (newList []) false (eval iter X.env) (some (assign (.Name y py) X.env))) _ _ s
  refine wpAny_bind (thn (wpAny_comprehension_free (use:=some (assign (.Name y py) X.env)) (Q:=fun _ s'=>SP X pins D .next s') rfl hs (comp_closure I S) S.kind S.loc (thn (hit pins s σ H _ I h) fun v s1 h1=>thn h1 fun itv s2 h2=>?_)) fun _ s' hq=>wpAny_pure (wpAny_pure hq))
  obtain ⟨it,fp,tn,J,H2,rfl,I2,T,st2,f2,q2⟩:=h2
  refine thn (comp_block (E:=X.xe) (Q:=fun x H1=>gName i x σ H1 D.nx) (elt:=elt) (iter:=iter) (pos:=pos) I2 hcalm S T st2 f2 hg hi he q2) fun acc s3 h3=>thn h3 fun cenv s4 h4=>codeAny_mono h4 fun r s' hr=>?_
  obtain ⟨A,H',rfl,⟨f,rfl⟩,I',⟨g0,g1,g2,g3,g4,g5⟩,⟨m,hm⟩,q'⟩:=hr
  show wpAny _ X.A (assign (.Name y py) X.env (.ref A)) _ _ _
  refine wpAny_assign_Name (store_ok2 I' hN hy hly (v:=.ref A) rfl (fun s5 I5 ⟨a,hsb,ha⟩=>?_) hf)
  have na : cenv.locals≠a:=by
    rcases ha with z | z
    · rw [z]; exact g1
    · exact (g4 y a z).symm
  exact ⟨m,hm.sameBut hsb na,fun h' hsb'=>⟨_,H',I5.turned (t':=s5.toks) (fun b o hb e=>(hsb'.2 b hb).trans e) g0 g1 g3 g4 g5,q'⟩⟩
end
end L2
namespace L2
open PySem PySem.Spec PyProof.Rows PySem.Builtin.SmallTypes
def SqI (h : Heap) (b : Bool) (it a : Addr) (k : Nat) : Prop:=match b with
  | true=>h.IsListIter it a k
  | false=>h.IsTupleIter it a k
def SqH (h : Heap) (b : Bool) (a : Addr) (its : Array Value) : Prop:=match b with
  | true=>h.IsList a its
  | false=>h.IsTuple a its
theorem SqI.ext {h h' : Heap} {b : Bool} {it a c : Addr} {k : Nat} (x : SqI h b it a k) (e : Heap.ExtBut c h h') (n : it≠c) : SqI h' b it a k:=by
  cases b with
  | true=>exact Heap.IsListIter.at (h:=h) x fun o q=>e it o n q
  | false=>exact Heap.IsTupleIter.at (h:=h) x fun o q=>e it o n q
theorem SqI.keep {h h' : Heap} {b : Bool} {it a : Addr} {k : Nat} (x : SqI h b it a k) (e : ∀ o,h.get? it=some o→h'.get? it=some o) : SqI h' b it a k:=by
  cases b with
  | true=>exact Heap.IsListIter.at (h:=h) x e
  | false=>exact Heap.IsTupleIter.at (h:=h) x e
theorem SqH.ext {h h' : Heap} {b : Bool} {a c : Addr} {its : Array Value} (x : SqH h b a its) (e : Heap.ExtBut c h h') (n : a≠c) : SqH h' b a its:=by
  cases b with
  | true=>exact Heap.IsList.at (h:=h) x fun o q=>e a o n q
  | false=>
    obtain ⟨o,h1,h2⟩:=(show h.IsTuple a its from x)
    exact (show h'.IsTuple a its from ⟨o,e a o n h1,h2⟩)
theorem SqI.obj {h : Heap} {b : Bool} {it a : Addr} {k : Nat} (x : SqI h b it a k) : ∃ o,h.get? it=some o∧∃ vs,o.data = .fields vs:=by
  cases b with
  | true=>obtain ⟨o,h1,_,h3⟩:=(show h.IsListIter it a k from x); exact ⟨o,h1,_,h3⟩
  | false=>obtain ⟨o,h1,_,h3⟩:=(show h.IsTupleIter it a k from x); exact ⟨o,h1,_,h3⟩
section
variable {prog : Program} {w : World} {A : Around} {E : Value→Shared→Prop} {s : Shared}
theorem tupIt_next {it t : Addr} {i : Nat} {its : Array Value} {x : Value} {Q : Value→Shared→Prop} (hi : s.heap.IsTupleIter it t i) (ht : s.heap.IsTuple t its) (hx : its[i]? = some x)
    (hq : ∀ h',h'.IsTupleIter it t (i + 1)→Heap.SameBut it s.heap h'→Q x { s with heap:=h' }) : wpAny (model prog w) A (nextOf (.ref it)) Q E s:=by
  obtain ⟨oi,e1,ec,ed⟩:=id hi
  obtain ⟨ot,e2,_,nt,et⟩:=ht
  (unfold nextOf; refine wpAny_bind (wpAny_callSpecial?_slot (name:=Str.ofString "__next__") hi.typeIs F.slot_tuple_iterator_next (wpAny_call_entry F.slot_tuple_iterator_next hi.typeIs F.entry_tuple_iterator_next ?_ (F.args_tuple_iterator_next_1 _))))
  (show wpAny _ _ (field (.ref it) 0 >>= _) _ _ s; refine wpAny_bind (wpAny_field e1 ed (x:=.ref t) rfl ?_))
  (show wpAny _ _ (if (Value.ref t == Value.none)=true then _ else _) _ _ s; rw [if_neg (show ¬ ((Value.ref t == Value.none)=true) from Bool.false_ne_true)])
  (show wpAny _ _ (field (.ref it) 1 >>= _) _ _ s; refine wpAny_bind (wpAny_field e1 ed (x:=.int i 0) rfl ?_))
  (show wpAny _ _ (seqItems? (.ref t) >>= _) _ _ s; refine wpAny_bind (wpAny_seqItems e2 et ?_))
  simp only [Int.toNat_natCast,hx]
  refine wpAny_bind (wpAny_setField e1 ed (by simp) (wpAny_pure ⟨x,rfl,wpAny_pure (hq _ ?_ (Heap.SameBut.update ..))⟩))
  exact ⟨_,Heap.get?_update_self _ e1 (Obj.isFreed_of_fields (Obj.data_mapFields ed _)),(Obj.cls_mapFields ..).trans ec,by rw [Obj.data_mapFields ed]; simp [rawInt]⟩
theorem tupIt_end {it t : Addr} {i : Nat} {its : Array Value} {Q : Value→Shared→Prop} (hh : A.handled=none) (hi : s.heap.IsTupleIter it t i) (ht : s.heap.IsTuple t its) (hx : its[i]? = none)
    (hE : ∀ h' e,Heap.ExtBut it s.heap h'→(∃ o,h'.get? e=some o∧o.cls = .type "StopIteration")→E (.ref e) { s with heap:=h' }) : wpAny (model prog w) A (nextOf (.ref it)) Q E s:=by
  obtain ⟨oi,e1,ec,ed⟩:=id hi
  obtain ⟨ot,e2,_,nt,et⟩:=ht
  (unfold nextOf; refine wpAny_bind (wpAny_callSpecial?_slot (name:=Str.ofString "__next__") hi.typeIs F.slot_tuple_iterator_next (wpAny_call_entry F.slot_tuple_iterator_next hi.typeIs F.entry_tuple_iterator_next ?_ (F.args_tuple_iterator_next_1 _))))
  (show wpAny _ _ (field (.ref it) 0 >>= _) _ _ s; refine wpAny_bind (wpAny_field e1 ed (x:=.ref t) rfl ?_))
  (show wpAny _ _ (if (Value.ref t == Value.none)=true then _ else _) _ _ s; rw [if_neg (show ¬ ((Value.ref t == Value.none)=true) from Bool.false_ne_true)])
  (show wpAny _ _ (field (.ref it) 1 >>= _) _ _ s; refine wpAny_bind (wpAny_field e1 ed (x:=.int i 0) rfl ?_))
  (show wpAny _ _ (seqItems? (.ref t) >>= _) _ _ s; refine wpAny_bind (wpAny_seqItems e2 et ?_))
  simp only [Int.toNat_natCast,hx]
  refine wpAny_bind (wpAny_rule (wpAny_bind (wpAny_setField e1 ed (by simp) ?_)))
  (show wpAny _ _ (newExc (.type "StopIteration") [] >>= _) _ _ _; refine wpAny_bind ?_)
  (simp only [newExc,newTuple]; refine wpAny_bind (wpAny_newObj_type ?_ (by size_fits)))
  refine wpAny_bind (m:=firstArgMember _ _) (wpAny_of_eq (a:=Value.none) (by rfl) ?_)
  refine wpAny_newObj_type ?_ (by size_fits)
  (simp only [raiseNew]; refine wpAny_bind (wpAny_handled ?_))
  rw [show A.in1.handled=none from hh]
  refine wpAny_bind (wpAny_pure (wpAny_throw ?_))
  exact hE _ _ (((Heap.SameBut.update ..).extBut.push _).push _) ⟨_,Heap.get?_push_size _ rfl,rfl⟩
theorem sq_next {b : Bool} {it a : Addr} {i : Nat} {its : Array Value} {x : Value} {Q : Value→Shared→Prop} (hi : SqI s.heap b it a i) (ha : SqH s.heap b a its) (hx : its[i]? = some x)
    (hq : ∀ h',SqI h' b it a (i + 1)→Heap.SameBut it s.heap h'→Q x { s with heap:=h' }) : wpAny (model prog w) A (nextOf (.ref it)) Q E s:=by
  cases b with
  | true=>exact wpAny_nextOf_list_item hi ha hx hq
  | false=>exact tupIt_next hi ha hx hq
theorem sq_end {b : Bool} {it a : Addr} {i : Nat} {its : Array Value} {Q : Value→Shared→Prop} (hh : A.handled=none) (hi : SqI s.heap b it a i) (ha : SqH s.heap b a its) (hx : its[i]? = none)
    (hE : ∀ h' e,Heap.ExtBut it s.heap h'→(∃ o,h'.get? e=some o∧o.cls = .type "StopIteration")→E (.ref e) { s with heap:=h' }) : wpAny (model prog w) A (nextOf (.ref it)) Q E s:=by
  cases b with
  | true=>exact wpAny_nextOf_list_end hh hi ha hx hE
  | false=>exact tupIt_end hh hi ha hx hE
variable {z TI TO i1 i2 l1 l2 : Addr} {b1 b2 : Bool} {k1 k2 : Nat} {xs ys : Array Value} {x y a b : Value}
theorem zipS_item {Q : Value→Shared→Prop} (D : ZipApart z TI TO i1 i2 l1 l2) (hz : IsZip s.heap z TI TO .none) (hTI : IsPair s.heap TI (.ref i1) (.ref i2)) (hTO : IsPair s.heap TO a b)
    (h1 : SqI s.heap b1 i1 l1 k1) (h2 : SqI s.heap b2 i2 l2 k2) (hl1 : SqH s.heap b1 l1 xs) (hl2 : SqH s.heap b2 l2 ys) (hx : xs[k1]? = some x) (hy : ys[k2]? = some y)
    (hq : ∀ h',IsZip h' z TI TO (rawInt s.heap.objs.size)→IsPair h' TO x y→SqI h' b1 i1 l1 (k1 + 1)→SqI h' b2 i2 l2 (k2 + 1)→IsPair h' s.heap.objs.size x y→h'.objs.size=s.heap.objs.size + 1→
      (∀ c o,c≠z→c≠TO→c≠i1→c≠i2→s.heap.get? c=some o→h'.get? c=some o)→Q (.ref s.heap.objs.size) { s with heap:=h' }) :
    wpAny (model prog w) A (Builtin.«zip.__next__» ⟨[.ref z],[]⟩) (fun fin s'=>∃ v,fin = .done (.ret v)∧Q v s') E s:=by
  (show wpAny _ _ (field (.ref z) 2 >>= _) _ _ _; refine wpAny_bind (wpAny_field hz rfl (x:=.bool false) rfl ?_))
  (show wpAny _ _ (field (.ref z) 3 >>= _) _ _ _; refine wpAny_bind (wpAny_field hz rfl (x:=.ref TI) rfl (wpAny_bind (wpAny_seqItems hTI rfl ?_))))
  (show wpAny _ _ (ownedTupleIsFree (.ref z) >>= _) _ _ _; refine wpAny_bind ?_)
  (unfold ownedTupleIsFree; refine wpAny_bind (wpAny_field hz rfl (x:=.none) rfl (wpAny_pure ?_)))
  (simp only [if_true]; refine wpAny_bind (wpAny_rule (wpAny_bind (wpAny_field hz rfl (x:=.ref TO) rfl ?_))))
  refine wpAny_bind (wpAny_setField_rec hz (by simp) fun g1 z1 s1=>?_)
  replace z1 : IsZip g1 z TI TO .ellipsis:=z1
  (refine wpAny_bind ?_; simp only [List.zipIdx_cons,List.zipIdx_nil,List.forIn_cons,List.forIn_nil])
  (refine wpAny_bind (wpAny_bind (wpAny_onRaise ?_)); show wpAny _ _ (nextOf (.ref i1) >>= _) _ _ _)
  refine wpAny_bind (sq_next (h1.ext s1.extBut D.i1z) (hl1.ext s1.extBut D.l1z) hx fun g2 p2 s2=>wpAny_pure ?_)
  have t2 : IsPair g2 TO a b:=s2.extBut _ _ D.TOi1 (s1.extBut _ _ D.TOz hTO)
  refine wpAny_bind (wpAny_seqItems t2 rfl (wpAny_bind (wpAny_updateSeq_pair t2 fun g3 t3 s3=>?_)))
  replace t3 : IsPair g3 TO x b:=t3
  (refine wpAny_bind (wpAny_letGo (wpAny_pure ?_)); refine wpAny_bind (wpAny_bind (wpAny_onRaise ?_)); show wpAny _ _ (nextOf (.ref i2) >>= _) _ _ _)
  refine wpAny_bind (sq_next (((h2.ext s1.extBut D.i2z).ext s2.extBut D.i12.symm).ext s3.extBut D.TOi2.symm) (((hl2.ext s1.extBut D.l2z).ext s2.extBut D.l2i1).ext s3.extBut D.l2TO) hy fun g4 p4 s4=>wpAny_pure ?_)
  have t4 : IsPair g4 TO x b:=s4.extBut _ _ D.TOi2 t3
  refine wpAny_bind (wpAny_seqItems t4 rfl (wpAny_bind (wpAny_updateSeq_pair t4 fun g5 t5 s5=>?_)))
  replace t5 : IsPair g5 TO x y:=t5
  (refine wpAny_bind (wpAny_letGo (wpAny_pure (wpAny_pure ?_))); refine wpAny_bind (wpAny_seqItems t5 rfl (wpAny_bind (wpAny_newTuple ?_))))
  have ez : g5.objs.size=s.heap.objs.size:=by rw [s5.1,s4.1,s3.1,s2.1,s1.1]
  have z5 : IsZip g5 z TI TO .ellipsis:=s5.extBut _ _ D.TOz.symm (s4.extBut _ _ D.i2z.symm (s3.extBut _ _ D.TOz.symm (s2.extBut _ _ D.i1z.symm z1)))
  have kp : ∀ c o,c≠z→c≠TO→c≠i1→c≠i2→s.heap.get? c=some o→g5.get? c=some o:=fun c o c1 c2 c3 c4 e=>s5.extBut _ _ c2 (s4.extBut _ _ c4 (s3.extBut _ _ c2 (s2.extBut _ _ c3 (s1.extBut _ _ c1 e))))
  have p1 : SqI g5 b1 i1 l1 (k1 + 1):=((p2.ext s3.extBut D.TOi1.symm).ext s4.extBut D.i12).ext s5.extBut D.TOi1.symm
  have p5 : SqI g5 b2 i2 l2 (k2 + 1):=p4.ext s5.extBut D.TOi2.symm
  have q1 : i1 < g5.objs.size:=let ⟨_,e,_⟩:=p1.obj; Heap.lt_size e
  have q2 : i2 < g5.objs.size:=let ⟨_,e,_⟩:=p5.obj; Heap.lt_size e
  (show wpAny _ _ (ownedTupleHandOut (.ref z) (.ref g5.objs.size) >>= _) _ _ _; refine wpAny_bind ?_; unfold ownedTupleHandOut)
  have z6 : IsZip (g5.push { cls:=.type "tuple",data:=.seq #[x,y] }) z TI TO .ellipsis:=Heap.get?_push_of_some _ z5
  refine wpAny_bind (wpAny_setField_rec z6 (by simp) fun g7 z7 s7=>?_)
  replace z7 : IsZip g7 z TI TO (rawInt g5.objs.size):=z7
  refine wpAny_setField_rec z7 (by simp) fun g8 z8 s8=>?_
  replace z8 : IsZip g8 z TI TO (rawInt g5.objs.size):=z8
  have up : ∀ c o,c≠z→g5.get? c=some o→g8.get? c=some o:=fun c o c1 e=>s8.extBut _ _ c1 (s7.extBut _ _ c1 (Heap.get?_push_of_some _ e))
  have nT : g5.objs.size≠z:=Nat.ne_of_gt (Heap.lt_size z5)
  have T8 : IsPair g8 g5.objs.size x y:=s8.extBut _ _ nT (s7.extBut _ _ nT (Heap.get?_push_size _ rfl))
  have e8 : g8.objs.size=g5.objs.size + 1:=by rw [s8.1,s7.1,Heap.size_push]
  refine wpAny_pure ⟨_,rfl,?_⟩
  rw [ez] at z8 T8 e8 ⊢
  exact hq g8 z8 (up _ _ D.TOz t5) (p1.keep fun o e=>up _ o D.i1z e) (p5.keep fun o e=>up _ o D.i2z e) T8 e8 fun c o c1 c2 c3 c4 e=>up c o c1 (kp c o c1 c2 c3 c4 e)
theorem zipS_end {Q : Fin→Shared→Prop} (hh : A.handled=none) (D : ZipApart z TI TO i1 i2 l1 l2) (hz : IsZip s.heap z TI TO .none) (hTI : IsPair s.heap TI (.ref i1) (.ref i2)) (hTO : IsPair s.heap TO a b)
    (h1 : SqI s.heap b1 i1 l1 k1) (h2 : SqI s.heap b2 i2 l2 k2) (hl1 : SqH s.heap b1 l1 xs) (hl2 : SqH s.heap b2 l2 ys) (hend : xs[k1]? = none∨ys[k2]? = none)
    (hE : ∀ h' e,(∀ c o,c≠z→c≠TO→c≠i1→c≠i2→s.heap.get? c=some o→h'.get? c=some o)→(∃ o,h'.get? e=some o∧o.cls = .type "StopIteration")→E (.ref e) { s with heap:=h' }) :
    wpAny (model prog w) A (Builtin.«zip.__next__» ⟨[.ref z],[]⟩) Q E s:=by
  (show wpAny _ _ (field (.ref z) 2 >>= _) _ _ _; refine wpAny_bind (wpAny_field hz rfl (x:=.bool false) rfl ?_))
  (show wpAny _ _ (field (.ref z) 3 >>= _) _ _ _; refine wpAny_bind (wpAny_field hz rfl (x:=.ref TI) rfl (wpAny_bind (wpAny_seqItems hTI rfl ?_))))
  (show wpAny _ _ (ownedTupleIsFree (.ref z) >>= _) _ _ _; refine wpAny_bind ?_)
  (unfold ownedTupleIsFree; refine wpAny_bind (wpAny_field hz rfl (x:=.none) rfl (wpAny_pure ?_)))
  (simp only [if_true]; refine wpAny_bind (wpAny_rule (wpAny_bind (wpAny_field hz rfl (x:=.ref TO) rfl ?_))))
  refine wpAny_bind (wpAny_setField_rec hz (by simp) fun g1 z1 s1=>?_)
  replace z1 : IsZip g1 z TI TO .ellipsis:=z1
  (refine wpAny_bind ?_; simp only [List.zipIdx_cons,List.zipIdx_nil,List.forIn_cons,List.forIn_nil])
  (refine wpAny_bind (wpAny_bind (wpAny_onRaise ?_)); show wpAny _ _ (nextOf (.ref i1) >>= _) _ _ _)
  cases ex : xs[k1]? with
  | none=>
    refine wpAny_bind (sq_end hh (h1.ext s1.extBut D.i1z) (hl1.ext s1.extBut D.l1z) ex fun g2 e s2 ⟨oe,he,ce⟩=>?_)
    have z2 : IsZip g2 z TI TO .ellipsis:=s2 _ _ D.i1z.symm z1
    have nez : e≠z:=fun q=>by subst q; rw [z2] at he; cases he; simp at ce
    exact wpAny_setField_rec z2 (by simp) fun g3 _ s3=>hE g3 e (fun c o c1 _ c3 _ q=>s3.extBut _ _ c1 (s2 _ _ c3 (s1.extBut _ _ c1 q))) ⟨oe,s3.extBut _ _ nez he,ce⟩
  | some x=>
    have ey : ys[k2]? = none:=by rcases hend with q | q; rw [ex] at q; cases q; exact q
    refine wpAny_bind (sq_next (h1.ext s1.extBut D.i1z) (hl1.ext s1.extBut D.l1z) ex fun g2 p2 s2=>wpAny_pure ?_)
    have t2 : IsPair g2 TO a b:=s2.extBut _ _ D.TOi1 (s1.extBut _ _ D.TOz hTO)
    refine wpAny_bind (wpAny_seqItems t2 rfl (wpAny_bind (wpAny_updateSeq_pair t2 fun g3 t3 s3=>?_)))
    (refine wpAny_bind (wpAny_letGo (wpAny_pure ?_)); refine wpAny_bind (wpAny_bind (wpAny_onRaise ?_)); show wpAny _ _ (nextOf (.ref i2) >>= _) _ _ _)
    refine wpAny_bind (sq_end hh (((h2.ext s1.extBut D.i2z).ext s2.extBut D.i12.symm).ext s3.extBut D.TOi2.symm) (((hl2.ext s1.extBut D.l2z).ext s2.extBut D.l2i1).ext s3.extBut D.l2TO) ey fun g4 e s4 ⟨oe,he,ce⟩=>?_)
    have z4 : IsZip g4 z TI TO .ellipsis:=s4 _ _ D.i2z.symm (s3.extBut _ _ D.TOz.symm (s2.extBut _ _ D.i1z.symm z1))
    have nez : e≠z:=fun q=>by subst q; rw [z4] at he; cases he; simp at ce
    exact wpAny_setField_rec z4 (by simp) fun g5 _ s5=>hE g5 e (fun c o c1 c2 c3 c4 q=>s5.extBut _ _ c1 (s4 _ _ c4 (s3.extBut _ _ c2 (s2.extBut _ _ c3 (s1.extBut _ _ c1 q))))) ⟨oe,s5.extBut _ _ nez he,ce⟩
end
end L2
namespace L2
open PySem PySem.Spec PyProof.Rows PySem.Builtin.SmallTypes
def itName : Bool→String
  | true => "list_iterator"
  | false => "tuple_iterator"
abbrev zg1 (h : Heap) (b1 : Bool) (l1 : Addr) : Heap:=h.push { cls:=.type (itName b1),data:=.fields #[.ref l1,.int 0 0] }
abbrev zg2 (h : Heap) (b1 b2 : Bool) (l1 l2 : Addr) : Heap:=(zg1 h b1 l1).push { cls:=.type (itName b2),data:=.fields #[.ref l2,.int 0 0] }
abbrev zg3 (h : Heap) (b1 b2 : Bool) (l1 l2 : Addr) : Heap:=(zg2 h b1 b2 l1 l2).push { cls:=.type "tuple",data:=.seq #[.ref h.objs.size,.ref (zg1 h b1 l1).objs.size] }
abbrev zg4 (h : Heap) (b1 b2 : Bool) (l1 l2 : Addr) : Heap:=(zg3 h b1 b2 l1 l2).push { cls:=.type "tuple",data:=.seq #[.none,.none] }
abbrev zg5 (h : Heap) (b1 b2 : Bool) (l1 l2 : Addr) : Heap:=(zg4 h b1 b2 l1 l2).push { cls:=.type "zip",data:=.fields #[.none,.bool false,.bool false,.ref (zg2 h b1 b2 l1 l2).objs.size,.ref (zg3 h b1 b2 l1 l2).objs.size] }
theorem meetsZip (b1 b2 : Bool) (l1 l2 : Addr) (xs ys : Array Value) :
    Meets (Builtin.«zip.__new__» ⟨[.type "zip",.ref l1,.ref l2],[]⟩) (fun _ R s=>SqH s.heap b1 l1 xs∧SqH s.heap b2 l2 ys ∧
      R (.ok (.ret (.ref (zg4 s.heap b1 b2 l1 l2).objs.size))) { s with heap:=zg5 s.heap b1 b2 l1 l2 }):=
  .of_wp fun prog w A R s h=>by
    obtain ⟨hp,g,d,tk,os⟩:=s; obtain ⟨q1,q2,h⟩:=h
    have hsub:=sub_zip
    cases b1 with
    | true=>
      have g1 : Heap.IsList (Shared.heap ⟨hp,g,d,tk,os⟩) l1 xs:=q1
      cases b2 with
      | true=>
        have g2 : Heap.IsList (Shared.heap ⟨hp.push { cls:=.type "list_iterator",data:=.fields #[.ref l1,.int 0 0] },g,d,tk,os⟩) l2 ys:=Heap.IsList.push (show hp.IsList l2 ys from q2) _
        wp_walk using wpAny_pyIter_list g1,wpAny_pyIter_list g2
        exact ⟨_,rfl,h⟩
      | false=>
        have g2 : Heap.IsTuple (Shared.heap ⟨hp.push { cls:=.type "list_iterator",data:=.fields #[.ref l1,.int 0 0] },g,d,tk,os⟩) l2 ys:=Heap.IsTuple.push (show hp.IsTuple l2 ys from q2) _
        wp_walk using wpAny_pyIter_list g1,wpAny_pyIter_tuple g2
        exact ⟨_,rfl,h⟩
    | false=>
      have g1 : Heap.IsTuple (Shared.heap ⟨hp,g,d,tk,os⟩) l1 xs:=q1
      cases b2 with
      | true=>
        have g2 : Heap.IsList (Shared.heap ⟨hp.push { cls:=.type "tuple_iterator",data:=.fields #[.ref l1,.int 0 0] },g,d,tk,os⟩) l2 ys:=Heap.IsList.push (show hp.IsList l2 ys from q2) _
        wp_walk using wpAny_pyIter_tuple g1,wpAny_pyIter_list g2
        exact ⟨_,rfl,h⟩
      | false=>
        have g2 : Heap.IsTuple (Shared.heap ⟨hp.push { cls:=.type "tuple_iterator",data:=.fields #[.ref l1,.int 0 0] },g,d,tk,os⟩) l2 ys:=Heap.IsTuple.push (show hp.IsTuple l2 ys from q2) _
        wp_walk using wpAny_pyIter_tuple g1,wpAny_pyIter_tuple g2
        exact ⟨_,rfl,h⟩
theorem sqi_new {h : Heap} {b : Bool} {it a : Addr} (e : h.get? it=some { cls:=.type (itName b),data:=.fields #[.ref a,.int 0 0] }) : SqI h b it a 0:=by
  cases b with
  | true=>exact (show h.IsListIter it a 0 from ⟨_,e,rfl,rfl⟩)
  | false=>exact (show h.IsTupleIter it a 0 from ⟨_,e,rfl,rfl⟩)
section
variable {prog : Program} {w : World} {A : Around} {E : Value→Shared→Prop} {s : Shared}
theorem call_zipS {b1 b2 : Bool} {l1 l2 : Addr} {xs ys : Array Value} {Q : Value→Shared→Prop} (q1 : SqH s.heap b1 l1 xs) (q2 : SqH s.heap b2 l2 ys)
    (hq : ∀ h',IsZip h' (s.heap.objs.size + 4) (s.heap.objs.size + 2) (s.heap.objs.size + 3) .none→IsPair h' (s.heap.objs.size + 2) (.ref s.heap.objs.size) (.ref (s.heap.objs.size + 1))→IsPair h' (s.heap.objs.size + 3) .none .none→
      SqI h' b1 s.heap.objs.size l1 0→SqI h' b2 (s.heap.objs.size + 1) l2 0→(∀ c o,s.heap.get? c=some o→h'.get? c=some o)→Q (.ref (s.heap.objs.size + 4)) { s with heap:=h' }) :
    wpAny (model prog w) A (call (.type "zip") [.ref l1,.ref l2]) Q E s:=by
  refine callType_new F.called_zip (by decide) (F.typeCall_zip_2 _ _) (F.newCall_zip_2 _ _) (fun obj=>F.args_object_init_3 obj _ _) F.entry_zip_new (meetsZip b1 b2 l1 l2 xs ys) ⟨q1,q2,?_⟩
  have n1 : (zg1 s.heap b1 l1).objs.size=s.heap.objs.size + 1:=Heap.size_push ..
  have n2 : (zg2 s.heap b1 b2 l1 l2).objs.size=s.heap.objs.size + 2:=by rw [Heap.size_push,n1]
  have n3 : (zg3 s.heap b1 b2 l1 l2).objs.size=s.heap.objs.size + 3:=by rw [Heap.size_push,n2]
  have n4 : (zg4 s.heap b1 b2 l1 l2).objs.size=s.heap.objs.size + 4:=by rw [Heap.size_push,n3]
  have p5 : (zg5 s.heap b1 b2 l1 l2).get? (zg4 s.heap b1 b2 l1 l2).objs.size=some _:=Heap.get?_push_size _ rfl
  have p4 : (zg5 s.heap b1 b2 l1 l2).get? (zg3 s.heap b1 b2 l1 l2).objs.size=some _:=Heap.get?_push_of_some _ (Heap.get?_push_size _ rfl)
  have p3 : (zg5 s.heap b1 b2 l1 l2).get? (zg2 s.heap b1 b2 l1 l2).objs.size=some _:=Heap.get?_push_of_some _ (Heap.get?_push_of_some _ (Heap.get?_push_size _ rfl))
  have p2 : (zg5 s.heap b1 b2 l1 l2).get? (zg1 s.heap b1 l1).objs.size=some _:=Heap.get?_push_of_some _ (Heap.get?_push_of_some _ (Heap.get?_push_of_some _ (Heap.get?_push_size _ rfl)))
  have p1 : (zg5 s.heap b1 b2 l1 l2).get? s.heap.objs.size=some _:=Heap.get?_push_of_some _ (Heap.get?_push_of_some _ (Heap.get?_push_of_some _ (Heap.get?_push_of_some _ (Heap.get?_push_size _ rfl))))
  rw [n2,n3,n4] at p5
  rw [n1,n2] at p3
  rw [n3] at p4
  rw [n1] at p2
  show _∧_
  rw [n4]
  exact ⟨⟨_,p5,rfl⟩,hq _ p5 p3 p4 (sqi_new p1) (sqi_new p2) fun c o e=>Heap.get?_push_of_some _ (Heap.get?_push_of_some _ (Heap.get?_push_of_some _ (Heap.get?_push_of_some _ (Heap.get?_push_of_some _ e))))⟩
variable {z TI TO i1 i2 l1 l2 : Addr} {b1 b2 : Bool} {k1 k2 : Nat} {xs ys : Array Value} {x y a b : Value}
theorem nextZip_item {Q : Option Value→Shared→Prop} (D : ZipApart z TI TO i1 i2 l1 l2) (hz : IsZip s.heap z TI TO .none) (hTI : IsPair s.heap TI (.ref i1) (.ref i2)) (hTO : IsPair s.heap TO a b)
    (h1 : SqI s.heap b1 i1 l1 k1) (h2 : SqI s.heap b2 i2 l2 k2) (hl1 : SqH s.heap b1 l1 xs) (hl2 : SqH s.heap b2 l2 ys) (hx : xs[k1]? = some x) (hy : ys[k2]? = some y)
    (hq : ∀ h',IsZip h' z TI TO (rawInt s.heap.objs.size)→IsPair h' TO x y→SqI h' b1 i1 l1 (k1 + 1)→SqI h' b2 i2 l2 (k2 + 1)→IsPair h' s.heap.objs.size x y→
      (∀ c o,c≠z→c≠TO→c≠i1→c≠i2→s.heap.get? c=some o→h'.get? c=some o)→Q (some (.ref s.heap.objs.size)) { s with heap:=h' }) : wpAny (model prog w) A (pyNext (.ref z)) Q E s:=by
  have ty : s.TypeIs (.ref z) "zip" := ⟨_,hz,rfl⟩
  (unfold pyNext; exact wpAny_bind (wpAny_attempt (wpAny_callSpecial?_slot (name:=Str.ofString "__next__") ty F.slot_zip_next (wpAny_call_entry F.slot_zip_next ty F.entry_zip_next (zipS_item D hz hTI hTO h1 h2 hl1 hl2 hx hy fun h' a1 a2 a3 a4 a5 _ a7=>wpAny_pure (hq h' a1 a2 a3 a4 a5 a7)) (F.args_zip_next_1 _)))))
theorem nextZip_end {Q : Option Value→Shared→Prop} (hh : A.handled=none) (D : ZipApart z TI TO i1 i2 l1 l2) (hz : IsZip s.heap z TI TO .none) (hTI : IsPair s.heap TI (.ref i1) (.ref i2)) (hTO : IsPair s.heap TO a b)
    (h1 : SqI s.heap b1 i1 l1 k1) (h2 : SqI s.heap b2 i2 l2 k2) (hl1 : SqH s.heap b1 l1 xs) (hl2 : SqH s.heap b2 l2 ys) (hend : xs[k1]? = none∨ys[k2]? = none)
    (hq : ∀ h',(∀ c o,c≠z→c≠TO→c≠i1→c≠i2→s.heap.get? c=some o→h'.get? c=some o)→Q none { s with heap:=h' }) : wpAny (model prog w) A (pyNext (.ref z)) Q E s:=by
  have ty : s.TypeIs (.ref z) "zip" := ⟨_,hz,rfl⟩
  (unfold pyNext; refine wpAny_bind (wpAny_attempt (wpAny_callSpecial?_slot (name:=Str.ofString "__next__") ty F.slot_zip_next (wpAny_call_entry F.slot_zip_next ty F.entry_zip_next (zipS_end hh D hz hTI hTO h1 h2 hl1 hl2 hend fun h' e hk ⟨o,ho,hc⟩=>?_) (F.args_zip_next_1 _)))))
  exact wpAny_bind (wpAny_isInstance (T := "StopIteration") (b:=true) ⟨o,ho,hc⟩ isSubtype_stop (wpAny_pure (hq _ hk)))
end
end L2
namespace L2
open PySem PySem.Spec PyProof.Rows
def SqB (K : PySem.W.Frag) (H : Hp) (b : Bool) (a : Addr) (xs : List V) : Prop:=match b with
  | true=>SqL K H a xs
  | false=>SqT K H a xs
section
variable {X : Cx} {pins : List (Addr×Obj)} {σ : St} {H : Hp} {s : Shared}
theorem Inv.sqB {b : Bool} {a : Addr} {xs : List V} (I : Inv X pins σ H s) (h : SqB X.K H b a xs) : ∃ its : List Value,Vals xs its∧SqH s.heap b a its.toArray:=by
  cases b with
  | true=>obtain ⟨its,r,p,_⟩:=I.list h; exact ⟨its,r,p.isList⟩
  | false=>obtain ⟨its,r,p,_⟩:=I.tuple h; exact ⟨its,r,p⟩
theorem Inv.sqB_inj {b : Bool} {a : Addr} {xs ys : List V} (I : Inv X pins σ H s) (h : SqB X.K H b a xs) (h' : SqB X.K H b a ys) : xs=ys:=by
  cases b with
  | true=>exact I.list_inj h h'
  | false=>exact I.tuple_inj h h'
theorem Inv.turnedL {h' : Heap} {t' : Nat} {ch : List Addr} (I : Inv X pins σ H s) (hf : ∀ b∈ch,FpOk X pins H b) (k : ∀ b o,b ∉ ch→s.heap.get? b=some o→h'.get? b=some o) : Inv X pins σ H { s with heap:=h',toks:=t' }:=by
  have nt : ∀ b u,H b=some u→b ∉ ch:=fun b u e z=>by rw [(hf b z).1] at e; cases e
  have hL : X.env.locals ∉ ch:=fun z=>(hf _ z).2.1 rfl
  refine I.step (g':=s.gens) (d':=s.drawn) (ch:=ch) (fun b hb=>⟨(hf b hb).2.2.2.1,(hf b hb).2.1,(hf b hb).2.2.2.2.1,(hf b hb).2.2.2.2.2⟩) (fun b o _ _ hc e _=>k b o hc e) (fun b o _ _ hc e _=>⟨o.slots,k b o hc e⟩) (fun _ _ _ _ n=>n)
    (fun b o hc e=>⟨o,k b o hc e⟩) (fun _ _ e=>e) (fun _ _ _ e=>e) (fun b ps e=>⟨#[],by rw [e]; simp⟩) (fun m hm=>?_) (fun b u e=>?_) I.bare
  · obtain ⟨o,es,ep,ho,r⟩:=hm
    exact ⟨o,es,ep,k _ o hL ho,r⟩
  · refine (I.hok b u e).stay (fun c v hc q=>k c v ?_ q) (fun _ q=>q) fun _ _ q=>q
    rcases hc with z | z
    · rw [z]; exact nt b u e
    · exact nt c _ z
theorem Inv.trackNew {h' : Heap} {t' : Nat} {a : Addr} {o : HO} (I0 : Inv X pins σ H s) (I : Inv X pins σ H { s with heap:=h',toks:=t' }) (ha : s.heap.objs.size≤a) (new : ObjOk X.prog X.w (upd H a o) h' a o) : Inv X pins σ (upd H a o) { s with heap:=h',toks:=t' }:=by
  refine I.track (Heap.get?_none_of_le (Nat.le_trans I0.sz ha)) (I0.hok.fresh ha) (Nat.ne_of_gt (Nat.lt_of_lt_of_le I0.lt ha)) (fun x c e z=>?_) (fun p hp z=>?_) new
  · obtain ⟨v,q⟩:=I0.cell x c e
    exact absurd (Nat.lt_of_lt_of_le q.lt (by rw [z]; exact ha)) (Nat.lt_irrefl _)
  · exact absurd (Nat.lt_of_lt_of_le (Heap.lt_size (I0.pin p hp).1) (by rw [z]; exact ha)) (Nat.lt_irrefl _)
end
def Itz (K : PySem.W.Frag) (b1 b2 : Bool) (l1 l2 : Addr) : It:=
  ⟨fun i H=>∃ xs ys x y,SqB K H b1 l1 xs∧SqB K H b2 l2 ys∧xs[i]? = some x∧ys[i]? = some y,
   fun i H v H'=>∃ p x y,v = .ref p∧H p=none∧H' = upd H p (.tup [x,y])∧∀ xs ys,SqB K H b1 l1 xs→SqB K H b2 l2 ys→xs[i]? = some x∧ys[i]? = some y,
   fun i H=>∃ xs ys,SqB K H b1 l1 xs∧SqB K H b2 l2 ys∧(xs.length≤i∨ys.length≤i)⟩
def zipTn (z TI TO i1 i2 l1 l2 : Addr) (b1 b2 : Bool) (i : Nat) (h : Heap) : Prop:=IsZip h z TI TO .none∧IsPair h TI (.ref i1) (.ref i2)∧(∃ a b,IsPair h TO a b)∧SqI h b1 i1 l1 i∧SqI h b2 i2 l2 i
theorem turn_zip {P : Program} {w : World} {K : PySem.W.Frag} {es : List Expr} {x1 : Nat} {tp : Pos} {z TI TO i1 i2 l1 l2 : Addr} {b1 b2 : Bool} (D : ZipApart z TI TO i1 i2 l1 l2) :
    Turn P w K (.Tuple es x1 tp) (Itz K b1 b2 l1 l2) [z,TI,TO,i1,i2] z (zipTn z TI TO i1 i2 l1 l2 b1 b2) where
  mem:=by simp
  obj:=fun i h ⟨t1,t2,⟨a,b,t3⟩,t4,t5⟩ c hc=>by
    simp only [List.mem_cons,List.not_mem_nil,or_false] at hc
    rcases hc with rfl | rfl | rfl | rfl | rfl
    · exact ⟨_,t1,fun v q=>by cases q⟩
    · exact ⟨_,t2,fun v q=>by cases q⟩
    · exact ⟨_,t3,fun v q=>by cases q⟩
    · obtain ⟨o,e,vs,d⟩:=t4.obj; exact ⟨o,e,fun v q=>by rw [d] at q; cases q⟩
    · obtain ⟨o,e,vs,d⟩:=t5.obj; exact ⟨o,e,fun v q=>by rw [d] at q; cases q⟩
  keep:=fun i h h' ⟨t1,t2,⟨a,b,t3⟩,t4,t5⟩ k=>⟨k z (by simp) _ t1,k TI (by simp) _ t2,⟨a,b,k TO (by simp) _ t3⟩,t4.keep fun o e=>k i1 (by simp) o e,t5.keep fun o e=>k i2 (by simp) o e⟩
  item:=by
    intro X hP hw hK hc i pins s σ H E I hf st hg
    subst hP hw hK
    obtain ⟨t1,t2,⟨a,b,t3⟩,t4,t5⟩:=st
    obtain ⟨xs,ys,x,y,q1,q2,e1,e2⟩:=hg
    obtain ⟨us,r1,p1⟩:=I.sqB q1
    obtain ⟨vs,r2,p2⟩:=I.sqB q2
    obtain ⟨u,eu,ru⟩:=r1.get e1
    obtain ⟨v,ev,rv⟩:=r2.get e2
    refine nextZip_item (x:=u) (y:=v) D t1 t2 t3 t4 t5 p1 p2 (by simpa using eu) (by simpa using ev) fun h' a1 a2 a3 a4 a5 a7=>?_
    refine ⟨_,rfl,wpAny_letOwnedTupleGo_zip a1 fun h'' c1 c2=>?_⟩
    have nz : s.heap.objs.size≠z:=Nat.ne_of_gt (Heap.lt_size t1)
    have I1 : Inv X pins σ H { s with heap:=h'',toks:=s.toks }:=I.turnedL hf fun c o hc q=>by
      simp only [List.mem_cons,List.not_mem_nil,or_false,not_or] at hc
      exact c2.extBut c o hc.1 (a7 c o hc.1 hc.2.2.1 hc.2.2.2.1 hc.2.2.2.2 q)
    have I2:=I.trackNew (t':=s.toks) (o:=.tup [x,y]) I1 (Nat.le_refl _) ⟨by show 2≤sizeLine; decide,[u,v],.cons ru (.cons rv .nil),⟨_,c2.extBut _ _ nz a5,rfl,_,rfl⟩⟩
    have fr : H s.heap.objs.size=none:=I.hok.fresh (Nat.le_refl _)
    refine ⟨.ref s.heap.objs.size,_,I2,rfl,⟨s.heap.objs.size,x,y,rfl,fr,rfl,fun xs' ys' q1' q2'=>⟨by rw [I.sqB_inj q1' q1]; exact e1,by rw [I.sqB_inj q2' q2]; exact e2⟩⟩,⟨c1,c2.extBut _ _ D.TIz (a7 TI _ D.TIz D.TITO D.TIi1 D.TIi2 t2),⟨u,v,c2.extBut _ _ D.TOz a2⟩,a3.ext c2.extBut D.i1z,a4.ext c2.extBut D.i2z⟩,fun c hc=>?_⟩
    obtain ⟨o,eo⟩ : ∃ o,s.heap.get? c=some o:=by
      simp only [List.mem_cons,List.not_mem_nil,or_false] at hc
      rcases hc with rfl | rfl | rfl | rfl | rfl
      · exact ⟨_,t1⟩
      · exact ⟨_,t2⟩
      · exact ⟨_,t3⟩
      · obtain ⟨o,e,_⟩:=t4.obj; exact ⟨o,e⟩
      · obtain ⟨o,e,_⟩:=t5.obj; exact ⟨o,e⟩
    rw [upd_ne (Nat.ne_of_lt (Heap.lt_size eo))]
    exact (hf c hc).1
  done:=by
    intro X hP hw hK hc i pins s σ H E I hf st hg
    subst hP hw hK
    obtain ⟨t1,t2,⟨a,b,t3⟩,t4,t5⟩:=st
    obtain ⟨xs,ys,q1,q2,hl⟩:=hg
    obtain ⟨us,r1,p1⟩:=I.sqB q1
    obtain ⟨vs,r2,p2⟩:=I.sqB q2
    have n1:=r1.length
    have n2:=r2.length
    refine nextZip_end (I.ok.hd hc) D t1 t2 t3 t4 t5 p1 p2 ?_ fun h' kk=>⟨rfl,I.turnedL (t':=s.toks) hf fun c o hc q=>?_⟩
    · rcases hl with z | z
      · exact .inl (by simp; omega)
      · exact .inr (by simp; omega)
    · simp only [List.mem_cons,List.not_mem_nil,or_false,not_or] at hc
      exact kk c o hc.1 hc.2.2.1 hc.2.2.2.1 hc.2.2.2.2 q
  self:=fun _ _ _ _ _ st h=>wpAny_pyIter_zip st.1 h
section
variable {X : Cx} {es : List Expr} {x1 : Nat} {tp : Pos}
def iZip (K : PySem.W.Frag) (ta : TA) : TI:=fun σ H R=>ta σ H fun vs H1=>∃ b1 b2 l1 l2 xs ys,vs=[.ref l1,.ref l2]∧SqB K H1 b1 l1 xs∧SqB K H1 b2 l2 ys∧R (Itz K b1 b2 l1 l2) H1
theorem pi_zip {a b : Expr} {ta : TA} {p pos : Pos} (hg : Gl X "zip") (hm : X.mg "zip" = none) (ha : PA X [a,b] ta) (hs : starEach [a,b] X.env=[(false,eval a X.env),(false,eval b X.env)]:=by rfl) (hs2 : starEach [b] X.env=[(false,eval b X.env)]:=by rfl) :
    PI X (.Tuple es x1 tp) (.Call (.Name "zip" p) [a,b] [] pos) (iZip X.K ta):=by
  intro pins s σ H R I h
  refine Call_ (ld_blt I hg hm boot_zip (PyProof.Rows.callWith_type1 (thn (ha pos pins s σ H _ I h) fun us s1 ⟨vs,H1,I1,r1,q1⟩=>?_) (by rw [hs,hs2]) (by rw [hs2]; rfl)))
  obtain ⟨b1,b2,l1,l2,xs,ys,rfl,q1,q2,q⟩:=q1
  obtain ⟨u,v,rfl,ru,rv⟩:=r1.two
  cases ru; cases rv
  obtain ⟨us1,_,p1⟩:=I1.sqB q1
  obtain ⟨us2,_,p2⟩:=I1.sqB q2
  have n1 : l1 < s1.heap.objs.size:=by
    cases b1 with
    | true=>obtain ⟨o,e,_⟩:=(show s1.heap.IsList l1 _ from p1); exact Heap.lt_size e
    | false=>obtain ⟨o,e,_⟩:=(show s1.heap.IsTuple l1 _ from p1); exact Heap.lt_size e
  have n2 : l2 < s1.heap.objs.size:=by
    cases b2 with
    | true=>obtain ⟨o,e,_⟩:=(show s1.heap.IsList l2 _ from p2); exact Heap.lt_size e
    | false=>obtain ⟨o,e,_⟩:=(show s1.heap.IsTuple l2 _ from p2); exact Heap.lt_size e
  refine call_zipS p1 p2 fun h' a1 a2 a3 a4 a5 kk=>?_
  refine wpAny_pyIter_zip a1 ?_
  have I2 : Inv X pins σ H1 { s1 with heap:=h',toks:=s1.toks }:=I1.kept kk
  refine ⟨_,[s1.heap.objs.size + 4,s1.heap.objs.size + 2,s1.heap.objs.size + 3,s1.heap.objs.size,s1.heap.objs.size + 1],_,_,H1,rfl,I2,turn_zip (zipApart_new n1 n2),⟨a1,a2,⟨_,_,a3⟩,a4,a5⟩,fun c hc=>?_,q⟩
  have hge : s1.heap.objs.size≤c:=by
    simp only [List.mem_cons,List.not_mem_nil,or_false] at hc
    rcases hc with rfl | rfl | rfl | rfl | rfl <;> omega
  exact I1.fpOk (H':=H1) hge (I1.hok.fresh hge)
end
end L2
namespace L2
open PySem PySem.Spec PyProof.Rows
section
variable {X : Cx}
theorem vals_bools : ∀ {bs : List Bool} {us : List Value},Vals (bs.map V.bl) us→us=bs.map Value.bool
  | [],_,.nil=>rfl
  | b :: r,_,.cons x t=>by rw [show _=Value.bool b from x,vals_bools t]; rfl
theorem range_all {bs : List Bool} : (List.range bs.length).all (fun i=>bs.getD i false)=bs.all id:=by
  rw [Bool.eq_iff_iff,List.all_eq_true,List.all_eq_true]
  constructor
  · intro h b hb
    obtain ⟨i,hi,rfl⟩:=List.mem_iff_getElem.mp hb
    have:=h i (List.mem_range.mpr hi)
    simpa [List.getD_eq_getElem?_getD,hi] using this
  · intro h i hi
    have hi':=List.mem_range.mp hi
    have:=h _ (List.getElem_mem hi')
    simpa [List.getD_eq_getElem?_getD,hi'] using this
theorem bools_at {bs : List Bool} {i : Nat} {v : Value} (h : (bs.map Value.bool).toArray[i]? = some v) : v = .bool (bs.getD i false):=by
  have h' : (bs.map Value.bool)[i]? = some v:=by simpa using h
  rw [List.getElem?_map] at h'
  cases e : bs[i]? with
  | none=>rw [e] at h'; cases h'
  | some b=>
    rw [e] at h'
    rw [List.getD_eq_getElem?_getD,e]
    exact (Option.some.inj h').symm
theorem call_allB (hc : X.calm=true) : CallR X (.builtin "all") (fun xs H Q=>∃ (p : Addr) (bs : List Bool),xs=[.ref p]∧SqL X.K H p (bs.map V.bl)∧Q (.bl (bs.all id)) H):=by
  intro pins s σ H xs us Q I r h
  obtain ⟨p,bs,rfl,hq,q⟩:=h
  obtain ⟨u,rfl,ru⟩:=r.one
  cases ru
  obtain ⟨its,rv,pl,hz⟩:=I.list hq
  have e:=vals_bools rv
  subst e
  have nl : p≠s.heap.objs.size:=by obtain ⟨o,e,_⟩:=pl.isList; exact Nat.ne_of_lt (Heap.lt_size e)
  refine call_all_walk (wpAny_pyIter_list pl.isList ?_)
  refine ⟨s.heap.objs.size,_,_,_,_,_,fun i=>bs.getD i false,rfl,Walks.list (A:=X.A.in1) (I.ok.hd hc) s.heap.objs.size p nl (bs.map Value.bool).toArray,⟨⟨_,Heap.get?_push_size _ rfl,rfl,rfl⟩,pl.isList.push _⟩,?_,fun h' tk k=>?_⟩
  · intro i v s' Q' E' hP hq'
    rw [bools_at hP]
    exact wpAny_pure hq'
  · have e2 : (bs.map Value.bool).toArray.size=bs.length:=by simp
    rw [e2,range_all]
    refine ⟨.bl _,H,I.kept (t':=tk) (h':=h') fun b o e=>k b o ?_ (Heap.get?_push_of_some _ e),rfl,q⟩
    intro z
    have z' : b=s.heap.objs.size:=by simpa using z
    exact absurd (Heap.lt_size e) (by rw [z']; exact Nat.lt_irrefl _)
def clsV : V→Option Value
  | .ty n=>some (.type n)
  | .ref a=>some (.ref a)
  | _=>none
theorem clsV_rel {c : V} {u w : Value} (r : RelV c u) (h : clsV c=some w) : u=w:=by
  cases c with
  | ty n=>cases h; exact r
  | ref a=>cases h; exact r
  | _=>cases h
def rIsi (K : PySem.W.Frag) : List V→Hp→VK→Prop:=fun xs H Q=>∃ x c t w b,xs=[x,c]∧clsV c=some w∧TyOf K H x t∧PySem.W.kitOne K t w=some b∧Q (.bl b) H
theorem call_isi : CallR X (.builtin "isinstance") (rIsi X.K):=by
  intro pins s σ H xs us Q I r h
  obtain ⟨x,c,t,w,b,rfl,hw,ty,e,q⟩:=h
  obtain ⟨u,v,rfl,ru,rv⟩:=r.two
  rw [clsV_rel rv hw]
  exact isinst_ok I ru ty e fun tk=>⟨.bl b,H,I.tok tk,rfl,q⟩
end
end L2
namespace L2
open PySem PySem.Spec PyProof.Rows
section
variable {X : Cx} {pins : List (Addr×Obj)} {σ : St} {H : Hp} {s : Shared}
theorem tyof_kit {x : V} {u t : Value} (I : Inv X pins σ H s) (rx : RelV x u) (ty : TyOf X.K H x t) : ∃ φ : Heap→Prop,PySem.W.KitX X.K u t φ∧φ s.heap∧u≠.builtin "__main__.__loader__#opaque" := by
  cases ty with
  | non=>cases (show u=Value.none from rx); exact ⟨_,PySem.W.kitx_none,True.intro,(fun z=>nomatch z)⟩
  | bl y=>cases (show u=Value.bool y from rx); exact ⟨_,PySem.W.kitx_bool,True.intro,(fun z=>nomatch z)⟩
  | int i=>obtain ⟨t,q⟩:=(show ∃ t,u=Value.int i t from rx); cases q; exact ⟨_,PySem.W.kitx_int,True.intro,(fun z=>nomatch z)⟩
  | str y=>obtain ⟨t,q⟩:=(show ∃ t,u=Value.str y t from rx); cases q; exact ⟨_,PySem.W.kitx_str,True.intro,(fun z=>nomatch z)⟩
  | flt y=>obtain ⟨t,q⟩:=(show ∃ t,u=Value.float y t from rx); cases q; exact ⟨_,PySem.W.kitx_float,True.intro,(fun z=>nomatch z)⟩
  | @lst a xs ea=>
    cases (show u=Value.ref a from rx)
    obtain ⟨_,_,n,_,h1⟩:=(show ObjOk X.prog X.w H s.heap a (.lst xs) from I.hok a _ ea)
    exact ⟨_,PySem.W.kitx_list,⟨_,h1,rfl⟩,(fun z=>nomatch z)⟩
  | @frz a ob xs ea=>
    cases (show u=Value.ref a from rx)
    obtain ⟨_,_,_,n,_,h1⟩:=(show ObjOk X.prog X.w H s.heap a (.frz ob (.lst xs)) from I.hok a _ ea)
    exact ⟨_,PySem.W.kitx_list,⟨_,h1,rfl⟩,(fun z=>nomatch z)⟩
  | @tup a xs ea=>
    cases (show u=Value.ref a from rx)
    obtain ⟨_,_,_,p⟩:=(show ObjOk X.prog X.w H s.heap a (.tup xs) from I.hok a _ ea)
    obtain ⟨o,h1,h2,_⟩:=p
    exact ⟨_,PySem.W.kitx_tuple,⟨o,h1,h2⟩,(fun z=>nomatch z)⟩
  | @dK a kvs ea=>
    cases (show u=Value.ref a from rx)
    obtain ⟨_,_,vs,_,p⟩:=(show ObjOk X.prog X.w H s.heap a (.dK kvs) from I.hok a _ ea)
    obtain ⟨o,es,ep,h1,h2,_⟩:=p
    exact ⟨_,PySem.W.kitx_dict,⟨o,h1,h2.1⟩,(fun z=>nomatch z)⟩
  | @dT a kvs ea=>
    cases (show u=Value.ref a from rx)
    obtain ⟨_,_,xs,_,o,es,ep,h1,h2,_⟩:=(show ObjOk X.prog X.w H s.heap a (.dT kvs) from I.hok a _ ea)
    exact ⟨_,PySem.W.kitx_dict,⟨o,h1,h2.1⟩,(fun z=>nomatch z)⟩
  | @ins a C dx fs ea cl ha hn htk hm=>
    cases (show u=Value.ref a from rx)
    obtain ⟨mA,O,_⟩:=ins_get I.hok ea
    obtain ⟨od,J,_⟩:=O.look
    exact ⟨_,PySem.W.kitx_own (cl.get _) cl.hd ha hn htk hm,J,(fun z=>nomatch z)⟩
theorem cls_all : ∀ {cs : List V} {us ws : List Value},Vals cs us→cs.map clsV=ws.map some→us=ws
  | [],_,[],.nil,_=>rfl
  | c :: cs,_,w :: ws,.cons r t,e=>by
    rw [List.map_cons,List.map_cons] at e
    injection e with e1 e2
    rw [clsV_rel r e1,cls_all t e2]
def rIsT (K : PySem.W.Frag) : List V→Hp→VK→Prop:=fun xs H Q=>∃ x p cs t ws b,xs=[x,.ref p]∧H p=some (.tup cs)∧cs.map clsV=ws.map some∧TyOf K H x t∧PySem.W.kitAny K t ws=some b∧Q (.bl b) H
theorem call_isT : CallR X (.builtin "isinstance") (rIsT X.K):=by
  intro pins s σ H xs us Q I r h
  obtain ⟨x,p,cs,t,ws,b,rfl,hp,hc,ty,e,q⟩:=h
  obtain ⟨u,v,rfl,ru,rv⟩:=r.two
  cases rv
  obtain ⟨φ,Z,hφ,hne⟩:=tyof_kit I ru ty
  obtain ⟨_,its,rs,⟨ob,h1,h2,n,h3⟩⟩:=(show ObjOk X.prog X.w H s.heap p (.tup cs) from I.hok p _ hp)
  have ei:=cls_all rs hc
  subst ei
  obtain ⟨oc,od,dt,sl⟩:=ob
  dsimp only at h2 h3
  subst h2 h3
  exact PySem.W.kia_tup Z I.kIn hφ h1 e hne fun tk=>⟨.bl b,H,I.tok tk,rfl,q⟩
end
inductive EqD (H : Hp) : Nat→V→V→Prop
  | flat {n : Nat} {v : V} (h : flatV v=true) : EqD H n v v
  | tup {n : Nat} {p q : Addr} {xs ys : List V} (h1 : H p=some (.tup xs)) (h2 : H q=some (.tup ys)) (hl : xs.length=ys.length) (hs : xs.length≤1000) (h : ∀ (i : Nat) x y,xs[i]? = some x→ys[i]? = some y→EqD H n x y) : EqD H (n + 1) (.ref p) (.ref q)
  | lst {n : Nat} {p q : Addr} {xs ys : List V} (h1 : H p=some (.lst xs)) (h2 : H q=some (.lst ys)) (hl : xs.length=ys.length) (hs : xs.length≤1000) (h : ∀ (i : Nat) x y,xs[i]? = some x→ys[i]? = some y→EqD H n x y) : EqD H (n + 1) (.ref p) (.ref q)
theorem EqD.same {H H' : Hp} (s : Same H H') : ∀ {n : Nat} {v u : V},EqD H n v u→EqD H' n v u:=by
  intro n v u h
  induction h with
  | flat h=>exact .flat h
  | tup h1 h2 hl hs _ ih=>exact .tup (s _ _ h1) (s _ _ h2) hl hs fun i x y a b=>ih i x y a b
  | lst h1 h2 hl hs _ ih=>exact .lst (s _ _ h1) (s _ _ h2) hl hs fun i x y a b=>ih i x y a b
theorem same_new {H : Hp} {p : Addr} (h : H p=none) (o : HO) : Same H (upd H p o):=fun b u q=>by rw [upd_ne (ne_of_none q h)]; exact q
def plainE : Expr→Bool
  | .Starred ..=>false
  | _=>true
theorem star_plain {e : Expr} {es : List Expr} {env : Env} (h : plainE e=true) : starEach (e :: es) env=(false,eval e env) :: starEach es env:=by
  cases e <;> first | rfl | cases h
theorem pa_c {X : Cx} {e : Expr} {es : List Expr} {te : TE} {t : TA} (ha : PE X e te) (hr : PA X es t) (hn : plainE e=true:=by rfl) : PA X (e :: es) (tCons te t):=pa_cons ha hr (star_plain hn)
end L2
namespace L2
open PySem PySem.Spec PyProof.Rows
inductive EqB (K : PySem.W.Frag) (H : Hp) : Nat→V→V→Bool→Prop
  | flat {n : Nat} {x y : V} (hx : flatV x=true) (hy : flatV y=true) : EqB K H n x y (eqV x y)
  | same {n : Nat} {p : Addr} : EqB K H n (.ref p) (.ref p) true
  | tup {n : Nat} {a b : Addr} {xs ys : List V} (e : Nat→Bool) (hn : a≠b) (h1 : SqT K H a xs) (h2 : SqT K H b ys) (he : ∀ j x y,xs[j]? = some x→ys[j]? = some y→EqB K H n x y (e j)) : EqB K H (n + 1) (.ref a) (.ref b) ((List.range (min xs.length ys.length)).all e && xs.length == ys.length)
  | lst {n : Nat} {a b : Addr} {xs ys : List V} (e : Nat→Bool) (hn : a≠b) (hl : xs.length=ys.length) (h1 : SqL K H a xs) (h2 : SqL K H b ys) (he : ∀ j x y,xs[j]? = some x→ys[j]? = some y→EqB K H n x y (e j)) : EqB K H (n + 1) (.ref a) (.ref b) ((List.range xs.length).all e)
  | lsn {n : Nat} {a b : Addr} {xs ys : List V} (hl : xs.length≠ys.length) (h1 : SqL K H a xs) (h2 : SqL K H b ys) : EqB K H (n + 1) (.ref a) (.ref b) false
theorem in1_units {A : Around} : A.in1.units=A.units + 1:=rfl
section
variable {X : Cx} {pins : List (Addr×Obj)} {σ : St} {H : Hp} {s : Shared}
theorem items_eqAt {A : Around} {n : Nat} {xs ys : List V} {us vs : List Value} {e : Nat→Bool} (rx : Vals xs us) (ry : Vals ys vs) (h : ∀ j x y u v,xs[j]? = some x→ys[j]? = some y→RelV x u→RelV y v→SeqAt.EqAt A s u v (e j)) :
    ∀ j (h1 : j < us.toArray.size) (h2 : j < vs.toArray.size),SeqAt.EqAt A s us.toArray[j] vs.toArray[j] (e j):=fun j h1 h2=>by
  have l1:=rx.length
  have l2:=ry.length
  have g1 : j < xs.length:=by simp at h1; omega
  have g2 : j < ys.length:=by simp at h2; omega
  obtain ⟨u,eu,ru⟩:=rx.get (List.getElem?_eq_getElem g1)
  obtain ⟨v,ev,rv⟩:=ry.get (List.getElem?_eq_getElem g2)
  have e1 : us.toArray[j]=u:=by
    have:=List.getElem?_eq_some_iff.mp eu
    obtain ⟨_,e⟩:=this
    simpa using e
  have e2 : vs.toArray[j]=v:=by
    have:=List.getElem?_eq_some_iff.mp ev
    obtain ⟨_,e⟩:=this
    simpa using e
  rw [e1,e2]
  exact h j _ _ u v (List.getElem?_eq_getElem g1) (List.getElem?_eq_getElem g2) ru rv
theorem EqB.eqAt (I : Inv X pins σ H s) {n : Nat} {x y : V} {b : Bool} (h : EqB X.K H n x y b) : ∀ (A : Around) (u v : Value),A.units + n < cLine→RelV x u→RelV y v→SeqAt.EqAt A s u v b:=by
  induction h with
  | flat hx hy=>exact fun A u v _ rx ry=>eqAt_V rx ry hx hy
  | same=>intro A u v _ rx ry; cases rx; cases ry; exact SeqAt.EqAt.same _
  | @tup n a b xs ys e hn h1 h2 he ih=>
    intro A u v hu rx ry
    cases rx; cases ry
    obtain ⟨us,r1,p1,_⟩:=I.tuple h1
    obtain ⟨vs,r2,p2,_⟩:=I.tuple h2
    refine SeqAt.EqAt.of_refs hn ?_
    have:=SeqAt.RcAt.tuples (s:=s) (A:=A) (e:=e) p1 p2 (by omega) (items_eqAt (n:=n) r1 r2 fun j x y u v e1 e2 ru rv=>ih j x y e1 e2 A.in1 u v (by rw [in1_units]; omega) ru rv)
    have l1:=r1.length
    have l2:=r2.length
    simpa [l1,l2] using this
  | @lst n a b xs ys e hn hl h1 h2 he ih=>
    intro A u v hu rx ry
    cases rx; cases ry
    obtain ⟨us,r1,p1,_⟩:=I.list h1
    obtain ⟨vs,r2,p2,_⟩:=I.list h2
    have l1:=r1.length
    have l2:=r2.length
    refine SeqAt.EqAt.of_refs hn ?_
    have:=SeqAt.RcAt.lists (s:=s) (A:=A) (e:=e) p1.isList p2.isList (by simp; omega) (by omega) (items_eqAt (n:=n) r1 r2 fun j x y u v e1 e2 ru rv=>ih j x y e1 e2 A.in1 u v (by rw [in1_units]; omega) ru rv)
    simpa [l1,l2] using this
  | @lsn n a b xs ys hl h1 h2=>
    intro A u v hu rx ry
    cases rx; cases ry
    have hn : a≠b:=fun z=>by subst z; exact hl (by rw [I.list_inj h1 h2])
    obtain ⟨us,r1,p1,_⟩:=I.list h1
    obtain ⟨vs,r2,p2,_⟩:=I.list h2
    have l1:=r1.length
    have l2:=r2.length
    refine SeqAt.EqAt.of_refs hn ?_
    exact SeqAt.RcAt.lists_lengths (s:=s) (A:=A) p1.isList p2.isList (by simp; omega) (by omega)
def rCmpL (K : PySem.W.Frag) (neg : Bool) : R2:=fun x y H Q=>∃ a b xs ys,x = .ref a∧y = .ref b∧SqL K H a xs∧SqL K H b ys∧
  ((xs.length≠ys.length∧Q (.bl neg) H)∨(xs.length=ys.length∧∃ (n : Nat) (e : Nat→Bool),n≤32∧(∀ j x y,xs[j]? = some x→ys[j]? = some y→EqB K H n x y (e j))∧Q (.bl (neg != (List.range xs.length).all e)) H))
theorem op_eqL (hu : X.A.units + 64 < cLine) : OpR X (compareOp .Eq) (rCmpL X.K false):=by
  intro pins s σ H x y v u Q I rx ry h
  obtain ⟨a,b,xs,ys,rfl,rfl,h1,h2,h⟩:=h
  cases rx; cases ry
  obtain ⟨us,r1,p1,_⟩:=I.list h1
  obtain ⟨vs,r2,p2,_⟩:=I.list h2
  have l1:=r1.length
  have l2:=r2.length
  rcases h with ⟨hl,q⟩ | ⟨hl,n,e,hn,he,q⟩
  · exact SeqAt.RcAt.lists_lengths (s:=s) (A:=X.A) p1.isList p2.isList (by simp; omega) (by omega) _ _ _ _ ⟨.bl _,H,I,rfl,q⟩
  · refine SeqAt.RcAt.lists (s:=s) (A:=X.A) (e:=e) p1.isList p2.isList (by simp; omega) (by omega) (items_eqAt (n:=n) r1 r2 fun j x y u v e1 e2 ru rv=>(he j x y e1 e2).eqAt I _ u v (by rw [in1_units]; omega) ru rv) _ _ _ _ ⟨.bl _,H,I,rfl,?_⟩
    simpa [l1] using q
theorem op_neL (hu : X.A.units + 64 < cLine) : OpR X (compareOp .NotEq) (rCmpL X.K true):=by
  intro pins s σ H x y v u Q I rx ry h
  obtain ⟨a,b,xs,ys,rfl,rfl,h1,h2,h⟩:=h
  cases rx; cases ry
  obtain ⟨us,r1,p1,_⟩:=I.list h1
  obtain ⟨vs,r2,p2,_⟩:=I.list h2
  have l1:=r1.length
  have l2:=r2.length
  rcases h with ⟨hl,q⟩ | ⟨hl,n,e,hn,he,q⟩
  · exact SeqAt.RcNeAt.lists_lengths (s:=s) (A:=X.A) p1.isList p2.isList (by simp; omega) (by omega) _ _ _ _ ⟨.bl _,H,I,rfl,q⟩
  · refine SeqAt.RcNeAt.lists (s:=s) (A:=X.A) (e:=e) p1.isList p2.isList (by simp; omega) (by omega) (items_eqAt (n:=n) r1 r2 fun j x y u v e1 e2 ru rv=>(he j x y e1 e2).eqAt I _ u v (by rw [in1_units]; omega) ru rv) _ _ _ _ ⟨.bl _,H,I,rfl,?_⟩
    simpa [l1] using q
end
structure Cal (P : Program) (w : World) (K : PySem.W.Frag) (mg : Str→Option Value) (base : Heap) (CX : CXT) (k : Nat) (x : Str) (ps : List Str) (sp : Sp) : Prop where
  ex : ∃ (f : Addr) (fd : FuncData),FnOk P w K mg base CX k f fd ps sp∧Binds K fd ps []∧PySem.W.keepIn K (.ref f)=true∧mg x=some (.ref f)
theorem pe_cal {X : Cx} {CX : CXT} {k j : Nat} {ps : List Str} {sp : Sp} {E : XK} {x : Str} {p pos : Pos} {e : Expr} {es : List Expr} {t : TA} (F : Cal X.prog X.w X.K X.mg X.base CX k x ps sp) (hr : Room j X.A) (hg : Gl X x) (hx : Passes CX X E) (ha : PA X (e :: es) t)
    (hk : k≤j:=by decide) (hdb : (x == ("__debug__" : Str))=false:=by decide) (he : starEach (e :: es) X.env=(false,eval e X.env) :: starEach es X.env:=by rfl) (hpl : (backTo pos (starEach es X.env)).any (·.1)=false:=by rfl) :
    PE X (.Call (.Name x p) (e :: es) [] pos) (tCall sp [] E t):=by
  obtain ⟨f,fd,h1,h2,h3,h4⟩:=F.ex
  exact pe_call (h1.mono hk) hr hg h4 h3 h2 .nil hx ha hdb he hpl
end L2
namespace L2
open PySem PySem.Spec PyProof.Rows
section
variable {X : Cx} {es : List Expr} {x1 : Nat} {tp : Pos}
end
end L2
namespace L2
open PySem PySem.Spec PyProof.Rows
def relabelD (scope D : Scope) : List (Str×NameKind):=scope.names.map fun (n,k)=>if (k == .free && D.kind == .function && D.names.lookup n == some .cell) then (n,.cell) else (n,k)
def compOk (N N' : List Str) (ix : List (Option Nat)) (scope D : Scope) : Bool:=
  (scope.kind == .function) && (scope.names.all fun y=>(y.2 == .local && scope.names.lookup y.1 == some .local) || (y.2 == .free && D.names.lookup y.1 == some .cell) || (y.2 != .local && y.2 != .free && y.2 != .cell)) && decide N'.Nodup && (ix.length == N'.length) &&
  ((List.range N'.length).all fun k=>match ix[k]?,N'[k]? with
    | some (some j),some x=>N[j]? == some x && scope.names.contains (x,.free) && (relabelD scope D).lookup x == some .cell
    | _,_=>true)
theorem comp_scope {X : Cx} {N' : List Str} {ix : List (Option Nat)} {scope : Scope} {N : List Str} {D : Scope} (h : compOk N N' ix scope D=true) (hN : X.N=N:=by rfl) (hD : X.env.scope=D:=by rfl) : CompScope X N' ix scope:=by
  unfold compOk at h
  simp only [Bool.and_eq_true,decide_eq_true_eq] at h
  obtain ⟨⟨⟨⟨h1,h2⟩,h3⟩,h4⟩,h5⟩:=h
  have hall:=List.all_eq_true.mp h2
  refine ⟨by simpa using h1,fun y hy=>?_,fun y hy e=>?_,h3,by simpa using h4,fun y hy e=>?_,fun k j x e1 e2=>?_⟩
  · have:=hall y hy
    intro z
    rw [z] at this
    simp at this
  · have:=hall y hy
    rw [e] at this
    simpa using this
  · have:=hall y hy
    rw [e] at this
    have q : D.names.lookup y.1=some .cell:=by simpa using this
    show X.env.scope.names.lookup y.1=some .cell
    rw [hD]; exact q
  · have hk : k < N'.length:=(List.getElem?_eq_some_iff.mp e1).1
    have:=List.all_eq_true.mp h5 k (List.mem_range.mpr hk)
    rw [e1,e2] at this
    simp only [Bool.and_eq_true,beq_iff_eq] at this
    obtain ⟨⟨a1,a2⟩,a3⟩:=this
    refine ⟨by rw [hN]; exact a1,by simpa using a2,?_⟩
    show (relabelD scope X.env.scope).lookup x=some .cell
    rw [hD]; exact a3
end L2
namespace L2
open PySem PySem.Spec PyProof.Rows
section
variable {X : Cx}
end
end L2
namespace L2
open PySem PySem.Spec PyProof.Rows
section
variable {K : PySem.W.Frag} {c d : Addr} {b : Bool} {v : Value}
end
end L2
namespace L2
open PySem PySem.Spec PyProof.Rows
theorem Fun.okE {P : Program} {w : World} {K : PySem.W.Frag} {mg : Str→Option Value} {base : Heap} {x qual : Str} {st : Stmt} {f : Addr} {fd : FuncData} {N ps : List Str} {k : Nat} {sp : Sp} (F : Fun K x qual st f fd) (S : FnScope N ps (defScope st))
    (len : ∀ vs H Q E,sp vs H Q E→vs.length=ps.length)
    (hbody : ∀ (cdv : Value) (A : Around) (outer : List Env) (s : Shared) (H : Hp) (vs : List V) (Q : VK) (E : XK),Room k (A.deeper (envOfC qual (defScope st) s.heap.objs.size f cdv))→sp vs H Q E→
      ∃ t,PSs (cxOf (CXE P w) P w K mg base N qual (defScope st) f cdv A outer s H E) (defBody st) t∧t { nx:=fun _ H'=>Q .non H',rt:=Q } (start N vs) H) : FnOk P w K mg base (CXE P w) (k + 1) f fd ps sp:=by
  obtain ⟨oc,od,kV,doc,pm,an,cdv,ct,osl,rfl,lk,hcd⟩:=F.ex
  exact fn_of lk hcd S len fun A outer s H vs Q E hr hsp=>hbody cdv A outer s H vs Q E hr hsp
theorem tSeq_by {t u : TS} {D : Ends} {σ : St} {H : Hp} (R : St→Hp→Prop) (h1 : ∀ D' : Ends,(∀ σ' H',R σ' H'→D'.nx σ' H')→D'.rt=D.rt→t D' σ H) (h2 : ∀ σ' H',R σ' H'→u D σ' H') : tSeq t u D σ H:=h1 { D with nx:=u D } h2 rfl
structure Bn (mg : Str→Option Value) : Prop where
  len : mg "len" = none
  list : mg "list" = none
  isi : mg "isinstance" = none
  bool : mg "bool" = none
  int : mg "int" = none
  str : mg "str" = none
  tuple : mg "tuple" = none
  all : mg "all" = none
  any : mg "any" = none
  zip : mg "zip" = none
  range : mg "range" = none
  max : mg "max" = none
  min : mg "min" = none
  enumerate : mg "enumerate" = none
  sum : mg "sum" = none
  sorted : mg "sorted" = none
  verr : mg "ValueError" = none
def KeepBut (a : Addr) (H H' : Hp) : Prop:=∀ b o,b≠a→H b=some o→H' b=some o
theorem KeepBut.refl {a : Addr} {H : Hp} : KeepBut a H H:=fun _ _ _ h=>h
theorem KeepBut.trans {a : Addr} {H H1 H2 : Hp} (x : KeepBut a H H1) (y : KeepBut a H1 H2) : KeepBut a H H2:=fun b o n h=>y b o n (x b o n h)
theorem KeepBut.upd {a : Addr} {H H1 : Hp} {o : HO} (x : KeepBut a H H1) : KeepBut a H (L2.upd H1 a o):=fun b u n h=>by rw [upd_ne n]; exact x b u n h
theorem KeepBut.new {a p : Addr} {H H1 : Hp} {o : HO} (x : KeepBut a H H1) (hp : H1 p=none) : KeepBut a H (L2.upd H1 p o):=fun b u n h=>by
  have:=x b u n h
  rw [upd_ne (ne_of_none this hp)]; exact this
theorem KeepBut.young {a p : Addr} {H H1 : Hp} {o : HO} (x : KeepBut a H H1) (hp : H p=none) : KeepBut a H (L2.upd H1 p o):=fun b u n h=>by
  rw [upd_ne (ne_of_none h hp)]; exact x b u n h
theorem KeepBut.of_same {a : Addr} {H H1 : Hp} (x : Same H H1) : KeepBut a H H1:=fun b o _ h=>x b o h
theorem KeepBut.none {a p : Addr} {H H' : Hp} (k : KeepBut a H H') (n : p≠a) (h : H' p=Option.none) : H p=Option.none:=by
  cases q : H p with
  | none=>rfl
  | some o=>rw [k p o n q] at h; cases h
theorem Same.young {p : Addr} {H H1 : Hp} {o : HO} (x : Same H H1) (hp : H p=none) : Same H (L2.upd H1 p o):=fun b u h=>by
  rw [upd_ne (ne_of_none h hp)]; exact x b u h
def Draw (H : Hp) (a c : Addr) (ns : List Int) (i x y z : Int) : Prop:=H a=some (.lst [.ref c,.int i,.int x,.int y,.int z])∧H c=some (.lst (ns.map V.int))∧c≠a∧0≤i∧0≤y∧y < 1000000007
def DrawAt (H : Hp) (a c : Addr) : Prop:=∃ ns i x y z,Draw H a c ns i x y z
theorem DrawAt.new {H : Hp} {a c p : Addr} {o : HO} (d : DrawAt H a c) (hp : H p=none) : DrawAt (L2.upd H p o) a c:=by
  obtain ⟨ns,i,x,y,z,h1,h2,r⟩:=d
  exact ⟨ns,i,x,y,z,by rw [upd_ne (ne_of_none h1 hp)]; exact h1,by rw [upd_ne (ne_of_none h2 hp)]; exact h2,r⟩
theorem DrawAt.upd {H : Hp} {a c p : Addr} {o : HO} (d : DrawAt H a c) (na : p≠a) (nc : p≠c) : DrawAt (L2.upd H p o) a c:=by
  obtain ⟨ns,i,x,y,z,h1,h2,r⟩:=d
  exact ⟨ns,i,x,y,z,by rw [upd_ne na.symm]; exact h1,by rw [upd_ne nc.symm]; exact h2,r⟩
theorem DrawAt.same {H H' : Hp} {a c : Addr} (d : DrawAt H a c) (s : Same H H') : DrawAt H' a c:=by
  obtain ⟨ns,i,x,y,z,h1,h2,r⟩:=d
  exact ⟨ns,i,x,y,z,s _ _ h1,s _ _ h2,r⟩
theorem DrawAt.there {H : Hp} {a c : Addr} (d : DrawAt H a c) : ∃ o,H a=some o:=by
  obtain ⟨ns,i,x,y,z,h1,_⟩:=d
  exact ⟨_,h1⟩
theorem DrawAt.ne {H : Hp} {a c p : Addr} (d : DrawAt H a c) (hp : H p=none) : p≠a:=by
  obtain ⟨o,e⟩:=d.there
  exact (ne_of_none e hp).symm
theorem DrawAt.nc {H : Hp} {a c p : Addr} (d : DrawAt H a c) (hp : H p=none) : p≠c:=by
  obtain ⟨ns,i,x,y,z,_,h2,_⟩:=d
  exact (ne_of_none h2 hp).symm
theorem DrawAt.neT {H : Hp} {a c p : Addr} {xs : List V} (d : DrawAt H a c) (hp : H p=some (.tup xs)) : p≠a:=by
  obtain ⟨_,_,_,_,_,h,_⟩:=d
  exact ne_of hp h (by intro z; cases z)
def spBegin (K : PySem.W.Frag) : Sp:=fun vs H Q _=>∃ (a : Addr) (ns : List Int),vs=[.ref a]∧SqL K H a (ns.map V.int)∧ns.length≤63∧∀ l c H',H l=none→H c=none→Same H H'→DrawAt H' l c→Q (.ref l) H'
def spPick : Sp:=fun vs H Q _=>∃ (a c : Addr) (m : Int),vs=[.ref a,.int m]∧DrawAt H a c∧0 < m∧m < 18446744073709551616∧∀ r H',0≤r→r < m→DrawAt H' a c→KeepBut a H H'→Q (.int r) H'
def spSome : Sp:=fun vs H Q _=>∃ a c : Addr,vs=[.ref a]∧DrawAt H a c∧∀ r H',0≤r→r≤400→DrawAt H' a c→KeepBut a H H'→Q (.int r) H'
theorem cut_ints (ns : List Int) (lo hi : Option Int) : ∃ ms : List Int,cutV (ns.map V.int) lo hi=ms.map V.int∧ms.length≤ns.length:=by
  unfold cutV
  rw [← List.map_drop,← List.map_take]
  exact ⟨_,rfl,by rw [List.length_take,List.length_drop]; omega⟩
theorem atI_some {xs : List V} {r : Int} {v : V} (h0 : 0≤r) (h : xs[r.toNat]? = some v) : atI xs r=some v:=by
  have:=atI_nat (xs:=xs) (j:=r.toNat) (v:=v) h
  rw [show ((r.toNat : Nat) : Int)=r by omega] at this
  exact this
def Rows (H : Hp) (a : Addr) (rs : List (List Int)) : Prop:=∃ ps : List Addr,H a=some (.lst (ps.map V.ref))∧ps.length=rs.length∧∀ (i : Nat) p r,ps[i]? = some p→rs[i]? = some r→H p=some (.tup (r.map V.int))
theorem Rows.same {H H' : Hp} {a : Addr} {rs : List (List Int)} (h : Rows H a rs) (s : Same H H') : Rows H' a rs:=by
  obtain ⟨ps,h1,h2,h3⟩:=h
  exact ⟨ps,s _ _ h1,h2,fun i p r e1 e2=>s _ _ (h3 i p r e1 e2)⟩
theorem Rows.keep {H H' : Hp} {a l c : Addr} {rs : List (List Int)} (h : Rows H a rs) (n : a≠l) (d : DrawAt H l c) (k : KeepBut l H H') : Rows H' a rs:=by
  obtain ⟨ps,h1,h2,h3⟩:=h
  exact ⟨ps,k _ _ n h1,h2,fun i p r e1 e2=>k _ _ (d.neT (h3 i p r e1 e2)) (h3 i p r e1 e2)⟩
theorem Rows.get {H : Hp} {a : Addr} {rs : List (List Int)} (h : Rows H a rs) : ∃ xs : List V,H a=some (.lst xs)∧xs.length=rs.length∧∀ (i : Nat) x,xs[i]? = some x→∃ p r,x = .ref p∧rs[i]? = some r∧H p=some (.tup (r.map V.int)):=by
  obtain ⟨ps,h1,h2,h3⟩:=h
  refine ⟨_,h1,by rw [List.length_map,h2],fun i x e=>?_⟩
  rw [List.getElem?_map] at e
  cases q : ps[i]? with
  | none=>rw [q] at e; cases e
  | some p=>
    rw [q] at e
    have hi:=(List.getElem?_eq_some_iff.mp q).1
    have hr : rs[i]? = some (rs[i]'(by omega)):=List.getElem?_eq_getElem (by omega)
    exact ⟨p,_,(Option.some.inj e).symm,hr,h3 i p _ q hr⟩
theorem Rows.push {H : Hp} {a p : Addr} {rs : List (List Int)} {xs : List V} {r : List Int} (h : Rows H a rs) (hx : H a=some (.lst xs)) (hp : H p=none) : Rows (L2.upd (L2.upd H p (.tup (r.map V.int))) a (.lst (xs ++ [.ref p]))) a (rs ++ [r]):=by
  obtain ⟨ps,h1,h2,h3⟩:=h
  rw [hx] at h1
  cases h1
  refine ⟨ps ++ [p],by rw [upd_same,List.map_append]; rfl,by rw [List.length_append,List.length_append,h2]; rfl,fun i q r' e1 e2=>?_⟩
  by_cases hi : i < ps.length
  · rw [List.getElem?_append_left hi] at e1
    rw [List.getElem?_append_left (by omega)] at e2
    have:=h3 i q r' e1 e2
    rw [upd_ne (ne_of this hx (by intro z; cases z)),upd_ne (ne_of_none this hp)]
    exact this
  · have hi' : i=ps.length:=by
      have:=(List.getElem?_eq_some_iff.mp e1).1
      rw [List.length_append,List.length_singleton] at this
      omega
    subst hi'
    rw [List.getElem?_append_right (Nat.le_refl _),Nat.sub_self] at e1
    rw [h2,List.getElem?_append_right (Nat.le_refl _),Nat.sub_self] at e2
    cases e1
    cases e2
    rw [upd_ne (ne_of_none hx hp).symm,upd_same]
theorem Rows.nil {H : Hp} {a : Addr} (h : H a=some (.lst [])) : Rows H a []:=⟨[],h,rfl,fun i p r e=>by cases e⟩
def spSpan : Sp:=fun vs H Q _=>∃ a c : Addr,vs=[.ref a]∧DrawAt H a c∧∀ p lo n H',H p=none→1≤lo→6≤n→lo + n≤1000→DrawAt H' a c→KeepBut a H H'→H' p=some (.tup [.int lo,.int n])→Q (.ref p) H'
end L2
namespace K30
open PySem L2
def top (i : Nat) : Stmt:=PySem.Challenge.pw_drawback_k30_what_must_be_vouched_for.main.body.getD i (.Pass ⟨0,0,0,0⟩)
abbrev s_begin : Stmt:=top 22
abbrev n_begin : List Str:=["_law_script"]
abbrev p_begin : List Str:=["_law_script"]
theorem sc_begin : FnScope n_begin p_begin (defScope s_begin):=⟨rfl,rfl,rfl,by decide +kernel,rfl,by decide +kernel,by decide +kernel⟩
abbrev s_pick : Stmt:=top 20
abbrev n_pick : List Str:=["_law_draw","_law_many","_law_cell","_law_got"]
abbrev p_pick : List Str:=["_law_draw","_law_many"]
theorem sc_pick : FnScope n_pick p_pick (defScope s_pick):=⟨rfl,rfl,rfl,by decide +kernel,rfl,by decide +kernel,by decide +kernel⟩
abbrev s_span : Stmt:=top 21
abbrev n_span : List Str:=["_law_draw","_law_span_here"]
abbrev p_span : List Str:=["_law_draw"]
theorem sc_span : FnScope n_span p_span (defScope s_span):=⟨rfl,rfl,rfl,by decide +kernel,rfl,by decide +kernel,by decide +kernel⟩
abbrev s_some_term : Stmt:=top 23
abbrev n_some_term : List Str:=["_law_draw"]
abbrev p_some_term : List Str:=["_law_draw"]
theorem sc_some_term : FnScope n_some_term p_some_term (defScope s_some_term):=⟨rfl,rfl,rfl,by decide +kernel,rfl,by decide +kernel,by decide +kernel⟩
section
variable {P : Program} {w : World} {K : PySem.W.Frag} {mg : Str→Option Value} {base : Heap} {f : Addr} {fd : FuncData}
theorem ok_begin (F : Fun K "_law_begin" "_law_begin" s_begin f fd) (B : Bn mg) : FnOk P w K mg base CX0 1 f fd p_begin (spBegin K):=by
  refine F.ok sc_begin (fun vs H Q E h=>?_) (fun cdv A outer s H vs Q E hr h=>?_)
  · obtain ⟨a,ns,rfl,_⟩:=h; rfl
  obtain ⟨a,ns,rfl,hS,hl,q⟩:=h
  refine ⟨_,(pss_one (ps_ret (pe_lst (pa_c (pe_callTy call_list_of rfl B.list PyProof.Rows.boot_list (pa_c (pe_slice sl_list (pv 0) po_none (po_some pe_int)) pa_nil)) (pa_c pe_int (pa_c pe_int (pa_c pe_int (pa_c pe_int pa_nil)))))))),?_⟩
  refine ⟨_,rfl,_,rfl,a,_,rfl,hS,fun p hp=>?_⟩
  obtain ⟨ms,em,hm⟩:=cut_ints ns none (some 63)
  refine ⟨p,_,rfl,.inl (SqL.of upd_same),fun c hc=>?_⟩
  refine ⟨by show 5≤sizeLine; decide,fun l hl'=>?_⟩
  have s1 : Same H (L2.upd H p (.lst (cutV (ns.map V.int) none (some 63)))):=same_new hp _
  have s2:=s1.trans (same_new hc (.lst (cutV (ns.map V.int) none (some 63))))
  have s3:=s2.trans (same_new hl' (.lst [.ref c,.int 0,.int 0,.int 1,.int 0]))
  have ncl : c≠l:=ne_of_none (upd_same (H:=L2.upd H p _) (o:=.lst (cutV (ns.map V.int) none (some 63)))) hl'
  refine q l c _ (s2.free hl') (s1.free hc) s3 ⟨ms,0,0,1,0,upd_same,?_,ncl,by decide,by decide,by decide⟩
  rw [upd_ne ncl,upd_same,em]
variable (B : Bn mg) (G_pick : Cal P w K mg base CX0 1 "_law_pick" p_pick spPick)
include B G_pick
theorem ok_some_term (F : Fun K "_law_some_term" "_law_some_term" s_some_term f fd) : FnOk P w K mg base CX0 2 f fd p_some_term spSome:=by
  refine F.ok sc_some_term (fun vs H Q E h=>?_) (fun cdv A outer s H vs Q E hr h=>?_)
  · obtain ⟨a,c,rfl,_⟩:=h; rfl
  obtain ⟨a,c,rfl,d,q⟩:=h
  refine ⟨_,(pss_one (ps_ret (pe_ix ix_tup (pe_tup (pa_c pe_int (pa_c pe_int (pa_c pe_int (pa_c (pe_cal G_pick hr rfl pass0 (pa_c (pv 0) (pa_c pe_int pa_nil))) (pa_c (pe_cal G_pick hr rfl pass0 (pa_c (pv 0) (pa_c pe_int pa_nil))) (pa_c pe_int pa_nil))))))) (pe_cal G_pick hr rfl pass0 (pa_c (pv 0) (pa_c pe_int pa_nil))) (fun _ _=>rfl)))),?_⟩
  refine ⟨_,rfl,a,c,12,rfl,d,by decide,by decide,fun r1 H1 a1 c1 d1 kb1=>?_⟩
  refine ⟨_,rfl,a,c,60,rfl,d1,by decide,by decide,fun r2 H2 a2 c2 d2 kb2=>?_⟩
  refine ⟨by show 6≤sizeLine; decide,fun p hp=>?_⟩
  refine ⟨_,rfl,a,c,6,rfl,d2.new hp,by decide,by decide,fun r3 H3 a3 c3 d3 kb3=>?_⟩
  have ht:=kb3 p _ (d2.ne hp) upd_same
  have hv : ∃ v,atI [V.int 0,.int 1,.int 3,.int r1,.int r2,.int 400] r3=some (.int v)∧0≤v∧v≤400:=by
    have : r3=0∨r3=1∨r3=2∨r3=3∨r3=4∨r3=5:=by omega
    rcases this with rfl | rfl | rfl | rfl | rfl | rfl
    · exact ⟨0,rfl,by omega,by omega⟩
    · exact ⟨1,rfl,by omega,by omega⟩
    · exact ⟨3,rfl,by omega,by omega⟩
    · exact ⟨r1,rfl,by omega,by omega⟩
    · exact ⟨r2,rfl,by omega,by omega⟩
    · exact ⟨400,rfl,by omega,by omega⟩
  obtain ⟨v,ev,v0,v1⟩:=hv
  exact ⟨p,_,_,.int v,rfl,rfl,SqT.of ht,ev,q v H3 v0 v1 d3 ((kb1.trans (kb2.new hp)).trans kb3)⟩
theorem ok_span (F : Fun K "_law_span" "_law_span" s_span f fd) : FnOk P w K mg base CX0 2 f fd p_span spSpan:=by
  refine F.ok sc_span (fun vs H Q E h=>?_) (fun cdv A outer s H vs Q E hr h=>?_)
  · obtain ⟨a,c,rfl,_⟩:=h; rfl
  obtain ⟨a,c,rfl,d,q⟩:=h
  refine ⟨_,(pss_cons (ps_set (i:=1) sc_span.nd rfl (Or.inl rfl) (pe_ix ix_tup (pe_tup (pa_c pe_int (pa_c pe_int (pa_c pe_int (pa_c pe_int pa_nil))))) (pe_cal G_pick hr rfl pass0 (pa_c (pv 0) (pa_c pe_int pa_nil))) (fun _ _=>rfl)))
    (pss_one (ps_ret (pe_tup (pa_c (pe_op op_add pe_int (pe_cal G_pick hr rfl pass0 (pa_c (pv 0) (pa_c (pe_op op_sub pe_int (pv 1)) pa_nil)))) (pa_c (pv 1) pa_nil)))))),?_⟩
  refine ⟨by show 4≤sizeLine; decide,fun p0 hp0=>?_⟩
  refine ⟨_,rfl,a,c,4,rfl,d.new hp0,by decide,by decide,fun r1 H1 a1 c1 d1 kb1=>?_⟩
  have ht:=kb1 p0 _ (d.ne hp0) upd_same
  have hv : ∃ v,atI [V.int 6,.int 20,.int 60,.int 999] r1=some (.int v)∧6≤v∧v≤999:=by
    have : r1=0∨r1=1∨r1=2∨r1=3:=by omega
    rcases this with rfl | rfl | rfl | rfl
    · exact ⟨6,rfl,by omega,by omega⟩
    · exact ⟨20,rfl,by omega,by omega⟩
    · exact ⟨60,rfl,by omega,by omega⟩
    · exact ⟨999,rfl,by omega,by omega⟩
  obtain ⟨v,ev,v0,v1⟩:=hv
  refine ⟨p0,_,_,.int v,rfl,rfl,SqT.of ht,ev,?_⟩
  refine ⟨_,rfl,_,rfl,_,_,rfl,rfl,a,c,1000 - v,rfl,d1,by omega,by omega,fun r2 H2 a2 c2 d2 kb2=>?_⟩
  refine ⟨_,_,rfl,rfl,_,rfl,by show 2≤sizeLine; decide,fun p hp=>?_⟩
  have k : KeepBut a H H2:=((KeepBut.refl.new hp0).trans kb1).trans kb2
  exact q p (1 + r2) v _ (k.none (d2.ne hp) hp) (by omega) (by omega) (by omega) (d2.new hp) (k.new hp) upd_same
end
end K30
namespace L2
open PySem PySem.W PyProof.Rows
structure Ordr (lt : Nat→Nat→Bool) : Prop where
  irr : ∀ i,lt i i=false
  tr : ∀ i j k,lt j i=false→lt k j=false→lt k i=false
  asy : ∀ i j,lt i j=true→lt j i=false
section
variable {n : Nat} {lt : Nat→Nat→Bool}
variable (O : Ordr lt)
include O
end
end L2
namespace L2
open PySem PySem.Spec PyProof.Rows
section
variable {X : Cx} {a b e : Expr} {es : List Expr} {pos : Pos}
end
end L2
namespace L2
open PySem PySem.Spec PyProof.Rows
theorem pe_glI {X : Cx} {x : Str} {v : Int} {pos : Pos} (hg : Gl X x) (hm : ∃ t,X.mg x=some (.int v t)) (hd : (x == ("__debug__" : Str))=false:=by decide) : PE X (.Name x pos) (tC (.int v)):=by
  obtain ⟨t,h⟩:=hm
  exact pe_glob hg h ⟨_,rfl⟩ hd
abbrev inB (v hi : Int) : Prop:=1≤v∧v≤hi
theorem take_next {rs : List (List Int)} {i : Nat} {r : List Int} (e : rs[i]? = some r) : rs.take i ++ [r]=rs.take (i + 1):=by
  obtain ⟨hi,e'⟩:=List.getElem?_eq_some_iff.mp e
  rw [List.take_succ_eq_append_getElem hi,e']
def spIn (c : Addr) (hi : Int) : Sp:=fun vs H Q E=>∃ v : Int,vs=[.int v]∧(inB v hi→Q .non H)∧(¬ inB v hi→E (.ref c) none H)
def spIsDay : Sp:=fun vs H Q _=>∃ d : Int,vs=[.int d]∧Q (.bl (decide (inB d 999))) H
theorem len2 {r : List Int} (h : r.length=2) : ∃ d c,r=[d,c]:=match r,h with | [d,c],_=>⟨d,c,rfl⟩
end L2
namespace L2
open PySem PySem.Spec PyProof.Rows
theorem all_true (n : Nat) : (List.range n).all (fun _=>true)=true:=by simp
end L2
namespace L2
open PySem PySem.Spec PySem.W PyProof.Rows
theorem ints_of : ∀ {ns : List Int} {us : List Value},Vals (ns.map V.int) us→IntsAre us ns
  | [],_,.nil=>.nil
  | n :: r,_,.cons x t=>by
    obtain ⟨k,rfl⟩:=x
    exact .cons n k (ints_of t)
def lexB : List Int→List Int→Bool
  | a :: as,b :: bs=>if a=b then lexB as bs else decide (a < b)
  | [],_ :: _=>true
  | _,[]=>false
theorem lex_irr : ∀ a : List Int,lexB a a=false
  | []=>rfl
  | a :: as=>by show (if a=a then lexB as as else _)=false; rw [if_pos rfl]; exact lex_irr as
theorem lex_asy : ∀ {a b : List Int},lexB a b=true→lexB b a=false
  | [],[],h=>by cases h
  | [],b :: bs,_=>rfl
  | a :: as,[],h=>by cases h
  | a :: as,b :: bs,h=>by
    show (if b=a then lexB bs as else decide (b < a))=false
    have h' : (if a=b then lexB as bs else decide (a < b))=true:=h
    by_cases e : a=b
    · rw [if_pos e] at h'
      rw [if_pos e.symm]
      exact lex_asy h'
    · rw [if_neg e] at h'
      rw [if_neg (Ne.symm e)]
      have:=of_decide_eq_true h'
      exact decide_eq_false (by omega)
theorem lex_tr : ∀ {a b c : List Int},lexB b a=false→lexB c b=false→lexB c a=false
  | [],[],[],_,_=>rfl
  | [],[],_ :: _,_,_=>rfl
  | [],_ :: _,[],_,h=>by cases h
  | [],_ :: _,_ :: _,_,_=>rfl
  | _ :: _,[],_,h,_=>by cases h
  | _ :: _,_ :: _,[],_,h=>by cases h
  | a :: as,b :: bs,c :: cs,h,g=>by
    have h' : (if b=a then lexB bs as else decide (b < a))=false:=h
    have g' : (if c=b then lexB cs bs else decide (c < b))=false:=g
    show (if c=a then lexB cs as else decide (c < a))=false
    by_cases e1 : b=a
    · rw [if_pos e1] at h'
      subst e1
      by_cases e2 : c=b
      · rw [if_pos e2] at g'
        rw [if_pos e2]
        exact lex_tr h' g'
      · rw [if_neg e2] at g' ⊢
        exact g'
    · rw [if_neg e1] at h'
      have h1:=of_decide_eq_false h'
      by_cases e2 : c=b
      · subst e2
        rw [if_neg e1]
        exact h'
      · rw [if_neg e2] at g'
        have g1:=of_decide_eq_false g'
        rw [if_neg (by omega)]
        exact decide_eq_false (by omega)
section
variable {prog : Program} {w : World} {A : Around} {E : Value→Shared→Prop} {s : Shared}
def TupsAt (h : Heap) (bs : List Addr) (rs : List (List Int)) : Prop:=bs.length=rs.length∧∀ (i : Nat) b r,bs[i]? = some b→rs[i]? = some r→∃ its : List Value,IsTup h b its.toArray∧IntsAre its r
end
section
variable {X : Cx}
def rSum (K : PySem.W.Frag) : List V→Hp→VK→Prop:=fun xs H Q=>∃ (p : Addr) (ns : List Int),xs=[.ref p]∧SqL K H p (ns.map V.int)∧Q (.int ns.sum) H
theorem call_sumI (hc : X.calm=true) : CallR X (.builtin "sum") (rSum X.K):=by
  intro pins s σ H xs us Q I r h
  obtain ⟨p,ns,rfl,hq,q⟩:=h
  obtain ⟨u,rfl,ru⟩:=r.one
  cases ru
  obtain ⟨its,rv,pl,hz⟩:=I.list hq
  have ia:=ints_of rv
  obtain ⟨ys,ey⟩:=ia.allInts.items
  have hl:=pl.isList
  have e2 : (numsOf its.toArray.toList).sum=ns.sum:=by rw [show its.toArray.toList=its by simp,ia.numsOf]
  rw [ey] at hl e2
  refine sum_intListG (I.ok.hd hc) hl fun h' tk t' kk=>⟨.int ns.sum,H,I.kept (t':=tk) kk,⟨t',?_⟩,q⟩
  rw [nums_intItems] at e2
  rw [preSum_eq,List.take_of_length_le (by simp),e2]
end
end L2
namespace L2
open PySem PySem.Spec PySem.W PyProof.Rows
section
variable {X : Cx}
end
end L2
namespace L2
open PySem PySem.Spec PySem.W PyProof.Rows
abbrev colAt (rs : List (List Int)) (k : Nat) (i : Int) : Int:=(rs.getD i.toNat []).getD k 0
def okE (r : List Int) : Prop:=1≤r.length
end L2
namespace L2
open PySem PySem.Spec PySem.W PyProof.Rows
end L2
namespace L2
open PySem PySem.Spec PySem.W PyProof.Rows
def vbm : List Value:=[.type "ValueError",.type "Exception",.type "BaseException",.type "object"]
theorem passN {P : Program} {w : World} {X : Cx} : Passes (CXE P w) X E0:=fun _ _ _ _ _ _ _ h=>by
  obtain ⟨_,_,_,_,_,_,_,_,h,_⟩:=h
  exact h.elim
abbrev okTerm (t : Int) : Prop:=0≤t∧t≤400
def spTerm (c : Addr) : Sp:=fun vs H Q E=>∃ v : Int,vs=[.int v]∧(okTerm v→Q .non H)∧(¬ okTerm v→E (.ref c) none H)
theorem chain_lo {lo v hi : Int} {R : Bool→Prop} (h : R (decide (lo≤v∧v≤hi))) : ∃ i j : Int,V.int lo = .int i∧V.int v = .int j∧∃ b,V.bl (decide (i≤j)) = .bl b∧if b=true then ∃ i' j' : Int,V.int v = .int i'∧V.int hi = .int j'∧∃ b',V.bl (decide (i'≤j')) = .bl b'∧R b' else ∃ b',V.bl false = .bl b'∧R b':=by
  refine ⟨_,_,rfl,rfl,_,rfl,?_⟩
  refine ite2 (fun c=>?_) (fun c=>?_)
  · have c1 : lo≤v:=of_decide_eq_true c
    refine ⟨_,_,rfl,rfl,_,rfl,?_⟩
    have e : decide (v≤hi)=decide (lo≤v∧v≤hi):=by by_cases z : v≤hi <;> simp [z,c1]
    rw [e]; exact h
  · have c1 : ¬ lo≤v:=of_decide_eq_false (Bool.eq_false_iff.mpr c)
    have e : false=decide (lo≤v∧v≤hi):=by simp [c1]
    exact ⟨_,rfl,by rw [e]; exact h⟩
theorem filter_take {α : Type} {rs : List α} {i : Nat} {r : α} (p : α→Bool) (e : rs[i]? = some r) : (rs.take (i + 1)).filter p=(rs.take i).filter p ++ if p r=true then [r] else []:=by
  obtain ⟨hi,e'⟩:=List.getElem?_eq_some_iff.mp e
  rw [List.take_succ_eq_append_getElem hi,List.filter_append,e']
  congr 1
  by_cases z : p r=true
  · rw [if_pos z,List.filter_cons_of_pos z]; rfl
  · rw [if_neg z,List.filter_cons_of_neg z]; rfl
def spOne : Sp:=fun vs H Q _=>∃ (a c l : Addr) (xs : List V),vs=[.ref a,.ref l]∧DrawAt H a c∧H l=some (.lst xs)∧l≠a∧0 < xs.length∧xs.length≤1000∧∀ (i : Nat) x H',xs[i]? = some x→DrawAt H' a c→KeepBut a H H'→Q x H'
theorem cmp_nil {K : PySem.W.Frag} {H : Hp} {l e : Addr} {xs : List V} {neg : Bool} {Q : VK} (hl : H l=some (.lst xs)) (he : H e=some (.lst [])) (q : Q (.bl (neg != decide (xs.length=0))) H) : rCmpL K neg (.ref l) (.ref e) H Q:=by
  refine ⟨l,e,xs,[],rfl,rfl,SqL.of hl,SqL.of he,?_⟩
  by_cases z : xs.length=0
  · refine .inr ⟨z,0,fun _=>true,by decide,fun j x y e1 e2=>(by cases e2),?_⟩
    rw [z] at q ⊢
    exact q
  · refine .inl ⟨z,?_⟩
    rw [decide_eq_false z] at q
    cases neg <;> exact q
end L2
namespace K30
open PySem L2
structure Txt (K : PySem.W.Frag) (mg : Str→Option Value) (cl : Nat→Addr) : Prop where
  FIRST_DAY : ∃ t,mg "FIRST_DAY" = some (.int 1 t)
  LAST_DAY : ∃ t,mg "LAST_DAY" = some (.int 999 t)
  MOST_TERM : ∃ t,mg "MOST_TERM" = some (.int 400 t)
  MOST_PAID : ∃ t,mg "MOST_PAID" = some (.int 60 t)
  gCustomsError : mg "CustomsError" = some (.ref (cl 0))
  gBadDay : mg "BadDay" = some (.ref (cl 1))
  gBadTerm : mg "BadTerm" = some (.ref (cl 2))
  gBadCount : mg "BadCount" = some (.ref (cl 3))
  gBadRows : mg "BadRows" = some (.ref (cl 5))
  eBadDay : PySem.W.excIn K (cl 1) vbm "ValueError.__new__" = true
  eBadTerm : PySem.W.excIn K (cl 2) vbm "ValueError.__new__" = true
  eBadCount : PySem.W.excIn K (cl 3) vbm "ValueError.__new__" = true
  eBadRows : PySem.W.excIn K (cl 5) vbm "ValueError.__new__" = true
abbrev s_is_day : Stmt:=top 10
abbrev n_is_day : List Str:=["day"]
abbrev p_is_day : List Str:=["day"]
theorem sc_is_day : FnScope n_is_day p_is_day (defScope s_is_day):=⟨rfl,rfl,rfl,by decide +kernel,rfl,by decide +kernel,by decide +kernel⟩
abbrev s_check_day : Stmt:=top 11
abbrev n_check_day : List Str:=["day"]
abbrev p_check_day : List Str:=["day"]
theorem sc_check_day : FnScope n_check_day p_check_day (defScope s_check_day):=⟨rfl,rfl,rfl,by decide +kernel,rfl,by decide +kernel,by decide +kernel⟩
abbrev s_check_term : Stmt:=top 12
abbrev n_check_term : List Str:=["term"]
abbrev p_check_term : List Str:=["term"]
theorem sc_check_term : FnScope n_check_term p_check_term (defScope s_check_term):=⟨rfl,rfl,rfl,by decide +kernel,rfl,by decide +kernel,by decide +kernel⟩
section
variable {P : Program} {w : World} {K : PySem.W.Frag} {mg : Str→Option Value} {base : Heap} {f : Addr} {fd : FuncData} {cl : Nat→Addr} (T : Txt K mg cl) (B : Bn mg)
include T B
theorem ok_is_day (F : Fun K "is_day" "is_day" s_is_day f fd) : FnOk P w K mg base CX0 1 f fd p_is_day spIsDay:=by
  refine F.ok sc_is_day (fun vs H Q E h=>?_) (fun cdv A outer s H vs Q E hr h=>?_)
  · obtain ⟨d,rfl,_⟩:=h; rfl
  obtain ⟨d,rfl,q⟩:=h
  refine ⟨_,(pss_one (ps_ret (pe_chain op_le op_le (pe_glI rfl T.FIRST_DAY) (pv 0) (pe_glI rfl T.LAST_DAY)))),?_⟩
  refine ⟨_,rfl,_,_,rfl,rfl,_,rfl,?_⟩
  refine ite2 (fun c=>?_) (fun c=>?_)
  · have c1 : (1 : Int)≤d:=of_decide_eq_true c
    refine ⟨_,_,rfl,rfl,?_⟩
    have e : decide (d≤999)=decide (inB d 999):=by by_cases z : d≤999 <;> simp [z,c1,inB]
    show Q (.bl (decide (d≤999))) H
    rw [e]; exact q
  · have c1 : ¬ (1 : Int)≤d:=of_decide_eq_false (Bool.eq_false_iff.mpr c)
    have e : false=decide (inB d 999):=by simp [inB,c1]
    show Q (.bl false) H
    rw [e]; exact q
theorem ok_check_day (G_is_day : Cal P w K mg base CX0 1 "is_day" p_is_day spIsDay) (F : Fun K "check_day" "check_day" s_check_day f fd) : FnOk P w K mg base (CXE P w) 2 f fd p_check_day (spIn (cl 1) 999):=by
  refine F.okE sc_check_day (fun vs H Q E h=>?_) (fun cdv A outer s H vs Q E hr h=>?_)
  · obtain ⟨d,rfl,_⟩:=h; rfl
  obtain ⟨d,rfl,q1,q2⟩:=h
  refine ⟨_,pss_one (ps_if (pt_not (pt_truth (pe_cal G_is_day hr rfl pass0 (pa_c (pv 0) pa_nil)) (fun _=>rfl))) (pss_one (ps_raise (E:=E) rfl T.gBadDay T.eBadDay PySem.F.excBase_ValueError rfl makesE (pa_c pe_str pa_nil))) pss_nil),?_⟩
  refine ⟨_,rfl,d,rfl,_,rfl,?_⟩
  by_cases c : inB d 999
  · rw [decide_eq_true c]
    exact iteF (q1 c)
  · rw [decide_eq_false c]
    exact iteT ⟨by show 1≤sizeLine; decide,q2 c⟩
theorem ok_check_term (F : Fun K "check_term" "check_term" s_check_term f fd) : FnOk P w K mg base (CXE P w) 2 f fd p_check_term (spTerm (cl 2)):=by
  refine F.okE sc_check_term (fun vs H Q E h=>?_) (fun cdv A outer s H vs Q E hr h=>?_)
  · obtain ⟨d,rfl,_⟩:=h; rfl
  obtain ⟨d,rfl,q1,q2⟩:=h
  refine ⟨_,(pss_one (ps_if (pt_not (pt_chain op_le op_le pe_int (pv 0) (pe_glI rfl T.MOST_TERM))) (pss_one (ps_raise (E:=E) rfl T.gBadTerm T.eBadTerm PySem.F.excBase_ValueError rfl makesE (pa_c pe_str pa_nil))) pss_nil)),?_⟩
  refine ⟨_,rfl,?_⟩
  refine chain_lo (lo:=0) (v:=d) (hi:=400) ?_
  by_cases c : okTerm d
  · rw [decide_eq_true c]
    exact iteF (q1 c)
  · rw [decide_eq_false c]
    exact iteT ⟨by show 1≤sizeLine; decide,q2 c⟩
end
end K30
namespace L2
open PySem PySem.Spec PySem.W PyProof.Rows
section
variable {X : Cx} {a b c d e : Expr} {ta tb tc td te : TE} {pos p2 : Pos}
end
theorem keep_refl {σ₀ : St} : ∀ (k : Nat) v,σ₀[k]? = some (some v)→σ₀[k]? = some (some v):=fun _ _ h=>h
theorem keep_set {σ₀ σ : St} {j : Nat} {x : Option V} (h : ∀ (k : Nat) v,σ₀[k]? = some (some v)→σ[k]? = some (some v)) (hj : σ₀[j]? = some none) : ∀ (k : Nat) v,σ₀[k]? = some (some v)→(σ.set j x)[k]? = some (some v):=fun k v e=>by
  have : j≠k:=fun z=>by rw [z,e] at hj; cases hj
  rw [List.getElem?_set_ne this]
  exact h k v e
theorem comp_by {K : PySem.W.Frag} {a D : Addr} {xs : List V} {g : TG} {ti : TT} {te : TE} {σ₀ : St} {H1 : Hp} {R : Hp→Prop} (P : Nat→List V→Hp→Prop) (hD : H1 D=none) (hx : H1 a=some (.lst xs)) (hn : xs.length≤1000)
    (st : ∀ i zs H H',P i zs H→(∀ b o,b≠D→H b=some o→H' b=some o)→P i zs H') (h0 : P 0 [] H1)
    (step : ∀ i x zs H,xs[i]? = some x→Same H1 H→P i zs H→∀ (K1 : V→Hp→Prop) (K2 : Hp→Prop),(∀ y H4,Same H H4→P (i + 1) (zs ++ [y]) H4→K1 y H4)→(∀ H3,Same H H3→P (i + 1) zs H3→K2 H3)→
      g x σ₀ H fun σ2 H2=>(∀ (k : Nat) v,σ₀[k]? = some (some v)→σ2[k]? = some (some v))∧ti σ2 H2 fun b H3=>if b=true then te σ2 H3 K1 else K2 H3)
    (fin : ∀ zs H,Same H1 H→P xs.length zs H→zs.length≤xs.length→H D=some (.lst zs)→R H) :
    ∃ W : Nat→Nat→Hp→Prop,(∃ m,W 0 m (upd H1 D (.lst [])))∧∀ i m H,W i m H→((Itl K a).stop i H∧R H)∨((Itl K a).go i H∧∀ x H',(Itl K a).yld i H x H'→g x σ₀ H' fun σ2 H2=>(∀ (k : Nat) v,σ₀[k]? = some (some v)→σ2[k]? = some (some v))∧ti σ2 H2 fun b H3=>
      if b=true then te σ2 H3 fun y H4=>∃ zs,H4 D=some (.lst zs)∧zs.length < sizeLine∧∃ m',m' < m∧W (i + 1) m' (upd H4 D (.lst (zs ++ [y]))) else ∃ m',m' < m∧W (i + 1) m' H3):=by
  refine ⟨fun i m H=>i + m=xs.length∧Same H1 H∧∃ zs,H D=some (.lst zs)∧zs.length≤i∧P i zs H,⟨xs.length,by omega,same_new hD _,[],upd_same,Nat.le_refl _,st _ _ _ _ h0 fun b o hb e=>by rw [upd_ne hb]; exact e⟩,?_⟩
  rintro i m H ⟨him,s1,zs,hz,hl,hp⟩
  have ex:=s1 _ _ hx
  by_cases hi : i < xs.length
  · refine .inr ⟨⟨xs,_,SqL.of ex,List.getElem?_eq_getElem hi⟩,?_⟩
    rintro x H' ⟨rfl,hy⟩
    refine step i x zs H' (hy _ (SqL.of ex)) s1 hp _ _ (fun y H4 s4 p4=>⟨zs,s4 _ _ hz,small1000 (by omega),m - 1,by omega,by omega,(s1.trans s4).young hD,zs ++ [y],upd_same,by rw [List.length_append,List.length_singleton]; omega,st _ _ _ _ p4 fun b o hb e=>by rw [upd_ne hb]; exact e⟩) fun H3 s3 p3=>⟨m - 1,by omega,by omega,s1.trans s3,zs,s3 _ _ hz,by omega,p3⟩
  · have e : i=xs.length:=by omega
    subst e
    exact .inl ⟨⟨xs,SqL.of ex,Nat.le_refl _⟩,fin zs H s1 hp hl hz⟩
def Tups (H : Hp) (xs : List V) (rs : List (List Int)) : Prop:=xs.length=rs.length∧∀ (i : Nat) x r,xs[i]? = some x→rs[i]? = some r→∃ p,x = .ref p∧H p=some (.tup (r.map V.int))
theorem Tups.nil {H : Hp} : Tups H [] []:=⟨rfl,fun i x r e=>by cases e⟩
theorem Tups.one {H : Hp} {p : Addr} {r : List Int} (h : H p=some (.tup (r.map V.int))) : Tups H [.ref p] [r]:=⟨rfl,fun i x r' e1 e2=>by
  match i,e1,e2 with
  | 0,e1,e2=>cases e1; cases e2; exact ⟨p,rfl,h⟩
  | i + 1,e1,_=>cases e1⟩
theorem Tups.drop {H : Hp} {xs : List V} {rs : List (List Int)} (h : Tups H xs rs) (n : Nat) : Tups H (xs.drop n) (rs.drop n):=by
  refine ⟨by rw [List.length_drop,List.length_drop,h.1],fun i x r e1 e2=>?_⟩
  rw [List.getElem?_drop] at e1 e2
  exact h.2 _ x r e1 e2
theorem Tups.keep {H H' : Hp} {xs : List V} {rs : List (List Int)} (h : Tups H xs rs) (k : ∀ (p : Addr) (z : List V),H p=some (.tup z)→H' p=some (.tup z)) : Tups H' xs rs:=⟨h.1,fun i x r e1 e2=>by
  obtain ⟨p,e,hp⟩:=h.2 i x r e1 e2
  exact ⟨p,e,k _ _ hp⟩⟩
theorem Tups.same {H H' : Hp} {xs : List V} {rs : List (List Int)} (h : Tups H xs rs) (s : Same H H') : Tups H' xs rs:=h.keep fun _ _ e=>s _ _ e
theorem Tups.draw {H H' : Hp} {a c : Addr} {xs : List V} {rs : List (List Int)} (h : Tups H xs rs) (d : DrawAt H a c) (k : KeepBut a H H') : Tups H' xs rs:=h.keep fun p z e=>k _ _ (d.neT e) e
theorem Tups.at {H : Hp} {xs : List V} {rs : List (List Int)} (h : Tups H xs rs) {i : Nat} {x : V} (e : xs[i]? = some x) : ∃ p r,x = .ref p∧rs[i]? = some r∧H p=some (.tup (r.map V.int)):=by
  have hi:=(List.getElem?_eq_some_iff.mp e).1
  have hr : rs[i]? = some (rs[i]'(by rw [← h.1]; exact hi)):=List.getElem?_eq_getElem (by rw [← h.1]; exact hi)
  obtain ⟨p,e',hp⟩:=h.2 i x _ e hr
  exact ⟨p,_,e',hr,hp⟩
theorem Tups.rows {H : Hp} {a : Addr} {xs : List V} {rs : List (List Int)} (h : Tups H xs rs) (ha : H a=some (.lst xs)) : Rows H a rs:=by
  obtain ⟨ps,e⟩ : ∃ ps : List Addr,xs=ps.map V.ref:=by
    have : ∀ (xs : List V) (rs : List (List Int)),Tups H xs rs→∃ ps : List Addr,xs=ps.map V.ref:=by
      intro xs
      induction xs with
      | nil=>exact fun _ _=>⟨[],rfl⟩
      | cons x r ih=>
        intro rs h
        obtain ⟨p,_,e,_⟩:=h.at (i:=0) rfl
        obtain ⟨ps,e'⟩:=ih (rs.drop 1) (by simpa using h.drop 1)
        exact ⟨p :: ps,by rw [e,e']; rfl⟩
    exact this xs rs h
  subst e
  refine ⟨ps,ha,by rw [← h.1,List.length_map],fun i p r e1 e2=>?_⟩
  obtain ⟨q,e,hq⟩:=h.2 i (.ref p) r (by rw [List.getElem?_map,e1]; rfl) e2
  cases e
  exact hq
theorem Rows.tups {H : Hp} {a : Addr} {rs : List (List Int)} (h : Rows H a rs) : ∃ xs,H a=some (.lst xs)∧Tups H xs rs:=by
  obtain ⟨ps,h1,h2,h3⟩:=h
  refine ⟨_,h1,by rw [List.length_map,h2],fun i x r e1 e2=>?_⟩
  rw [List.getElem?_map] at e1
  cases q : ps[i]? with
  | none=>rw [q] at e1; cases e1
  | some p=>rw [q] at e1; cases e1; exact ⟨p,rfl,h3 i p r q e2⟩
end L2
namespace HT
open PySem PyProof.Rows
theorem rcGt_int (A : Around) (s : Shared) (a : Int) (t : Tok) (c : Int) (u : Tok) (prog : Program) (w : World) : ∀ {Q : Value→Shared→Prop} {E : Value→Shared→Prop},Q (.bool (decide (c < a))) s→wpAny (model prog w) A (richCompare .Gt (.int a t) (.int c u)) Q E s:=fun {Q E} h=>
  CmpOf.ints_gt (prog:=prog) (w:=w) (A:=A) (P:=fun i v=>if i=0 then v = .int a t else v = .int c u) (fun i=>if i=0 then a else c) (fun i v hv=>by
    by_cases z : i=0
    · rw [if_pos z] at hv; exact ⟨t,by rw [if_pos z]; exact hv⟩
    · rw [if_neg z] at hv; exact ⟨u,by rw [if_neg z]; exact hv⟩) 0 1 _ _ s Q E rfl rfl h
section
theorem tuple_gt_ints (l b : Addr) (items items2 : Array Value) (n n2 : Nat) (dd dd2 : Option Addr) (sl sl2 : Array (Option Value)) (ns ms : List Int) (hi : IntsAre items.toList ns) (hj : IntsAre items2.toList ms) :
    Meets (Builtin.«tuple.__gt__» ⟨[.ref l,.ref b],[]⟩)
      (fun _ R s=>s.heap.get? l=some { cls:=.type "tuple",dict:=dd,data:=.seq items n,slots:=sl }∧s.heap.get? b=some { cls:=.type "tuple",dict:=dd2,data:=.seq items2 n2,slots:=sl2 } ∧
        R (.ok (.ret (.bool (lexLt ms ns)))) s):=
  .of_wp fun prog w A R s h=>by
    obtain ⟨hp,g,d,tk,os⟩:=s; obtain ⟨hl,hb,h⟩:=h
    have f2:=AutoSeq1.sub_tuple_tuple
    have z1 : items.size=ns.length:=by rw [← hi.length]; simp
    have z2 : items2.size=ms.length:=by rw [← hj.length]; simp
    wp_walk using wpAny_loadPart' hl,wpAny_loadPart' hb,wpAny_forIn_list _ (fun rest b s'=>b.1=none∧s' = ⟨hp,g,d,tk,os⟩∧∃ (vs ws : List Value) (ns' ms' : List Int),rest=vs.zip ws∧
      IntsAre vs ns'∧IntsAre ws ms'∧ns'.length + items2.size=ms'.length + items.size∧R (.ok (.ret (.bool (lexLt ms' ns')))) ⟨hp,g,d,tk,os⟩) _
    case turn=>
      rintro ⟨y,x⟩ rest b s' ⟨hb',rfl,vs,ws,ns',ms',hz,hvi,hwi,hlen,hR⟩
      cases hvi with
      | nil=>rw [List.zip_nil_left] at hz; cases hz
      | cons a t hvi'=>
        cases hwi with
        | nil=>rw [List.zip_nil_right] at hz; cases hz
        | cons c u hwi'=>
          rw [List.zip_cons_cons] at hz
          injection hz with hyx hrest
          injection hyx with hy hx
          subst hy hx
          rw [lexLt_cons] at hR
          simp only [List.length_cons] at hlen
          obtain ⟨e,he,hiff⟩:=eqAt_int A.in1 ⟨hp,g,d,tk,os⟩ a t c u
          refine wpAny_bind (he prog w _ _ ?_)
          cases e with
          | true=>
            rw [if_pos (hiff.mp rfl).symm] at hR
            wp_walk
            exact ⟨rfl,rfl,_,_,_,_,hrest,hvi',hwi',by omega,hR⟩
          | false=>
            rw [if_neg (fun q=>absurd (hiff.mpr q.symm) Bool.false_ne_true)] at hR
            have hri : ∀ {Q : Value→Shared→Prop} {E : Value→Shared→Prop},Q (.bool (decide (c < a))) ⟨hp,g,d,tk,os⟩→wpAny (model prog w) A.in1 (richCompare .Gt (.int a t) (.int c u)) Q E ⟨hp,g,d,tk,os⟩:=rcGt_int A.in1 ⟨hp,g,d,tk,os⟩ a t c u prog w
            wp_walk using hri
            exact ⟨_,rfl,by simpa using hR⟩
    case fin=>
      rintro ⟨b1,b2⟩ s' ⟨hb',rfl,vs,ws,ns',ms',hz,hvi,hwi,hlen,hR⟩
      simp only at hb'
      subst hb'
      have hv : lexLt ms' ns' = decide (items2.size < items.size):=by
        cases hvi with
        | nil=>
          cases hwi with
          | nil=>
            simp only [List.length_nil] at hlen
            rw [lexLt_nil_nil]
            exact (decide_eq_false (by omega)).symm
          | cons c u hw=>
            simp only [List.length_nil,List.length_cons] at hlen
            rw [lexLt_cons_nil]
            exact (decide_eq_false (by omega)).symm
        | cons a t hv=>
          cases hwi with
          | nil=>
            simp only [List.length_nil,List.length_cons] at hlen
            rw [lexLt_nil_cons]
            exact (decide_eq_true (by omega)).symm
          | cons c u hw=>
            rw [List.zip_cons_cons] at hz
            cases hz
      rw [hv] at hR
      wp_walk
      exact ⟨_,rfl,by simpa [Builtin.Tuple.tupleCompareSizes] using hR⟩
    case h=>
      exact ⟨rfl,rfl,items.toList,items2.toList,ns,ms,rfl,hi,hj,by omega,h⟩
end
section
variable {prog : Program} {w : World} {A : Around} {E : Value→Shared→Prop} {s : Shared}
theorem gt_tupInts {l b : Addr} {items items2 : Array Value} {ns ms : List Int} {Q : Value→Shared→Prop} (hl : IsTup s.heap l items) (hb : IsTup s.heap b items2) (hi : IntsAre items.toList ns) (hj : IntsAre items2.toList ms)
    (hu : A.units < cLine) (h : Q (.bool (lexLt ms ns)) s) : wpAny (model prog w) A (richCompare .Gt (.ref l) (.ref b)) Q E s:=by
  obtain ⟨⟨cls,dd,data,sl⟩,ho,hc,n,hd⟩:=id hl
  obtain ⟨⟨cls2,dd2,data2,sl2⟩,ho2,hc2,n2,hd2⟩:=id hb
  simp only at hc hd hc2 hd2
  subst hc hd hc2 hd2
  exact richCompare_meets_room (op:=.Gt) ⟨_,ho,rfl⟩ ⟨_,ho2,rfl⟩ PySem.F.slot_tuple_gt PySem.F.entry_tuple_gt (PySem.F.args_tuple_gt_2 _ _) (tuple_gt_ints l b items items2 n n2 dd dd2 sl sl2 ns ms hi hj)
    ⟨ho,ho2,show Value.bool (lexLt ms ns)≠Value.notImplemented∧Q (.bool (lexLt ms ns)) s from ⟨(fun x=>nomatch x),h⟩⟩ hu
end
end HT
namespace L2
open PySem PySem.Spec PyProof.Rows
theorem args_maxD (a d : Value) : argsOk "max" ⟨[a],[(Str.ofString "default",d)]⟩:=by unfold argsOk; kernel_rfl
section
variable {prog : Program} {w : World} {A : Around} {R : Result→Shared→Prop} {I : Addr} {fp wr : List Addr} {n : Nat} {P : Nat→Value→Prop} {St : Nat→Heap→Prop}
def CmpJ (prog : Program) (w : World) (A : Around) (J : Heap→Prop) (P : Nat→Value→Prop) (bt : Nat→Nat→Bool) : Prop:=
  ∀ i j vi vj (s : Shared) (Q : Value→Shared→Prop) (E : Value→Shared→Prop),J s.heap→P i vi→P j vj→Q (.bool (bt i j)) s→wpAny (model prog w) A (richCompare .Gt vi vj) Q E s
theorem maxJ_loop {J : Heap→Prop} {d : Value} (W : Walks prog w A.in1 I fp wr n P St) (bt : Nat→Nat→Bool) (hcmp : CmpJ prog w A.in1 J P bt) (S : Addr) (hSf : S ∉ fp) (hJ : ∀ h h',J h→(∀ b o,b ∉ wr→b≠S→h.get? b=some o→h'.get? b=some o)→J h') :
    ∀ (k j : Nat) (s : Shared) (vb : Value) (c : Nat),n - (j + 1)=k→j + 1≤n→St (j + 1) s.heap→J s.heap→P (argBest bt j) vb→
    s.heap.get? S=some { cls:=.type "list",dict:=none,data:=.seq #[vb,vb] c,slots:=#[] } →
    (∀ v h' tk,P (argBest bt (n - 1)) v→(∀ b o,b ∉ wr→b≠S→s.heap.get? b=some o→h'.get? b=some o)→R (.ok (.ret v)) { s with heap:=h',toks:=tk })→
    codeAny (model prog w) A (.builtin "max.loop" ⟨[.ref I,.none,.ref S],[(Str.ofString "default",d)]⟩) R s:=by
  have hSw : S ∉ wr:=fun h=>hSf (W.sub _ h)
  have hname : (toString "max" ++ toString ".loop" : String) = "max.loop" := by decide
  intro k
  induction k with
  | zero=>
    intro j s vb c hk hj hst hj0 hPb hS hR
    have hin : j + 1=n:=by omega
    refine codeAny_builtin F.entry_max_loop ?_
    rw [Around.under_plainId F.plain_max_loop _]
    show wpAny _ A.in1 (seqItems? (.ref S) >>= _) _ _ s
    refine wpAny_bind (wpAny_seqItems hS rfl ?_)
    show wpAny _ A.in1 (tryCatch (pyNext (.ref I)) _ >>= _) _ _ s
    refine wpAny_bind (wpAny_tryCatch (W.done s _ _ (hin ▸ hst) fun h' tk hk'=>?_))
    have hS':=hk' S _ hSw hS
    show wpAny _ A.in1 (updateSeq S (fun _=>#[]) >>= _) _ _ _
    refine wpAny_bind ?_
    refine wpAny_updateSeq hS' rfl (wpAny_bind (wpAny_letGo (wpAny_pure ?_)))
    refine hR vb _ tk (by rw [← hin]; exact hPb) fun b o hbw hbS e=>(Heap.get?_update_other _ _ (Ne.symm hbS)).trans (hk' b o hbw e)
  | succ k ih=>
    intro j s vb c hk hj hst hj0 hPb hS hR
    have hlt : j + 1 < n:=by omega
    refine codeAny_builtin F.entry_max_loop ?_
    rw [Around.under_plainId F.plain_max_loop _]
    show wpAny _ A.in1 (seqItems? (.ref S) >>= _) _ _ s
    refine wpAny_bind (wpAny_seqItems hS rfl ?_)
    show wpAny _ A.in1 (tryCatch (pyNext (.ref I)) _ >>= _) _ _ s
    refine wpAny_bind (wpAny_tryCatch (W.item (j + 1) s _ _ hlt hst fun v h' tk hP hst' hk'=>?_))
    have hS':=hk' S _ hSw hS
    have hj1 : J h':=hJ _ _ hj0 fun b o hb _ e=>hk' b o hb e
    show wpAny _ A.in1 (tryCatch (holding [v,v] (richCompare .Gt v vb >>= _)) _ >>= _) _ _ _
    refine wpAny_bind (wpAny_tryCatch (wpAny_holding (wpAny_bind (hcmp (j + 1) (argBest bt j) v vb _ _ _ hj1 hP hPb ?_))))
    refine wpAny_bind (wpAny_holding (wpAny_truthy_bool ?_))
    refine wpAny_bind (wpAny_letGo (wpAny_pure ?_))
    cases hb : bt (j + 1) (argBest bt j) with
    | true=>
      simp only [if_true]
      refine wpAny_bind ?_
      refine wpAny_updateSeq hS' rfl (wpAny_bind (wpAny_letGo ?_))
      rw [hname]
      refine wpAny_pure ⟨plainId_quiet F.plain_max_loop _,ih (j + 1) _ v _ (by omega) hlt (W.frame _ _ _ hst' fun b hbf o e=>?_) (hJ _ _ hj1 fun b o _ hbS e=>(Heap.get?_update_other _ _ (Ne.symm hbS)).trans e) (by simp only [argBest,hb,if_true]; exact hP) (Heap.get?_update_self _ hS' rfl)
        fun v' h'' tk'' hP' hk''=>?_⟩
      · exact (Heap.get?_update_other _ _ (fun h : S=b=>hSf (by rw [h]; exact hbf))).trans e
      · exact hR v' h'' tk'' hP' fun b o hbw hbS e=>hk'' b o hbw hbS ((Heap.get?_update_other _ _ (Ne.symm hbS)).trans (hk' b o hbw e))
    | false=>
      simp only [Bool.false_eq_true,if_false]
      refine wpAny_bind (wpAny_letGo ?_)
      rw [hname]
      refine wpAny_pure ⟨plainId_quiet F.plain_max_loop _,ih (j + 1) _ vb c (by omega) hlt hst' hj1 (by simp only [argBest,hb,Bool.false_eq_true,if_false]; exact hPb) hS' fun v' h'' tk'' hP' hk''=>?_⟩
      exact hR v' h'' tk'' hP' fun b o hbw hbS e=>hk'' b o hbw hbS (hk' b o hbw e)
theorem maxJ_first {J : Heap→Prop} {d : Value} (W : Walks prog w A.in1 I fp wr n P St) (bt : Nat→Nat→Bool) (hcmp : CmpJ prog w A.in1 J P bt) (S : Addr) (hSf : S ∉ fp) (hJ : ∀ h h',J h→(∀ b o,b ∉ wr→b≠S→h.get? b=some o→h'.get? b=some o)→J h') {s : Shared} {c : Nat} (hst : St 0 s.heap) (hj0 : J s.heap)
    (hS : s.heap.get? S=some { cls:=.type "list",dict:=none,data:=.seq #[] c,slots:=#[] })
    (h0 : n=0→∀ h' tk,(∀ b o,b ∉ wr→b≠S→s.heap.get? b=some o→h'.get? b=some o)→R (.ok (.ret d)) { s with heap:=h',toks:=tk })
    (hR : 0 < n→∀ v h' tk,P (argBest bt (n - 1)) v→(∀ b o,b ∉ wr→b≠S→s.heap.get? b=some o→h'.get? b=some o)→R (.ok (.ret v)) { s with heap:=h',toks:=tk }) :
    codeAny (model prog w) A (.builtin "max.loop" ⟨[.ref I,.none,.ref S],[(Str.ofString "default",d)]⟩) R s:=by
  have hSw : S ∉ wr:=fun h=>hSf (W.sub _ h)
  have hname : (toString "max" ++ toString ".loop" : String) = "max.loop" := by decide
  refine codeAny_builtin F.entry_max_loop ?_
  rw [Around.under_plainId F.plain_max_loop _]
  show wpAny _ A.in1 (seqItems? (.ref S) >>= _) _ _ s
  refine wpAny_bind (wpAny_seqItems hS rfl ?_)
  show wpAny _ A.in1 (tryCatch (pyNext (.ref I)) _ >>= _) _ _ s
  by_cases hn : n=0
  · subst hn
    refine wpAny_bind (wpAny_tryCatch (W.done s _ _ hst fun h' tk hk'=>?_))
    refine wpAny_bind (wpAny_rule ?_)
    exact wpAny_pure (h0 rfl h' tk fun b o hb _ e=>hk' b o hb e)
  refine wpAny_bind (wpAny_tryCatch (W.item 0 s _ _ (by omega) hst fun v h' tk hP hst' hk'=>?_))
  have hS':=hk' S _ hSw hS
  have hj1 : J h':=hJ _ _ hj0 fun b o hb _ e=>hk' b o hb e
  show wpAny _ A.in1 (updateSeq S (fun _=>#[v,v]) >>= _) _ _ _
  refine wpAny_bind ?_
  refine wpAny_updateSeq hS' rfl ?_
  rw [hname]
  refine wpAny_pure ⟨plainId_quiet F.plain_max_loop _,maxJ_loop W bt hcmp S hSf hJ _ 0 _ v _ rfl (by omega) (W.frame _ _ _ hst' fun b hbf o e=>?_) (hJ _ _ hj1 fun b o _ hbS e=>(Heap.get?_update_other _ _ (Ne.symm hbS)).trans e) hP (Heap.get?_update_self _ hS' rfl) fun v' h'' tk'' hP' hk''=>?_⟩
  · exact (Heap.get?_update_other _ _ (fun h : S=b=>hSf (by rw [h]; exact hbf))).trans e
  · exact hR (by omega) v' h'' tk'' hP' fun b o hbw hbS e=>hk'' b o hbw hbS ((Heap.get?_update_other _ _ (Ne.symm hbS)).trans (hk' b o hbw e))
end
section
variable {prog : Program} {w : World} {A : Around} {E : Value→Shared→Prop} {s : Shared}
theorem call_tree_kw {id : String} {b : Builtin} {args : List Value} {kw : List (Str×Value)} {Q : Value→Shared→Prop} (hk : builtinKind id=none) (hp : plainId id=true)
    (hb : entryFor table id=some b) (ha : argsOk id ⟨args,kw⟩)
    (hc : wpAny (model prog w) A.in1 (b ⟨args,kw⟩) (fun fin s'=>match fin with
      | .done f=>(match (Except.ok f : Result) with | .ok (.ret v)=>Q v s' | .ok _=>False | .error e=>E e s')
      | .again c'=>c'.quiet=true∧codeAny (model prog w) A c' (fun r s'=>match r with | .ok (.ret v)=>Q v s' | .ok _=>False | .error e=>E e s') s') E s) :
    wpAny (model prog w) A (call (.builtin id) args kw) Q E s:=by
  refine wpAny_call (codeAny_call_builtin hp hb ?_)
  simp only [checkBuiltinCall,hk]
  cases hsig : Manifest.signature? id with
  | none=>exact wpAny_pure hc
  | some sig=>
    have ha' : Bind.checkArgs id sig ⟨args,kw⟩=pure ():=by simpa only [argsOk,hsig] using ha
    simp only [ha']
    exact wpAny_pure hc
theorem max_tups {l : Addr} {bs : List Addr} {rs : List (List Int)} {d : Value} {Q : Value→Shared→Prop} (hh : A.handled=none) (hu : A.units + 2 < cLine) (hl : s.heap.IsList l (bs.map Value.ref).toArray) (t : TupsAt s.heap bs rs)
    (h0 : bs=[]→∀ h' tk,(∀ b o,s.heap.get? b=some o→h'.get? b=some o)→Q d { s with heap:=h',toks:=tk })
    (h : ∀ b h' tk,0 < bs.length→bs[argBest (fun i j=>HT.lexLt (rs.getD j []) (rs.getD i [])) (bs.length - 1)]? = some b→(∀ b o,s.heap.get? b=some o→h'.get? b=some o)→Q (.ref b) { s with heap:=h',toks:=tk }) :
    wpAny (model prog w) A (call (.builtin "max") [.ref l] [(Str.ofString "default",d)]) Q E s:=by
  have hname : (toString "max" ++ toString ".loop" : String) = "max.loop" := by decide
  refine call_tree_kw F.kind_max F.plain_max F.entry_max (args_maxD _ _) ?_
  show wpAny _ A.in1 (Builtin.Builtins.bindParams "max" ["key","default"] 0 ⟨[],[(Str.ofString "default",d)]⟩ >>= _) _ _ s
  refine wpAny_bind (wpAny_of_eq (show Builtin.Builtins.bindParams "max" ["key","default"] 0 ⟨[],[(Str.ofString "default",d)]⟩=pure [none,some d] from rfl) ?_)
  refine wpAny_bind (wpAny_pure ?_)
  have hlt : l < s.heap.objs.size:=by obtain ⟨_,e,_⟩:=hl; exact Heap.lt_size e
  refine wpAny_bind (wpAny_pyIter_list hl ?_)
  have hst : (s.heap.push { cls:=.type "list_iterator",data:=.fields #[.ref l,.int 0 0] }).IsListIter s.heap.objs.size l 0:=⟨_,Heap.get?_push_size _ rfl,rfl,rfl⟩
  have hl2:=hl.push { cls:=.type "list_iterator",data:=.fields #[.ref l,.int 0 0] }
  have hk0 : ∀ b o,s.heap.get? b=some o→(s.heap.push { cls:=.type "list_iterator",data:=.fields #[.ref l,.int 0 0] }).get? b=some o:=fun b o e=>Heap.get?_push_of_some _ e
  have hsz : (s.heap.push { cls:=.type "list_iterator",data:=.fields #[.ref l,.int 0 0] }).objs.size=s.heap.objs.size + 1:=Heap.size_push ..
  refine wpAny_bind (wpAny_newObj_type ?_)
  have hlow : ∀ b∈bs,b < s.heap.objs.size:=fun b hb=>by
    obtain ⟨k,hk,rfl⟩:=List.getElem_of_mem hb
    obtain ⟨its,⟨o,e,_⟩,_⟩:=t.2 k _ _ (List.getElem?_eq_getElem hk) (List.getElem?_eq_getElem (by rw [← t.1]; exact hk))
    exact Heap.lt_size e
  have hlI : l≠s.heap.objs.size:=Nat.ne_of_lt hlt
  have W:=Walks.list (prog:=prog) (w:=w) (A:=A.in1) hh s.heap.objs.size l hlI (bs.map Value.ref).toArray
  have keepT : ∀ {h h' : Heap},TupsAt h bs rs→(∀ b o,b ∉ [s.heap.objs.size]→b≠(s.heap.push { cls:=.type "list_iterator",data:=.fields #[.ref l,.int 0 0] }).objs.size→h.get? b=some o→h'.get? b=some o)→TupsAt h' bs rs:=fun {h h'} T k=>⟨T.1,fun i b r e1 e2=>by
    obtain ⟨its,⟨o,e,q⟩,ii⟩:=T.2 i b r e1 e2
    have hb:=hlow b (List.mem_of_getElem? e1)
    exact ⟨its,⟨o,k b o (by rw [List.mem_singleton]; exact Nat.ne_of_lt hb) (by rw [hsz]; exact Nat.ne_of_lt (Nat.lt_succ_of_lt hb)) e,q⟩,ii⟩⟩
  have hcmp : CmpJ prog w A.in1 (fun h=>TupsAt h bs rs) (fun i v=>(bs.map Value.ref).toArray[i]? = some v) (fun i j=>HT.lexLt (rs.getD j []) (rs.getD i [])):=by
    intro i j vi vj s' Q' E' T hi hj q
    have get : ∀ {k : Nat} {v : Value},(bs.map Value.ref).toArray[k]? = some v→∃ b its,v = .ref b∧IsTup s'.heap b its.toArray∧IntsAre its (rs.getD k []):=fun {k v} hk=>by
      rw [List.getElem?_toArray,List.getElem?_map] at hk
      cases e : bs[k]? with
      | none=>rw [e] at hk; cases hk
      | some b=>
        rw [e] at hk
        cases hk
        have hlt:=(List.getElem?_eq_some_iff.mp e).1
        have er : rs[k]? = some (rs.getD k []):=by rw [List.getD_eq_getElem?_getD,List.getElem?_eq_getElem (by rw [← T.1]; exact hlt)]; rfl
        obtain ⟨its,a1,a2⟩:=T.2 k b _ e er
        exact ⟨b,its,rfl,a1,a2⟩
    obtain ⟨b1,i1,rfl,a1,c1⟩:=get hi
    obtain ⟨b2,i2,rfl,a2,c2⟩:=get hj
    exact HT.gt_tupInts a1 a2 (by simpa using c1) (by simpa using c2) (by show A.units + 1 < cLine; omega) q
  have hSf : (s.heap.push { cls:=.type "list_iterator",data:=.fields #[.ref l,.int 0 0] }).objs.size ∉ [s.heap.objs.size,l]:=fun hm=>by
    rw [hsz] at hm
    rcases List.mem_cons.mp hm with z | z
    · exact Nat.succ_ne_self _ z
    · have:=List.mem_singleton.mp z
      exact absurd hlt (by rw [← this]; exact Nat.not_lt.mpr (Nat.le_succ _))
  rw [hname]
  have hsz2 : (bs.map Value.ref).toArray.size=bs.length:=by simp
  refine wpAny_pure ⟨plainId_quiet F.plain_max_loop _,maxJ_first W _ hcmp _ hSf (fun h h' T k=>keepT T k) (W.frame _ _ _ ⟨hst,hl2⟩ fun b _ o e=>Heap.get?_push_of_some _ e) ?_ (Heap.get?_push_size _ rfl) (fun hn h' tk hk=>?_) (fun hn v h' tk hP hk=>?_)⟩
  · exact ⟨t.1,fun i b r e1 e2=>by
      obtain ⟨its,⟨o,e,q⟩,ii⟩:=t.2 i b r e1 e2
      exact ⟨its,⟨o,Heap.get?_push_of_some _ (hk0 _ _ e),q⟩,ii⟩⟩
  · exact h0 (List.length_eq_zero_iff.mp (by rw [← hsz2]; exact hn)) h' tk fun b o e=>hk b o (by rw [List.mem_singleton]; exact Nat.ne_of_lt (Heap.lt_size e)) (by rw [hsz]; exact Nat.ne_of_lt (Nat.lt_succ_of_lt (Heap.lt_size e))) (Heap.get?_push_of_some _ (hk0 _ _ e))
  · rw [hsz2] at hP hn
    rw [List.getElem?_toArray,List.getElem?_map] at hP
    cases e : bs[argBest (fun i j=>HT.lexLt (rs.getD j []) (rs.getD i [])) (bs.length - 1)]? with
    | none=>rw [e] at hP; cases hP
    | some b=>
      rw [e] at hP
      cases hP
      exact h b h' tk hn e fun b o e=>hk b o (by rw [List.mem_singleton]; exact Nat.ne_of_lt (Heap.lt_size e)) (by rw [hsz]; exact Nat.ne_of_lt (Nat.lt_succ_of_lt (Heap.lt_size e))) (Heap.get?_push_of_some _ (hk0 _ _ e))
end
theorem lex_eq : ∀ a b : List Int,HT.lexLt a b=lexB a b
  | [],[]=>rfl
  | [],_ :: _=>rfl
  | _ :: _,[]=>rfl
  | x :: xs,y :: ys=>by
    show (if x=y then HT.lexLt xs ys else _)=(if x=y then lexB xs ys else _)
    rw [lex_eq xs ys]
theorem argBest_max (f : Nat→List Int) : ∀ n : Nat,argBest (fun i j=>HT.lexLt (f j) (f i)) n≤n∧∀ j,j≤n→lexB (f (argBest (fun i j=>HT.lexLt (f j) (f i)) n)) (f j)=false
  | 0 => ⟨Nat.le_refl _, fun j hj => by have : j = 0 := by omega
                                        subst this; exact lex_irr _⟩
  | n + 1=>by
    obtain ⟨h1,h2⟩:=argBest_max f n
    unfold argBest
    generalize argBest (fun i j=>HT.lexLt (f j) (f i)) n=k at *
    cases e : HT.lexLt (f k) (f (n + 1)) with
    | true=>
      rw [if_pos rfl]
      refine ⟨Nat.le_refl _,fun j hj=>?_⟩
      rw [lex_eq] at e
      by_cases z : j=n + 1
      · subst z; exact lex_irr _
      · exact lex_tr (h2 j (by omega)) (lex_asy e)
    | false=>
      rw [if_neg (by decide)]
      refine ⟨by omega,fun j hj=>?_⟩
      rw [lex_eq] at e
      by_cases z : j=n + 1
      · subst z; exact e
      · exact h2 j (by omega)
def rMaxD : V→V→Hp→VK→Prop:=fun x y H Q=>∃ (p : Addr) (rs : List (List Int)),x = .ref p∧Rows H p rs∧(rs=[]→Q y H)∧∀ b r,r∈rs→(∀ r'∈rs,lexB r r' = false)→H b=some (.tup (r.map V.int))→Q (.ref b) H
def tMaxD (te td : TE) : TE:=fun σ H Q=>te σ H fun x H1=>td σ H1 fun y H2=>rMaxD x y H2 Q
theorem pe_maxD {X : Cx} {e d : Expr} {te td : TE} {npos kpos pos : PySem.Pos} (hc : X.calm=true) (hu : X.A.units + 64 < cLine) (ha : PA X [e] (tCons te tNil)) (hd : PE X d td) (hg : Gl X "max") (hm : X.mg "max" = none) (hv : bootBuiltins "max" = some (.builtin "max"))
    (he : backTo pos (starEach [e] X.env)=(false,eval e X.env) :: backTo pos (starEach [] X.env):=by rfl) (hpl : (backTo pos (starEach [e] X.env)).any (·.1)=false:=by rfl) :
    PE X (.Call (.Name "max" npos) [e] [⟨some (Str.ofString "default"),d,kpos⟩] pos) (tMaxD te td):=by
  intro pins s σ H Q I h
  refine wpAny_Call_Name_kw (ld_blt I hg hm hv ?_ (by decide) (by decide))
  refine callWith_kw (thn (ha pos pins s σ H (fun vs H1=>match vs with | [v]=>td σ H1 fun y H2=>rMaxD v y H2 Q | _=>False) I h) fun us s1 ⟨vs,H1,I1,r1,q1⟩=>?_) he hpl
  obtain ⟨v,rfl⟩ : ∃ v,vs=[v]:=by
    match vs,q1 with
    | [v],_=>exact ⟨v,rfl⟩
  obtain ⟨u,rfl,ru⟩:=r1.one
  show wpAny _ _ (evalAll ((do let v ← eval d X.env; standAt pos; pure v) :: [])) _ _ s1
  refine wpAny_evalAll_cons (wpAny_bind (thn (hd pins s1 σ H1 _ I1 q1) fun dv s2 ⟨y,H2,I2,r2,q2⟩=>?_))
  refine wpAny_bind (wpAny_standAt (wpAny_pure (wpAny_evalAll_nil ?_)))
  obtain ⟨p,rs,rfl,hR,q0,q⟩:=q2
  cases ru
  show wpAny _ _ (call (.builtin "max") [.ref p] [(Str.ofString "default",dv)]) _ _ s2
  obtain ⟨ps,h1,h2,h3⟩:=id hR
  obtain ⟨its,rv,pl,hz⟩:=I2.list (SqL.of h1)
  have eits : its=ps.map Value.ref:=by
    clear hz pl h1 h2 h3 hR
    induction ps generalizing its with
    | nil=>cases rv; rfl
    | cons a r ih=>
      cases rv with
      | cons x t=>rw [show _=Value.ref a from x,ih _ t]; rfl
  subst eits
  have tt : TupsAt s2.heap ps rs:=⟨h2,fun i b r e1 e2=>by
    obtain ⟨_,us,rr,y⟩:=(show ObjOk X.prog X.w H2 s2.heap b (.tup (r.map V.int)) from I2.hok b _ (h3 i b r e1 e2))
    exact ⟨us,y,ints_of rr⟩⟩
  refine max_tups (I2.ok.hd hc) (by omega) pl.isList tt (fun z h' tk hk=>?_) fun b h' tk hn eb hk=>?_
  · subst z
    exact ⟨y,H2,I2.kept (t':=tk) hk,r2,q0 (List.length_eq_zero_iff.mp h2.symm)⟩
  · obtain ⟨m1,m2⟩:=argBest_max (fun i=>rs.getD i []) (ps.length - 1)
    generalize argBest (fun i j=>HT.lexLt (rs.getD j []) (rs.getD i [])) (ps.length - 1)=k at *
    have hk' : k < rs.length:=by omega
    have er : rs[k]? = some (rs.getD k []):=by rw [List.getD_eq_getElem?_getD,List.getElem?_eq_getElem hk']; rfl
    refine ⟨.ref b,H2,I2.kept (t':=tk) hk,rfl,q b (rs.getD k []) (List.mem_of_getElem? er) (fun r' hr'=>?_) (h3 k b _ eb er)⟩
    obtain ⟨j,hj,rfl⟩:=List.getElem_of_mem hr'
    have:=m2 j (by omega)
    rw [List.getD_eq_getElem?_getD (l:=rs) (i:=j),List.getElem?_eq_getElem hj] at this
    exact this
end L2
namespace L2
open PySem PySem.Spec PySem.W PyProof.Rows
section
variable {X : Cx} {pins : List (Addr×Obj)} {σ : St} {H : Hp} {s : Shared}
end
end L2
namespace L2
open PySem PySem.Spec PySem.W PyProof.Rows
section
variable {X : Cx} {pins : List (Addr×Obj)} {σ : St} {H : Hp} {s : Shared} {N' : List Str} {ix : List (Option Nat)} {p q : Str} {scope : Scope}
end
end L2
namespace L2
open PySem PySem.Spec PySem.W PyProof.Rows
section
variable {X : Cx} {pins : List (Addr×Obj)} {σ : St} {H : Hp} {s : Shared}
end
end L2
namespace L2
open PySem PySem.Spec PySem.W PyProof.Rows
end L2
namespace L2
def S : List (Int×Int)→Int→Int→Int
  | [],_,_=>0
  | p :: r,f,l=>(if f≤p.1∧p.1≤l then p.2 else 0) + S r f l
end L2
namespace L2
open PySem PySem.Spec PyProof.Rows
section
variable {κ : Type} [DecidableEq κ]
end
section
variable {P : Program} {w : World} {H : Hp} {h : Heap} {a : Addr}
end
section
variable {X : Cx} {pins : List (Addr×Obj)} {σ : St} {H : Hp} {s : Shared} {a : Addr} {y v : V} {u r : Value} {o : Option V} {A : Around} {E : Value→Shared→Prop}
end
section
variable {X : Cx} {pins : List (Addr×Obj)} {σ : St} {H : Hp} {s : Shared} {a : Addr} {kvs : List (Key×V)} {k : Key} {u : Value} {A : Around} {E : Value→Shared→Prop}
end
section
variable {X : Cx} {o i e value : Expr} {pos pos' tpos : Pos} {td ty tv : TE}
end
section
variable {X : Cx} {pos : Pos}
end
section
variable {X : Cx} {pins : List (Addr×Obj)} {σ : St} {H : Hp} {s : Shared} {a : Addr} {y d : V} {u r : Value} {o : Option V} {A : Around} {E : Value→Shared→Prop}
end
section
variable {X : Cx} {o e f : Expr} {apos cpos : Pos} {td ty tx : TE}
end
section
variable {X : Cx} {pins : List (Addr×Obj)} {σ : St} {H : Hp} {s : Shared} {a : Addr} {kvs : List (Key×V)} {A : Around} {E : Value→Shared→Prop}
end
section
variable {X : Cx} {pins : List (Addr×Obj)} {σ : St} {H : Hp} {s : Shared} {a : Addr} {y : V} {u : Value} {A : Around} {E : Value→Shared→Prop}
end
end L2
namespace L2
open PySem PySem.Spec PyProof.Rows
section
variable {X : Cx} {pins : List (Addr×Obj)} {σ : St} {H : Hp} {s : Shared}
end
section
variable {X : Cx} {N' : List Str} {ix : List (Option Nat)} {scope : Scope} {kx vx tg iter : Expr} {ifs : List Expr} {pos : Pos} {wi : TI} {g : TG} {ti : TT} {tk tv : TE}
end
end L2
namespace L2
open PySem PySem.Spec PyProof.Rows
section
variable {prog : Program} {w : World} {A : Around} {E : Value→Shared→Prop} {s : Shared}
end
section
variable {prog : Program} {w : World} {A : Around} {E : Value→Shared→Prop} {s : Shared}
end
section
variable {X : Cx} {es : List Expr} {x1 : Nat} {tp : Pos} {oe : Expr} {td : TE} {apos cpos : Pos}
end
section
variable {X : Cx} {tg : Expr} {oe : Expr} {td : TE} {apos cpos : Pos}
end
end L2
namespace L2
open PySem PySem.Spec PyProof.Rows
section
variable {prog : Program} {w : World} {A : Around} {R : Result→Shared→Prop} {s : Shared}
end
section
variable {X : Cx} {N' : List Str} {ix : List (Option Nat)} {scope : Scope} {elt tg iter : Expr} {ifs : List Expr} {pos : Pos} {wi : TI} {g : TG} {ti : TT} {te : TE}
variable {t1 i1 : Expr} {wi1 : TI} {g1 : TG}
end
end L2
namespace L2
open PySem PySem.Spec PyProof.Rows
end L2
namespace L2
open PySem PySem.Spec PyProof.Rows
section
variable {prog : Program} {w : World} {A : Around} {E : Value→Shared→Prop} {s : Shared}
end
end L2
namespace L2
open PySem PySem.Spec PyProof.Rows
section
variable {prog : Program} {w : World} {A : Around} {R : Result→Shared→Prop} {s : Shared}
end
section
variable {X : Cx} {N' : List Str} {ix : List (Option Nat)} {scope : Scope} {elt tg iter : Expr} {ifs : List Expr} {pos : Pos} {wi : TI} {g : TG} {ti : TT} {te : TE}
end
end L2
namespace L2
open PySem PySem.Spec PyProof.Rows
section
variable {prog : Program} {w : World} {A : Around} {E : Value→Shared→Prop} {s : Shared}
end
section
variable {prog : Program} {w : World} {A : Around} {E : Value→Shared→Prop} {s : Shared}
end
end L2
namespace L2
open PySem PySem.Spec PyProof.Rows
section
variable {prog : Program} {w : World} {A : Around} {E : Value→Shared→Prop} {s : Shared}
end
end L2
namespace L2
open PySem PySem.Spec PySem.W PyProof.Rows
variable {X : Cx}
def rMin (K : PySem.W.Frag) : List V→Hp→VK→Prop:=fun xs H Q=>∃ (p : Addr) (ns : List Int),xs=[.ref p]∧SqL K H p (ns.map V.int)∧0 < ns.length∧∀ M,M∈ns→(∀ a∈ns,M≤a)→Q (.int M) H
theorem call_minI (hc : X.calm=true) : CallR X (.builtin "min") (rMin X.K):=by
  intro pins s σ H xs us Q I r h
  obtain ⟨p,ns,rfl,hq,hne,q⟩:=h
  obtain ⟨u,rfl,ru⟩:=r.one
  cases ru
  obtain ⟨its,rv,pl,hz⟩:=I.list hq
  have ia:=ints_of rv
  obtain ⟨ys,ey⟩:=ia.allInts.items
  have hl:=pl.isList
  have e2 : ns=ys.toList.map (·.1):=by rw [← ia.numsOf,← nums_intItems,← ey]
  have hsz : 0 < ys.size:=by rw [e2,List.length_map,Array.length_toList] at hne; exact hne
  rw [ey] at hl
  refine min_intList (I.ok.hd hc) hl hsz fun v h' tk hv hk=>?_
  obtain ⟨t,rfl⟩:=intItems_at hv
  obtain ⟨h1,h2⟩:=argBest_lt (numAt ys) (ys.size - 1)
  refine ⟨.int _,H,I.kept (t':=tk) hk,⟨t,rfl⟩,q _ ?_ fun a ha=>?_⟩
  · rw [e2,numAt_eq]; exact getD_mem (by rw [List.length_map,Array.length_toList]; omega)
  · rw [e2] at ha
    obtain ⟨j,hj,rfl⟩:=mem_getD ha
    rw [List.length_map,Array.length_toList] at hj
    rw [← numAt_eq]; exact h2 j (by omega)
end L2
namespace L2
open PySem PySem.Spec PySem.W PyProof.Rows
section
variable {prog : Program} {w : World} {A : Around} {E : Value→Shared→Prop} {s : Shared}
end
end L2
namespace L2
open PySem PySem.Spec PySem.W PyProof.Rows
section
variable {X : Cx}
end
end L2
namespace L2
open PySem PySem.Spec PySem.W PyProof.Rows
section
variable {o : Obj} {kvs : List (List Key×V)} {a D : Addr} {g : TG} {ti : TT} {te tk tv : TE} {σ₀ : St} {H1 : Hp} {R : Hp→Prop}
end
end L2
namespace L2
open PySem PySem.Spec PySem.W PyProof.Rows
end L2
namespace L2
end L2
namespace L2
open PySem PySem.Spec PySem.W PyProof.Rows
def Within (rs : List (List Int)) (cs : List Int) : Prop:=∀ (j : Nat) u,cs[j]? = some u→0≤u∧u≤colAt rs 1 (j : Int)
end L2
namespace L2
open PySem PySem.Spec PySem.W PyProof.Rows
end L2
namespace L2
open PySem PySem.Spec PySem.W PyProof.Rows
end L2
namespace L2
open PySem PySem.Spec PySem.W PyProof.Rows
end L2
namespace L2
abbrev Quad:=Int×Int×Int×Int
def SX (f l : Int) : List Quad→Int
  | []=>0
  | (d,c,x,y) :: Z=>(if f≤d∧d≤l then x else 0) + SX f l Z
def one (d x : Int) (Ts : List (Int×Int)) : Int:=(Ts.map fun T=>if T.1≤d∧d≤T.2 then x else 0).sum
def CX (Ts : List (Int×Int)) (Z : List Quad) : Int:=(Ts.map fun T=>SX T.1 T.2 Z).sum
end L2
namespace L2
end L2
namespace L2
end L2
namespace L2
end L2
namespace L2
end L2
namespace L2
end L2
namespace L2
open PySem PySem.Spec PySem.W PyProof.Rows
end L2
namespace L2
open PySem PySem.Spec PySem.W PyProof.Rows
section
variable {K : PySem.W.Frag} {a c x D : Addr} {g : TG} {te : TE} {σ₀ : St} {H1 : Hp} {R : Hp→Prop}
end
theorem comp_byD {K : PySem.W.Frag} {a D : Addr} {xs : List V} {g : TG} {te : TE} {σ₀ : St} {H1 : Hp} {R : Hp→Prop} (P : Nat→List V→Hp→Prop) (hD : H1 D=none) (hx : H1 a=some (.lst xs)) (hn : xs.length≤1000)
    (st : ∀ i zs H H',P i zs H→(H D=none∨∃ l,H D=some (.lst l))→(∀ b o,b≠D→H b=some o→H' b=some o)→P i zs H') (h0 : P 0 [] H1)
    (step : ∀ i x zs H,xs[i]? = some x→H D=some (.lst zs)→Same H1 H→P i zs H→∀ K1 : V→Hp→Prop,(∀ y H4,Same H H4→P (i + 1) (zs ++ [y]) H4→K1 y H4)→
      g x σ₀ H fun σ2 H2=>(∀ (k : Nat) v,σ₀[k]? = some (some v)→σ2[k]? = some (some v))∧te σ2 H2 K1)
    (fin : ∀ zs H,Same H1 H→P xs.length zs H→zs.length=xs.length→H D=some (.lst zs)→R H) :
    ∃ W : Nat→Nat→Hp→Prop,(∃ m,W 0 m (upd H1 D (.lst [])))∧∀ i m H,W i m H→((Itl K a).stop i H∧R H)∨((Itl K a).go i H∧∀ x H',(Itl K a).yld i H x H'→g x σ₀ H' fun σ2 H2=>(∀ (k : Nat) v,σ₀[k]? = some (some v)→σ2[k]? = some (some v))∧tIf0 σ2 H2 fun b H3=>
      if b=true then te σ2 H3 fun y H4=>∃ zs,H4 D=some (.lst zs)∧zs.length < sizeLine∧∃ m',m' < m∧W (i + 1) m' (upd H4 D (.lst (zs ++ [y]))) else ∃ m',m' < m∧W (i + 1) m' H3):=by
  refine ⟨fun i m H=>i + m=xs.length∧Same H1 H∧∃ zs,H D=some (.lst zs)∧zs.length=i∧P i zs H,⟨xs.length,by omega,same_new hD _,[],upd_same,rfl,st _ _ _ _ h0 (.inl hD) fun b o hb e=>by rw [upd_ne hb]; exact e⟩,?_⟩
  rintro i m H ⟨him,s1,zs,hz,hl,hp⟩
  have ex:=s1 _ _ hx
  by_cases hi : i < xs.length
  · refine .inr ⟨⟨xs,_,SqL.of ex,List.getElem?_eq_getElem hi⟩,?_⟩
    rintro x H' ⟨rfl,hy⟩
    refine step i x zs H' (hy _ (SqL.of ex)) hz s1 hp _ fun y H4 s4 p4=>⟨zs,s4 _ _ hz,small1000 (by omega),m - 1,by omega,by omega,(s1.trans s4).young hD,zs ++ [y],upd_same,by rw [List.length_append,List.length_singleton]; omega,st _ _ _ _ p4 (.inr ⟨_,s4 _ _ hz⟩) fun b o hb e=>by rw [upd_ne hb]; exact e⟩
  · have e : i=xs.length:=by omega
    subst e
    exact .inl ⟨⟨xs,SqL.of ex,Nat.le_refl _⟩,fin zs H s1 hp hl hz⟩
theorem Tups.cat {H : Hp} {xs ys : List V} {rs qs : List (List Int)} (h : Tups H xs rs) (h' : Tups H ys qs) : Tups H (xs ++ ys) (rs ++ qs):=by
  obtain ⟨h1,h2⟩:=h
  obtain ⟨g1,g2⟩:=h'
  refine ⟨by rw [List.length_append,List.length_append,h1,g1],fun i x r e1 e2=>?_⟩
  by_cases c : i < xs.length
  · rw [List.getElem?_append_left c] at e1
    rw [List.getElem?_append_left (by omega)] at e2
    exact h2 i x r e1 e2
  · rw [List.getElem?_append_right (by omega)] at e1
    rw [List.getElem?_append_right (by omega),← h1] at e2
    exact g2 _ x r e1 e2
def spNear : Sp:=fun vs H Q _=>∃ (a c l : Addr) (xs : List V) (rs : List (List Int)),vs=[.ref a,.ref l]∧DrawAt H a c∧H l=some (.lst xs)∧l≠a∧Tups H xs rs∧rs.length≤900∧(∀ r∈rs,okE r)∧∀ (v : Int) H',1≤v→v≤999→DrawAt H' a c→KeepBut a H H'→Q (.int v) H'
end L2
namespace HT
open PySem PySem.Spec PyProof.Rows
variable {prog : Program} {w : World} {A : Around} {E : Value→Shared→Prop} {s : Shared}
end HT
namespace L2
open PySem PySem.Spec PyProof.Rows
end L2
namespace L2
open PySem PySem.Spec PySem.W PyProof.Rows
end L2
namespace L2
open PySem
end L2
namespace L2
open PySem
def payBad (r : List Int) : Option Nat:=if inB (r.getD 0 0) 999 then (if r.getD 1 0 < 1 then some 3 else none) else some 1
def paysBad (rs : List (List Int)) : Option Nat:=rs.findSome? payBad
def paidNo (rs : List (List Int)) : Option Nat:=if 60 < rs.length then some 5 else paysBad rs
theorem paysBad_take {rs : List (List Int)} {i : Nat} {r : List Int} (h : paysBad (rs.take i)=none) (e : rs[i]? = some r) (b : payBad r=none) : paysBad (rs.take (i + 1))=none:=by
  unfold paysBad at *
  rw [List.findSome?_eq_none_iff] at *
  intro x hx
  rw [List.take_succ,e] at hx
  rcases List.mem_append.mp hx with z | z
  · exact h x z
  · rw [show x=r by simpa using z]; exact b
theorem paysBad_hit {rs : List (List Int)} {i n : Nat} {r : List Int} (h : paysBad (rs.take i)=none) (e : rs[i]? = some r) (b : payBad r=some n) : paysBad rs=some n:=by
  obtain ⟨hi,e'⟩:=List.getElem?_eq_some_iff.mp e
  unfold paysBad at *
  rw [← List.take_append_drop i rs,List.findSome?_append,h,List.drop_eq_getElem_cons hi,e',List.findSome?_cons,b]; rfl
def spChkPaid (cl : Nat→Addr) : Sp:=fun vs H Q E=>∃ (a : Addr) (rs : List (List Int)),vs=[.ref a]∧Rows H a rs∧(∀ r∈rs,r.length=2)∧(∀ n,paidNo rs=some n→∀ H',Same H H'→E (.ref (cl n)) none H')∧(paidNo rs=none→∀ l H',H l=none→Same H H'→Rows H' l rs→Q (.ref l) H')
def payB (wt day : Int) (r : List Int) : Bool:=decide (day - wt≤r.getD 0 0∧r.getD 0 0≤day)
def sumFor (rs : List (List Int)) (wt day : Int) : Int:=((rs.filter (payB wt day)).map fun r=>r.getD 1 0).sum
def spSumFor : Sp:=fun vs H Q _=>∃ (a : Addr) (rs : List (List Int)) (wt day : Int),vs=[.ref a,.int wt,.int day]∧Rows H a rs∧(∀ r∈rs,r.length=2)∧rs.length≤100∧∀ H',Same H H'→Q (.int (sumFor rs wt day)) H'
def vouNo (rs : List (List Int)) (wt : Int) : Option Nat:=match paidNo rs with
  | some n=>some n
  | none=>if okTerm wt then none else some 2
def spVouched (cl : Nat→Addr) : Sp:=fun vs H Q E=>∃ (a : Addr) (rs : List (List Int)) (wt day : Int),vs=[.ref a,.int wt,.int day]∧Rows H a rs∧(∀ r∈rs,r.length=2)∧(∀ n,vouNo rs wt=some n→∀ H',Same H H'→E (.ref (cl n)) none H')∧
  (vouNo rs wt=none→(¬ inB day 999→∀ H',Same H H'→E (.ref (cl 1)) none H')∧(inB day 999→∀ H',Same H H'→Q (.int (sumFor rs wt day)) H'))
def SureIs (rs : List (List Int)) (wt g d : Int) : Prop:=(rs=[]→g=0∧d=0)∧(rs≠[]→(∃ r∈rs,r.getD 0 0=d)∧g=sumFor rs wt d∧∀ r∈rs,sumFor rs wt (r.getD 0 0) < g∨(sumFor rs wt (r.getD 0 0)=g∧d≤r.getD 0 0))
def spSurety (cl : Nat→Addr) : Sp:=fun vs H Q E=>∃ (a : Addr) (rs : List (List Int)) (wt : Int),vs=[.ref a,.int wt]∧Rows H a rs∧(∀ r∈rs,r.length=2)∧(∀ n,vouNo rs wt=some n→∀ H',Same H H'→E (.ref (cl n)) none H')∧
  (vouNo rs wt=none→∀ g d t H',SureIs rs wt g d→Same H H'→H' t=some (.tup [.int g,.int d])→H t=none→Q (.ref t) H')
theorem vouNo_p {rs : List (List Int)} {wt : Int} {n : Nat} (h : paidNo rs=some n) : vouNo rs wt=some n:=by unfold vouNo; rw [h]
theorem vouNo_t {rs : List (List Int)} {wt : Int} (h : paidNo rs=none) : vouNo rs wt=if okTerm wt then none else some 2:=by unfold vouNo; rw [h]
theorem paidNo_len {rs : List (List Int)} (h : paidNo rs=none) : rs.length≤60:=by
  unfold paidNo at h
  split at h
  · cases h
  · omega
end L2
namespace K30
open PySem L2
abbrev s_checked_paid : Stmt:=top 15
abbrev n_checked_paid : List Str:=["paid","told","day","coins"]
abbrev p_checked_paid : List Str:=["paid"]
theorem sc_checked_paid : FnScope n_checked_paid p_checked_paid (defScope s_checked_paid):=⟨rfl,rfl,rfl,by decide +kernel,rfl,by decide +kernel,by decide +kernel⟩
abbrev s_sum_for : Stmt:=top 16
abbrev n_sum_for : List Str:=["paid","wait","day"]
abbrev p_sum_for : List Str:=["paid","wait","day"]
theorem sc_sum_for : FnScope n_sum_for p_sum_for (defScope s_sum_for):=⟨rfl,rfl,rfl,by decide +kernel,rfl,by decide +kernel,by decide +kernel⟩
abbrev s_vouched : Stmt:=top 17
abbrev n_vouched : List Str:=["paid","wait","day","rows"]
abbrev p_vouched : List Str:=["paid","wait","day"]
theorem sc_vouched : FnScope n_vouched p_vouched (defScope s_vouched):=⟨rfl,rfl,rfl,by decide +kernel,rfl,by decide +kernel,by decide +kernel⟩
abbrev s_surety : Stmt:=top 18
abbrev n_surety : List Str:=["paid","wait","rows","sums","greatest","turned"]
abbrev p_surety : List Str:=["paid","wait"]
theorem sc_surety : FnScope n_surety p_surety (defScope s_surety):=⟨rfl,rfl,rfl,by decide +kernel,rfl,by decide +kernel,by decide +kernel⟩
section
variable {P : Program} {w : World} {K : PySem.W.Frag} {mg : Str→Option Value} {base : Heap} {f : Addr} {fd : FuncData} {cl : Nat→Addr} (T : Txt K mg cl) (B : Bn mg)
include T B
theorem ok_checked_paid (G_check_day : Cal P w K mg base (CXE P w) 2 "check_day" p_check_day (spIn (cl 1) 999)) (F : Fun K "checked_paid" "checked_paid" s_checked_paid f fd) : FnOk P w K mg base (CXE P w) 3 f fd p_checked_paid (spChkPaid cl):=by
  refine F.okE sc_checked_paid (fun vs H Q E h=>?_) (fun cdv A outer s H vs Q E hr h=>?_)
  · obtain ⟨a,rs,rfl,_⟩:=h; rfl
  obtain ⟨a,rs,rfl,hR,h2,q1,q2⟩:=h
  refine ⟨_,(pss_cons (ps_if (pt_cmpR op_gt (pe_callB call_len_seq rfl B.len PySem.boot_len (pa_c (pv 0) pa_nil)) (pe_glI rfl T.MOST_PAID) (nomark _)) (pss_one (ps_raise (E:=E) rfl T.gBadRows T.eBadRows PySem.F.excBase_ValueError rfl makesE (pa_c pe_str pa_nil))) pss_nil)
    (pss_cons (ps_set (i:=1) sc_checked_paid.nd rfl (Or.inl rfl) (pe_lst pa_nil))
    (pss_cons (ps_for PassesOwn.leaving rfl (pi_list (pv 0)) (pg_tup rfl (pgs_cons (pg_name (i:=2) sc_checked_paid.nd rfl (Or.inl rfl)) (pgs_cons (pg_name (i:=3) sc_checked_paid.nd rfl (Or.inl rfl)) pgs_nil))) (pss_cons (ps_expr (pe_cal (E:=E) G_check_day hr rfl (passE fun _ _ z=>z) (pa_c (pv 2) pa_nil)))
      (pss_cons (ps_if (pt_cmpR op_lt (pv 3) pe_int (nomark _)) (pss_one (ps_raise (E:=E) rfl T.gBadCount T.eBadCount PySem.F.excBase_ValueError rfl makesE (pa_c pe_str pa_nil))) pss_nil)
      (pss_one (ps_expr (pe_bm PySem.F.plainAttrs_list PySem.F.slot_list_append PySem.F.type_list_append mt_append (pv 1) (pa_c (pe_tup (pa_c (pv 2) (pa_c (pv 3) pa_nil))) pa_nil)))))))
    (pss_one (ps_ret (pv 1)))))),?_⟩
  obtain ⟨xs,ex,exl,exi⟩:=hR.get
  refine ⟨_,rfl,a,_,rfl,.inl (SqL.of ex),_,_,rfl,rfl,_,rfl,?_⟩
  by_cases c : (60 : Int) < xs.length
  · rw [decide_eq_true c]
    exact iteT ⟨by show 1≤sizeLine; decide,q1 5 (by unfold paidNo; rw [if_pos (by omega)]) H (Same.refl H)⟩
  rw [decide_eq_false c]
  have c60 : ¬ 60 < rs.length:=by omega
  refine iteF ?_
  refine ⟨by show 0≤sizeLine; decide,fun l hl=>?_⟩
  refine ⟨_,rfl,a,rfl,⟨xs,SqL.of (by rw [upd_ne (ne_of_none ex hl)]; exact ex)⟩,?_⟩
  refine for_list (xs:=xs) (fun i σ H3=>∃ o2 o3,σ=[some (.ref a),some (.ref l),o2,o3]∧Same H H3∧Rows H3 l (rs.take i)∧paysBad (rs.take i)=none) ⟨_,_,rfl,same_new hl _,Rows.nil upd_same,rfl⟩ ?_ ?_ ?_
  · rintro i σ H3 hi ⟨o2,o3,rfl,sm,_⟩
    exact SqL.of (sm _ _ ex)
  · rintro i x σ H3 exi' ⟨o2,o3,rfl,sm,R3,hb⟩
    obtain ⟨p,r,rfl,er,hp⟩:=exi i x exi'
    obtain ⟨d,c,rfl⟩:=len2 (h2 r (List.mem_of_getElem? er))
    refine ⟨p,_,rfl,SqT.of (sm _ _ hp),rfl,_,_,rfl,_,_,rfl,rfl,?_⟩
    have bad : ∀ n,payBad [d,c]=some n→E (.ref (cl n)) none H3:=fun n e=>q1 n (by unfold paidNo; rw [if_neg c60]; exact paysBad_hit hb er e) H3 sm
    refine ⟨_,rfl,d,rfl,fun c1=>?_,fun c1=>bad 1 (by show (if inB d 999 then _ else _)=_; rw [if_neg c1])⟩
    refine ⟨_,rfl,_,_,rfl,rfl,_,rfl,?_⟩
    by_cases c2 : c < 1
    · rw [decide_eq_true c2]
      exact iteT ⟨by show 1≤sizeLine; decide,bad 3 (by show (if inB d 999 then (if c < 1 then some 3 else none) else _)=_; rw [if_pos c1,if_pos c2])⟩
    rw [decide_eq_false c2]
    refine iteF ?_
    have good : payBad [d,c]=none:=by show (if inB d 999 then (if c < 1 then some 3 else none) else _)=_; rw [if_pos c1,if_neg c2]
    obtain ⟨ys,ey,eyl,_⟩:=R3.get
    refine ⟨_,rfl,.inl ⟨rfl,_,SqL.of ey⟩,?_⟩
    refine ⟨_,rfl,_,rfl,by show 2≤sizeLine; decide,fun t ht=>?_⟩
    refine ⟨l,ys,.ref t,rfl,rfl,by rw [upd_ne (ne_of_none ey ht)]; exact ey,small1000 (by rw [eyl,List.length_take]; omega),?_⟩
    refine ⟨_,_,rfl,(sm.trans (same_new ht _)).young hl,?_,paysBad_take hb er good⟩
    rw [← take_next er]
    exact R3.push (r:=[d,c]) ey ht
  · rintro σ H3 ⟨o2,o3,rfl,sm,R3,hb⟩
    rw [exl,List.take_length] at R3 hb
    exact ⟨_,rfl,q2 (by unfold paidNo; rw [if_neg c60]; exact hb) l H3 hl sm R3⟩
theorem ok_sum_for (F : Fun K "sum_for" "sum_for" s_sum_for f fd) : FnOk P w K mg base CX0 1 f fd p_sum_for spSumFor:=by
  refine F.ok sc_sum_for (fun vs H Q E h=>?_) (fun cdv A outer s H vs Q E hr h=>?_)
  · obtain ⟨a,rs,wt,day,rfl,_⟩:=h; rfl
  obtain ⟨a,rs,wt,day,rfl,hR,h2,hn,q⟩:=h
  refine ⟨_,(pss_one (ps_ret (pe_callB (call_sumI rfl) rfl B.sum PyProof.Rows.boot_sum (pa_c (pe_comp (N':=["back","coins","day","wait"]) (ix:=[none,none,some 2,some 1]) (g:=(gTup K 2 (gCons (gName 0) (gCons (gName 1) gNil)))) (ti:=(tTest (tChain (rI0 fun i j=>.bl (decide (i≤j))) (rI0 fun i j=>.bl (decide (i≤j))) (tOp (rI0 fun i j=>.int (i - j)) (tVar 2) (tVar 3)) (tVar 0) (tVar 2)))) (te:=(tVar 1)) rfl (comp_scope (N:=n_sum_for) (D:=defScope s_sum_for) (by decide +kernel)) (pi_list (pv 0)) (fun C s H fp=>(pg_tup rfl (pgs_cons (pg_name (i:=0) (show (["back","coins","day","wait"] : List Str).Nodup by decide +kernel) rfl (Or.inl rfl)) (pgs_cons (pg_name (i:=1) (show (["back","coins","day","wait"] : List Str).Nodup by decide +kernel) rfl (Or.inl rfl)) pgs_nil)))) (fun C s H fp=>(pifs_one (pt_chain op_le op_le (pe_op op_sub (pv 2) (pv 3)) (pv 0) (pv 2)))) (fun C s H fp=>(pv 1))) pa_nil)))),?_⟩
  obtain ⟨xs,ex,exl,exi⟩:=hR.get
  refine ⟨_,rfl,a,rfl,⟨xs,SqL.of ex⟩,fun D hD=>?_⟩
  refine comp_by (fun i zs _=>zs=(((rs.take i).filter (payB wt day)).map fun r=>r.getD 1 0).map V.int) hD ex (by omega) (fun i zs _ _ h _=>h) rfl (fun i x zs H3 e1 s3 hp K1 K2 k1 k2=>?_) fun zs H3 s3 hp ln hz=>?_
  · obtain ⟨pr,r,rfl,er,hpr⟩:=exi i x e1
    obtain ⟨d,cc,rfl⟩:=len2 (h2 r (List.mem_of_getElem? er))
    refine ⟨pr,_,rfl,SqT.of (s3 _ _ hpr),rfl,_,_,rfl,_,_,rfl,rfl,keep_set (keep_set keep_refl rfl) rfl,?_⟩
    have ft:=filter_take (rs:=rs) (payB wt day) er
    have gb : payB wt day [d,cc]=decide (day - wt≤d∧d≤day):=rfl
    refine ⟨_,rfl,_,rfl,_,_,rfl,rfl,_,rfl,_,_,rfl,rfl,_,rfl,?_⟩
    have no : ¬ (day - wt≤d∧d≤day)→K2 H3:=fun z=>k2 _ (fun _ _ h=>h) (by rw [hp,ft,gb,if_neg (fun y=>z (of_decide_eq_true y)),List.append_nil])
    by_cases z1 : day - wt≤d
    · rw [decide_eq_true z1]
      refine iteT ⟨_,rfl,_,_,rfl,rfl,_,rfl,?_⟩
      by_cases z2 : d≤day
      · rw [decide_eq_true z2]
        refine iteT ⟨_,rfl,k1 _ _ (fun _ _ h=>h) ?_⟩
        rw [hp,ft,gb,if_pos (decide_eq_true ⟨z1,z2⟩),List.map_append,List.map_append]; rfl
      · rw [decide_eq_false z2]
        exact iteF (no fun y=>z2 y.2)
    · rw [decide_eq_false z1]
      exact iteF ⟨_,rfl,iteF (no fun y=>z1 y.1)⟩
  · rw [exl,List.take_length] at hp
    subst hp
    exact ⟨D,_,rfl,SqL.of hz,q _ s3⟩
theorem ok_vouched (G_checked_paid : Cal P w K mg base (CXE P w) 3 "checked_paid" p_checked_paid (spChkPaid cl)) (G_check_term : Cal P w K mg base (CXE P w) 2 "check_term" p_check_term (spTerm (cl 2))) (G_check_day : Cal P w K mg base (CXE P w) 2 "check_day" p_check_day (spIn (cl 1) 999)) (G_sum_for : Cal P w K mg base CX0 1 "sum_for" p_sum_for spSumFor)
    (F : Fun K "vouched" "vouched" s_vouched f fd) : FnOk P w K mg base (CXE P w) 4 f fd p_vouched (spVouched cl):=by
  refine F.okE sc_vouched (fun vs H Q E h=>?_) (fun cdv A outer s H vs Q E hr h=>?_)
  · obtain ⟨a,rs,wt,day,rfl,_⟩:=h; rfl
  obtain ⟨a,rs,wt,day,rfl,hR,h2,q1,q2⟩:=h
  refine ⟨_,(pss_cons (ps_set (i:=3) sc_vouched.nd rfl (Or.inl rfl) (pe_cal (E:=E) G_checked_paid hr rfl (passE fun _ _ z=>z) (pa_c (pv 0) pa_nil)))
    (pss_cons (ps_expr (pe_cal (E:=E) G_check_term hr rfl (passE fun _ _ z=>z) (pa_c (pv 1) pa_nil)))
    (pss_cons (ps_expr (pe_cal (E:=E) G_check_day hr rfl (passE fun _ _ z=>z) (pa_c (pv 2) pa_nil)))
    (pss_one (ps_ret (pe_cal G_sum_for hr rfl pass0 (pa_c (pv 3) (pa_c (pv 1) (pa_c (pv 2) pa_nil))))))))),?_⟩
  refine ⟨_,rfl,a,rs,rfl,hR,h2,fun n e H' sm=>q1 n (vouNo_p e) H' sm,fun pn l H1 hl s1 R1=>?_⟩
  have vt:=vouNo_t (wt:=wt) pn
  refine ⟨_,rfl,wt,rfl,fun c1=>?_,fun c1=>q1 2 (by rw [vt,if_neg c1]) H1 s1⟩
  obtain ⟨q3,q4⟩:=q2 (by rw [vt,if_pos c1])
  refine ⟨_,rfl,day,rfl,fun c2=>?_,fun c2=>q3 c2 H1 s1⟩
  exact ⟨_,rfl,_,rfl,_,rfl,l,rs,wt,day,rfl,R1,h2,by have:=paidNo_len pn; omega,fun H2 s2=>q4 c2 H2 (s1.trans s2)⟩
theorem ok_surety (G_checked_paid : Cal P w K mg base (CXE P w) 3 "checked_paid" p_checked_paid (spChkPaid cl)) (G_check_term : Cal P w K mg base (CXE P w) 2 "check_term" p_check_term (spTerm (cl 2))) (G_sum_for : Cal P w K mg base CX0 1 "sum_for" p_sum_for spSumFor)
    (F : Fun K "surety" "surety" s_surety f fd) : FnOk P w K mg base (CXE P w) 4 f fd p_surety (spSurety cl):=by
  refine F.okE sc_surety (fun vs H Q E h=>?_) (fun cdv A outer s H vs Q E hr h=>?_)
  · obtain ⟨a,rs,wt,rfl,_⟩:=h; rfl
  obtain ⟨a,rs,wt,rfl,hR,h2,q1,q2⟩:=h
  refine ⟨_,(pss_cons (ps_set (i:=2) sc_surety.nd rfl (Or.inr rfl) (pe_cal (E:=E) G_checked_paid hr rfl (passE fun _ _ z=>z) (pa_c (pv 0) pa_nil)))
    (pss_cons (ps_expr (pe_cal (E:=E) G_check_term hr rfl (passE fun _ _ z=>z) (pa_c (pv 1) pa_nil)))
    (pss_cons (ps_setComp (i:=3) sc_surety.nd rfl (Or.inl rfl) (N':=["day","coins","rows","wait"]) (ix:=[none,none,some 2,some 1]) (g:=(gTup K 2 (gCons (gName 0) (gCons (gName 1) gNil)))) (ti:=tIf0) (te:=(tTup (tCons (tCall spSumFor [] E0 (tCons (tVar 2) (tCons (tVar 3) (tCons (tVar 0) tNil)))) (tCons (tUn (rU fun i=>.int (-i)) (tVar 0)) tNil)))) rfl (comp_scope (N:=n_surety) (D:=defScope s_surety) (by decide +kernel)) (pi_list (pv 2)) (fun C s H fp=>(pg_tup rfl (pgs_cons (pg_name (i:=0) (show (["day","coins","rows","wait"] : List Str).Nodup by decide +kernel) rfl (Or.inl rfl)) (pgs_cons (pg_name (i:=1) (show (["day","coins","rows","wait"] : List Str).Nodup by decide +kernel) rfl (Or.inl rfl)) pgs_nil)))) (fun C s H fp=>pifs_nil) (fun C s H fp=>(pe_tup (pa_c (pe_cal G_sum_for hr rfl pass0 (pa_c (pv 2) (pa_c (pv 3) (pa_c (pv 0) pa_nil)))) (pa_c (pe_un un_neg (pv 0)) pa_nil)))))
    (pss_cons (ps_asg (pe_maxD rfl hr.units (pa_c (pv 3) pa_nil) (pe_tup (pa_c pe_int (pa_c pe_int pa_nil))) rfl B.max PyProof.Rows.boot_max) (pg_tup rfl (pgs_cons (pg_name (i:=4) sc_surety.nd rfl (Or.inl rfl)) (pgs_cons (pg_name (i:=5) sc_surety.nd rfl (Or.inl rfl)) pgs_nil))))
    (pss_one (ps_ret (pe_tup (pa_c (pv 4) (pa_c (pe_un un_neg (pv 5)) pa_nil))))))))),?_⟩
  refine ⟨_,rfl,a,rs,rfl,hR,h2,fun n e H' sm=>q1 n (vouNo_p e) H' sm,fun pn l H1 hl s1 R1=>?_⟩
  have vt:=vouNo_t (wt:=wt) pn
  have ln:=paidNo_len pn
  refine ⟨_,rfl,wt,rfl,fun c1=>?_,fun c1=>q1 2 (by rw [vt,if_neg c1]) H1 s1⟩
  have q3:=q2 (by rw [vt,if_pos c1])
  obtain ⟨xs,ex,hx⟩:=R1.tups
  have lx:=hx.1
  refine ⟨_,rfl,l,rfl,⟨xs,SqL.of ex⟩,fun D hD=>?_⟩
  refine comp_byD (fun i zs H'=>Tups H' zs ((rs.take i).map fun (r : List Int)=>[sumFor rs wt (r.getD 0 0),-(r.getD 0 0)])) hD ex (by omega) (fun i zs H' H'' h nl hk=>h.keep fun p z e=>hk p _ (fun y=>by subst y; rcases nl with n | ⟨_,n⟩ <;> rw [n] at e <;> cases e) e) Tups.nil (fun i x zs H3 e1 hz s3 hp K1 k1=>?_) fun zs H3 s3 hp lz hD3=>?_
  · obtain ⟨pr,r,rfl,er,hpr⟩:=(hx.same s3).at e1
    obtain ⟨d,cc,rfl⟩:=len2 (h2 r (List.mem_of_getElem? er))
    refine ⟨pr,_,rfl,SqT.of hpr,rfl,_,_,rfl,_,_,rfl,rfl,keep_set (keep_set keep_refl rfl) rfl,?_⟩
    refine ⟨_,rfl,_,rfl,_,rfl,l,rs,wt,d,rfl,(R1.same s3),h2,by omega,fun H4 s4=>⟨_,rfl,_,rfl,by show 2≤sizeLine; decide,fun t ht=>?_⟩⟩
    have s5:=same_new ht (.tup [.int (sumFor rs wt d),.int (-d)])
    refine k1 _ _ (s4.trans s5) ?_
    rw [← take_next er,List.map_append]
    exact ((hp.same s4).same s5).cat (Tups.one (r:=[sumFor rs wt d,-d]) upd_same)
  rw [lx,List.take_length] at hp
  refine ⟨_,rfl,by show 2≤sizeLine; decide,fun tz htz=>?_⟩
  have sz:=same_new (H:=H3) htz (.tup [.int 0,.int 0])
  have S4:=(s1.trans s3).trans sz
  have hp4:=hp.same sz
  refine ⟨D,_,rfl,hp4.rows (sz _ _ hD3),fun e0=>?_,fun b r hr hmax hb=>?_⟩
  · refine ⟨tz,_,rfl,SqT.of upd_same,rfl,_,_,rfl,_,_,rfl,rfl,?_⟩
    refine ⟨_,rfl,_,rfl,_,rfl,by show 2≤sizeLine; decide,fun t ht=>?_⟩
    have e1 : rs=[]:=List.map_eq_nil_iff.mp e0
    subst e1
    exact q3 0 (-0) t _ ⟨fun _=>⟨rfl,rfl⟩,fun z=>absurd rfl z⟩ (S4.trans (same_new ht _)) upd_same (S4.free ht)
  · obtain ⟨r0,hr0,rfl⟩:=List.mem_map.mp hr
    refine ⟨b,_,rfl,SqT.of hb,rfl,_,_,rfl,_,_,rfl,rfl,?_⟩
    refine ⟨_,rfl,_,rfl,_,rfl,by show 2≤sizeLine; decide,fun t ht=>?_⟩
    refine q3 _ _ t _ ⟨fun z=>(by subst z; cases hr0),fun _=>⟨⟨r0,hr0,by omega⟩,by rw [Int.neg_neg],fun r' hr'=>?_⟩⟩ (S4.trans (same_new ht _)) upd_same (S4.free ht)
    have:=hmax _ (List.mem_map.mpr ⟨r',hr',rfl⟩)
    change (if sumFor rs wt (r0.getD 0 0)=sumFor rs wt (r'.getD 0 0) then (if -(r0.getD 0 0) = -(r'.getD 0 0) then false else decide (-(r0.getD 0 0) < -(r'.getD 0 0))) else decide (sumFor rs wt (r0.getD 0 0) < sumFor rs wt (r'.getD 0 0)))=false at this
    by_cases c2 : sumFor rs wt (r0.getD 0 0)=sumFor rs wt (r'.getD 0 0)
    · rw [if_pos c2] at this
      refine .inr ⟨c2.symm,?_⟩
      by_cases c3 : -(r0.getD 0 0) = -(r'.getD 0 0)
      · omega
      · rw [if_neg c3] at this
        have:=of_decide_eq_false this
        omega
    · rw [if_neg c2] at this
      have:=of_decide_eq_false this
      exact .inl (by omega)
end
end K30
namespace K30
open PySem L2
abbrev s_same : Stmt:=top 24
abbrev n_same : List Str:=["_law_found","_law_due"]
abbrev p_same : List Str:=["_law_found","_law_due"]
theorem sc_same : FnScope n_same p_same (defScope s_same):=⟨rfl,rfl,rfl,by decide +kernel,rfl,by decide +kernel,by decide +kernel⟩
def spSame : Nat→Sp
  | 0=>fun _ _ _ _=>False
  | n + 1=>fun vs H Q _=>∃ v u,vs=[v,u]∧EqD H n v u∧∀ H',Same H H'→Q (.bl true) H'
section
variable {P : Program} {w : World} {K : PySem.W.Frag} {mg : Str→Option Value} {base : Heap} {f : Addr} {fd : FuncData}
theorem nd2 : (["_law_one_here","_law_other"] : List Str).Nodup:=by decide +kernel
abbrev g2 (K : PySem.W.Frag) : TG:=gTup K 2 (gCons (gName 0) (gCons (gName 1) gNil))
theorem same_comp {m : Nat} {H2 : Hp} {a b : Addr} {xs ys : List V} {bb : Bool} {Q : VK} (hl : xs.length=ys.length) (hs : xs.length≤1000) (hx : ∀ (i : Nat) x y,xs[i]? = some x→ys[i]? = some y→EqD H2 m x y) (hb : ∀ H',Same H2 H'→SqB K H' bb a xs∧SqB K H' bb b ys)
    (q : ∀ H',Same H2 H'→Q (.bl true) H') : tComp [none,none] (iZip K (tCons (tVar 0) (tCons (tVar 1) tNil))) (g2 K) tIf0 (tCall (spSame (m + 1)) [] E0 (tCons (tVar 0) (tCons (tVar 1) tNil))) [some (.ref a),some (.ref b)] H2
      (fun x H3=>∃ (p : Addr) (bs : List Bool),[x]=[V.ref p]∧SqL K H3 p (bs.map V.bl)∧Q (.bl (bs.all id)) H3):=by
  obtain ⟨q1,q2⟩:=hb H2 (Same.refl H2)
  refine ⟨_,rfl,_,rfl,bb,bb,a,b,xs,ys,rfl,q1,q2,fun D hD=>⟨fun i m' H4=>i + m' = xs.length∧Same H2 H4∧H4 D=some (.lst (List.replicate i (.bl true))),⟨xs.length,by omega,same_new hD _,upd_same⟩,?_⟩⟩
  rintro i m' H4 ⟨him,sm,hD4⟩
  obtain ⟨r1,r2⟩:=hb H4 sm
  by_cases hi : i < xs.length
  · refine .inr ⟨⟨xs,ys,xs[i],ys[i]'(by omega),r1,r2,List.getElem?_eq_getElem hi,List.getElem?_eq_getElem (by omega)⟩,?_⟩
    rintro x H' ⟨p,x',y',rfl,hp,rfl,hxy⟩
    obtain ⟨e1,e2⟩:=hxy xs ys r1 r2
    refine ⟨p,_,rfl,SqT.of upd_same,rfl,_,_,rfl,_,_,rfl,rfl,?_,?_⟩
    · intro k v e
      match k,e with
      | 0,e=>cases e
      | 1,e=>cases e
      | k + 2,e=>cases e
    · refine ⟨_,rfl,_,rfl,x',y',rfl,(hx i x' y' e1 e2).same (sm.trans (same_new hp _)),fun H5 s5=>?_⟩
      have hD5:=s5 _ _ (show L2.upd H4 p (.tup [x',y']) D=some (.lst (List.replicate i (.bl true))) by rw [upd_ne (ne_of_none hD4 hp)]; exact hD4)
      refine ⟨_,hD5,small1000 (by rw [List.length_replicate]; omega),m' - 1,by omega,by omega,fun c o e=>?_,?_⟩
      · rw [upd_ne (ne_of_none e hD)]
        exact s5 _ _ (same_new hp _ _ _ (sm _ _ e))
      · rw [upd_same,List.replicate_succ']
  · refine .inl ⟨⟨xs,ys,r1,r2,.inl (by omega)⟩,D,List.replicate i true,rfl,SqL.of (by rw [List.map_replicate]; exact hD4),?_⟩
    have e : (List.replicate i true).all id=true:=List.all_eq_true.mpr fun b hb=>by rw [List.eq_of_mem_replicate hb]; rfl
    rw [e]
    exact q H4 sm
theorem ok_same1 {n : Nat} (F : Fun K "_law_same" "_law_same" s_same f fd) (B : Bn mg) (G : FnOk P w K mg base CX0 n f fd n_same (spSame n)) (b1 : Binds K fd n_same []) (k1 : PySem.W.keepIn K (.ref f)=true) (m1 : mg "_law_same" = some (.ref f)) :
    FnOk P w K mg base CX0 (n + 1) f fd n_same (spSame (n + 1)):=by
  refine F.ok sc_same (fun vs H Q E h=>?_) (fun cdv A outer s H vs Q E hr h=>?_)
  · obtain ⟨v,u,rfl,_⟩:=h; rfl
  obtain ⟨v,u,rfl,heq,q⟩:=h
  refine ⟨_,pss_cons (ps_if (pt_cmpR op_isN (pv 1) pe_non (nomark _)) (pss_one (ps_ret (pe_cmpR op_isN (pv 0) pe_non (nomark _)))) pss_nil)
    (pss_cons (ps_if (PW.pt (pw_or (pt_truth (pe_callB call_isi rfl B.isi PyProof.Rows.boot_isinstance (pa_c (pv 1) (pa_c (pe_bltn rfl B.bool PyProof.Rows.boot_bool (v:=.ty "bool") rfl) pa_nil))) (fun _=>rfl)) (pw_or1 (pt_truth (pe_callB call_isi rfl B.isi PyProof.Rows.boot_isinstance (pa_c (pv 0) (pa_c (pe_bltn rfl B.bool PyProof.Rows.boot_bool (v:=.ty "bool") rfl) pa_nil))) (fun _=>rfl)))))
      (pss_one (ps_ret (pe_and (pe_callB call_isi rfl B.isi PyProof.Rows.boot_isinstance (pa_c (pv 1) (pa_c (pe_bltn rfl B.bool PyProof.Rows.boot_bool (v:=.ty "bool") rfl) pa_nil))) (pe_and (pe_callB call_isi rfl B.isi PyProof.Rows.boot_isinstance (pa_c (pv 0) (pa_c (pe_bltn rfl B.bool PyProof.Rows.boot_bool (v:=.ty "bool") rfl) pa_nil))) (pe_one (pe_cmpR op_eq (pv 0) (pv 1) (nomark _))))))) pss_nil)
    (pss_cons (ps_if (pt_truth (pe_callB call_isT rfl B.isi PyProof.Rows.boot_isinstance (pa_c (pv 1) (pa_c (pe_tup (pa_c (pe_bltn rfl B.int PyProof.Rows.boot_int (v:=.ty "int") rfl) (pa_c (pe_bltn rfl B.str PyProof.Rows.boot_str (v:=.ty "str") rfl) pa_nil))) pa_nil))) (fun _=>rfl))
      (pss_one (ps_ret (pe_and (pe_cmpR op_eq (pe_callB call_isi rfl B.isi PyProof.Rows.boot_isinstance (pa_c (pv 0) (pa_c (pe_bltn rfl B.int PyProof.Rows.boot_int (v:=.ty "int") rfl) pa_nil))) (pe_callB call_isi rfl B.isi PyProof.Rows.boot_isinstance (pa_c (pv 1) (pa_c (pe_bltn rfl B.int PyProof.Rows.boot_int (v:=.ty "int") rfl) pa_nil))) (nomark _))
        (pe_and (pe_callB call_isT rfl B.isi PyProof.Rows.boot_isinstance (pa_c (pv 0) (pa_c (pe_tup (pa_c (pe_bltn rfl B.int PyProof.Rows.boot_int (v:=.ty "int") rfl) (pa_c (pe_bltn rfl B.str PyProof.Rows.boot_str (v:=.ty "str") rfl) pa_nil))) pa_nil))) (pe_one (pe_cmpR op_eq (pv 0) (pv 1) (nomark _))))))) pss_nil)
    (pss_cons (ps_if (PW.pt (pw_or (pt_cmpR op_ne (pe_callB call_isi rfl B.isi PyProof.Rows.boot_isinstance (pa_c (pv 0) (pa_c (pe_bltn rfl B.list PyProof.Rows.boot_list (v:=.ty "list") rfl) pa_nil))) (pe_callB call_isi rfl B.isi PyProof.Rows.boot_isinstance (pa_c (pv 1) (pa_c (pe_bltn rfl B.list PyProof.Rows.boot_list (v:=.ty "list") rfl) pa_nil))) (nomark _))
        (pw_or1 (pt_cmpR op_ne (pe_callB call_isi rfl B.isi PyProof.Rows.boot_isinstance (pa_c (pv 0) (pa_c (pe_bltn rfl B.tuple PyProof.Rows.boot_tuple (v:=.ty "tuple") rfl) pa_nil))) (pe_callB call_isi rfl B.isi PyProof.Rows.boot_isinstance (pa_c (pv 1) (pa_c (pe_bltn rfl B.tuple PyProof.Rows.boot_tuple (v:=.ty "tuple") rfl) pa_nil))) (nomark _)))))
      (pss_one (ps_ret pe_bl)) pss_nil)
    (pss_cons (ps_if (pt_cmpR op_ne (pe_callB call_len_seq rfl B.len PySem.boot_len (pa_c (pv 0) pa_nil)) (pe_callB call_len_seq rfl B.len PySem.boot_len (pa_c (pv 1) pa_nil)) (nomark _)) (pss_one (ps_ret pe_bl)) pss_nil)
    (pss_one (ps_ret (pe_callB (call_allB rfl) rfl B.all PyProof.Rows.boot_all (pa_c (pe_comp (N':=["_law_one_here","_law_other"]) (ix:=[none,none]) (g:=g2 K) (ti:=tIf0) (te:=tCall (spSame n) [] E0 (tCons (tVar 0) (tCons (tVar 1) tNil))) rfl (comp_scope (N:=n_same) (D:=defScope s_same) (by decide +kernel)) (pi_zip rfl B.zip (pa_c (pv 0) (pa_c (pv 1) pa_nil)))
      (fun C s H fp=>pg_tup rfl (pgs_cons (pg_name (i:=0) nd2 rfl (Or.inl rfl)) (pgs_cons (pg_name (i:=1) nd2 rfl (Or.inl rfl)) pgs_nil))) (fun _ _ _ _=>pifs_nil) (fun C s H fp=>pe_call G hr rfl m1 k1 b1 .nil pass0 (pa_c (pv 0) (pa_c (pv 1) pa_nil)))) pa_nil)))))))),?_⟩
  have sN : ∀ {p : Addr} {o : HO},H p=none→Same H (L2.upd H p o):=fun hp=>same_new hp _
  cases heq with
  | flat hf=>
    cases v with
    | non=>
      refine ⟨_,rfl,rfl,_,rfl,?_⟩
      refine iteT ?_
      exact ⟨_,rfl,rfl,q H (Same.refl H)⟩
    | bl b=>
      refine ⟨_,rfl,rfl,_,rfl,?_⟩
      refine iteF ?_
      refine ⟨_,rfl,_,_,_,_,true,rfl,rfl,TyOf.bl b,by kernel_rfl,_,rfl,?_⟩
      refine iteT (iteT ?_)
      refine ⟨_,rfl,_,_,_,_,true,rfl,rfl,TyOf.bl b,by kernel_rfl,_,rfl,?_⟩
      refine iteT ⟨_,rfl,_,_,_,_,true,rfl,rfl,TyOf.bl b,by kernel_rfl,_,rfl,?_⟩
      refine iteT ⟨_,rfl,_,rfl,rfl,?_⟩
      rw [decide_eq_true (rfl : V.bl b=V.bl b)]
      exact q H (Same.refl H)
    | int i=>
      refine ⟨_,rfl,rfl,_,rfl,?_⟩
      refine iteF ?_
      refine ⟨_,rfl,_,_,_,_,false,rfl,rfl,TyOf.int i,by kernel_rfl,_,rfl,?_⟩
      refine iteF ⟨_,rfl,_,_,_,_,false,rfl,rfl,TyOf.int i,by kernel_rfl,_,rfl,?_⟩
      refine iteF ?_
      refine ⟨_,rfl,by show 2≤sizeLine; decide,fun p hp=>⟨_,p,_,_,[.type "int",.type "str"],true,rfl,upd_same,rfl,TyOf.int i,by kernel_rfl,_,rfl,?_⟩⟩
      refine iteT ?_
      refine ⟨_,rfl,_,_,_,_,true,rfl,rfl,TyOf.int i,by kernel_rfl,_,rfl,_,_,_,_,true,rfl,rfl,TyOf.int i,by kernel_rfl,rfl,_,rfl,?_⟩
      refine iteT ⟨_,rfl,by show 2≤sizeLine; decide,fun p2 hp2=>⟨_,p2,_,_,[.type "int",.type "str"],true,rfl,upd_same,rfl,TyOf.int i,by kernel_rfl,_,rfl,?_⟩⟩
      refine iteT ⟨_,rfl,_,rfl,rfl,?_⟩
      rw [decide_eq_true (rfl : V.int i=V.int i)]
      exact q _ ((sN hp).trans (same_new hp2 _))
    | str x=>
      refine ⟨_,rfl,rfl,_,rfl,?_⟩
      refine iteF ?_
      refine ⟨_,rfl,_,_,_,_,false,rfl,rfl,TyOf.str x,by kernel_rfl,_,rfl,?_⟩
      refine iteF ⟨_,rfl,_,_,_,_,false,rfl,rfl,TyOf.str x,by kernel_rfl,_,rfl,?_⟩
      refine iteF ?_
      refine ⟨_,rfl,by show 2≤sizeLine; decide,fun p hp=>⟨_,p,_,_,[.type "int",.type "str"],true,rfl,upd_same,rfl,TyOf.str x,by kernel_rfl,_,rfl,?_⟩⟩
      refine iteT ?_
      refine ⟨_,rfl,_,_,_,_,false,rfl,rfl,TyOf.str x,by kernel_rfl,_,rfl,_,_,_,_,false,rfl,rfl,TyOf.str x,by kernel_rfl,rfl,_,rfl,?_⟩
      refine iteT ⟨_,rfl,by show 2≤sizeLine; decide,fun p2 hp2=>⟨_,p2,_,_,[.type "int",.type "str"],true,rfl,upd_same,rfl,TyOf.str x,by kernel_rfl,_,rfl,?_⟩⟩
      refine iteT ⟨_,rfl,_,rfl,rfl,?_⟩
      rw [decide_eq_true (rfl : V.str x=V.str x)]
      exact q _ ((sN hp).trans (same_new hp2 _))
    | _=>exact absurd (show false=true from hf) Bool.false_ne_true
  | @tup m a b xs ys h1 h2 hl hs hx=>
    refine ⟨_,rfl,rfl,_,rfl,?_⟩
    refine iteF ?_
    refine ⟨_,rfl,_,_,_,_,false,rfl,rfl,TyOf.tup h2,by kernel_rfl,_,rfl,?_⟩
    refine iteF ⟨_,rfl,_,_,_,_,false,rfl,rfl,TyOf.tup h1,by kernel_rfl,_,rfl,?_⟩
    refine iteF ?_
    refine ⟨_,rfl,by show 2≤sizeLine; decide,fun p hp=>?_⟩
    have g1:=sN (o:=.tup [.ty "int",.ty "str"]) hp _ _ h1
    have g2:=sN (o:=.tup [.ty "int",.ty "str"]) hp _ _ h2
    refine ⟨_,p,_,_,[.type "int",.type "str"],false,rfl,upd_same,rfl,TyOf.tup g2,by kernel_rfl,_,rfl,?_⟩
    refine iteF ?_
    refine ⟨_,rfl,_,_,_,_,false,rfl,rfl,TyOf.tup g1,by kernel_rfl,_,rfl,_,_,_,_,false,rfl,rfl,TyOf.tup g2,by kernel_rfl,rfl,_,rfl,?_⟩
    refine iteF ⟨_,rfl,_,_,_,_,true,rfl,rfl,TyOf.tup g1,by kernel_rfl,_,rfl,_,_,_,_,true,rfl,rfl,TyOf.tup g2,by kernel_rfl,rfl,_,rfl,?_⟩
    refine iteF ?_
    refine ⟨_,rfl,a,_,rfl,.inr (SqT.of g1),_,rfl,b,_,rfl,.inr (SqT.of g2),rfl,_,rfl,?_⟩
    refine iteNS (by rw [hl]) ?_
    exact same_comp (bb:=false) hl hs (fun i x y e1 e2=>(hx i x y e1 e2).same (sN hp)) (fun H' sm=>⟨SqT.of (sm _ _ g1),SqT.of (sm _ _ g2)⟩) fun H' sm=>q H' ((sN hp).trans sm)
  | @lst m a b xs ys h1 h2 hl hs hx=>
    refine ⟨_,rfl,rfl,_,rfl,?_⟩
    refine iteF ?_
    refine ⟨_,rfl,_,_,_,_,false,rfl,rfl,TyOf.lst h2,by kernel_rfl,_,rfl,?_⟩
    refine iteF ⟨_,rfl,_,_,_,_,false,rfl,rfl,TyOf.lst h1,by kernel_rfl,_,rfl,?_⟩
    refine iteF ?_
    refine ⟨_,rfl,by show 2≤sizeLine; decide,fun p hp=>?_⟩
    have g1:=sN (o:=.tup [.ty "int",.ty "str"]) hp _ _ h1
    have g2:=sN (o:=.tup [.ty "int",.ty "str"]) hp _ _ h2
    refine ⟨_,p,_,_,[.type "int",.type "str"],false,rfl,upd_same,rfl,TyOf.lst g2,by kernel_rfl,_,rfl,?_⟩
    refine iteF ?_
    refine ⟨_,rfl,_,_,_,_,true,rfl,rfl,TyOf.lst g1,by kernel_rfl,_,rfl,_,_,_,_,true,rfl,rfl,TyOf.lst g2,by kernel_rfl,rfl,_,rfl,?_⟩
    refine iteF ⟨_,rfl,_,_,_,_,false,rfl,rfl,TyOf.lst g1,by kernel_rfl,_,rfl,_,_,_,_,false,rfl,rfl,TyOf.lst g2,by kernel_rfl,rfl,_,rfl,?_⟩
    refine iteF ?_
    refine ⟨_,rfl,a,_,rfl,.inl (SqL.of g1),_,rfl,b,_,rfl,.inl (SqL.of g2),rfl,_,rfl,?_⟩
    refine iteNS (by rw [hl]) ?_
    exact same_comp (bb:=true) hl hs (fun i x y e1 e2=>(hx i x y e1 e2).same (sN hp)) (fun H' sm=>⟨SqL.of (sm _ _ g1),SqL.of (sm _ _ g2)⟩) fun H' sm=>q H' ((sN hp).trans sm)
theorem ok_same (F : Fun K "_law_same" "_law_same" s_same f fd) (B : Bn mg) (b1 : Binds K fd n_same []) (k1 : PySem.W.keepIn K (.ref f)=true) (m1 : mg "_law_same" = some (.ref f)) : ∀ n : Nat,FnOk P w K mg base CX0 n f fd n_same (spSame n)
  | 0=>⟨fun _ _ _ _ h=>False.elim h,fun _ _ _ _ _ _ _ _ _ _ _ _ _ h=>False.elim h⟩
  | n + 1=>ok_same1 F B (ok_same F B b1 k1 m1 n) b1 k1 m1
end
end K30
namespace K30
open PySem L2
abbrev s_one : Stmt:=top 25
abbrev n_one : List Str:=["_law_draw","_law_some"]
abbrev p_one : List Str:=["_law_draw","_law_some"]
theorem sc_one : FnScope n_one p_one (defScope s_one):=⟨rfl,rfl,rfl,by decide +kernel,rfl,by decide +kernel,by decide +kernel⟩
section
variable {P : Program} {w : World} {K : PySem.W.Frag} {mg : Str→Option Value} {base : Heap} {f : Addr} {fd : FuncData} (B : Bn mg)
include B
theorem ok_one (G_pick : Cal P w K mg base CX0 1 "_law_pick" p_pick spPick) (F : Fun K "_law_one" "_law_one" s_one f fd) : FnOk P w K mg base CX0 2 f fd p_one spOne:=by
  refine F.ok sc_one (fun vs H Q E h=>?_) (fun cdv A outer s H vs Q E hr h=>?_)
  · obtain ⟨a,c,l,xs,rfl,_⟩:=h; rfl
  obtain ⟨a,c,l,xs,rfl,d,hl,nla,h0,hn,q⟩:=h
  refine ⟨_,(pss_one (ps_ret (pe_ix ix_list (pv 1) (pe_cal G_pick hr rfl pass0 (pa_c (pv 0) (pa_c (pe_callB call_len_seq rfl B.len PySem.boot_len (pa_c (pv 1) pa_nil)) pa_nil))) (fun _ _=>rfl)))),?_⟩
  refine ⟨_,rfl,_,rfl,_,rfl,l,_,rfl,.inl (SqL.of hl),a,c,_,rfl,d,by omega,by omega,fun r H1 r0 r1 d1 kb1=>?_⟩
  have hk : r.toNat < xs.length:=by omega
  have e1 : xs[r.toNat]? = some xs[r.toNat]:=List.getElem?_eq_getElem hk
  exact ⟨l,_,_,xs[r.toNat],rfl,rfl,SqL.of (kb1 _ _ nla hl),atI_some r0 e1,q r.toNat _ H1 e1 d1 kb1⟩
end
end K30
namespace K30
open PySem L2
abbrev s_day_near : Stmt:=top 26
abbrev n_day_near : List Str:=["_law_draw","_law_rows","_law_day"]
abbrev p_day_near : List Str:=["_law_draw","_law_rows"]
theorem sc_day_near : FnScope n_day_near p_day_near (defScope s_day_near):=⟨rfl,rfl,rfl,by decide +kernel,rfl,by decide +kernel,by decide +kernel⟩
section
variable {P : Program} {w : World} {K : PySem.W.Frag} {mg : Str→Option Value} {base : Heap} {f : Addr} {fd : FuncData} (B : Bn mg)
include B
theorem ok_day_near (G_pick : Cal P w K mg base CX0 1 "_law_pick" p_pick spPick) (G_one : Cal P w K mg base CX0 2 "_law_one" p_one spOne) (F : Fun K "_law_day_near" "_law_day_near" s_day_near f fd) : FnOk P w K mg base CX0 3 f fd p_day_near spNear:=by
  refine F.ok sc_day_near (fun vs H Q E h=>?_) (fun cdv A outer s H vs Q E hr h=>?_)
  · obtain ⟨a,c,l,xs,rs,rfl,_⟩:=h; rfl
  obtain ⟨a,c,l,xs,rs,rfl,d,hl,nla,hx,hn,hok,q⟩:=h
  refine ⟨_,(pss_cons (ps_set (i:=2) sc_day_near.nd rfl (Or.inl rfl) (pe_op op_add pe_int (pe_cal G_pick hr rfl pass0 (pa_c (pv 0) (pa_c pe_int pa_nil)))))
    (pss_cons (ps_if (PW.pt (pw_and (pt_cmpR (op_neL hr.units) (pv 1) (pe_lst pa_nil) (nomark _)) (pw_and1 (pt_cmpR op_gt (pe_cal G_pick hr rfl pass0 (pa_c (pv 0) (pa_c pe_int pa_nil))) pe_int (nomark _))))) (pss_one (ps_set (i:=2) sc_day_near.nd rfl (Or.inl rfl) (pe_op op_sub (pe_op op_add (pe_ix ix_tup (pe_cal G_one hr rfl pass0 (pa_c (pv 0) (pa_c (pv 1) pa_nil))) pe_int (fun _ _=>rfl)) (pe_cal G_pick hr rfl pass0 (pa_c (pv 0) (pa_c pe_int pa_nil)))) pe_int))) pss_nil)
    (pss_one (ps_ret (pe_callB (call_max2 rfl) rfl B.max PyProof.Rows.boot_max (pa_c pe_int (pa_c (pe_callB (call_min2 rfl) rfl B.min PyProof.Rows.boot_min (pa_c pe_int (pa_c (pv 2) pa_nil))) pa_nil))))))),?_⟩
  refine ⟨_,rfl,a,c,999,rfl,d,by decide,by decide,fun y H1 y0 y1 d1 kb1=>⟨_,_,rfl,rfl,?_⟩⟩
  have x1:=kb1 _ _ nla hl
  have h1:=hx.draw d kb1
  have lx:=hx.1
  dsimp only
  refine tSeq_by (fun σ H'=>∃ v : Int,σ=[some (.ref a),some (.ref l),some (.int v)]∧DrawAt H' a c∧KeepBut a H H') (fun D' nx _=>?_) ?_
  · refine ⟨_,rfl,by show 0≤sizeLine; decide,fun e he=>?_⟩
    have sE:=same_new (H:=H1) he (.lst [])
    refine cmp_nil (sE _ _ x1) upd_same ⟨_,rfl,?_⟩
    have d2:=d1.same sE
    have x2:=sE _ _ x1
    have h2:=h1.same sE
    have k2 : KeepBut a H (L2.upd H1 e (.lst [])):=kb1.trans (KeepBut.of_same sE)
    generalize L2.upd H1 e (.lst [])=H2 at *
    by_cases c1 : xs.length=0
    · rw [decide_eq_true c1]
      exact iteF (iteF (nx _ _ ⟨_,rfl,d2,k2⟩))
    · rw [decide_eq_false c1]
      refine iteT ⟨_,rfl,a,c,4,rfl,d2,by decide,by decide,fun z H3 z0 z1 d3 kb3=>⟨_,_,rfl,rfl,_,rfl,?_⟩⟩
      by_cases c2 : 0 < z
      · rw [decide_eq_true c2]
        refine iteT ⟨_,rfl,_,rfl,a,c,l,xs,rfl,d3,kb3 _ _ nla x2,nla,by omega,by omega,fun i v H4 ez d4 kb4=>?_⟩
        obtain ⟨pr,r,rfl,er,hpr⟩:=((h2.draw d2 kb3).draw d3 kb4).at ez
        obtain ⟨dd,r',rfl⟩ : ∃ d r',r=d :: r':=by
          match r,hok r (List.mem_of_getElem? er) with
          | d :: r',_=>exact ⟨d,r',rfl⟩
        refine ⟨pr,_,_,.int dd,rfl,rfl,SqT.of hpr,atI_some (by decide) rfl,_,rfl,a,c,5,rfl,d4,by decide,by decide,fun u H5 u0 u1 d5 kb5=>⟨_,_,rfl,rfl,_,_,rfl,rfl,?_⟩⟩
        exact nx _ _ ⟨_,rfl,d5,k2.trans (kb3.trans (kb4.trans kb5))⟩
      · rw [decide_eq_false c2]
        exact iteF (nx _ _ ⟨_,rfl,d3,k2.trans kb3⟩)
  · rintro σ H' ⟨v,rfl,d',k'⟩
    refine ⟨_,rfl,_,_,rfl,_,_,rfl,q _ H' ?_ ?_ d' k'⟩
    · split <;> omega
    · split <;> split <;> omega
end
end K30
namespace L2
open PySem
theorem sumFor_mono {rs : List (List Int)} {wt a b : Int} (hc : ∀ r∈rs,0≤r.getD 1 0) (h : ∀ r∈rs,payB wt a r=true→payB wt b r=true) : sumFor rs wt a≤sumFor rs wt b:=by
  unfold sumFor
  induction rs with
  | nil=>exact Int.le_refl _
  | cons r rs ih=>
    have ih':=ih (fun r' hr'=>hc r' (.tail _ hr')) (fun r' hr'=>h r' (.tail _ hr'))
    have c0:=hc r (.head _)
    rw [List.filter_cons,List.filter_cons]
    cases e1 : payB wt a r with
    | true=>
      rw [h r (.head _) e1,if_pos rfl,if_pos rfl,List.map_cons,List.map_cons,List.sum_cons,List.sum_cons]
      omega
    | false=>
      rw [if_neg (by decide)]
      cases e2 : payB wt b r with
      | true=>
        rw [if_pos rfl,List.map_cons,List.sum_cons]; omega
      | false=>rw [if_neg (by decide)]; exact ih'
theorem sumFor_nn {rs : List (List Int)} {wt a : Int} (hc : ∀ r∈rs,0≤r.getD 1 0) : 0≤sumFor rs wt a:=by
  unfold sumFor
  induction rs with
  | nil=>exact Int.le_refl _
  | cons r rs ih=>
    have ih':=ih (fun r' hr'=>hc r' (.tail _ hr'))
    have c0:=hc r (.head _)
    rw [List.filter_cons]
    split
    · rw [List.map_cons,List.sum_cons]; omega
    · exact ih'
theorem sumFor_pos {rs : List (List Int)} {wt : Int} (hc : ∀ r∈rs,1≤r.getD 1 0) (w0 : 0≤wt) {r : List Int} (hr : r∈rs) : 1≤sumFor rs wt (r.getD 0 0):=by
  generalize hd : r.getD 0 0=d
  induction rs with
  | nil=>cases hr
  | cons q rs ih=>
    have c0:=hc q (.head _)
    have nn : 0≤sumFor rs wt d:=sumFor_nn fun r' hr'=>by have:=hc r' (.tail _ hr'); omega
    unfold sumFor at nn ⊢
    rw [List.filter_cons]
    rcases List.mem_cons.mp hr with z | z
    · have : payB wt d q=true:=decide_eq_true ⟨by rw [← z,hd]; omega,by rw [← z,hd]; omega⟩
      rw [this,if_pos rfl,List.map_cons,List.sum_cons]; omega
    · have ih':=ih (fun r' hr'=>hc r' (.tail _ hr')) z
      unfold sumFor at ih'
      split
      · rw [List.map_cons,List.sum_cons]; omega
      · exact ih'
theorem last_day : ∀ (rs : List (List Int)) (D : Int),(∃ r∈rs,r.getD 0 0≤D)→∃ r∈rs,r.getD 0 0≤D∧∀ q∈rs,q.getD 0 0≤D→q.getD 0 0≤r.getD 0 0
  | [],D,h=>by obtain ⟨_,h,_⟩:=h; cases h
  | r :: rs,D,h=>by
    by_cases c : ∃ q∈rs,q.getD 0 0≤D
    · obtain ⟨q,hq,q1,q2⟩:=last_day rs D c
      by_cases z : r.getD 0 0≤D∧q.getD 0 0≤r.getD 0 0
      · refine ⟨r,.head _,z.1,fun p hp p1=>?_⟩
        rcases List.mem_cons.mp hp with y | y
        · rw [y]; exact Int.le_refl _
        · exact Int.le_trans (q2 p y p1) z.2
      · refine ⟨q,.tail _ hq,q1,fun p hp p1=>?_⟩
        rcases List.mem_cons.mp hp with y | y
        · rw [y] at p1 ⊢; omega
        · exact q2 p y p1
    · obtain ⟨q,hq,q1⟩:=h
      rcases List.mem_cons.mp hq with y | y
      · refine ⟨r,.head _,by rw [← y]; exact q1,fun p hp p1=>?_⟩
        rcases List.mem_cons.mp hp with x | x
        · rw [x]; exact Int.le_refl _
        · exact absurd ⟨p,x,p1⟩ c
      · exact absurd ⟨q,y,q1⟩ c
theorem before_day {rs : List (List Int)} {wt D : Int} (hc : ∀ r∈rs,0≤r.getD 1 0) (h : ∃ r∈rs,r.getD 0 0≤D) : ∃ r∈rs,r.getD 0 0≤D∧sumFor rs wt D≤sumFor rs wt (r.getD 0 0):=by
  obtain ⟨r,hr,r1,r2⟩:=last_day rs D h
  refine ⟨r,hr,r1,sumFor_mono hc fun q hq e=>?_⟩
  have:=of_decide_eq_true e
  exact decide_eq_true ⟨by omega,r2 q hq this.2⟩
def WalkIs (rs : List (List Int)) (wt lo : Int) (n : Nat) (g d : Int) : Prop:=(∀ j : Nat,j < n→sumFor rs wt (lo + j)≤g)∧((g=0∧d=0)∨(0 < g∧∃ k : Nat,k < n∧d=lo + k∧sumFor rs wt d=g∧∀ j : Nat,j < k→sumFor rs wt (lo + j) < g))
theorem WalkIs.zero {rs : List (List Int)} {wt lo : Int} : WalkIs rs wt lo 0 0 0:=⟨fun j h=>absurd h (Nat.not_lt_zero _),.inl ⟨rfl,rfl⟩⟩
theorem WalkIs.stay {rs : List (List Int)} {wt lo g d : Int} {n : Nat} (h : WalkIs rs wt lo n g d) (c : ¬ g < sumFor rs wt (lo + n)) : WalkIs rs wt lo (n + 1) g d:=by
  refine ⟨fun j hj=>?_,?_⟩
  · by_cases z : j=n
    · subst z; omega
    · exact h.1 j (by omega)
  · rcases h.2 with z | ⟨g0,k,hk,e1,e2,e3⟩
    · exact .inl z
    · exact .inr ⟨g0,k,by omega,e1,e2,e3⟩
theorem WalkIs.step {rs : List (List Int)} {wt lo g d : Int} {n : Nat} (h : WalkIs rs wt lo n g d) (g0 : 0≤g) (c : g < sumFor rs wt (lo + n)) : WalkIs rs wt lo (n + 1) (sumFor rs wt (lo + n)) (lo + n):=by
  refine ⟨fun j hj=>?_,.inr ⟨by omega,n,by omega,rfl,rfl,fun j hj=>?_⟩⟩
  · by_cases z : j=n
    · subst z; exact Int.le_refl _
    · have:=h.1 j (by omega); omega
  · have:=h.1 j hj; omega
theorem WalkIs.nn {rs : List (List Int)} {wt lo g d : Int} {n : Nat} (h : WalkIs rs wt lo n g d) : 0≤g:=by
  rcases h.2 with z | z
  · omega
  · omega
theorem walk_sure {rs : List (List Int)} {wt lo hi g d g' d' : Int} (hc : ∀ r∈rs,1≤r.getD 1 0) (w0 : 0≤wt) (hne : rs≠[]) (hlo : (∃ r∈rs,r.getD 0 0=lo)∧∀ r∈rs,lo≤r.getD 0 0) (hhi : ∀ r∈rs,r.getD 0 0≤hi)
    (h : SureIs rs wt g d) (h' : WalkIs rs wt lo (hi + 1 - lo).toNat g' d') : g' = g∧d' = d:=by
  obtain ⟨⟨rd,hrd,ed⟩,eg,hmx⟩:=h.2 hne
  have hc0 : ∀ r∈rs,0≤r.getD 1 0:=fun r hr=>by have:=hc r hr; omega
  have gpos : 1≤g:=by rw [eg,← ed]; exact sumFor_pos hc w0 hrd
  have lod:=hlo.2 rd hrd
  have hid:=hhi rd hrd
  have m1:=h'.1 (d - lo).toNat (by omega)
  rw [show lo + ((d - lo).toNat : Int)=d by omega,← eg] at m1
  rcases h'.2 with z | ⟨g0,k,hk,e1,e2,e3⟩
  · omega
  obtain ⟨r0,hr0,er0⟩:=hlo.1
  obtain ⟨q,hq,q1,q2⟩:=before_day (wt:=wt) (D:=d') hc0 ⟨r0,hr0,by omega⟩
  have mq:=hmx q hq
  have gg : g' = g:=by
    rcases mq with y | y <;> omega
  refine ⟨gg,?_⟩
  have lq:=hlo.2 q hq
  by_cases c : d < d'
  · have:=e3 (d - lo).toNat (by omega)
    rw [show lo + ((d - lo).toNat : Int)=d by omega,← eg] at this
    omega
  · rcases mq with y | y
    · omega
    · omega
end L2
namespace L2
open PySem
variable {P : Program} {w : World} {K : PySem.W.Frag} {mg : Str→Option Value} {base : Heap}
end L2
namespace L2
open PySem PySem.Spec PyProof.Rows
section
variable {X : Cx}
def CDivX (i j : Int) : Prop:=0 < j∧j < 10 ^ 40
theorem op_fdivX : OpR X (binaryOp .FloorDiv) (rI CDivX fun i j=>.int (i / j)):=opI fun i j _ _ _ _ _ hc q=>by
  have hj : j.natAbs.log2 < 9000:=by
    have h0 : j.natAbs≠0:=by have:=hc.1; omega
    have h1 : j.natAbs < 2 ^ 200:=by
      have h2:=hc.1
      have h3 : j < 10 ^ 40:=hc.2
      omega
    have:=(Nat.log2_lt h0).mpr h1
    omega
  have e : i / j=i.fdiv j:=(Int.fdiv_eq_ediv_of_nonneg i (Int.le_of_lt hc.1)).symm
  rw [e] at q
  exact floordiv_int (by have:=hc.1; omega) q (.inl (PyProof.noPylong_of_log2 hj))
def rMax (K : PySem.W.Frag) : List V→Hp→VK→Prop:=fun xs H Q=>∃ (p : Addr) (ns : List Int),xs=[.ref p]∧SqL K H p (ns.map V.int)∧0 < ns.length∧∀ M,M∈ns→(∀ a∈ns,a≤M)→Q (.int M) H
theorem call_maxI (hc : X.calm=true) : CallR X (.builtin "max") (rMax X.K):=by
  intro pins s σ H xs us Q I r h
  obtain ⟨p,ns,rfl,hq,hne,q⟩:=h
  obtain ⟨u,rfl,ru⟩:=r.one
  cases ru
  obtain ⟨its,rv,pl,hz⟩:=I.list hq
  have ia:=ints_of rv
  obtain ⟨ys,ey⟩:=ia.allInts.items
  have hl:=pl.isList
  have e2 : ns=ys.toList.map (·.1):=by rw [← ia.numsOf,← nums_intItems,← ey]
  have hsz : 0 < ys.size:=by rw [e2,List.length_map,Array.length_toList] at hne; exact hne
  rw [ey] at hl
  refine max_intList (I.ok.hd hc) hl hsz fun v h' tk hv hk=>?_
  obtain ⟨t,rfl⟩:=intItems_at hv
  obtain ⟨h1,h2⟩:=argBest_gt (numAt ys) (ys.size - 1)
  refine ⟨.int _,H,I.kept (t':=tk) hk,⟨t,rfl⟩,q _ ?_ fun a ha=>?_⟩
  · rw [e2,numAt_eq]; exact getD_mem (by rw [List.length_map,Array.length_toList]; omega)
  · rw [e2] at ha
    obtain ⟨j,hj,rfl⟩:=mem_getD ha
    rw [List.length_map,Array.length_toList] at hj
    rw [← numAt_eq]; exact h2 j (by omega)
end
def spPickX : Sp:=fun vs H Q _=>∃ (a c : Addr) (m : Int),vs=[.ref a,.int m]∧DrawAt H a c∧0 < m∧m < 10 ^ 40∧∀ r H',0≤r→r < m→DrawAt H' a c→KeepBut a H H'→Q (.int r) H'
theorem FnOk.weak {P : Program} {w : World} {K : PySem.W.Frag} {mg : Str→Option Value} {base : Heap} {CX : CXT} {k : Nat} {f : Addr} {fd : FuncData} {ps : List Str} {sp sp' : Sp} (F : FnOk P w K mg base CX k f fd ps sp) (h : ∀ vs H Q E,sp' vs H Q E→sp vs H Q E) : FnOk P w K mg base CX k f fd ps sp':=
  ⟨fun vs H Q E q=>F.len vs H Q E (h _ _ _ _ q),fun A outer s H args us vs Q E hr he hb hv hs=>F.run A outer s H args us vs Q E hr he hb hv (h _ _ _ _ hs)⟩
theorem Cal.weak {P : Program} {w : World} {K : PySem.W.Frag} {mg : Str→Option Value} {base : Heap} {CX : CXT} {k : Nat} {x : Str} {ps : List Str} {sp sp' : Sp} (F : Cal P w K mg base CX k x ps sp) (h : ∀ vs H Q E,sp' vs H Q E→sp vs H Q E) : Cal P w K mg base CX k x ps sp':=by
  obtain ⟨f,fd,h1,h2,h3,h4⟩:=F.ex
  exact ⟨⟨f,fd,h1.weak h,h2,h3,h4⟩⟩
theorem pickW {P : Program} {w : World} {K : PySem.W.Frag} {mg : Str→Option Value} {base : Heap} {k : Nat} {x : Str} {ps : List Str} (F : Cal P w K mg base CX0 k x ps spPickX) : Cal P w K mg base CX0 k x ps spPick:=
  F.weak fun vs H Q E ⟨a,c,m,h1,h2,h3,h4,h5⟩=>⟨a,c,m,h1,h2,h3,by omega,h5⟩
end L2
namespace K30
open PySem L2
section
variable {P : Program} {w : World} {K : PySem.W.Frag} {mg : Str→Option Value} {base : Heap} {f : Addr} {fd : FuncData}
theorem ok_pickX (F : Fun K "_law_pick" "_law_pick" s_pick f fd) (B : Bn mg) : FnOk P w K mg base CX0 1 f fd p_pick spPickX:=by
  refine F.ok sc_pick (fun vs H Q E h=>?_) (fun cdv A outer s H vs Q E hr h=>?_)
  · obtain ⟨a,c,m,rfl,_⟩:=h; rfl
  obtain ⟨a,c,m,rfl,⟨ns,i,x,y,z,d1,d2,nca,hi,hy,hy2⟩,hm,hm2,q⟩:=h
  refine ⟨_,(pss_cons (ps_if (PW.pt (pw_and (pt_cmpR op_lt (pe_ix ix_list (pv 0) pe_int (fun _ _=>rfl)) (pv 1) (nomark _)) (pw_and1 (pt_cmpR op_lt (pe_ix ix_list (pv 0) pe_int (fun _ _=>rfl)) (pe_callB call_len_seq rfl B.len PySem.boot_len (pa_c (pe_ix ix_list (pv 0) pe_int (fun _ _=>rfl)) pa_nil)) (nomark _))))) (pss_cons (ps_set (i:=2) sc_pick.nd rfl (Or.inl rfl) (pe_ix ix_list (pe_ix ix_list (pv 0) pe_int (fun _ _=>rfl)) (pe_ix ix_list (pv 0) pe_int (fun _ _=>rfl)) (fun _ _=>rfl)))
      (pss_cons (ps_asg (pe_op op_add (pe_ix ix_list (pv 0) pe_int (fun _ _=>rfl)) pe_int) (pg_sub (pv 0) pe_int set_list))
      (pss_cons (ps_asg pe_int (pg_sub (pv 0) pe_int set_list))
      (pss_one (ps_if (pt_cmpR op_ge (pv 2) (pe_op op_pow pe_int pe_int) (nomark _)) (pss_one (ps_asg (pv 2) (pg_sub (pv 0) pe_int set_list))) (pss_one (ps_asg (pe_op op_mod (pe_op op_add (pe_ix ix_list (pv 0) pe_int (fun _ _=>rfl)) (pv 2)) pe_int) (pg_sub (pv 0) pe_int set_list)))))))) pss_nil)
    (pss_cons (ps_if (pt_cmpR op_ge (pe_ix ix_list (pv 0) pe_int (fun _ _=>rfl)) (pv 1) (nomark _)) (pss_cons (ps_set (i:=3) sc_pick.nd rfl (Or.inl rfl) (pe_op op_mod (pe_ix ix_list (pv 0) pe_int (fun _ _=>rfl)) (pv 1)))
      (pss_cons (ps_asg (pe_op op_fdivX (pe_ix ix_list (pv 0) pe_int (fun _ _=>rfl)) (pv 1)) (pg_sub (pv 0) pe_int set_list))
      (pss_one (ps_ret (pv 3))))) pss_nil)
    (pss_cons (ps_asg (pe_op op_add (pe_ix ix_list (pv 0) pe_int (fun _ _=>rfl)) pe_int) (pg_sub (pv 0) pe_int set_list))
    (pss_cons (ps_asg (pe_op op_mod (pe_op op_add (pe_op op_add (pe_op op_pow (pe_ix ix_list (pv 0) pe_int (fun _ _=>rfl)) pe_int) (pe_op op_mul pe_int (pe_ix ix_list (pv 0) pe_int (fun _ _=>rfl)))) pe_int) pe_int) (pg_sub (pv 0) pe_int set_list))
    (pss_one (ps_ret (pe_op op_mod (pe_op op_fdivX (pe_ix ix_list (pv 0) pe_int (fun _ _=>rfl)) pe_int) (pv 1)))))))),?_⟩
  refine (show ∀ (u : TS),(∀ (cv : Option V) (H1 : Hp) (i x y z : Int),Draw H1 a c ns i x y z→KeepBut a H H1→u { nx:=fun _ H'=>Q .non H',rt:=Q } [some (.ref a),some (.int m),cv,none] H1)→tSeq _ u _ _ _ from fun u hu=>?_) _ ?_
  · -- if draw[2] < many and draw[1] < len(draw[0])
    refine ⟨_,rfl,a,_,_,.int x,rfl,rfl,SqL.of d1,rfl,_,rfl,_,_,rfl,rfl,_,rfl,?_⟩
    by_cases c1 : x < m
    · rw [decide_eq_true c1]
      refine iteT ⟨_,rfl,a,_,_,.int i,rfl,rfl,SqL.of d1,rfl,_,rfl,a,_,_,.ref c,rfl,rfl,SqL.of d1,rfl,c,_,rfl,.inl (SqL.of d2),_,_,rfl,rfl,_,rfl,?_⟩
      rw [List.length_map]
      by_cases c2 : i < (ns.length : Int)
      · rw [decide_eq_true c2]
        have hk : i.toNat < ns.length:=by omega
        have ei : ((i.toNat : Nat) : Int)=i:=by omega
        have eat : atI (ns.map V.int) i=some (.int ns[i.toNat]):=by
          have:=atI_nat (xs:=ns.map V.int) (j:=i.toNat) (v:=.int ns[i.toNat]) (by rw [List.getElem?_map,List.getElem?_eq_getElem hk]; rfl)
          rw [ei] at this; exact this
        refine iteT ⟨_,rfl,a,_,_,.ref c,rfl,rfl,SqL.of d1,rfl,_,rfl,a,_,_,.int i,rfl,rfl,SqL.of d1,rfl,c,_,_,.int ns[i.toNat],rfl,rfl,SqL.of d2,eat,?_⟩
        generalize ns[i.toNat]=v
        refine ⟨_,rfl,a,_,_,.int i,rfl,rfl,SqL.of d1,rfl,_,_,rfl,rfl,_,rfl,a,_,_,1,rfl,rfl,d1,rfl,?_⟩
        refine ⟨_,rfl,a,_,_,2,rfl,rfl,upd_same,rfl,?_⟩
        rw [upd_upd]
        have e2 : L2.upd H a (.lst [.ref c,.int (i + 1),.int 0,.int y,.int z]) c=some (.lst (ns.map V.int)):=by rw [upd_ne nca]; exact d2
        refine ⟨_,rfl,_,_,rfl,rfl,⟨by decide,by decide,by decide⟩,_,_,rfl,rfl,_,rfl,?_⟩
        refine ite2 (fun _=>?_) (fun _=>?_)
        · refine ⟨_,rfl,_,rfl,a,_,_,2,rfl,rfl,upd_same,rfl,?_⟩
          rw [upd_upd]
          exact hu _ _ (i + 1) v y z ⟨upd_same,by rw [upd_ne nca]; exact d2,nca,by omega,hy,hy2⟩ KeepBut.refl.upd
        · refine ⟨_,rfl,a,_,_,.int y,rfl,rfl,SqL.of upd_same,rfl,_,rfl,_,_,rfl,rfl,_,_,rfl,rfl,(by show (0 : Int) < 1000000007; decide),_,rfl,a,_,_,3,rfl,rfl,upd_same,rfl,?_⟩
          rw [upd_upd]
          exact hu _ _ (i + 1) 0 ((y + v) % 1000000007) z ⟨upd_same,by rw [upd_ne nca]; exact d2,nca,by omega,by omega,by omega⟩ KeepBut.refl.upd
      · rw [decide_eq_false c2]
        exact iteF (hu _ H i x y z ⟨d1,d2,nca,hi,hy,hy2⟩ KeepBut.refl)
    · rw [decide_eq_false c1]
      exact iteF (iteF (hu _ H i x y z ⟨d1,d2,nca,hi,hy,hy2⟩ KeepBut.refl))
  · -- the rest
    clear d1 d2 hi hy hy2 i x y z
    rintro cv H1 i x y z ⟨d1,d2,_,hi,hy,hy2⟩ kb
    refine ⟨_,rfl,a,_,_,.int x,rfl,rfl,SqL.of d1,rfl,_,rfl,_,_,rfl,rfl,_,rfl,?_⟩
    by_cases c1 : m≤x
    · rw [decide_eq_true c1]
      refine iteT ⟨_,rfl,a,_,_,.int x,rfl,rfl,SqL.of d1,rfl,_,rfl,_,_,rfl,rfl,hm,?_⟩
      refine ⟨_,rfl,a,_,_,.int x,rfl,rfl,SqL.of d1,rfl,_,rfl,_,_,rfl,rfl,⟨hm,hm2⟩,_,rfl,a,_,_,2,rfl,rfl,d1,rfl,?_⟩
      refine ⟨_,rfl,?_⟩
      exact q _ _ (Int.emod_nonneg _ (by omega)) (Int.emod_lt_of_pos _ hm) ⟨ns,i,x / m,y,z,upd_same,by rw [upd_ne nca]; exact d2,nca,hi,hy,hy2⟩ kb.upd
    · rw [decide_eq_false c1]
      refine iteF ?_
      refine ⟨_,rfl,a,_,_,.int z,rfl,rfl,SqL.of d1,rfl,_,_,rfl,rfl,_,rfl,a,_,_,4,rfl,rfl,d1,rfl,?_⟩
      refine ⟨_,rfl,a,_,_,.int y,rfl,rfl,SqL.of upd_same,rfl,_,_,rfl,rfl,⟨by decide,by decide,by omega⟩,_,rfl,a,_,_,.int (z + 1),rfl,rfl,SqL.of upd_same,rfl,_,_,rfl,rfl,.inl ⟨by decide,by decide⟩,_,_,rfl,rfl,_,_,rfl,rfl,_,_,rfl,rfl,(by show (0 : Int) < 1000000007; decide),_,rfl,a,_,_,3,rfl,rfl,upd_same,rfl,?_⟩
      rw [upd_upd]
      have hy4 : 0≤(y ^ (3 : Int).toNat + 40503 * (z + 1) + 17) % 1000000007∧(y ^ (3 : Int).toNat + 40503 * (z + 1) + 17) % 1000000007 < 1000000007:=⟨Int.emod_nonneg _ (by decide),Int.emod_lt_of_pos _ (by decide)⟩
      refine ⟨_,rfl,a,_,_,.int ((y ^ (3 : Int).toNat + 40503 * (z + 1) + 17) % 1000000007),rfl,rfl,SqL.of upd_same,rfl,_,_,rfl,rfl,⟨by decide,by decide⟩,_,rfl,_,_,rfl,rfl,hm,?_⟩
      exact q _ _ (Int.emod_nonneg _ (by omega)) (Int.emod_lt_of_pos _ hm) ⟨ns,i,x,(y ^ (3 : Int).toNat + 40503 * (z + 1) + 17) % 1000000007,z + 1,upd_same,by rw [upd_ne nca]; exact d2,nca,hi,hy4.1,hy4.2⟩ kb.upd
end
end K30
namespace K30
open PySem L2
abbrev s_held : Stmt:=top 28
abbrev n_held : List Str:=["_law_paid_here","_law_wait","_law_day"]
abbrev p_held : List Str:=["_law_paid_here","_law_wait","_law_day"]
theorem sc_held : FnScope n_held p_held (defScope s_held):=⟨rfl,rfl,rfl,by decide +kernel,rfl,by decide +kernel,by decide +kernel⟩
abbrev s_paid : Stmt:=top 27
abbrev n_paid : List Str:=["_law_draw","_law_days","_law_many","_law_most","_law_found","_law_k","_law_day"]
abbrev p_paid : List Str:=["_law_draw"]
theorem sc_paid : FnScope n_paid p_paid (defScope s_paid):=⟨rfl,rfl,rfl,by decide +kernel,rfl,by decide +kernel,by decide +kernel⟩
abbrev s_law : Stmt:=top 29
abbrev n_law : List Str:=["_law_script","_law_draw","_law_paid_here","_law_kept","_law_k","_law_wait","_law_due","_law_days","_law_day"]
abbrev p_law : List Str:=["_law_script"]
theorem sc_law : FnScope n_law p_law (defScope s_law):=⟨rfl,rfl,rfl,by decide +kernel,rfl,by decide +kernel,by decide +kernel⟩
def PayG (r : List Int) : Prop:=∃ d c : Int,r=[d,c]∧1≤d∧d≤999∧1≤c
def spPaidL : Sp:=fun vs H Q _=>∃ (a c : Addr),vs=[.ref a]∧DrawAt H a c∧∀ l rs H',H l=none→(∀ r∈rs,PayG r)→rs.length≤60→DrawAt H' a c→KeepBut a H H'→Rows H' l rs→Q (.ref l) H'
def spHeld : Sp:=fun vs H Q _=>∃ (p : Addr) (rs : List (List Int)) (wt day : Int),vs=[.ref p,.int wt,.int day]∧Rows H p rs∧(∀ r∈rs,r.length=2)∧rs.length≤100∧∀ H',Same H H'→Q (.int (sumFor rs wt day)) H'
def spLaw (K : PySem.W.Frag) : Sp:=fun vs H Q _=>∃ (a : Addr) (ns : List Int),vs=[.ref a]∧SqL K H a (ns.map V.int)∧ns.length≤63∧∀ H',Q (.bl true) H'
theorem payG_no {rs : List (List Int)} {wt : Int} (h : ∀ r∈rs,PayG r) (ln : rs.length≤60) (ot : okTerm wt) : vouNo rs wt=none:=by
  have : paidNo rs=none:=by
    unfold paidNo
    rw [if_neg (by omega)]
    unfold paysBad
    rw [List.findSome?_eq_none_iff]
    intro r hr
    obtain ⟨d,c,rfl,h1,h2,h3⟩:=h r hr
    show (if inB d 999 then (if c < 1 then some 3 else none) else some 1)=none
    rw [if_pos ⟨h1,h2⟩,if_neg (by omega)]
  rw [vouNo_t this,if_pos ot]
section
variable {P : Program} {w : World} {K : PySem.W.Frag} {mg : Str→Option Value} {base : Heap} {f : Addr} {fd : FuncData} {cl : Nat→Addr} (B : Bn mg)
include B
theorem ok_held (F : Fun K "_law_held" "_law_held" s_held f fd) : FnOk P w K mg base CX0 1 f fd p_held spHeld:=by
  refine F.ok sc_held (fun vs H Q E h=>?_) (fun cdv A outer s H vs Q E hr h=>?_)
  · obtain ⟨p,rs,wt,day,rfl,_⟩:=h; rfl
  obtain ⟨p,rs,wt,day,rfl,hR,h2,hn,q⟩:=h
  refine ⟨_,(pss_one (ps_ret (pe_callB (call_sumI rfl) rfl B.sum PyProof.Rows.boot_sum (pa_c (pe_comp (N':=["_law_when","_law_coins","_law_wait","_law_day"]) (ix:=[none,none,some 1,some 2]) (g:=(gTup K 2 (gCons (gName 0) (gCons (gName 1) gNil)))) (ti:=(tAnd (tTest (tOp (rI0 fun i j=>.bl (decide (i≤j))) (tC (.int 0)) (tOp (rI0 fun i j=>.int (i - j)) (tVar 3) (tVar 0)))) (tTest (tOp (rI0 fun i j=>.bl (decide (i≤j))) (tOp (rI0 fun i j=>.int (i - j)) (tVar 3) (tVar 0)) (tVar 2))))) (te:=(tVar 1)) rfl (comp_scope (N:=n_held) (D:=defScope s_held) (by decide +kernel)) (pi_list (pv 0)) (fun C s H fp=>(pg_tup rfl (pgs_cons (pg_name (i:=0) (show (["_law_when","_law_coins","_law_wait","_law_day"] : List Str).Nodup by decide +kernel) rfl (Or.inl rfl)) (pgs_cons (pg_name (i:=1) (show (["_law_when","_law_coins","_law_wait","_law_day"] : List Str).Nodup by decide +kernel) rfl (Or.inl rfl)) pgs_nil)))) (fun C s H fp=>(pifs_one (PW.pt (pw_and (pt_cmpR op_le pe_int (pe_op op_sub (pv 3) (pv 0)) (nomark _)) (pw_and1 (pt_cmpR op_le (pe_op op_sub (pv 3) (pv 0)) (pv 2) (nomark _))))))) (fun C s H fp=>(pv 1))) pa_nil)))),?_⟩
  obtain ⟨xs,ex,exl,exi⟩:=hR.get
  refine ⟨_,rfl,p,rfl,⟨xs,SqL.of ex⟩,fun D hD=>?_⟩
  refine comp_by (fun i zs _=>zs=(((rs.take i).filter (payB wt day)).map fun r=>r.getD 1 0).map V.int) hD ex (by omega) (fun i zs _ _ h _=>h) rfl (fun i x zs H3 e1 s3 hp K1 K2 k1 k2=>?_) fun zs H3 s3 hp ln hz=>?_
  · obtain ⟨pr,r,rfl,er,hpr⟩:=exi i x e1
    obtain ⟨d,cc,rfl⟩:=len2 (h2 r (List.mem_of_getElem? er))
    refine ⟨pr,_,rfl,SqT.of (s3 _ _ hpr),rfl,_,_,rfl,_,_,rfl,rfl,keep_set (keep_set keep_refl rfl) rfl,?_⟩
    have ft:=filter_take (rs:=rs) (payB wt day) er
    have gb : payB wt day [d,cc]=decide (day - wt≤d∧d≤day):=rfl
    have no : ¬ (day - wt≤d∧d≤day)→K2 H3:=fun z=>k2 _ (fun _ _ h=>h) (by rw [hp,ft,gb,if_neg (fun y=>z (of_decide_eq_true y)),List.append_nil])
    refine ⟨_,rfl,_,rfl,_,_,rfl,rfl,_,_,rfl,rfl,_,rfl,?_⟩
    by_cases z1 : 0≤day - d
    · rw [decide_eq_true z1]
      refine iteT ⟨_,rfl,_,rfl,_,_,rfl,rfl,_,rfl,_,_,rfl,rfl,_,rfl,?_⟩
      by_cases z2 : day - d≤wt
      · rw [decide_eq_true z2]
        refine iteT ⟨_,rfl,k1 _ _ (fun _ _ h=>h) ?_⟩
        rw [hp,ft,gb,if_pos (decide_eq_true ⟨by omega,by omega⟩),List.map_append,List.map_append]; rfl
      · rw [decide_eq_false z2]
        exact iteF (no fun y=>z2 (by omega))
    · rw [decide_eq_false z1]
      exact iteF (iteF (no fun y=>z1 (by omega)))
  · rw [exl,List.take_length] at hp
    subst hp
    exact ⟨D,_,rfl,SqL.of hz,q _ s3⟩
theorem ok_paidL (G_span : Cal P w K mg base CX0 2 "_law_span" p_span spSpan) (G_pick : Cal P w K mg base CX0 1 "_law_pick" p_pick spPickX) (F : Fun K "_law_paid" "_law_paid" s_paid f fd) : FnOk P w K mg base CX0 3 f fd p_paid spPaidL:=by
  refine F.ok sc_paid (fun vs H Q E h=>?_) (fun cdv A outer s H vs Q E hr h=>?_)
  · obtain ⟨a,c,rfl,_⟩:=h; rfl
  obtain ⟨a,c,rfl,d,q⟩:=h
  refine ⟨_,(pss_cons (ps_set (i:=1) sc_paid.nd rfl (Or.inl rfl) (pe_cal G_span hr rfl pass0 (pa_c (pv 0) pa_nil)))
    (pss_cons (ps_set (i:=2) sc_paid.nd rfl (Or.inl rfl) (pe_ix ix_tup (pe_tup (pa_c (pe_cal G_pick hr rfl pass0 (pa_c (pv 0) (pa_c pe_int pa_nil))) (pa_c pe_int pa_nil))) (pe_callTy call_int1 rfl B.int PyProof.Rows.boot_int (pa_c (pe_cmpR op_eq (pe_cal G_pick hr rfl pass0 (pa_c (pv 0) (pa_c pe_int pa_nil))) pe_int (nomark _)) pa_nil)) (fun _ _=>rfl)))
    (pss_cons (ps_set (i:=3) sc_paid.nd rfl (Or.inl rfl) (pe_ix ix_tup (pe_tup (pa_c pe_int (pa_c pe_int (pa_c (pe_op op_pow pe_int pe_int) pa_nil)))) (pe_cal G_pick hr rfl pass0 (pa_c (pv 0) (pa_c pe_int pa_nil))) (fun _ _=>rfl)))
    (pss_cons (ps_set (i:=4) sc_paid.nd rfl (Or.inl rfl) (pe_lst pa_nil))
    (pss_cons (ps_for PassesOwn.never rfl (pi_range1 rfl B.range (pa_c (pv 2) pa_nil)) (pg_name (i:=5) sc_paid.nd rfl (Or.inl rfl)) (pss_cons (ps_set (i:=6) sc_paid.nd rfl (Or.inl rfl) (pe_op op_add (pe_ix ix_tup (pv 1) pe_int (fun _ _=>rfl)) (pe_cal G_pick hr rfl pass0 (pa_c (pv 0) (pa_c (pe_ix ix_tup (pv 1) pe_int (fun _ _=>rfl)) pa_nil)))))
      (pss_one (ps_expr (pe_bm PySem.F.plainAttrs_list PySem.F.slot_list_append PySem.F.type_list_append mt_append (pv 4) (pa_c (pe_tup (pa_c (pv 6) (pa_c (pe_op op_add pe_int (pe_cal G_pick hr rfl pass0 (pa_c (pv 0) (pa_c (pv 3) pa_nil)))) pa_nil))) pa_nil))))))
    (pss_one (ps_ret (pv 4)))))))),?_⟩
  refine ⟨_,rfl,a,c,rfl,d,fun sp lo n H1 hsp lo1 n6 h1000 d1 kb1 hs1=>?_⟩
  refine ⟨_,rfl,a,c,21,rfl,d1,by decide,by decide,fun y0 H3 y00 y01 d3 kb3=>⟨by show 2≤sizeLine; decide,fun tp htp=>?_⟩⟩
  have s5:=same_new (H:=H3) htp (.tup [.int y0,.int 60])
  refine ⟨_,rfl,a,c,6,rfl,d3.same s5,by decide,by decide,fun z H6 z0 z1 d6 kb6=>⟨rfl,.inr ⟨_,rfl,?_⟩⟩⟩
  have tp6 : H6 tp=some (.tup [.int y0,.int 60]):=kb6 _ _ ((d3.same s5).neT upd_same) upd_same
  obtain ⟨m,hm,m0,m1⟩ : ∃ m : Int,atI [V.int y0,V.int 60] (if decide (V.int z=V.int 1)=true then 1 else 0)=some (.int m)∧0≤m∧m≤60:=by
    split
    · exact ⟨60,rfl,by omega,by omega⟩
    · exact ⟨y0,rfl,y00,by omega⟩
  refine ⟨tp,_,_,.int m,rfl,rfl,SqT.of tp6,hm,?_⟩
  have k6 : KeepBut a H1 H6:=(kb3.trans (KeepBut.of_same s5)).trans kb6
  have hs6:=k6 _ _ (d1.neT hs1) hs1
  have K6:=kb1.trans k6
  clear hm tp6 s5 htp d3 kb3 kb6 k6 d1 kb1 hs1
  refine ⟨_,_,rfl,rfl,⟨by decide,by decide,by decide⟩,by show 3≤sizeLine; decide,fun tq htq=>?_⟩
  have s7:=same_new (H:=H6) htq (.tup [.int 3,.int 90,.int (10 ^ (29 : Int).toNat)])
  refine ⟨_,rfl,a,c,3,rfl,d6.same s7,by decide,by decide,fun u H8 u0 u1 d8 kb8=>?_⟩
  have tq8 : H8 tq=some (.tup [.int 3,.int 90,.int (10 ^ (29 : Int).toNat)]):=kb8 _ _ ((d6.same s7).neT upd_same) upd_same
  obtain ⟨ms,hms,ms0,ms1⟩ : ∃ ms : Int,atI [V.int 3,V.int 90,V.int (10 ^ (29 : Int).toNat)] u=some (.int ms)∧0 < ms∧ms < 10 ^ 40:=by
    have : u=0∨u=1∨u=2:=by omega
    rcases this with rfl | rfl | rfl
    · exact ⟨3,rfl,by decide,by decide⟩
    · exact ⟨90,rfl,by decide,by decide⟩
    · exact ⟨10 ^ (29 : Int).toNat,rfl,by decide,by decide⟩
  refine ⟨tq,_,_,.int ms,rfl,rfl,SqT.of tq8,hms,?_⟩
  have hs8:=kb8 _ _ ((d6.same s7).neT (s7 _ _ hs6)) (s7 _ _ hs6)
  have K8:=(K6.trans (KeepBut.of_same s7)).trans kb8
  clear hms tq8 s7 htq d6 kb8 hs6 K6
  refine ⟨by show 0≤sizeLine; decide,fun p hp=>?_⟩
  have npa : p≠a:=d8.ne hp
  have npc : p≠c:=d8.nc hp
  have s9:=same_new (H:=H8) hp (.lst [])
  have d9:=d8.same s9
  have pf : H p=none:=K8.none npa hp
  refine ⟨_,rfl,m,rfl,by omega,by omega,for_range (n:=m.toNat) (fun i σ H10=>∃ o5 o6 rs,σ=[some (.ref a),some (.ref sp),some (.int m),some (.int ms),some (.ref p),o5,o6]∧DrawAt H10 a c∧KeepBut a H H10∧H10 sp=some (.tup [.int lo,.int n])∧Rows H10 p rs∧rs.length=i∧∀ r∈rs,PayG r) ⟨_,_,[],rfl,d9,K8.trans (KeepBut.of_same s9),s9 _ _ hs8,Rows.nil upd_same,rfl,fun r hr=>(by cases hr)⟩ ?_ ?_⟩
  · rintro jj σ H10 hjj ⟨o5,o6,rs,rfl,d10,K10,hs10,R10,hl10,hw10⟩
    obtain ⟨ys,ey,eyl,_⟩:=R10.get
    refine ⟨_,rfl,sp,_,_,.int lo,rfl,rfl,SqT.of hs10,rfl,?_⟩
    refine ⟨_,rfl,_,rfl,sp,_,_,.int n,rfl,rfl,SqT.of hs10,rfl,a,c,n,rfl,d10,by omega,by omega,fun v H11 v0 v1 d11 kb11=>⟨_,_,rfl,rfl,?_⟩⟩
    have ey11:=kb11 _ _ npa ey
    refine ⟨_,rfl,.inl ⟨rfl,_,SqL.of ey11⟩,?_⟩
    refine ⟨_,rfl,_,rfl,_,rfl,a,c,ms,rfl,d11,ms0,ms1,fun v' H12 v0' v1' d12 kb12=>⟨_,_,rfl,rfl,by show 2≤sizeLine; decide,fun t ht=>?_⟩⟩
    have kb:=kb11.trans kb12
    have ey12:=kb _ _ npa ey
    have R12:=R10.keep npa d10 kb
    have hs12:=kb _ _ (d10.neT hs10) hs10
    refine ⟨p,ys,.ref t,rfl,rfl,by rw [upd_ne (ne_of_none ey12 ht)]; exact ey12,small1000 (by omega),?_⟩
    have R13:=R12.push (r:=[lo + v,1 + v']) ey12 ht
    have st:=same_new (H:=H12) ht (.tup [.int (lo + v),.int (1 + v')])
    have nsp : sp≠p:=fun z=>by rw [z,ey12] at hs12; cases hs12
    refine ⟨_,_,_,rfl,(d12.same st).upd npa npc,((K10.trans kb).trans (KeepBut.of_same st)).young pf,by rw [upd_ne nsp]; exact st _ _ hs12,R13,by rw [List.length_append,hl10]; rfl,fun r hr=>?_⟩
    rcases List.mem_append.mp hr with y | y
    · exact hw10 r y
    · rw [List.mem_singleton.mp y]; exact ⟨_,_,rfl,by omega,by omega,by omega⟩
  · rintro σ H10 ⟨o5,o6,rs,rfl,d10,K10,hs10,R10,hl10,hw10⟩
    exact ⟨_,rfl,q p rs H10 pf hw10 (by omega) d10 K10 R10⟩
variable (G_begin : Cal P w K mg base CX0 1 "_law_begin" p_begin (spBegin K)) (G_pick : Cal P w K mg base CX0 1 "_law_pick" p_pick spPick) (G_same : Cal P w K mg base CX0 3 "_law_same" n_same (spSame 3)) (G_some_term : Cal P w K mg base CX0 2 "_law_some_term" p_some_term spSome) (G_day_near : Cal P w K mg base CX0 3 "_law_day_near" p_day_near spNear)
  (G_paid : Cal P w K mg base CX0 3 "_law_paid" p_paid spPaidL) (G_held : Cal P w K mg base CX0 1 "_law_held" p_held spHeld) (G_surety : Cal P w K mg base (CXE P w) 4 "surety" p_surety (spSurety cl)) (G_vouched : Cal P w K mg base (CXE P w) 4 "vouched" p_vouched (spVouched cl))
include G_begin G_pick G_same G_some_term G_day_near G_paid G_held G_surety G_vouched
theorem ok_law (F : Fun K "law" "law" s_law f fd) : FnOk P w K mg base CX0 5 f fd p_law (spLaw K):=by
  refine F.ok sc_law (fun vs H Q E h=>?_) (fun cdv A outer s H vs Q E hr h=>?_)
  · obtain ⟨a,ns,rfl,_⟩:=h; rfl
  obtain ⟨a0,ns,rfl,hS,hlen,q⟩:=h
  refine ⟨_,(pss_cons (ps_set (i:=1) sc_law.nd rfl (Or.inl rfl) (pe_cal G_begin hr rfl pass0 (pa_c (pv 0) pa_nil)))
    (pss_cons (ps_set (i:=2) sc_law.nd rfl (Or.inl rfl) (pe_cal G_paid hr rfl pass0 (pa_c (pv 1) pa_nil)))
    (pss_cons (ps_set (i:=3) sc_law.nd rfl (Or.inl rfl) (pe_callTy call_list_of rfl B.list PyProof.Rows.boot_list (pa_c (pv 2) pa_nil)))
    (pss_cons (ps_for PassesOwn.never rfl (pi_range1 rfl B.range (pa_c pe_int pa_nil)) (pg_name (i:=4) sc_law.nd rfl (Or.inl rfl)) (pss_cons (ps_set (i:=5) sc_law.nd rfl (Or.inl rfl) (pe_cal G_some_term hr rfl pass0 (pa_c (pv 1) pa_nil)))
      (pss_cons (ps_set (i:=6) sc_law.nd rfl (Or.inl rfl) (pe_tup (pa_c pe_int (pa_c pe_int pa_nil))))
      (pss_cons (ps_setComp (i:=7) sc_law.nd rfl (Or.inl rfl) (N':=["_law_row"]) (ix:=[none]) (g:=(gName 0)) (ti:=tIf0) (te:=(tOp (rIxT K) (tVar 0) (tC (.int 0)))) rfl (comp_scope (N:=n_law) (D:=defScope s_law) (by decide +kernel)) (pi_list (pv 2)) (fun C s H fp=>(pg_name (i:=0) (show (["_law_row"] : List Str).Nodup by decide +kernel) rfl (Or.inl rfl))) (fun C s H fp=>pifs_nil) (fun C s H fp=>(pe_ix ix_tup (pv 0) pe_int (fun _ _=>rfl))))
      (pss_cons (ps_for PassesOwn.never rfl (pi_range2 rfl B.range (pa_c (pe_callB (call_minI rfl) rfl B.min PyProof.Rows.boot_min (pa_c (pe_op op_cat (pv 7) (pe_lst (pa_c pe_int pa_nil))) pa_nil)) (pa_c (pe_op op_add (pe_callB (call_maxI rfl) rfl B.max PyProof.Rows.boot_max (pa_c (pe_op op_cat (pv 7) (pe_lst (pa_c pe_int pa_nil))) pa_nil)) pe_int) pa_nil))) (pg_name (i:=8) sc_law.nd rfl (Or.inl rfl)) (pss_one (ps_if (pt_cmpR op_gt (pe_cal G_held hr rfl pass0 (pa_c (pv 2) (pa_c (pv 5) (pa_c (pv 8) pa_nil)))) (pe_ix ix_tup (pv 6) pe_int (fun _ _=>rfl)) (nomark _)) (pss_one (ps_set (i:=6) sc_law.nd rfl (Or.inl rfl) (pe_tup (pa_c (pe_cal G_held hr rfl pass0 (pa_c (pv 2) (pa_c (pv 5) (pa_c (pv 8) pa_nil)))) (pa_c (pv 8) pa_nil))))) pss_nil)))
      (pss_cons (ps_if (pt_not (pt_truth (pe_cal G_same hr rfl pass0 (pa_c (pe_cal G_surety hr rfl passN (pa_c (pv 2) (pa_c (pv 5) pa_nil))) (pa_c (pv 6) pa_nil))) (fun _=>rfl))) (pss_one (ps_ret pe_bl)) pss_nil)
      (pss_cons (ps_set (i:=8) sc_law.nd rfl (Or.inl rfl) (pe_op op_add (pe_cal G_day_near hr rfl pass0 (pa_c (pv 1) (pa_c (pv 2) pa_nil))) (pe_op op_mul (pv 5) (pe_cal G_pick hr rfl pass0 (pa_c (pv 1) (pa_c pe_int pa_nil))))))
      (pss_one (ps_if (pt_not (pt_truth (pe_cal G_same hr rfl pass0 (pa_c (pe_cal G_vouched hr rfl passN (pa_c (pv 2) (pa_c (pv 5) (pa_c (pe_callB (call_min2 rfl) rfl B.min PyProof.Rows.boot_min (pa_c pe_int (pa_c (pv 8) pa_nil))) pa_nil)))) (pa_c (pe_cal G_held hr rfl pass0 (pa_c (pv 2) (pa_c (pv 5) (pa_c (pe_callB (call_min2 rfl) rfl B.min PyProof.Rows.boot_min (pa_c pe_int (pa_c (pv 8) pa_nil))) pa_nil)))) pa_nil))) (fun _=>rfl))) (pss_one (ps_ret pe_bl)) pss_nil)))))))))
    (pss_one (ps_ret (pe_and (pe_cmpR (op_eqL hr.units) (pv 2) (pv 3) (nomark _)) (pe_and (pe_cal G_same hr rfl pass0 (pa_c (pe_cal G_surety hr rfl passN (pa_c (pe_lst pa_nil) (pa_c pe_int pa_nil))) (pa_c (pe_tup (pa_c pe_int (pa_c pe_int pa_nil))) pa_nil))) (pe_one (pe_cal G_same hr rfl pass0 (pa_c (pe_cal G_vouched hr rfl passN (pa_c (pe_lst pa_nil) (pa_c pe_int (pa_c pe_int pa_nil)))) (pa_c pe_int pa_nil)))))))))))),?_⟩
  refine ⟨_,rfl,a0,ns,rfl,hS,hlen,fun a c H1 ha hc s1 d1=>?_⟩
  refine ⟨_,rfl,a,c,rfl,d1,fun l rs H2 hl hg ln d2 kb2 R2=>?_⟩
  have nla : l≠a:=d1.ne hl
  have h2 : ∀ r∈rs,r.length=2:=fun r hr=>by obtain ⟨_,_,rfl,_⟩:=hg r hr; rfl
  have hc1 : ∀ r∈rs,1≤r.getD 1 0:=fun r hr=>by obtain ⟨d,c',rfl,_,_,z⟩:=hg r hr; exact z
  obtain ⟨xs,ex,hx⟩:=R2.tups
  have lx:=hx.1
  refine ⟨_,rfl,l,_,rfl,.inl (SqL.of ex),fun kt hkt=>?_⟩
  have s3:=same_new (H:=H2) hkt (.lst xs)
  have nlk : l≠kt:=ne_of_none ex hkt
  have nka : kt≠a:=d2.ne hkt
  have ex3:=s3 _ _ ex
  have hx3:=hx.same s3
  have d3:=d2.same s3
  have K3:=upd_same (H:=H2) (a:=kt) (o:=.lst xs)
  generalize L2.upd H2 kt (.lst xs)=H3 at *
  clear s3 hkt ex hx R2 d2 kb2 hl s1 d1 hS
  refine ⟨3,rfl,by decide,by decide,for_range (n:=3) (fun _ σ H4=>∃ o4 o5 o6 o7 o8,σ=[some (.ref a0),some (.ref a),some (.ref l),some (.ref kt),o4,o5,o6,o7,o8]∧DrawAt H4 a c∧H4 l=some (.lst xs)∧Tups H4 xs rs∧H4 kt=some (.lst xs)) ⟨_,_,_,_,_,rfl,d3,ex3,hx3,K3⟩ ?_ ?_⟩
  · clear d3 ex3 hx3 K3
    rintro ii σ H4 hii ⟨o4,o5,o6,o7,o8,rfl,d4,ex4,hx4,K4⟩
    refine ⟨_,rfl,a,c,rfl,d4,fun wt H5 w0 w1 d5 kb5=>?_⟩
    have ot : okTerm wt:=⟨w0,w1⟩
    have vn:=payG_no hg ln ot
    have ex5:=kb5 _ _ nla ex4
    have hx5:=hx4.draw d4 kb5
    have K5:=kb5 _ _ nka K4
    clear d4 kb5 ex4 hx4 K4
    refine ⟨by show 2≤sizeLine; decide,fun du hdu=>?_⟩
    have s6:=same_new (H:=H5) hdu (.tup [.int 0,.int 0])
    refine ⟨_,rfl,l,rfl,⟨_,SqL.of (s6 _ _ ex5)⟩,fun D hD=>?_⟩
    refine comp_by (fun i zs _=>zs=((rs.take i).map fun (r : List Int)=>V.int (r.getD 0 0))) hD (s6 _ _ ex5) (by omega) (fun i zs _ _ h _=>h) rfl (fun i x zs H7 e1 s7 hp K1 K2 k1 k2=>?_) fun zs H7 s7 hp lz hD7=>?_
    · obtain ⟨pr,r,rfl,er,hpr⟩:=((hx5.same s6).same s7).at e1
      obtain ⟨d,c',rfl⟩:=len2 (h2 r (List.mem_of_getElem? er))
      refine ⟨keep_set keep_refl rfl,?_⟩
      refine ⟨_,rfl,pr,_,_,.int d,rfl,rfl,SqT.of hpr,rfl,k1 _ _ (fun _ _ h=>h) ?_⟩
      rw [hp,← take_next er,List.map_append]; rfl
    rw [lx,List.take_length] at hp
    have hp' : zs=(rs.map fun (r : List Int)=>r.getD 0 0).map V.int:=by rw [hp,List.map_map]; rfl
    clear hp
    subst hp'
    have S7:=s6.trans s7
    have ex7:=S7 _ _ ex5
    have hx7:=hx5.same S7
    have K7:=S7 _ _ K5
    have d7:=d5.same S7
    have du7:=s7 _ _ (upd_same (H:=H5) (a:=du) (o:=.tup [.int 0,.int 0]))
    clear s6 s7 S7 ex5 hx5 K5 d5 hdu hD
    have dl : (rs.map fun (r : List Int)=>r.getD 0 0).length≤60:=by rw [List.length_map]; exact ln
    generalize hdays : (rs.map fun (r : List Int)=>r.getD 0 0)=dys at *
    refine ⟨_,rfl,by show 1≤sizeLine; decide,fun p1 hp1=>?_⟩
    have u1:=same_new (H:=H7) hp1 (.lst [.int 1000])
    refine ⟨D,p1,_,_,rfl,rfl,u1 _ _ hD7,upd_same,Nat.le_of_lt (small1000 (by rw [List.length_map]; show _ + 1≤1000; omega)),fun p2 hp2=>?_⟩
    have u2:=u1.trans (same_new hp2 (.lst (dys.map V.int ++ [.int 1000])))
    refine ⟨p2,dys ++ [1000],rfl,?_,by rw [List.length_append]; show 0 < _ + 1; omega,fun lo hlo hlo2=>?_⟩
    · rw [List.map_append]; exact SqL.of upd_same
    have D8:=u2 _ _ hD7
    have ex8:=u2 _ _ ex7
    have hx8:=hx7.same u2
    have K8:=u2 _ _ K7
    have d8:=d7.same u2
    have du8:=u2 _ _ du7
    generalize L2.upd (L2.upd H7 p1 (.lst [.int 1000])) p2 (.lst (dys.map V.int ++ [.int 1000]))=H8 at *
    refine ⟨_,rfl,by show 1≤sizeLine; decide,fun q1 hq1=>?_⟩
    have v1:=same_new (H:=H8) hq1 (.lst [.int 0])
    refine ⟨D,q1,_,_,rfl,rfl,v1 _ _ D8,upd_same,Nat.le_of_lt (small1000 (by rw [List.length_map]; show _ + 1≤1000; omega)),fun q2 hq2=>?_⟩
    have v2:=v1.trans (same_new hq2 (.lst (dys.map V.int ++ [.int 0])))
    refine ⟨q2,dys ++ [0],rfl,?_,by rw [List.length_append]; show 0 < _ + 1; omega,fun hi hhi hhi2=>⟨_,_,rfl,rfl,?_⟩⟩
    · rw [List.map_append]; exact SqL.of upd_same
    have ex9:=v2 _ _ ex8
    have hx9:=hx8.same v2
    have K9:=v2 _ _ K8
    have d9:=d8.same v2
    have du9:=v2 _ _ du8
    generalize L2.upd (L2.upd H8 q1 (.lst [.int 0])) q2 (.lst (dys.map V.int ++ [.int 0]))=H9 at *
    have dB : ∀ x∈dys,1≤x∧x≤999:=fun x hx'=>by
      rw [← hdays] at hx'
      obtain ⟨r,hr,rfl⟩:=List.mem_map.mp hx'
      obtain ⟨d,c',rfl,z1,z2,_⟩:=hg r hr
      exact ⟨z1,z2⟩
    have loB : 1≤lo∧lo≤1000:=by
      rcases List.mem_append.mp hlo with z | z
      · have:=dB lo z; omega
      · rw [List.mem_singleton.mp z]; decide
    have hiB : 0≤hi∧hi≤999:=by
      rcases List.mem_append.mp hhi with z | z
      · have:=dB hi z; omega
      · rw [List.mem_singleton.mp z]; decide
    clear D8 ex8 hx8 K8 d8 du8 v1 v2 u1 u2 hp1 hp2 hq1 hq2 hD7 ex7 hx7 K7 d7 du7
    refine ⟨lo,hi + 1,rfl,⟨by omega,by omega,by omega,by omega⟩,for_range (n:=(hi + 1 - lo).toNat) (fun i σ H10=>∃ o8 du g d,σ=[some (.ref a0),some (.ref a),some (.ref l),some (.ref kt),some (.int (0 + (ii : Int))),some (.int wt),some (.ref du),some (.ref D),o8]∧Same H9 H10∧H10 du=some (.tup [.int g,.int d])∧WalkIs rs wt lo i g d) ⟨_,du,0,0,rfl,Same.refl _,du9,WalkIs.zero⟩ ?_ ?_⟩
    · rintro jj σ H10 hjj ⟨o8,du,g,d,rfl,s10,hdu,wk⟩
      have R10:=(hx9.same s10).rows (s10 _ _ ex9)
      refine ⟨_,rfl,_,rfl,_,rfl,l,rs,wt,(lo + (jj : Int)),rfl,R10,h2,by omega,fun H11 s11=>?_⟩
      refine ⟨_,rfl,du,_,_,.int g,rfl,rfl,SqT.of (s11 _ _ hdu),rfl,_,_,rfl,rfl,_,rfl,?_⟩
      by_cases cg : g < sumFor rs wt (lo + (jj : Int))
      · rw [decide_eq_true cg]
        refine iteT ⟨_,rfl,_,rfl,_,rfl,l,rs,wt,(lo + (jj : Int)),rfl,R10.same s11,h2,by omega,fun H12 s12=>⟨_,rfl,by show 2≤sizeLine; decide,fun t ht=>?_⟩⟩
        exact ⟨_,t,_,_,rfl,s10.trans (s11.trans (s12.trans (same_new ht _))),upd_same,wk.step wk.nn cg⟩
      · rw [decide_eq_false cg]
        exact iteF ⟨_,du,g,d,rfl,s10.trans s11,s11 _ _ hdu,wk.stay cg⟩
    rintro σ H10 ⟨o8,du,g,d,rfl,s10,hdu,wk⟩
    have R10:=(hx9.same s10).rows (s10 _ _ ex9)
    refine ⟨_,rfl,_,rfl,l,rs,wt,rfl,R10,h2,fun n e=>(by rw [vn] at e; cases e),fun _ g' d' t H11 sure s11 ht htn=>?_⟩
    have eq : g=g'∧d=d':=by
      by_cases hne : rs=[]
      · obtain ⟨rfl,rfl⟩:=sure.1 hne
        subst hne
        rw [← hdays] at hlo hhi
        have e1 : lo=1000:=List.mem_singleton.mp hlo
        have e2 : hi=0:=List.mem_singleton.mp hhi
        subst e1; subst e2
        rcases wk.2 with z | ⟨_,k,hk,_⟩
        · exact z
        · exact absurd hk (Nat.not_lt_zero _)
      · obtain ⟨r0,hr0⟩:=List.exists_mem_of_ne_nil _ hne
        have mm : ∀ r∈rs,r.getD 0 0∈dys:=fun r hr=>by rw [← hdays]; exact List.mem_map.mpr ⟨r,hr,rfl⟩
        have lo' : lo∈dys:=by
          rcases List.mem_append.mp hlo with z | z
          · exact z
          · have z1:=hlo2 _ (List.mem_append_left _ (mm r0 hr0))
            have z2:=dB _ (mm r0 hr0)
            rw [List.mem_singleton.mp z] at z1; omega
        obtain ⟨rl,hrl,erl⟩ : ∃ r∈rs,r.getD 0 0=lo:=by rw [← hdays] at lo'; obtain ⟨r,hr,e⟩:=List.mem_map.mp lo'; exact ⟨r,hr,e⟩
        exact walk_sure hc1 w0 hne ⟨⟨rl,hrl,erl⟩,fun r hr=>hlo2 _ (List.mem_append_left _ (mm r hr))⟩ (fun r hr=>hhi2 _ (List.mem_append_left _ (mm r hr))) sure wk
    obtain ⟨rfl,rfl⟩:=eq
    have ntd : t≠du:=fun z=>by rw [z,hdu] at htn; cases htn
    refine ⟨_,rfl,_,_,rfl,?_,fun H12 s12=>⟨_,rfl,iteF ?_⟩⟩
    · exact .tup ht (s11 _ _ hdu) rfl (by show 2≤1000; decide) fun i x y e1 e2=>by
        rw [e1] at e2
        cases e2
        match i,e1 with
        | 0,e1=>cases e1; exact .flat rfl
        | 1,e1=>cases e1; exact .flat rfl
        | i + 2,e1=>cases e1
    have S12:=s10.trans (s11.trans s12)
    have ex12:=S12 _ _ ex9
    have hx12:=hx9.same S12
    have K12:=S12 _ _ K9
    have d12:=d9.same S12
    clear s10 s11 s12 S12 ex9 hx9 K9 d9 hdu R10 ht htn
    refine ⟨_,rfl,_,rfl,a,c,l,_,rs,rfl,d12,ex12,nla,hx12,by omega,fun r hr=>(by unfold okE; rw [h2 r hr]; decide),fun day H13 da0 da1 d13 kb13=>?_⟩
    refine ⟨_,rfl,_,rfl,a,c,2,rfl,d13,by decide,by decide,fun y H14 y0 y1 d14 kb14=>⟨_,_,rfl,rfl,.inl ⟨by omega,by omega⟩,_,_,rfl,rfl,?_⟩⟩
    have kb:=kb13.trans kb14
    have ex14:=kb _ _ nla ex12
    have hx14:=hx12.draw d12 kb
    have K14:=kb _ _ nka K12
    have R14:=hx14.rows ex14
    have hw1 : 0≤wt * y:=Int.mul_nonneg w0 y0
    have inD : inB (if day + wt * y < 999 then day + wt * y else 999) 999:=by
      unfold inB
      split <;> omega
    refine ⟨_,rfl,_,rfl,_,rfl,_,_,rfl,?_⟩
    refine ⟨l,rs,wt,_,rfl,R14,h2,fun n e=>(by rw [vn] at e; cases e),fun _=>⟨fun z=>absurd inD z,fun _ H15 s15=>?_⟩⟩
    refine ⟨_,rfl,_,rfl,_,rfl,_,_,rfl,l,rs,wt,_,rfl,R14.same s15,h2,by omega,fun H16 s16=>?_⟩
    refine ⟨_,_,rfl,.flat rfl,fun H17 s17=>⟨_,rfl,iteF ?_⟩⟩
    have S17:=s15.trans (s16.trans s17)
    exact ⟨_,_,_,_,_,rfl,d14.same S17,S17 _ _ ex14,hx14.same S17,S17 _ _ K14⟩
  · rintro σ H4 ⟨o4,o5,o6,o7,o8,rfl,d4,ex4,hx4,K4⟩
    have vn0 : vouNo [] 5=none:=payG_no (rs:=[]) (wt:=5) (fun r hr=>(by cases hr)) (by decide) ⟨by decide,by decide⟩
    refine ⟨_,rfl,_,rfl,l,kt,_,_,rfl,rfl,SqL.of ex4,SqL.of K4,.inr ⟨rfl,1,fun _=>true,by decide,fun j x y e1 e2=>?_,?_⟩⟩
    · rw [e1] at e2
      cases e2
      obtain ⟨pr,_,rfl,_,_⟩:=hx4.at e1
      exact .same
    rw [all_true]
    refine ⟨_,rfl,iteT ?_⟩
    refine ⟨by show 0≤sizeLine; decide,fun e he=>?_⟩
    have s5:=same_new (H:=H4) he (.lst [])
    refine ⟨e,[],5,rfl,Rows.nil upd_same,fun r hr=>(by cases hr),fun n e'=>(by rw [vn0] at e'; cases e'),fun _ g d t H6 sure s6 ht htn=>?_⟩
    obtain ⟨rfl,rfl⟩:=sure.1 rfl
    refine ⟨by show 2≤sizeLine; decide,fun tz htz=>?_⟩
    have s7:=same_new (H:=H6) htz (.tup [.int 0,.int 0])
    refine ⟨_,_,rfl,?_,fun H8 s8=>⟨_,rfl,iteT ?_⟩⟩
    · exact .tup (s7 _ _ ht) upd_same rfl (by show 2≤1000; decide) fun i x y e1 e2=>by
        rw [e1] at e2
        cases e2
        match i,e1 with
        | 0,e1=>cases e1; exact .flat rfl
        | 1,e1=>cases e1; exact .flat rfl
        | i + 2,e1=>cases e1
    refine ⟨by show 0≤sizeLine; decide,fun e' he'=>?_⟩
    refine ⟨e',[],5,5,rfl,Rows.nil upd_same,fun r hr=>(by cases hr),fun n z=>(by rw [vn0] at z; cases z),fun _=>⟨fun z=>absurd (show inB 5 999 from ⟨by decide,by decide⟩) z,fun _ H9 s9=>?_⟩⟩
    exact ⟨_,_,rfl,.flat rfl,fun H10 s10=>q _⟩
end
end K30
namespace K30
open PySem L2
def clF (c_0 c_1 c_2 c_3 c_5 : Addr) : Nat→Addr
  | 0=>c_0
  | 1=>c_1
  | 2=>c_2
  | 3=>c_3
  | 5=>c_5
  | _=>c_0
theorem all_mk {l : PySem.W.OpenLaw} {w : World} {K : PySem.W.Frag} {h : Heap} {mg : Str→Option Value} {fa f0 f1 f2 f3 f4 f5 f6 f7 f8 f9 f10 f11 f12 f13 f14 f15 f16 c_0 c_1 c_2 c_3 c_5 : Addr} {u_FIRST_DAY u_LAST_DAY u_MOST_TERM u_MOST_PAID : Tok} (X : K.In h) (G : h.Ns mainGlobals mg) (hfa : mg "law" = some (.ref fa))
    {od0 an0 od1 an1 od2 an2 od3 an3 od4 an4 od5 an5 od6 an6 od7 an7 od8 an8 od9 an9 od10 an10 od11 an11 od12 an12 od13 an13 od14 an14 od15 an15 od16 an16 : Option Addr} {sl0 sl1 sl2 sl3 sl4 sl5 sl6 sl7 sl8 sl9 sl10 sl11 sl12 sl13 sl14 sl15 sl16 : Array (Option Value)} {oc0 kV0 dc0 pm0 cd0 ct0 oc1 kV1 dc1 pm1 cd1 ct1 oc2 kV2 dc2 pm2 cd2 ct2 oc3 kV3 dc3 pm3 cd3 ct3 oc4 kV4 dc4 pm4 cd4 ct4 oc5 kV5 dc5 pm5 cd5 ct5 oc6 kV6 dc6 pm6 cd6 ct6 oc7 kV7 dc7 pm7 cd7 ct7 oc8 kV8 dc8 pm8 cd8 ct8 oc9 kV9 dc9 pm9 cd9 ct9 oc10 kV10 dc10 pm10 cd10 ct10 oc11 kV11 dc11 pm11 cd11 ct11 oc12 kV12 dc12 pm12 cd12 ct12 oc13 kV13 dc13 pm13 cd13 ct13 oc14 kV14 dc14 pm14 cd14 ct14 oc15 kV15 dc15 pm15 cd15 ct15 oc16 kV16 dc16 pm16 cd16 ct16 : Value}
    (a0 : PySem.W.nsIn K mainGlobals "is_day" = some (some (.ref f0)))
    (l0 : K.lookup f0=some ⟨oc0,od0,.func (PySem.W.fnOf "is_day" "is_day" (defArgs s_is_day) (defBody s_is_day) (defScope s_is_day) .none kV0 dc0 pm0 an0 cd0 ct0),sl0⟩)
    (c0 : PySem.W.codeIn K cd0 "is_day" = true)
    (k0 : PySem.W.keepIn K (.ref f0)=true)
    (a1 : PySem.W.nsIn K mainGlobals "check_day" = some (some (.ref f1)))
    (l1 : K.lookup f1=some ⟨oc1,od1,.func (PySem.W.fnOf "check_day" "check_day" (defArgs s_check_day) (defBody s_check_day) (defScope s_check_day) .none kV1 dc1 pm1 an1 cd1 ct1),sl1⟩)
    (c1 : PySem.W.codeIn K cd1 "check_day" = true)
    (k1 : PySem.W.keepIn K (.ref f1)=true)
    (a2 : PySem.W.nsIn K mainGlobals "check_term" = some (some (.ref f2)))
    (l2 : K.lookup f2=some ⟨oc2,od2,.func (PySem.W.fnOf "check_term" "check_term" (defArgs s_check_term) (defBody s_check_term) (defScope s_check_term) .none kV2 dc2 pm2 an2 cd2 ct2),sl2⟩)
    (c2 : PySem.W.codeIn K cd2 "check_term" = true)
    (k2 : PySem.W.keepIn K (.ref f2)=true)
    (a3 : PySem.W.nsIn K mainGlobals "checked_paid" = some (some (.ref f3)))
    (l3 : K.lookup f3=some ⟨oc3,od3,.func (PySem.W.fnOf "checked_paid" "checked_paid" (defArgs s_checked_paid) (defBody s_checked_paid) (defScope s_checked_paid) .none kV3 dc3 pm3 an3 cd3 ct3),sl3⟩)
    (c3 : PySem.W.codeIn K cd3 "checked_paid" = true)
    (k3 : PySem.W.keepIn K (.ref f3)=true)
    (a4 : PySem.W.nsIn K mainGlobals "sum_for" = some (some (.ref f4)))
    (l4 : K.lookup f4=some ⟨oc4,od4,.func (PySem.W.fnOf "sum_for" "sum_for" (defArgs s_sum_for) (defBody s_sum_for) (defScope s_sum_for) .none kV4 dc4 pm4 an4 cd4 ct4),sl4⟩)
    (c4 : PySem.W.codeIn K cd4 "sum_for" = true)
    (k4 : PySem.W.keepIn K (.ref f4)=true)
    (a5 : PySem.W.nsIn K mainGlobals "vouched" = some (some (.ref f5)))
    (l5 : K.lookup f5=some ⟨oc5,od5,.func (PySem.W.fnOf "vouched" "vouched" (defArgs s_vouched) (defBody s_vouched) (defScope s_vouched) .none kV5 dc5 pm5 an5 cd5 ct5),sl5⟩)
    (c5 : PySem.W.codeIn K cd5 "vouched" = true)
    (k5 : PySem.W.keepIn K (.ref f5)=true)
    (a6 : PySem.W.nsIn K mainGlobals "surety" = some (some (.ref f6)))
    (l6 : K.lookup f6=some ⟨oc6,od6,.func (PySem.W.fnOf "surety" "surety" (defArgs s_surety) (defBody s_surety) (defScope s_surety) .none kV6 dc6 pm6 an6 cd6 ct6),sl6⟩)
    (c6 : PySem.W.codeIn K cd6 "surety" = true)
    (k6 : PySem.W.keepIn K (.ref f6)=true)
    (a7 : PySem.W.nsIn K mainGlobals "_law_pick" = some (some (.ref f7)))
    (l7 : K.lookup f7=some ⟨oc7,od7,.func (PySem.W.fnOf "_law_pick" "_law_pick" (defArgs s_pick) (defBody s_pick) (defScope s_pick) .none kV7 dc7 pm7 an7 cd7 ct7),sl7⟩)
    (c7 : PySem.W.codeIn K cd7 "_law_pick" = true)
    (k7 : PySem.W.keepIn K (.ref f7)=true)
    (a8 : PySem.W.nsIn K mainGlobals "_law_span" = some (some (.ref f8)))
    (l8 : K.lookup f8=some ⟨oc8,od8,.func (PySem.W.fnOf "_law_span" "_law_span" (defArgs s_span) (defBody s_span) (defScope s_span) .none kV8 dc8 pm8 an8 cd8 ct8),sl8⟩)
    (c8 : PySem.W.codeIn K cd8 "_law_span" = true)
    (k8 : PySem.W.keepIn K (.ref f8)=true)
    (a9 : PySem.W.nsIn K mainGlobals "_law_begin" = some (some (.ref f9)))
    (l9 : K.lookup f9=some ⟨oc9,od9,.func (PySem.W.fnOf "_law_begin" "_law_begin" (defArgs s_begin) (defBody s_begin) (defScope s_begin) .none kV9 dc9 pm9 an9 cd9 ct9),sl9⟩)
    (c9 : PySem.W.codeIn K cd9 "_law_begin" = true)
    (k9 : PySem.W.keepIn K (.ref f9)=true)
    (a10 : PySem.W.nsIn K mainGlobals "_law_some_term" = some (some (.ref f10)))
    (l10 : K.lookup f10=some ⟨oc10,od10,.func (PySem.W.fnOf "_law_some_term" "_law_some_term" (defArgs s_some_term) (defBody s_some_term) (defScope s_some_term) .none kV10 dc10 pm10 an10 cd10 ct10),sl10⟩)
    (c10 : PySem.W.codeIn K cd10 "_law_some_term" = true)
    (k10 : PySem.W.keepIn K (.ref f10)=true)
    (a11 : PySem.W.nsIn K mainGlobals "_law_same" = some (some (.ref f11)))
    (l11 : K.lookup f11=some ⟨oc11,od11,.func (PySem.W.fnOf "_law_same" "_law_same" (defArgs s_same) (defBody s_same) (defScope s_same) .none kV11 dc11 pm11 an11 cd11 ct11),sl11⟩)
    (c11 : PySem.W.codeIn K cd11 "_law_same" = true)
    (k11 : PySem.W.keepIn K (.ref f11)=true)
    (a12 : PySem.W.nsIn K mainGlobals "_law_one" = some (some (.ref f12)))
    (l12 : K.lookup f12=some ⟨oc12,od12,.func (PySem.W.fnOf "_law_one" "_law_one" (defArgs s_one) (defBody s_one) (defScope s_one) .none kV12 dc12 pm12 an12 cd12 ct12),sl12⟩)
    (c12 : PySem.W.codeIn K cd12 "_law_one" = true)
    (k12 : PySem.W.keepIn K (.ref f12)=true)
    (a13 : PySem.W.nsIn K mainGlobals "_law_day_near" = some (some (.ref f13)))
    (l13 : K.lookup f13=some ⟨oc13,od13,.func (PySem.W.fnOf "_law_day_near" "_law_day_near" (defArgs s_day_near) (defBody s_day_near) (defScope s_day_near) .none kV13 dc13 pm13 an13 cd13 ct13),sl13⟩)
    (c13 : PySem.W.codeIn K cd13 "_law_day_near" = true)
    (k13 : PySem.W.keepIn K (.ref f13)=true)
    (a14 : PySem.W.nsIn K mainGlobals "_law_paid" = some (some (.ref f14)))
    (l14 : K.lookup f14=some ⟨oc14,od14,.func (PySem.W.fnOf "_law_paid" "_law_paid" (defArgs s_paid) (defBody s_paid) (defScope s_paid) .none kV14 dc14 pm14 an14 cd14 ct14),sl14⟩)
    (c14 : PySem.W.codeIn K cd14 "_law_paid" = true)
    (k14 : PySem.W.keepIn K (.ref f14)=true)
    (a15 : PySem.W.nsIn K mainGlobals "_law_held" = some (some (.ref f15)))
    (l15 : K.lookup f15=some ⟨oc15,od15,.func (PySem.W.fnOf "_law_held" "_law_held" (defArgs s_held) (defBody s_held) (defScope s_held) .none kV15 dc15 pm15 an15 cd15 ct15),sl15⟩)
    (c15 : PySem.W.codeIn K cd15 "_law_held" = true)
    (k15 : PySem.W.keepIn K (.ref f15)=true)
    (a16 : PySem.W.nsIn K mainGlobals "law" = some (some (.ref f16)))
    (l16 : K.lookup f16=some ⟨oc16,od16,.func (PySem.W.fnOf "law" "law" (defArgs s_law) (defBody s_law) (defScope s_law) .none kV16 dc16 pm16 an16 cd16 ct16),sl16⟩)
    (c16 : PySem.W.codeIn K cd16 "law" = true)
    (k16 : PySem.W.keepIn K (.ref f16)=true)
    (z_len : PySem.W.nsIn K mainGlobals "len" = some none)
    (z_list : PySem.W.nsIn K mainGlobals "list" = some none)
    (z_isi : PySem.W.nsIn K mainGlobals "isinstance" = some none)
    (z_bool : PySem.W.nsIn K mainGlobals "bool" = some none)
    (z_int : PySem.W.nsIn K mainGlobals "int" = some none)
    (z_str : PySem.W.nsIn K mainGlobals "str" = some none)
    (z_tuple : PySem.W.nsIn K mainGlobals "tuple" = some none)
    (z_all : PySem.W.nsIn K mainGlobals "all" = some none)
    (z_any : PySem.W.nsIn K mainGlobals "any" = some none)
    (z_zip : PySem.W.nsIn K mainGlobals "zip" = some none)
    (z_range : PySem.W.nsIn K mainGlobals "range" = some none)
    (z_max : PySem.W.nsIn K mainGlobals "max" = some none)
    (z_min : PySem.W.nsIn K mainGlobals "min" = some none)
    (z_enumerate : PySem.W.nsIn K mainGlobals "enumerate" = some none)
    (z_sum : PySem.W.nsIn K mainGlobals "sum" = some none)
    (z_sorted : PySem.W.nsIn K mainGlobals "sorted" = some none)
    (z_verr : PySem.W.nsIn K mainGlobals "ValueError" = some none)
    (g_FIRST_DAY : PySem.W.nsIn K mainGlobals "FIRST_DAY" = some (some (.int 1 u_FIRST_DAY)))
    (g_LAST_DAY : PySem.W.nsIn K mainGlobals "LAST_DAY" = some (some (.int 999 u_LAST_DAY)))
    (g_MOST_TERM : PySem.W.nsIn K mainGlobals "MOST_TERM" = some (some (.int 400 u_MOST_TERM)))
    (g_MOST_PAID : PySem.W.nsIn K mainGlobals "MOST_PAID" = some (some (.int 60 u_MOST_PAID)))
    (g_0 : PySem.W.nsIn K mainGlobals "CustomsError" = some (some (.ref c_0)))
    (g_1 : PySem.W.nsIn K mainGlobals "BadDay" = some (some (.ref c_1)))
    (g_2 : PySem.W.nsIn K mainGlobals "BadTerm" = some (some (.ref c_2)))
    (g_3 : PySem.W.nsIn K mainGlobals "BadCount" = some (some (.ref c_3)))
    (g_4 : PySem.W.nsIn K mainGlobals "BadRows" = some (some (.ref c_5)))
    (x_1 : PySem.W.excIn K c_1 vbm "ValueError.__new__" = true)
    (x_2 : PySem.W.excIn K c_2 vbm "ValueError.__new__" = true)
    (x_3 : PySem.W.excIn K c_3 vbm "ValueError.__new__" = true)
    (x_4 : PySem.W.excIn K c_5 vbm "ValueError.__new__" = true)
    : ∃ fd : FuncData,(∀ (s : Shared) (v : Value),BindsTo s fd ⟨[v],[]⟩ [("_law_script",v)])∧∀ base : Heap,K.In base→base.Ns mainGlobals mg→FnOk l.prog w K mg base CX0 5 fa fd ["_law_script"] (spLaw K):=by
  have e:=hfa.symm.trans (PySem.W.mg_of X G a16)
  cases e
  have F0:=fun_mk (st:=s_is_day) l0 c0 k0
  have F1:=fun_mk (st:=s_check_day) l1 c1 k1
  have F2:=fun_mk (st:=s_check_term) l2 c2 k2
  have F3:=fun_mk (st:=s_checked_paid) l3 c3 k3
  have F4:=fun_mk (st:=s_sum_for) l4 c4 k4
  have F5:=fun_mk (st:=s_vouched) l5 c5 k5
  have F6:=fun_mk (st:=s_surety) l6 c6 k6
  have F7:=fun_mk (st:=s_pick) l7 c7 k7
  have F8:=fun_mk (st:=s_span) l8 c8 k8
  have F9:=fun_mk (st:=s_begin) l9 c9 k9
  have F10:=fun_mk (st:=s_some_term) l10 c10 k10
  have F11:=fun_mk (st:=s_same) l11 c11 k11
  have F12:=fun_mk (st:=s_one) l12 c12 k12
  have F13:=fun_mk (st:=s_day_near) l13 c13 k13
  have F14:=fun_mk (st:=s_paid) l14 c14 k14
  have F15:=fun_mk (st:=s_held) l15 c15 k15
  have F16:=fun_mk (st:=s_law) l16 c16 k16
  have b0:=F0.binds (ps:=p_is_day) fun _ _ _ _ _ _ us hl=>match us,hl with | [_],_=>rfl
  have m0:=PySem.W.mg_of X G a0
  have b1:=F1.binds (ps:=p_check_day) fun _ _ _ _ _ _ us hl=>match us,hl with | [_],_=>rfl
  have m1:=PySem.W.mg_of X G a1
  have b2:=F2.binds (ps:=p_check_term) fun _ _ _ _ _ _ us hl=>match us,hl with | [_],_=>rfl
  have m2:=PySem.W.mg_of X G a2
  have b3:=F3.binds (ps:=p_checked_paid) fun _ _ _ _ _ _ us hl=>match us,hl with | [_],_=>rfl
  have m3:=PySem.W.mg_of X G a3
  have b4:=F4.binds (ps:=p_sum_for) fun _ _ _ _ _ _ us hl=>match us,hl with | [_,_,_],_=>rfl
  have m4:=PySem.W.mg_of X G a4
  have b5:=F5.binds (ps:=p_vouched) fun _ _ _ _ _ _ us hl=>match us,hl with | [_,_,_],_=>rfl
  have m5:=PySem.W.mg_of X G a5
  have b6:=F6.binds (ps:=p_surety) fun _ _ _ _ _ _ us hl=>match us,hl with | [_,_],_=>rfl
  have m6:=PySem.W.mg_of X G a6
  have b7:=F7.binds (ps:=p_pick) fun _ _ _ _ _ _ us hl=>match us,hl with | [_,_],_=>rfl
  have m7:=PySem.W.mg_of X G a7
  have b8:=F8.binds (ps:=p_span) fun _ _ _ _ _ _ us hl=>match us,hl with | [_],_=>rfl
  have m8:=PySem.W.mg_of X G a8
  have b9:=F9.binds (ps:=p_begin) fun _ _ _ _ _ _ us hl=>match us,hl with | [_],_=>rfl
  have m9:=PySem.W.mg_of X G a9
  have b10:=F10.binds (ps:=p_some_term) fun _ _ _ _ _ _ us hl=>match us,hl with | [_],_=>rfl
  have m10:=PySem.W.mg_of X G a10
  have b11:=F11.binds (ps:=p_same) fun _ _ _ _ _ _ us hl=>match us,hl with | [_,_],_=>rfl
  have m11:=PySem.W.mg_of X G a11
  have b12:=F12.binds (ps:=p_one) fun _ _ _ _ _ _ us hl=>match us,hl with | [_,_],_=>rfl
  have m12:=PySem.W.mg_of X G a12
  have b13:=F13.binds (ps:=p_day_near) fun _ _ _ _ _ _ us hl=>match us,hl with | [_,_],_=>rfl
  have m13:=PySem.W.mg_of X G a13
  have b14:=F14.binds (ps:=p_paid) fun _ _ _ _ _ _ us hl=>match us,hl with | [_],_=>rfl
  have m14:=PySem.W.mg_of X G a14
  have b15:=F15.binds (ps:=p_held) fun _ _ _ _ _ _ us hl=>match us,hl with | [_,_,_],_=>rfl
  have m15:=PySem.W.mg_of X G a15
  have B : Bn mg:=⟨PySem.W.mg_none_of X G z_len,PySem.W.mg_none_of X G z_list,PySem.W.mg_none_of X G z_isi,PySem.W.mg_none_of X G z_bool,PySem.W.mg_none_of X G z_int,PySem.W.mg_none_of X G z_str,PySem.W.mg_none_of X G z_tuple,PySem.W.mg_none_of X G z_all,PySem.W.mg_none_of X G z_any,PySem.W.mg_none_of X G z_zip,PySem.W.mg_none_of X G z_range,PySem.W.mg_none_of X G z_max,PySem.W.mg_none_of X G z_min,PySem.W.mg_none_of X G z_enumerate,PySem.W.mg_none_of X G z_sum,PySem.W.mg_none_of X G z_sorted,PySem.W.mg_none_of X G z_verr⟩
  have TY : ∃ cl,Txt K mg cl:=by
    refine ⟨(clF c_0 c_1 c_2 c_3 c_5),⟨⟨_,PySem.W.mg_of X G g_FIRST_DAY⟩,⟨_,PySem.W.mg_of X G g_LAST_DAY⟩,⟨_,PySem.W.mg_of X G g_MOST_TERM⟩,⟨_,PySem.W.mg_of X G g_MOST_PAID⟩,PySem.W.mg_of X G g_0,PySem.W.mg_of X G g_1,PySem.W.mg_of X G g_2,PySem.W.mg_of X G g_3,PySem.W.mg_of X G g_4,x_1,x_2,x_3,x_4⟩⟩
  obtain ⟨cl,T⟩:=TY
  refine ⟨PySem.W.fnOf "law" "law" (defArgs s_law) (defBody s_law) (defScope s_law) .none kV16 dc16 pm16 an16 cd16 ct16,fun s v=>.of_eq rfl,fun base _ _=>?_⟩
  have G0 : Cal l.prog w K mg base CX0 1 "is_day" p_is_day spIsDay:=⟨⟨_,_,ok_is_day T B F0,b0,k0,m0⟩⟩
  have G1 : Cal l.prog w K mg base (CXE l.prog w) 2 "check_day" p_check_day (spIn (cl 1) 999):=⟨⟨_,_,ok_check_day T B G0 F1,b1,k1,m1⟩⟩
  have G2 : Cal l.prog w K mg base (CXE l.prog w) 2 "check_term" p_check_term (spTerm (cl 2)):=⟨⟨_,_,ok_check_term T B F2,b2,k2,m2⟩⟩
  have G3 : Cal l.prog w K mg base (CXE l.prog w) 3 "checked_paid" p_checked_paid (spChkPaid cl):=⟨⟨_,_,ok_checked_paid T B G1 F3,b3,k3,m3⟩⟩
  have G4 : Cal l.prog w K mg base CX0 1 "sum_for" p_sum_for spSumFor:=⟨⟨_,_,ok_sum_for T B F4,b4,k4,m4⟩⟩
  have G5 : Cal l.prog w K mg base (CXE l.prog w) 4 "vouched" p_vouched (spVouched cl):=⟨⟨_,_,ok_vouched T B G3 G2 G1 G4 F5,b5,k5,m5⟩⟩
  have G6 : Cal l.prog w K mg base (CXE l.prog w) 4 "surety" p_surety (spSurety cl):=⟨⟨_,_,ok_surety T B G3 G2 G4 F6,b6,k6,m6⟩⟩
  have G7 : Cal l.prog w K mg base CX0 1 "_law_pick" p_pick spPickX:=⟨⟨_,_,ok_pickX F7 B,b7,k7,m7⟩⟩
  have G8 : Cal l.prog w K mg base CX0 2 "_law_span" p_span spSpan:=⟨⟨_,_,ok_span B (pickW G7) F8,b8,k8,m8⟩⟩
  have G9 : Cal l.prog w K mg base CX0 1 "_law_begin" p_begin (spBegin K):=⟨⟨_,_,ok_begin F9 B,b9,k9,m9⟩⟩
  have G10 : Cal l.prog w K mg base CX0 2 "_law_some_term" p_some_term spSome:=⟨⟨_,_,ok_some_term B (pickW G7) F10,b10,k10,m10⟩⟩
  have G11 : Cal l.prog w K mg base CX0 3 "_law_same" p_same (spSame 3):=⟨⟨_,_,ok_same F11 B b11 k11 m11 3,b11,k11,m11⟩⟩
  have G12 : Cal l.prog w K mg base CX0 2 "_law_one" p_one spOne:=⟨⟨_,_,ok_one B (pickW G7) F12,b12,k12,m12⟩⟩
  have G13 : Cal l.prog w K mg base CX0 3 "_law_day_near" p_day_near spNear:=⟨⟨_,_,ok_day_near B (pickW G7) G12 F13,b13,k13,m13⟩⟩
  have G14 : Cal l.prog w K mg base CX0 3 "_law_paid" p_paid spPaidL:=⟨⟨_,_,ok_paidL B G8 G7 F14,b14,k14,m14⟩⟩
  have G15 : Cal l.prog w K mg base CX0 1 "_law_held" p_held spHeld:=⟨⟨_,_,ok_held B F15,b15,k15,m15⟩⟩
  exact ok_law B G9 (pickW G7) G11 G10 G13 G14 G15 G6 G5 F16
theorem walk {l : PySem.W.OpenLaw} {q : Program} {loose : List Str} {XP : (Str→Option Value)→Heap→Prop} {YP : World→Heap→Prop} {d : DefRec} {K : Params→PySem.W.Frag} (hn : l.most=some 63) (hdf : d.params.defaults=[])
    (hY : ∀ (w : World) (h : Heap),YP w h→(K w.params).In h)
    (F : ∀ (w : World) (mg : Str→Option Value) (fa : Addr) (h : Heap),(K w.params).In h→h.Ns mainGlobals mg→mg d.name=some (.ref fa)→
      ∃ fd : FuncData,(∀ (s : Shared) (u : Value),BindsTo s fd ⟨[u],[]⟩ [("_law_script",u)])∧∀ base : Heap,(K w.params).In base→base.Ns mainGlobals mg→FnOk l.prog w (K w.params) mg base CX0 5 fa fd ["_law_script"] (spLaw (K w.params))) :
    PySem.W.WalkO q loose XP YP l.row.toRowW d [] (fun f vs=>PySem.call f vs):=
  L2.walk_of (n:=63) (k:=5) (x := "_law_script") (CX:=fun _=>CX0) (sp:=fun w=>spLaw (K w.params)) hn (by decide) hdf ⟨rfl,by decide,by decide⟩ hY F (fun _ _ a ns hl _ hS=>⟨a,ns,rfl,hS,hl,fun _=>rfl⟩) fun _ _ _ _ _ z=>z
end K30
def PySem.W.Fast.tw3605087971476787745 : Nat:=0
def PySem.W.Fast.tw8266424250355191604 : Nat:=0
def PySem.W.Fast.tw2983399067488666938 : Nat:=0
def PySem.W.Fast.tw308523004570048727 : Nat:=0
def PySem.W.Fast.tw10402890107567139948 : Nat:=0
def PySem.W.Fast.tw6160544962011527120 : Nat:=0
def PySem.W.Fast.tw13607482575408011254 : Nat:=0
def PySem.W.Fast.tw4536235789390820578 : Nat:=0
def PySem.W.Fast.tw2835502009679489350 : Nat:=0
def PySem.W.Fast.tw10780380048004549596 : Nat:=0
def PySem.W.Fast.tw8400905417498390596 : Nat:=0
def PySem.W.Fast.tw7092302594056175723 : Nat:=0
def PySem.W.Fast.tw5465782193395349502 : Nat:=0
def PySem.W.Fast.tw10644790459599924479 : Nat:=0
def PySem.W.Fast.tw8060348696434099590 : Nat:=0
def PySem.W.Fast.tw4696396147617682426 : Nat:=0
def PySem.W.Fast.tw15361643107692322821 : Nat:=0
def PySem.W.Fast.tw14764516781523262974 : Nat:=0
def PySem.W.Fast.tw3778281844462251379 : Nat:=0
def PySem.W.Fast.tw5294005825518285840 : Nat:=0
def PySem.W.Fast.tw8145594588798316943 : Nat:=0
def PySem.W.Fast.tw1215226752959560136 : Nat:=0
def PySem.W.Fast.tw543512936650597182 : Nat:=0
def PySem.W.Fast.tw8299024957255969424 : Nat:=0
def PySem.W.Fast.tw9864214941792299703 : Nat:=0
def PySem.W.Fast.tw6205816802830900061 : Nat:=0
def PySem.W.Fast.tw7703089225507003384 : Nat:=0
def PySem.W.Fast.tw254032325553869479 : Nat:=0
def PySem.W.Fast.tw5865078284438963195 : Nat:=0
def PySem.W.Fast.tw6326448256682435700 : Nat:=0
def PySem.W.Fast.tw1659877396435055909 : Nat:=0
def PySem.W.Fast.tw7167947370395200793 : Nat:=0
def PySem.W.Fast.tw17663688791191229245 : Nat:=0
def PySem.W.Fast.tw1501144058584747511 : Nat:=0
def PySem.W.Fast.tw17711993204867873599 : Nat:=0
def PySem.W.Fast.tw15193845655797972609 : Nat:=0
def PySem.W.Fast.tw11559835473412240211 : Nat:=0
def PySem.W.Fast.tw4807279993259037092 : Nat:=0
def PySem.W.Fast.tw3359048329183713294 : Nat:=0
def PySem.W.Fast.tw1520693530123133878 : Nat:=0
def PySem.W.Fast.tw4886226436737865340 : Nat:=0
def PySem.W.Fast.tw2195565096151223808 : Nat:=0
def PySem.W.Fast.tw6339449720474574681 : Nat:=0
def PySem.W.Fast.tw11509402743408963034 : Nat:=0
def PySem.W.Fast.tw1156572008819591280 : Nat:=0
def PySem.W.Fast.tw17245804646982784491 : Nat:=0
def PySem.W.Fast.tw2087756615897310018 : Nat:=0
def PySem.W.Fast.tw8796886474695351785 : Nat:=0
def PySem.W.Fast.tw11139837831614194163 : Nat:=0
def PySem.W.Fast.tw1401134766473300077 : Nat:=0
def PySem.W.Fast.tw9282549308102822082 : Nat:=0
def PySem.W.Fast.tw2700307632300957480 : Nat:=0
def PySem.W.Fast.tw8486826139148724755 : Nat:=0
def PySem.W.Fast.tw13124396864435311101 : Nat:=0
def PySem.W.Fast.tw5787697804410901419 : Nat:=0
def PySem.W.Fast.tw138746580327978790 : Nat:=0
def PySem.W.Fast.tw8923495868706591645 : Nat:=0
def PySem.W.Fast.tw5292918179390933289 : Nat:=0
def PySem.W.Fast.tw7699882307971568597 : Nat:=0
def PySem.W.Fast.tw2067264102359646415 : Nat:=0
def PySem.W.Fast.tw15485461724707952783 : Nat:=0
def PySem.W.Fast.tw5436747911682228087 : Nat:=0
def PySem.W.Fast.tw4899876003498564712 : Nat:=0
def PySem.W.Fast.tw14196540283088407034 : Nat:=0
def PySem.W.Fast.tw5907340008659263099 : Nat:=0
def PySem.W.Fast.tw1365042459579264557 : Nat:=0
def PySem.W.Fast.tw8949616557871937803 : Nat:=0
def PySem.W.Fast.tw13979208522615369550 : Nat:=0
def PySem.W.Fast.tw8355915843642732425 : Nat:=0
def PySem.W.Fast.tw4687689636972868167 : Nat:=0
def PySem.W.Fast.tw13118021160956729813 : Nat:=0
def PySem.W.Fast.tw13926468804546675401 : Nat:=0
def PySem.W.Fast.tw16280407636887851182 : Nat:=0
def PySem.W.Fast.tw13970734997593832685 : Nat:=0
def PySem.W.Fast.tw15061485408026188163 : Nat:=0
def PySem.W.Fast.tw8816655255494079011 : Nat:=0
def PySem.W.Fast.tw17723395062279443800 : Nat:=0
def PySem.W.Fast.tw4631705638027370337 : Nat:=0
def PySem.W.Fast.tw9078524663778290302 : Nat:=0
def PySem.W.Fast.tw12236484007305113518 : Nat:=0
def PySem.W.Fast.tw10303078908266495249 : Nat:=0
def PySem.W.Fast.tw14105324937714140905 : Nat:=0
def PySem.W.Fast.tw15631696932974881237 : Nat:=0
def PySem.W.Fast.tw180167683796653979 : Nat:=0
def PySem.W.Fast.tw17245269499378434957 : Nat:=0
def PySem.W.Fast.tw10416233186374398311 : Nat:=0
def PySem.W.Fast.tw13364558140430725058 : Nat:=0
def PySem.W.Fast.tw9963643111558578475 : Nat:=0
def PySem.W.Fast.tw9894959992620237022 : Nat:=0
def PySem.W.Fast.tw17613423107845440189 : Nat:=0
def PySem.W.Fast.tw11033609250782449980 : Nat:=0
def PySem.W.Fast.tw5668033143584647683 : Nat:=0
def PySem.W.Fast.tw1602604107201536317 : Nat:=0
def PySem.W.Fast.tw4750645744339814348 : Nat:=0
def PySem.W.Fast.tw10210300779417782982 : Nat:=0
def PySem.W.Fast.tw13283782209048945591 : Nat:=0
def PySem.W.Fast.tw11218891080574459888 : Nat:=0
def PySem.W.Fast.tw4141793047138205007 : Nat:=0
def PySem.W.Fast.tw13220689698315214356 : Nat:=0
def PySem.W.Fast.tw2198479634218364478 : Nat:=0
def PySem.W.Fast.tw14749408110921651638 : Nat:=0
def PySem.W.Fast.tw2251468791010244786 : Nat:=0
def PySem.W.Fast.tw10155434124930446507 : Nat:=0
def PySem.W.Fast.tw1503433743203163327 : Nat:=0
def PySem.W.Fast.tw11216510129759935387 : Nat:=0
def PySem.W.Fast.tw4211009843016847689 : Nat:=0
def PySem.W.Fast.tw17960862415070364819 : Nat:=0
def PySem.W.Fast.tw5592009822111838036 : Nat:=0
def PySem.W.Fast.tw7518211779763963768 : Nat:=0
def PySem.W.Fast.tw14297280619088295826 : Nat:=0
def PySem.W.Fast.tw17642004802326836198 : Nat:=0
def PySem.W.Fast.tw12169993037938754275 : Nat:=0
def PySem.W.Fast.tw1058751098681638290 : Nat:=0
def PySem.W.Fast.tw9008190638386111549 : Nat:=0
def PySem.W.Fast.tw14199813601635766114 : Nat:=0
def PySem.W.Fast.tw14665611139758757010 : Nat:=0
def PySem.W.Fast.tw98482433869239350 : Nat:=0
def PySem.W.Fast.tw3901587042212737272 : Nat:=0
def PySem.W.Fast.tw16018940229569564830 : Nat:=0
def PySem.W.Fast.tw10593792516747503785 : Nat:=0
def PySem.W.Fast.tw4142843747804250289 : Nat:=0
def PySem.W.Fast.tw7600596934627024122 : Nat:=0
def PySem.W.Fast.tw7214353453769692803 : Nat:=0
def PySem.W.Fast.tw2236154887392534289 : Nat:=0
def PySem.W.Fast.tw1249098435336917463 : Nat:=0
def PySem.W.Fast.tw12621891560397655369 : Nat:=0
def PySem.W.Fast.tw16429259587347152726 : Nat:=0
def PySem.W.Fast.tw15282583491413648078 : Nat:=0
def PySem.W.Fast.tw708489370983362025 : Nat:=0
def PySem.W.Fast.tw4703051628488372528 : Nat:=0
def PySem.W.Fast.tw1443400958412340325 : Nat:=0
def PySem.W.Fast.tw2563677135296272390 : Nat:=0
open PySem PySem.W PyProof.Rows
set_option maxRecDepth 100000 in
set_option maxHeartbeats 0 in
theorem PySem.Challenge.cw_drawback_k30_what_must_be_vouched_for_holds : PySem.Challenge.rw_drawback_k30_what_must_be_vouched_for.Holds := by
  w_on; o_law; k_head; (case hw=>w_witness2)
  k_fill
  refine K30.walk (l:=PySem.Challenge.rw_drawback_k30_what_must_be_vouched_for) rfl rfl (fun w h Y=>PySem.W.kIn_of Y) ?F
  case F=>
    intro w mg fa h KX G hmg
    refine' K30.all_mk KX G hmg ?a0 ?l0 ?c0 ?k0 ?a1 ?l1 ?c1 ?k1 ?a2 ?l2 ?c2 ?k2 ?a3 ?l3 ?c3 ?k3 ?a4 ?l4 ?c4 ?k4 ?a5 ?l5 ?c5 ?k5 ?a6 ?l6 ?c6 ?k6 ?a7 ?l7 ?c7 ?k7 ?a8 ?l8 ?c8 ?k8 ?a9 ?l9 ?c9 ?k9 ?a10 ?l10 ?c10 ?k10 ?a11 ?l11 ?c11 ?k11 ?a12 ?l12 ?c12 ?k12 ?a13 ?l13 ?c13 ?k13 ?a14 ?l14 ?c14 ?k14 ?a15 ?l15 ?c15 ?k15 ?a16 ?l16 ?c16 ?k16 ?z_len ?z_list ?z_isi ?z_bool ?z_int ?z_str ?z_tuple ?z_all ?z_any ?z_zip ?z_range ?z_max ?z_min ?z_enumerate ?z_sum ?z_sorted ?z_verr ?g_FIRST_DAY ?g_LAST_DAY ?g_MOST_TERM ?g_MOST_PAID ?g_0 ?g_1 ?g_2 ?g_3 ?g_4 ?x_1 ?x_2 ?x_3 ?x_4
    (case a0=>k_is)
    (case l0=>k_is)
    (case c0=>k_is)
    (case k0=>k_is)
    (case a1=>k_is)
    (case l1=>k_is)
    (case c1=>k_is)
    (case k1=>k_is)
    (case a2=>k_is)
    (case l2=>k_is)
    (case c2=>k_is)
    (case k2=>k_is)
    (case a3=>k_is)
    (case l3=>k_is)
    (case c3=>k_is)
    (case k3=>k_is)
    (case a4=>k_is)
    (case l4=>k_is)
    (case c4=>k_is)
    (case k4=>k_is)
    (case a5=>k_is)
    (case l5=>k_is)
    (case c5=>k_is)
    (case k5=>k_is)
    (case a6=>k_is)
    (case l6=>k_is)
    (case c6=>k_is)
    (case k6=>k_is)
    (case a7=>k_is)
    (case l7=>k_is)
    (case c7=>k_is)
    (case k7=>k_is)
    (case a8=>k_is)
    (case l8=>k_is)
    (case c8=>k_is)
    (case k8=>k_is)
    (case a9=>k_is)
    (case l9=>k_is)
    (case c9=>k_is)
    (case k9=>k_is)
    (case a10=>k_is)
    (case l10=>k_is)
    (case c10=>k_is)
    (case k10=>k_is)
    (case a11=>k_is)
    (case l11=>k_is)
    (case c11=>k_is)
    (case k11=>k_is)
    (case a12=>k_is)
    (case l12=>k_is)
    (case c12=>k_is)
    (case k12=>k_is)
    (case a13=>k_is)
    (case l13=>k_is)
    (case c13=>k_is)
    (case k13=>k_is)
    (case a14=>k_is)
    (case l14=>k_is)
    (case c14=>k_is)
    (case k14=>k_is)
    (case a15=>k_is)
    (case l15=>k_is)
    (case c15=>k_is)
    (case k15=>k_is)
    (case a16=>k_is)
    (case l16=>k_is)
    (case c16=>k_is)
    (case k16=>k_is)
    (case z_len=>k_is)
    (case z_list=>k_is)
    (case z_isi=>k_is)
    (case z_bool=>k_is)
    (case z_int=>k_is)
    (case z_str=>k_is)
    (case z_tuple=>k_is)
    (case z_all=>k_is)
    (case z_any=>k_is)
    (case z_zip=>k_is)
    (case z_range=>k_is)
    (case z_max=>k_is)
    (case z_min=>k_is)
    (case z_enumerate=>k_is)
    (case z_sum=>k_is)
    (case z_sorted=>k_is)
    (case z_verr=>k_is)
    (case g_FIRST_DAY=>k_is)
    (case g_LAST_DAY=>k_is)
    (case g_MOST_TERM=>k_is)
    (case g_MOST_PAID=>k_is)
    (case g_0=>k_is)
    (case g_1=>k_is)
    (case g_2=>k_is)
    (case g_3=>k_is)
    (case g_4=>k_is)
    (case x_1=>first | k_is | k_exc)
    (case x_2=>first | k_is | k_exc)
    (case x_3=>first | k_is | k_exc)
    (case x_4=>first | k_is | k_exc)
