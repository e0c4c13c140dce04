import PyProof.Rows.All
import Wide.All
import OpenK.AllK
import Wide.FinOn
import Lean
import PyProof.EqAt
import PyProof.EqKinds
import PyProof.TupleCall
import PySem.Challenge.RW_drawback_k07_whole_dealt_unit_by_unit
set_option Elab.async false
set_option linter.all false
set_option maxRecDepth 100000
namespace L2
open PySem PySem.Spec PyProof.Rows
abbrev Key:=Sum Int Str
def keyIs : Key→Value→Bool
  | .inl k,v=>Value.isInt k v
  | .inr x,v=>Value.isStrOf x v
def keyH (w : World) : Key→Int
  | .inl k=>hashInt k
  | .inr x=>hashStr w x
theorem keyIs_shape : ∀ {k : Key} {v : Value},keyIs k v=true→(∃ i t,k=Sum.inl i∧v=Value.int i t)∨(∃ x t,k=Sum.inr x∧v=Value.str x t)
  | .inl i,v,h=>by
    obtain ⟨t,e⟩:=Value.isInt_shape (k:=i) (v:=v) h
    exact .inl ⟨i,t,rfl,e⟩
  | .inr x,v,h=>by
    obtain ⟨t,e⟩:=Value.isStrOf_shape (x:=x) (v:=v) h
    exact .inr ⟨x,t,rfl,e⟩
theorem keyIs_int (i : Int) (t : Tok) : keyIs (.inl i) (.int i t)=true:=by simp [keyIs,Value.isInt]
theorem keyIs_str (x : Str) (t : Tok) : keyIs (.inr x) (.str x t)=true:=by simp [keyIs,Value.isStrOf]
theorem key_ll (a b : Int) : decide ((Sum.inl a : Key)=Sum.inl b)=(a == b):=by
  by_cases e : a=b
  · subst e; simp
  · have h : ¬ (Sum.inl a : Key)=Sum.inl b:=fun q=>e (Sum.inl.inj q)
    rw [decide_eq_false h]
    exact (beq_eq_false_iff_ne.mpr e).symm
theorem key_rr (a b : Str) : decide ((Sum.inr a : Key)=Sum.inr b)=decide (a=b):=by
  by_cases e : a=b
  · subst e; simp
  · have h : ¬ (Sum.inr a : Key)=Sum.inr b:=fun q=>e (Sum.inr.inj q)
    rw [decide_eq_false h,decide_eq_false e]
theorem key_lr (a : Int) (b : Str) : decide ((Sum.inl a : Key)=Sum.inr b)=false:=decide_eq_false (fun q=>nomatch q)
theorem key_rl (a : Str) (b : Int) : decide ((Sum.inr a : Key)=Sum.inl b)=false:=decide_eq_false (fun q=>nomatch q)
def mixKind (prog : Program) (w : World) : PySem.KeyKind prog w Key where
  is:=keyIs
  hash:=keyH w
  inj:=fun v a b ha hb=>by
    rcases keyIs_shape ha with ⟨i,t,rfl,rfl⟩ | ⟨x,t,rfl,rfl⟩
    · rcases keyIs_shape hb with ⟨j,u,rfl,e⟩ | ⟨y,u,rfl,e⟩
      · injection e with e1 _; rw [e1]
      · exact nomatch e
    · rcases keyIs_shape hb with ⟨j,u,rfl,e⟩ | ⟨y,u,rfl,e⟩
      · exact nomatch e
      · injection e with e1 _; rw [e1]
  byValue:=fun k v h=>by
    rcases keyIs_shape h with ⟨i,t,rfl,rfl⟩ | ⟨x,t,rfl,rfl⟩ <;> rfl
  pyHash:=fun hv h=>by
    rcases keyIs_shape hv with ⟨i,t,rfl,rfl⟩ | ⟨x,t,rfl,rfl⟩
    · exact wpAny_pyHash_int h
    · exact wpAny_pyHash_str h
  eqBool:=fun hu hv h=>by
    rcases keyIs_shape hu with ⟨i,t,rfl,rfl⟩ | ⟨x,t,rfl,rfl⟩
    · rcases keyIs_shape hv with ⟨j,u,rfl,rfl⟩ | ⟨y,u,rfl,rfl⟩
      · rw [key_ll] at h; exact wpAny_eqBool_int h
      · rw [key_lr] at h; exact SeqAt.EqAt.int_str i t y u _ _ _ _ h
    · rcases keyIs_shape hv with ⟨j,u,rfl,rfl⟩ | ⟨y,u,rfl,rfl⟩
      · rw [key_rl] at h; exact SeqAt.EqAt.str_int x t j u _ _ _ _ h
      · rw [key_rr] at h; exact wpAny_eqBool_str h
  «strs»:=fun k x t v h=>by
    rcases keyIs_shape h with ⟨i,u,rfl,e⟩ | ⟨y,u,rfl,e⟩
    · exact nomatch e
    · injection e with e1 _
      subst e1
      cases v <;> rfl
theorem mixKind_int (prog : Program) (w : World) (i : Int) (t : Tok) : (mixKind prog w).is (.inl i) (.int i t)=true:=keyIs_int i t
theorem mixKind_str (prog : Program) (w : World) (x : Str) (t : Tok) : (mixKind prog w).is (.inr x) (.str x t)=true:=keyIs_str x t
end L2
namespace L2
open PySem PySem.Spec PyProof.Rows
inductive V where
  | non | bl (b : Bool) | int (i : Int) | str (x : Str) | byt (b : Array UInt8) | flt (b : UInt64) | ref (a : Addr) | ty (n : String)
  deriving DecidableEq
def RelV : V→Value→Prop
  | .non,u=>u=Value.none
  | .bl b,u=>u=Value.bool b
  | .int i,u=>∃ t,u=Value.int i t
  | .str x,u=>∃ t,u=Value.str x t
  | .byt b,u=>∃ t,u=Value.bytes b t
  | .flt b,u=>∃ t,u=Value.float b t
  | .ref a,u=>u=Value.ref a
  | .ty n,u=>u=Value.type n
abbrev Vals : List V→List Value→Prop:=Paired RelV
theorem Vals.length {xs : List V} {us : List Value} (r : Vals xs us) : xs.length=us.length:=Paired.length r
theorem Vals.get : ∀ {xs : List V} {us : List Value} {i : Nat} {x : V},Vals xs us→xs[i]? = some x→∃ u,us[i]? = some u∧RelV x u
  | _,_,_,_,.nil,e=>by simp at e
  | _,_,0,_,.cons r _,e=>by simp at e; subst e; exact ⟨_,rfl,r⟩
  | _,_,i + 1,x,.cons _ t,e=>by
    obtain ⟨u,h1,h2⟩:=Vals.get (i:=i) (x:=x) t (by simpa using e)
    exact ⟨u,by simpa using h1,h2⟩
theorem Vals.set {x : V} {u : Value} (r : RelV x u) : ∀ {xs : List V} {us : List Value} (i : Nat),Vals xs us→Vals (xs.set i x) (us.set i u)
  | _,_,_,.nil=>.nil
  | _,_,0,.cons _ t=>.cons r t
  | _,_,i + 1,.cons q t=>.cons q (Vals.set r i t)
theorem Vals.append : ∀ {xs ys : List V} {us ws : List Value},Vals xs us→Vals ys ws→Vals (xs ++ ys) (us ++ ws)
  | _,_,_,_,.nil,s=>s
  | _,_,_,_,.cons r t,s=>.cons r (Vals.append t s)
theorem Vals.take : ∀ {xs : List V} {us : List Value} (n : Nat),Vals xs us→Vals (xs.take n) (us.take n)
  | _,_,0,_=>.nil
  | _,_,_ + 1,.nil=>.nil
  | _,_,n + 1,.cons r t=>.cons r (Vals.take n t)
theorem Vals.drop : ∀ {xs : List V} {us : List Value} (n : Nat),Vals xs us→Vals (xs.drop n) (us.drop n)
  | _,_,0,r=>r
  | _,_,_ + 1,.nil=>.nil
  | _,_,n + 1,.cons _ t=>Vals.drop n t
def RelO : Option V→Option Value→Prop
  | some v,some u=>RelV v u
  | none,none=>True
  | _,_=>False
def KV {κ : Type} : List (κ×V)→List (κ×Value)→Prop:=Paired fun (p : κ×V) (q : κ×Value)=>p.1=q.1∧RelV p.2 q.2
def kV : Key→V
  | .inl i=>.int i
  | .inr x=>.str x
inductive HO where
  | lst (xs : List V)
  | tup (xs : List V)
  | dK (kvs : List (Key×V)) | dT (kvs : List (List Key×V))
  | set (S : Int→Bool) (n : Nat)
  | ins (C dx : Addr) (fs : List (Str×V))
  | own (x : Addr)
  | xd (fs : List (Str×V))
  | met (f x : Addr)
  | rng (lo hi : Int)
  | frz (o : Obj) (u : HO)
  | tbl (ps : Array Value)
  | ext (φ : Heap→Prop)
  | cod (q : Str) (pos : Pos)
abbrev Hp:=Addr→Option HO
def upd (H : Hp) (a : Addr) (o : HO) : Hp:=fun b=>if b=a then some o else H b
theorem upd_same {H : Hp} {a : Addr} {o : HO} : upd H a o a=some o:=by unfold upd; rw [if_pos rfl]
theorem upd_ne {H : Hp} {a b : Addr} {o : HO} (h : b≠a) : upd H a o b=H b:=by unfold upd; rw [if_neg h]
theorem upd_upd {H : Hp} {a : Addr} {o u : HO} : upd (upd H a o) a u=upd H a u:=by
  funext b; unfold upd; split <;> rfl
theorem ne_of {H : Hp} {a b : Addr} {o u : HO} (h : H a=some o) (h' : H b=some u) (d : o≠u) : a≠b:=by
  intro e; subst e; rw [h] at h'; exact d (Option.some.inj h')
theorem ne_of_none {H : Hp} {a b : Addr} {o : HO} (h : H a=some o) (h' : H b=none) : a≠b:=by
  intro e; subst e; rw [h] at h'; cases h'
section
variable (P : Program) (w : World)
def ObjOk (H : Hp) (h : Heap) (a : Addr) : HO→Prop
  | .lst xs=>xs.length≤sizeLine∧∃ (its : List Value) (n : Nat),Vals xs its∧h.get? a=some { cls:=.type "list",data:=.seq its.toArray n }
  | .tup xs=>xs.length≤sizeLine∧∃ its : List Value,Vals xs its∧IsTup h a its.toArray
  | .dK kvs=>kvs.length≤sizeLine∧(a == sysModules)=false∧∃ vs,KV kvs vs∧h.DictOf (mixKind P w) a vs
  | .dT kvs=>kvs.length≤sizeLine∧(a == sysModules)=false∧∃ xs : List (List Key×Addr×Value),
      Paired (fun (p : List Key×V) (q : List Key×Addr×Value)=>p.1=q.1∧H q.2.1=some (.tup (p.1.map kV))∧RelV p.2 q.2.2) kvs xs∧
      ∃ o es ep,h.get? a=some o∧o.ExactDict∧o.data = .dict es ep∧es.toList=xs.map (entryOfKey (tupleKind (mixKind P w)))∧(xs.map (·.1)).Nodup
  | .set S n=>h.SetOf (intKind P w) a S n
  | .ins C dx fs=>H dx=some (.own a)∧fs.length≤1000∧dx≠a∧h.get? a=some (PySem.W.instObj C dx)∧
      ∃ mA,h.Ns1 dx mA∧(∀ f,RelO (fs.lookup f) (mA f))∧PySem.Within mA (fs.map (·.1))
  | .own _=>∃ o,h.get? a=some o
  | .xd fs=>∃ mA,h.Ns1 a mA∧∀ f,RelO (fs.lookup f) (mA f)
  | .rng lo hi=>∃ t u v,h.get? a=some { cls:=.type "range",data:=.fields #[.int lo t,.int hi u,.int 1 v] }
  | .frz o u=>h.get? a=some o∧ObjOk H h a u
  | .tbl ps=>h.get? a=some { cls:=.none,data:=.fields ps }
  | .met f x=>h.get? a=some (PySem.W.methodObj (.ref f) (.ref x))
  | .ext φ=>φ h∧(∃ o,h.get? a=some o)∧∀ h1 h2 : Heap,φ h1→(∀ o,h1.get? a=some o→h2.get? a=some o)→φ h2
  | .cod q pos=>h.get? a=some { cls:=.none,data:=.fields #[] }∨∃ c,h.get? a=some { cls:=.none,data:=.fields #[rawInt pos.line,rawInt pos.col,.ref c] }∧H c=some (.own a)∧h.CodeRec (.ref c) q
def HOk (H : Hp) (h : Heap) : Prop:=∀ a o,H a=some o→ObjOk P w H h a o
end
section
variable {P : Program} {w : World} {H H' : Hp} {h h' : Heap} {a : Addr} {o : HO}
theorem ObjOk.lt (x : ObjOk P w H h a o) : a < h.objs.size:=by
  cases o with
  | lst xs=>obtain ⟨_,_,_,_,e⟩:=x; exact Heap.lt_size e
  | tup xs=>obtain ⟨_,_,_,p⟩:=x; exact p.lt
  | dK kvs=>obtain ⟨_,_,_,_,o,_,_,e,_⟩:=x; exact Heap.lt_size e
  | dT kvs=>obtain ⟨_,_,_,_,o,_,_,e,_⟩:=x; exact Heap.lt_size e
  | set S n=>obtain ⟨o,_,_,_,e,_⟩:=x; exact Heap.lt_size e
  | ins C dx fs=>obtain ⟨_,_,_,e,_⟩:=x; exact Heap.lt_size e
  | own y=>obtain ⟨_,e⟩:=x; exact Heap.lt_size e
  | xd fs=>obtain ⟨_,⟨_,_,_,e,_⟩,_⟩:=x; exact Heap.lt_size e
  | rng lo hi=>obtain ⟨_,_,_,e⟩:=x; exact Heap.lt_size e
  | frz ob u=>obtain ⟨e,_⟩:=x; exact Heap.lt_size e
  | tbl ps=>exact Heap.lt_size (show h.get? a=some _ from x)
  | met f y=>exact Heap.lt_size (show h.get? a=some _ from x)
  | ext φ=>obtain ⟨_,⟨_,e⟩,_⟩:=x; exact Heap.lt_size e
  | cod q pos=>rcases x with e | ⟨_,e,_⟩ <;> exact Heap.lt_size e
theorem Paired.mapP {α β : Type} {F G : α→β→Prop} : ∀ {l₁ : List α} {l₂ : List β},Paired F l₁ l₂→(∀ a b,F a b→G a b)→Paired G l₁ l₂
  | _,_,.nil,_=>.nil
  | _,_,.cons r t,f=>.cons (f _ _ r) (Paired.mapP t f)
theorem ObjOk.stay (x : ObjOk P w H h a o) (k : ∀ b u,(b=a∨H b=some (.own a))→h.get? b=some u→h'.get? b=some u)
    (ho : ∀ b,H b=some (.own a)→H' b=some (.own a)) (ht : ∀ b xs,H b=some (.tup xs)→H' b=some (.tup xs)) : ObjOk P w H' h' a o:=by
  induction o with
  | lst xs=>obtain ⟨z,its,n,r,e⟩:=x; exact ⟨z,its,n,r,k _ _ (.inl rfl) e⟩
  | tup xs=>obtain ⟨z,its,r,ob,e,c⟩:=x; exact ⟨z,its,r,ob,k _ _ (.inl rfl) e,c⟩
  | dK kvs=>obtain ⟨z,y,vs,r,ob,es,ep,e,c⟩:=x; exact ⟨z,y,vs,r,ob,es,ep,k _ _ (.inl rfl) e,c⟩
  | dT kvs=>
    obtain ⟨z,y,xs,r,ob,es,ep,e,c⟩:=x
    exact ⟨z,y,xs,Paired.mapP r fun p q z=>⟨z.1,ht _ _ z.2.1,z.2.2⟩,ob,es,ep,k _ _ (.inl rfl) e,c⟩
  | set S n=>obtain ⟨ob,es,ep,t,e,c⟩:=x; exact ⟨ob,es,ep,t,k _ _ (.inl rfl) e,c⟩
  | ins C dx fs=>
    obtain ⟨d,z,ne,e,mA,⟨od,es,ep,e2,c⟩,r⟩:=x
    exact ⟨ho _ d,z,ne,k _ _ (.inl rfl) e,mA,⟨od,es,ep,k _ _ (.inr d) e2,c⟩,r⟩
  | own y=>obtain ⟨ob,e⟩:=x; exact ⟨ob,k _ _ (.inl rfl) e⟩
  | xd fs=>obtain ⟨mA,⟨od,es,ep,e,c⟩,r⟩:=x; exact ⟨mA,⟨od,es,ep,k _ _ (.inl rfl) e,c⟩,r⟩
  | rng lo hi=>obtain ⟨t,u,v,e⟩:=x; exact ⟨t,u,v,k _ _ (.inl rfl) e⟩
  | frz ob u ih=>obtain ⟨e,q⟩:=x; exact ⟨k _ _ (.inl rfl) e,ih q⟩
  | tbl ps=>
    have e : h.get? a=some { cls:=.none,data:=.fields ps }:=x
    show h'.get? a=some { cls:=.none,data:=.fields ps }
    exact k a _ (.inl rfl) e
  | met f y=>
    have e : h.get? a=some (PySem.W.methodObj (.ref f) (.ref y)):=x
    show h'.get? a=some (PySem.W.methodObj (.ref f) (.ref y))
    exact k a _ (.inl rfl) e
  | ext φ=>obtain ⟨p,⟨o,e⟩,st⟩:=x; exact ⟨st _ _ p fun o q=>k _ _ (.inl rfl) q,⟨o,k _ _ (.inl rfl) e⟩,st⟩
  | cod q pos=>
    rcases x with e | ⟨c,e,hw,c2,oc,vs,t,e1,e2,r⟩
    · exact .inl (k _ _ (.inl rfl) e)
    · cases e1
      exact .inr ⟨c,k _ _ (.inl rfl) e,ho _ hw,c,oc,vs,t,rfl,k _ _ (.inr hw) e2,r⟩
theorem HOk.lt (x : HOk P w H h) (e : H a=some o) : a < h.objs.size:=(x a o e).lt
theorem HOk.fresh (x : HOk P w H h) (e : h.objs.size≤a) : H a=none:=by
  cases q : H a with
  | none=>rfl
  | some u=>exact absurd (Nat.lt_of_lt_of_le (x.lt q) e) (Nat.lt_irrefl _)
theorem HOk.kept (x : HOk P w H h) (k : ∀ b u,h.get? b=some u→h'.get? b=some u) : HOk P w H h':=fun a o e=>
  (x a o e).stay (fun b u _ q=>k b u q) (fun _ q=>q) fun _ _ q=>q
theorem HOk.laid (x : HOk P w H h) (k : ∀ b u,h.get? b=some u→h'.get? b=some u) (hp : h.objs.size≤a) (new : ObjOk P w (upd H a o) h' a o) : HOk P w (upd H a o) h':=fun b u e=>by
  have hn:=x.fresh hp
  by_cases hb : b=a
  · subst hb; rw [upd_same] at e; cases e; exact new
  · rw [upd_ne hb] at e
    exact (x b u e).stay (fun c v _ q=>k c v q) (fun c q=>by rw [upd_ne (ne_of_none q hn)]; exact q) fun c xs q=>by rw [upd_ne (ne_of_none q hn)]; exact q
end
def Rd (H : Hp) (a : Addr) (u : HO) : Prop:=H a=some u∨∃ o,H a=some (.frz o u)
theorem Rd.ok {P : Program} {w : World} {H : Hp} {h : Heap} {a : Addr} {u : HO} (r : Rd H a u) (x : HOk P w H h) : ObjOk P w H h a u:=by
  rcases r with r | ⟨o,r⟩
  · exact x a u r
  · obtain ⟨_,q⟩:=x a _ r
    exact q
def Mut : Option HO→Prop
  | some (.lst _)=>True
  | some (.dK _)=>True
  | some (.dT _)=>True
  | some (.set _ _)=>True
  | some (.ins _ _ _)=>True
  | some (.ext _)=>True
  | _=>False
section
variable {P : Program} {w : World} {H : Hp} {h h' : Heap} {x e : Addr} {o' : HO}
theorem HOk.write (ok : HOk P w H h) (mu : Mut (H x)) (he : e=x∨H e=some (.own x)) (k : ∀ b u,b≠e→h.get? b=some u→h'.get? b=some u) (heo : ∃ u,h'.get? e=some u)
    (new : ObjOk P w (upd H x o') h' x o') : HOk P w (upd H x o') h':=fun b u q=>by
  have nown : ∀ c y,H c=some (.own y)→c≠x:=fun c y r z=>by subst z; rw [r] at mu; exact mu
  have ntup : ∀ c xs,H c=some (.tup xs)→c≠x:=fun c xs r z=>by subst z; rw [r] at mu; exact mu
  by_cases hb : b=x
  · subst hb; rw [upd_same] at q; cases q; exact new
  · rw [upd_ne hb] at q
    by_cases hbe : b=e
    · have q' : H b=some (.own x):=by
        rcases he with z | z
        · exact absurd (hbe.trans z) hb
        · rw [hbe]; exact z
      rw [q] at q'; cases q'
      obtain ⟨v,hv⟩:=heo
      exact ⟨v,by rw [hbe]; exact hv⟩
    · refine (ok b u q).stay (fun c v hc r=>k c v ?_ r) (fun c r=>by rw [upd_ne (nown c b r)]; exact r) fun c xs r=>by rw [upd_ne (ntup c xs r)]; exact r
      rcases hc with rfl | hc
      · exact hbe
      · rintro rfl
        rcases he with z | z
        · exact nown c b hc z
        · rw [hc] at z; cases z; exact hb rfl
end
structure Un (fs ex : List Addr) (H H' : Hp) (h h' : Heap) : Prop where
  keep : ∀ b o,h.get? b=some o→H b=none→b ∉ fs→b ∉ ex→h'.get? b=some o
  slot : ∀ b o,h.get? b=some o→H b=none→b∈fs→b ∉ ex→∃ sl,h'.get? b=some { o with slots:=sl }
  free : ∀ b o,h.get? b=some o→H b=none→b ∉ ex→H' b=none
  there : ∀ b o,h.get? b=some o→b ∉ ex→∃ o',h'.get? b=some o'
  tups : ∀ b xs,H b=some (.tup xs)→H' b=some (.tup xs)
  frzs : ∀ b o u,H b=some (.frz o u)→H' b=some (.frz o u)
  tbls : ∀ b ps,H b=some (.tbl ps)→∃ more,H' b=some (.tbl (ps ++ more))
section
variable {fs fs' ex ex' : List Addr} {H H1 H2 : Hp} {h h1 h2 h' : Heap} {a x e : Addr} {o : HO}
theorem Un.any (u : Un fs ex H H1 h h1) {b : Addr} {ob : Obj} (q : h.get? b=some ob) (n : H b=none) (hx : b ∉ ex) : ∃ sl,h1.get? b=some { ob with slots:=sl }:=by
  by_cases hb : b∈fs
  · exact u.slot b ob q n hb hx
  · exact ⟨ob.slots,u.keep b ob q n hb hx⟩
theorem Un.kept (k : ∀ b u,h.get? b=some u→h'.get? b=some u) : Un fs ex H H h h':=
  ⟨fun b ob q _ _ _=>k b ob q,fun b ob q _ _ _=>⟨ob.slots,k b ob q⟩,fun _ _ _ n _=>n,fun b ob q _=>⟨ob,k b ob q⟩,fun _ _ q=>q,fun _ _ _ q=>q,fun _ ps q=>⟨#[],by rw [q]; simp⟩⟩
theorem Un.refl : Un fs ex H H h h:=Un.kept fun _ _ q=>q
theorem Un.laid (k : ∀ b u,h.get? b=some u→h'.get? b=some u) (hp : h.objs.size≤a) (hn : H a=none) : Un fs ex H (upd H a o) h h' where
  keep:=fun b u q _ _ _=>k b u q
  slot:=fun b u q _ _ _=>⟨u.slots,k b u q⟩
  free:=fun b u q n _=>by rw [upd_ne (Nat.ne_of_lt (Nat.lt_of_lt_of_le (Heap.lt_size q) hp))]; exact n
  there:=fun b u q _=>⟨u,k b u q⟩
  tups:=fun b xs q=>by rw [upd_ne (ne_of_none q hn)]; exact q
  frzs:=fun b u xs q=>by rw [upd_ne (ne_of_none q hn)]; exact q
  tbls:=fun b ps q=>⟨#[],by rw [upd_ne (ne_of_none q hn),q]; simp⟩
theorem Un.write (mu : Mut (H x)) (he : e=x∨H e=some (.own x)) (k : ∀ b u,b≠e→h.get? b=some u→h'.get? b=some u) (heo : ∃ u,h'.get? e=some u) : Un fs ex H (upd H x o) h h':=by
  have hx : ∀ b,H b=none→b≠x:=fun b n z=>by subst z; rw [n] at mu; exact mu
  have hb : ∀ b,H b=none→b≠e:=fun b n z=>by
    subst z
    rcases he with r | r
    · exact hx b n r
    · rw [n] at r; cases r
  have hm : ∀ b u,H b=some u→¬ Mut (some u)→b≠x:=fun b u q nm z=>by subst z; rw [q] at mu; exact nm mu
  refine ⟨fun b u q n _ _=>k b u (hb b n) q,fun b u q n _ _=>⟨u.slots,k b u (hb b n) q⟩,fun b u q n _=>by rw [upd_ne (hx b n)]; exact n,fun b u q _=>?_,
    fun b xs q=>by rw [upd_ne (hm b _ q fun z=>z)]; exact q,fun b u xs q=>by rw [upd_ne (hm b _ q fun z=>z)]; exact q,fun b ps q=>⟨#[],by rw [upd_ne (hm b _ q fun z=>z),q]; simp⟩⟩
  by_cases hbe : b=e
  · subst hbe; exact heo
  · exact ⟨u,k b u hbe q⟩
end
def trk (h : Heap) (H : Hp) : List Addr:=(List.range h.objs.size).filter fun a=>(H a).isSome
def hidT (h : Heap) (H : Hp) : Heap:=PySem.W.hideAll h (trk h H)
theorem hidT_size (h : Heap) (H : Hp) : (hidT h H).objs.size=h.objs.size:=PySem.W.hideAll_size _ _
theorem hidT_get {h : Heap} {H : Hp} {b : Addr} {o : Obj} (e : h.get? b=some o) (n : H b=none) : (hidT h H).get? b=some o:=
  PySem.W.hideAll_get _ e fun hm=>by
    have q : (H b).isSome=true:=(List.mem_filter.mp hm).2
    rw [n] at q; simp at q
theorem of_hidT {h : Heap} {H : Hp} {b : Addr} {o : Obj} (e : (hidT h H).get? b=some o) : h.get? b=some o∧H b=none:=by
  have e' : h.get? b=some o:=PySem.W.of_hideAll (trk h H) e
  refine ⟨e',?_⟩
  cases q : H b with
  | none=>rfl
  | some x=>
    have hm : b∈trk h H:=List.mem_filter.mpr ⟨List.mem_range.mpr (Heap.lt_size e'),by simp [q]⟩
    have z : (hidT h H).get? b=none:=PySem.W.hideAll_none (trk h H) hm
    rw [z] at e; cases e
def allNews (g h : Heap) (L : Addr) : List (Addr×Obj):=(List.range h.objs.size).filterMap fun a=>if a=L∨(g.get? a).isSome=true then none else (h.get? a).map fun o=>(a,o)
def rest (g h : Heap) (L d : Addr) : List (Addr×Obj):=(allNews g h L).filter fun p=>decide (p.1≠d)
end L2
namespace L2
open PySem PySem.Spec PyProof.Rows
structure Mod (K : PySem.W.Frag) (mg : Str→Option Value) (base : Heap) : Prop where
  kin : K.In base
  glob : base.Ns mainGlobals mg
  blt : ∃ mb,base.Ns builtinsNs mb∧∀ x : Str,x ≠ "__name__" → mb x=bootBuiltins x
  nolimit : base.NoLimit
structure Cx where
  prog : Program
  w : World
  K : PySem.W.Frag
  mg : Str→Option Value
  base : Heap
  A : Around
  N : List Str
  s₀ : Shared
  H₀ : Hp
  env : Env
  outer : List Env
  stack : List Env
  ex : List Addr
  fn : Str→Bool
  calm : Bool
  pn : List (Addr×Obj)
  xe : Value→Shared→Prop
def frs (l : List Env) : List Addr:=l.filterMap (·.frame)
abbrev Cx.fs (X : Cx) : List Addr:=frs X.outer
def Vis (sc : Scope) (x : Str) : Prop:=sc.names.lookup x=some .local∨sc.names.lookup x=some .cell∨sc.names.lookup x=some .free
def Loc (sc : Scope) (x : Str) : Prop:=sc.names.lookup x=some .local∨sc.names.lookup x=some .cell
def Look (env : Env) (h : Heap) (m : Str→Option Value) (x : Str) (u : Value) : Prop:=
  (env.kindOf x=some .local∧m x=some u)∨((env.kindOf x=some .cell∨env.kindOf x=some .free)∧∃ c,env.cells.lookup x=some c∧h.IsCell c (some u))
structure Cx.Ok (X : Cx) : Prop where
  mod : Mod X.K X.mg X.base
  kind : X.env.scope.kind = .function
  glob : X.env.globals=mainGlobals
  blt : X.env.builtins=builtinsNs
  above : X.s₀.heap.objs.size≤X.env.locals
  inj : ∀ x y c,X.env.cells.lookup x=some c→X.env.cells.lookup y=some c→x=y
  has : ∀ x,(X.env.kindOf x=some .cell∨X.env.kindOf x=some .free)→∃ c,X.env.cells.lookup x=some c
  cab : ∀ x c,X.fn x=true→X.env.cells.lookup x=some c→X.s₀.heap.objs.size≤c
  hd : X.calm=true→X.A.handled=none
  frames : X.A.frames=some X.stack
  stk : X.stack=X.outer∨(X.stack=X.env :: X.outer∧X.env.frame=some X.env.locals)
  exf : ∀ b∈X.ex,b≠X.env.locals∧∀ x c,X.env.cells.lookup x=some c→c≠b
  bs : ∀ b o,X.base.get? b=some o→X.s₀.heap.get? b=some o∧X.H₀ b=none
  bsz : X.base.objs.size≤X.s₀.heap.objs.size
  noex : ∀ b o,X.base.get? b=some o→b ∉ X.ex
  exfs : ∀ b∈X.ex,b ∉ X.fs
  funs : X.s₀.heap.FunFrames X.base X.outer
  frf : ∀ b∈X.fs,X.H₀ b=none
structure Inv (X : Cx) (pins : List (Addr×Obj)) (σ : List (Option V)) (H : Hp) (s : Shared) : Prop where
  ok : X.Ok
  os : s.os=X.s₀.os
  bare : AllBare s.gens
  base : Un X.fs X.ex X.H₀ H X.s₀.heap s.heap
  loc : ∃ m,s.heap.Ns X.env.locals m∧∀ (i : Nat) (x : Str) (v : V),X.N[i]? = some x→σ[i]? = some (some v)→Vis X.env.scope x→∃ u,RelV v u∧Look X.env s.heap m x u
  cell : ∀ x c,X.env.cells.lookup x=some c→∃ v,s.heap.IsCell c v
  free : H X.env.locals=none
  freeC : ∀ x c,X.env.cells.lookup x=some c→H c=none
  pin : ∀ p∈X.pn ++ pins,s.heap.get? p.1=some p.2∧H p.1=none∧p.1≠X.env.locals∧p.1 ∉ X.fs∧∀ v,p.2.data≠.cell v
  hok : HOk X.prog X.w H s.heap
  len : σ.length=X.N.length
section
variable {X : Cx} {pins : List (Addr×Obj)} {σ : List (Option V)} {H H' : Hp} {s : Shared} {h' : Heap}
theorem Cx.Ok.nofr (ok : X.Ok) {b : Addr} {o : Obj} (e : X.base.get? b=some o) : b ∉ X.fs:=fun hb=>by
  have:=(ok.funs.mem hb).1
  rw [e] at this; cases this
theorem Inv.bs (I : Inv X pins σ H s) : ∀ b o,X.base.get? b=some o→s.heap.get? b=some o∧H b=none:=fun b o e=>
  ⟨I.base.keep b o (I.ok.bs b o e).1 (I.ok.bs b o e).2 (I.ok.nofr e) (I.ok.noex b o e),I.base.free b o (I.ok.bs b o e).1 (I.ok.bs b o e).2 (I.ok.noex b o e)⟩
theorem Inv.bk (I : Inv X pins σ H s) : ∀ b o,X.base.get? b=some o→s.heap.get? b=some o:=fun b o e=>(I.bs b o e).1
theorem Inv.mod (I : Inv X pins σ H s) : Mod X.K X.mg X.base:=I.ok.mod
theorem Inv.kIn (I : Inv X pins σ H s) : X.K.In s.heap:=I.ok.mod.kin.keeps I.bk
theorem Inv.nolimit (I : Inv X pins σ H s) : s.heap.NoLimit:=I.ok.mod.nolimit.keeps I.bk
theorem Inv.lt (I : Inv X pins σ H s) : X.env.locals < s.heap.objs.size:=let ⟨_,hn,_⟩:=I.loc; hn.lt
theorem Inv.sz (I : Inv X pins σ H s) : X.s₀.heap.objs.size≤s.heap.objs.size:=Nat.le_trans I.ok.above (Nat.le_of_lt I.lt)
theorem Inv.nofs (I : Inv X pins σ H s) {a : Addr} (h : s.heap.objs.size≤a) : a ∉ X.fs:=fun hb=>by
  obtain ⟨_,o,ho,_⟩:=I.ok.funs.mem hb
  exact absurd (Nat.lt_of_lt_of_le (Heap.lt_size ho) (Nat.le_trans I.sz h)) (Nat.lt_irrefl _)
theorem Inv.cne (I : Inv X pins σ H s) : ∀ x c,X.env.cells.lookup x=some c→c≠X.env.locals:=fun x c e z=>by
  obtain ⟨v,o,ho,hd⟩:=I.cell x c e
  obtain ⟨m,⟨o',es,ep,ho',hd',_⟩,_⟩:=I.loc
  rw [z,ho'] at ho; cases ho; rw [hd'] at hd; cases hd
theorem Inv.funs (I : Inv X pins σ H s) : s.heap.FunFrames X.base X.outer:=by
  have all : ∀ (l : List Env),(∀ b∈frs l,b∈X.fs)→X.s₀.heap.FunFrames X.base l→s.heap.FunFrames X.base l:=by
    intro l
    induction l with
    | nil=>intro _ _; trivial
    | cons env r ih=>
      intro hs hl
      obtain ⟨hk,⟨L,o,hf,hn,ho,hd⟩,hr⟩:=hl
      have hL : L∈X.fs:=hs L (by unfold frs; rw [List.filterMap_cons,hf]; exact List.mem_cons_self)
      obtain ⟨sl,e⟩:=I.base.slot L o ho (I.ok.frf L hL) hL fun z=>I.ok.exfs L z hL
      exact ⟨hk,⟨L,_,hf,hn,e,hd⟩,ih (fun b hb=>hs b (by unfold frs; rw [List.filterMap_cons,hf]; exact List.mem_cons_of_mem _ hb)) hr⟩
  exact all X.outer (fun _ hb=>hb) I.ok.funs
theorem Inv.stack (I : Inv X pins σ H s) : s.heap.FunFrames X.base X.stack:=by
  rcases I.ok.stk with e | ⟨e,hf⟩
  · rw [e]; exact I.funs
  · rw [e]
    obtain ⟨m,hn,_⟩:=I.loc
    refine .cons (by rw [I.ok.kind]; decide) hf hn ?_ I.funs
    exact Heap.get?_none_of_le (Nat.le_trans I.ok.bsz I.ok.above)
theorem Inv.stkSub (I : Inv X pins σ H s) : ∀ b∈frs X.stack,b∈X.env.locals :: X.fs:=fun b hb=>by
  rcases I.ok.stk with e | ⟨e,hf⟩
  · rw [e] at hb; exact List.mem_cons_of_mem _ hb
  · rw [e] at hb
    unfold frs at hb
    rw [List.filterMap_cons,hf] at hb
    exact hb
theorem Inv.stkFree (I : Inv X pins σ H s) : ∀ b∈frs X.stack,H b=none:=fun b hb=>by
  rcases List.mem_cons.mp (I.stkSub b hb) with e | hb
  · rw [e]; exact I.free
  · obtain ⟨_,o,ho,_⟩:=I.ok.funs.mem hb
    exact I.base.free b o ho (I.ok.frf b hb) fun z=>I.ok.exfs b z hb
theorem Inv.step {g' : Array GenState} {t' : Nat} {d' : Drawn} {ch : List Addr} (I : Inv X pins σ H s)
    (hch : ∀ b∈ch,(b∈X.ex∨X.s₀.heap.objs.size≤b)∧b≠X.env.locals∧(∀ x c,X.env.cells.lookup x=some c→c≠b)∧∀ p∈X.pn ++ pins,p.1≠b)
    (keep : ∀ b o,b≠X.env.locals→b ∉ X.fs→b ∉ ch→s.heap.get? b=some o→H b=none→h'.get? b=some o)
    (slot : ∀ b o,b≠X.env.locals→b∈X.fs→b ∉ ch→s.heap.get? b=some o→H b=none→∃ sl,h'.get? b=some { o with slots:=sl }) (free : ∀ b o,b ∉ ch→s.heap.get? b=some o→H b=none→H' b=none)
    (there : ∀ b o,b ∉ ch→s.heap.get? b=some o→∃ o',h'.get? b=some o')
    (tups : ∀ b xs,H b=some (.tup xs)→H' b=some (.tup xs)) (frzs : ∀ b o u,H b=some (.frz o u)→H' b=some (.frz o u)) (tbls : ∀ b ps,H b=some (.tbl ps)→∃ more,H' b=some (.tbl (ps ++ more)))
    (ns : ∀ m,s.heap.Ns X.env.locals m→h'.Ns X.env.locals m) (hok : HOk X.prog X.w H' h') (hg : AllBare g') :
    Inv X pins σ H' { s with heap:=h',gens:=g',drawn:=d',toks:=t' }:=by
  have neL : ∀ b o,X.s₀.heap.get? b=some o→b≠X.env.locals:=fun b o e=>Nat.ne_of_lt (Nat.lt_of_lt_of_le (Heap.lt_size e) I.ok.above)
  have neC : ∀ b o,X.s₀.heap.get? b=some o→b ∉ X.ex→b ∉ ch:=fun b o e hx hb=>by
    rcases (hch b hb).1 with z | z
    · exact hx z
    · exact absurd (Nat.lt_of_lt_of_le (Heap.lt_size e) z) (Nat.lt_irrefl _)
  have cellK : ∀ x c,X.env.cells.lookup x=some c→∀ v,s.heap.IsCell c v→h'.IsCell c v:=fun x c e v ⟨o,ho,hd⟩=>by
    have nch : c ∉ ch:=fun z=>(hch c z).2.2.1 x c e rfl
    by_cases hc : c∈X.fs
    · obtain ⟨sl,q⟩:=slot c o (I.cne x c e) hc nch ho (I.freeC x c e)
      exact ⟨_,q,hd⟩
    · exact ⟨o,keep c o (I.cne x c e) hc nch ho (I.freeC x c e),hd⟩
  refine ⟨I.ok,I.os,hg,⟨fun b o e n hb hx=>?_,fun b o e n hb hx=>?_,fun b o e n hx=>?_,fun b o e hx=>?_,fun b xs e=>tups b xs (I.base.tups b xs e),fun b o xs e=>frzs b o xs (I.base.frzs b o xs e),fun b ps e=>?_⟩,?_,fun x c e=>?_,?_,fun x c e=>?_,fun p hp=>?_,hok,I.len⟩
  · exact keep b o (neL b o e) hb (neC b o e hx) (I.base.keep b o e n hb hx) (I.base.free b o e n hx)
  · obtain ⟨sl,e1⟩:=I.base.slot b o e n hb hx
    obtain ⟨sl',e2⟩:=slot b _ (neL b o e) hb (neC b o e hx) e1 (I.base.free b o e n hx)
    exact ⟨sl',e2⟩
  · obtain ⟨o',e1⟩:=I.base.there b o e hx
    exact free b o' (neC b o e hx) e1 (I.base.free b o e n hx)
  · obtain ⟨o',e1⟩:=I.base.there b o e hx
    exact there b o' (neC b o e hx) e1
  · obtain ⟨m1,e1⟩:=I.base.tbls b ps e
    obtain ⟨m2,e2⟩:=tbls b _ e1
    exact ⟨m1 ++ m2,by rw [e2,Array.append_assoc]⟩
  · obtain ⟨m,hn,hl⟩:=I.loc
    refine ⟨m,ns m hn,fun i x v e1 e2 e3=>?_⟩
    obtain ⟨u,r,l⟩:=hl i x v e1 e2 e3
    refine ⟨u,r,?_⟩
    rcases l with l | ⟨k,c,e,z⟩
    · exact .inl l
    · exact .inr ⟨k,c,e,cellK x c e _ z⟩
  · obtain ⟨v,z⟩:=I.cell x c e
    exact ⟨v,cellK x c e v z⟩
  · obtain ⟨m,⟨o,_,_,ho,_⟩,_⟩:=I.loc
    exact free _ o (fun z=>(hch _ z).2.1 rfl) ho I.free
  · obtain ⟨v,o,ho,hd⟩:=I.cell x c e
    exact free c o (fun z=>(hch c z).2.2.1 x c e rfl) ho (I.freeC x c e)
  · obtain ⟨e,n,ne,nf,d⟩:=I.pin p hp
    have nch : p.1 ∉ ch:=fun z=>(hch p.1 z).2.2.2 p hp rfl
    exact ⟨keep p.1 p.2 ne nf nch e n,free p.1 p.2 nch e n,ne,nf,d⟩
theorem Inv.un {t' : Nat} (I : Inv X pins σ H s) (u : Un X.fs [] H H' s.heap h') (hok : HOk X.prog X.w H' h') : Inv X pins σ H' { s with heap:=h',toks:=t' }:=by
  obtain ⟨m,⟨o,es,ep,ho,r⟩,_⟩:=id I.loc
  obtain ⟨sl,hL⟩:=u.any ho I.free (by simp)
  exact I.step (g':=s.gens) (d':=s.drawn) (ch:=[]) (fun _ z=>nomatch z) (fun b o _ hb _ e n=>u.keep b o e n hb (by simp)) (fun b o _ hb _ e n=>u.slot b o e n hb (by simp)) (fun b o _ e n=>u.free b o e n (by simp)) (fun b o _ e=>u.there b o e (by simp)) u.tups u.frzs u.tbls (fun m' hm=>by
    obtain ⟨o',es',ep',ho',r'⟩:=hm
    rw [ho] at ho'; cases ho'
    exact ⟨_,es',ep',hL,r'⟩) hok I.bare
theorem Inv.call {g' : Array GenState} {t' : Nat} {d' : Drawn} {ch : List Addr} (I : Inv X pins σ H s) (u : Un (frs X.stack) ch H H' s.heap h') (hok : HOk X.prog X.w H' h') (hg : AllBare g')
    (hch : ∀ b∈ch,(b∈X.ex∨X.s₀.heap.objs.size≤b)∧b≠X.env.locals∧(∀ x c,X.env.cells.lookup x=some c→c≠b)∧∀ p∈X.pn ++ pins,p.1≠b) :
    Inv X pins σ H' { s with heap:=h',gens:=g',drawn:=d',toks:=t' }:=by
  obtain ⟨m,⟨o,es,ep,ho,r⟩,_⟩:=id I.loc
  obtain ⟨sl,hL⟩:=u.any ho I.free fun z=>(hch _ z).2.1 rfl
  exact I.step (ch:=ch) hch (fun b o hL hb hc e n=>u.keep b o e n (fun z=>(List.mem_cons.mp (I.stkSub b z)).elim hL hb) hc) (fun b o _ _ hc e n=>u.any e n hc) (fun b o hc e n=>u.free b o e n hc) (fun b o hc e=>u.there b o e hc) u.tups u.frzs u.tbls (fun m' hm=>by
    obtain ⟨o',es',ep',ho',r'⟩:=hm
    rw [ho] at ho'; cases ho'
    exact ⟨_,es',ep',hL,r'⟩) hok hg
theorem Inv.turned {t' : Nat} {it : Addr} (I : Inv X pins σ H s) (k : ∀ b o,b≠it→s.heap.get? b=some o→h'.get? b=some o) (hn : H it=none) (hL : it≠X.env.locals)
    (h1 : it∈X.ex∨X.s₀.heap.objs.size≤it) (h2 : ∀ x c,X.env.cells.lookup x=some c→c≠it) (h3 : ∀ p∈X.pn ++ pins,p.1≠it) : Inv X pins σ H { s with heap:=h',toks:=t' }:=by
  have nit : ∀ b u,H b=some u→b≠it:=fun b u e z=>by rw [z,hn] at e; cases e
  refine I.step (g':=s.gens) (d':=s.drawn) (ch:=[it]) (fun b hb=>?_) (fun b o _ _ hc e _=>k b o (fun z=>hc (by simp [z])) e) (fun b o _ _ hc e _=>⟨o.slots,k b o (fun z=>hc (by simp [z])) e⟩) (fun _ _ _ _ n=>n)
    (fun b o hc e=>⟨o,k b o (fun z=>hc (by simp [z])) e⟩) (fun _ _ e=>e) (fun _ _ _ e=>e) (fun b ps e=>⟨#[],by rw [e]; simp⟩) (fun m hm=>?_) (fun b u e=>?_) I.bare
  · have e : b=it:=by simpa using hb
    subst e
    exact ⟨h1,hL,h2,h3⟩
  · obtain ⟨o,es,ep,ho,r⟩:=hm
    exact ⟨o,es,ep,k _ o (Ne.symm hL) ho,r⟩
  · refine (I.hok b u e).stay (fun c v hc q=>k c v ?_ q) (fun _ q=>q) fun _ _ q=>q
    rcases hc with z | z
    · rw [z]; exact nit b u e
    · exact nit c _ z
theorem Inv.tok (I : Inv X pins σ H s) (t : Nat) : Inv X pins σ H { s with toks:=t }:=I.un (h':=s.heap) (t':=t) Un.refl I.hok
theorem Inv.kept {t' : Nat} (I : Inv X pins σ H s) (k : ∀ b u,s.heap.get? b=some u→h'.get? b=some u) : Inv X pins σ H { s with heap:=h',toks:=t' }:=I.un (Un.kept k) (I.hok.kept k)
theorem Inv.laid {a : Addr} {o : HO} {t' : Nat} (I : Inv X pins σ H s) (k : ∀ b u,s.heap.get? b=some u→h'.get? b=some u) (hp : s.heap.objs.size≤a) (new : ObjOk X.prog X.w (upd H a o) h' a o) :
    Inv X pins σ (upd H a o) { s with heap:=h',toks:=t' }:=I.un (Un.laid k hp (I.hok.fresh hp)) (I.hok.laid k hp new)
theorem Inv.write {x e : Addr} {o : HO} {t' : Nat} (I : Inv X pins σ H s) (mu : Mut (H x)) (he : e=x∨H e=some (.own x)) (k : ∀ b u,b≠e→s.heap.get? b=some u→h'.get? b=some u) (heo : ∃ u,h'.get? e=some u)
    (new : ObjOk X.prog X.w (upd H x o) h' x o) : Inv X pins σ (upd H x o) { s with heap:=h',toks:=t' }:=I.un (Un.write mu he k heo) (I.hok.write mu he k heo new)
theorem Inv.weak {σ' : List (Option V)} (I : Inv X pins σ H s) (hl : σ'.length=σ.length) (w : ∀ (i : Nat) v,σ'[i]? = some (some v)→σ[i]? = some (some v)) : Inv X pins σ' H s:=
  ⟨I.ok,I.os,I.bare,I.base,let ⟨m,hn,hl'⟩:=I.loc; ⟨m,hn,fun i x v e1 e2 e3=>hl' i x v e1 (w i v e2) e3⟩,I.cell,I.free,I.freeC,I.pin,I.hok,hl.trans I.len⟩
theorem Inv.pins_of {pins' : List (Addr×Obj)} (I : Inv X pins σ H s) (h : ∀ p∈pins',s.heap.get? p.1=some p.2∧H p.1=none∧p.1≠X.env.locals∧p.1 ∉ X.fs∧∀ v,p.2.data≠.cell v) : Inv X pins' σ H s:=
  ⟨I.ok,I.os,I.bare,I.base,I.loc,I.cell,I.free,I.freeC,fun p hp=>(List.mem_append.mp hp).elim (fun z=>I.pin p (List.mem_append_left _ z)) (h p),I.hok,I.len⟩
theorem nodup_ix {N : List Str} (hN : N.Nodup) {i j : Nat} {x : Str} (a : N[i]? = some x) (b : N[j]? = some x) : i=j:=by
  obtain ⟨h1,e1⟩:=List.getElem?_eq_some_iff.mp a
  obtain ⟨h2,e2⟩:=List.getElem?_eq_some_iff.mp b
  exact (List.getElem_inj hN).mp (e1.trans e2.symm)
theorem store_ok2 {M : Model} {A : Around} {E : Value→Shared→Prop} {i : Nat} {x : Str} {v : V} {u : Value} {Q : Unit→Shared→Prop} (I : Inv X pins σ H s) (hN : X.N.Nodup) (hi : X.N[i]? = some x) (hx : Loc X.env.scope x) (r : RelV v u)
    (h : ∀ s',Inv X pins (σ.set i (some v)) H s'→(∃ a,Heap.SameBut a s.heap s'.heap∧(a=X.env.locals∨X.env.cells.lookup x=some a))→Q () s') (hf : X.fn x=true∨X.env.scope.names.lookup x=some .local:=by first | exact .inl rfl | exact .inr rfl | assumption) : wpAny M A (storeName X.env x u) Q E s:=by
  obtain ⟨m,hn,hl⟩:=id I.loc
  have hcls : (X.env.scope.kind == .class || (X.env.scope.kind == .module && X.env.locals != X.env.globals))=false:=by rw [I.ok.kind]; rfl
  have hiσ : i < σ.length:=by rw [I.len]; exact (List.getElem?_eq_some_iff.mp hi).1
  have cne:=I.cne
  have tracked : ∀ {a : Addr} {h' : Heap},(∃ o,s.heap.get? a=some o∧H a=none)→Heap.SameBut a s.heap h'→HOk X.prog X.w H h':=fun {a h'} ha hs b ob e=>by
    obtain ⟨_,_,hfree⟩:=ha
    refine (I.hok b ob e).stay (fun c w' hc q=>(hs.2 c ?_).trans q) (fun _ q=>q) fun _ _ q=>q
    rintro rfl
    rcases hc with rfl | hc
    · rw [hfree] at e; cases e
    · rw [hfree] at hc; cases hc
  rcases hx with hk | hk
  · refine wpAny_storeName_local hk hn (fun h' hn' hs=>?_) hcls
    obtain ⟨oL,_,_,hoL,_⟩:=id hn
    refine h _ ⟨I.ok,I.os,I.bare,⟨fun b o e n hb hx=>?_,fun b o e n hb hx=>?_,I.base.free,fun b o e hx=>?_,I.base.tups,I.base.frzs,I.base.tbls⟩,⟨_,hn',fun j y v' e1 e2 e3=>?_⟩,fun y c e=>?_,I.free,I.freeC,fun p hp=>?_,tracked ⟨oL,hoL,I.free⟩ hs,by simpa using I.len⟩ ⟨_,hs,.inl rfl⟩
    · exact (hs.2 b (Nat.ne_of_lt (Nat.lt_of_lt_of_le (Heap.lt_size e) I.ok.above))).trans (I.base.keep b o e n hb hx)
    · obtain ⟨sl,e1⟩:=I.base.slot b o e n hb hx
      exact ⟨sl,(hs.2 b (Nat.ne_of_lt (Nat.lt_of_lt_of_le (Heap.lt_size e) I.ok.above))).trans e1⟩
    · obtain ⟨o',e1⟩:=I.base.there b o e hx
      exact ⟨o',(hs.2 b (Nat.ne_of_lt (Nat.lt_of_lt_of_le (Heap.lt_size e) I.ok.above))).trans e1⟩
    · by_cases hj : j=i
      · subst hj
        rw [hi] at e1; cases e1
        rw [List.getElem?_set_self hiσ] at e2
        cases e2
        exact ⟨u,r,.inl ⟨hk,by simp⟩⟩
      · rw [List.getElem?_set_ne (Ne.symm hj)] at e2
        obtain ⟨u',r',q⟩:=hl j y v' e1 e2 e3
        refine ⟨u',r',?_⟩
        rcases q with ⟨k,e⟩ | ⟨k,c,e,z⟩
        · refine .inl ⟨k,?_⟩
          have : y≠x:=fun e=>hj (nodup_ix hN e1 (e ▸ hi))
          simp [this,e]
        · exact .inr ⟨k,c,e,z.sameBut hs (cne y c e)⟩
    · obtain ⟨w',z⟩:=I.cell y c e
      exact ⟨w',z.sameBut hs (cne y c e)⟩
    · obtain ⟨e,n,ne,nf,d⟩:=I.pin p hp
      exact ⟨(hs.2 p.1 ne).trans e,n,ne,nf,d⟩
  · have hfn : X.fn x=true:=by
      rcases hf with z | z
      · exact z
      · rw [z] at hk; cases hk
    obtain ⟨c,hc⟩:=I.ok.has x (.inl hk)
    obtain ⟨w',z⟩:=I.cell x c hc
    refine wpAny_storeName_cell I.ok.kind hk hc z (fun h' hc' hs=>?_)
    obtain ⟨oc,hoc,hocd⟩:=id z
    refine h { s with heap:=h' } ⟨I.ok,I.os,I.bare,⟨fun b o e n hb hx=>?_,fun b o e n hb hx=>?_,I.base.free,fun b o e hx=>?_,I.base.tups,I.base.frzs,I.base.tbls⟩,⟨m,hn.sameBut hs (Ne.symm (cne x c hc)),fun j y v' e1 e2 e3=>?_⟩,fun y c' e=>?_,I.free,I.freeC,fun p hp=>?_,tracked ⟨oc,hoc,I.freeC x c hc⟩ hs,by simpa using I.len⟩ ⟨c,hs,.inr hc⟩
    · exact (hs.2 b (Nat.ne_of_lt (Nat.lt_of_lt_of_le (Heap.lt_size e) (I.ok.cab x c hfn hc)))).trans (I.base.keep b o e n hb hx)
    · obtain ⟨sl,e1⟩:=I.base.slot b o e n hb hx
      exact ⟨sl,(hs.2 b (Nat.ne_of_lt (Nat.lt_of_lt_of_le (Heap.lt_size e) (I.ok.cab x c hfn hc)))).trans e1⟩
    · obtain ⟨o',e1⟩:=I.base.there b o e hx
      exact ⟨o',(hs.2 b (Nat.ne_of_lt (Nat.lt_of_lt_of_le (Heap.lt_size e) (I.ok.cab x c hfn hc)))).trans e1⟩
    · by_cases hj : j=i
      · subst hj
        rw [hi] at e1; cases e1
        rw [List.getElem?_set_self hiσ] at e2
        cases e2
        exact ⟨u,r,.inr ⟨.inl hk,c,hc,hc'⟩⟩
      · rw [List.getElem?_set_ne (Ne.symm hj)] at e2
        obtain ⟨u',r',q⟩:=hl j y v' e1 e2 e3
        refine ⟨u',r',?_⟩
        rcases q with q | ⟨k,c',e,z'⟩
        · exact .inl q
        · refine .inr ⟨k,c',e,z'.sameBut hs ?_⟩
          rintro rfl
          exact hj (nodup_ix hN e1 (I.ok.inj _ _ _ e hc ▸ hi))
    · by_cases hcc : c' = c
      · subst hcc; exact ⟨_,hc'⟩
      · obtain ⟨w2,z2⟩:=I.cell y c' e
        exact ⟨w2,z2.sameBut hs hcc⟩
    · obtain ⟨e,n,ne,nf,d⟩:=I.pin p hp
      refine ⟨(hs.2 p.1 ?_).trans e,n,ne,nf,d⟩
      intro q
      rw [q,hoc] at e
      have q' : oc=p.2:=Option.some.inj e
      exact d w' (by rw [← q']; exact hocd)
theorem store_ok {M : Model} {A : Around} {E : Value→Shared→Prop} {i : Nat} {x : Str} {v : V} {u : Value} {Q : Unit→Shared→Prop} (I : Inv X pins σ H s) (hN : X.N.Nodup) (hi : X.N[i]? = some x) (hx : Loc X.env.scope x) (r : RelV v u)
    (h : ∀ s',Inv X pins (σ.set i (some v)) H s'→Q () s') (hf : X.fn x=true∨X.env.scope.names.lookup x=some .local:=by first | exact .inl rfl | exact .inr rfl | assumption) : wpAny M A (storeName X.env x u) Q E s:=
  store_ok2 I hN hi hx r (fun s' I' _=>h s' I') hf
theorem Inv.call' {s' : Shared} {ch : List Addr} (I : Inv X pins σ H s) (ho : s'.os=s.os) (u : Un (frs X.stack) ch H H' s.heap s'.heap) (hok : HOk X.prog X.w H' s'.heap) (hg : AllBare s'.gens)
    (hch : ∀ b∈ch,(b∈X.ex∨X.s₀.heap.objs.size≤b)∧b≠X.env.locals∧(∀ x c,X.env.cells.lookup x=some c→c≠b)∧∀ p∈X.pn ++ pins,p.1≠b) : Inv X pins σ H' s':=by
  obtain ⟨h',g',d',t',o'⟩:=s'
  have e : o' = s.os:=ho
  subst e
  exact I.call (g':=g') (t':=t') (d':=d') u hok hg hch
end
abbrev XK:=Value→Option Addr→Hp→Prop
abbrev St:=List (Option V)
abbrev VK:=V→Hp→Prop
abbrev TE:=St→Hp→VK→Prop
abbrev TT:=St→Hp→(Bool→Hp→Prop)→Prop
abbrev TA:=St→Hp→(List V→Hp→Prop)→Prop
structure Ends where
  nx : St→Hp→Prop
  rt : VK
  bk : St→Hp→Prop:=fun _ _=>False
  ct : St→Hp→Prop:=fun _ _=>False
abbrev TS:=Ends→St→Hp→Prop
def EP (X : Cx) (pins : List (Addr×Obj)) (σ : St) (Q : VK) (u : Value) (s' : Shared) : Prop:=∃ v H',Inv X pins σ H' s'∧RelV v u∧Q v H'
def TP (X : Cx) (pins : List (Addr×Obj)) (σ : St) (Q : Bool→Hp→Prop) (b : Bool) (s' : Shared) : Prop:=∃ H',Inv X pins σ H' s'∧Q b H'
def AP (X : Cx) (pins : List (Addr×Obj)) (σ : St) (Q : List V→Hp→Prop) (us : List Value) (s' : Shared) : Prop:=∃ vs H',Inv X pins σ H' s'∧Vals vs us∧Q vs H'
def SP (X : Cx) (pins : List (Addr×Obj)) (D : Ends) (f : Flow) (s' : Shared) : Prop:=
  match f with
  | .next=>∃ σ' H',Inv X pins σ' H' s'∧D.nx σ' H'
  | .brk=>∃ σ' H',Inv X pins σ' H' s'∧D.bk σ' H'
  | .cont=>∃ σ' H',Inv X pins σ' H' s'∧D.ct σ' H'
  | .ret u=>∃ v σ' H',Inv X pins σ' H' s'∧RelV v u∧D.rt v H'
def PE (X : Cx) (e : Expr) (t : TE) : Prop:=
  ∀ (pins : List (Addr×Obj)) (s : Shared) (σ : St) (H : Hp) (Q : VK),Inv X pins σ H s→t σ H Q→wpAny (model X.prog X.w) X.A (eval e X.env) (EP X pins σ Q) X.xe s
def PT (X : Cx) (e : Expr) (t : TT) : Prop:=
  ∀ (pins : List (Addr×Obj)) (s : Shared) (σ : St) (H : Hp) (Q : Bool→Hp→Prop),Inv X pins σ H s→t σ H Q→wpAny (model X.prog X.w) X.A (isTrue e X.env (eval e X.env)) (TP X pins σ Q) X.xe s
def PW (X : Cx) (e : Expr) (t : TT) : Prop:=
  ∀ (whole : Sem Value) (pins : List (Addr×Obj)) (s : Shared) (σ : St) (H : Hp) (Q : Bool→Hp→Prop),Inv X pins σ H s→t σ H Q→wpAny (model X.prog X.w) X.A (isTrue e X.env whole) (TP X pins σ Q) X.xe s
theorem PW.pt {X : Cx} {e : Expr} {t : TT} (h : PW X e t) : PT X e t:=h _
def PA (X : Cx) (es : List Expr) (t : TA) : Prop:=
  ∀ (pos : Pos) (pins : List (Addr×Obj)) (s : Shared) (σ : St) (H : Hp) (Q : List V→Hp→Prop),Inv X pins σ H s→t σ H Q→wpAny (model X.prog X.w) X.A (spliced (backTo pos (starEach es X.env))) (AP X pins σ Q) X.xe s
def PS (X : Cx) (st : Stmt) (t : TS) : Prop:=
  ∀ (pins : List (Addr×Obj)) (s : Shared) (σ : St) (H : Hp) (D : Ends),Inv X pins σ H s→t D σ H→wpAny (model X.prog X.w) X.A (exec st X.env) (SP X pins D) X.xe s
def PSs (X : Cx) (st : List Stmt) (t : TS) : Prop:=
  ∀ (pins : List (Addr×Obj)) (s : Shared) (σ : St) (H : Hp) (D : Ends),Inv X pins σ H s→t D σ H→wpAny (model X.prog X.w) X.A (execs st X.env) (SP X pins D) X.xe s
theorem thn {α : Type} {t : Sem α} {Q Q' : α→Shared→Prop} {M : Model} {A : Around} {E : Value→Shared→Prop} {s : Shared} (h : wpAny M A t Q E s) (hQ : ∀ a s,Q a s→Q' a s) : wpAny M A t Q' E s:=wpAny_mono h hQ fun _ _ x=>x
end L2
namespace L2
open PySem PySem.Spec PyProof.Rows
section
variable {X : Cx}
def tVar (i : Nat) : TE:=fun σ H Q=>∃ v,σ[i]? = some (some v)∧Q v H
def tC (v : V) : TE:=fun _ H Q=>Q v H
theorem pe_var {i : Nat} {x : Str} {pos : Pos} (hN : X.N[i]? = some x) (hv : Vis X.env.scope x) (hd : (x == ("__debug__" : Str))=false:=by decide) (hcd : (x == ("__classdict__" : Str))=false:=by decide) : PE X (.Name x pos) (tVar i):=by
  intro pins s σ H Q I h
  obtain ⟨v,e,h⟩:=h
  obtain ⟨m,hn,hl⟩:=I.loc
  obtain ⟨u,r,l⟩:=hl i x v hN e hv
  have fin : EP X pins σ Q u s:=⟨v,H,I,r,h⟩
  rcases l with ⟨hk,hm⟩ | ⟨hk,c,hc,hcell⟩
  · exact wpAny_Name (wpAny_loadName_local I.ok.kind hk hn hm fin) hd
  · rcases hk with hk | hk
    · exact wpAny_Name (wpAny_loadName_cell I.ok.kind hk hc hcell fin) hd
    · exact wpAny_Name (wpAny_loadName_free I.ok.kind hk hc hcell fin hcd) hd
theorem pe_int {i j pos} : PE X (.Constant (.int i) j pos) (tC (.int i)):=fun _ _ _ H _ I h=>wpAny_Constant_int ⟨.int i,H,I.tok _,⟨_,rfl⟩,h⟩
theorem pe_bl {b j pos} : PE X (.Constant (.bool b) j pos) (tC (.bl b)):=fun _ _ _ H _ I h=>Constant_bool ⟨.bl b,H,I,rfl,h⟩
theorem pe_non {j pos} : PE X (.Constant .none j pos) (tC .non):=fun _ _ _ H _ I h=>Constant_none ⟨.non,H,I,rfl,h⟩
theorem pe_str {x j pos} : PE X (.Constant (.str x) j pos) (tC (.str x)):=fun _ _ _ H _ I h=>Calls.Constant_str ⟨.str x,H,I.tok _,⟨_,rfl⟩,h⟩
def Gl (X : Cx) (x : Str) : Prop:=X.env.kindOf x=some .globalImplicit
theorem ld_glob {E : Value→Shared→Prop} {pins : List (Addr×Obj)} {s : Shared} {σ : St} {H : Hp} {x : Str} {u : Value} {pos : Pos} {Q : Value→Shared→Prop} (I : Inv X pins σ H s) (hg : Gl X x) (hm : X.mg x=some u) (h : Q u s)
    (hd : (x == ("__debug__" : Str))=false:=by decide) : wpAny (model X.prog X.w) X.A (eval (.Name x pos) X.env) Q E s :=
  Calls.Name_function_global I.ok.kind hg (Calls.loadGlobal_global (by rw [I.ok.glob]; exact I.mod.glob.keeps I.bk) hm h) hd
theorem ld_blt {E : Value→Shared→Prop} {pins : List (Addr×Obj)} {s : Shared} {σ : St} {H : Hp} {x : Str} {u : Value} {pos : Pos} {Q : Value→Shared→Prop} (I : Inv X pins σ H s) (hg : Gl X x) (hm : X.mg x=none) (hv : bootBuiltins x=some u) (h : Q u s)
    (hn : x ≠ "__name__" := by decide) (hd : (x == ("__debug__" : Str))=false:=by decide) : wpAny (model X.prog X.w) X.A (eval (.Name x pos) X.env) Q E s:=by
  obtain ⟨mb,h1,h2⟩:=I.mod.blt
  exact Calls.Name_function_global I.ok.kind hg (Calls.loadGlobal_builtin (by rw [I.ok.glob]; exact I.mod.glob.keeps I.bk) hm (by rw [I.ok.blt]; exact h1.keeps I.bk) ((h2 x hn).trans hv) h) hd
theorem pe_glob {x : Str} {v : V} {u : Value} {pos : Pos} (hg : Gl X x) (hm : X.mg x=some u) (r : RelV v u) (hd : (x == ("__debug__" : Str))=false:=by decide) : PE X (.Name x pos) (tC v) :=
  fun _ _ _ H _ I h=>ld_glob I hg hm ⟨v,H,I,r,h⟩ hd
theorem pe_bltn {x : Str} {v : V} {u : Value} {pos : Pos} (hg : Gl X x) (hm : X.mg x=none) (hv : bootBuiltins x=some u) (r : RelV v u) (hn : x ≠ "__name__" := by decide) (hd : (x == ("__debug__" : Str))=false:=by decide) : PE X (.Name x pos) (tC v) :=
  fun _ _ _ H _ I h=>ld_blt I hg hm hv ⟨v,H,I,r,h⟩ hn hd
variable {a b : Expr} {ta tb : TE} {pos : Pos}
variable {tA tB' : TT} {rest : List Expr}
def tAnd (t u : TT) : TT:=fun σ H Q=>t σ H fun c H1=>if c=true then u σ H1 Q else Q false H1
def tOr (t u : TT) : TT:=fun σ H Q=>t σ H fun c H1=>if c=true then Q true H1 else u σ H1 Q
def tNot (t : TT) : TT:=fun σ H Q=>t σ H fun c H1=>Q (!c) H1
theorem pw_and1 (ha : PT X a tA) : PW X (.BoolOp .And [a] pos) tA:=by
  intro wh pins s σ H Q I h
  refine isTrue_and (thn (ha pins s σ H Q I h) fun c s1 e=>?_)
  cases c with
  | true=>exact isTrue_and_nil e
  | false=>exact e
theorem pw_or1 (ha : PT X a tA) : PW X (.BoolOp .Or [a] pos) tA:=by
  intro wh pins s σ H Q I h
  refine isTrue_or (thn (ha pins s σ H Q I h) fun c s1 e=>?_)
  cases c with
  | false=>exact isTrue_or_nil e
  | true=>exact e
theorem pw_and (ha : PT X a tA) (hb : PW X (.BoolOp .And (b :: rest) pos) tB') : PW X (.BoolOp .And (a :: b :: rest) pos) (tAnd tA tB'):=by
  intro wh pins s σ H Q I h
  refine isTrue_and (thn (ha pins s σ H _ I h) fun c s1 ⟨H1,I1,q1⟩=>?_)
  cases c with
  | true=>exact hb wh pins s1 σ H1 Q I1 q1
  | false=>exact ⟨H1,I1,q1⟩
theorem pw_or (ha : PT X a tA) (hb : PW X (.BoolOp .Or (b :: rest) pos) tB') : PW X (.BoolOp .Or (a :: b :: rest) pos) (tOr tA tB'):=by
  intro wh pins s σ H Q I h
  refine isTrue_or (thn (ha pins s σ H _ I h) fun c s1 ⟨H1,I1,q1⟩=>?_)
  cases c with
  | true=>exact ⟨H1,I1,q1⟩
  | false=>exact hb wh pins s1 σ H1 Q I1 q1
theorem pt_not (ha : PT X a tA) : PT X (.UnaryOp .Not a pos) (tNot tA):=by
  intro pins s σ H Q I h
  exact isTrue_not (ha pins s σ H (fun c H1=>Q (!c) H1) I h)
def tAndV (ta tb : TE) : TE:=fun σ H Q=>ta σ H fun x H1=>∃ c,x = .bl c∧if c=true then tb σ H1 Q else Q (.bl false) H1
theorem pe_one {op} {t : TE} (h : PE X a t) : PE X (.BoolOp op [a] pos) t:=fun pins s σ H Q I hw=>BoolOp_one (h pins s σ H Q I hw)
theorem pe_and (ha : PE X a ta) (hb : PE X (.BoolOp .And (b :: rest) pos) tb) : PE X (.BoolOp .And (a :: b :: rest) pos) (tAndV ta tb):=by
  intro pins s σ H Q I h
  refine BoolOp_and (thn (ha pins s σ H _ I h) fun v s1 ⟨x,H1,I1,r1,q1⟩=>?_)
  obtain ⟨c,rfl,q1⟩:=q1
  cases r1
  refine wpAny_truthy_bool ?_
  cases c with
  | true=>exact hb pins s1 σ H1 Q I1 q1
  | false=>exact ⟨.bl false,H1,I1,rfl,q1⟩
def tIf (t : TT) (ta tb : TE) : TE:=fun σ H Q=>t σ H fun c H1=>if c=true then ta σ H1 Q else tb σ H1 Q
theorem pe_ifExp {c : Expr} (hc : PT X c tA) (ha : PE X a ta) (hb : PE X b tb) : PE X (.IfExp c a b pos) (tIf tA ta tb):=by
  intro pins s σ H Q I h
  refine wpAny_IfExp (thn (hc pins s σ H _ I h) fun d s1 ⟨H1,I1,q1⟩=>?_)
  cases d with
  | true=>exact ha pins s1 σ H1 Q I1 q1
  | false=>exact hb pins s1 σ H1 Q I1 q1
end
end L2
namespace L2
open PySem PySem.Spec PyProof.Rows
def SqL (K : PySem.W.Frag) (H : Hp) (a : Addr) (xs : List V) : Prop:=
  Rd H a (.lst xs)∨
    ∃ (o : Obj) (its : Array Value) (n : Nat),K.lookup a=some o∧o.cls = .type "list" ∧ o.dict=none∧o.data = .seq its n∧its.size≤sizeLine∧Vals xs its.toList
def SqT (K : PySem.W.Frag) (H : Hp) (a : Addr) (xs : List V) : Prop:=
  Rd H a (.tup xs)∨
    ∃ (o : Obj) (its : Array Value) (n : Nat),K.lookup a=some o∧o.cls = .type "tuple" ∧ o.data = .seq its n∧its.size≤sizeLine∧Vals xs its.toList
def absV : Value→Option V
  | .none=>some .non
  | .bool b=>some (.bl b)
  | .int i _=>some (.int i)
  | .str x _=>some (.str x)
  | .bytes b _=>some (.byt b)
  | .float b _=>some (.flt b)
  | .ref a=>some (.ref a)
  | .type n=>some (.ty n)
  | _=>none
theorem RelV.abs {x : V} {u : Value} (r : RelV x u) : absV u=some x:=by
  cases x with
  | non=>cases r; rfl
  | bl _=>cases r; rfl
  | int _=>obtain ⟨t,rfl⟩:=r; rfl
  | str _=>obtain ⟨t,rfl⟩:=r; rfl
  | byt _=>obtain ⟨t,rfl⟩:=r; rfl
  | flt _=>obtain ⟨t,rfl⟩:=r; rfl
  | ref _=>cases r; rfl
  | ty _=>cases r; rfl
theorem RelV.inj {x y : V} {u : Value} (r : RelV x u) (q : RelV y u) : x=y:=Option.some.inj (r.abs.symm.trans q.abs)
theorem Vals.inj : ∀ {xs ys : List V} {us : List Value},Vals xs us→Vals ys us→xs=ys
  | _,_,_,.nil,.nil=>rfl
  | _,_,_,.cons r t,.cons r' t'=>by rw [r.inj r',Vals.inj t t']
section
variable {X : Cx} {pins : List (Addr×Obj)} {σ : St} {H : Hp} {s : Shared} {a : Addr} {xs ys : List V}
theorem SqL.of {K : PySem.W.Frag} (h : H a=some (.lst xs)) : SqL K H a xs:=.inl (.inl h)
theorem SqT.of {K : PySem.W.Frag} (h : H a=some (.tup xs)) : SqT K H a xs:=.inl (.inl h)
theorem Inv.list (I : Inv X pins σ H s) (h : SqL X.K H a xs) : ∃ its : List Value,Vals xs its∧PlainL s.heap a its.toArray∧xs.length≤sizeLine:=by
  rcases h with h | ⟨o,its,n,hk,hc,hd,hs,hz,r⟩
  · obtain ⟨z,its,n,r,e⟩:=h.ok I.hok
    exact ⟨its,r,⟨_,n,e,rfl,rfl,rfl⟩,z⟩
  · refine ⟨its.toList,r,⟨o,n,I.kIn a o hk,hc,hd,by simpa using hs⟩,?_⟩
    have e:=r.length
    simp only [Array.length_toList] at e
    omega
theorem Inv.tuple (I : Inv X pins σ H s) (h : SqT X.K H a xs) : ∃ its : List Value,Vals xs its∧IsTup s.heap a its.toArray∧xs.length≤sizeLine:=by
  rcases h with h | ⟨o,its,n,hk,hc,hs,hz,r⟩
  · obtain ⟨z,its,r,p⟩:=h.ok I.hok
    exact ⟨its,r,p,z⟩
  · refine ⟨its.toList,r,⟨o,I.kIn a o hk,hc,n,by simpa using hs⟩,?_⟩
    have e:=r.length
    simp only [Array.length_toList] at e
    omega
theorem Inv.list_inj (I : Inv X pins σ H s) (h : SqL X.K H a xs) (h' : SqL X.K H a ys) : xs=ys:=by
  obtain ⟨its,r,⟨o,n,e,_,_,d⟩,_⟩:=I.list h
  obtain ⟨its',r',⟨o',n',e',_,_,d'⟩,_⟩:=I.list h'
  rw [e] at e'; cases e'
  rw [d] at d'
  injection d' with d1 _
  have : its=its':=by simpa using congrArg Array.toList d1
  subst this
  exact r.inj r'
theorem Inv.tuple_inj (I : Inv X pins σ H s) (h : SqT X.K H a xs) (h' : SqT X.K H a ys) : xs=ys:=by
  obtain ⟨its,r,⟨o,e,_,n,d⟩,_⟩:=I.tuple h
  obtain ⟨its',r',⟨o',e',_,n',d'⟩,_⟩:=I.tuple h'
  rw [e] at e'; cases e'
  rw [d] at d'
  injection d' with d1 _
  have : its=its':=by simpa using congrArg Array.toList d1
  subst this
  exact r.inj r'
end
abbrev Cx.wish (X : Cx) (E : Value→Shared→Prop) : Cx:={ X with xe:=E }
abbrev Cx.nox (X : Cx) : Cx:=X.wish fun _ _=>False
theorem Cx.Ok.wish {X : Cx} (ok : X.Ok) (E : Value→Shared→Prop) : (X.wish E).Ok:=
  ⟨ok.mod,ok.kind,ok.glob,ok.blt,ok.above,ok.inj,ok.has,ok.cab,ok.hd,ok.frames,ok.stk,ok.exf,ok.bs,ok.bsz,ok.noex,ok.exfs,ok.funs,ok.frf⟩
theorem Cx.Ok.unwish {X : Cx} {E : Value→Shared→Prop} (ok : (X.wish E).Ok) : X.Ok:=
  ⟨ok.mod,ok.kind,ok.glob,ok.blt,ok.above,ok.inj,ok.has,ok.cab,ok.hd,ok.frames,ok.stk,ok.exf,ok.bs,ok.bsz,ok.noex,ok.exfs,ok.funs,ok.frf⟩
section
variable {X : Cx} {pins : List (Addr×Obj)} {σ : St} {H : Hp} {s : Shared} {E : Value→Shared→Prop}
theorem Inv.wish (I : Inv X pins σ H s) (E : Value→Shared→Prop) : Inv (X.wish E) pins σ H s:=⟨I.ok.wish E,I.os,I.bare,I.base,I.loc,I.cell,I.free,I.freeC,I.pin,I.hok,I.len⟩
theorem Inv.unwish (I : Inv (X.wish E) pins σ H s) : Inv X pins σ H s:=⟨I.ok.unwish,I.os,I.bare,I.base,I.loc,I.cell,I.free,I.freeC,I.pin,I.hok,I.len⟩
theorem SP.unwish {D : Ends} {f : Flow} {s' : Shared} (h : SP (X.wish E) pins D f s') : SP X pins D f s':=by
  cases f with
  | next=>obtain ⟨σ',H',I,q⟩:=h; exact ⟨σ',H',I.unwish,q⟩
  | brk=>obtain ⟨σ',H',I,q⟩:=h; exact ⟨σ',H',I.unwish,q⟩
  | cont=>obtain ⟨σ',H',I,q⟩:=h; exact ⟨σ',H',I.unwish,q⟩
  | ret u=>obtain ⟨v,σ',H',I,r,q⟩:=h; exact ⟨v,σ',H',I.unwish,r,q⟩
theorem PSs.nox {st : List Stmt} {t : TS} (h : PSs X.nox st t) : PSs X st t:=fun pins s σ H D I hw=>
  wpAny_mono (h pins s σ H D (I.wish _) hw) (fun _ _ q=>q.unwish) fun _ _ z=>False.elim z
end
section
variable {X : Cx} {st : Stmt} {rest : List Stmt} {t u : TS} {e : Expr} {te : TE} {pos : Pos}
def tNext : TS:=fun D σ H=>D.nx σ H
def tSeq (t u : TS) : TS:=fun D σ H=>t { D with nx:=u D } σ H
theorem pss_nil : PSs X [] tNext:=fun _ _ σ H _ I h=>wpAny_execs_nil ⟨σ,H,I,h⟩
theorem pss_cons (h1 : PS X st t) (h2 : PSs X rest u) : PSs X (st :: rest) (tSeq t u):=by
  intro pins s σ H D I h
  refine wpAny_execs_cons (thn (h1 pins s σ H { D with nx:=u D } I h) fun f s1 q=>?_)
  cases f with
  | next=>
    obtain ⟨σ',H',I',q⟩:=q
    exact h2 pins s1 σ' H' D I' q
  | ret v=>exact q
  | brk=>exact q
  | cont=>exact q
theorem pss_one (h1 : PS X st t) : PSs X [st] t:=by
  intro pins s σ H D I h
  refine wpAny_execs_cons (thn (h1 pins s σ H D I h) fun f s1 q=>?_)
  cases f with
  | next=>exact wpAny_execs_nil q
  | ret v=>exact q
  | brk=>exact q
  | cont=>exact q
theorem Inv.quiet {pins : List (Addr×Obj)} {σ : St} {H : Hp} {s : Shared} (I : Inv X pins σ H s) : interactive X.env=false:=by simp [interactive,I.ok.kind]
def tDrop (te : TE) : TS:=fun D σ H=>te σ H fun _ H1=>D.nx σ H1
theorem ps_expr (he : PE X e te) (hs : swapsWith e none pos.line X.env=pure false:=by rfl) : PS X (.Expr e pos) (tDrop te):=by
  intro pins s σ H D I h
  exact wpAny_Expr_any (thn (he pins s σ H _ I h) fun v s1 ⟨x,H1,I1,r1,q1⟩=>⟨σ,H1,I1,q1⟩) I.quiet hs
def tRet (te : TE) : TS:=fun D σ H=>te σ H D.rt
theorem ps_ret (he : PE X e te) : PS X (.Return (some e) pos) (tRet te):=by
  intro pins s σ H D I h
  exact wpAny_Return_some (thn (he pins s σ H _ I h) fun v s1 ⟨x,H1,I1,r1,q1⟩=>⟨x,σ,H1,I1,r1,q1⟩)
def tIfS (c : TT) (t u : TS) : TS:=fun D σ H=>c σ H fun b H1=>if b=true then t D σ H1 else u D σ H1
theorem ps_if {c : Expr} {a b : List Stmt} {tc : TT} (hc : PT X c tc) (ha : PSs X a t) (hb : PSs X b u) : PS X (.If c a b pos) (tIfS tc t u):=by
  intro pins s σ H D I h
  refine wpAny_If (thn (hc pins s σ H _ I h) fun d s1 ⟨H1,I1,q1⟩=>?_)
  cases d with
  | true=>exact ha pins s1 σ H1 D I1 q1
  | false=>exact hb pins s1 σ H1 D I1 q1
end
abbrev TG:=V→St→Hp→(St→Hp→Prop)→Prop
abbrev TGs:=List V→St→Hp→(St→Hp→Prop)→Prop
def PG (X : Cx) (target : Expr) (t : TG) : Prop:=
  ∀ (pins : List (Addr×Obj)) (s : Shared) (σ : St) (H : Hp) (v : V) (u : Value) (Q : St→Hp→Prop),Inv X pins σ H s→RelV v u→t v σ H Q→
    wpAny (model X.prog X.w) X.A (assign target X.env u) (fun _ s'=>∃ σ' H',Inv X pins σ' H' s'∧Q σ' H') X.xe s
def PGs (X : Cx) (ts : List Expr) (t : TGs) : Prop:=
  ∀ (pins : List (Addr×Obj)) (s : Shared) (σ : St) (H : Hp) (vs : List V) (us : List Value) (Q : St→Hp→Prop),Inv X pins σ H s→Vals vs us→t vs σ H Q→
    wpAny (model X.prog X.w) X.A (assignInOrder ((assignEach ts X.env).map (·.2)) us) (fun _ s'=>∃ σ' H',Inv X pins σ' H' s'∧Q σ' H') X.xe s
abbrev TSet:=V→V→V→Hp→(Hp→Prop)→Prop
def PSet (X : Cx) (t : TSet) : Prop:=
  ∀ (pins : List (Addr×Obj)) (s : Shared) (σ : St) (H : Hp) (o i v : V) (ov iv u : Value) (Q : Hp→Prop),Inv X pins σ H s→RelV o ov→RelV i iv→RelV v u→t o i v H Q→
    wpAny (model X.prog X.w) X.A (setItem ov iv u) (fun _ s'=>∃ H',Inv X pins σ H' s'∧Q H') X.xe s
section
variable {X : Cx} {pos : Pos}
def gName (i : Nat) : TG:=fun v σ H Q=>Q (σ.set i (some v)) H
theorem pg_name {i : Nat} {x : Str} (hN : X.N.Nodup) (hi : X.N[i]? = some x) (hx : Loc X.env.scope x) (hf : X.fn x=true∨X.env.scope.names.lookup x=some .local:=by first | exact .inl rfl | exact .inr rfl | assumption) : PG X (.Name x pos) (gName i):=by
  intro pins s σ H v u Q I r h
  exact wpAny_assign_Name (store_ok I hN hi hx r (fun s' I'=>⟨_,H,I',h⟩) hf)
def gNil : TGs:=fun vs σ H Q=>vs=[]∧Q σ H
def gCons (t : TG) (u : TGs) : TGs:=fun vs σ H Q=>∃ v r,vs=v :: r∧t v σ H fun σ' H'=>u r σ' H' Q
theorem pgs_nil : PGs X [] gNil:=by
  intro pins s σ H vs us Q I r h
  obtain ⟨e,h⟩:=h
  subst e
  cases r
  exact assignInOrder_nil ⟨σ,H,I,h⟩
theorem pgs_cons {e : Expr} {es : List Expr} {t : TG} {u : TGs} (h1 : PG X e t) (h2 : PGs X es u)
    (hs : (assignEach (e :: es) X.env).map (·.2)=assign e X.env :: (assignEach es X.env).map (·.2):=by rfl) : PGs X (e :: es) (gCons t u):=by
  intro pins s σ H vs us Q I r h
  obtain ⟨v,vr,e1,h⟩:=h
  subst e1
  cases r with
  | cons r rr=>
    rw [hs]
    refine assignInOrder_cons (thn (h1 pins s σ H _ _ _ I r h) fun _ s1 ⟨σ1,H1,I1,q1⟩=>?_)
    exact h2 pins s1 σ1 H1 _ _ Q I1 rr q1
def gTup (K : PySem.W.Frag) (n : Nat) (t : TGs) : TG:=fun v σ H Q=>∃ a xs,v = .ref a∧SqT K H a xs∧xs.length=n∧t xs σ H Q
theorem pg_tup {es : List Expr} {k : Nat} {t : TGs} {n : Nat} (hc : X.calm=true) (h : PGs X es t)
    (hn : (assignEach es X.env).length=n:=by rfl) (hst : (assignEach es X.env).findIdx? (·.1)=none:=by rfl) : PG X (.Tuple es k pos) (gTup X.K n t):=by
  intro pins s σ H v u Q I r hw
  obtain ⟨a,xs,e1,hq,hl,hw⟩:=hw
  subst e1
  cases r
  obtain ⟨its,rv,ht,hz⟩:=I.tuple hq
  refine assign_Tuple_tuple (I.ok.hd hc) ht (by simp [hn,← hl,rv.length]) hst fun h' hx=>?_
  have I1 : Inv X pins σ H { s with heap:=h' }:=I.kept (t':=s.toks) fun b o e=>hx b o (Nat.ne_of_lt (Heap.lt_size e)) e
  exact h pins _ σ H xs _ Q I1 (by simpa using rv) hw
def gSub (to ti : TE) (t : TSet) : TG:=fun v σ H Q=>to σ H fun o H1=>ti σ H1 fun i H2=>t o i v H2 fun H3=>Q σ H3
theorem pg_sub {o i : Expr} {to ti : TE} {t : TSet} (ho : PE X o to) (hi : PE X i ti) (hs : PSet X t)
    (ha : ∀ v,assign (.Subscript o i pos) X.env v=(do
      let ov ← holding [v] (eval o X.env)
      let iv ← holding [v,ov] (eval i X.env)
      standAt pos
      holding [v,ov,iv] (setItem ov iv v)
      release [v,ov,iv] []):=by intro _; rfl) : PG X (.Subscript o i pos) (gSub to ti t):=by
  intro pins s σ H v u Q I r h
  rw [ha]
  refine wpAny_bind (wpAny_holding (thn (ho pins s σ H _ I h) fun ov s1 ⟨x,H1,I1,r1,q1⟩=>?_))
  refine wpAny_bind (wpAny_holding (thn (hi pins s1 σ H1 _ I1 q1) fun iv s2 ⟨y,H2,I2,r2,q2⟩=>?_))
  refine wpAny_bind (wpAny_standAt (wpAny_bind (wpAny_holding (thn (hs pins s2 σ H2 x y v ov iv u _ I2 r1 r2 r q2) fun _ s3 ⟨H3,I3,q3⟩=>?_))))
  exact wpAny_release ⟨σ,H3,I3,q3⟩
def tAsg (te : TE) (g : TG) : TS:=fun D σ H=>te σ H fun x H1=>g x σ H1 D.nx
theorem ps_asg {tg e : Expr} {te : TE} {g : TG} (he : PE X e te) (hg : PG X tg g) (hs : swapsWithSole [tg] e pos.line X.env=pure false:=by rfl) (hw : swappedStores [tg] e X.env=pure none:=by rfl)
    (h1 : (assignEach [tg] X.env).map (·.2)=[assign tg X.env]:=by rfl) : PS X (.Assign [tg] e pos) (tAsg te g):=by
  intro pins s σ H D I h
  refine wpAny_Assign_stores (thn (he pins s σ H _ I h) fun v s1 ⟨x,H1,I1,r1,q1⟩=>?_) hs hw
  rw [h1]
  exact thn (hg pins s1 σ H1 x v _ I1 r1 q1) fun _ s2 q=>q
theorem ps_set {i : Nat} {x : Str} {e : Expr} {te : TE} {pos' : Pos} (hN : X.N.Nodup) (hi : X.N[i]? = some x) (hx : Loc X.env.scope x) (he : PE X e te) (hs : swapsWith e (some (.Name x pos')) pos.line X.env=pure false:=by rfl) (hf : X.fn x=true∨X.env.scope.names.lookup x=some .local:=by first | exact .inl rfl | exact .inr rfl | assumption) :
    PS X (.Assign [.Name x pos'] e pos) (tAsg te (gName i)):=by
  intro pins s σ H D I h
  refine wpAny_Assign_Name (thn (he pins s σ H _ I h) fun v s1 ⟨y,H1,I1,r1,q1⟩=>?_) hs
  exact store_ok I1 hN hi hx r1 (fun s2 I2=>⟨_,H1,I2,q1⟩) hf
end
section
variable {X : Cx} {pos : Pos}
def tWhile (c : TT) (tb : TS) : TS:=fun D σ H=>∃ W : Nat→St→Hp→Prop,(∃ m,W m σ H)∧∀ m σ H,W m σ H→
  c σ H fun b H1=>if b=true then ∃ N : St→Hp→Prop,(∀ σ' H',N σ' H'→∃ m',m' < m∧W m' σ' H')∧tb { D with nx:=N,ct:=N,bk:=D.nx } σ H1 else D.nx σ H1
theorem ps_while {c : Expr} {body : List Stmt} {tc : TT} {tb : TS} (hp : PassesOwn (model X.prog X.w) X.A X.env X.xe) (hc : PT X c tc) (hb : PSs X body tb) : PS X (.While c body [] pos) (tWhile tc tb):=by
  intro pins s σ H D I h
  obtain ⟨W,⟨m0,w0⟩,turn⟩:=h
  refine wpAny_While (codeAny_whileLoop (fun n s'=>∃ σ' H',Inv X pins σ' H' s'∧W n σ' H') ?_ m0 ⟨σ,H,I,w0⟩)
  rintro n s1 ⟨σ1,H1,I1,w1⟩
  refine wpAny_passesOwn hp (thn (hc pins s1 σ1 H1 _ I1 (turn n σ1 H1 w1)) fun b s2 ⟨H2,I2,q2⟩=>?_)
  cases b with
  | true=>
    obtain ⟨N,hN,q2⟩:=q2
    rw [if_pos rfl]
    refine wpAny_passesOwn hp (thn (hb pins s2 σ1 H2 _ I2 q2) fun f s3 q3=>?_)
    cases f with
    | next=>
      obtain ⟨σ3,H3,I3,n3⟩:=q3
      obtain ⟨m',hm,w3⟩:=hN σ3 H3 n3
      exact ⟨m',hm,σ3,H3,I3,w3⟩
    | cont=>
      obtain ⟨σ3,H3,I3,n3⟩:=q3
      obtain ⟨m',hm,w3⟩:=hN σ3 H3 n3
      exact ⟨m',hm,σ3,H3,I3,w3⟩
    | brk=>exact q3
    | ret v=>exact q3
  | false=>
    rw [if_neg Bool.false_ne_true]
    exact wpAny_execs_nil ⟨σ1,H2,I2,q2⟩
end
structure It where
  go : Nat→Hp→Prop
  yld : Nat→Hp→V→Hp→Prop
  stop : Nat→Hp→Prop
def FpOk (X : Cx) (pins : List (Addr×Obj)) (H : Hp) (b : Addr) : Prop:=
  H b=none∧b≠X.env.locals∧b ∉ X.fs∧(b∈X.ex∨X.s₀.heap.objs.size≤b)∧(∀ x c,X.env.cells.lookup x=some c→c≠b)∧∀ p∈X.pn ++ pins,p.1≠b
theorem Inv.fpOk {X : Cx} {pins : List (Addr×Obj)} {σ : St} {H H' : Hp} {s : Shared} {b : Addr} (I : Inv X pins σ H s) (hb : s.heap.objs.size≤b) (hn : H' b=none) : FpOk X pins H' b:=by
  refine ⟨hn,Nat.ne_of_gt (Nat.lt_of_lt_of_le I.lt hb),I.nofs hb,.inr (Nat.le_trans I.sz hb),fun x c e z=>?_,fun p hp z=>?_⟩
  · obtain ⟨v,q⟩:=I.cell x c e
    exact absurd (Nat.lt_of_lt_of_le q.lt (by rw [z]; exact hb)) (Nat.lt_irrefl _)
  · exact absurd (Nat.lt_of_lt_of_le (Heap.lt_size (I.pin p hp).1) (by rw [z]; exact hb)) (Nat.lt_irrefl _)
structure Turn (P : Program) (w : World) (K : PySem.W.Frag) (tg : Expr) (J : It) (fp : List Addr) (it : Addr) (tn : Nat→Heap→Prop) : Prop where
  mem : it∈fp
  obj : ∀ i h,tn i h→∀ b∈fp,∃ o,h.get? b=some o∧∀ v,o.data≠.cell v
  keep : ∀ i h h',tn i h→(∀ b∈fp,∀ o,h.get? b=some o→h'.get? b=some o)→tn i h'
  item : ∀ (X : Cx),X.prog=P→X.w=w→X.K=K→X.calm=true→∀ (i : Nat) (pins : List (Addr×Obj)) (s : Shared) (σ : St) (H : Hp) (E : Value→Shared→Prop),Inv X pins σ H s→(∀ b∈fp,FpOk X pins H b)→tn i s.heap→J.go i H→
    wpAny (model P w) X.A (pyNext (.ref it)) (fun r s1=>∃ u,r=some u∧
      wpAny (model P w) X.A (letOwnedTupleGo tg (.ref it) u) (fun _ s2=>∃ x H',Inv X pins σ H' s2∧RelV x u∧J.yld i H x H'∧tn (i + 1) s2.heap∧∀ b∈fp,H' b=none) E s1) E s
  done : ∀ (X : Cx),X.prog=P→X.w=w→X.K=K→X.calm=true→∀ (i : Nat) (pins : List (Addr×Obj)) (s : Shared) (σ : St) (H : Hp) (E : Value→Shared→Prop),Inv X pins σ H s→(∀ b∈fp,FpOk X pins H b)→tn i s.heap→J.stop i H→
    wpAny (model P w) X.A (pyNext (.ref it)) (fun r s1=>r=none∧Inv X pins σ H s1) E s
  self : ∀ (A : Around) (i : Nat) (s : Shared) (Q : Value→Shared→Prop) (E : Value→Shared→Prop),tn i s.heap→Q (.ref it) s→wpAny (model P w) A (pyIter (.ref it)) Q E s
abbrev TI:=St→Hp→(It→Hp→Prop)→Prop
def PIE (X : Cx) (pins : List (Addr×Obj)) (σ : St) (tg : Expr) (R : It→Hp→Prop) (itv : Value) (s2 : Shared) : Prop:=
  ∃ (it : Addr) (fp : List Addr) (tn : Nat→Heap→Prop) (J : It) (H' : Hp),itv = .ref it∧Inv X pins σ H' s2∧Turn X.prog X.w X.K tg J fp it tn∧tn 0 s2.heap∧(∀ b∈fp,FpOk X pins H' b)∧R J H'
def PI (X : Cx) (tg iter : Expr) (wi : TI) : Prop:=
  ∀ (pins : List (Addr×Obj)) (s : Shared) (σ : St) (H : Hp) (R : It→Hp→Prop),Inv X pins σ H s→wi σ H R→
    wpAny (model X.prog X.w) X.A (eval iter X.env) (fun v s1=>wpAny (model X.prog X.w) X.A (pyIter v) (PIE X pins σ tg R) X.xe s1) X.xe s
theorem go_of {M : Model} {A : Around} {E : Value→Shared→Prop} {s : Shared} {tg : Expr} {it : Addr} {u : Value} {o : Obj} {n : String} {vs : Array Value} {Q : Unit→Shared→Prop} (ho : s.heap.get? it=some o) (hc : o.cls = .type n) (hd : o.data = .fields vs)
    (hn : ["enumerate","zip","dict_itemiterator","dict_reverseitemiterator","odict_iterator","itertools.zip_longest","itertools.pairwise"].contains n=false) (hQ : Q () s) : wpAny M A (letOwnedTupleGo tg (.ref it) u) Q E s:=by
  unfold letOwnedTupleGo
  cases tg <;> first
    | exact wpAny_pure hQ
    | (cases u <;> first
        | exact wpAny_pure hQ
        | (refine wpAny_bind (wpAny_load ho ?_)
           rw [hc,hd]
           show wpAny M A (if (["enumerate","zip","dict_itemiterator","dict_reverseitemiterator","odict_iterator","itertools.zip_longest","itertools.pairwise"].contains n && vs[0]? == some (rawInt _))=true then _ else _) Q E s
           rw [if_neg (by intro h; rw [hn,Bool.false_and] at h; cases h)]
           exact wpAny_pure hQ))
def Itl (K : PySem.W.Frag) (a : Addr) : It:=
  ⟨fun i H=>∃ xs x,SqL K H a xs∧xs[i]? = some x,fun i H x H'=>H' = H∧∀ xs,SqL K H a xs→xs[i]? = some x,fun i H=>∃ xs,SqL K H a xs∧xs.length≤i⟩
def Itr (lo : Int) (n : Nat) : It:=⟨fun i _=>i < n,fun i H x H'=>H' = H∧x = .int (lo + i),fun i _=>n≤i⟩
theorem turn_list {P : Program} {w : World} {K : PySem.W.Frag} {tg : Expr} (a it : Addr) : Turn P w K tg (Itl K a) [it] it (fun i h=>h.IsListIter it a i) where
  mem:=by simp
  obj:=fun i h st b hb=>by
    have e : b=it:=by simpa using hb
    subst e
    obtain ⟨o,e,c,d⟩:=st
    exact ⟨o,e,fun v z=>by rw [d] at z; cases z⟩
  keep:=fun i h h' st k=>st.at fun o e=>k it (by simp) o e
  item:=by
    intro X hP hw hK hc i pins s σ H E I hf st hg
    subst hP hw hK
    obtain ⟨xs,x,hq,hx⟩:=hg
    obtain ⟨its,rv,p,hz⟩:=I.list hq
    obtain ⟨u,hu,ru⟩:=rv.get hx
    obtain ⟨f0,f1,f2,f3,f4,f5⟩:=hf it (by simp)
    refine wpAny_pyNext_list_item st p.isList (x:=u) (by simpa using hu) fun h' st' sb=>?_
    have I1 : Inv X pins σ H { s with heap:=h' }:=I.turned (t':=s.toks) (fun b o hb e=>(sb.2 b hb).trans e) f0 f1 f3 f4 f5
    obtain ⟨o,e,c,d⟩:=id st'
    exact ⟨u,rfl,go_of (s:={ s with heap:=h' }) e c d (by decide) ⟨x,H,I1,ru,⟨rfl,fun ys hy=>by rw [I.list_inj hy hq]; exact hx⟩,st',fun b hb=>(hf b hb).1⟩⟩
  done:=by
    intro X hP hw hK hc i pins s σ H E I hf st hg
    subst hP hw hK
    obtain ⟨xs,hq,hx⟩:=hg
    obtain ⟨its,rv,p,hz⟩:=I.list hq
    obtain ⟨f0,f1,f2,f3,f4,f5⟩:=hf it (by simp)
    have hl:=rv.length
    exact wpAny_pyNext_list_end (I.ok.hd hc) st p.isList (by simp; omega) fun h' eb=>⟨rfl,I.turned (t':=s.toks) (fun b o hb e=>eb b o hb e) f0 f1 f3 f4 f5⟩
  self:=fun _ _ _ _ _ st h=>wpAny_pyIter_listiter st h
theorem turn_range {P : Program} {w : World} {K : PySem.W.Frag} {tg : Expr} (it : Addr) (lo : Int) (n : Nat) : Turn P w K tg (Itr lo n) [it] it (fun i h=>IsRangeIter h it (lo + (i : Nat) * 1) ((n : Int) - (i : Nat)) 1) where
  mem:=by simp
  obj:=fun i h st b hb=>by
    have e : b=it:=by simpa using hb
    subst e
    exact ⟨_,st,fun v z=>by
      have z' : Data.fields _=Data.cell v:=z
      cases z'⟩
  keep:=fun i h h' st k=>k it (by simp) _ st
  item:=by
    intro X hP hw hK hc i pins s σ H E I hf st hg
    subst hP hw hK
    obtain ⟨f0,f1,f2,f3,f4,f5⟩:=hf it (by simp)
    have W:=Walks.range (prog:=X.prog) (w:=X.w) (I.ok.hd hc) it lo 1 n
    refine W.item i s _ _ hg st fun v h' tk hv st' kk=>?_
    obtain ⟨t,rfl⟩:=hv
    have I1 : Inv X pins σ H { s with heap:=h',toks:=tk }:=I.turned (fun b o hb e=>kk b o (by simpa using hb) e) f0 f1 f3 f4 f5
    refine ⟨_,rfl,go_of (s:={ s with heap:=h',toks:=tk }) (n := "range_iterator") st' rfl rfl (by decide) ⟨.int (lo + i),H,I1,⟨t,?_⟩,⟨rfl,rfl⟩,st',fun b hb=>(hf b hb).1⟩⟩
    rw [Int.mul_one]
  done:=by
    intro X hP hw hK hc i pins s σ H E I hf st hg
    subst hP hw hK
    obtain ⟨f0,f1,f2,f3,f4,f5⟩:=hf it (by simp)
    exact wpAny_pyNext_range_end (I.ok.hd hc) st (by have : n≤i:=hg; omega) fun h' eb=>⟨rfl,I.turned (t':=s.toks) (fun b o hb e=>eb b o hb e) f0 f1 f3 f4 f5⟩
  self:=fun _ _ _ _ _ st h=>wpAny_pyIter_rangeiter st h
end L2
namespace L2
open PySem PySem.Spec PyProof.Rows
section
variable {X : Cx} {tg : Expr}
def iList (K : PySem.W.Frag) (tl : TE) : TI:=fun σ H R=>tl σ H fun x H1=>∃ a,x = .ref a∧(∃ xs,SqL K H1 a xs)∧R (Itl K a) H1
theorem pi_list {l : Expr} {tl : TE} (hl : PE X l tl) : PI X tg l (iList X.K tl):=by
  intro pins s σ H R I h
  refine thn (hl pins s σ H _ I h) fun v s1 ⟨x,H1,I1,r1,q1⟩=>?_
  obtain ⟨a,e,⟨xs,hq⟩,q⟩:=q1
  subst e
  cases r1
  obtain ⟨its,rv,p,hz⟩:=I1.list hq
  refine wpAny_pyIter_list p.isList ?_
  refine ⟨s1.heap.objs.size,[s1.heap.objs.size],_,_,H1,rfl,I1.kept (t':=s1.toks) fun b o e=>Heap.get?_push_of_some _ e,turn_list a _,⟨_,Heap.get?_push_size _ rfl,rfl,rfl⟩,fun b hb=>?_,q⟩
  have e : b=s1.heap.objs.size:=by simpa using hb
  subst e
  exact I1.fpOk (Nat.le_refl _) (I1.hok.fresh (Nat.le_refl _))
theorem range_it {pins : List (Addr×Obj)} {σ : St} {H : Hp} {s : Shared} {R : It→Hp→Prop} {E : Value→Shared→Prop} {lo hi : Int} {t u v : Tok} {tk : Nat} (I : Inv X pins σ H s) (h1 : -(2 ^ 62)≤lo) (h2 : lo < 2 ^ 62) (h3 : -(2 ^ 62)≤hi) (h4 : hi < 2 ^ 62)
    (q : R (Itr lo (hi - lo).toNat) H) : wpAny (model X.prog X.w) X.A (pyIter (.ref s.heap.objs.size)) (PIE X pins σ tg R) E { s with heap:=s.heap.push { cls:=.type "range",data:=.fields #[.int lo t,.int hi u,.int 1 v] },toks:=tk }:=by
  refine wpAny_pyIter_range (IsRange.new ..) (small_one h1 h2 h3 h4) ?_
  have I1 : Inv X pins σ H { s with heap:=s.heap.push { cls:=.type "range",data:=.fields #[.int lo t,.int hi u,.int 1 v] },toks:=tk }:=I.kept fun b o e=>Heap.get?_push_of_some _ e
  refine ⟨(s.heap.push { cls:=.type "range",data:=.fields #[.int lo t,.int hi u,.int 1 v] }).objs.size,[(s.heap.push { cls:=.type "range",data:=.fields #[.int lo t,.int hi u,.int 1 v] }).objs.size],_,_,H,rfl,
    I1.kept (t':=tk) fun b o e=>Heap.get?_push_of_some _ e,turn_range _ lo (hi - lo).toNat,?_,fun b hb=>?_,q⟩
  · have e1 : lo + ((0 : Nat) : Int) * 1=lo:=by simp
    have e2 : (((hi - lo).toNat : Nat) : Int) - ((0 : Nat) : Int)=Builtin.Range.rangeSize lo hi 1:=by rw [rangeSize_one]; split <;> omega
    show IsRangeIter _ _ (lo + ((0 : Nat) : Int) * 1) ((((hi - lo).toNat : Nat) : Int) - ((0 : Nat) : Int)) 1
    rw [e1,e2]
    exact Heap.get?_push_size _ rfl
  · have e : b=(s.heap.push { cls:=.type "range",data:=.fields #[.int lo t,.int hi u,.int 1 v] }).objs.size:=by simpa using hb
    subst e
    exact I1.fpOk (Nat.le_refl _) (I1.hok.fresh (Nat.le_refl _))
def iRng1 (ta : TA) : TI:=fun σ H R=>ta σ H fun vs H1=>∃ j : Int,vs=[.int j]∧-(2 ^ 62)≤j∧j < 2 ^ 62∧R (Itr 0 j.toNat) H1
theorem pi_range1 {a : Expr} {ta : TA} {p pos : Pos} (hg : Gl X "range") (hm : X.mg "range" = none) (ha : PA X [a] ta) (hs : starEach [a] X.env=[(false,eval a X.env)]:=by rfl) : PI X tg (.Call (.Name "range" p) [a] [] pos) (iRng1 ta):=by
  intro pins s σ H R I h
  refine Call_ (ld_blt I hg hm boot_range (PyProof.Rows.callWith_type1 (thn (ha pos pins s σ H _ I h) fun us s1 ⟨vs,H1,I1,r1,q1⟩=>?_) hs rfl))
  obtain ⟨j,e,q1,q2,q⟩:=q1
  subst e
  cases r1 with
  | cons r rr=>
    cases rr
    obtain ⟨t,rfl⟩:=r
    exact call_range_1 (range_it I1 (by omega) (by omega) q1 q2 (by simpa using q))
def tFor (wi : TI) (g : TG) (tb : TS) : TS:=fun D σ H=>wi σ H fun J H1=>∃ W : Nat→Nat→St→Hp→Prop,(∃ m,W 0 m σ H1)∧∀ i m σ H,W i m σ H→
  (J.stop i H∧D.nx σ H)∨(J.go i H∧∃ N : St→Hp→Prop,(∀ σ' H',N σ' H'→∃ m',m' < m∧W (i + 1) m' σ' H')∧∀ x H',J.yld i H x H'→g x σ H' fun σ2 H2=>tb { D with nx:=N,ct:=N,bk:=D.nx } σ2 H2)
def pinsAt (fp : List Addr) (h : Heap) : List (Addr×Obj):=fp.filterMap fun b=>(h.get? b).map fun o=>(b,o)
theorem mem_pinsAt {fp : List Addr} {h : Heap} {b : Addr} {o : Obj} (hb : b∈fp) (e : h.get? b=some o) : (b,o)∈pinsAt fp h:=List.mem_filterMap.mpr ⟨b,hb,by rw [e]; rfl⟩
theorem of_pinsAt {fp : List Addr} {h : Heap} {p : Addr×Obj} (hp : p∈pinsAt fp h) : p.1∈fp∧h.get? p.1=some p.2:=by
  obtain ⟨b,hb,e⟩:=List.mem_filterMap.mp hp
  cases q : h.get? b with
  | none=>rw [q] at e; cases e
  | some o=>
    rw [q] at e
    have e' : (b,o)=p:=Option.some.inj e
    subst e'
    exact ⟨hb,q⟩
theorem Inv.pinned {pins : List (Addr×Obj)} {σ : St} {H : Hp} {s : Shared} {fp : List Addr} (I : Inv X pins σ H s) (hf : ∀ b∈fp,FpOk X pins H b) (ho : ∀ b∈fp,∃ o,s.heap.get? b=some o∧∀ v,o.data≠.cell v) : Inv X (pins ++ pinsAt fp s.heap) σ H s:=
  I.pins_of fun p hp=>(List.mem_append.mp hp).elim (fun z=>I.pin p (List.mem_append_right _ z)) fun z=>by
    obtain ⟨hb,e⟩:=of_pinsAt z
    obtain ⟨f0,f1,f2,_⟩:=hf p.1 hb
    obtain ⟨o,e',d⟩:=ho p.1 hb
    rw [e] at e'; cases e'
    exact ⟨e,f0,f1,f2,d⟩
theorem Inv.unpinned {pins pl : List (Addr×Obj)} {σ : St} {H : Hp} {s : Shared} (I : Inv X (pins ++ pl) σ H s) : Inv X pins σ H s:=I.pins_of fun p hp=>I.pin p (List.mem_append_right _ (List.mem_append_left _ hp))
theorem ps_for {iter : Expr} {body : List Stmt} {wi : TI} {g : TG} {tb : TS} {pos : Pos} (hp : PassesOwn (model X.prog X.w) X.A X.env X.xe) (hc : X.calm=true) (hi : PI X tg iter wi) (hg : PG X tg g) (hb : PSs X body tb)
    (hs : ∀ x,foldedSetIterable iter X.env x=pure x:=by intro _; rfl) : PS X (.For tg iter body [] pos) (tFor wi g tb):=by
  intro pins s σ H D I h
  refine wpAny_For (thn (hi pins s σ H _ I h) fun v s1 h1=>thn h1 fun itv s2 h2=>?_) hs
  obtain ⟨it,fp,tn,J,H2,e,I2,T,st2,f2,W,⟨m0,w0⟩,turn⟩:=h2
  subst e
  have stat : ∀ {H' : Hp},(∀ b∈fp,H' b=none)→∀ b∈fp,FpOk X pins H' b:=fun hn b hb=>⟨hn b hb,(f2 b hb).2⟩
  refine codeAny_forLoop_any (fun n s'=>∃ i σ' H',Inv X pins σ' H' s'∧tn i s'.heap∧(∀ b∈fp,H' b=none)∧W i n σ' H') ?_ m0 ⟨0,σ,H2,I2,st2,fun b hb=>(f2 b hb).1,w0⟩
  rintro n s3 ⟨i,σ3,H3,I3,st3,fr3,w3⟩
  rcases turn i n σ3 H3 w3 with ⟨stop,qn⟩ | ⟨go,N,hN,step⟩
  · refine wpAny_passesOwn hp (thn (T.done X rfl rfl rfl hc i pins s3 σ3 H3 X.xe I3 (stat fr3) st3 stop) fun r s4 ⟨hr,I4⟩=>?_)
    subst hr
    exact wpAny_execs_nil ⟨σ3,H3,I4,qn⟩
  · refine wpAny_passesOwn hp (thn (T.item X rfl rfl rfl hc i pins s3 σ3 H3 X.xe I3 (stat fr3) st3 go) fun r s4 ⟨u,hr,h4⟩=>?_)
    subst hr
    refine wpAny_passesOwn hp (thn h4 fun _ s5 ⟨x,H5,I5,r5,y5,st5,fr5⟩=>?_)
    have I5':=I5.pinned (stat fr5) (T.obj _ _ st5)
    refine wpAny_passesOwn hp (thn (hg _ s5 σ3 H5 x u _ I5' r5 (step x H5 y5)) fun _ s6 ⟨σ6,H6,I6,q6⟩=>?_)
    refine wpAny_passesOwn hp (thn (hb _ s6 σ6 H6 _ I6 q6) fun f s7 q7=>?_)
    have again : ∀ {σ7 : St} {H7 : Hp},Inv X (pins ++ pinsAt fp s5.heap) σ7 H7 s7→N σ7 H7→∃ m,m < n∧∃ i σ' H',Inv X pins σ' H' s7∧tn i s7.heap∧(∀ b∈fp,H' b=none)∧W i m σ' H':=fun {σ7 H7} I7 n7=>by
      obtain ⟨m',hm,w7⟩:=hN σ7 H7 n7
      refine ⟨m',hm,i + 1,σ7,H7,I7.unpinned,T.keep _ _ _ st5 fun b hb o e=>(I7.pin (b,o) (List.mem_append_right _ (List.mem_append_right _ (mem_pinsAt hb e)))).1,fun b hb=>?_,w7⟩
      obtain ⟨o,e,d⟩:=T.obj _ _ st5 b hb
      exact (I7.pin (b,o) (List.mem_append_right _ (List.mem_append_right _ (mem_pinsAt hb e)))).2.1
    cases f with
    | next=>obtain ⟨σ7,H7,I7,n7⟩:=q7; exact again I7 n7
    | cont=>obtain ⟨σ7,H7,I7,n7⟩:=q7; exact again I7 n7
    | brk=>obtain ⟨σ7,H7,I7,q7⟩:=q7; exact ⟨σ7,H7,I7.unpinned,q7⟩
    | ret v=>obtain ⟨x7,σ7,H7,I7,r7,q7⟩:=q7; exact ⟨x7,σ7,H7,I7.unpinned,r7,q7⟩
end
theorem for_list {K : PySem.W.Frag} {a : Addr} {xs : List V} {g : TG} {tb : TS} {D : Ends} {σ : St} {H : Hp} (Pv : Nat→St→Hp→Prop) (h0 : Pv 0 σ H) (hl : ∀ i σ H,i≤xs.length→Pv i σ H→SqL K H a xs)
    (hs : ∀ i x σ H,xs[i]? = some x→Pv i σ H→g x σ H fun σ2 H2=>tb { D with nx:=Pv (i + 1),ct:=Pv (i + 1),bk:=D.nx } σ2 H2) (hd : ∀ σ H,Pv xs.length σ H→D.nx σ H) :
    ∃ W : Nat→Nat→St→Hp→Prop,(∃ m,W 0 m σ H)∧∀ i m σ H,W i m σ H→
      ((Itl K a).stop i H∧D.nx σ H)∨((Itl K a).go i H∧∃ N : St→Hp→Prop,(∀ σ' H',N σ' H'→∃ m',m' < m∧W (i + 1) m' σ' H')∧∀ x H',(Itl K a).yld i H x H'→g x σ H' fun σ2 H2=>tb { D with nx:=N,ct:=N,bk:=D.nx } σ2 H2):=by
  refine ⟨fun i m σ H=>m=xs.length - i∧i≤xs.length∧Pv i σ H,⟨xs.length,by simp,Nat.zero_le _,h0⟩,?_⟩
  rintro i m σ H ⟨rfl,hi,p⟩
  have q:=hl i σ H hi p
  by_cases hlt : i < xs.length
  · refine .inr ⟨⟨xs,xs[i],q,by simp [hlt]⟩,Pv (i + 1),fun σ' H' p'=>⟨xs.length - (i + 1),by omega,rfl,hlt,p'⟩,fun x H' y=>?_⟩
    obtain ⟨e,y⟩:=y
    subst e
    exact hs i x σ _ (y xs q) p
  · have e : i=xs.length:=by omega
    subst e
    exact .inl ⟨⟨xs,q,Nat.le_refl _⟩,hd σ H p⟩
theorem for_range {lo : Int} {n : Nat} {g : TG} {tb : TS} {D : Ends} {σ : St} {H : Hp} (Pv : Nat→St→Hp→Prop) (h0 : Pv 0 σ H)
    (hs : ∀ i σ H,i < n→Pv i σ H→g (.int (lo + i)) σ H fun σ2 H2=>tb { D with nx:=Pv (i + 1),ct:=Pv (i + 1),bk:=D.nx } σ2 H2) (hd : ∀ σ H,Pv n σ H→D.nx σ H) :
    ∃ W : Nat→Nat→St→Hp→Prop,(∃ m,W 0 m σ H)∧∀ i m σ H,W i m σ H→
      ((Itr lo n).stop i H∧D.nx σ H)∨((Itr lo n).go i H∧∃ N : St→Hp→Prop,(∀ σ' H',N σ' H'→∃ m',m' < m∧W (i + 1) m' σ' H')∧∀ x H',(Itr lo n).yld i H x H'→g x σ H' fun σ2 H2=>tb { D with nx:=N,ct:=N,bk:=D.nx } σ2 H2):=by
  refine ⟨fun i m σ H=>m=n - i∧i≤n∧Pv i σ H,⟨n,by simp,Nat.zero_le _,h0⟩,?_⟩
  rintro i m σ H ⟨rfl,hi,p⟩
  by_cases hlt : i < n
  · refine .inr ⟨hlt,Pv (i + 1),fun σ' H' p'=>⟨n - (i + 1),by omega,rfl,hlt,p'⟩,fun x H' y=>?_⟩
    obtain ⟨e,y⟩:=y
    subst e y
    exact hs i σ _ hlt p
  · have e : i=n:=by omega
    subst e
    exact .inl ⟨Nat.le_refl _,hd σ H p⟩
theorem while_by {c : TT} {tb : TS} {D : Ends} {σ : St} {H : Hp} (Pv : St→Hp→Prop) (μ : St→Hp→Nat) (h0 : Pv σ H)
    (hs : ∀ σ H,Pv σ H→c σ H fun b H1=>if b=true then tb { D with nx:=fun σ' H'=>Pv σ' H'∧μ σ' H' < μ σ H,ct:=fun σ' H'=>Pv σ' H'∧μ σ' H' < μ σ H,bk:=D.nx } σ H1 else D.nx σ H1)
    (mono : ∀ σ H Q Q',(∀ b H1,Q b H1→Q' b H1)→c σ H Q→c σ H Q') : tWhile c tb D σ H:=by
  refine ⟨fun m σ H=>m=μ σ H∧Pv σ H,⟨_,rfl,h0⟩,?_⟩
  rintro m σ H ⟨rfl,p⟩
  refine mono σ H _ _ (fun b H1 q=>?_) (hs σ H p)
  cases b with
  | true=>exact ⟨_,fun σ' H' ⟨p',l⟩=>⟨_,l,rfl,p'⟩,q⟩
  | false=>exact q
end L2
namespace L2
open PySem PySem.Spec PyProof.Rows
abbrev R2:=V→V→Hp→VK→Prop
def OpR (X : Cx) (f : Value→Value→Sem Value) (r : R2) : Prop:=
  ∀ (pins : List (Addr×Obj)) (s : Shared) (σ : St) (H : Hp) (x y : V) (v u : Value) (Q : VK),Inv X pins σ H s→RelV x v→RelV y u→r x y H Q→
    wpAny (model X.prog X.w) X.A (f v u) (EP X pins σ Q) X.xe s
def UnR (X : Cx) (f : Value→Sem Value) (r : V→Hp→VK→Prop) : Prop:=
  ∀ (pins : List (Addr×Obj)) (s : Shared) (σ : St) (H : Hp) (x : V) (v : Value) (Q : VK),Inv X pins σ H s→RelV x v→r x H Q→
    wpAny (model X.prog X.w) X.A (f v) (EP X pins σ Q) X.xe s
def CallR (X : Cx) (f : Value) (r : List V→Hp→VK→Prop) : Prop:=
  ∀ (pins : List (Addr×Obj)) (s : Shared) (σ : St) (H : Hp) (xs : List V) (us : List Value) (Q : VK),Inv X pins σ H s→Vals xs us→r xs H Q→
    wpAny (model X.prog X.w) X.A (call f us) (EP X pins σ Q) X.xe s
def TruR (X : Cx) (r : V→Hp→(Bool→Hp→Prop)→Prop) : Prop:=
  ∀ (pins : List (Addr×Obj)) (s : Shared) (σ : St) (H : Hp) (x : V) (v : Value) (Q : Bool→Hp→Prop),Inv X pins σ H s→RelV x v→r x H Q→
    wpAny (model X.prog X.w) X.A (truthy v) (TP X pins σ Q) X.xe s
def tOp (r : R2) (ta tb : TE) : TE:=fun σ H Q=>ta σ H fun x H1=>tb σ H1 fun y H2=>r x y H2 Q
def tUn (r : V→Hp→VK→Prop) (ta : TE) : TE:=fun σ H Q=>ta σ H fun x H1=>r x H1 Q
def rI (C : Int→Int→Prop) (g : Int→Int→V) : R2:=fun x y H Q=>∃ i j,x = .int i∧y = .int j∧C i j∧Q (g i j) H
def rI0 (g : Int→Int→V) : R2:=fun x y H Q=>∃ i j,x = .int i∧y = .int j∧Q (g i j) H
def rU (g : Int→V) : V→Hp→VK→Prop:=fun x H Q=>∃ i,x = .int i∧Q (g i) H
section
variable {X : Cx} {a b c : Expr} {ta tb tc : TE} {pos : Pos}
theorem binT (ha : PE X a ta) (hb : PE X b tb) {pins : List (Addr×Obj)} {s : Shared} {σ : St} {H : Hp} {R : V→V→Hp→Prop} (I : Inv X pins σ H s)
    (h : ta σ H fun x H1=>tb σ H1 fun y H2=>R x y H2) {Q : Value→Shared→Prop} {f : Value→Value→Sem Value}
    (hf : ∀ v u s2 x y H2,Inv X pins σ H2 s2→RelV x v→RelV y u→R x y H2→wpAny (model X.prog X.w) X.A (f v u) Q X.xe s2) :
    wpAny (model X.prog X.w) X.A (eval a X.env) (fun v s₁=>wpAny (model X.prog X.w) X.A (eval b X.env) (fun u s₂=>wpAny (model X.prog X.w) X.A (f v u) Q X.xe s₂) X.xe s₁) X.xe s:=by
  refine thn (ha pins s σ H _ I h) fun v s1 ⟨x,H1,I1,r1,q1⟩=>?_
  refine thn (hb pins s1 σ H1 _ I1 q1) fun u s2 ⟨y,H2,I2,r2,q2⟩=>?_
  exact hf v u s2 x y H2 I2 r1 r2 q2
theorem pe_op {op : Operator} {r : R2} (ho : OpR X (binaryOp op) r) (ha : PE X a ta) (hb : PE X b tb) : PE X (.BinOp a op b pos) (tOp r ta tb):=by
  intro pins s σ H Q I h
  exact wpAny_BinOp (binT ha hb I h fun v u s2 x y H2 I2 rx ry q=>ho pins s2 σ H2 x y v u Q I2 rx ry q)
theorem pe_un {op : UnaryOp} {r : V→Hp→VK→Prop} (ho : UnR X (unaryOp op) r) (ha : PE X a ta) : PE X (.UnaryOp op a pos) (tUn r ta):=by
  intro pins s σ H Q I h
  exact UnaryOp_ (thn (ha pins s σ H _ I h) fun v s1 ⟨x,H1,I1,r1,q1⟩=>ho pins s1 σ H1 x v Q I1 r1 q1)
theorem opI {f : Value→Value→Sem Value} {C : Int→Int→Prop} {g : Int→Int→Int}
    (rule : ∀ (i j : Int) (t u : Tok) (s : Shared) (Q : Value→Shared→Prop) (E : Value→Shared→Prop),C i j→Q (.int (g i j) s.toks) { s with toks:=s.toks + 1 }→wpAny (model X.prog X.w) X.A (f (.int i t) (.int j u)) Q E s) :
    OpR X f (rI C fun i j=>.int (g i j)):=by
  intro pins s σ H x y v u Q I rx ry h
  obtain ⟨i,j,rfl,rfl,hc,q⟩:=h
  obtain ⟨t,rfl⟩:=rx
  obtain ⟨t',rfl⟩:=ry
  exact rule i j t t' s _ _ hc ⟨.int (g i j),H,I.tok _,⟨_,rfl⟩,q⟩
theorem opI0 {f : Value→Value→Sem Value} {g : Int→Int→Int}
    (rule : ∀ (i j : Int) (t u : Tok) (s : Shared) (Q : Value→Shared→Prop) (E : Value→Shared→Prop),Q (.int (g i j) s.toks) { s with toks:=s.toks + 1 }→wpAny (model X.prog X.w) X.A (f (.int i t) (.int j u)) Q E s) :
    OpR X f (rI0 fun i j=>.int (g i j)):=by
  intro pins s σ H x y v u Q I rx ry h
  obtain ⟨i,j,rfl,rfl,q⟩:=h
  obtain ⟨t,rfl⟩:=rx
  obtain ⟨t',rfl⟩:=ry
  exact rule i j t t' s _ _ ⟨.int (g i j),H,I.tok _,⟨_,rfl⟩,q⟩
theorem opB0 {f : Value→Value→Sem Value} {g : Int→Int→Bool}
    (rule : ∀ (i j : Int) (t u : Tok) (s : Shared) (Q : Value→Shared→Prop) (E : Value→Shared→Prop),Q (.bool (g i j)) s→wpAny (model X.prog X.w) X.A (f (.int i t) (.int j u)) Q E s) :
    OpR X f (rI0 fun i j=>.bl (g i j)):=by
  intro pins s σ H x y v u Q I rx ry h
  obtain ⟨i,j,rfl,rfl,q⟩:=h
  obtain ⟨t,rfl⟩:=rx
  obtain ⟨t',rfl⟩:=ry
  exact rule i j t t' s _ _ ⟨.bl (g i j),H,I,rfl,q⟩
def CPow (i j : Int) : Prop:=0≤j∧j≤1000000∧i.natAbs < 2 ^ 64
def CMul (i j : Int) : Prop:=(-(2 ^ 64) < i∧i < 2 ^ 64)∨(-(2 ^ 64) < j∧j < 2 ^ 64)
theorem CMul.ok {i j : Int} (h : CMul i j) : IntMulOk i j:=by
  rcases h with ⟨h1,h2⟩ | ⟨h1,h2⟩
  · exact .of_left (intBits_le_64 h1 h2)
  · exact .of_right (intBits_le_64 h1 h2)
theorem op_add : OpR X (binaryOp .Add) (rI0 fun i j=>.int (i + j)):=opI0 fun _ _ _ _ _ _ _ q=>add_int q
theorem op_sub : OpR X (binaryOp .Sub) (rI0 fun i j=>.int (i - j)):=opI0 fun _ _ _ _ _ _ _ q=>sub_int q
theorem op_mul : OpR X (binaryOp .Mult) (rI CMul fun i j=>.int (i * j)):=opI fun _ _ _ _ _ _ _ hc q=>mul_int q hc.ok
theorem op_mod : OpR X (binaryOp .Mod) (rI (fun _ j=>0 < j) fun i j=>.int (i % j)):=opI fun i j _ _ _ _ _ hc q=>by
  have h1 : (0 : Int) < j:=hc
  exact mod_int' (by omega) (by rw [Int.fmod_eq_emod_of_nonneg i (by omega)]; exact q)
theorem op_pow : OpR X (binaryOp .Pow) (rI CPow fun i j=>.int (i ^ j.toNat)):=opI fun _ _ _ _ _ _ _ hc q=>pow_int_small hc.1 hc.2.1 hc.2.2 q
theorem unI {f : Value→Sem Value} {g : Int→Int}
    (rule : ∀ (i : Int) (t : Tok) (s : Shared) (Q : Value→Shared→Prop) (E : Value→Shared→Prop),Q (.int (g i) s.toks) { s with toks:=s.toks + 1 }→wpAny (model X.prog X.w) X.A (f (.int i t)) Q E s) :
    UnR X f (rU fun i=>.int (g i)):=by
  intro pins s σ H x v Q I rx h
  obtain ⟨i,rfl,q⟩:=h
  obtain ⟨t,rfl⟩:=rx
  exact rule i t s _ _ ⟨.int (g i),H,I.tok _,⟨_,rfl⟩,q⟩
theorem un_neg : UnR X (unaryOp .USub) (rU fun i=>.int (-i)):=unI fun _ _ _ _ _ q=>neg_int q
end
def scal : V→V→Bool
  | .non,.non=>true | .non,.int _=>true | .int _,.non=>true | .non,.bl _=>true | .bl _,.non=>true | .non,.str _=>true | .str _,.non=>true
  | .int _,.int _=>true | .bl _,.bl _=>true | .str _,.str _=>true | .byt _,.byt _=>true
  | .int _,.str _=>true | .str _,.int _=>true | .bl _,.str _=>true | .str _,.bl _=>true
  | _,_=>false
def rEq : R2:=fun x y H Q=>scal x y=true∧Q (.bl (decide (x=y))) H
def rNe : R2:=fun x y H Q=>scal x y=true∧Q (.bl (!decide (x=y))) H
theorem dec_int {i j : Int} : decide (V.int i=V.int j)=(i == j):=by
  rw [Bool.eq_iff_iff]
  simp
theorem dec_bl {i j : Bool} : decide (V.bl i=V.bl j)=(i == j):=by
  rw [Bool.eq_iff_iff]
  simp
theorem dec_str {i j : Str} : decide (V.str i=V.str j)=(i == j):=by
  rw [Bool.eq_iff_iff]
  simp
theorem dec_byt {i j : Array UInt8} : decide (V.byt i=V.byt j)=(i.toList == j.toList):=by
  rw [Bool.eq_iff_iff]
  cases i
  cases j
  simp
section
variable {X : Cx} {a b c : Expr} {ta tb tc : TE} {pos : Pos}
theorem fin_bl {pins : List (Addr×Obj)} {σ : St} {H : Hp} {s : Shared} {Q : VK} {k k' : Bool} (I : Inv X pins σ H s) (q : Q (.bl k) H) (e : k=k') : EP X pins σ Q (.bool k') s:=by
  subst e
  exact ⟨.bl k,H,I,rfl,q⟩
theorem op_eq : OpR X (compareOp .Eq) rEq:=by
  intro pins s σ H x y v u Q I rx ry h
  obtain ⟨hs,q⟩:=h
  cases x with
  | non=>
    cases rx
    cases y with
    | non=>cases ry; exact PySem.EqNone.eq_none_none (fin_bl I q (by simp))
    | bl j=>cases ry; exact PySem.EqNone.eq_none_bool (fin_bl I q (by simp))
    | int j=>obtain ⟨t',rfl⟩:=ry; exact PySem.EqNone.eq_none_int (fin_bl I q (by simp))
    | str j=>obtain ⟨t',rfl⟩:=ry; exact PySem.EqNone.eq_none_str (fin_bl I q (by simp))
    | _=>exact absurd (show false=true from hs) Bool.false_ne_true
  | bl i=>
    cases rx
    cases y with
    | non=>cases ry; exact PySem.EqNone.eq_bool_none (fin_bl I q (by simp))
    | bl j=>cases ry; exact eq_bool (fin_bl I q dec_bl)
    | str j=>obtain ⟨t',rfl⟩:=ry; exact PySem.EqMixed.eq_bool_str (fin_bl I q (by simp))
    | _=>exact absurd (show false=true from hs) Bool.false_ne_true
  | int i=>
    obtain ⟨t,rfl⟩:=rx
    cases y with
    | non=>cases ry; exact PySem.EqNone.eq_int_none (fin_bl I q (by simp))
    | int j=>obtain ⟨t',rfl⟩:=ry; exact eq_int (fin_bl I q dec_int)
    | str j=>obtain ⟨t',rfl⟩:=ry; exact PySem.EqMixed.eq_int_str (fin_bl I q (by simp))
    | _=>exact absurd (show false=true from hs) Bool.false_ne_true
  | str i=>
    obtain ⟨t,rfl⟩:=rx
    cases y with
    | non=>cases ry; exact PySem.EqNone.eq_str_none (fin_bl I q (by simp))
    | bl j=>cases ry; exact PySem.EqMixed.eq_str_bool (fin_bl I q (by simp))
    | int j=>obtain ⟨t',rfl⟩:=ry; exact PySem.EqMixed.eq_str_int (fin_bl I q (by simp))
    | str j=>obtain ⟨t',rfl⟩:=ry; exact eq_str (fin_bl I q dec_str)
    | _=>exact absurd (show false=true from hs) Bool.false_ne_true
  | byt i=>
    obtain ⟨t,rfl⟩:=rx
    cases y with
    | byt j=>obtain ⟨t',rfl⟩:=ry; exact PySem.W.eq_bytes (fin_bl I q dec_byt)
    | _=>exact absurd (show false=true from hs) Bool.false_ne_true
  | _=>cases y <;> exact absurd (show false=true from hs) Bool.false_ne_true
theorem op_ne : OpR X (compareOp .NotEq) rNe:=by
  intro pins s σ H x y v u Q I rx ry h
  obtain ⟨hs,q⟩:=h
  cases x with
  | non=>
    cases rx
    cases y with
    | non=>cases ry; exact PySem.EqNone.ne_none_none (fin_bl I q (by simp))
    | bl j=>cases ry; exact PySem.EqNone.ne_none_bool (fin_bl I q (by simp))
    | int j=>obtain ⟨t',rfl⟩:=ry; exact PySem.EqNone.ne_none_int (fin_bl I q (by simp))
    | str j=>obtain ⟨t',rfl⟩:=ry; exact PySem.EqNone.ne_none_str (fin_bl I q (by simp))
    | _=>exact absurd (show false=true from hs) Bool.false_ne_true
  | bl i=>
    cases rx
    cases y with
    | non=>cases ry; exact PySem.EqNone.ne_bool_none (fin_bl I q (by simp))
    | bl j=>cases ry; exact ne_bool (fin_bl I q (congrArg not dec_bl))
    | str j=>obtain ⟨t',rfl⟩:=ry; exact PySem.EqMixed.ne_bool_str (fin_bl I q (by simp))
    | _=>exact absurd (show false=true from hs) Bool.false_ne_true
  | int i=>
    obtain ⟨t,rfl⟩:=rx
    cases y with
    | non=>cases ry; exact PySem.EqNone.ne_int_none (fin_bl I q (by simp))
    | int j=>obtain ⟨t',rfl⟩:=ry; exact ne_int (fin_bl I q (congrArg not dec_int))
    | str j=>obtain ⟨t',rfl⟩:=ry; exact PySem.EqMixed.ne_int_str (fin_bl I q (by simp))
    | _=>exact absurd (show false=true from hs) Bool.false_ne_true
  | str i=>
    obtain ⟨t,rfl⟩:=rx
    cases y with
    | non=>cases ry; exact PySem.EqNone.ne_str_none (fin_bl I q (by simp))
    | bl j=>cases ry; exact PySem.EqMixed.ne_str_bool (fin_bl I q (by simp))
    | int j=>obtain ⟨t',rfl⟩:=ry; exact PySem.EqMixed.ne_str_int (fin_bl I q (by simp))
    | str j=>obtain ⟨t',rfl⟩:=ry; exact ne_str (fin_bl I q (congrArg not dec_str))
    | _=>exact absurd (show false=true from hs) Bool.false_ne_true
  | byt i=>
    obtain ⟨t,rfl⟩:=rx
    cases y with
    | byt j=>obtain ⟨t',rfl⟩:=ry; exact PySem.W.ne_bytes (fin_bl I q (congrArg not dec_byt))
    | _=>exact absurd (show false=true from hs) Bool.false_ne_true
  | _=>cases y <;> exact absurd (show false=true from hs) Bool.false_ne_true
theorem op_lt : OpR X (compareOp .Lt) (rI0 fun i j=>.bl (decide (i < j))):=opB0 fun _ _ _ _ _ _ _ q=>lt_int q
theorem op_le : OpR X (compareOp .LtE) (rI0 fun i j=>.bl (decide (i≤j))):=opB0 fun _ _ _ _ _ _ _ q=>le_int q
theorem op_gt : OpR X (compareOp .Gt) (rI0 fun i j=>.bl (decide (j < i))):=opB0 fun _ _ _ _ _ _ _ q=>gt_int q
theorem op_ge : OpR X (compareOp .GtE) (rI0 fun i j=>.bl (decide (j≤i))):=opB0 fun _ _ _ _ _ _ _ q=>ge_int q
theorem op_isN : OpR X (compareOp .Is) (fun x y H Q=>y = .non∧Q (.bl (decide (x = .non))) H):=by
  intro pins s σ H x y v u Q I rx ry h
  obtain ⟨rfl,q⟩:=h
  cases ry
  refine is_none_gen (fin_bl I q ?_)
  cases x <;> first
    | (cases rx; rfl)
    | (obtain ⟨t,rfl⟩:=rx; rfl)
theorem nomark (b : Expr) {op : CmpOp} (h : op≠.In:=by decide) (h2 : op≠.NotIn:=by decide) : behindInMarks op b=false:=by
  have e1 : (op == CmpOp.In)=false:=by cases op <;> first | rfl | exact absurd rfl h
  have e2 : (op == CmpOp.NotIn)=false:=by cases op <;> first | rfl | exact absurd rfl h2
  cases b <;> simp [behindInMarks,e1,e2]
theorem pe_cmpR {op : CmpOp} {r : R2} (ho : OpR X (compareOp op) r) (ha : PE X a ta) (hb : PE X b tb) (hm : behindInMarks op b=false) : PE X (.Compare a [op] [b] pos) (tOp r ta tb):=by
  intro pins s σ H Q I h
  exact wpAny_Compare1 (binT ha hb I h fun v u s2 x y H2 I2 rx ry q=>ho pins s2 σ H2 x y v u Q I2 rx ry q) hm
def tTest (t : TE) : TT:=fun σ H Q=>t σ H fun x H'=>∃ k,x = .bl k∧Q k H'
theorem pt_cmpR {op : CmpOp} {r : R2} (ho : OpR X (compareOp op) r) (ha : PE X a ta) (hb : PE X b tb) (hm : behindInMarks op b=false) : PT X (.Compare a [op] [b] pos) (tTest (tOp r ta tb)):=by
  intro pins s σ H Q I h
  refine wpAny_isTrue_Compare1 (thn (ha pins s σ H _ I h) fun v s1 ⟨x,H1,I1,r1,q1⟩=>thn (hb pins s1 σ H1 _ I1 q1) fun u s2 ⟨y,H2,I2,r2,q2⟩=>
    thn (ho pins s2 σ H2 x y v u _ I2 r1 r2 q2) fun c s3 ⟨z,H3,I3,r3,k,e,q3⟩=>?_) hm
  subst e
  cases r3
  exact wpAny_truthy_bool ⟨H3,I3,q3⟩
def tChain (r r' : R2) (ta tb tc : TE) : TE:=fun σ H Q=>ta σ H fun x H1=>tb σ H1 fun y H2=>r x y H2 fun z H3=>∃ k,z = .bl k∧
  (if k=true then tc σ H3 fun w' H4=>r' y w' H4 Q else Q (.bl false) H3)
theorem pe_chain {op op' : CmpOp} {r r' : R2} (ho : OpR X (compareOp op) r) (ho' : OpR X (compareOp op') r') (ha : PE X a ta) (hb : PE X b tb) (hc : PE X c tc)
    (hm : lastMarks [op,op'] [b,c]=false:=by with_unfolding_all rfl) : PE X (.Compare a [op,op'] [b,c] pos) (tChain r r' ta tb tc):=by
  intro pins s σ H Q I h
  refine Compare_chain (thn (ha pins s σ H _ I h) fun v s1 ⟨x,H1,I1,r1,q1⟩=>chain_link (thn (hb pins s1 σ H1 _ I1 q1) fun u s2 ⟨y,H2,I2,r2,q2⟩=>
    thn (ho pins s2 σ H2 x y v u _ I2 r1 r2 q2) fun d s3 ⟨z,H3,I3,r3,k,e,q3⟩=>?_)) hm
  subst e
  cases r3
  refine wpAny_truthy_bool ?_
  cases k with
  | false=>exact ite_ff ⟨.bl false,H3,I3,rfl,q3⟩
  | true=>exact ite_tt (chain_last (thn (hc pins s3 σ H3 _ I3 q3) fun w' s4 ⟨z',H4,I4,r4,q4⟩=>ho' pins s4 σ H4 y z' u w' Q I4 r2 r4 q4))
theorem pt_chain {op op' : CmpOp} {r r' : R2} (ho : OpR X (compareOp op) r) (ho' : OpR X (compareOp op') r') (ha : PE X a ta) (hb : PE X b tb) (hc : PE X c tc)
    (hm : lastMarks [op,op'] [b,c]=false:=by with_unfolding_all rfl) : PT X (.Compare a [op,op'] [b,c] pos) (tTest (tChain r r' ta tb tc)):=by
  intro pins s σ H Q I h
  refine isTrue_chain (thn (ha pins s σ H _ I h) fun v s1 ⟨x,H1,I1,r1,q1⟩=>test_link (thn (hb pins s1 σ H1 _ I1 q1) fun u s2 ⟨y,H2,I2,r2,q2⟩=>
    thn (ho pins s2 σ H2 x y v u _ I2 r1 r2 q2) fun d s3 ⟨z,H3,I3,r3,k,e,q3⟩=>?_)) hm
  subst e
  cases r3
  refine wpAny_truthy_bool ?_
  cases k with
  | false=>
    obtain ⟨k',e',q'⟩:=q3
    cases e'
    exact ite_ff ⟨H3,I3,q'⟩
  | true=>
    refine ite_tt (test_last (thn (hc pins s3 σ H3 _ I3 q3) fun w' s4 ⟨z',H4,I4,r4,q4⟩=>thn (ho' pins s4 σ H4 y z' u w' _ I4 r2 r4 q4) fun d' s5 ⟨z2,H5,I5,r5,k2,e2,q5⟩=>?_))
    subst e2
    cases r5
    exact wpAny_truthy_bool ⟨H5,I5,q5⟩
def TruV (K : PySem.W.Frag) (x : V) (H : Hp) (k : Bool) : Prop:=
  match x with
  | .non=>k=false
  | .bl b=>k=b
  | .int i=>k=(i != 0)
  | .str y=>y.length≤sizeLine∧k=((y.length : Int) != 0)
  | .byt y=>y.size≤sizeLine∧k=((y.size : Int) != 0)
  | .ref p=>(∃ xs,SqL K H p xs∧k = !xs.isEmpty)∨(∃ xs,SqT K H p xs∧k = !xs.isEmpty)∨∃ kvs,H p=some (.dK kvs)∧k = !kvs.isEmpty
  | _=>False
theorem isEmpty_kv {κ : Type} {kvs : List (κ×V)} {vs : List (κ×Value)} (r : KV kvs vs) : (!vs.isEmpty) = !kvs.isEmpty:=by
  cases r <;> rfl
theorem isEmpty_of {xs : List V} {its : List Value} (r : Vals xs its) : (!its.toArray.isEmpty) = !xs.isEmpty:=by
  cases r <;> simp
theorem line63 : (sizeLine : Nat) < 2 ^ 63:=by rw [sizeLine_eq]; decide
theorem tru_ok : TruR X (fun x H Q=>∃ k,TruV X.K x H k∧Q k H):=by
  intro pins s σ H x v Q I rx h
  obtain ⟨k,e,q⟩:=h
  have hl:=line63
  have hs : sizeLine=16777216:=sizeLine_eq
  cases x with
  | non=>
    cases rx
    have e' : k=false:=e
    subst e'
    exact truthy_none ⟨H,I,q⟩
  | bl b=>
    cases rx
    have e' : k=b:=e
    subst e'
    exact wpAny_truthy_bool ⟨H,I,q⟩
  | int i=>
    obtain ⟨t,rfl⟩:=rx
    have e' : k=(i != 0):=e
    subst e'
    exact PySem.P.truthy_int ⟨H,I,q⟩
  | str y=>
    obtain ⟨t,rfl⟩:=rx
    obtain ⟨hy,e'⟩ : y.length≤sizeLine∧k=((y.length : Int) != 0):=e
    subst e'
    exact PySem.P.truthy_str (by omega) ⟨H,I.tok _,q⟩
  | byt y=>
    obtain ⟨t,rfl⟩:=rx
    obtain ⟨hy,e'⟩ : y.size≤sizeLine∧k=((y.size : Int) != 0):=e
    subst e'
    exact PySem.W.truthy_bytes (by omega) ⟨H,I.tok _,q⟩
  | ref p=>
    cases rx
    have e' : (∃ xs,SqL X.K H p xs∧k = !xs.isEmpty)∨(∃ xs,SqT X.K H p xs∧k = !xs.isEmpty)∨∃ kvs,H p=some (.dK kvs)∧k = !kvs.isEmpty:=e
    rcases e' with ⟨xs,hx,e'⟩ | ⟨xs,hx,e'⟩ | ⟨kvs,hx,e'⟩
    · subst e'
      obtain ⟨its,r,pl,hz⟩:=I.list hx
      have hlen:=r.length
      exact wpAny_truthy_list pl.isList (by simp only [List.size_toArray]; omega) ⟨H,I.tok _,by rw [isEmpty_of r]; exact q⟩
    · subst e'
      obtain ⟨its,r,pl,hz⟩:=I.tuple hx
      have hlen:=r.length
      exact truthy_tuple pl (by simp only [List.size_toArray]; omega) ⟨H,I.tok _,by rw [isEmpty_of r]; exact q⟩
    · subst e'
      obtain ⟨hz,hS,vs,r,m⟩ : kvs.length≤sizeLine∧(p == sysModules)=false∧∃ vs,KV kvs vs∧s.heap.DictOf (mixKind X.prog X.w) p vs:=I.hok p _ hx
      have hlen : kvs.length=vs.length:=Paired.length r
      exact wpAny_truthy_dict hS m (by omega) ⟨H,I.tok _,by rw [isEmpty_kv r]; exact q⟩
  | _=>exact (show False from e).elim
theorem pt_truth (ha : PE X a ta) (he : ∀ whole,isTrue a X.env whole=(do let v ← whole; standAt a.pos; holding [v] (truthy v))) :
    PT X a (fun σ H Q=>ta σ H fun x H'=>∃ k,TruV X.K x H' k∧Q k H'):=by
  intro pins s σ H Q I h
  exact isTrue_plain (thn (ha pins s σ H _ I h) fun v s1 ⟨x,H1,I1,r1,q1⟩=>tru_ok pins s1 σ H1 x v Q I1 r1 q1) (he _)
theorem vals1 {x : V} {us : List Value} (r : Vals [x] us) : ∃ u,us=[u]∧RelV x u:=by
  cases r with
  | cons r1 r2=>cases r2; exact ⟨_,rfl,r1⟩
theorem vals2 {x y : V} {us : List Value} (r : Vals [x,y] us) : ∃ u w',us=[u,w']∧RelV x u∧RelV y w':=by
  cases r with
  | cons r1 r2=>
    cases r2 with
    | cons r3 r4=>cases r4; exact ⟨_,_,rfl,r1,r3⟩
theorem call_min2 (hc : X.calm=true) : CallR X (.builtin "min") (fun xs H Q=>∃ i j,xs=[.int i,.int j]∧Q (.int (if j < i then j else i)) H):=by
  intro pins s σ H xs us Q I r h
  obtain ⟨i,j,rfl,q⟩:=h
  obtain ⟨u,w',rfl,⟨t,rfl⟩,⟨t',rfl⟩⟩:=vals2 r
  refine min_two_ints (I.ok.hd hc) fun h' tk k=>⟨_,H,I.kept k,?_,q⟩
  by_cases hj : j < i
  · rw [if_pos hj,if_pos hj]; exact ⟨_,rfl⟩
  · rw [if_neg hj,if_neg hj]; exact ⟨_,rfl⟩
theorem call_int1 : CallR X (.type "int") (fun xs H Q=>(∃ i,xs=[.int i]∧Q (.int i) H)∨∃ k,xs=[.bl k]∧Q (.int (if k then 1 else 0)) H):=by
  intro pins s σ H xs us Q I r h
  rcases h with ⟨i,rfl,q⟩ | ⟨k,rfl,q⟩
  · obtain ⟨u,rfl,t,rfl⟩:=vals1 r
    exact call_int_int ⟨.int i,H,I,⟨_,rfl⟩,q⟩
  · obtain ⟨u,rfl,r1⟩:=vals1 r
    cases r1
    exact call_int_bool ⟨.int (if k then 1 else 0),H,I.tok _,⟨_,rfl⟩,q⟩
end
end L2
namespace L2
open PySem PySem.Spec PyProof.Rows
structure ObjM (h : Heap) (x dx C : Addr) (mA : Str→Option Value) : Prop where
  obj : h.get? x=some (PySem.W.instObj C dx)
  ns : h.Ns1 dx mA
  ne : dx≠x
theorem lookIn_ns {h : Heap} {dx : Addr} {mA : Str→Option Value} (n : h.Ns1 dx mA) : ∃ od,h.get? dx=some od∧∀ name,PySem.W.lookIn name od=some (mA name):=by
  obtain ⟨o,es,ep,ho,hd,hk,_,hm⟩:=n
  refine ⟨o,ho,fun name=>?_⟩
  have e:=hm name
  unfold nsFind findBy at e
  rw [← Array.find?_toList] at e
  unfold PySem.W.lookIn
  rw [hd]
  dsimp only
  split
  · rename_i y q
    rw [q] at e
    exact congrArg some e
  · rename_i q
    rw [q] at e
    have a : es.toList.any (·.refKey)=false:=by
      rw [List.any_eq_false]
      intro y hy
      obtain ⟨z,t,hkey⟩:=hk y (Array.mem_toList_iff.mp hy)
      simp [DictEntry.refKey,hkey]
    have a' : ¬ es.toList.any (·.refKey)=true:=by rw [a]; exact Bool.false_ne_true
    rw [if_neg a']
    exact congrArg some e
theorem ObjM.look {h : Heap} {x dx C : Addr} {mA : Str→Option Value} (I : ObjM h x dx C mA) : ∃ od,PySem.W.InstAt h x (PySem.W.instObj C dx) C (some od)∧∀ name,PySem.W.lookIn name od=some (mA name):=
  let ⟨od,ho,hl⟩:=lookIn_ns I.ns
  ⟨od,⟨I.obj,rfl,rfl,ho⟩,hl⟩
section
variable {prog : Program} {w : World} {A : Around} {E : Value→Shared→Prop} {s : Shared} {K : PySem.W.Frag} {x dx C f : Addr} {mA : Str→Option Value} {name : Str} {v : Value}
end
section
variable {P : Program} {w : World} {H H' : Hp} {h h' : Heap} {a C dx : Addr} {fs fs' : List (Str×V)}
theorem ins_get (hok : HOk P w H h) (e : H a=some (.ins C dx fs)) : ∃ mA,ObjM h a dx C mA∧(∀ f,RelO (fs.lookup f) (mA f))∧PySem.Within mA (fs.map (·.1))∧fs.length≤1000∧H dx=some (.own a):=by
  obtain ⟨d,z,ne,ob,mA,n,r,q⟩:=(show ObjOk P w H h a (.ins C dx fs) from hok a _ e)
  exact ⟨mA,⟨ob,n,ne⟩,r,q,z,d⟩
end
structure Cls (K : PySem.W.Frag) (C : Addr) : Prop where
  pg : PySem.W.plainGet K C Str.empty=true
  hd : PySem.W.hasDictIn K C=true
  po : PySem.W.plainOver K C=true
  sa : PySem.W.findIn K (.ref C) "__setattr__" = some (some (.builtin "object.__setattr__"))
theorem Cls.get {K : PySem.W.Frag} {C : Addr} (c : Cls K C) (f : Str) : PySem.W.plainGet K C f=true:=c.pg
section
variable {X : Cx} {pins : List (Addr×Obj)} {σ : St} {H : Hp} {s : Shared} {a C dx : Addr} {fs : List (Str×V)} {f : Str} {v : V} {A : Around} {E : Value→Shared→Prop}
end
section
variable {X : Cx} {o e value : Expr} {f : Str} {pos pos' tpos : Pos} {ta tv : TE}
end
section
variable {X : Cx} {pins : List (Addr×Obj)} {σ : St} {H : Hp} {s : Shared} {A : Around} {E : Value→Shared→Prop} {Q : Value→Shared→Prop} {c : Value} {b : Bool}
inductive TyOf (K : PySem.W.Frag) (H : Hp) : V→Value→Prop where
  | non : TyOf K H .non (.type "NoneType")
  | bl (x : Bool) : TyOf K H (.bl x) (.type "bool")
  | int (i : Int) : TyOf K H (.int i) (.type "int")
  | str (x : Str) : TyOf K H (.str x) (.type "str")
  | flt (x : UInt64) : TyOf K H (.flt x) (.type "float")
  | lst {a : Addr} {xs : List V} (e : H a=some (.lst xs)) : TyOf K H (.ref a) (.type "list")
  | frz {a : Addr} {o : Obj} {xs : List V} (e : H a=some (.frz o (.lst xs))) : TyOf K H (.ref a) (.type "list")
  | tup {a : Addr} {xs : List V} (e : H a=some (.tup xs)) : TyOf K H (.ref a) (.type "tuple")
  | dK {a : Addr} {kvs : List (Key×V)} (e : H a=some (.dK kvs)) : TyOf K H (.ref a) (.type "dict")
  | dT {a : Addr} {kvs : List (List Key×V)} (e : H a=some (.dT kvs)) : TyOf K H (.ref a) (.type "dict")
  | ins {a C dx : Addr} {fs : List (Str×V)} (e : H a=some (.ins C dx fs)) (cl : Cls K C) (ha : PySem.W.findIn K (.ref C) "__class__" = some (some (.builtin "object.__class__")))
      (hn : PySem.W.specialIn K (.builtin "object.__class__") "__get__" = some (some (.builtin "getset_descriptor.__get__"))) (htk : PySem.W.takesIn K (.builtin "object.__class__")=some true)
      (hm : PySem.W.mroIn K C (.type "object")=some true) : TyOf K H (.ref a) (.ref C)
theorem isinst_ok {x : V} {u t : Value} (I : Inv X pins σ H s) (rx : RelV x u) (ty : TyOf X.K H x t) (e : PySem.W.kitOne X.K t c=some b) (h : ∀ tk,Q (.bool b) { s with toks:=tk }) :
    wpAny (model X.prog X.w) A (call (.builtin "isinstance") [u,c]) Q E s:=by
  cases ty with
  | non=>cases (show u=Value.none from rx); exact PySem.W.kia_one PySem.W.kitx_none I.kIn True.intro e (fun z=>nomatch z) h
  | bl y=>cases (show u=Value.bool y from rx); exact PySem.W.kia_one PySem.W.kitx_bool I.kIn True.intro e (fun z=>nomatch z) h
  | int i=>obtain ⟨t,q⟩:=(show ∃ t,u=Value.int i t from rx); cases q; exact PySem.W.kia_one PySem.W.kitx_int I.kIn True.intro e (fun z=>nomatch z) h
  | str y=>obtain ⟨t,q⟩:=(show ∃ t,u=Value.str y t from rx); cases q; exact PySem.W.kia_one PySem.W.kitx_str I.kIn True.intro e (fun z=>nomatch z) h
  | flt y=>obtain ⟨t,q⟩:=(show ∃ t,u=Value.float y t from rx); cases q; exact PySem.W.kia_one PySem.W.kitx_float I.kIn True.intro e (fun z=>nomatch z) h
  | @lst a xs ea=>
    cases (show u=Value.ref a from rx)
    obtain ⟨_,_,n,_,h1⟩:=(show ObjOk X.prog X.w H s.heap a (.lst xs) from I.hok a _ ea)
    exact PySem.W.kia_one PySem.W.kitx_list I.kIn ⟨_,h1,rfl⟩ e (fun z=>nomatch z) h
  | @frz a ob xs ea=>
    cases (show u=Value.ref a from rx)
    obtain ⟨_,_,_,n,_,h1⟩:=(show ObjOk X.prog X.w H s.heap a (.frz ob (.lst xs)) from I.hok a _ ea)
    exact PySem.W.kia_one PySem.W.kitx_list I.kIn ⟨_,h1,rfl⟩ e (fun z=>nomatch z) h
  | @tup a xs ea=>
    cases (show u=Value.ref a from rx)
    obtain ⟨_,_,_,p⟩:=(show ObjOk X.prog X.w H s.heap a (.tup xs) from I.hok a _ ea)
    obtain ⟨o,h1,h2,_⟩:=p
    exact PySem.W.kia_one PySem.W.kitx_tuple I.kIn ⟨o,h1,h2⟩ e (fun z=>nomatch z) h
  | @dK a kvs ea=>
    cases (show u=Value.ref a from rx)
    obtain ⟨_,_,vs,_,p⟩:=(show ObjOk X.prog X.w H s.heap a (.dK kvs) from I.hok a _ ea)
    obtain ⟨o,es,ep,h1,h2,_⟩:=p
    exact PySem.W.kia_one PySem.W.kitx_dict I.kIn ⟨o,h1,h2.1⟩ e (fun z=>nomatch z) h
  | @dT a kvs ea=>
    cases (show u=Value.ref a from rx)
    obtain ⟨_,_,xs,_,o,es,ep,h1,h2,_⟩:=(show ObjOk X.prog X.w H s.heap a (.dT kvs) from I.hok a _ ea)
    exact PySem.W.kia_one PySem.W.kitx_dict I.kIn ⟨o,h1,h2.1⟩ e (fun z=>nomatch z) h
  | @ins a C dx fs ea cl ha hn htk hm=>
    cases (show u=Value.ref a from rx)
    obtain ⟨mA,O,_⟩:=ins_get I.hok ea
    obtain ⟨od,J,_⟩:=O.look
    exact PySem.W.kia_one (PySem.W.kitx_own (cl.get _) cl.hd ha hn htk hm) I.kIn J e (fun z=>nomatch z) h
end
end L2
namespace L2
open PySem PySem.Spec PyProof.Rows
structure Room (k : Nat) (A : Around) : Prop where
  hd : A.handled=none
  dp : A.depth + 3 * k + 5 < recursionLimit
  un : A.units + 16 * k + 200 < cLine
theorem Room.mono {j k : Nat} {A : Around} (r : Room k A) (h : j≤k) : Room j A:=⟨r.hd,by have:=r.dp; omega,by have:=r.un; omega⟩
theorem Room.deeper {k : Nat} {A : Around} (r : Room (k + 1) A) (env : Env) : Room k (A.deeper env):=
  ⟨r.hd,by have:=r.dp; show A.depth + 1 + 3 * k + 5 < _; omega,by have:=r.un; show A.units + 3 + 16 * k + 200 < _; omega⟩
theorem Room.depth {k : Nat} {A : Around} (r : Room k A) : A.depth < recursionLimit:=by have:=r.dp; omega
theorem Room.units {k : Nat} {A : Around} (r : Room k A) : A.units + 64 < cLine:=by have:=r.un; omega
def tNil : TA:=fun _ H Q=>Q [] H
def tCons (ta : TE) (tr : TA) : TA:=fun σ H Q=>ta σ H fun x H1=>tr σ H1 fun xs H2=>Q (x :: xs) H2
section
variable {X : Cx} {e : Expr} {es : List Expr} {te : TE} {t : TA} {pos : Pos}
theorem pa_nil : PA X [] tNil:=fun _ _ _ _ H Q I h=>Calls.spliced_nil ⟨[],H,I,.nil,h⟩
theorem pa_cons (ha : PE X e te) (hr : PA X es t) (hs : starEach (e :: es) X.env=(false,eval e X.env) :: starEach es X.env:=by rfl) : PA X (e :: es) (tCons te t):=by
  intro pos pins s σ H Q I h
  rw [hs]
  show wpAny _ _ (spliced ((false,eval e X.env) :: backTo pos (starEach es X.env))) _ _ s
  refine Calls.spliced_cons (thn (ha pins s σ H _ I h) fun u s1 ⟨x,H1,I1,r1,q1⟩=>?_)
  exact thn (hr pos pins s1 σ H1 _ I1 q1) fun us s2 ⟨xs,H2,I2,r2,q2⟩=>⟨x :: xs,H2,I2,.cons r1 r2,q2⟩
def tTup (t : TA) : TE:=fun σ H Q=>t σ H fun xs H1=>xs.length≤sizeLine∧∀ p,H1 p=none→Q (.ref p) (upd H1 p (.tup xs))
def tLst (t : TA) : TE:=fun σ H Q=>t σ H fun xs H1=>xs.length≤sizeLine∧∀ p,H1 p=none→Q (.ref p) (upd H1 p (.lst xs))
theorem pe_tup {x1} (h : PA X es t) : PE X (.Tuple es x1 pos) (tTup t):=by
  intro pins s σ H Q I hq
  refine wpAny_Tuple_spliced (thn (h pos pins s σ H _ I hq) fun us s1 ⟨xs,H1,I1,r,z,q⟩=>⟨by rw [← r.length]; exact z,?_⟩)
  have hf : H1 s1.heap.objs.size=none:=I1.hok.fresh (Nat.le_refl _)
  refine ⟨.ref s1.heap.objs.size,upd H1 s1.heap.objs.size (.tup xs),I1.laid (t':=s1.toks) (fun b u e=>Heap.get?_push_of_some _ e) (Nat.le_refl _) ?_,rfl,q _ hf⟩
  exact ⟨z,us,r,⟨_,Heap.get?_push_size _ rfl,rfl,_,rfl⟩⟩
theorem pe_lst (h : PA X es t) : PE X (.List es pos) (tLst t):=by
  intro pins s σ H Q I hq
  refine wpAny_List_spliced (thn (h pos pins s σ H _ I hq) fun us s1 ⟨xs,H1,I1,r,z,q⟩=>⟨by rw [← r.length]; exact z,?_⟩)
  have hf : H1 s1.heap.objs.size=none:=I1.hok.fresh (Nat.le_refl _)
  refine ⟨.ref s1.heap.objs.size,upd H1 s1.heap.objs.size (.lst xs),I1.laid (t':=s1.toks) (fun b u e=>Heap.get?_push_of_some _ e) (Nat.le_refl _) ?_,rfl,q _ hf⟩
  exact ⟨z,us,0,r,Heap.get?_push_size _ rfl⟩
end
abbrev Sp:=List V→Hp→VK→XK→Prop
abbrev CXT:=List Env→Hp→Shared→XK→Value→Shared→Prop
structure Env0 (P : Program) (w : World) (K : PySem.W.Frag) (mg : Str→Option Value) (base : Heap) (A : Around) (outer : List Env) (s : Shared) (H : Hp) : Prop where
  frames : A.frames=some outer
  mod : Mod K mg base
  bs : ∀ b o,base.get? b=some o→s.heap.get? b=some o∧H b=none
  bsz : base.objs.size≤s.heap.objs.size
  funs : s.heap.FunFrames base outer
  frf : ∀ b∈frs outer,H b=none
  hok : HOk P w H s.heap
  bare : AllBare s.gens
def CE (outer : List Env) (P : Program) (w : World) (H : Hp) (s : Shared) (Q : VK) (u : Value) (s' : Shared) : Prop:=
  ∃ v H',s'.os=s.os∧AllBare s'.gens∧Un (frs outer) [] H H' s.heap s'.heap∧HOk P w H' s'.heap∧RelV v u∧Q v H'
def CR (CX : CXT) (outer : List Env) (P : Program) (w : World) (H : Hp) (s : Shared) (Q : VK) (E : XK) (r : Result) (s' : Shared) : Prop:=
  match r with
  | .ok (.ret u)=>CE outer P w H s Q u s'
  | .ok _=>False
  | .error e=>CX outer H s E e s'
structure FnOk (P : Program) (w : World) (K : PySem.W.Frag) (mg : Str→Option Value) (base : Heap) (CX : CXT) (k : Nat) (f : Addr) (fd : FuncData) (ps : List Str) (sp : Sp) : Prop where
  len : ∀ vs H Q E,sp vs H Q E→vs.length=ps.length
  run : ∀ (A : Around) (outer : List Env) (s : Shared) (H : Hp) (args : Args) (us : List Value) (vs : List V) (Q : VK) (E : XK),Room k A→Env0 P w K mg base A outer s H→BindsTo s fd args (ps.zip us)→Vals vs us→sp vs H Q E→
    codeAny (model P w) A (.call (.ref f) args) (CR CX outer P w H s Q E) s
theorem FnOk.mono {P : Program} {w : World} {K : PySem.W.Frag} {mg : Str→Option Value} {base : Heap} {CX : CXT} {j k : Nat} {f : Addr} {fd : FuncData} {ps : List Str} {sp : Sp} (F : FnOk P w K mg base CX j f fd ps sp) (h : j≤k) :
    FnOk P w K mg base CX k f fd ps sp:=⟨F.len,fun A outer s H args us vs Q E hr=>F.run A outer s H args us vs Q E (hr.mono h)⟩
section
variable {X : Cx} {pins : List (Addr×Obj)} {σ : St} {H : Hp} {s s' : Shared}
theorem Inv.env0 (I : Inv X pins σ H s) : Env0 X.prog X.w X.K X.mg X.base X.A X.stack s H:=
  ⟨I.ok.frames,I.ok.mod,I.bs,Nat.le_trans I.ok.bsz I.sz,I.stack,I.stkFree,I.hok,I.bare⟩
theorem Inv.after {Q : VK} {u : Value} (I : Inv X pins σ H s) (h : CE X.stack X.prog X.w H s Q u s') : EP X pins σ Q u s':=by
  obtain ⟨v,H',os,bare,un,hok,r,q⟩:=h
  obtain ⟨hh,g,d,t,os'⟩:=s'
  obtain rfl : os' = s.os:=os
  exact ⟨v,H',I.call (h':=hh) (g':=g) (d':=d) (t':=t) (ch:=[]) un hok bare (fun b z=>absurd z (by simp)),r,q⟩
end
def tCall (sp : Sp) (dvs : List V) (E : XK) (t : TA) : TE:=fun σ H Q=>t σ H fun vs H1=>sp (vs ++ dvs) H1 Q E
def Binds (K : PySem.W.Frag) (fd : FuncData) (ps : List Str) (ds : List Value) : Prop:=
  ∀ (s : Shared) (us : List Value),K.In s.heap→(us ++ ds).length=ps.length→BindsTo s fd ⟨us,[]⟩ (ps.zip (us ++ ds))
theorem Binds.all {K : PySem.W.Frag} {fd : FuncData} {ps : List Str} (h : ∀ us : List Value,us.length=ps.length→bindArgs fd ⟨us,[]⟩=pure (ps.zip us)) : Binds K fd ps []:=fun s us _ hl=>by
  rw [List.append_nil] at hl ⊢
  exact .of_eq (h us hl)
def Passes (CX : CXT) (X : Cx) (E : XK) : Prop:=∀ (pins : List (Addr×Obj)) (σ : St) (H : Hp) (s : Shared) (e : Value) (s' : Shared),Inv X pins σ H s→CX X.stack H s E e s'→X.xe e s'
section
variable {X : Cx} {CX : CXT} {k : Nat} {f C : Addr} {fd : FuncData} {ps : List Str} {sp : Sp} {dvs : List V} {ds : List Value} {E : XK} {x m : Str} {p pos apos : Pos} {e o : Expr} {es : List Expr} {ta : TE} {t : TA}
theorem run_fn {pins : List (Addr×Obj)} {σ : St} {H : Hp} {s : Shared} {Q : VK} {us : List Value} {vs : List V} (F : FnOk X.prog X.w X.K X.mg X.base CX k f fd ps sp) (hr : Room k X.A) (hb : Binds X.K fd ps ds) (hd : Vals dvs ds) (hx : Passes CX X E)
    (I : Inv X pins σ H s) (r : Vals vs us) (h : sp (vs ++ dvs) H Q E) : wpAny (model X.prog X.w) X.A (call (.ref f) us) (EP X pins σ Q) X.xe s:=by
  have r2 : Vals (vs ++ dvs) (us ++ ds):=r.append hd
  have hl : (us ++ ds).length=ps.length:=by rw [← r2.length]; exact F.len _ _ _ _ h
  refine wpAny_call (codeAny_mono (F.run X.A X.stack s H ⟨us,[]⟩ (us ++ ds) (vs ++ dvs) Q E hr I.env0 (hb s us I.kIn hl) r2 h) fun r s' hq=>?_)
  cases r with
  | error e=>exact hx pins σ H s e s' I hq
  | ok fl=>
    cases fl with
    | ret u=>exact I.after hq
    | next=>exact False.elim hq
    | brk=>exact False.elim hq
    | cont=>exact False.elim hq
theorem pe_call (F : FnOk X.prog X.w X.K X.mg X.base CX k f fd ps sp) (hr : Room k X.A) (hg : Gl X x) (hm : X.mg x=some (.ref f)) (hk : PySem.W.keepIn X.K (.ref f)=true) (hb : Binds X.K fd ps ds) (hd : Vals dvs ds) (hx : Passes CX X E)
    (ha : PA X (e :: es) t) (hdb : (x == ("__debug__" : Str))=false:=by decide) (he : starEach (e :: es) X.env=(false,eval e X.env) :: starEach es X.env:=by rfl) (hpl : (backTo pos (starEach es X.env)).any (·.1)=false:=by rfl) :
    PE X (.Call (.Name x p) (e :: es) [] pos) (tCall sp dvs E t):=by
  intro pins s σ H Q I h
  refine wpAny_Call_Name_kw (ld_glob I hg hm ?_ hdb)
  refine PySem.W.callWith_K (h₀:=X.base) I.ok.mod.kin hk (thn (ha pos pins s σ H _ I h) fun us s1 ⟨vs,H1,I1,r,q⟩=>⟨I1.kIn,?_⟩) he hpl
  exact run_fn F hr hb hd hx I1 r q
end
section
variable {X : Cx} {CX : CXT} {k : Nat} {f C : Addr} {fd : FuncData} {ps ks : List Str} {sp : Sp} {E : XK} {x m : Str} {p pos apos kpos : Pos} {e o : Expr} {es : List Expr} {kws : List Keyword} {te ta : TE} {t tk : TA} {nm : Option Str}
variable {g : List Value→List Value→List Value} {gV : List V→List V→List V}
end
structure FnScope (N P : List Str) (sc : Scope) : Prop where
  kind : sc.kind = .function
  co : sc.isCoroutine=false
  gen : sc.isGenerator=false
  nd : N.Nodup
  pre : N.take P.length=P
  par : ∀ x∈P,sc.names.lookup x=some .local∨sc.names.lookup x=some .cell
  nofree : ∀ y∈sc.names,y.2≠.free
theorem bindL_out {kindOf : Str→Option NameKind} {x : Str} : ∀ {binds : List (Str×Value)} {m : Str→Option Value},(∀ v,(x,v) ∉ binds)→bindL kindOf binds m x=m x
  | [],_,_=>rfl
  | (n,v) :: r,m,h=>by
    unfold bindL
    rw [bindL_out fun w hw=>h w (List.mem_cons_of_mem _ hw)]
    split
    · have : x≠n:=by rintro rfl; exact h v List.mem_cons_self
      simp [this]
    · rfl
theorem bindC_out {kindOf : Str→Option NameKind} {x : Str} : ∀ {binds : List (Str×Value)} {m : Str→Option Value},(∀ v,(x,v) ∉ binds)→bindC kindOf binds m x=m x
  | [],_,_=>rfl
  | (n,v) :: r,m,h=>by
    unfold bindC
    rw [bindC_out fun w hw=>h w (List.mem_cons_of_mem _ hw)]
    split
    · rfl
    · have : x≠n:=by rintro rfl; exact h v List.mem_cons_self
      simp [this]
theorem bindL_get {kindOf : Str→Option NameKind} {x : Str} {v : Value} : ∀ {P : List Str} {vs : List Value} {i : Nat} {m : Str→Option Value},P.Nodup→P[i]? = some x→vs[i]? = some v→kindOf x=some .local→
    bindL kindOf (P.zip vs) m x=some v
  | [],_,_,_,_,h,_,_=>by simp at h
  | _ :: _,[],_,_,_,_,h,_=>by simp at h
  | p :: P,w :: vs,0,m,nd,h1,h2,hk=>by
    simp at h1 h2; subst h1; subst h2
    show bindL kindOf ((p,w) :: P.zip vs) m p=_
    unfold bindL
    rw [bindL_out fun v hv=>(List.nodup_cons.mp nd).1 (List.of_mem_zip hv).1,if_pos hk]
    simp
  | p :: P,w :: vs,i + 1,m,nd,h1,h2,hk=>by
    show bindL kindOf ((p,w) :: P.zip vs) m x=_
    unfold bindL
    exact bindL_get (i:=i) (List.nodup_cons.mp nd).2 (by simpa using h1) (by simpa using h2) hk
theorem bindC_get {kindOf : Str→Option NameKind} {x : Str} {v : Value} : ∀ {P : List Str} {vs : List Value} {i : Nat} {m : Str→Option Value},P.Nodup→P[i]? = some x→vs[i]? = some v→kindOf x≠some .local→
    bindC kindOf (P.zip vs) m x=some v
  | [],_,_,_,_,h,_,_=>by simp at h
  | _ :: _,[],_,_,_,_,h,_=>by simp at h
  | p :: P,w :: vs,0,m,nd,h1,h2,hk=>by
    simp at h1 h2; subst h1; subst h2
    show bindC kindOf ((p,w) :: P.zip vs) m p=_
    unfold bindC
    rw [bindC_out fun v hv=>(List.nodup_cons.mp nd).1 (List.of_mem_zip hv).1,if_neg hk]
    simp
  | p :: P,w :: vs,i + 1,m,nd,h1,h2,hk=>by
    show bindC kindOf ((p,w) :: P.zip vs) m x=_
    unfold bindC
    exact bindC_get (i:=i) (List.nodup_cons.mp nd).2 (by simpa using h1) (by simpa using h2) hk
def start (N : List Str) (vs : List V) : St:=vs.map some ++ List.replicate (N.length - vs.length) none
def cxOf (CX : CXT) (P : Program) (w : World) (K : PySem.W.Frag) (mg : Str→Option Value) (base : Heap) (N : List Str) (qual : Str) (scope : Scope) (f : Addr) (cd : Value) (A : Around) (outer : List Env) (s : Shared) (H : Hp) (E : XK) : Cx where
  prog:=P
  w:=w
  K:=K
  mg:=mg
  base:=base
  A:=A.deeper (envOfC qual scope s.heap.objs.size f cd)
  N:=N
  s₀:=s
  H₀:=H
  env:=envOfC qual scope s.heap.objs.size f cd
  outer:=outer
  stack:=envOfC qual scope s.heap.objs.size f cd :: outer
  ex:=[]
  calm:=true
  fn:=fun _=>true
  pn:=[]
  xe:=fun e s'=>wpAny (model P w) (A.deeper (envOfC qual scope s.heap.objs.size f cd)) (leaving (envOfC qual scope s.heap.objs.size f cd) e) (fun _ s''=>CX outer H s E e s'') (fun e' s''=>CX outer H s E e' s'') s'
theorem cell_has {sc : Scope} {n : Nat} {x : Str} (h : sc.names.lookup x=some .cell) : ∃ c,(cellsFrom n sc.names []).lookup x=some c:=by
  have q:=PySem.W.cellsFrom_some sc.names n [] (.inl h)
  exact Option.isSome_iff_exists.mp q
theorem inv_start {CX : CXT} {P : Program} {w : World} {K : PySem.W.Frag} {mg : Str→Option Value} {base : Heap} {N ps : List Str} {qual : Str} {scope : Scope} {f : Addr} {cd : Value} {A : Around} {outer : List Env} {s s1 : Shared} {H : Hp} {E : XK} {us : List Value} {vs : List V}
    (S : FnScope N ps scope) (hd : A.handled=none) (e0 : Env0 P w K mg base A outer s H) (hl : vs.length=ps.length) (r : Vals vs us)
    (x : InCallC s s.heap.objs.size (bindL (envOfC qual scope s.heap.objs.size f cd).kindOf (ps.zip us) fun _=>none) (cellsFrom (s.heap.objs.size + 1) scope.names []) (bindC (envOfC qual scope s.heap.objs.size f cd).kindOf (ps.zip us) fun _=>none) s1) :
    Inv (cxOf CX P w K mg base N qual scope f cd A outer s H E) [] (start N vs) H s1:=by
  have hpl : ps.length≤N.length:=by have:=congrArg List.length S.pre; rw [List.length_take] at this; omega
  obtain ⟨h1,tk,rfl,hk⟩:=x.done
  have noA : ∀ b : Addr,b ∉ (cxOf CX P w K mg base N qual scope f cd A outer s H E).ex:=fun b z=>absurd (show b∈([] : List Addr) from z) (by simp)
  refine ⟨⟨e0.mod,S.kind,rfl,rfl,Nat.le_refl _,fun y z c h1 h2=>?_,fun y hy=>?_,fun y c _ h=>?_,fun _=>hd,Around.frames_deeper e0.frames,.inr ⟨rfl,rfl⟩,fun b z=>absurd z (noA b),e0.bs,e0.bsz,fun b _ _=>noA b,fun b z=>absurd z (noA b),e0.funs,e0.frf⟩,
    rfl,e0.bare,Un.kept hk,⟨_,x.toInCall.ns,fun i y v h1 h2 h3=>?_⟩,fun y c h=>⟨_,x.cell y c h⟩,e0.hok.fresh (Nat.le_refl _),fun y c h=>?_,fun p hp=>absurd (show p∈([] : List (Addr×Obj)) from hp) (by simp),e0.hok.kept hk,?_⟩
  · exact name_of_addr x.apart (PySem.mem_of_lookup h1) (PySem.mem_of_lookup h2)
  · have hy : scope.names.lookup y=some .cell∨scope.names.lookup y=some .free:=hy
    rcases hy with hy | hy
    · exact cell_has hy
    · exact absurd rfl (S.nofree _ (PySem.mem_of_lookup hy))
  · exact Nat.le_of_lt (x.above y c (PySem.mem_of_lookup h))
  · have hi : i < vs.length:=by
      unfold start at h2
      by_cases hi : i < vs.length
      · exact hi
      · rw [List.getElem?_append_right (by simpa using hi)] at h2
        rw [List.getElem?_replicate] at h2
        split at h2 <;> cases h2
    have ha : vs[i]? = some v:=by
      unfold start at h2
      rw [List.getElem?_append_left (by simpa using hi),List.getElem?_map] at h2
      cases e : vs[i]? with
      | none=>rw [e] at h2; cases h2
      | some a=>rw [e] at h2; cases h2; rfl
    obtain ⟨u,hu,rv⟩:=r.get ha
    have hp : ps[i]? = some y:=by
      rw [← S.pre,List.getElem?_take_of_lt (by omega)]; exact h1
    have ndP : ps.Nodup:=by rw [← S.pre]; exact S.nd.sublist (List.take_sublist _ _)
    refine ⟨u,rv,?_⟩
    rcases S.par y (List.mem_of_getElem? hp) with k | k
    · exact .inl ⟨k,bindL_get ndP hp hu k⟩
    · obtain ⟨c,e⟩:=cell_has (n:=s.heap.objs.size + 1) k
      refine .inr ⟨.inl k,c,e,?_⟩
      have q:=x.cell y c e
      rw [bindC_get ndP hp hu (by show scope.names.lookup y≠_; rw [k]; decide)] at q
      exact q
  · exact e0.hok.fresh (Nat.le_of_lt (x.above y c (PySem.mem_of_lookup h)))
  · unfold start
    show _=N.length
    rw [List.length_append,List.length_map,List.length_replicate]
    omega
theorem fn_of {CX : CXT} {P : Program} {w : World} {K : PySem.W.Frag} {mg : Str→Option Value} {base : Heap} {k : Nat} {f : Addr} {name qual : Str} {params : Arguments} {body : List Stmt} {scope : Scope} {dV kV doc pm cdv ct oc : Value} {an od : Option Addr}
    {osl : Array (Option Value)} {N ps : List Str} {sp : Sp} (lk : K.lookup f=some ⟨oc,od,.func (PySem.W.fnOf name qual params body scope dV kV doc pm an cdv ct),osl⟩) (hcd : PySem.W.codeIn K cdv qual=true) (S : FnScope N ps scope)
    (len : ∀ vs H Q E,sp vs H Q E→vs.length=ps.length)
    (hbody : ∀ (A : Around) (outer : List Env) (s : Shared) (H : Hp) (vs : List V) (Q : VK) (E : XK),Room k (A.deeper (envOfC qual scope s.heap.objs.size f cdv))→sp vs H Q E→
      ∃ t,PSs (cxOf CX P w K mg base N qual scope f cdv A outer s H E) body t∧t { nx:=fun _ H'=>Q .non H',rt:=Q } (start N vs) H) :
    FnOk P w K mg base CX (k + 1) f (PySem.W.fnOf name qual params body scope dV kV doc pm an cdv ct) ps sp:=by
  refine ⟨len,fun A outer s H args us vs Q E hr e0 hb r hsp=>?_⟩
  have hl:=len _ _ _ _ hsp
  have KX : K.In s.heap:=e0.mod.kin.keeps fun b o e=>(e0.bs b o e).1
  have lim : s.heap.NoLimit:=e0.mod.nolimit.keeps fun b o e=>(e0.bs b o e).1
  have hkind : ∀ y∈ps.zip us,scope.names.lookup y.1=some .local∨(scope.names.lookup y.1=some .cell∧((cellsFrom (s.heap.objs.size + 1) scope.names []).lookup y.1).isSome=true):=fun ⟨n,v⟩ hy=>by
    rcases S.par n (List.of_mem_zip hy).1 with q | q
    · exact .inl q
    · exact .inr ⟨q,PySem.W.cellsFrom_some _ _ _ (.inl q)⟩
  refine codeAny_call_function hr.depth (KX _ _ lk) rfl S.co S.gen rfl (PySem.W.codeRec_of KX hcd) (hb _ _ _ _ ?_)
  refine wpAny_newFunctionEnv_cells S.kind hkind fun env he s1 x=>?_
  subst he
  refine ⟨lim.keeps x.toInCall.keep,codeAny_func ?_⟩
  obtain ⟨t,ht,hq⟩:=hbody A outer s H vs Q E (hr.deeper _) hsp
  have I : Inv (cxOf CX P w K mg base N qual scope f cdv A outer s H E) [] (start N vs) H s1:=inv_start S hr.hd e0 hl r x
  refine wpAny_mono (ht [] s1 (start N vs) H _ I hq) (fun fl s' hs=>?_) fun e s' hs=>hs
  have fin : ∀ {σ' : St} {H' : Hp} {v : V} {u : Value},Inv (cxOf CX P w K mg base N qual scope f cdv A outer s H E) [] σ' H' s'→RelV v u→Q v H'→CE outer P w H s Q u s':=
    fun {σ' H' v u} J rv q=>⟨v,H',J.os,J.bare,J.base,J.hok,rv,q⟩
  cases fl with
  | ret u=>
    obtain ⟨v,σ',H',J,rv,q⟩:=hs
    exact fin J rv q
  | next=>
    obtain ⟨σ',H',J,q⟩:=hs
    exact fin (v:=V.non) (u:=Value.none) J rfl q
  | brk=>
    obtain ⟨_,_,_,q⟩:=hs
    exact False.elim q
  | cont=>
    obtain ⟨_,_,_,q⟩:=hs
    exact False.elim q
end L2
namespace L2
open PySem PySem.Spec PyProof.Rows
section
variable {X : Cx} {x : Str} {p pos : Pos} {e : Expr} {es : List Expr} {t : TA} {id T : String} {r : List V→Hp→VK→Prop}
def tCB (r : List V→Hp→VK→Prop) (t : TA) : TE:=fun σ H Q=>t σ H fun vs H1=>r vs H1 Q
theorem pe_callB (hc : CallR X (.builtin id) r) (hg : Gl X x) (hm : X.mg x=none) (hv : bootBuiltins x=some (.builtin id)) (ha : PA X (e :: es) t) (hn : x ≠ "__name__" := by decide) (hdb : (x == ("__debug__" : Str))=false:=by decide)
    (he : starEach (e :: es) X.env=(false,eval e X.env) :: starEach es X.env:=by rfl) (hpl : (backTo pos (starEach es X.env)).any (·.1)=false:=by rfl) : PE X (.Call (.Name x p) (e :: es) [] pos) (tCB r t):=by
  intro pins s σ H Q I h
  refine wpAny_Call_Name_kw (ld_blt I hg hm hv ?_ hn hdb)
  exact PyProof.Rows.callWith_builtin1 (thn (ha pos pins s σ H _ I h) fun us s1 ⟨vs,H1,I1,r1,q1⟩=>hc pins s1 σ H1 vs us Q I1 r1 q1) he hpl
theorem pe_callTy (hc : CallR X (.type T) r) (hg : Gl X x) (hm : X.mg x=none) (hv : bootBuiltins x=some (.type T)) (ha : PA X (e :: es) t) (hn : x ≠ "__name__" := by decide) (hdb : (x == ("__debug__" : Str))=false:=by decide)
    (he : starEach (e :: es) X.env=(false,eval e X.env) :: starEach es X.env:=by rfl) (hpl : (backTo pos (starEach es X.env)).any (·.1)=false:=by rfl) : PE X (.Call (.Name x p) (e :: es) [] pos) (tCB r t):=by
  intro pins s σ H Q I h
  refine wpAny_Call_Name_kw (ld_blt I hg hm hv ?_ hn hdb)
  exact PyProof.Rows.callWith_type1 (thn (ha pos pins s σ H _ I h) fun us s1 ⟨vs,H1,I1,r1,q1⟩=>hc pins s1 σ H1 vs us Q I1 r1 q1) he hpl
end
end L2
namespace HT
open PySem PyProof.Rows
section
open PySem.SeqAt
open PySem.AutoSeq1 (wpAny_loadPart')
open PySem.MeetsSeq PySem.MeetsSeq2 PySem.MeetsSeq3
end
section
variable {prog : Program} {w : World} {A : Around} {E : Value→Shared→Prop} {s : Shared}
def sIx (n d : Nat) : Option Int→Nat
  | none=>d
  | some v=>if v < 0 then (v + (n : Int)).toNat else min v.toNat n
end
end HT
namespace L2
open PySem PySem.Spec PyProof.Rows
abbrev TO:=St→Hp→(Option Int→Hp→Prop)→Prop
def PO (X : Cx) (e : Option Expr) (t : TO) : Prop:=
  ∀ (pins : List (Addr×Obj)) (s : Shared) (σ : St) (H : Hp) (Q : Option Int→Hp→Prop),Inv X pins σ H s→t σ H Q→
    wpAny (model X.prog X.w) X.A (evalPart e X.env) (fun u s'=>∃ o H',Inv X pins σ H' s'∧IsPart u o∧Q o H') X.xe s
def tNoPart : TO:=fun _ H Q=>Q none H
def tPart (t : TE) : TO:=fun σ H Q=>t σ H fun x H1=>∃ i,x = .int i∧Q (some i) H1
section
variable {X : Cx} {e : Expr} {te : TE} {lo hi : Option Expr} {tl th : TO} {pos p2 : Pos}
theorem po_none : PO X none tNoPart:=by
  intro pins s σ H Q I h
  rw [evalPart_none]
  exact wpAny_pure ⟨none,H,I,.none,h⟩
theorem po_some (h : PE X e te) : PO X (some e) (tPart te):=by
  intro pins s σ H Q I hw
  rw [evalPart_some]
  refine thn (h pins s σ H _ I hw) fun u s1 ⟨x,H1,I1,r1,q1⟩=>?_
  obtain ⟨i,rfl,q⟩:=q1
  obtain ⟨t,rfl⟩:=r1
  exact ⟨some i,H1,I1,.int i t,q⟩
def SlR (X : Cx) (r : V→Option Int→Option Int→Hp→VK→Prop) : Prop:=
  ∀ (pins : List (Addr×Obj)) (s : Shared) (σ : St) (H : Hp) (x : V) (v vl vu : Value) (lo hi : Option Int) (sl : Addr) (Q : VK),Inv X pins σ H s→RelV x v→s.heap.IsSliceOf sl vl vu .none→IsPart vl lo→IsPart vu hi→r x lo hi H Q→
    ∃ T id,typeLookup (.type T) "__getitem__" = pure (some (.builtin id))∧s.TypeIs v T∧wpAny (model X.prog X.w) X.A (getItem v (.ref sl)) (EP X pins σ Q) X.xe s
def tSl (r : V→Option Int→Option Int→Hp→VK→Prop) (te : TE) (tl th : TO) : TE:=fun σ H Q=>te σ H fun x H1=>tl σ H1 fun l H2=>th σ H2 fun u H3=>r x l u H3 Q
theorem pe_slice {r : V→Option Int→Option Int→Hp→VK→Prop} (hr : SlR X r) (he : PE X e te) (hl : PO X lo tl) (hu : PO X hi th) : PE X (.Subscript e (.Slice lo hi none p2) pos) (tSl r te tl th):=by
  intro pins s σ H Q I h
  refine Subscript_ (thn (he pins s σ H _ I h) fun v s1 ⟨x,H1,I1,r1,q1⟩=>?_)
  refine wpAny_Slice (thn (hl pins s1 σ H1 _ I1 q1) fun vl s2 ⟨l,H2,I2,pl,q2⟩=>thn (hu pins s2 σ H2 _ I2 q2) fun vu s3 ⟨u,H3,I3,pu,q3⟩=>?_)
  rw [evalPart_none]
  refine wpAny_pure ?_
  have I4 : Inv X pins σ H3 { s3 with heap:=s3.heap.push { cls:=.type "slice",data:=.fields #[vl,vu,.none] } }:=I3.kept (t':=s3.toks) fun b ob q=>Heap.get?_push_of_some _ q
  obtain ⟨T,id,hT,ht,hg⟩:=hr pins { s3 with heap:=s3.heap.push { cls:=.type "slice",data:=.fields #[vl,vu,.none] } } σ H3 x v vl vu l u s3.heap.objs.size Q I4 r1 (Heap.IsSliceOf.new ..) pl pu q3
  show wpAny (model X.prog X.w) X.A (subscriptTail e (.Slice lo hi none p2) v (.ref s3.heap.objs.size)) (EP X pins σ Q) X.xe { s3 with heap:=s3.heap.push { cls:=.type "slice",data:=.fields #[vl,vu,.none] } }
  exact tail_any (ops:=[.ref s3.heap.objs.size,v]) ht hT hg (by with_unfolding_all rfl)
def cutV (xs : List V) (lo hi : Option Int) : List V:=(xs.drop (HT.sIx xs.length 0 lo)).take (HT.sIx xs.length xs.length hi - HT.sIx xs.length 0 lo)
theorem cutV_length (xs : List V) (lo hi : Option Int) : (cutV xs lo hi).length≤xs.length:=by
  unfold cutV
  rw [List.length_take,List.length_drop]
  omega
end
end L2
namespace L2
open PySem PySem.Spec PyProof.Rows
def ixN (n : Nat) (i : Int) : Option Nat:=if 0≤i then (if i < n then some i.toNat else none) else if -(n : Int)≤i then some (i + n).toNat else none
def atI {α : Type} (xs : List α) (i : Int) : Option α:=(ixN xs.length i).bind fun j=>xs[j]?
theorem ixN_seq {n : Nat} {i : Int} {j : Nat} (h : ixN n i=some j) : seqIndex? i n=some j∧j < n∧-(n : Int)≤i∧i < n:=by
  unfold ixN at h
  by_cases h0 : 0≤i
  · rw [if_pos h0] at h
    by_cases h1 : i < n
    · rw [if_pos h1] at h
      have e : i.toNat=j:=Option.some.inj h
      exact ⟨by rw [seqIndex_of h0 h1,e],by omega,by omega,h1⟩
    · rw [if_neg h1] at h; cases h
  · rw [if_neg h0] at h
    by_cases h1 : -(n : Int)≤i
    · rw [if_pos h1] at h
      have e : (i + n).toNat=j:=Option.some.inj h
      exact ⟨by rw [seqIndex_neg (by omega) h1,e],by omega,h1,by omega⟩
    · rw [if_neg h1] at h; cases h
theorem atI_get {α : Type} {xs : List α} {i : Int} {v : α} (h : atI xs i=some v) : ∃ j,seqIndex? i xs.length=some j∧xs[j]? = some v∧j < xs.length∧-(xs.length : Int)≤i∧i < xs.length:=by
  unfold atI at h
  cases e : ixN xs.length i with
  | none=>rw [e] at h; cases h
  | some j=>
    rw [e] at h
    obtain ⟨h1,h2,h3,h4⟩:=ixN_seq e
    exact ⟨j,h1,h,h2,h3,h4⟩
theorem atI_nat {α : Type} {xs : List α} {j : Nat} {v : α} (h : xs[j]? = some v) : atI xs (j : Int)=some v:=by
  have hj : j < xs.length:=(List.getElem?_eq_some_iff.mp h).1
  have e : ixN xs.length (j : Int)=some j:=by
    unfold ixN
    rw [if_pos (by omega),if_pos (by omega)]; simp
  unfold atI; rw [e]; exact h
def PlainIx (b : Expr) : Prop:=∀ o i,subscripted b false o i=operate [o,i] (getItem o i)
def IxR (X : Cx) (r : R2) : Prop:=
  ∀ (value slice : Expr) (pins : List (Addr×Obj)) (s : Shared) (σ : St) (H : Hp) (x y : V) (v u : Value) (Q : VK),Inv X pins σ H s→RelV x v→RelV y u→r x y H Q→
    subscripted slice false v u=operate [v,u] (getItem v u)→wpAny (model X.prog X.w) X.A (subscriptTail value slice v u) (EP X pins σ Q) X.xe s
def MtR (X : Cx) (id : String) (r : V→List V→Hp→VK→Prop) : Prop:=
  ∀ (pins : List (Addr×Obj)) (s : Shared) (σ : St) (H : Hp) (x : V) (xs : List V) (v : Value) (us : List Value) (Q : VK),Inv X pins σ H s→RelV x v→Vals xs us→r x xs H Q→
    wpAny (model X.prog X.w) X.A (call (.builtin id) (v :: us)) (EP X pins σ Q) X.xe s
section
variable {X : Cx} {a b : Expr} {ta tb : TE} {pos : Pos}
theorem pe_ix {r : R2} (hr : IxR X r) (ha : PE X a ta) (hb : PE X b tb) (hs : PlainIx b) : PE X (.Subscript a b pos) (tOp r ta tb):=by
  intro pins s σ H Q I h
  exact Subscript_ (binT ha hb I h fun v u s2 x y H2 I2 rx ry q=>hr a b pins s2 σ H2 x y v u Q I2 rx ry q (hs _ _))
def rIxL (K : PySem.W.Frag) : R2:=fun x y H Q=>∃ p xs i v,x = .ref p∧y = .int i∧SqL K H p xs∧atI xs i=some v∧Q v H
def rIxT (K : PySem.W.Frag) : R2:=fun x y H Q=>∃ p xs i v,x = .ref p∧y = .int i∧SqT K H p xs∧atI xs i=some v∧Q v H
theorem ix_list : IxR X (rIxL X.K):=by
  intro value slice pins s σ H x y v u Q I rx ry h hs
  obtain ⟨p,xs,i,z,rfl,rfl,hq,he,q⟩:=h
  cases rx
  obtain ⟨t,rfl⟩:=ry
  obtain ⟨its,r,pl,hz⟩:=I.list hq
  obtain ⟨j,h1,h2,h3,h4,h5⟩:=atI_get he
  obtain ⟨w,ew,rw'⟩:=r.get h2
  have hl:=r.length
  have hn:=line63
  have fin : EP X pins σ Q w s:=⟨z,H,I,rw',q⟩
  by_cases h0 : 0≤i
  · have hj : i.toNat=j:=by
      rw [seqIndex_of h0 h5] at h1
      exact Option.some.inj h1
    exact item_listR pl.isList h0 (by omega) (by rw [hj]; simpa using ew) fin hs
  · have hj : (i + (its.toArray.size : Int)).toNat=j:=by
      rw [seqIndex_neg (by omega) h4] at h1
      rw [List.size_toArray,← hl]
      exact Option.some.inj h1
    exact subscriptTail_builtinR (x:=w) pl.isList.typeIs slot_list_getitem.lookup
      (wpAny_getItem_list_neg (Q:=fun r s'=>r=w∧EP X pins σ Q r s') pl.isList (by omega) (by rw [List.size_toArray] <;> omega) (by omega) (by rw [hj]; simpa using ew) ⟨rfl,fin⟩) hs
theorem ix_tup : IxR X (rIxT X.K):=by
  intro value slice pins s σ H x y v u Q I rx ry h hs
  obtain ⟨p,xs,i,z,rfl,rfl,hq,he,q⟩:=h
  cases rx
  obtain ⟨t,rfl⟩:=ry
  obtain ⟨its,r,pl,hz⟩:=I.tuple hq
  obtain ⟨j,h1,h2,h3,h4,h5⟩:=atI_get he
  obtain ⟨w,ew,rw'⟩:=r.get h2
  have hl:=r.length
  have hn:=line63
  have fin : EP X pins σ Q w s:=⟨z,H,I,rw',q⟩
  exact subscriptTail_builtinR (x:=w) pl.typeIs slot_tuple_getitem.lookup
    (getItem_tuple (j:=j) (Q:=fun r s'=>r=w∧EP X pins σ Q r s') pl (by omega) (by omega) (by rw [List.size_toArray,← hl]; exact h1) (by simpa using ew) ⟨rfl,fin⟩) hs
theorem mapSeq_set (its : List Value) (n j : Nat) (u : Value) : Obj.mapSeq (·.setIfInBounds j u) { cls:=.type "list",data:=.seq its.toArray n } = { cls:=.type "list",data:=.seq (its.set j u).toArray n }:=by
  simp [Obj.mapSeq]
theorem Inv.lst {pins : List (Addr×Obj)} {σ : St} {H : Hp} {s : Shared} {p : Addr} {xs : List V} (I : Inv X pins σ H s) (h : H p=some (.lst xs)) :
    ∃ (its : List Value) (n : Nat),Vals xs its∧s.heap.get? p=some { cls:=.type "list",data:=.seq its.toArray n }∧xs.length≤sizeLine:=by
  obtain ⟨z,its,n,r,e⟩:=I.hok p _ h
  exact ⟨its,n,r,e,z⟩
theorem Inv.lstUpd {pins : List (Addr×Obj)} {σ : St} {H : Hp} {s : Shared} {p : Addr} {xs ys : List V} {its its' : List Value} {n n' : Nat} {f : Obj→Obj} (I : Inv X pins σ H s) (h : H p=some (.lst xs))
    (ho : s.heap.get? p=some { cls:=.type "list",data:=.seq its.toArray n }) (hf : f { cls:=.type "list",data:=.seq its.toArray n } = { cls:=.type "list",data:=.seq its'.toArray n' }) (r : Vals ys its') (hz : ys.length≤sizeLine) (t : Nat) :
    Inv X pins σ (upd H p (.lst ys)) { s with heap:=s.heap.update p f,toks:=t }:=by
  have e : (s.heap.update p f).get? p=some { cls:=.type "list",data:=.seq its'.toArray n' }:=by
    rw [Heap.get?_update_self f ho (by rw [hf] <;> rfl),hf]
  refine I.write (x:=p) (e:=p) (by rw [h]; trivial) (.inl rfl) (fun b u hb q=>(Heap.get?_update_other _ _ (Ne.symm hb)).trans q) ⟨_,e⟩ ?_
  exact ⟨hz,its',n',r,e⟩
def rSetL : V→V→V→Hp→(Hp→Prop)→Prop:=fun o i v H Q=>∃ p xs k j,o = .ref p∧i = .int k∧H p=some (.lst xs)∧ixN xs.length k=some j∧Q (upd H p (.lst (xs.set j v)))
theorem set_list : PSet X rSetL:=by
  intro pins s σ H o i v ov iv u Q I ro ri rv h
  obtain ⟨p,xs,k,j,rfl,rfl,hp,hj,q⟩:=h
  cases ro
  obtain ⟨t,rfl⟩:=ri
  obtain ⟨its,n,r,ho,hz⟩:=I.lst hp
  obtain ⟨h1,h2,h3,h4⟩:=ixN_seq hj
  have hl:=r.length
  have hn:=line63
  have I' : Inv X pins σ (upd H p (.lst (xs.set j v))) { s with heap:=s.heap.update p (Obj.mapSeq (·.setIfInBounds j u)) }:=
    I.lstUpd hp ho (mapSeq_set its n j u) (r.set rv j) (by rw [List.length_set]; exact hz) s.toks
  by_cases h0 : 0≤k
  · have hk : k.toNat=j:=by
      rw [seqIndex_of h0 h4] at h1
      exact Option.some.inj h1
    exact PySem.W.ki_setAt ho h0 (by omega) (by rw [List.size_toArray,← hl]; exact h4) (by rw [hk]; exact ⟨_,I',q⟩)
  · have hk : (k + (its.toArray.size : Int)).toNat=j:=by
      rw [seqIndex_neg (by omega) h3] at h1
      rw [List.size_toArray,← hl]
      exact Option.some.inj h1
    exact PySem.W.ki_setBack ho (by omega) (by rw [List.size_toArray,← hl]; exact h3) (by omega) (by rw [hk]; exact ⟨_,I',q⟩)
theorem slice_bounds (lo hi : Option Int) (n : Nat) : (sliceBounds lo hi none n).1=((HT.sIx n 0 lo : Nat) : Int)∧(sliceBounds lo hi none n).2.1=((HT.sIx n n hi : Nat) : Int)∧(sliceBounds lo hi none n).2.2=1:=by
  refine ⟨?_,?_,rfl⟩
  · cases lo with
    | none=>simp [sliceBounds,HT.sIx]
    | some i=>
      simp only [sliceBounds,HT.sIx,Option.getD_none,show (1 : Int) > 0 by decide,if_true]
      by_cases h : i < 0
      · simp only [h,if_true] <;> omega
      · simp only [h,if_false] <;> omega
  · cases hi with
    | none=>simp [sliceBounds,HT.sIx]
    | some i=>
      simp only [sliceBounds,HT.sIx,Option.getD_none,show (1 : Int) > 0 by decide,if_true]
      by_cases h : i < 0
      · simp only [h,if_true] <;> omega
      · simp only [h,if_false] <;> omega
theorem slicePick_cut (its : List Value) (lo hi : Option Int) : slicePick its.toArray lo hi none=((its.drop (HT.sIx its.length 0 lo)).take (HT.sIx its.length its.length hi - HT.sIx its.length 0 lo)).toArray:=by
  obtain ⟨h1,h2,h3⟩:=slice_bounds lo hi its.toArray.size
  unfold slicePick
  rw [h1,h2,h3]
  simp only [sliceRange_one,pick_run,List.size_toArray] <;> rfl
def rSlL (K : PySem.W.Frag) : V→Option Int→Option Int→Hp→VK→Prop:=fun x lo hi H Q=>∃ a xs,x = .ref a∧SqL K H a xs∧∀ p,H p=none→Q (.ref p) (upd H p (.lst (cutV xs lo hi)))
theorem sl_list : SlR X (rSlL X.K):=by
  intro pins s σ H x v vl vu lo hi sl Q I rx hs pl pu h
  obtain ⟨a,xs,rfl,hx,q⟩:=h
  cases rx
  obtain ⟨its,r,ht,hz⟩:=I.list hx
  have hlen:=r.length
  refine ⟨"list",_,slot_list_getitem.lookup,ht.isList.typeIs,?_⟩
  refine wpAny_getItem_list_slice ht.isList hs pl pu .none (by simp) ?_ (by rw [List.size_toArray] <;> omega)
  rw [slicePick_cut,← hlen]
  refine ⟨.ref s.heap.objs.size,_,I.laid (t':=s.toks) (o:=.lst (cutV xs lo hi)) (fun b ob q=>Heap.get?_push_of_some _ q) (Nat.le_refl _) ?_,rfl,q _ (I.hok.fresh (Nat.le_refl _))⟩
  exact ⟨Nat.le_trans (cutV_length xs lo hi) hz,_,0,(r.drop (HT.sIx xs.length 0 lo)).take (HT.sIx xs.length xs.length hi - HT.sIx xs.length 0 lo),Heap.get?_push_size _ rfl⟩
def flatV : V→Bool
  | .non=>true
  | .bl _=>true
  | .int _=>true
  | .str _=>true
  | _=>false
def eqV : V→V→Bool
  | .non,.non=>true
  | .bl a,.bl b=>a == b
  | .bl a,.int b=>(if a then 1 else 0) == b
  | .int a,.bl b=>a == (if b then 1 else 0)
  | .int a,.int b=>a == b
  | .str a,.str b=>a == b
  | _,_=>false
theorem eqAt_V {A : Around} {s : Shared} {y x : V} {u v : Value} (ry : RelV y u) (rx : RelV x v) (fy : flatV y=true) (fx : flatV x=true) : SeqAt.EqAt A s u v (eqV y x):=by
  cases y with
  | non=>
    cases ry
    cases x with
    | non=>cases rx; exact SeqAt.EqAt.same _
    | bl b=>cases rx; exact SeqAt.EqAt.none_bool b
    | int b=>obtain ⟨t,rfl⟩:=rx; exact SeqAt.EqAt.none_int b t
    | str b=>obtain ⟨t,rfl⟩:=rx; exact SeqAt.EqAt.none_str b t
    | _=>exact absurd (show false=true from fx) Bool.false_ne_true
  | bl a=>
    cases ry
    cases x with
    | non=>cases rx; exact SeqAt.EqAt.bool_none a
    | bl b=>cases rx; exact SeqAt.EqAt.bool_bool a b
    | int b=>obtain ⟨t,rfl⟩:=rx; exact SeqAt.EqAt.bool_int a b t
    | str b=>obtain ⟨t,rfl⟩:=rx; exact SeqAt.EqAt.bool_str a b t
    | _=>exact absurd (show false=true from fx) Bool.false_ne_true
  | int a=>
    obtain ⟨t',rfl⟩:=ry
    cases x with
    | non=>cases rx; exact SeqAt.EqAt.int_none a t'
    | bl b=>cases rx; exact SeqAt.EqAt.int_bool a t' b
    | int b=>obtain ⟨t,rfl⟩:=rx; exact SeqAt.EqAt.int_int a t' b t
    | str b=>obtain ⟨t,rfl⟩:=rx; exact SeqAt.EqAt.int_str a t' b t
    | _=>exact absurd (show false=true from fx) Bool.false_ne_true
  | str a=>
    obtain ⟨t',rfl⟩:=ry
    cases x with
    | non=>cases rx; exact SeqAt.EqAt.str_none a t'
    | bl b=>cases rx; exact SeqAt.EqAt.str_bool a t' b
    | int b=>obtain ⟨t,rfl⟩:=rx; exact SeqAt.EqAt.str_int a t' b t
    | str b=>obtain ⟨t,rfl⟩:=rx; exact SeqAt.EqAt.str_str a t' b t
    | _=>exact absurd (show false=true from fx) Bool.false_ne_true
  | _=>exact absurd (show false=true from fy) Bool.false_ne_true
theorem call_len_seq : CallR X (.builtin "len") (fun xs H Q=>∃ p ys,xs=[.ref p]∧(SqL X.K H p ys∨SqT X.K H p ys)∧Q (.int ys.length) H):=by
  intro pins s σ H xs us Q I r h
  obtain ⟨p,ys,rfl,hq,q⟩:=h
  obtain ⟨u,rfl,rx⟩:=vals1 r
  cases rx
  have hn:=line63
  rcases hq with hq | hq
  · obtain ⟨its,r',pl,hz⟩:=I.list hq
    have hlen:=r'.length
    exact Calls.call_len_list pl.isList (by simp only [List.size_toArray] <;> omega) ⟨.int ys.length,H,I.tok _,⟨s.toks + 1,by rw [List.size_toArray,hlen]⟩,q⟩
  · obtain ⟨its,r',pl,hz⟩:=I.tuple hq
    have hlen:=r'.length
    exact len_tuple pl (by simp only [List.size_toArray] <;> omega) ⟨.int ys.length,H,I.tok _,⟨s.toks + 1,by rw [List.size_toArray,hlen]⟩,q⟩
theorem call_list_of : CallR X (.type "list") (fun xs H Q=>∃ p ys,xs=[.ref p]∧(SqL X.K H p ys∨SqT X.K H p ys)∧∀ l,H l=none→Q (.ref l) (upd H l (.lst ys))):=by
  intro pins s σ H xs us Q I r h
  obtain ⟨p,ys,rfl,hq,q⟩:=h
  obtain ⟨u,rfl,rx⟩:=vals1 r
  cases rx
  have fin : ∀ (its : List Value),Vals ys its→ys.length≤sizeLine→∀ (h' : Heap) (c' : Nat),(∀ b o',s.heap.get? b=some o'→h'.get? b=some o')→
      h'.get? s.heap.objs.size=some { cls:=.type "list",dict:=none,data:=.seq its.toArray c',slots:=#[] }→EP X pins σ Q (.ref s.heap.objs.size) { s with heap:=h' }:=fun its r' hz h' c' kp e =>
    ⟨.ref s.heap.objs.size,_,I.laid (t':=s.toks) kp (Nat.le_refl _) (show ObjOk X.prog X.w _ h' _ (.lst ys) from ⟨hz,its,c',r',e⟩),rfl,q _ (I.hok.fresh (Nat.le_refl _))⟩
  rcases hq with hq | hq
  · obtain ⟨its,r',pl,hz⟩:=I.list hq
    have hlen:=r'.length
    obtain ⟨o,ho,hc,n,hd⟩:=pl.isList
    exact call_list_seq p (.inl rfl) ho hc hd (fun h' c' kp e=>fin its r' hz h' c' kp e) (by simp only [List.size_toArray] <;> omega)
  · obtain ⟨its,r',pl,hz⟩:=I.tuple hq
    have hlen:=r'.length
    obtain ⟨o,ho,hc,n,hd⟩:=pl
    exact call_list_seq p (.inr rfl) ho hc hd (fun h' c' kp e=>fin its r' hz h' c' kp e) (by simp only [List.size_toArray] <;> omega)
def tyV (K : PySem.W.Frag) (T : String) (x : V) (H : Hp) : Prop:=match x with
  | .str _=>T = "str"
  | .int _=>T = "int"
  | .ref p=>(T = "list" ∧ ∃ xs,SqL K H p xs)∨(T = "tuple" ∧ ∃ o,K.lookup p=some o∧o.cls = .type "tuple" ∧ o.dict=none) ∨
      (T = "dict" ∧ ((∃ kvs,H p=some (.dK kvs))∨∃ kvs,H p=some (.dT kvs)))∨(T = "set" ∧ ∃ S n,H p=some (.set S n))
  | _=>False
theorem tyV_is {pins : List (Addr×Obj)} {σ : St} {H : Hp} {s : Shared} {T : String} {x : V} {v : Value} (I : Inv X pins σ H s) (r : RelV x v) (ty : tyV X.K T x H) :
    s.TypeIs v T∧∀ a,v = .ref a→∃ ob,s.heap.get? a=some ob∧ob.dict=none:=by
  cases x with
  | str z=>
    obtain ⟨t,rfl⟩:=r
    cases (show T = "str" from ty)
    exact ⟨typeIs_str s z t,fun _ e=>nomatch e⟩
  | int i=>
    obtain ⟨t,rfl⟩:=r
    cases (show T = "int" from ty)
    exact ⟨typeIs_int s i t,fun _ e=>nomatch e⟩
  | ref p=>
    cases r
    rcases ty with ⟨rfl,xs,hq⟩ | ⟨rfl,o,hk,hc,hd⟩ | ⟨rfl,hk⟩ | ⟨rfl,S,n,hk⟩
    · obtain ⟨its,_,pl,_⟩:=I.list hq
      refine ⟨pl.isList.typeIs,fun a e=>?_⟩
      cases e
      obtain ⟨o,n,e,c,hd,_⟩:=pl
      exact ⟨o,e,hd⟩
    · refine ⟨⟨o,I.kIn p o hk,hc⟩,fun a e=>?_⟩
      cases e
      exact ⟨o,I.kIn _ o hk,hd⟩
    · have z : ∃ o,s.heap.get? p=some o∧o.ExactDict:=by
        rcases hk with ⟨kvs,hk⟩ | ⟨kvs,hk⟩
        · obtain ⟨_,_,_,_,o,_,_,e,ex,_⟩:=I.hok p _ hk
          exact ⟨o,e,ex⟩
        · obtain ⟨_,_,_,_,o,_,_,e,ex,_⟩:=I.hok p _ hk
          exact ⟨o,e,ex⟩
      obtain ⟨o,e,ex⟩:=z
      refine ⟨⟨o,e,ex.1⟩,fun a e2=>?_⟩
      cases e2
      exact ⟨o,e,ex.2.1⟩
    · obtain ⟨o,_,_,_,e,ex,_⟩:=I.hok p _ hk
      refine ⟨⟨o,e,ex.1⟩,fun a e2=>?_⟩
      cases e2
      exact ⟨o,e,ex.2.1⟩
  | _=>exact False.elim ty
def tBM (K : PySem.W.Frag) (T : String) (r : V→List V→Hp→VK→Prop) (to : TE) (t : TA) : TE:=fun σ H Q=>to σ H fun x H1=>tyV K T x H1∧t σ H1 fun xs H2=>r x xs H2 Q
variable {o e : Expr} {es : List Expr} {to : TE} {t : TA} {name : Str} {apos cpos : Pos} {T id : String} {r : V→List V→Hp→VK→Prop}
theorem pe_bm (pa : PlainAttrs T) (slot : Slot T name id) (hty : typeOf (.builtin id)=pure (.type "method_descriptor")) (hm : MtR X id r) (ho : PE X o to) (ha : PA X (e :: es) t)
    (hbase : attributeBase o name X.env (eval o X.env)=eval o X.env:=by rfl)
    (hfew : ((backTo cpos (starEach (e :: es) X.env)).all (fun x=>!x.1) && (backToKw cpos (keywordEach [] X.env)).all (fun x=>x.1.isSome)
      && decide ((e :: es).length + ([] : List Keyword).length + (if ([] : List Keyword).isEmpty then 0 else 1) < 30))=true:=by rfl)
    (hline : (apos.endLine == cpos.line)=true:=by rfl) (hs : starEach (e :: es) X.env=(false,eval e X.env) :: starEach es X.env:=by rfl) (hplain : (backTo cpos (starEach es X.env)).any (·.1)=false:=by rfl) :
    PE X (.Call (.Attribute o name apos) (e :: es) [] cpos) (tBM X.K T r to t):=by
  intro pins s σ H Q I h
  refine wpAny_Call_method_late hbase hfew hline rfl (thn (ho pins s σ H _ I h) fun v s1 ⟨x,H1,I1,r1,ty,q1⟩=>?_)
  obtain ⟨h1,h2⟩:=tyV_is I1 r1 ty
  refine ⟨T,id,pa,slot,hty,h1,h2,?_⟩
  have hA:=ha cpos pins s1 σ H1 _ I1 q1
  rw [hs] at hA ⊢
  refine Calls.callWith_builtin (by show (false || (backTo cpos (starEach es X.env)).any (·.1))=false; rw [hplain] <;> rfl) (Calls.evalArgs_plain ?_)
  exact thn hA fun us s2 ⟨vs,H2,I2,r2,q2⟩=>hm pins s2 σ H2 x vs v us Q I2 r1 r2 q2
end
end L2
namespace L2
open PySem PySem.Spec PyProof.Rows
def MtM (X : Cx) (id : String) (r : V→List V→Hp→VK→Prop) : Prop:=
  ∀ (pins : List (Addr×Obj)) (s : Shared) (σ : St) (H : Hp) (x : V) (xs : List V) (v : Value) (us : List Value) (Q : VK),Inv X pins σ H s→RelV x v→Vals xs us→r x xs H Q→
    wpAny (model X.prog X.w) X.A (call (.builtin id) (v :: us)) (EP X pins σ Q) X.xe s
theorem Vals.one : ∀ {x : V} {us : List Value},Vals [x] us→∃ u,us=[u]∧RelV x u
  | _,_,.cons r .nil=>⟨_,rfl,r⟩
theorem Vals.two : ∀ {x y : V} {us : List Value},Vals [x,y] us→∃ u v,us=[u,v]∧RelV x u∧RelV y v
  | _,_,_,.cons r (.cons q .nil)=>⟨_,_,rfl,r,q⟩
theorem Vals.rep {xs : List V} {us : List Value} (h : Vals xs us) : ∀ k : Nat,Vals (List.replicate k xs).flatten (List.replicate k us).flatten
  | 0=>.nil
  | k + 1=>by
    rw [List.replicate_succ,List.replicate_succ,List.flatten_cons,List.flatten_cons]
    exact Vals.append h (Vals.rep h k)
theorem foldl_rep (its : List Value) : ∀ (k : Nat) (acc : List Value),
    List.foldl (fun x1 x2=>x1 ++ x2) acc.toArray (List.replicate k its.toArray)=(acc ++ (List.replicate k its).flatten).toArray
  | 0,acc=>by simp
  | k + 1,acc=>by
    have e : acc.toArray ++ its.toArray=(acc ++ its).toArray:=by simp
    have e2 : (acc ++ its) ++ (List.replicate k its).flatten=acc ++ (List.replicate (k + 1) its).flatten:=by
      rw [List.replicate_succ,List.flatten_cons,List.append_assoc]
    rw [← e2,← foldl_rep its k (acc ++ its),← e,List.replicate_succ,List.foldl_cons]
section
variable {X : Cx} {pins : List (Addr×Obj)} {σ : St} {H : Hp} {s : Shared} {l b : Addr} {xs ys zs : List V}
theorem Inv.lset {its its' : List Value} {n : Nat} {f : Array Value→Array Value} {t' : Nat} (I : Inv X pins σ H s) (hH : H l=some (.lst xs))
    (e : s.heap.get? l=some { cls:=.type "list",data:=.seq its.toArray n }) (hf : f its.toArray=its'.toArray) (hv : Vals ys its') (hz : ys.length≤sizeLine) :
    Inv X pins σ (upd H l (.lst ys)) { s with heap:=s.heap.update l (Obj.mapSeq f),toks:=t' }:=by
  have q:=PySem.IsL.update e f
  rw [hf] at q
  refine I.write (x:=l) (e:=l) (by rw [hH]; exact trivial) (.inl rfl) (fun b' u hb hu=>(Heap.get?_update_other s.heap (Obj.mapSeq f) (Ne.symm hb)).trans hu) ⟨_,q⟩ ?_
  exact ⟨hz,its',_,hv,q⟩
theorem Inv.lnew {its : List Value} {t' : Nat} (I : Inv X pins σ H s) (hv : Vals ys its) (hz : ys.length≤sizeLine) :
    Inv X pins σ (upd H s.heap.objs.size (.lst ys)) { s with heap:=s.heap.push { cls:=.type "list",data:=.seq its.toArray },toks:=t' } :=
  I.laid (fun _ _ q=>Heap.get?_push_of_some _ q) (Nat.le_refl _) ⟨hz,its,0,hv,Heap.get?_push_size _ rfl⟩
theorem Inv.fresh (I : Inv X pins σ H s) : H s.heap.objs.size=none:=I.hok.fresh (Nat.le_refl _)
theorem Inv.lstM (I : Inv X pins σ H s) (hH : H l=some (.lst xs)) : xs.length≤sizeLine∧∃ (its : List Value) (n : Nat),Vals xs its∧xs.length=its.length∧s.heap.get? l=some { cls:=.type "list",data:=.seq its.toArray n }:=by
  obtain ⟨z,its,n,r,e⟩:=I.hok l _ hH
  exact ⟨z,its,n,r,r.length,e⟩
theorem notLongL {n : Nat} (h : n≤sizeLine) : Builtin.List.listTooLong n=false:=by
  unfold Builtin.List.listTooLong
  exact decide_eq_false (by omega)
end
section
variable {X : Cx}
def rAppend : V→List V→Hp→VK→Prop:=fun x vs H Q=>∃ l xs y,x = .ref l∧vs=[y]∧H l=some (.lst xs)∧xs.length < sizeLine∧Q .non (upd H l (.lst (xs ++ [y])))
theorem mt_append : MtM X "list.append" rAppend:=by
  intro pins s σ H x vs v us Q I rx rv h
  obtain ⟨l,xs,y,rfl,rfl,hH,hz,q⟩:=h
  cases rx
  obtain ⟨u,rfl,ru⟩:=rv.one
  obtain ⟨z,its,n,r,hl,e⟩:=I.lstM hH
  refine call_meets F.slot_list_append ⟨_,e,rfl⟩ F.entry_list_append (F.args_list_append_2 _ _) (PySem.list_append l its.toArray n u (by rw [List.size_toArray]; omega)) ⟨e,?_⟩
  refine ⟨.non,_,I.lset (its':=its ++ [u]) hH e (by simp) (r.append (.cons ru .nil)) ?_,rfl,q⟩
  rw [List.length_append,List.length_singleton]
  omega
def rCat : R2:=fun x y H Q=>∃ l b xs zs,x = .ref l∧y = .ref b∧H l=some (.lst xs)∧H b=some (.lst zs)∧xs.length + zs.length≤sizeLine∧∀ p,H p=none→Q (.ref p) (upd H p (.lst (xs ++ zs)))
theorem op_cat : OpR X (binaryOp .Add) rCat:=by
  intro pins s σ H x y v u Q I rx ry h
  obtain ⟨l,b,xs,zs,rfl,rfl,hH,hB,hz,q⟩:=h
  cases rx
  cases ry
  obtain ⟨z,its,n,r,hl,e⟩:=I.lstM hH
  obtain ⟨z2,its2,n2,r2,hl2,e2⟩:=I.lstM hB
  refine PySem.P.add_list e e2 ?_ (by rw [List.size_toArray,List.size_toArray]; omega)
  have ea : its.toArray ++ its2.toArray=(its ++ its2).toArray:=by simp
  rw [ea]
  exact ⟨.ref _,_,I.lnew (t':=s.toks) (r.append r2) (by rw [List.length_append]; omega),rfl,q _ I.fresh⟩
def rRep : R2:=fun x y H Q=>∃ l k xs,x = .ref l∧y = .int k∧H l=some (.lst xs)∧-(2 ^ 63)≤k∧k < 2 ^ 63∧xs.length * k.toNat≤sizeLine∧
  ∀ p,H p=none→Q (.ref p) (upd H p (.lst (List.replicate k.toNat xs).flatten))
theorem len_rep {α : Type} (xs : List α) (k : Nat) : (List.replicate k xs).flatten.length=k * xs.length:=by
  induction k with
  | zero=>simp
  | succ k ih=>rw [List.replicate_succ,List.flatten_cons,List.length_append,ih,Nat.succ_mul,Nat.add_comm]
theorem op_rep : OpR X (binaryOp .Mult) rRep:=by
  intro pins s σ H x y v u Q I rx ry h
  obtain ⟨l,k,xs,rfl,rfl,hH,h1,h2,hz,q⟩:=h
  cases rx
  obtain ⟨t,rfl⟩:=ry
  obtain ⟨z,its,n,r,hl,e⟩:=I.lstM hH
  have hlen : its.toArray.size * k.toNat≤sizeLine:=by rw [List.size_toArray,← hl]; exact hz
  have hcap : ¬ its.toArray.size * k.toNat > (2 ^ 63 - 1) / 8:=by
    have : (sizeLine : Nat)≤(2 ^ 63 - 1) / 8:=by decide
    omega
  have hfit : ¬ (!Builtin.List.listFitsIndex k)=true:=by
    rw [fitsIndex_both h1 h2]
    exact Bool.false_ne_true
  have hlong : ¬ Builtin.List.listTooLong (its.toArray.size * k.toNat)=true:=by
    rw [notLongL hlen]
    exact Bool.false_ne_true
  have hnew : List.foldl (fun x1 x2=>x1 ++ x2) #[] (List.replicate (if its.toArray.isEmpty=true then 0 else k.toNat) its.toArray)=(List.replicate k.toNat its).flatten.toArray:=by
    have f0 : ∀ m : Nat,List.foldl (fun x1 x2=>x1 ++ x2) #[] (List.replicate m its.toArray)=(List.replicate m its).flatten.toArray:=fun m=>by
      have:=foldl_rep its m []
      rw [List.nil_append] at this
      exact this
    rw [f0]
    cases its with
    | nil=>simp
    | cons a r'=>rw [if_neg (by simp)]
  refine wpAny_binaryOp_repeat_ref (T := "list") (U := "int") (by decide) ⟨_,e,rfl⟩ (fun s'=>typeIs_int s' k t) noFill_list_mul F.fills_int_mul F.slot_int_rmul repeat_list F.slot_int_index.lookup
    (call_meets F.slot_int_rmul (typeIs_int s k t) F.entry_int_rmul (F.args_int_rmul_2 _ _) (int___rmul___int_list k t l its.toArray n)
      ⟨e,rfl,⟨_,e,rfl⟩,call_meets F.slot_list_mul ⟨_,e,rfl⟩ F.entry_list_mul (F.args_list_mul_2 _ _) (AutoListH.list___mul___list_int_3 l its.toArray n k t hfit hcap hlong) ⟨e,?_⟩⟩)
  rw [hnew]
  exact ⟨.ref _,_,I.lnew (t':=s.toks) (r.rep k.toNat) (by rw [len_rep,Nat.mul_comm]; exact hz),rfl,q _ I.fresh⟩
end
section
variable {prog : Program} {w : World} {A : Around} {E : Value→Shared→Prop} {s : Shared}
end
section
variable {X : Cx}
end
end L2
namespace Att
open PySem PySem.W PySem.Calls PyProof.Rows
theorem ints_of_wellAll {P : Params} {h : Heap} : ∀ (ns : List Int) (vs : List Value),WellAll P h vs (ns.map WData.int)→IntsAre vs ns:=by
  intro ns
  induction ns with
  | nil=>
    intro vs w
    rw [List.map_nil] at w
    cases w
    exact .nil
  | cons n ns ih=>
    intro vs w
    rw [List.map_cons] at w
    cases w with
    | cons a b=>
      cases a
      exact .cons _ _ (ih _ b)
theorem script_of {l : OpenLaw} {n : Nat} (hn : l.most=some n) {P : Params} {h : Heap} {args : List WData} {vals : List Value}
    (hpre : l.row.toRowW.claim.pre args=true) (hwl : WellAll P h vals args) :
    ∃ a vs ns,vals=[Value.ref a]∧args=[WData.list (ns.map WData.int)]∧h.get? a=some { cls:=.type "list",data:=.seq vs.toArray }∧IntsAre vs ns∧ns.length≤n:=by
  have hsh : WShape.hasAll [] args [.list .int]=true:=(pre_splitW hpre).1
  have hc : l.pre.holds [] { args:=args } = true:=(pre_splitW hpre).2
  obtain ⟨d,r,rfl,h1,h2⟩:=hasAllW_cons hsh
  obtain rfl:=hasAllW_nil h2
  obtain ⟨xs,rfl,h3⟩:=hasW_list h1
  obtain ⟨ns,rfl⟩:=items_int h3
  have hlen : ns.length≤n:=by
    unfold OpenLaw.pre at hc
    have h4 : (WTm.not (.lt (.lit (.int (n : Int))) (.len (.arg 0)))).holds [] { args:=[.list (ns.map .int)] } = true:=by
      have h4:=(holds_andW hc).1
      rw [hn] at h4
      exact h4
    have h5:=condW_of h4 (w_not (w_lt w_lit (w_len_list (w_arg rfl))))
    rw [List.length_map] at h5
    refine Nat.le_of_not_lt fun q=>?_
    have q' : (n : Int) < ((ns.length : Nat) : Int):=by omega
    first
      | (rw [decide_eq_true q'] at h5; exact absurd h5 (by decide))
      | (simp at h5; omega)
  cases hwl with
  | cons w1 w2=>
    cases w2
    cases w1 with
    | list ho hall=>exact ⟨_,_,ns,rfl,rfl,ho,ints_of_wellAll ns _ hall,hlen⟩
theorem post_true (l : OpenLaw) (args : List WData) : l.row.toRowW.claim.post args (.bool true) args=true:=
  postW_of (r:=l.row.toRowW) (X:=(true == true))
    (show WShape.has [] (.bool true) .bool=true by first | rfl | decide | simp [WShape.has,WShape.arms,WShape.armsAll])
    (show (WTm.eq .res (.lit (.bool true))).value [] { args:=args,res:=some (.bool true),after:=args } = some (.bool (true == true)) from w_eq_bool (w_res rfl) w_lit) rfl
theorem attach_call {l : OpenLaw} {n : Nat} {q : Program} {loose : List Str} {XP : (Str→Option Value)→Heap→Prop} {YP : World→Heap→Prop} {d : DefRec}
    (hn : l.most=some n) (hdf : d.params.defaults=[])
    (call : ∀ (w : World) (s₀ s₁ : Shared) (mg mb : Str→Option Value) (fa : Addr) (o : Obj) (pm cd doc : Value) (a : Addr) (vs : List Value) (ns : List Int),
      Ground q loose [] XP w s₀ mg mb s₁.heap→YP w s₁.heap→
      s₁.heap.get? fa=some o→o.data = .func (docDef d.name d.params d.body d.scope pm cd doc)→s₁.heap.CodeRec cd d.name→mg d.name=some (.ref fa)→
      s₁.heap.get? a=some { cls:=.type "list",data:=.seq vs.toArray }→IntsAre vs ns→ns.length≤n→s₁.gens = #[] →
      codeAny (model l.prog w) callerA (.call (.ref fa) ⟨[.ref a],[]⟩) (fun r s'=>r = .ok (.ret (.bool true))∧OldK s₁.heap s'.heap∧s'.os=s₁.os∧AllBare s'.gens) s₁) :
    WalkO q loose XP YP l.row.toRowW d [] (fun f vs=>PySem.call f vs):=by
  intro w s₀ s₁ mg mb G Y fa o pm cd doc dV kV ho hd hcd hD hmg hg args vals as hpre hlay hrd hwl hlo
  obtain rfl : dV = .none:=Dflts.none hD hdf
  obtain rfl : kV = .none:=Dflts.noKw hD
  obtain ⟨a,vs,ns,rfl,rfl,hobj,hints,hlen⟩:=script_of hn hpre hwl
  refine enter_call (codeAny_mono (call w s₀ s₁ mg mb fa o pm cd doc a vs ns G Y ho (fd_plain hd) hcd hmg hobj hints hlen hg) fun r s' hq=>?_)
  obtain ⟨rfl,h2,h3,h4⟩:=hq
  exact ⟨.inl ⟨.bool true,.bool true,[],rfl,fun _=>rfl,.bool true,post_true l _,fun _=>⟨List.Pairwise.nil,fun _ hm=>(nomatch hm)⟩⟩,h2,h3,h4⟩
section
variable {prog : Program} {w : World} {A : Around} {E : Value→Shared→Prop} {s : Shared} {K : Frag}
end
end Att
namespace L2
open PySem PySem.Spec PyProof.Rows
theorem vals_ints : ∀ {vs : List Value} {ns : List Int},IntsAre vs ns→Vals (ns.map V.int) vs
  | _,_,.nil=>.nil
  | _,_,.cons n t h=>.cons ⟨t,rfl⟩ (vals_ints h)
end L2
namespace L2
open PySem PySem.Spec PyProof.Rows
end L2
namespace L2
open PySem PySem.Spec PyProof.Rows
def defArgs (s : Stmt) : Arguments:=match s with
  | .FunctionDef _ a _ _ _ _ _ _ _ _=>a
  | _=>{ posonlyargs:=[],args:=[],vararg:=none,kwonlyargs:=[],kw_defaults:=[],kwarg:=none,defaults:=[] }
def defBody (s : Stmt) : List Stmt:=match s with
  | .FunctionDef _ _ b _ _ _ _ _ _ _=>b
  | _=>[]
def defScope (s : Stmt) : Scope:=match s with
  | .FunctionDef _ _ _ _ _ _ sc _ _ _=>sc
  | _=>{ kind:=.function,names:=[],isGenerator:=false,isCoroutine:=false }
abbrev CX0 : CXT:=fun _ _ _ _ _ _=>False
abbrev E0 : XK:=fun _ _ _=>False
theorem pass0 {X : Cx} : Passes CX0 X E0:=fun _ _ _ _ _ _ _ h=>h.elim
structure Fun (K : PySem.W.Frag) (x qual : Str) (st : Stmt) (f : Addr) (fd : FuncData) : Prop where
  ex : ∃ (oc : Value) (od : Option Addr) (kV doc pm : Value) (an : Option Addr) (cdv ct : Value) (osl : Array (Option Value)),
    fd=PySem.W.fnOf x qual (defArgs st) (defBody st) (defScope st) .none kV doc pm an cdv ct∧K.lookup f=some ⟨oc,od,.func fd,osl⟩∧PySem.W.codeIn K cdv qual=true
  kp : PySem.W.keepIn K (.ref f)=true
section
variable {P : Program} {w : World} {K : PySem.W.Frag} {mg : Str→Option Value} {base : Heap}
theorem Fun.ok {x qual : Str} {st : Stmt} {f : Addr} {fd : FuncData} {N ps : List Str} {k : Nat} {sp : Sp} (F : Fun K x qual st f fd) (S : FnScope N ps (defScope st)) (len : ∀ vs H Q E,sp vs H Q E→vs.length=ps.length)
    (hbody : ∀ (cdv : Value) (A : Around) (outer : List Env) (s : Shared) (H : Hp) (vs : List V) (Q : VK) (E : XK),Room k (A.deeper (envOfC qual (defScope st) s.heap.objs.size f cdv))→sp vs H Q E→
      ∃ t,PSs (cxOf CX0 P w K mg base N qual (defScope st) f cdv A outer s H E).nox (defBody st) t∧t { nx:=fun _ H'=>Q .non H',rt:=Q } (start N vs) H) : FnOk P w K mg base CX0 (k + 1) f fd ps sp:=by
  obtain ⟨oc,od,kV,doc,pm,an,cdv,ct,osl,rfl,lk,hcd⟩:=F.ex
  refine fn_of lk hcd S len fun A outer s H vs Q E hr hsp=>?_
  obtain ⟨t,h,q⟩:=hbody cdv A outer s H vs Q E hr hsp
  exact ⟨t,h.nox,q⟩
theorem Fun.binds {x qual : Str} {st : Stmt} {f : Addr} {fd : FuncData} {ps : List Str} (F : Fun K x qual st f fd)
    (h : ∀ (kV doc pm : Value) (an : Option Addr) (cdv ct : Value) (us : List Value),us.length=ps.length→bindArgs (PySem.W.fnOf x qual (defArgs st) (defBody st) (defScope st) .none kV doc pm an cdv ct) ⟨us,[]⟩=pure (ps.zip us)) : Binds K fd ps []:=by
  obtain ⟨oc,od,kV,doc,pm,an,cdv,ct,osl,rfl,lk,hcd⟩:=F.ex
  exact .all (h kV doc pm an cdv ct)
theorem fun_mk {x qual : Str} {st : Stmt} {f : Addr} {oc : Value} {od an : Option Addr} {osl : Array (Option Value)} {kV doc pm cdv ct : Value} (l : K.lookup f=some ⟨oc,od,.func (PySem.W.fnOf x qual (defArgs st) (defBody st) (defScope st) .none kV doc pm an cdv ct),osl⟩)
    (c : PySem.W.codeIn K cdv qual=true) (k : PySem.W.keepIn K (.ref f)=true) : Fun K x qual st f (PySem.W.fnOf x qual (defArgs st) (defBody st) (defScope st) .none kV doc pm an cdv ct):=⟨⟨oc,od,kV,doc,pm,an,cdv,ct,osl,rfl,l,c⟩,k⟩
end
theorem hu_of {A : Around} {k : Nat} (hr : Room k A) : A.units + 1 < cLine:=Nat.lt_of_le_of_lt (Nat.add_le_add_left (by decide : 1≤64) _) hr.units
theorem small1000 {n : Nat} (h : n≤1000) : n < sizeLine:=Nat.lt_of_le_of_lt h (by decide)
section
variable {X : Cx}
theorem pv (i : Nat) {x : Str} {pos : Pos} (hN : X.N[i]? = some x:=by rfl) (hv : Vis X.env.scope x:=by first | exact Or.inl rfl | exact Or.inr (Or.inl rfl) | exact Or.inr (Or.inr rfl)) (hd : (x == ("__debug__" : Str))=false:=by decide)
    (hcd : (x == ("__classdict__" : Str))=false:=by decide) : PE X (.Name x pos) (tVar i):=pe_var hN hv hd hcd
end
theorem iteF {A B : Prop} (h : B) : if false=true then A else B:=by
  rw [if_neg Bool.false_ne_true]
  exact h
theorem iteT {A B : Prop} (h : A) : if true=true then A else B:=by
  rw [if_pos rfl]
  exact h
theorem ite2 {c A B : Prop} [Decidable c] (h1 : c→A) (h2 : ¬ c→B) : if c then A else B:=by
  by_cases h : c
  · rw [if_pos h]
    exact h1 h
  · rw [if_neg h]
    exact h2 h
theorem iteNS {c A B : Prop} [Decidable c] (hc : c) (h : B) : if (!decide c)=true then A else B:=by
  rw [decide_eq_true hc]
  exact iteF h
def Same (H H' : Hp) : Prop:=∀ b o,H b=some o→H' b=some o
theorem Same.refl (H : Hp) : Same H H:=fun _ _ h=>h
theorem Same.trans {H H1 H2 : Hp} (a : Same H H1) (b : Same H1 H2) : Same H H2:=fun c o h=>b c o (a c o h)
theorem Same.free {H H' : Hp} (e : Same H H') {l : Addr} (h : H' l=Option.none) : H l=Option.none:=by
  cases q : H l with
  | none=>rfl
  | some o=>
    rw [e l o q] at h
    cases h
end L2
set_option maxHeartbeats 4000000
namespace L2
open PySem PySem.Spec PyProof.Rows
theorem objThere {P : Program} {w : World} {H : Hp} {h : Heap} {a : Addr} {o : HO} (x : ObjOk P w H h a o) : ∃ ob,h.get? a=some ob:=by
  induction o with
  | lst xs=>obtain ⟨_,_,_,_,e⟩:=x; exact ⟨_,e⟩
  | tup xs=>obtain ⟨_,_,_,ob,e,_⟩:=x; exact ⟨_,e⟩
  | dK kvs=>obtain ⟨_,_,_,_,o,_,_,e,_⟩:=x; exact ⟨_,e⟩
  | dT kvs=>obtain ⟨_,_,_,_,o,_,_,e,_⟩:=x; exact ⟨_,e⟩
  | set S n=>obtain ⟨o,_,_,_,e,_⟩:=x; exact ⟨_,e⟩
  | ins C dx fs=>obtain ⟨_,_,_,e,_⟩:=x; exact ⟨_,e⟩
  | own y=>obtain ⟨_,e⟩:=x; exact ⟨_,e⟩
  | xd fs=>obtain ⟨_,⟨_,_,_,e,_⟩,_⟩:=x; exact ⟨_,e⟩
  | rng lo hi=>obtain ⟨_,_,_,e⟩:=x; exact ⟨_,e⟩
  | frz ob u _=>obtain ⟨e,_⟩:=x; exact ⟨_,e⟩
  | tbl ps=>exact ⟨_,(show h.get? a=some _ from x)⟩
  | met f y=>exact ⟨_,(show h.get? a=some _ from x)⟩
  | ext φ=>obtain ⟨_,e,_⟩:=x; exact e
  | cod q pos=>rcases x with e | ⟨_,e,_⟩ <;> exact ⟨_,e⟩
structure UnB (fs : List Addr) (H H' : Hp) (h B h' : Heap) : Prop where
  keep : ∀ b o,h.get? b=some o→H b=none→b ∉ fs→B.get? b=some o
  slot : ∀ b o,h.get? b=some o→H b=none→b∈fs→∃ sl,h'.get? b=some { o with slots:=sl }
  free : ∀ b o,h.get? b=some o→H b=none→H' b=none
  there : ∀ b o,h.get? b=some o→b∈fs∨∃ o',B.get? b=some o'
  tups : ∀ b xs,H b=some (.tup xs)→H' b=some (.tup xs)
  frzs : ∀ b o u,H b=some (.frz o u)→H' b=some (.frz o u)
  tbls : ∀ b ps,H b=some (.tbl ps)→∃ more,H' b=some (.tbl (ps ++ more))
def CXE (P : Program) (w : World) : CXT:=fun outer H s E e s'=>∃ (a : Addr) (cls a0 : Value) (H' : Hp) (B : Heap),e = .ref a∧s'.os=s.os∧AllBare s'.gens∧E cls none H'∧HOk P w H' B∧H' a=none∧s.heap.get? a=none∧
  Heap.FlyingW B outer a cls a0 s'.heap∧UnB (frs outer) H H' s.heap B s'.heap
section
variable {X : Cx} {pins : List (Addr×Obj)} {σ : St} {H : Hp} {s s' : Shared} {E : XK}
theorem raise_leaves {CX : CXT} {P : Program} {w : World} {K : PySem.W.Frag} {mg : Str→Option Value} {base : Heap} {N : List Str} {qual : Str} {scope : Scope} {f : Addr} {cd : Value} {A : Around} {outer : List Env} {s₀ : Shared} {H₀ : Hp}
    {pins : List (Addr×Obj)} {σ : St} {H : Hp} {s : Shared} {h' : Heap} {e : Addr} {cls : Value} {args : List Value}
    (I : Inv (cxOf (CXE P w) P w K mg base N qual scope f cd A outer s₀ H₀ E) pins σ H s) (hx : Heap.MadeExcOf s.heap h' e cls args) (hE : E cls none H) :
    (cxOf (CXE P w) P w K mg base N qual scope f cd A outer s₀ H₀ E).xe (.ref e) { s with heap:=h' }:=by
  have hst:=I.stack
  have hlt:=I.lt
  have hnoex : ∀ b : Addr,b ∉ ([] : List Addr):=fun b z=>nomatch z
  show wpAny (model P w) (A.deeper (envOfC qual scope s₀.heap.objs.size f cd)) (leaving (envOfC qual scope s₀.heap.objs.size f cd) (.ref e)) (fun _ s''=>CXE P w outer H₀ s₀ E (.ref e) s'') (fun e' s''=>CXE P w outer H₀ s₀ E e' s'') { s with heap:=h' }
  refine wpAny_leaves_madeW (base:=PySem.W.hideAll s.heap (frs (envOfC qual scope s₀.heap.objs.size f cd :: outer))) (h:=s.heap) (L:=s₀.heap.objs.size) I.ok.frames rfl (fun b o q=>PySem.W.of_hideAll _ q)
    (PySem.W.funFrames_hide hst fun env he b hb=>List.mem_filterMap.mpr ⟨env,he,hb⟩) hx fun h'' t fly _ _ upto=>?_
  have hsub : ∀ b,b∈frs outer→b∈frs (envOfC qual scope s₀.heap.objs.size f cd :: outer):=fun b hb=>by
    obtain ⟨env,he,hf⟩:=List.mem_filterMap.mp hb
    exact List.mem_filterMap.mpr ⟨env,.tail _ he,hf⟩
  have hnot : ∀ b o,s₀.heap.get? b=some o→b ∉ frs outer→b ∉ frs (envOfC qual scope s₀.heap.objs.size f cd :: outer):=fun b o q nb hb=>by
    rcases List.mem_cons.mp (I.stkSub b hb) with z | z
    · exact absurd (Heap.lt_size q) (by rw [z]; exact Nat.lt_irrefl _)
    · exact nb z
  have hfree : ∀ b∈frs (envOfC qual scope s₀.heap.objs.size f cd :: outer),H b=none:=I.stkFree
  have nohid : ∀ b u,H b=some u→b ∉ frs (envOfC qual scope s₀.heap.objs.size f cd :: outer):=fun b u q hb=>by rw [hfree b hb] at q; cases q
  refine ⟨e,cls,.ref t,H,_,rfl,I.os,I.bare,hE,fun b u q=>?_,?_,?_,fly,?_⟩
  · refine (I.hok b u q).stay (fun c v hc r=>PySem.W.hideAll_get _ r ?_) (fun _ r=>r) fun _ _ r=>r
    rcases hc with z | z
    · rw [z]; exact nohid b u q
    · exact nohid c _ z
  · cases q : H e with
    | none=>rfl
    | some u=>
      obtain ⟨ob,e1⟩:=objThere (I.hok e u q)
      rw [hx.new] at e1; cases e1
  · cases q : s₀.heap.get? e with
    | none=>rfl
    | some o=>
      obtain ⟨o',e1⟩:=I.base.there e o q (hnoex e)
      rw [hx.new] at e1; cases e1
  · refine ⟨fun b o q n nb=>PySem.W.hideAll_get _ (I.base.keep b o q n nb (hnoex b)) (hnot b o q nb),fun b o q n hb=>?_,fun b o q n=>I.base.free b o q n (hnoex b),fun b o q=>?_,I.base.tups,I.base.frzs,I.base.tbls⟩
    · obtain ⟨sl,e1⟩:=I.base.slot b o q n hb (hnoex b)
      obtain ⟨_,ob,e2,nf⟩:=hst.mem (hsub b hb)
      rw [e1] at e2; cases e2
      have e3:=hx.keeps b _ e1
      obtain ⟨sl',e4⟩:=upto b _ e3 nf
      exact ⟨sl',e4⟩
    · by_cases hb : b∈frs outer
      · exact .inl hb
      · obtain ⟨o',e1⟩:=I.base.there b o q (hnoex b)
        exact .inr ⟨o',PySem.W.hideAll_get _ e1 (hnot b o q hb)⟩
theorem passE {P : Program} {w : World} {K : PySem.W.Frag} {mg : Str→Option Value} {base : Heap} {N : List Str} {qual : Str} {scope : Scope} {f : Addr} {cd : Value} {A : Around} {outer : List Env} {s₀ : Shared} {H₀ : Hp} {E E' : XK}
    (hE : ∀ cls H,E' cls none H→E cls none H) : Passes (CXE P w) (cxOf (CXE P w) P w K mg base N qual scope f cd A outer s₀ H₀ E) E':=by
  intro pins σ H s e s' I h
  obtain ⟨a,cls,a0,H',B,rfl,hos,hb,hE',hok,hna,hfr,fly,u⟩:=h
  have hnoex : ∀ b : Addr,b ∉ ([] : List Addr):=fun b z=>nomatch z
  have hsub : ∀ b,b∈frs outer→b∈frs (envOfC qual scope s₀.heap.objs.size f cd :: outer):=fun b hb=>by
    obtain ⟨env,he,hf⟩:=List.mem_filterMap.mp hb
    exact List.mem_filterMap.mpr ⟨env,.tail _ he,hf⟩
  have hnot : ∀ b o,s₀.heap.get? b=some o→b ∉ frs outer→b ∉ frs (envOfC qual scope s₀.heap.objs.size f cd :: outer):=fun b o q nb hb=>by
    rcases List.mem_cons.mp (I.stkSub b hb) with z | z
    · exact absurd (Heap.lt_size q) (by rw [z]; exact Nat.lt_irrefl _)
    · exact nb z
  show wpAny (model P w) (A.deeper (envOfC qual scope s₀.heap.objs.size f cd)) (leaving (envOfC qual scope s₀.heap.objs.size f cd) (.ref a)) (fun _ s''=>CXE P w outer H₀ s₀ E (.ref a) s'') (fun e' s''=>CXE P w outer H₀ s₀ E e' s'') s'
  refine wpAny_leaves_onW (L:=s₀.heap.objs.size) I.ok.frames rfl fly fun h'' fly' upto=>?_
  refine ⟨a,cls,a0,H',B,rfl,hos.trans I.os,hb,hE cls H' hE',hok,hna,?_,fly',?_⟩
  · cases q : s₀.heap.get? a with
    | none=>rfl
    | some o=>
      obtain ⟨o',e1⟩:=I.base.there a o q (hnoex a)
      rw [hfr] at e1; cases e1
  · refine ⟨fun b o q n nb=>u.keep b o (I.base.keep b o q n nb (hnoex b)) (I.base.free b o q n (hnoex b)) (hnot b o q nb),fun b o q n hb=>?_,fun b o q n=>?_,fun b o q=>?_,fun b xs q=>u.tups b xs (I.base.tups b xs q),fun b o x q=>u.frzs b o x (I.base.frzs b o x q),fun b ps q=>?_⟩
    · obtain ⟨sl,e1⟩:=I.base.slot b o q n hb (hnoex b)
      obtain ⟨sl',e2⟩:=u.slot b _ e1 (I.base.free b o q n (hnoex b)) (hsub b hb)
      obtain ⟨_,ob,e3,nf⟩:=fly.2.2.1.mem (hsub b hb)
      rw [e2] at e3; cases e3
      obtain ⟨sl'',e4⟩:=upto b _ e2 nf
      exact ⟨sl'',e4⟩
    · obtain ⟨o',e1⟩:=I.base.there b o q (hnoex b)
      exact u.free b o' e1 (I.base.free b o q n (hnoex b))
    · by_cases hb : b∈frs outer
      · exact .inl hb
      · obtain ⟨o',e1⟩:=I.base.there b o q (hnoex b)
        rcases u.there b o' e1 with z | z
        · exact absurd z (hnot b o q hb)
        · exact .inr z
    · obtain ⟨m1,e1⟩:=I.base.tbls b ps q
      obtain ⟨m2,e2⟩:=u.tbls b _ e1
      exact ⟨m1 ++ m2,by rw [e2,Array.append_assoc]⟩
end
end L2
namespace L2
open PySem PySem.Spec PyProof.Rows PySem.Builtin.ObjectAttr PySem.Builtin.Getset_descriptor
section
variable {prog : Program} {w : World} {A : Around} {E : Value→Shared→Prop} {K : PySem.W.Frag} {x D : Addr} {s : Shared}
end
end L2
namespace L2
open PySem PySem.Spec PyProof.Rows
theorem exc_obj {K : PySem.W.Frag} {h : Heap} {C : Addr} {bmB : List Value} {newId : String} (X : K.In h) (q : PySem.W.excIn K C bmB newId=true) :
    ∃ bm N nm qn bs hd sn sub ab col dd k0 k1 k2 k3 k5 mN,h.get? C=some (excClassObj nm qn C N bs bm hd sn sub ab col dd k0 k1 k2 k3 k5 newId)∧h.Ns N mN∧mN "__init__" = none∧OwnTail h bmB bm:=by
  unfold PySem.W.excIn at q
  split at q
  · rename_i dd cd sl look
    split at q
    · rename_i C2 bm k0 k1 k2 k3 n k5 hmro hsl
      simp only [Bool.and_eq_true,beq_iff_eq,Bool.not_eq_true'] at q
      obtain ⟨⟨⟨⟨⟨rfl,rfl⟩,hde⟩,htl⟩,hns⟩,hin⟩:=q
      obtain ⟨nm,bs,mro,ns,qn,hd,sn,sub,ab,col,del⟩:=cd
      dsimp only at hmro hde hns hin
      subst hmro hde
      have es : sl = #[k0,k1,k2,k3,some (.builtin n),k5]:=by
        obtain ⟨ls⟩:=sl
        have e1 : ls=[k0,k1,k2,k3,some (.builtin n),k5]:=hsl
        rw [e1]
      subst es
      exact ⟨bm,ns,nm,qn,bs,hd,sn,sub,ab,col,dd,k0,k1,k2,k3,k5,_,X _ _ look,.of_isNs (PySem.W.isNs_of_in X hns),PySem.W.nsMap_none_of_in X hns hin,PySem.W.tail_of_in X htl⟩
    · cases q
  · cases q
section
variable {X : Cx}
def tRaise (C : Addr) (E : XK) (t : TA) : TS:=fun D σ H=>t σ H fun vs H1=>vs.length≤sizeLine∧E (.ref C) none H1
def Makes (X : Cx) (E : XK) : Prop:=∀ (pins : List (Addr×Obj)) (σ : St) (H : Hp) (s : Shared) (h' : Heap) (e : Addr) (cls : Value) (args : List Value),Inv X pins σ H s→Heap.MadeExcOf s.heap h' e cls args→E cls none H→X.xe (.ref e) { s with heap:=h' }
theorem makesE {P : Program} {w : World} {K : PySem.W.Frag} {mg : Str→Option Value} {base : Heap} {N : List Str} {qual : Str} {scope : Scope} {f : Addr} {cd : Value} {A : Around} {outer : List Env} {s₀ : Shared} {H₀ : Hp} {E : XK} :
    Makes (cxOf (CXE P w) P w K mg base N qual scope f cd A outer s₀ H₀ E) E:=fun _ _ _ _ _ _ _ _ I hx hE=>raise_leaves (CX:=CXE P w) I hx hE
theorem ps_raise {x : Str} {C : Addr} {B newId initId : String} {bmB : List Value} {e₀ : Expr} {rest : List Expr} {np cpos pos : Pos} {t : TA} {E : XK} (hg : Gl X x) (hm : X.mg x=some (.ref C)) (hq : PySem.W.excIn X.K C bmB newId=true)
    (FB : ExcBaseFacts B newId initId bmB) (hcalm : X.calm=true) (hxe : Makes X E) (ha : PA X (e₀ :: rest) t) (hd : (x == ("__debug__" : Str))=false:=by decide)
    (he : starEach (e₀ :: rest) X.env=(false,eval e₀ X.env) :: starEach rest X.env:=by rfl) (hpl : (backTo cpos (starEach rest X.env)).any (·.1)=false:=by rfl) :
    PS X (.Raise (some (.Call (.Name x np) (e₀ :: rest) [] cpos)) none pos) (tRaise C E t):=by
  intro pins s σ H D I h
  obtain ⟨bm,N,nm,qn,bs,hdd,sn,sub,ab,col,dd,k0,k1,k2,k3,k5,mN,hC,hN,hni,T⟩:=exc_obj (bmB:=bmB) I.mod.kin hq
  refine wpAny_Raise_call_subT (C:=C) (N:=N) (bm:=bm) (nm:=nm) (q:=qn) (bs:=bs) (hdct:=hdd) (sn:=sn) (sub:=sub) (ab:=ab) (col:=col) (dd:=dd) (k0:=k0) (k1:=k1) (k2:=k2) (k3:=k3) (k5:=k5) FB (mN:=mN) (T.hasType FB.hasBase) (I.ok.hd hcalm)
    (by rw [he]; show (false || (backTo cpos (starEach rest X.env)).any (·.1))=false; rw [hpl]; rfl) hni (ld_glob I hg hm ⟨rfl,?_⟩ hd)
  have h1:=ha cpos pins s σ H _ I h
  rw [he] at h1 ⊢
  refine Calls.evalArgs_plain (thn h1 fun us s1 ⟨vs,H1,I1,r1,q1⟩=>?_)
  exact ⟨rfl,(by rw [← r1.length]; exact q1.1),I1.bk _ _ hC,hN.keeps I1.bk,T.keeps I1.bk,fun h' e hx=>hxe pins σ H1 s1 h' e _ _ I1 hx q1.2⟩
theorem Inv.track {pins : List (Addr×Obj)} {σ : St} {H : Hp} {s : Shared} {a : Addr} {o : HO} (I : Inv X pins σ H s) (hs : X.s₀.heap.get? a=none) (hn : H a=none) (hL : a≠X.env.locals) (hc : ∀ x c,X.env.cells.lookup x=some c→c≠a)
    (hp : ∀ p∈X.pn ++ pins,p.1≠a) (new : ObjOk X.prog X.w (upd H a o) s.heap a o) : Inv X pins σ (upd H a o) s:=by
  have ne : ∀ b ob,X.s₀.heap.get? b=some ob→b≠a:=fun b ob e z=>by rw [z,hs] at e; cases e
  have nt : ∀ b u,H b=some u→b≠a:=fun b u e z=>by rw [z,hn] at e; cases e
  refine ⟨I.ok,I.os,I.bare,⟨I.base.keep,I.base.slot,fun b ob e n hx=>by rw [upd_ne (ne b ob e)]; exact I.base.free b ob e n hx,I.base.there,fun b xs e=>?_,fun b ob xs e=>?_,fun b ps e=>?_⟩,I.loc,I.cell,by rw [upd_ne hL.symm]; exact I.free,fun x c e=>by rw [upd_ne (hc x c e)]; exact I.freeC x c e,fun p hp'=>?_,fun b u e=>?_,I.len⟩
  · have e1:=I.base.tups b xs e
    rw [upd_ne (nt b _ e1)]; exact e1
  · have e1:=I.base.frzs b ob xs e
    rw [upd_ne (nt b _ e1)]; exact e1
  · obtain ⟨more,e1⟩:=I.base.tbls b ps e
    exact ⟨more,by rw [upd_ne (nt b _ e1)]; exact e1⟩
  · obtain ⟨e,n,r⟩:=I.pin p hp'
    exact ⟨e,by rw [upd_ne (hp p hp')]; exact n,r⟩
  · by_cases z : b=a
    · subst z
      rw [upd_same] at e
      cases e
      exact new
    · rw [upd_ne z] at e
      exact (I.hok b u e).stay (fun _ _ _ q=>q) (fun c q=>by rw [upd_ne (nt c _ q)]; exact q) fun c xs q=>by rw [upd_ne (nt c _ q)]; exact q
end
end L2
namespace L2
open PySem PySem.Spec PyProof.Rows
def clOf (env : Env) : List (Str×NameKind)→List (Str×Addr)→List (Str×Addr)
  | [],cs=>cs
  | (n,k) :: r,cs=>clOf env r (if k == .free then (n,(env.cells.lookup n).getD 0) :: cs else cs)
theorem closureFor_cl {scope : Scope} {env : Env} (h : ∀ y∈scope.names,y.2 = .free→∃ c,env.cells.lookup y.1=some c) : closureFor scope env=pure (clOf env scope.names []):=by
  have all : ∀ (l : List (Str×NameKind)) (cs : List (Str×Addr)),(∀ y∈l,y.2 = .free→∃ c,env.cells.lookup y.1=some c)→
      (forIn l cs fun (x : Str×NameKind) r=>(if (x.2 == NameKind.free)=true then do let a ← cellOf env x.1; pure (ForInStep.yield ((x.1,a) :: r)) else pure (ForInStep.yield r) : Sem (ForInStep (List (Str×Addr)))))=pure (clOf env l cs):=by
    intro l
    induction l with
    | nil=>intro cs _; rfl
    | cons x r ih=>
      intro cs hl
      obtain ⟨n,k⟩:=x
      rw [List.forIn_cons]
      by_cases hk : (k == NameKind.free)=true
      · obtain ⟨c,hc⟩:=hl (n,k) (.head _) (by simpa using hk)
        have e : cellOf env n=pure c:=by unfold cellOf; rw [show env.cells.lookup n=some c from hc]
        simp only [hk,if_true,e,pure_bind]
        rw [ih _ fun y hy=>hl y (.tail _ hy)]
        show _=pure (clOf env r (if k == .free then _ else _))
        rw [if_pos hk,show env.cells.lookup n=some c from hc]
        rfl
      · simp only [hk,Bool.false_eq_true,if_false,pure_bind]
        rw [ih _ fun y hy=>hl y (.tail _ hy)]
        show _=pure (clOf env r (if k == .free then _ else _))
        rw [if_neg hk]
  unfold closureFor
  have:=all scope.names [] h
  simp only [bind_pure] at this ⊢
  exact this
theorem mem_clOf {env : Env} : ∀ (l : List (Str×NameKind)) (cs : List (Str×Addr)) {p : Str×Addr},p∈clOf env l cs→p∈cs∨((p.1,NameKind.free)∈l∧p.2=(env.cells.lookup p.1).getD 0)
  | [],cs,p,h=>.inl h
  | (n,k) :: r,cs,p,h=>by
    unfold clOf at h
    rcases mem_clOf r _ h with z | ⟨z1,z2⟩
    · split at z
      · rename_i hk
        have hk' : k = .free:=by simpa using hk
        rcases List.mem_cons.mp z with rfl | z
        · exact .inr ⟨by rw [hk']; exact .head _,rfl⟩
        · exact .inl z
      · exact .inl z
    · exact .inr ⟨.tail _ z1,z2⟩
theorem clOf_grows {env : Env} : ∀ (l : List (Str×NameKind)) (cs : List (Str×Addr)) {p : Str×Addr},p∈cs→p∈clOf env l cs
  | [],cs,p,h=>h
  | (n,k) :: r,cs,p,h=>by
    unfold clOf
    refine clOf_grows r _ ?_
    split
    · exact .tail _ h
    · exact h
theorem clOf_has {env : Env} : ∀ (l : List (Str×NameKind)) (cs : List (Str×Addr)) {x : Str},(x,NameKind.free)∈l→(x,(env.cells.lookup x).getD 0)∈clOf env l cs
  | (n,k) :: r,cs,x,h=>by
    unfold clOf
    rcases List.mem_cons.mp h with e | h
    · cases e
      refine clOf_grows r _ ?_
      rw [if_pos (by decide)]
      exact .head _
    · exact clOf_has r _ h
theorem lookup_of_mem {α : Type} : ∀ {l : List (Str×α)} {x : Str} {v : α},(x,v)∈l→∃ u,l.lookup x=some u
  | (n,k) :: r,x,v,h=>by
    by_cases e : x=n
    · exact ⟨k,by rw [List.lookup_cons,e]; simp⟩
    · rcases List.mem_cons.mp h with z | z
      · cases z; exact absurd rfl e
      · obtain ⟨u,hu⟩:=lookup_of_mem z
        exact ⟨u,by rw [List.lookup_cons]; rw [show (x == n)=false from by simpa using e]; exact hu⟩
def cxComp (X : Cx) (N' : List Str) (scope : Scope) (C : Addr) (s : Shared) (H : Hp) (fp : List Addr) : Cx where
  prog:=X.prog
  w:=X.w
  K:=X.K
  mg:=X.mg
  base:=X.base
  A:=X.A
  N:=N'
  s₀:=s
  H₀:=H
  env:=compEnvC scope (clOf X.env scope.names []) C X.env
  outer:=X.stack
  stack:=X.stack
  ex:=fp
  fn:=fun _=>false
  calm:=true
  pn:=[]
  xe:=fun _ _=>False
structure CompScope (X : Cx) (N' : List Str) (ix : List (Option Nat)) (scope : Scope) : Prop where
  kind : scope.kind = .function
  nocell : ∀ y∈scope.names,y.2≠.cell
  loc : ∀ y∈scope.names,y.2 = .local→scope.names.lookup y.1=some .local
  nd : N'.Nodup
  len : ix.length=N'.length
  free : ∀ y∈scope.names,y.2 = .free→X.env.kindOf y.1=some .cell
  out : ∀ (k j : Nat) (x : Str),N'[k]? = some x→ix[k]? = some (some j)→X.N[j]? = some x∧(x,NameKind.free)∈scope.names∧(relabel scope X.env).names.lookup x=some .cell
def compSt (ix : List (Option Nat)) (σ : St) : St:=ix.map fun o=>o.bind fun j=>(σ[j]?).join
theorem relabel_back {scope : Scope} {env : Env} {x : Str} {k : NameKind} (hc : ∀ y∈scope.names,y.2≠.cell) (h : (relabel scope env).names.lookup x=some k) (hk : k = .cell∨k = .free) : (x,NameKind.free)∈scope.names:=by
  have m:=PySem.mem_of_lookup h
  unfold relabel at m
  obtain ⟨⟨n,k0⟩,h1,h2⟩:=List.mem_map.mp m
  dsimp only at h2
  split at h2
  · rename_i q
    cases h2
    have : k0 = .free:=by
      simp only [Bool.and_eq_true,beq_iff_eq] at q
      exact q.1.1
    rw [this] at h1
    exact h1
  · cases h2
    rcases hk with rfl | rfl
    · exact absurd rfl (hc _ h1)
    · exact h1
section
variable {X : Cx} {N' : List Str} {ix : List (Option Nat)} {scope : Scope}
theorem cl_cells {pins : List (Addr×Obj)} {σ : St} {H : Hp} {s : Shared} (I : Inv X pins σ H s) (S : CompScope X N' ix scope) {x : Str} {c : Addr} (h : (clOf X.env scope.names []).lookup x=some c) : X.env.cells.lookup x=some c:=by
  rcases mem_clOf _ _ (PySem.mem_of_lookup h) with z | ⟨z1,z2⟩
  · cases z
  · obtain ⟨c',hc⟩:=I.ok.has x (.inl (S.free _ z1 rfl))
    dsimp only at z2
    rw [hc] at z2
    rw [hc,z2]
    rfl
theorem inv_comp {pins : List (Addr×Obj)} {σ : St} {H : Hp} {s : Shared} {h' : Heap} {tk : Nat} {fp : List Addr} (I : Inv X pins σ H s) (hcalm : X.calm=true) (S : CompScope X N' ix scope) (hf : ∀ b∈fp,FpOk X pins H b) (hlt : ∀ b∈fp,b < s.heap.objs.size)
    (hns : h'.Ns s.heap.objs.size (fun _=>none)) (hk : ∀ b o,s.heap.get? b=some o→h'.get? b=some o) : Inv (cxComp X N' scope s.heap.objs.size s H fp) [] (compSt ix σ) H { s with heap:=h',toks:=tk }:=by
  have noL : H s.heap.objs.size=none:=I.hok.fresh (Nat.le_refl _)
  refine ⟨⟨I.ok.mod,S.kind,I.ok.glob,I.ok.blt,Nat.le_refl _,fun x y c h1 h2=>I.ok.inj x y c (cl_cells I S h1) (cl_cells I S h2),fun x hx=>?_,(fun x c z=>nomatch z),fun _=>I.ok.hd hcalm,I.ok.frames,.inl rfl,fun b hb=>⟨Nat.ne_of_lt (hlt b hb),fun x c h=>?_⟩,I.bs,Nat.le_trans I.ok.bsz I.sz,fun b o q hb=>?_,fun b hb=>?_,I.stack,I.stkFree⟩,
    rfl,I.bare,Un.kept hk,⟨_,hns,fun k x v h1 h2 h3=>?_⟩,fun x c h=>?_,noL,fun x c h=>I.freeC x c (cl_cells I S h),(fun p hp=>absurd (show p∈([] : List (Addr×Obj)) from hp) (by simp)),I.hok.kept hk,?_⟩
  · have hx' : (relabel scope X.env).names.lookup x=some .cell∨(relabel scope X.env).names.lookup x=some .free:=hx
    have m : (x,NameKind.free)∈scope.names:=by
      rcases hx' with z | z
      · exact relabel_back S.nocell z (.inl rfl)
      · exact relabel_back S.nocell z (.inr rfl)
    exact lookup_of_mem (clOf_has (env:=X.env) scope.names [] m)
  · exact (hf b hb).2.2.2.2.1 x c (cl_cells I S h)
  · rcases (hf b hb).2.2.2.1 with z | z
    · exact I.ok.noex b o q z
    · exact absurd (Nat.lt_of_lt_of_le (Heap.lt_size (I.ok.bs b o q).1) z) (Nat.lt_irrefl _)
  · intro z
    rcases List.mem_cons.mp (I.stkSub b z) with e | e
    · exact (hf b hb).2.1 e
    · exact (hf b hb).2.2.1 e
  · have e2 : (compSt ix σ)[k]? = some (some v):=h2
    unfold compSt at e2
    rw [List.getElem?_map] at e2
    cases e3 : ix[k]? with
    | none=>rw [e3] at e2; cases e2
    | some o=>
      rw [e3] at e2
      cases o with
      | none=>cases e2
      | some j=>
        obtain ⟨n1,n2,n3⟩:=S.out k j x h1 e3
        have e4 : σ[j]? = some (some v):=by
          have : (σ[j]?).join=some v:=Option.some.inj e2
          cases e5 : σ[j]? with
          | none=>rw [e5] at this; cases this
          | some w=>rw [e5] at this; exact congrArg some this
        have kc:=S.free _ n2 rfl
        obtain ⟨m,hn,hl⟩:=I.loc
        obtain ⟨u,r,l⟩:=hl j x v n1 e4 (.inr (.inl kc))
        refine ⟨u,r,?_⟩
        rcases l with ⟨z,_⟩ | ⟨_,c,hc,hcell⟩
        · dsimp only at kc
          rw [kc] at z; cases z
        · obtain ⟨c',hc'⟩:=lookup_of_mem (clOf_has (env:=X.env) scope.names [] n2)
          have ec:=cl_cells I S hc'
          rw [hc] at ec
          cases ec
          exact .inr ⟨.inl n3,c,hc',hcell.keeps hk⟩
  · obtain ⟨v,q⟩:=I.cell x c (cl_cells I S h)
    exact ⟨v,q.keeps hk⟩
  · unfold compSt
    rw [List.length_map]
    exact S.len
end
end L2
namespace L2
open PySem PySem.Spec PyProof.Rows
def PIfs (X : Cx) (ifs : List Expr) (t : TT) : Prop:=
  ∀ (pins : List (Addr×Obj)) (s : Shared) (σ : St) (H : Hp) (Q : Bool→Hp→Prop),Inv X pins σ H s→t σ H Q→
    wpAny (model X.prog X.w) X.A (forIn ifs true fun c r=>if r=true then do let ok ← isTrue c X.env (eval c X.env); pure (ForInStep.yield ok) else pure (ForInStep.yield r)) (TP X pins σ Q) X.xe s
def tIf0 : TT:=fun _ H Q=>Q true H
theorem pifs_nil {X : Cx} : PIfs X [] tIf0:=fun pins s σ H Q I h=>wpAny_pure ⟨H,I,h⟩
theorem pifs_one {X : Cx} {c : Expr} {t : TT} (h : PT X c t) : PIfs X [c] t:=fun pins s σ H Q I q=>wpAny_tests_one (h pins s σ H Q I q)
def tComp (ix : List (Option Nat)) (wi : TI) (g : TG) (ti : TT) (te : TE) : TE:=fun σ H Q=>wi σ H fun J H1=>∀ D,H1 D=none→∃ W : Nat→Nat→Hp→Prop,(∃ m,W 0 m (upd H1 D (.lst [])))∧∀ i m H,W i m H→
  (J.stop i H∧Q (.ref D) H)∨(J.go i H∧∀ x H',J.yld i H x H'→g x (compSt ix σ) H' fun σ2 H2=>(∀ (k : Nat) v,(compSt ix σ)[k]? = some (some v)→σ2[k]? = some (some v))∧ti σ2 H2 fun b H3=>
    if b=true then te σ2 H3 fun y H4=>∃ zs,H4 D=some (.lst zs)∧zs.length < sizeLine∧∃ m',m' < m∧W (i + 1) m' (upd H4 D (.lst (zs ++ [y]))) else ∃ m',m' < m∧W (i + 1) m' H3)
section
variable {X : Cx} {N' : List Str} {ix : List (Option Nat)} {scope : Scope} {elt tg iter : Expr} {ifs : List Expr} {pos : Pos} {wi : TI} {g : TG} {ti : TT} {te : TE}
def CompEnd (X : Cx) (pins : List (Addr×Obj)) (σ : St) (Q : VK) (acc : Value) (C : Addr) (r : Result) (s' : Shared) : Prop:=
  ∃ D H',acc = .ref D∧(∃ f,r = .ok f)∧Inv X pins σ H' s'∧FpOk X pins H' C∧(∃ m,s'.heap.Ns C m)∧Q (.ref D) H'
theorem comp_loop {X' : Cx} {σ₀ : St} {H : Hp} {s : Shared} {Q : VK} {it D : Addr} {fp : List Addr} {tn : Nat→Heap→Prop} {J : It} {W : Nat→Nat→Hp→Prop} {m0 : Nat} (I : Inv X' [] σ₀ H s) (hcalm : X'.calm=true) (hxe : X'.xe=fun _ _=>False)
    (T : Turn X'.prog X'.w X'.K tg J fp it tn) (st : tn 0 s.heap) (hf : ∀ b∈fp,FpOk X' [] H b) (hg : PG X' tg g) (hi : PIfs X' ifs ti) (he : PE X' elt te) (w0 : W 0 m0 H)
    (turn : ∀ i m H,W i m H→(J.stop i H∧Q (.ref D) H)∨(J.go i H∧∀ x H',J.yld i H x H'→g x σ₀ H' fun σ2 H2=>(∀ (k : Nat) v,σ₀[k]? = some (some v)→σ2[k]? = some (some v))∧ti σ2 H2 fun b H3=>
        if b=true then te σ2 H3 fun y H4=>∃ zs,H4 D=some (.lst zs)∧zs.length < sizeLine∧∃ m',m' < m∧W (i + 1) m' (upd H4 D (.lst (zs ++ [y]))) else ∃ m',m' < m∧W (i + 1) m' H3)) :
    codeAny (model X'.prog X'.w) X'.A (.compStart (.ListComp elt [⟨tg,iter,ifs,0⟩] scope pos) 0 (.ref it) (.ref D) X'.env) (fun r s'=>(∃ f,r = .ok f)∧∃ H',Inv X' [] σ₀ H' s'∧Q (.ref D) H') s:=by
  have stat : ∀ {H' : Hp},(∀ b∈fp,H' b=none)→∀ b∈fp,FpOk X' [] H' b:=fun hn b hb=>⟨hn b hb,(hf b hb).2⟩
  have loop : codeAny (model X'.prog X'.w) X'.A (.compLoop (.ListComp elt [⟨tg,iter,ifs,0⟩] scope pos) 0 (.ref it) (.ref D) X'.env) (fun r s'=>(∃ f,r = .ok f)∧∃ H',Inv X' [] σ₀ H' s'∧Q (.ref D) H') s:=by
    refine codeAny_loop rfl (fun n s'=>∃ i H',Inv X' [] σ₀ H' s'∧tn i s'.heap∧(∀ b∈fp,H' b=none)∧W i n H') ?_ m0 ⟨0,H,I,st,fun b hb=>(hf b hb).1,w0⟩
    rintro n s1 ⟨i,H1,I1,st1,fr1,w1⟩
    show wpAny _ X'.A ((compTurn (.ListComp elt [⟨tg,iter,ifs,0⟩] scope pos) 0 (.ref it) (.ref D) X'.env).onRaise (fun x=>do noteFrame x X'.env; theTreesLotGoes x)) _ _ s1
    refine wpAny_noted ?_
    have noE : ∀ {α : Type} {t : Sem α} {P : α→Shared→Prop} {F : Value→Shared→Prop} {s : Shared},wpAny (model X'.prog X'.w) X'.A t P X'.xe s→wpAny (model X'.prog X'.w) X'.A t P F s:=fun h=>wpAny_mono h (fun _ _ x=>x) fun e s' x=>by rw [hxe] at x; exact x.elim
    rw [compTurn_list]
    refine wpAny_bind (wpAny_standAt (wpAny_bind ?_))
    rcases turn i n H1 w1 with ⟨stop,qn⟩ | ⟨go,step⟩
    · refine thn (T.done X' rfl rfl rfl hcalm i [] s1 σ₀ H1 _ I1 (stat fr1) st1 stop) fun r s2 ⟨hr,I2⟩=>?_
      subst hr
      exact wpAny_pure ⟨⟨_,rfl⟩,H1,I2,qn⟩
    · refine thn (T.item X' rfl rfl rfl hcalm i [] s1 σ₀ H1 _ I1 (stat fr1) st1 go) fun r s2 ⟨u,hr,h2⟩=>?_
      subst hr
      refine wpAny_bind (thn h2 fun _ s3 ⟨x,H3,I3,r3,y3,st3,fr3⟩=>?_)
      have I3':=I3.pinned (stat fr3) (T.obj _ _ st3)
      refine wpAny_bind (noE (thn (hg _ s3 σ₀ H3 x u _ I3' r3 (step x H3 y3)) fun _ s4 ⟨σ4,H4,I4,hk4,q4⟩=>?_))
      refine wpAny_bind (noE (thn (hi _ s4 σ4 H4 _ I4 q4) fun ok s5 ⟨H5,I5,q5⟩=>?_))
      have again' : ∀ {s7 : Shared} {H7 : Hp} {m' : Nat},Inv X' ([] ++ pinsAt fp s3.heap) σ4 H7 s7→m' < n→W (i + 1) m' H7→∃ m,m < n∧∃ i H',Inv X' [] σ₀ H' s7∧tn i s7.heap∧(∀ b∈fp,H' b=none)∧W i m H':=fun {s7 H7 m'} I7 hm w7=>by
        refine ⟨m',hm,i + 1,H7,I7.unpinned.weak (by rw [I3.len,I7.len]) hk4,T.keep _ _ _ st3 fun b hb o e=>(I7.pin (b,o) (List.mem_append_right _ (List.mem_append_right _ (mem_pinsAt hb e)))).1,fun b hb=>?_,w7⟩
        obtain ⟨o,e,d⟩:=T.obj _ _ st3 b hb
        exact (I7.pin (b,o) (List.mem_append_right _ (List.mem_append_right _ (mem_pinsAt hb e)))).2.1
      cases ok with
      | false=>
        obtain ⟨m',hm,w7⟩:=q5
        exact wpAny_pure ⟨rfl,again' I5 hm w7⟩
      | true=>
        refine wpAny_bind (wpAny_bind (noE (thn (he _ s5 σ4 H5 _ I5 q5) fun y s6 ⟨yv,H6,I6,r6,zs,hD,hz,m',hm,w7⟩=>?_)))
        refine wpAny_bind (noE (thn (mt_append (X:=X') _ s6 σ4 H6 (.ref D) [yv] (.ref D) [y] (fun v H7=>H7=upd H6 D (.lst (zs ++ [yv]))) I6 rfl (.cons r6 .nil) ⟨D,zs,yv,rfl,rfl,hD,hz,rfl⟩) fun v s7 ⟨vv,H7,I7,_,e7⟩=>?_))
        subst e7
        exact wpAny_pure (wpAny_pure ⟨rfl,again' I7 hm w7⟩)
  refine codeAny_compStart_list loop (T.self _ 0 s _ _ st loop)
theorem comp_block {pins : List (Addr×Obj)} {σ : St} {H : Hp} {s : Shared} {Q : VK} {it : Addr} {fp : List Addr} {tn : Nat→Heap→Prop} {J : It} {E : Value→Shared→Prop} (I : Inv X pins σ H s) (hcalm : X.calm=true) (S : CompScope X N' ix scope)
    (T : Turn X.prog X.w X.K tg J fp it tn) (st : tn 0 s.heap) (hf : ∀ b∈fp,FpOk X pins H b)
    (hg : ∀ C s H fp,PG (cxComp X N' scope C s H fp) tg g) (hi : ∀ C s H fp,PIfs (cxComp X N' scope C s H fp) ifs ti) (he : ∀ C s H fp,PE (cxComp X N' scope C s H fp) elt te)
    (h : ∀ D,H D=none→∃ W : Nat→Nat→Hp→Prop,(∃ m,W 0 m (upd H D (.lst [])))∧∀ i m H,W i m H→
      (J.stop i H∧Q (.ref D) H)∨(J.go i H∧∀ x H',J.yld i H x H'→g x (compSt ix σ) H' fun σ2 H2=>(∀ (k : Nat) v,(compSt ix σ)[k]? = some (some v)→σ2[k]? = some (some v))∧ti σ2 H2 fun b H3=>
        if b=true then te σ2 H3 fun y H4=>∃ zs,H4 D=some (.lst zs)∧zs.length < sizeLine∧∃ m',m' < m∧W (i + 1) m' (upd H4 D (.lst (zs ++ [y]))) else ∃ m',m' < m∧W (i + 1) m' H3)) :
    wpAny (model X.prog X.w) X.A (newList []) (fun acc s3=>wpAny (model X.prog X.w) X.A (newFunctionEnv scope X.env.globals (clOf X.env scope.names []) [] X.env.qual none .none (some X.env)) (fun cenv s4=>
      codeAny (model X.prog X.w) X.A (.compStart (.ListComp elt [⟨tg,iter,ifs,0⟩] scope pos) 0 (.ref it) acc { cenv with scope:=relabel scope X.env }) (CompEnd X pins σ Q acc cenv.locals) s4) E s3) E s:=by
  refine wpAny_newList ?_
  have fresh0 : H s.heap.objs.size=none:=I.hok.fresh (Nat.le_refl _)
  have I3 : Inv X pins σ (upd H s.heap.objs.size (.lst [])) { s with heap:=s.heap.push { cls:=.type "list",data:=.seq ([] : List Value).toArray } } :=
    I.laid (t':=s.toks) (fun b u e=>Heap.get?_push_of_some _ e) (Nat.le_refl _) ⟨by show 0≤sizeLine; exact Nat.zero_le _,[],0,.nil,Heap.get?_push_size _ rfl⟩
  obtain ⟨W,⟨m0,w0⟩,turn⟩:=h s.heap.objs.size fresh0
  generalize hD : s.heap.objs.size=D at *
  have lt0 : ∀ b∈fp,b < s.heap.objs.size:=fun b hb=>by obtain ⟨o,e,_⟩:=T.obj 0 _ st b hb; exact Heap.lt_size e
  have hf3 : ∀ b∈fp,FpOk X pins (upd H D (.lst [])) b:=fun b hb=>by
    have nb : b≠D:=by rw [← hD]; exact Nat.ne_of_lt (lt0 b hb)
    obtain ⟨f0,fr⟩:=hf b hb
    exact ⟨by rw [upd_ne nb]; exact f0,fr⟩
  have st3 : tn 0 (s.heap.push { cls:=.type "list",data:=.seq ([] : List Value).toArray }):=T.keep _ _ _ st fun b hb o e=>Heap.get?_push_of_some _ e
  revert I3 st3
  generalize (s.heap.push { cls:=.type "list",data:=.seq ([] : List Value).toArray })=h3
  intro I3 st3
  have lt3 : ∀ b∈fp,b < h3.objs.size:=fun b hb=>by obtain ⟨o,e,_⟩:=T.obj 0 _ st3 b hb; exact Heap.lt_size e
  refine wpAny_newFunctionEnv S.nocell (fun x hx=>nomatch hx) (fun h4 hns hsb=>?_) S.kind
  have k4 : ∀ b o,h3.get? b=some o→h4.get? b=some o:=fun b o e=>(hsb.2 b (Nat.ne_of_lt (Heap.lt_size e))).trans (Heap.get?_push_of_some _ e)
  have J4 : Inv (cxComp X N' scope h3.objs.size { s with heap:=h3 } (upd H D (.lst [])) fp) [] (compSt ix σ) (upd H D (.lst [])) { s with heap:=h4,toks:=s.toks + ([] : List (Str×Value)).length }:=
    inv_comp (s:={ s with heap:=h3 }) (tk:=s.toks + ([] : List (Str×Value)).length) I3 hcalm S hf3 lt3 hns k4
  have st4 : tn 0 ({ s with heap:=h4,toks:=s.toks + ([] : List (Str×Value)).length } : Shared).heap:=T.keep _ _ _ st3 fun b hb o e=>k4 b o e
  have fr4 : ∀ b∈fp,upd H D (.lst []) b=none:=fun b hb=>(hf3 b hb).1
  revert J4 st4
  generalize ({ s with heap:=h4,toks:=s.toks + ([] : List (Str×Value)).length } : Shared)=s4
  intro J4 st4
  have hf4 : ∀ b∈fp,FpOk (cxComp X N' scope h3.objs.size { s with heap:=h3 } (upd H D (.lst [])) fp) [] (upd H D (.lst [])) b:=fun b hb=>
    ⟨fr4 b hb,Nat.ne_of_lt (lt3 b hb),J4.ok.exfs b hb,.inl hb,fun x c e=>(J4.ok.exf b hb).2 x c e,fun p hp=>nomatch hp⟩
  refine codeAny_mono (comp_loop (X':=cxComp X N' scope h3.objs.size { s with heap:=h3 } (upd H D (.lst [])) fp) (Q:=Q) (D:=D) J4 rfl rfl T st4 hf4 (hg _ _ _ _) (hi _ _ _ _) (he _ _ _ _) w0 turn) fun r s' ⟨hr,H',J',q'⟩=>?_
  refine ⟨D,H',rfl,hr,I3.call' J'.os J'.base J'.hok J'.bare fun b hb=>?_,?_,?_,q'⟩
  · obtain ⟨_,f1,_,f3,f4,f5⟩:=hf3 b hb
    exact ⟨f3,f1,f4,f5⟩
  · exact I3.fpOk (H':=H') (Nat.le_refl _) J'.free
  · obtain ⟨m,hn,_⟩:=J'.loc
    exact ⟨m,hn⟩
end
end L2
namespace L2
open PySem PySem.Spec PyProof.Rows
section
variable {X : Cx} {N' : List Str} {ix : List (Option Nat)} {scope : Scope} {elt tg iter : Expr} {ifs : List Expr} {pos : Pos} {wi : TI} {g : TG} {ti : TT} {te : TE}
theorem comp_closure {pins : List (Addr×Obj)} {σ : St} {H : Hp} {s : Shared} (I : Inv X pins σ H s) (S : CompScope X N' ix scope) : closureFor scope X.env=pure (clOf X.env scope.names []):=
  closureFor_cl fun y hy e=>I.ok.has y.1 (.inl (S.free y hy e))
theorem pe_comp (hcalm : X.calm=true) (S : CompScope X N' ix scope) (hit : PI X tg iter wi)
    (hg : ∀ C s H fp,PG (cxComp X N' scope C s H fp) tg g) (hi : ∀ C s H fp,PIfs (cxComp X N' scope C s H fp) ifs ti) (he : ∀ C s H fp,PE (cxComp X N' scope C s H fp) elt te)
    (hs : ∀ x,foldedSetIterable iter X.env x=pure x:=by intro _; rfl) : PE X (.ListComp elt [⟨tg,iter,ifs,0⟩] scope pos) (tComp ix wi g ti te):=by
  intro pins s σ H Q I h
  rw [eval_ListComp]
  refine wpAny_comprehension_free (use:=none) rfl hs (comp_closure I S) S.kind S.loc (thn (hit pins s σ H _ I h) fun v s1 h1=>thn h1 fun itv s2 h2=>?_)
  obtain ⟨it,fp,tn,J,H2,rfl,I2,T,st2,f2,q2⟩:=h2
  refine thn (comp_block (E:=X.xe) (elt:=elt) (iter:=iter) (pos:=pos) I2 hcalm S T st2 f2 hg hi he q2) fun acc s3 h3=>thn h3 fun cenv s4 h4=>codeAny_mono h4 fun r s' hr=>?_
  obtain ⟨D,H',rfl,⟨f,rfl⟩,I',⟨g0,g1,_,g3,g4,g5⟩,⟨m,hm⟩,q'⟩:=hr
  exact ⟨m,hm,fun h' hsb=>⟨.ref D,H',I'.turned (t':=s'.toks) (fun b o hb e=>(hsb.2 b hb).trans e) g0 g1 g3 g4 g5,rfl,q'⟩⟩
end
end L2
namespace L2
open PySem PySem.Spec PyProof.Rows PySem.Builtin.SmallTypes
def SqI (h : Heap) (b : Bool) (it a : Addr) (k : Nat) : Prop:=match b with
  | true=>h.IsListIter it a k
  | false=>h.IsTupleIter it a k
def SqH (h : Heap) (b : Bool) (a : Addr) (its : Array Value) : Prop:=match b with
  | true=>h.IsList a its
  | false=>h.IsTuple a its
theorem SqI.ext {h h' : Heap} {b : Bool} {it a c : Addr} {k : Nat} (x : SqI h b it a k) (e : Heap.ExtBut c h h') (n : it≠c) : SqI h' b it a k:=by
  cases b with
  | true=>exact Heap.IsListIter.at (h:=h) x fun o q=>e it o n q
  | false=>exact Heap.IsTupleIter.at (h:=h) x fun o q=>e it o n q
theorem SqI.keep {h h' : Heap} {b : Bool} {it a : Addr} {k : Nat} (x : SqI h b it a k) (e : ∀ o,h.get? it=some o→h'.get? it=some o) : SqI h' b it a k:=by
  cases b with
  | true=>exact Heap.IsListIter.at (h:=h) x e
  | false=>exact Heap.IsTupleIter.at (h:=h) x e
theorem SqH.ext {h h' : Heap} {b : Bool} {a c : Addr} {its : Array Value} (x : SqH h b a its) (e : Heap.ExtBut c h h') (n : a≠c) : SqH h' b a its:=by
  cases b with
  | true=>exact Heap.IsList.at (h:=h) x fun o q=>e a o n q
  | false=>
    obtain ⟨o,h1,h2⟩:=(show h.IsTuple a its from x)
    exact (show h'.IsTuple a its from ⟨o,e a o n h1,h2⟩)
theorem SqI.obj {h : Heap} {b : Bool} {it a : Addr} {k : Nat} (x : SqI h b it a k) : ∃ o,h.get? it=some o∧∃ vs,o.data = .fields vs:=by
  cases b with
  | true=>obtain ⟨o,h1,_,h3⟩:=(show h.IsListIter it a k from x); exact ⟨o,h1,_,h3⟩
  | false=>obtain ⟨o,h1,_,h3⟩:=(show h.IsTupleIter it a k from x); exact ⟨o,h1,_,h3⟩
section
variable {prog : Program} {w : World} {A : Around} {E : Value→Shared→Prop} {s : Shared}
theorem tupIt_next {it t : Addr} {i : Nat} {its : Array Value} {x : Value} {Q : Value→Shared→Prop} (hi : s.heap.IsTupleIter it t i) (ht : s.heap.IsTuple t its) (hx : its[i]? = some x)
    (hq : ∀ h',h'.IsTupleIter it t (i + 1)→Heap.SameBut it s.heap h'→Q x { s with heap:=h' }) : wpAny (model prog w) A (nextOf (.ref it)) Q E s:=by
  obtain ⟨oi,e1,ec,ed⟩:=id hi
  obtain ⟨ot,e2,_,nt,et⟩:=ht
  (unfold nextOf; refine wpAny_bind (wpAny_callSpecial?_slot (name:=Str.ofString "__next__") hi.typeIs F.slot_tuple_iterator_next (wpAny_call_entry F.slot_tuple_iterator_next hi.typeIs F.entry_tuple_iterator_next ?_ (F.args_tuple_iterator_next_1 _))))
  (show wpAny _ _ (field (.ref it) 0 >>= _) _ _ s; refine wpAny_bind (wpAny_field e1 ed (x:=.ref t) rfl ?_))
  (show wpAny _ _ (if (Value.ref t == Value.none)=true then _ else _) _ _ s; rw [if_neg (show ¬ ((Value.ref t == Value.none)=true) from Bool.false_ne_true)])
  (show wpAny _ _ (field (.ref it) 1 >>= _) _ _ s; refine wpAny_bind (wpAny_field e1 ed (x:=.int i 0) rfl ?_))
  (show wpAny _ _ (seqItems? (.ref t) >>= _) _ _ s; refine wpAny_bind (wpAny_seqItems e2 et ?_))
  simp only [Int.toNat_natCast,hx]
  refine wpAny_bind (wpAny_setField e1 ed (by simp) (wpAny_pure ⟨x,rfl,wpAny_pure (hq _ ?_ (Heap.SameBut.update ..))⟩))
  exact ⟨_,Heap.get?_update_self _ e1 (Obj.isFreed_of_fields (Obj.data_mapFields ed _)),(Obj.cls_mapFields ..).trans ec,by rw [Obj.data_mapFields ed]; simp [rawInt]⟩
theorem tupIt_end {it t : Addr} {i : Nat} {its : Array Value} {Q : Value→Shared→Prop} (hh : A.handled=none) (hi : s.heap.IsTupleIter it t i) (ht : s.heap.IsTuple t its) (hx : its[i]? = none)
    (hE : ∀ h' e,Heap.ExtBut it s.heap h'→(∃ o,h'.get? e=some o∧o.cls = .type "StopIteration")→E (.ref e) { s with heap:=h' }) : wpAny (model prog w) A (nextOf (.ref it)) Q E s:=by
  obtain ⟨oi,e1,ec,ed⟩:=id hi
  obtain ⟨ot,e2,_,nt,et⟩:=ht
  (unfold nextOf; refine wpAny_bind (wpAny_callSpecial?_slot (name:=Str.ofString "__next__") hi.typeIs F.slot_tuple_iterator_next (wpAny_call_entry F.slot_tuple_iterator_next hi.typeIs F.entry_tuple_iterator_next ?_ (F.args_tuple_iterator_next_1 _))))
  (show wpAny _ _ (field (.ref it) 0 >>= _) _ _ s; refine wpAny_bind (wpAny_field e1 ed (x:=.ref t) rfl ?_))
  (show wpAny _ _ (if (Value.ref t == Value.none)=true then _ else _) _ _ s; rw [if_neg (show ¬ ((Value.ref t == Value.none)=true) from Bool.false_ne_true)])
  (show wpAny _ _ (field (.ref it) 1 >>= _) _ _ s; refine wpAny_bind (wpAny_field e1 ed (x:=.int i 0) rfl ?_))
  (show wpAny _ _ (seqItems? (.ref t) >>= _) _ _ s; refine wpAny_bind (wpAny_seqItems e2 et ?_))
  simp only [Int.toNat_natCast,hx]
  refine wpAny_bind (wpAny_rule (wpAny_bind (wpAny_setField e1 ed (by simp) ?_)))
  (show wpAny _ _ (newExc (.type "StopIteration") [] >>= _) _ _ _; refine wpAny_bind ?_)
  (simp only [newExc,newTuple]; refine wpAny_bind (wpAny_newObj_type ?_ (by size_fits)))
  refine wpAny_bind (m:=firstArgMember _ _) (wpAny_of_eq (a:=Value.none) (by rfl) ?_)
  refine wpAny_newObj_type ?_ (by size_fits)
  (simp only [raiseNew]; refine wpAny_bind (wpAny_handled ?_))
  rw [show A.in1.handled=none from hh]
  refine wpAny_bind (wpAny_pure (wpAny_throw ?_))
  exact hE _ _ (((Heap.SameBut.update ..).extBut.push _).push _) ⟨_,Heap.get?_push_size _ rfl,rfl⟩
theorem sq_next {b : Bool} {it a : Addr} {i : Nat} {its : Array Value} {x : Value} {Q : Value→Shared→Prop} (hi : SqI s.heap b it a i) (ha : SqH s.heap b a its) (hx : its[i]? = some x)
    (hq : ∀ h',SqI h' b it a (i + 1)→Heap.SameBut it s.heap h'→Q x { s with heap:=h' }) : wpAny (model prog w) A (nextOf (.ref it)) Q E s:=by
  cases b with
  | true=>exact wpAny_nextOf_list_item hi ha hx hq
  | false=>exact tupIt_next hi ha hx hq
theorem sq_end {b : Bool} {it a : Addr} {i : Nat} {its : Array Value} {Q : Value→Shared→Prop} (hh : A.handled=none) (hi : SqI s.heap b it a i) (ha : SqH s.heap b a its) (hx : its[i]? = none)
    (hE : ∀ h' e,Heap.ExtBut it s.heap h'→(∃ o,h'.get? e=some o∧o.cls = .type "StopIteration")→E (.ref e) { s with heap:=h' }) : wpAny (model prog w) A (nextOf (.ref it)) Q E s:=by
  cases b with
  | true=>exact wpAny_nextOf_list_end hh hi ha hx hE
  | false=>exact tupIt_end hh hi ha hx hE
variable {z TI TO i1 i2 l1 l2 : Addr} {b1 b2 : Bool} {k1 k2 : Nat} {xs ys : Array Value} {x y a b : Value}
theorem zipS_item {Q : Value→Shared→Prop} (D : ZipApart z TI TO i1 i2 l1 l2) (hz : IsZip s.heap z TI TO .none) (hTI : IsPair s.heap TI (.ref i1) (.ref i2)) (hTO : IsPair s.heap TO a b)
    (h1 : SqI s.heap b1 i1 l1 k1) (h2 : SqI s.heap b2 i2 l2 k2) (hl1 : SqH s.heap b1 l1 xs) (hl2 : SqH s.heap b2 l2 ys) (hx : xs[k1]? = some x) (hy : ys[k2]? = some y)
    (hq : ∀ h',IsZip h' z TI TO (rawInt s.heap.objs.size)→IsPair h' TO x y→SqI h' b1 i1 l1 (k1 + 1)→SqI h' b2 i2 l2 (k2 + 1)→IsPair h' s.heap.objs.size x y→h'.objs.size=s.heap.objs.size + 1→
      (∀ c o,c≠z→c≠TO→c≠i1→c≠i2→s.heap.get? c=some o→h'.get? c=some o)→Q (.ref s.heap.objs.size) { s with heap:=h' }) :
    wpAny (model prog w) A (Builtin.«zip.__next__» ⟨[.ref z],[]⟩) (fun fin s'=>∃ v,fin = .done (.ret v)∧Q v s') E s:=by
  (show wpAny _ _ (field (.ref z) 2 >>= _) _ _ _; refine wpAny_bind (wpAny_field hz rfl (x:=.bool false) rfl ?_))
  (show wpAny _ _ (field (.ref z) 3 >>= _) _ _ _; refine wpAny_bind (wpAny_field hz rfl (x:=.ref TI) rfl (wpAny_bind (wpAny_seqItems hTI rfl ?_))))
  (show wpAny _ _ (ownedTupleIsFree (.ref z) >>= _) _ _ _; refine wpAny_bind ?_)
  (unfold ownedTupleIsFree; refine wpAny_bind (wpAny_field hz rfl (x:=.none) rfl (wpAny_pure ?_)))
  (simp only [if_true]; refine wpAny_bind (wpAny_rule (wpAny_bind (wpAny_field hz rfl (x:=.ref TO) rfl ?_))))
  refine wpAny_bind (wpAny_setField_rec hz (by simp) fun g1 z1 s1=>?_)
  replace z1 : IsZip g1 z TI TO .ellipsis:=z1
  (refine wpAny_bind ?_; simp only [List.zipIdx_cons,List.zipIdx_nil,List.forIn_cons,List.forIn_nil])
  (refine wpAny_bind (wpAny_bind (wpAny_onRaise ?_)); show wpAny _ _ (nextOf (.ref i1) >>= _) _ _ _)
  refine wpAny_bind (sq_next (h1.ext s1.extBut D.i1z) (hl1.ext s1.extBut D.l1z) hx fun g2 p2 s2=>wpAny_pure ?_)
  have t2 : IsPair g2 TO a b:=s2.extBut _ _ D.TOi1 (s1.extBut _ _ D.TOz hTO)
  refine wpAny_bind (wpAny_seqItems t2 rfl (wpAny_bind (wpAny_updateSeq_pair t2 fun g3 t3 s3=>?_)))
  replace t3 : IsPair g3 TO x b:=t3
  (refine wpAny_bind (wpAny_letGo (wpAny_pure ?_)); refine wpAny_bind (wpAny_bind (wpAny_onRaise ?_)); show wpAny _ _ (nextOf (.ref i2) >>= _) _ _ _)
  refine wpAny_bind (sq_next (((h2.ext s1.extBut D.i2z).ext s2.extBut D.i12.symm).ext s3.extBut D.TOi2.symm) (((hl2.ext s1.extBut D.l2z).ext s2.extBut D.l2i1).ext s3.extBut D.l2TO) hy fun g4 p4 s4=>wpAny_pure ?_)
  have t4 : IsPair g4 TO x b:=s4.extBut _ _ D.TOi2 t3
  refine wpAny_bind (wpAny_seqItems t4 rfl (wpAny_bind (wpAny_updateSeq_pair t4 fun g5 t5 s5=>?_)))
  replace t5 : IsPair g5 TO x y:=t5
  (refine wpAny_bind (wpAny_letGo (wpAny_pure (wpAny_pure ?_))); refine wpAny_bind (wpAny_seqItems t5 rfl (wpAny_bind (wpAny_newTuple ?_))))
  have ez : g5.objs.size=s.heap.objs.size:=by rw [s5.1,s4.1,s3.1,s2.1,s1.1]
  have z5 : IsZip g5 z TI TO .ellipsis:=s5.extBut _ _ D.TOz.symm (s4.extBut _ _ D.i2z.symm (s3.extBut _ _ D.TOz.symm (s2.extBut _ _ D.i1z.symm z1)))
  have kp : ∀ c o,c≠z→c≠TO→c≠i1→c≠i2→s.heap.get? c=some o→g5.get? c=some o:=fun c o c1 c2 c3 c4 e=>s5.extBut _ _ c2 (s4.extBut _ _ c4 (s3.extBut _ _ c2 (s2.extBut _ _ c3 (s1.extBut _ _ c1 e))))
  have p1 : SqI g5 b1 i1 l1 (k1 + 1):=((p2.ext s3.extBut D.TOi1.symm).ext s4.extBut D.i12).ext s5.extBut D.TOi1.symm
  have p5 : SqI g5 b2 i2 l2 (k2 + 1):=p4.ext s5.extBut D.TOi2.symm
  have q1 : i1 < g5.objs.size:=let ⟨_,e,_⟩:=p1.obj; Heap.lt_size e
  have q2 : i2 < g5.objs.size:=let ⟨_,e,_⟩:=p5.obj; Heap.lt_size e
  (show wpAny _ _ (ownedTupleHandOut (.ref z) (.ref g5.objs.size) >>= _) _ _ _; refine wpAny_bind ?_; unfold ownedTupleHandOut)
  have z6 : IsZip (g5.push { cls:=.type "tuple",data:=.seq #[x,y] }) z TI TO .ellipsis:=Heap.get?_push_of_some _ z5
  refine wpAny_bind (wpAny_setField_rec z6 (by simp) fun g7 z7 s7=>?_)
  replace z7 : IsZip g7 z TI TO (rawInt g5.objs.size):=z7
  refine wpAny_setField_rec z7 (by simp) fun g8 z8 s8=>?_
  replace z8 : IsZip g8 z TI TO (rawInt g5.objs.size):=z8
  have up : ∀ c o,c≠z→g5.get? c=some o→g8.get? c=some o:=fun c o c1 e=>s8.extBut _ _ c1 (s7.extBut _ _ c1 (Heap.get?_push_of_some _ e))
  have nT : g5.objs.size≠z:=Nat.ne_of_gt (Heap.lt_size z5)
  have T8 : IsPair g8 g5.objs.size x y:=s8.extBut _ _ nT (s7.extBut _ _ nT (Heap.get?_push_size _ rfl))
  have e8 : g8.objs.size=g5.objs.size + 1:=by rw [s8.1,s7.1,Heap.size_push]
  refine wpAny_pure ⟨_,rfl,?_⟩
  rw [ez] at z8 T8 e8 ⊢
  exact hq g8 z8 (up _ _ D.TOz t5) (p1.keep fun o e=>up _ o D.i1z e) (p5.keep fun o e=>up _ o D.i2z e) T8 e8 fun c o c1 c2 c3 c4 e=>up c o c1 (kp c o c1 c2 c3 c4 e)
theorem zipS_end {Q : Fin→Shared→Prop} (hh : A.handled=none) (D : ZipApart z TI TO i1 i2 l1 l2) (hz : IsZip s.heap z TI TO .none) (hTI : IsPair s.heap TI (.ref i1) (.ref i2)) (hTO : IsPair s.heap TO a b)
    (h1 : SqI s.heap b1 i1 l1 k1) (h2 : SqI s.heap b2 i2 l2 k2) (hl1 : SqH s.heap b1 l1 xs) (hl2 : SqH s.heap b2 l2 ys) (hend : xs[k1]? = none∨ys[k2]? = none)
    (hE : ∀ h' e,(∀ c o,c≠z→c≠TO→c≠i1→c≠i2→s.heap.get? c=some o→h'.get? c=some o)→(∃ o,h'.get? e=some o∧o.cls = .type "StopIteration")→E (.ref e) { s with heap:=h' }) :
    wpAny (model prog w) A (Builtin.«zip.__next__» ⟨[.ref z],[]⟩) Q E s:=by
  (show wpAny _ _ (field (.ref z) 2 >>= _) _ _ _; refine wpAny_bind (wpAny_field hz rfl (x:=.bool false) rfl ?_))
  (show wpAny _ _ (field (.ref z) 3 >>= _) _ _ _; refine wpAny_bind (wpAny_field hz rfl (x:=.ref TI) rfl (wpAny_bind (wpAny_seqItems hTI rfl ?_))))
  (show wpAny _ _ (ownedTupleIsFree (.ref z) >>= _) _ _ _; refine wpAny_bind ?_)
  (unfold ownedTupleIsFree; refine wpAny_bind (wpAny_field hz rfl (x:=.none) rfl (wpAny_pure ?_)))
  (simp only [if_true]; refine wpAny_bind (wpAny_rule (wpAny_bind (wpAny_field hz rfl (x:=.ref TO) rfl ?_))))
  refine wpAny_bind (wpAny_setField_rec hz (by simp) fun g1 z1 s1=>?_)
  replace z1 : IsZip g1 z TI TO .ellipsis:=z1
  (refine wpAny_bind ?_; simp only [List.zipIdx_cons,List.zipIdx_nil,List.forIn_cons,List.forIn_nil])
  (refine wpAny_bind (wpAny_bind (wpAny_onRaise ?_)); show wpAny _ _ (nextOf (.ref i1) >>= _) _ _ _)
  cases ex : xs[k1]? with
  | none=>
    refine wpAny_bind (sq_end hh (h1.ext s1.extBut D.i1z) (hl1.ext s1.extBut D.l1z) ex fun g2 e s2 ⟨oe,he,ce⟩=>?_)
    have z2 : IsZip g2 z TI TO .ellipsis:=s2 _ _ D.i1z.symm z1
    have nez : e≠z:=fun q=>by subst q; rw [z2] at he; cases he; simp at ce
    exact wpAny_setField_rec z2 (by simp) fun g3 _ s3=>hE g3 e (fun c o c1 _ c3 _ q=>s3.extBut _ _ c1 (s2 _ _ c3 (s1.extBut _ _ c1 q))) ⟨oe,s3.extBut _ _ nez he,ce⟩
  | some x=>
    have ey : ys[k2]? = none:=by rcases hend with q | q; rw [ex] at q; cases q; exact q
    refine wpAny_bind (sq_next (h1.ext s1.extBut D.i1z) (hl1.ext s1.extBut D.l1z) ex fun g2 p2 s2=>wpAny_pure ?_)
    have t2 : IsPair g2 TO a b:=s2.extBut _ _ D.TOi1 (s1.extBut _ _ D.TOz hTO)
    refine wpAny_bind (wpAny_seqItems t2 rfl (wpAny_bind (wpAny_updateSeq_pair t2 fun g3 t3 s3=>?_)))
    (refine wpAny_bind (wpAny_letGo (wpAny_pure ?_)); refine wpAny_bind (wpAny_bind (wpAny_onRaise ?_)); show wpAny _ _ (nextOf (.ref i2) >>= _) _ _ _)
    refine wpAny_bind (sq_end hh (((h2.ext s1.extBut D.i2z).ext s2.extBut D.i12.symm).ext s3.extBut D.TOi2.symm) (((hl2.ext s1.extBut D.l2z).ext s2.extBut D.l2i1).ext s3.extBut D.l2TO) ey fun g4 e s4 ⟨oe,he,ce⟩=>?_)
    have z4 : IsZip g4 z TI TO .ellipsis:=s4 _ _ D.i2z.symm (s3.extBut _ _ D.TOz.symm (s2.extBut _ _ D.i1z.symm z1))
    have nez : e≠z:=fun q=>by subst q; rw [z4] at he; cases he; simp at ce
    exact wpAny_setField_rec z4 (by simp) fun g5 _ s5=>hE g5 e (fun c o c1 c2 c3 c4 q=>s5.extBut _ _ c1 (s4 _ _ c4 (s3.extBut _ _ c2 (s2.extBut _ _ c3 (s1.extBut _ _ c1 q))))) ⟨oe,s5.extBut _ _ nez he,ce⟩
end
end L2
namespace L2
open PySem PySem.Spec PyProof.Rows PySem.Builtin.SmallTypes
def itName : Bool→String
  | true => "list_iterator"
  | false => "tuple_iterator"
abbrev zg1 (h : Heap) (b1 : Bool) (l1 : Addr) : Heap:=h.push { cls:=.type (itName b1),data:=.fields #[.ref l1,.int 0 0] }
abbrev zg2 (h : Heap) (b1 b2 : Bool) (l1 l2 : Addr) : Heap:=(zg1 h b1 l1).push { cls:=.type (itName b2),data:=.fields #[.ref l2,.int 0 0] }
abbrev zg3 (h : Heap) (b1 b2 : Bool) (l1 l2 : Addr) : Heap:=(zg2 h b1 b2 l1 l2).push { cls:=.type "tuple",data:=.seq #[.ref h.objs.size,.ref (zg1 h b1 l1).objs.size] }
abbrev zg4 (h : Heap) (b1 b2 : Bool) (l1 l2 : Addr) : Heap:=(zg3 h b1 b2 l1 l2).push { cls:=.type "tuple",data:=.seq #[.none,.none] }
abbrev zg5 (h : Heap) (b1 b2 : Bool) (l1 l2 : Addr) : Heap:=(zg4 h b1 b2 l1 l2).push { cls:=.type "zip",data:=.fields #[.none,.bool false,.bool false,.ref (zg2 h b1 b2 l1 l2).objs.size,.ref (zg3 h b1 b2 l1 l2).objs.size] }
theorem meetsZip (b1 b2 : Bool) (l1 l2 : Addr) (xs ys : Array Value) :
    Meets (Builtin.«zip.__new__» ⟨[.type "zip",.ref l1,.ref l2],[]⟩) (fun _ R s=>SqH s.heap b1 l1 xs∧SqH s.heap b2 l2 ys ∧
      R (.ok (.ret (.ref (zg4 s.heap b1 b2 l1 l2).objs.size))) { s with heap:=zg5 s.heap b1 b2 l1 l2 }):=
  .of_wp fun prog w A R s h=>by
    obtain ⟨hp,g,d,tk,os⟩:=s; obtain ⟨q1,q2,h⟩:=h
    have hsub:=sub_zip
    cases b1 with
    | true=>
      have g1 : Heap.IsList (Shared.heap ⟨hp,g,d,tk,os⟩) l1 xs:=q1
      cases b2 with
      | true=>
        have g2 : Heap.IsList (Shared.heap ⟨hp.push { cls:=.type "list_iterator",data:=.fields #[.ref l1,.int 0 0] },g,d,tk,os⟩) l2 ys:=Heap.IsList.push (show hp.IsList l2 ys from q2) _
        wp_walk using wpAny_pyIter_list g1,wpAny_pyIter_list g2
        exact ⟨_,rfl,h⟩
      | false=>
        have g2 : Heap.IsTuple (Shared.heap ⟨hp.push { cls:=.type "list_iterator",data:=.fields #[.ref l1,.int 0 0] },g,d,tk,os⟩) l2 ys:=Heap.IsTuple.push (show hp.IsTuple l2 ys from q2) _
        wp_walk using wpAny_pyIter_list g1,wpAny_pyIter_tuple g2
        exact ⟨_,rfl,h⟩
    | false=>
      have g1 : Heap.IsTuple (Shared.heap ⟨hp,g,d,tk,os⟩) l1 xs:=q1
      cases b2 with
      | true=>
        have g2 : Heap.IsList (Shared.heap ⟨hp.push { cls:=.type "tuple_iterator",data:=.fields #[.ref l1,.int 0 0] },g,d,tk,os⟩) l2 ys:=Heap.IsList.push (show hp.IsList l2 ys from q2) _
        wp_walk using wpAny_pyIter_tuple g1,wpAny_pyIter_list g2
        exact ⟨_,rfl,h⟩
      | false=>
        have g2 : Heap.IsTuple (Shared.heap ⟨hp.push { cls:=.type "tuple_iterator",data:=.fields #[.ref l1,.int 0 0] },g,d,tk,os⟩) l2 ys:=Heap.IsTuple.push (show hp.IsTuple l2 ys from q2) _
        wp_walk using wpAny_pyIter_tuple g1,wpAny_pyIter_tuple g2
        exact ⟨_,rfl,h⟩
theorem sqi_new {h : Heap} {b : Bool} {it a : Addr} (e : h.get? it=some { cls:=.type (itName b),data:=.fields #[.ref a,.int 0 0] }) : SqI h b it a 0:=by
  cases b with
  | true=>exact (show h.IsListIter it a 0 from ⟨_,e,rfl,rfl⟩)
  | false=>exact (show h.IsTupleIter it a 0 from ⟨_,e,rfl,rfl⟩)
section
variable {prog : Program} {w : World} {A : Around} {E : Value→Shared→Prop} {s : Shared}
theorem call_zipS {b1 b2 : Bool} {l1 l2 : Addr} {xs ys : Array Value} {Q : Value→Shared→Prop} (q1 : SqH s.heap b1 l1 xs) (q2 : SqH s.heap b2 l2 ys)
    (hq : ∀ h',IsZip h' (s.heap.objs.size + 4) (s.heap.objs.size + 2) (s.heap.objs.size + 3) .none→IsPair h' (s.heap.objs.size + 2) (.ref s.heap.objs.size) (.ref (s.heap.objs.size + 1))→IsPair h' (s.heap.objs.size + 3) .none .none→
      SqI h' b1 s.heap.objs.size l1 0→SqI h' b2 (s.heap.objs.size + 1) l2 0→(∀ c o,s.heap.get? c=some o→h'.get? c=some o)→Q (.ref (s.heap.objs.size + 4)) { s with heap:=h' }) :
    wpAny (model prog w) A (call (.type "zip") [.ref l1,.ref l2]) Q E s:=by
  refine callType_new F.called_zip (by decide) (F.typeCall_zip_2 _ _) (F.newCall_zip_2 _ _) (fun obj=>F.args_object_init_3 obj _ _) F.entry_zip_new (meetsZip b1 b2 l1 l2 xs ys) ⟨q1,q2,?_⟩
  have n1 : (zg1 s.heap b1 l1).objs.size=s.heap.objs.size + 1:=Heap.size_push ..
  have n2 : (zg2 s.heap b1 b2 l1 l2).objs.size=s.heap.objs.size + 2:=by rw [Heap.size_push,n1]
  have n3 : (zg3 s.heap b1 b2 l1 l2).objs.size=s.heap.objs.size + 3:=by rw [Heap.size_push,n2]
  have n4 : (zg4 s.heap b1 b2 l1 l2).objs.size=s.heap.objs.size + 4:=by rw [Heap.size_push,n3]
  have p5 : (zg5 s.heap b1 b2 l1 l2).get? (zg4 s.heap b1 b2 l1 l2).objs.size=some _:=Heap.get?_push_size _ rfl
  have p4 : (zg5 s.heap b1 b2 l1 l2).get? (zg3 s.heap b1 b2 l1 l2).objs.size=some _:=Heap.get?_push_of_some _ (Heap.get?_push_size _ rfl)
  have p3 : (zg5 s.heap b1 b2 l1 l2).get? (zg2 s.heap b1 b2 l1 l2).objs.size=some _:=Heap.get?_push_of_some _ (Heap.get?_push_of_some _ (Heap.get?_push_size _ rfl))
  have p2 : (zg5 s.heap b1 b2 l1 l2).get? (zg1 s.heap b1 l1).objs.size=some _:=Heap.get?_push_of_some _ (Heap.get?_push_of_some _ (Heap.get?_push_of_some _ (Heap.get?_push_size _ rfl)))
  have p1 : (zg5 s.heap b1 b2 l1 l2).get? s.heap.objs.size=some _:=Heap.get?_push_of_some _ (Heap.get?_push_of_some _ (Heap.get?_push_of_some _ (Heap.get?_push_of_some _ (Heap.get?_push_size _ rfl))))
  rw [n2,n3,n4] at p5
  rw [n1,n2] at p3
  rw [n3] at p4
  rw [n1] at p2
  show _∧_
  rw [n4]
  exact ⟨⟨_,p5,rfl⟩,hq _ p5 p3 p4 (sqi_new p1) (sqi_new p2) fun c o e=>Heap.get?_push_of_some _ (Heap.get?_push_of_some _ (Heap.get?_push_of_some _ (Heap.get?_push_of_some _ (Heap.get?_push_of_some _ e))))⟩
variable {z TI TO i1 i2 l1 l2 : Addr} {b1 b2 : Bool} {k1 k2 : Nat} {xs ys : Array Value} {x y a b : Value}
theorem nextZip_item {Q : Option Value→Shared→Prop} (D : ZipApart z TI TO i1 i2 l1 l2) (hz : IsZip s.heap z TI TO .none) (hTI : IsPair s.heap TI (.ref i1) (.ref i2)) (hTO : IsPair s.heap TO a b)
    (h1 : SqI s.heap b1 i1 l1 k1) (h2 : SqI s.heap b2 i2 l2 k2) (hl1 : SqH s.heap b1 l1 xs) (hl2 : SqH s.heap b2 l2 ys) (hx : xs[k1]? = some x) (hy : ys[k2]? = some y)
    (hq : ∀ h',IsZip h' z TI TO (rawInt s.heap.objs.size)→IsPair h' TO x y→SqI h' b1 i1 l1 (k1 + 1)→SqI h' b2 i2 l2 (k2 + 1)→IsPair h' s.heap.objs.size x y→
      (∀ c o,c≠z→c≠TO→c≠i1→c≠i2→s.heap.get? c=some o→h'.get? c=some o)→Q (some (.ref s.heap.objs.size)) { s with heap:=h' }) : wpAny (model prog w) A (pyNext (.ref z)) Q E s:=by
  have ty : s.TypeIs (.ref z) "zip" := ⟨_,hz,rfl⟩
  (unfold pyNext; exact wpAny_bind (wpAny_attempt (wpAny_callSpecial?_slot (name:=Str.ofString "__next__") ty F.slot_zip_next (wpAny_call_entry F.slot_zip_next ty F.entry_zip_next (zipS_item D hz hTI hTO h1 h2 hl1 hl2 hx hy fun h' a1 a2 a3 a4 a5 _ a7=>wpAny_pure (hq h' a1 a2 a3 a4 a5 a7)) (F.args_zip_next_1 _)))))
theorem nextZip_end {Q : Option Value→Shared→Prop} (hh : A.handled=none) (D : ZipApart z TI TO i1 i2 l1 l2) (hz : IsZip s.heap z TI TO .none) (hTI : IsPair s.heap TI (.ref i1) (.ref i2)) (hTO : IsPair s.heap TO a b)
    (h1 : SqI s.heap b1 i1 l1 k1) (h2 : SqI s.heap b2 i2 l2 k2) (hl1 : SqH s.heap b1 l1 xs) (hl2 : SqH s.heap b2 l2 ys) (hend : xs[k1]? = none∨ys[k2]? = none)
    (hq : ∀ h',(∀ c o,c≠z→c≠TO→c≠i1→c≠i2→s.heap.get? c=some o→h'.get? c=some o)→Q none { s with heap:=h' }) : wpAny (model prog w) A (pyNext (.ref z)) Q E s:=by
  have ty : s.TypeIs (.ref z) "zip" := ⟨_,hz,rfl⟩
  (unfold pyNext; refine wpAny_bind (wpAny_attempt (wpAny_callSpecial?_slot (name:=Str.ofString "__next__") ty F.slot_zip_next (wpAny_call_entry F.slot_zip_next ty F.entry_zip_next (zipS_end hh D hz hTI hTO h1 h2 hl1 hl2 hend fun h' e hk ⟨o,ho,hc⟩=>?_) (F.args_zip_next_1 _)))))
  exact wpAny_bind (wpAny_isInstance (T := "StopIteration") (b:=true) ⟨o,ho,hc⟩ isSubtype_stop (wpAny_pure (hq _ hk)))
end
end L2
namespace L2
open PySem PySem.Spec PyProof.Rows
def SqB (K : PySem.W.Frag) (H : Hp) (b : Bool) (a : Addr) (xs : List V) : Prop:=match b with
  | true=>SqL K H a xs
  | false=>SqT K H a xs
section
variable {X : Cx} {pins : List (Addr×Obj)} {σ : St} {H : Hp} {s : Shared}
theorem Inv.sqB {b : Bool} {a : Addr} {xs : List V} (I : Inv X pins σ H s) (h : SqB X.K H b a xs) : ∃ its : List Value,Vals xs its∧SqH s.heap b a its.toArray:=by
  cases b with
  | true=>obtain ⟨its,r,p,_⟩:=I.list h; exact ⟨its,r,p.isList⟩
  | false=>obtain ⟨its,r,p,_⟩:=I.tuple h; exact ⟨its,r,p⟩
theorem Inv.sqB_inj {b : Bool} {a : Addr} {xs ys : List V} (I : Inv X pins σ H s) (h : SqB X.K H b a xs) (h' : SqB X.K H b a ys) : xs=ys:=by
  cases b with
  | true=>exact I.list_inj h h'
  | false=>exact I.tuple_inj h h'
theorem Inv.turnedL {h' : Heap} {t' : Nat} {ch : List Addr} (I : Inv X pins σ H s) (hf : ∀ b∈ch,FpOk X pins H b) (k : ∀ b o,b ∉ ch→s.heap.get? b=some o→h'.get? b=some o) : Inv X pins σ H { s with heap:=h',toks:=t' }:=by
  have nt : ∀ b u,H b=some u→b ∉ ch:=fun b u e z=>by rw [(hf b z).1] at e; cases e
  have hL : X.env.locals ∉ ch:=fun z=>(hf _ z).2.1 rfl
  refine I.step (g':=s.gens) (d':=s.drawn) (ch:=ch) (fun b hb=>⟨(hf b hb).2.2.2.1,(hf b hb).2.1,(hf b hb).2.2.2.2.1,(hf b hb).2.2.2.2.2⟩) (fun b o _ _ hc e _=>k b o hc e) (fun b o _ _ hc e _=>⟨o.slots,k b o hc e⟩) (fun _ _ _ _ n=>n)
    (fun b o hc e=>⟨o,k b o hc e⟩) (fun _ _ e=>e) (fun _ _ _ e=>e) (fun b ps e=>⟨#[],by rw [e]; simp⟩) (fun m hm=>?_) (fun b u e=>?_) I.bare
  · obtain ⟨o,es,ep,ho,r⟩:=hm
    exact ⟨o,es,ep,k _ o hL ho,r⟩
  · refine (I.hok b u e).stay (fun c v hc q=>k c v ?_ q) (fun _ q=>q) fun _ _ q=>q
    rcases hc with z | z
    · rw [z]; exact nt b u e
    · exact nt c _ z
theorem Inv.trackNew {h' : Heap} {t' : Nat} {a : Addr} {o : HO} (I0 : Inv X pins σ H s) (I : Inv X pins σ H { s with heap:=h',toks:=t' }) (ha : s.heap.objs.size≤a) (new : ObjOk X.prog X.w (upd H a o) h' a o) : Inv X pins σ (upd H a o) { s with heap:=h',toks:=t' }:=by
  refine I.track (Heap.get?_none_of_le (Nat.le_trans I0.sz ha)) (I0.hok.fresh ha) (Nat.ne_of_gt (Nat.lt_of_lt_of_le I0.lt ha)) (fun x c e z=>?_) (fun p hp z=>?_) new
  · obtain ⟨v,q⟩:=I0.cell x c e
    exact absurd (Nat.lt_of_lt_of_le q.lt (by rw [z]; exact ha)) (Nat.lt_irrefl _)
  · exact absurd (Nat.lt_of_lt_of_le (Heap.lt_size (I0.pin p hp).1) (by rw [z]; exact ha)) (Nat.lt_irrefl _)
end
def Itz (K : PySem.W.Frag) (b1 b2 : Bool) (l1 l2 : Addr) : It:=
  ⟨fun i H=>∃ xs ys x y,SqB K H b1 l1 xs∧SqB K H b2 l2 ys∧xs[i]? = some x∧ys[i]? = some y,
   fun i H v H'=>∃ p x y,v = .ref p∧H p=none∧H' = upd H p (.tup [x,y])∧∀ xs ys,SqB K H b1 l1 xs→SqB K H b2 l2 ys→xs[i]? = some x∧ys[i]? = some y,
   fun i H=>∃ xs ys,SqB K H b1 l1 xs∧SqB K H b2 l2 ys∧(xs.length≤i∨ys.length≤i)⟩
def zipTn (z TI TO i1 i2 l1 l2 : Addr) (b1 b2 : Bool) (i : Nat) (h : Heap) : Prop:=IsZip h z TI TO .none∧IsPair h TI (.ref i1) (.ref i2)∧(∃ a b,IsPair h TO a b)∧SqI h b1 i1 l1 i∧SqI h b2 i2 l2 i
theorem turn_zip {P : Program} {w : World} {K : PySem.W.Frag} {es : List Expr} {x1 : Nat} {tp : Pos} {z TI TO i1 i2 l1 l2 : Addr} {b1 b2 : Bool} (D : ZipApart z TI TO i1 i2 l1 l2) :
    Turn P w K (.Tuple es x1 tp) (Itz K b1 b2 l1 l2) [z,TI,TO,i1,i2] z (zipTn z TI TO i1 i2 l1 l2 b1 b2) where
  mem:=by simp
  obj:=fun i h ⟨t1,t2,⟨a,b,t3⟩,t4,t5⟩ c hc=>by
    simp only [List.mem_cons,List.not_mem_nil,or_false] at hc
    rcases hc with rfl | rfl | rfl | rfl | rfl
    · exact ⟨_,t1,fun v q=>by cases q⟩
    · exact ⟨_,t2,fun v q=>by cases q⟩
    · exact ⟨_,t3,fun v q=>by cases q⟩
    · obtain ⟨o,e,vs,d⟩:=t4.obj; exact ⟨o,e,fun v q=>by rw [d] at q; cases q⟩
    · obtain ⟨o,e,vs,d⟩:=t5.obj; exact ⟨o,e,fun v q=>by rw [d] at q; cases q⟩
  keep:=fun i h h' ⟨t1,t2,⟨a,b,t3⟩,t4,t5⟩ k=>⟨k z (by simp) _ t1,k TI (by simp) _ t2,⟨a,b,k TO (by simp) _ t3⟩,t4.keep fun o e=>k i1 (by simp) o e,t5.keep fun o e=>k i2 (by simp) o e⟩
  item:=by
    intro X hP hw hK hc i pins s σ H E I hf st hg
    subst hP hw hK
    obtain ⟨t1,t2,⟨a,b,t3⟩,t4,t5⟩:=st
    obtain ⟨xs,ys,x,y,q1,q2,e1,e2⟩:=hg
    obtain ⟨us,r1,p1⟩:=I.sqB q1
    obtain ⟨vs,r2,p2⟩:=I.sqB q2
    obtain ⟨u,eu,ru⟩:=r1.get e1
    obtain ⟨v,ev,rv⟩:=r2.get e2
    refine nextZip_item (x:=u) (y:=v) D t1 t2 t3 t4 t5 p1 p2 (by simpa using eu) (by simpa using ev) fun h' a1 a2 a3 a4 a5 a7=>?_
    refine ⟨_,rfl,wpAny_letOwnedTupleGo_zip a1 fun h'' c1 c2=>?_⟩
    have nz : s.heap.objs.size≠z:=Nat.ne_of_gt (Heap.lt_size t1)
    have I1 : Inv X pins σ H { s with heap:=h'',toks:=s.toks }:=I.turnedL hf fun c o hc q=>by
      simp only [List.mem_cons,List.not_mem_nil,or_false,not_or] at hc
      exact c2.extBut c o hc.1 (a7 c o hc.1 hc.2.2.1 hc.2.2.2.1 hc.2.2.2.2 q)
    have I2:=I.trackNew (t':=s.toks) (o:=.tup [x,y]) I1 (Nat.le_refl _) ⟨by show 2≤sizeLine; decide,[u,v],.cons ru (.cons rv .nil),⟨_,c2.extBut _ _ nz a5,rfl,_,rfl⟩⟩
    have fr : H s.heap.objs.size=none:=I.hok.fresh (Nat.le_refl _)
    refine ⟨.ref s.heap.objs.size,_,I2,rfl,⟨s.heap.objs.size,x,y,rfl,fr,rfl,fun xs' ys' q1' q2'=>⟨by rw [I.sqB_inj q1' q1]; exact e1,by rw [I.sqB_inj q2' q2]; exact e2⟩⟩,⟨c1,c2.extBut _ _ D.TIz (a7 TI _ D.TIz D.TITO D.TIi1 D.TIi2 t2),⟨u,v,c2.extBut _ _ D.TOz a2⟩,a3.ext c2.extBut D.i1z,a4.ext c2.extBut D.i2z⟩,fun c hc=>?_⟩
    obtain ⟨o,eo⟩ : ∃ o,s.heap.get? c=some o:=by
      simp only [List.mem_cons,List.not_mem_nil,or_false] at hc
      rcases hc with rfl | rfl | rfl | rfl | rfl
      · exact ⟨_,t1⟩
      · exact ⟨_,t2⟩
      · exact ⟨_,t3⟩
      · obtain ⟨o,e,_⟩:=t4.obj; exact ⟨o,e⟩
      · obtain ⟨o,e,_⟩:=t5.obj; exact ⟨o,e⟩
    rw [upd_ne (Nat.ne_of_lt (Heap.lt_size eo))]
    exact (hf c hc).1
  done:=by
    intro X hP hw hK hc i pins s σ H E I hf st hg
    subst hP hw hK
    obtain ⟨t1,t2,⟨a,b,t3⟩,t4,t5⟩:=st
    obtain ⟨xs,ys,q1,q2,hl⟩:=hg
    obtain ⟨us,r1,p1⟩:=I.sqB q1
    obtain ⟨vs,r2,p2⟩:=I.sqB q2
    have n1:=r1.length
    have n2:=r2.length
    refine nextZip_end (I.ok.hd hc) D t1 t2 t3 t4 t5 p1 p2 ?_ fun h' kk=>⟨rfl,I.turnedL (t':=s.toks) hf fun c o hc q=>?_⟩
    · rcases hl with z | z
      · exact .inl (by simp; omega)
      · exact .inr (by simp; omega)
    · simp only [List.mem_cons,List.not_mem_nil,or_false,not_or] at hc
      exact kk c o hc.1 hc.2.2.1 hc.2.2.2.1 hc.2.2.2.2 q
  self:=fun _ _ _ _ _ st h=>wpAny_pyIter_zip st.1 h
section
variable {X : Cx} {es : List Expr} {x1 : Nat} {tp : Pos}
def iZip (K : PySem.W.Frag) (ta : TA) : TI:=fun σ H R=>ta σ H fun vs H1=>∃ b1 b2 l1 l2 xs ys,vs=[.ref l1,.ref l2]∧SqB K H1 b1 l1 xs∧SqB K H1 b2 l2 ys∧R (Itz K b1 b2 l1 l2) H1
theorem pi_zip {a b : Expr} {ta : TA} {p pos : Pos} (hg : Gl X "zip") (hm : X.mg "zip" = none) (ha : PA X [a,b] ta) (hs : starEach [a,b] X.env=[(false,eval a X.env),(false,eval b X.env)]:=by rfl) (hs2 : starEach [b] X.env=[(false,eval b X.env)]:=by rfl) :
    PI X (.Tuple es x1 tp) (.Call (.Name "zip" p) [a,b] [] pos) (iZip X.K ta):=by
  intro pins s σ H R I h
  refine Call_ (ld_blt I hg hm boot_zip (PyProof.Rows.callWith_type1 (thn (ha pos pins s σ H _ I h) fun us s1 ⟨vs,H1,I1,r1,q1⟩=>?_) (by rw [hs,hs2]) (by rw [hs2]; rfl)))
  obtain ⟨b1,b2,l1,l2,xs,ys,rfl,q1,q2,q⟩:=q1
  obtain ⟨u,v,rfl,ru,rv⟩:=r1.two
  cases ru; cases rv
  obtain ⟨us1,_,p1⟩:=I1.sqB q1
  obtain ⟨us2,_,p2⟩:=I1.sqB q2
  have n1 : l1 < s1.heap.objs.size:=by
    cases b1 with
    | true=>obtain ⟨o,e,_⟩:=(show s1.heap.IsList l1 _ from p1); exact Heap.lt_size e
    | false=>obtain ⟨o,e,_⟩:=(show s1.heap.IsTuple l1 _ from p1); exact Heap.lt_size e
  have n2 : l2 < s1.heap.objs.size:=by
    cases b2 with
    | true=>obtain ⟨o,e,_⟩:=(show s1.heap.IsList l2 _ from p2); exact Heap.lt_size e
    | false=>obtain ⟨o,e,_⟩:=(show s1.heap.IsTuple l2 _ from p2); exact Heap.lt_size e
  refine call_zipS p1 p2 fun h' a1 a2 a3 a4 a5 kk=>?_
  refine wpAny_pyIter_zip a1 ?_
  have I2 : Inv X pins σ H1 { s1 with heap:=h',toks:=s1.toks }:=I1.kept kk
  refine ⟨_,[s1.heap.objs.size + 4,s1.heap.objs.size + 2,s1.heap.objs.size + 3,s1.heap.objs.size,s1.heap.objs.size + 1],_,_,H1,rfl,I2,turn_zip (zipApart_new n1 n2),⟨a1,a2,⟨_,_,a3⟩,a4,a5⟩,fun c hc=>?_,q⟩
  have hge : s1.heap.objs.size≤c:=by
    simp only [List.mem_cons,List.not_mem_nil,or_false] at hc
    rcases hc with rfl | rfl | rfl | rfl | rfl <;> omega
  exact I1.fpOk (H':=H1) hge (I1.hok.fresh hge)
end
end L2
namespace L2
open PySem PySem.Spec PyProof.Rows
section
variable {X : Cx}
theorem vals_bools : ∀ {bs : List Bool} {us : List Value},Vals (bs.map V.bl) us→us=bs.map Value.bool
  | [],_,.nil=>rfl
  | b :: r,_,.cons x t=>by rw [show _=Value.bool b from x,vals_bools t]; rfl
theorem range_all {bs : List Bool} : (List.range bs.length).all (fun i=>bs.getD i false)=bs.all id:=by
  rw [Bool.eq_iff_iff,List.all_eq_true,List.all_eq_true]
  constructor
  · intro h b hb
    obtain ⟨i,hi,rfl⟩:=List.mem_iff_getElem.mp hb
    have:=h i (List.mem_range.mpr hi)
    simpa [List.getD_eq_getElem?_getD,hi] using this
  · intro h i hi
    have hi':=List.mem_range.mp hi
    have:=h _ (List.getElem_mem hi')
    simpa [List.getD_eq_getElem?_getD,hi'] using this
theorem bools_at {bs : List Bool} {i : Nat} {v : Value} (h : (bs.map Value.bool).toArray[i]? = some v) : v = .bool (bs.getD i false):=by
  have h' : (bs.map Value.bool)[i]? = some v:=by simpa using h
  rw [List.getElem?_map] at h'
  cases e : bs[i]? with
  | none=>rw [e] at h'; cases h'
  | some b=>
    rw [e] at h'
    rw [List.getD_eq_getElem?_getD,e]
    exact (Option.some.inj h').symm
theorem call_allB (hc : X.calm=true) : CallR X (.builtin "all") (fun xs H Q=>∃ (p : Addr) (bs : List Bool),xs=[.ref p]∧SqL X.K H p (bs.map V.bl)∧Q (.bl (bs.all id)) H):=by
  intro pins s σ H xs us Q I r h
  obtain ⟨p,bs,rfl,hq,q⟩:=h
  obtain ⟨u,rfl,ru⟩:=r.one
  cases ru
  obtain ⟨its,rv,pl,hz⟩:=I.list hq
  have e:=vals_bools rv
  subst e
  have nl : p≠s.heap.objs.size:=by obtain ⟨o,e,_⟩:=pl.isList; exact Nat.ne_of_lt (Heap.lt_size e)
  refine call_all_walk (wpAny_pyIter_list pl.isList ?_)
  refine ⟨s.heap.objs.size,_,_,_,_,_,fun i=>bs.getD i false,rfl,Walks.list (A:=X.A.in1) (I.ok.hd hc) s.heap.objs.size p nl (bs.map Value.bool).toArray,⟨⟨_,Heap.get?_push_size _ rfl,rfl,rfl⟩,pl.isList.push _⟩,?_,fun h' tk k=>?_⟩
  · intro i v s' Q' E' hP hq'
    rw [bools_at hP]
    exact wpAny_pure hq'
  · have e2 : (bs.map Value.bool).toArray.size=bs.length:=by simp
    rw [e2,range_all]
    refine ⟨.bl _,H,I.kept (t':=tk) (h':=h') fun b o e=>k b o ?_ (Heap.get?_push_of_some _ e),rfl,q⟩
    intro z
    have z' : b=s.heap.objs.size:=by simpa using z
    exact absurd (Heap.lt_size e) (by rw [z']; exact Nat.lt_irrefl _)
def CDivL (i j : Int) : Prop:=0 < j∧j < 18446744073709551616
theorem op_fdivL : OpR X (binaryOp .FloorDiv) (rI CDivL fun i j=>.int (i / j)):=opI fun i j _ _ _ _ _ hc q=>by
  have hj : j.natAbs.log2 < 9000:=by
    have h0 : j.natAbs≠0:=by have:=hc.1; omega
    have h1 : j.natAbs < 2 ^ 64:=by
      have h2:=hc.1
      have h3 : j < 2 ^ 64:=hc.2
      omega
    have:=(Nat.log2_lt h0).mpr h1
    omega
  have e : i / j=i.fdiv j:=(Int.fdiv_eq_ediv_of_nonneg i (Int.le_of_lt hc.1)).symm
  rw [e] at q
  exact floordiv_int (by have:=hc.1; omega) q (.inl (PyProof.noPylong_of_log2 hj))
def clsV : V→Option Value
  | .ty n=>some (.type n)
  | .ref a=>some (.ref a)
  | _=>none
theorem clsV_rel {c : V} {u w : Value} (r : RelV c u) (h : clsV c=some w) : u=w:=by
  cases c with
  | ty n=>cases h; exact r
  | ref a=>cases h; exact r
  | _=>cases h
def rIsi (K : PySem.W.Frag) : List V→Hp→VK→Prop:=fun xs H Q=>∃ x c t w b,xs=[x,c]∧clsV c=some w∧TyOf K H x t∧PySem.W.kitOne K t w=some b∧Q (.bl b) H
theorem call_isi : CallR X (.builtin "isinstance") (rIsi X.K):=by
  intro pins s σ H xs us Q I r h
  obtain ⟨x,c,t,w,b,rfl,hw,ty,e,q⟩:=h
  obtain ⟨u,v,rfl,ru,rv⟩:=r.two
  rw [clsV_rel rv hw]
  exact isinst_ok I ru ty e fun tk=>⟨.bl b,H,I.tok tk,rfl,q⟩
end
end L2
namespace L2
open PySem PySem.Spec PyProof.Rows
section
variable {X : Cx} {pins : List (Addr×Obj)} {σ : St} {H : Hp} {s : Shared}
theorem tyof_kit {x : V} {u t : Value} (I : Inv X pins σ H s) (rx : RelV x u) (ty : TyOf X.K H x t) : ∃ φ : Heap→Prop,PySem.W.KitX X.K u t φ∧φ s.heap∧u≠.builtin "__main__.__loader__#opaque" := by
  cases ty with
  | non=>cases (show u=Value.none from rx); exact ⟨_,PySem.W.kitx_none,True.intro,(fun z=>nomatch z)⟩
  | bl y=>cases (show u=Value.bool y from rx); exact ⟨_,PySem.W.kitx_bool,True.intro,(fun z=>nomatch z)⟩
  | int i=>obtain ⟨t,q⟩:=(show ∃ t,u=Value.int i t from rx); cases q; exact ⟨_,PySem.W.kitx_int,True.intro,(fun z=>nomatch z)⟩
  | str y=>obtain ⟨t,q⟩:=(show ∃ t,u=Value.str y t from rx); cases q; exact ⟨_,PySem.W.kitx_str,True.intro,(fun z=>nomatch z)⟩
  | flt y=>obtain ⟨t,q⟩:=(show ∃ t,u=Value.float y t from rx); cases q; exact ⟨_,PySem.W.kitx_float,True.intro,(fun z=>nomatch z)⟩
  | @lst a xs ea=>
    cases (show u=Value.ref a from rx)
    obtain ⟨_,_,n,_,h1⟩:=(show ObjOk X.prog X.w H s.heap a (.lst xs) from I.hok a _ ea)
    exact ⟨_,PySem.W.kitx_list,⟨_,h1,rfl⟩,(fun z=>nomatch z)⟩
  | @frz a ob xs ea=>
    cases (show u=Value.ref a from rx)
    obtain ⟨_,_,_,n,_,h1⟩:=(show ObjOk X.prog X.w H s.heap a (.frz ob (.lst xs)) from I.hok a _ ea)
    exact ⟨_,PySem.W.kitx_list,⟨_,h1,rfl⟩,(fun z=>nomatch z)⟩
  | @tup a xs ea=>
    cases (show u=Value.ref a from rx)
    obtain ⟨_,_,_,p⟩:=(show ObjOk X.prog X.w H s.heap a (.tup xs) from I.hok a _ ea)
    obtain ⟨o,h1,h2,_⟩:=p
    exact ⟨_,PySem.W.kitx_tuple,⟨o,h1,h2⟩,(fun z=>nomatch z)⟩
  | @dK a kvs ea=>
    cases (show u=Value.ref a from rx)
    obtain ⟨_,_,vs,_,p⟩:=(show ObjOk X.prog X.w H s.heap a (.dK kvs) from I.hok a _ ea)
    obtain ⟨o,es,ep,h1,h2,_⟩:=p
    exact ⟨_,PySem.W.kitx_dict,⟨o,h1,h2.1⟩,(fun z=>nomatch z)⟩
  | @dT a kvs ea=>
    cases (show u=Value.ref a from rx)
    obtain ⟨_,_,xs,_,o,es,ep,h1,h2,_⟩:=(show ObjOk X.prog X.w H s.heap a (.dT kvs) from I.hok a _ ea)
    exact ⟨_,PySem.W.kitx_dict,⟨o,h1,h2.1⟩,(fun z=>nomatch z)⟩
  | @ins a C dx fs ea cl ha hn htk hm=>
    cases (show u=Value.ref a from rx)
    obtain ⟨mA,O,_⟩:=ins_get I.hok ea
    obtain ⟨od,J,_⟩:=O.look
    exact ⟨_,PySem.W.kitx_own (cl.get _) cl.hd ha hn htk hm,J,(fun z=>nomatch z)⟩
theorem cls_all : ∀ {cs : List V} {us ws : List Value},Vals cs us→cs.map clsV=ws.map some→us=ws
  | [],_,[],.nil,_=>rfl
  | c :: cs,_,w :: ws,.cons r t,e=>by
    rw [List.map_cons,List.map_cons] at e
    injection e with e1 e2
    rw [clsV_rel r e1,cls_all t e2]
def rIsT (K : PySem.W.Frag) : List V→Hp→VK→Prop:=fun xs H Q=>∃ x p cs t ws b,xs=[x,.ref p]∧H p=some (.tup cs)∧cs.map clsV=ws.map some∧TyOf K H x t∧PySem.W.kitAny K t ws=some b∧Q (.bl b) H
theorem call_isT : CallR X (.builtin "isinstance") (rIsT X.K):=by
  intro pins s σ H xs us Q I r h
  obtain ⟨x,p,cs,t,ws,b,rfl,hp,hc,ty,e,q⟩:=h
  obtain ⟨u,v,rfl,ru,rv⟩:=r.two
  cases rv
  obtain ⟨φ,Z,hφ,hne⟩:=tyof_kit I ru ty
  obtain ⟨_,its,rs,⟨ob,h1,h2,n,h3⟩⟩:=(show ObjOk X.prog X.w H s.heap p (.tup cs) from I.hok p _ hp)
  have ei:=cls_all rs hc
  subst ei
  obtain ⟨oc,od,dt,sl⟩:=ob
  dsimp only at h2 h3
  subst h2 h3
  exact PySem.W.kia_tup Z I.kIn hφ h1 e hne fun tk=>⟨.bl b,H,I.tok tk,rfl,q⟩
end
inductive EqD (H : Hp) : Nat→V→V→Prop
  | flat {n : Nat} {v : V} (h : flatV v=true) : EqD H n v v
  | tup {n : Nat} {p q : Addr} {xs ys : List V} (h1 : H p=some (.tup xs)) (h2 : H q=some (.tup ys)) (hl : xs.length=ys.length) (hs : xs.length≤1000) (h : ∀ (i : Nat) x y,xs[i]? = some x→ys[i]? = some y→EqD H n x y) : EqD H (n + 1) (.ref p) (.ref q)
  | lst {n : Nat} {p q : Addr} {xs ys : List V} (h1 : H p=some (.lst xs)) (h2 : H q=some (.lst ys)) (hl : xs.length=ys.length) (hs : xs.length≤1000) (h : ∀ (i : Nat) x y,xs[i]? = some x→ys[i]? = some y→EqD H n x y) : EqD H (n + 1) (.ref p) (.ref q)
theorem EqD.same {H H' : Hp} (s : Same H H') : ∀ {n : Nat} {v u : V},EqD H n v u→EqD H' n v u:=by
  intro n v u h
  induction h with
  | flat h=>exact .flat h
  | tup h1 h2 hl hs _ ih=>exact .tup (s _ _ h1) (s _ _ h2) hl hs fun i x y a b=>ih i x y a b
  | lst h1 h2 hl hs _ ih=>exact .lst (s _ _ h1) (s _ _ h2) hl hs fun i x y a b=>ih i x y a b
theorem same_new {H : Hp} {p : Addr} (h : H p=none) (o : HO) : Same H (upd H p o):=fun b u q=>by rw [upd_ne (ne_of_none q h)]; exact q
def plainE : Expr→Bool
  | .Starred ..=>false
  | _=>true
theorem star_plain {e : Expr} {es : List Expr} {env : Env} (h : plainE e=true) : starEach (e :: es) env=(false,eval e env) :: starEach es env:=by
  cases e <;> first | rfl | cases h
theorem pa_c {X : Cx} {e : Expr} {es : List Expr} {te : TE} {t : TA} (ha : PE X e te) (hr : PA X es t) (hn : plainE e=true:=by rfl) : PA X (e :: es) (tCons te t):=pa_cons ha hr (star_plain hn)
end L2
namespace L2
open PySem PySem.Spec PyProof.Rows
inductive EqB (K : PySem.W.Frag) (H : Hp) : Nat→V→V→Bool→Prop
  | flat {n : Nat} {x y : V} (hx : flatV x=true) (hy : flatV y=true) : EqB K H n x y (eqV x y)
  | same {n : Nat} {p : Addr} : EqB K H n (.ref p) (.ref p) true
  | tup {n : Nat} {a b : Addr} {xs ys : List V} (e : Nat→Bool) (hn : a≠b) (h1 : SqT K H a xs) (h2 : SqT K H b ys) (he : ∀ j x y,xs[j]? = some x→ys[j]? = some y→EqB K H n x y (e j)) : EqB K H (n + 1) (.ref a) (.ref b) ((List.range (min xs.length ys.length)).all e && xs.length == ys.length)
  | lst {n : Nat} {a b : Addr} {xs ys : List V} (e : Nat→Bool) (hn : a≠b) (hl : xs.length=ys.length) (h1 : SqL K H a xs) (h2 : SqL K H b ys) (he : ∀ j x y,xs[j]? = some x→ys[j]? = some y→EqB K H n x y (e j)) : EqB K H (n + 1) (.ref a) (.ref b) ((List.range xs.length).all e)
  | lsn {n : Nat} {a b : Addr} {xs ys : List V} (hl : xs.length≠ys.length) (h1 : SqL K H a xs) (h2 : SqL K H b ys) : EqB K H (n + 1) (.ref a) (.ref b) false
theorem in1_units {A : Around} : A.in1.units=A.units + 1:=rfl
section
variable {X : Cx} {pins : List (Addr×Obj)} {σ : St} {H : Hp} {s : Shared}
theorem items_eqAt {A : Around} {n : Nat} {xs ys : List V} {us vs : List Value} {e : Nat→Bool} (rx : Vals xs us) (ry : Vals ys vs) (h : ∀ j x y u v,xs[j]? = some x→ys[j]? = some y→RelV x u→RelV y v→SeqAt.EqAt A s u v (e j)) :
    ∀ j (h1 : j < us.toArray.size) (h2 : j < vs.toArray.size),SeqAt.EqAt A s us.toArray[j] vs.toArray[j] (e j):=fun j h1 h2=>by
  have l1:=rx.length
  have l2:=ry.length
  have g1 : j < xs.length:=by simp at h1; omega
  have g2 : j < ys.length:=by simp at h2; omega
  obtain ⟨u,eu,ru⟩:=rx.get (List.getElem?_eq_getElem g1)
  obtain ⟨v,ev,rv⟩:=ry.get (List.getElem?_eq_getElem g2)
  have e1 : us.toArray[j]=u:=by
    have:=List.getElem?_eq_some_iff.mp eu
    obtain ⟨_,e⟩:=this
    simpa using e
  have e2 : vs.toArray[j]=v:=by
    have:=List.getElem?_eq_some_iff.mp ev
    obtain ⟨_,e⟩:=this
    simpa using e
  rw [e1,e2]
  exact h j _ _ u v (List.getElem?_eq_getElem g1) (List.getElem?_eq_getElem g2) ru rv
theorem EqB.eqAt (I : Inv X pins σ H s) {n : Nat} {x y : V} {b : Bool} (h : EqB X.K H n x y b) : ∀ (A : Around) (u v : Value),A.units + n < cLine→RelV x u→RelV y v→SeqAt.EqAt A s u v b:=by
  induction h with
  | flat hx hy=>exact fun A u v _ rx ry=>eqAt_V rx ry hx hy
  | same=>intro A u v _ rx ry; cases rx; cases ry; exact SeqAt.EqAt.same _
  | @tup n a b xs ys e hn h1 h2 he ih=>
    intro A u v hu rx ry
    cases rx; cases ry
    obtain ⟨us,r1,p1,_⟩:=I.tuple h1
    obtain ⟨vs,r2,p2,_⟩:=I.tuple h2
    refine SeqAt.EqAt.of_refs hn ?_
    have:=SeqAt.RcAt.tuples (s:=s) (A:=A) (e:=e) p1 p2 (by omega) (items_eqAt (n:=n) r1 r2 fun j x y u v e1 e2 ru rv=>ih j x y e1 e2 A.in1 u v (by rw [in1_units]; omega) ru rv)
    have l1:=r1.length
    have l2:=r2.length
    simpa [l1,l2] using this
  | @lst n a b xs ys e hn hl h1 h2 he ih=>
    intro A u v hu rx ry
    cases rx; cases ry
    obtain ⟨us,r1,p1,_⟩:=I.list h1
    obtain ⟨vs,r2,p2,_⟩:=I.list h2
    have l1:=r1.length
    have l2:=r2.length
    refine SeqAt.EqAt.of_refs hn ?_
    have:=SeqAt.RcAt.lists (s:=s) (A:=A) (e:=e) p1.isList p2.isList (by simp; omega) (by omega) (items_eqAt (n:=n) r1 r2 fun j x y u v e1 e2 ru rv=>ih j x y e1 e2 A.in1 u v (by rw [in1_units]; omega) ru rv)
    simpa [l1,l2] using this
  | @lsn n a b xs ys hl h1 h2=>
    intro A u v hu rx ry
    cases rx; cases ry
    have hn : a≠b:=fun z=>by subst z; exact hl (by rw [I.list_inj h1 h2])
    obtain ⟨us,r1,p1,_⟩:=I.list h1
    obtain ⟨vs,r2,p2,_⟩:=I.list h2
    have l1:=r1.length
    have l2:=r2.length
    refine SeqAt.EqAt.of_refs hn ?_
    exact SeqAt.RcAt.lists_lengths (s:=s) (A:=A) p1.isList p2.isList (by simp; omega) (by omega)
def rCmpL (K : PySem.W.Frag) (neg : Bool) : R2:=fun x y H Q=>∃ a b xs ys,x = .ref a∧y = .ref b∧SqL K H a xs∧SqL K H b ys∧
  ((xs.length≠ys.length∧Q (.bl neg) H)∨(xs.length=ys.length∧∃ (n : Nat) (e : Nat→Bool),n≤32∧(∀ j x y,xs[j]? = some x→ys[j]? = some y→EqB K H n x y (e j))∧Q (.bl (neg != (List.range xs.length).all e)) H))
theorem op_neL (hu : X.A.units + 64 < cLine) : OpR X (compareOp .NotEq) (rCmpL X.K true):=by
  intro pins s σ H x y v u Q I rx ry h
  obtain ⟨a,b,xs,ys,rfl,rfl,h1,h2,h⟩:=h
  cases rx; cases ry
  obtain ⟨us,r1,p1,_⟩:=I.list h1
  obtain ⟨vs,r2,p2,_⟩:=I.list h2
  have l1:=r1.length
  have l2:=r2.length
  rcases h with ⟨hl,q⟩ | ⟨hl,n,e,hn,he,q⟩
  · exact SeqAt.RcNeAt.lists_lengths (s:=s) (A:=X.A) p1.isList p2.isList (by simp; omega) (by omega) _ _ _ _ ⟨.bl _,H,I,rfl,q⟩
  · refine SeqAt.RcNeAt.lists (s:=s) (A:=X.A) (e:=e) p1.isList p2.isList (by simp; omega) (by omega) (items_eqAt (n:=n) r1 r2 fun j x y u v e1 e2 ru rv=>(he j x y e1 e2).eqAt I _ u v (by rw [in1_units]; omega) ru rv) _ _ _ _ ⟨.bl _,H,I,rfl,?_⟩
    simpa [l1] using q
end
structure Cal (P : Program) (w : World) (K : PySem.W.Frag) (mg : Str→Option Value) (base : Heap) (CX : CXT) (k : Nat) (x : Str) (ps : List Str) (sp : Sp) : Prop where
  ex : ∃ (f : Addr) (fd : FuncData),FnOk P w K mg base CX k f fd ps sp∧Binds K fd ps []∧PySem.W.keepIn K (.ref f)=true∧mg x=some (.ref f)
theorem pe_cal {X : Cx} {CX : CXT} {k j : Nat} {ps : List Str} {sp : Sp} {E : XK} {x : Str} {p pos : Pos} {e : Expr} {es : List Expr} {t : TA} (F : Cal X.prog X.w X.K X.mg X.base CX k x ps sp) (hr : Room j X.A) (hg : Gl X x) (hx : Passes CX X E) (ha : PA X (e :: es) t)
    (hk : k≤j:=by decide) (hdb : (x == ("__debug__" : Str))=false:=by decide) (he : starEach (e :: es) X.env=(false,eval e X.env) :: starEach es X.env:=by rfl) (hpl : (backTo pos (starEach es X.env)).any (·.1)=false:=by rfl) :
    PE X (.Call (.Name x p) (e :: es) [] pos) (tCall sp [] E t):=by
  obtain ⟨f,fd,h1,h2,h3,h4⟩:=F.ex
  exact pe_call (h1.mono hk) hr hg h4 h3 h2 .nil hx ha hdb he hpl
end L2
namespace L2
open PySem PySem.Spec PyProof.Rows
section
variable {X : Cx} {es : List Expr} {x1 : Nat} {tp : Pos}
theorem for_zip {K : PySem.W.Frag} {b1 b2 : Bool} {a b : Addr} {xs ys : List V} {g : TG} {tb : TS} {D : Ends} {σ : St} {H : Hp} (Pv : Nat→St→Hp→Prop) (h0 : Pv 0 σ H) (hl : ∀ i σ H,i≤min xs.length ys.length→Pv i σ H→SqB K H b1 a xs∧SqB K H b2 b ys)
    (hs : ∀ i x y σ H p,xs[i]? = some x→ys[i]? = some y→Pv i σ H→H p=none→g (.ref p) σ (upd H p (.tup [x,y])) fun σ2 H2=>tb { D with nx:=Pv (i + 1),ct:=Pv (i + 1),bk:=D.nx } σ2 H2) (hd : ∀ σ H,Pv (min xs.length ys.length) σ H→D.nx σ H) :
    ∃ W : Nat→Nat→St→Hp→Prop,(∃ m,W 0 m σ H)∧∀ i m σ H,W i m σ H→
      ((Itz K b1 b2 a b).stop i H∧D.nx σ H)∨((Itz K b1 b2 a b).go i H∧∃ N : St→Hp→Prop,(∀ σ' H',N σ' H'→∃ m',m' < m∧W (i + 1) m' σ' H')∧∀ x H',(Itz K b1 b2 a b).yld i H x H'→g x σ H' fun σ2 H2=>tb { D with nx:=N,ct:=N,bk:=D.nx } σ2 H2):=by
  refine ⟨fun i m σ H=>m=min xs.length ys.length - i∧i≤min xs.length ys.length∧Pv i σ H,⟨min xs.length ys.length,by simp,Nat.zero_le _,h0⟩,?_⟩
  rintro i m σ H ⟨rfl,hi,p⟩
  obtain ⟨q1,q2⟩:=hl i σ H hi p
  by_cases hlt : i < min xs.length ys.length
  · refine .inr ⟨⟨xs,ys,xs[i]'(by omega),ys[i]'(by omega),q1,q2,by simp,by simp⟩,Pv (i + 1),fun σ' H' p'=>⟨min xs.length ys.length - (i + 1),by omega,rfl,hlt,p'⟩,fun x H' y=>?_⟩
    obtain ⟨c,x',y',rfl,hc,rfl,y⟩:=y
    obtain ⟨e1,e2⟩:=y xs ys q1 q2
    exact hs i x' y' σ _ c e1 e2 p hc
  · have e : i=min xs.length ys.length:=by omega
    subst e
    exact .inl ⟨⟨xs,ys,q1,q2,by omega⟩,hd σ H p⟩
end
end L2
namespace L2
open PySem PySem.Spec PyProof.Rows
def relabelD (scope D : Scope) : List (Str×NameKind):=scope.names.map fun (n,k)=>if (k == .free && D.kind == .function && D.names.lookup n == some .cell) then (n,.cell) else (n,k)
def compOk (N N' : List Str) (ix : List (Option Nat)) (scope D : Scope) : Bool:=
  (scope.kind == .function) && (scope.names.all fun y=>(y.2 == .local && scope.names.lookup y.1 == some .local) || (y.2 == .free && D.names.lookup y.1 == some .cell) || (y.2 != .local && y.2 != .free && y.2 != .cell)) && decide N'.Nodup && (ix.length == N'.length) &&
  ((List.range N'.length).all fun k=>match ix[k]?,N'[k]? with
    | some (some j),some x=>N[j]? == some x && scope.names.contains (x,.free) && (relabelD scope D).lookup x == some .cell
    | _,_=>true)
theorem comp_scope {X : Cx} {N' : List Str} {ix : List (Option Nat)} {scope : Scope} {N : List Str} {D : Scope} (h : compOk N N' ix scope D=true) (hN : X.N=N:=by rfl) (hD : X.env.scope=D:=by rfl) : CompScope X N' ix scope:=by
  unfold compOk at h
  simp only [Bool.and_eq_true,decide_eq_true_eq] at h
  obtain ⟨⟨⟨⟨h1,h2⟩,h3⟩,h4⟩,h5⟩:=h
  have hall:=List.all_eq_true.mp h2
  refine ⟨by simpa using h1,fun y hy=>?_,fun y hy e=>?_,h3,by simpa using h4,fun y hy e=>?_,fun k j x e1 e2=>?_⟩
  · have:=hall y hy
    intro z
    rw [z] at this
    simp at this
  · have:=hall y hy
    rw [e] at this
    simpa using this
  · have:=hall y hy
    rw [e] at this
    have q : D.names.lookup y.1=some .cell:=by simpa using this
    show X.env.scope.names.lookup y.1=some .cell
    rw [hD]; exact q
  · have hk : k < N'.length:=(List.getElem?_eq_some_iff.mp e1).1
    have:=List.all_eq_true.mp h5 k (List.mem_range.mpr hk)
    rw [e1,e2] at this
    simp only [Bool.and_eq_true,beq_iff_eq] at this
    obtain ⟨⟨a1,a2⟩,a3⟩:=this
    refine ⟨by rw [hN]; exact a1,by simpa using a2,?_⟩
    show (relabelD scope X.env.scope).lookup x=some .cell
    rw [hD]; exact a3
end L2
namespace L2
open PySem PySem.Spec PyProof.Rows
section
variable {X : Cx}
end
end L2
namespace L2
open PySem PySem.Spec PyProof.Rows
section
variable {K : PySem.W.Frag} {c d : Addr} {b : Bool} {v : Value}
end
end L2
namespace L2
open PySem PySem.Spec PyProof.Rows
theorem Fun.okE {P : Program} {w : World} {K : PySem.W.Frag} {mg : Str→Option Value} {base : Heap} {x qual : Str} {st : Stmt} {f : Addr} {fd : FuncData} {N ps : List Str} {k : Nat} {sp : Sp} (F : Fun K x qual st f fd) (S : FnScope N ps (defScope st))
    (len : ∀ vs H Q E,sp vs H Q E→vs.length=ps.length)
    (hbody : ∀ (cdv : Value) (A : Around) (outer : List Env) (s : Shared) (H : Hp) (vs : List V) (Q : VK) (E : XK),Room k (A.deeper (envOfC qual (defScope st) s.heap.objs.size f cdv))→sp vs H Q E→
      ∃ t,PSs (cxOf (CXE P w) P w K mg base N qual (defScope st) f cdv A outer s H E) (defBody st) t∧t { nx:=fun _ H'=>Q .non H',rt:=Q } (start N vs) H) : FnOk P w K mg base (CXE P w) (k + 1) f fd ps sp:=by
  obtain ⟨oc,od,kV,doc,pm,an,cdv,ct,osl,rfl,lk,hcd⟩:=F.ex
  exact fn_of lk hcd S len fun A outer s H vs Q E hr hsp=>hbody cdv A outer s H vs Q E hr hsp
theorem tSeq_by {t u : TS} {D : Ends} {σ : St} {H : Hp} (R : St→Hp→Prop) (h1 : ∀ D' : Ends,(∀ σ' H',R σ' H'→D'.nx σ' H')→D'.rt=D.rt→t D' σ H) (h2 : ∀ σ' H',R σ' H'→u D σ' H') : tSeq t u D σ H:=h1 { D with nx:=u D } h2 rfl
structure Bn (mg : Str→Option Value) : Prop where
  len : mg "len" = none
  list : mg "list" = none
  isi : mg "isinstance" = none
  bool : mg "bool" = none
  int : mg "int" = none
  str : mg "str" = none
  tuple : mg "tuple" = none
  all : mg "all" = none
  any : mg "any" = none
  zip : mg "zip" = none
  range : mg "range" = none
  max : mg "max" = none
  min : mg "min" = none
  enumerate : mg "enumerate" = none
  sum : mg "sum" = none
  sorted : mg "sorted" = none
  verr : mg "ValueError" = none
def KeepBut (a : Addr) (H H' : Hp) : Prop:=∀ b o,b≠a→H b=some o→H' b=some o
theorem KeepBut.refl {a : Addr} {H : Hp} : KeepBut a H H:=fun _ _ _ h=>h
theorem KeepBut.trans {a : Addr} {H H1 H2 : Hp} (x : KeepBut a H H1) (y : KeepBut a H1 H2) : KeepBut a H H2:=fun b o n h=>y b o n (x b o n h)
theorem KeepBut.upd {a : Addr} {H H1 : Hp} {o : HO} (x : KeepBut a H H1) : KeepBut a H (L2.upd H1 a o):=fun b u n h=>by rw [upd_ne n]; exact x b u n h
theorem KeepBut.new {a p : Addr} {H H1 : Hp} {o : HO} (x : KeepBut a H H1) (hp : H1 p=none) : KeepBut a H (L2.upd H1 p o):=fun b u n h=>by
  have:=x b u n h
  rw [upd_ne (ne_of_none this hp)]; exact this
theorem KeepBut.young {a p : Addr} {H H1 : Hp} {o : HO} (x : KeepBut a H H1) (hp : H p=none) : KeepBut a H (L2.upd H1 p o):=fun b u n h=>by
  rw [upd_ne (ne_of_none h hp)]; exact x b u n h
theorem KeepBut.of_same {a : Addr} {H H1 : Hp} (x : Same H H1) : KeepBut a H H1:=fun b o _ h=>x b o h
theorem KeepBut.none {a p : Addr} {H H' : Hp} (k : KeepBut a H H') (n : p≠a) (h : H' p=Option.none) : H p=Option.none:=by
  cases q : H p with
  | none=>rfl
  | some o=>rw [k p o n q] at h; cases h
theorem Same.young {p : Addr} {H H1 : Hp} {o : HO} (x : Same H H1) (hp : H p=none) : Same H (L2.upd H1 p o):=fun b u h=>by
  rw [upd_ne (ne_of_none h hp)]; exact x b u h
def Draw (H : Hp) (a c : Addr) (ns : List Int) (i x y z : Int) : Prop:=H a=some (.lst [.ref c,.int i,.int x,.int y,.int z])∧H c=some (.lst (ns.map V.int))∧c≠a∧0≤i∧0≤y∧y < 1000000007
def DrawAt (H : Hp) (a c : Addr) : Prop:=∃ ns i x y z,Draw H a c ns i x y z
theorem DrawAt.new {H : Hp} {a c p : Addr} {o : HO} (d : DrawAt H a c) (hp : H p=none) : DrawAt (L2.upd H p o) a c:=by
  obtain ⟨ns,i,x,y,z,h1,h2,r⟩:=d
  exact ⟨ns,i,x,y,z,by rw [upd_ne (ne_of_none h1 hp)]; exact h1,by rw [upd_ne (ne_of_none h2 hp)]; exact h2,r⟩
theorem DrawAt.upd {H : Hp} {a c p : Addr} {o : HO} (d : DrawAt H a c) (na : p≠a) (nc : p≠c) : DrawAt (L2.upd H p o) a c:=by
  obtain ⟨ns,i,x,y,z,h1,h2,r⟩:=d
  exact ⟨ns,i,x,y,z,by rw [upd_ne na.symm]; exact h1,by rw [upd_ne nc.symm]; exact h2,r⟩
theorem DrawAt.same {H H' : Hp} {a c : Addr} (d : DrawAt H a c) (s : Same H H') : DrawAt H' a c:=by
  obtain ⟨ns,i,x,y,z,h1,h2,r⟩:=d
  exact ⟨ns,i,x,y,z,s _ _ h1,s _ _ h2,r⟩
theorem DrawAt.there {H : Hp} {a c : Addr} (d : DrawAt H a c) : ∃ o,H a=some o:=by
  obtain ⟨ns,i,x,y,z,h1,_⟩:=d
  exact ⟨_,h1⟩
theorem DrawAt.ne {H : Hp} {a c p : Addr} (d : DrawAt H a c) (hp : H p=none) : p≠a:=by
  obtain ⟨o,e⟩:=d.there
  exact (ne_of_none e hp).symm
theorem DrawAt.nc {H : Hp} {a c p : Addr} (d : DrawAt H a c) (hp : H p=none) : p≠c:=by
  obtain ⟨ns,i,x,y,z,_,h2,_⟩:=d
  exact (ne_of_none h2 hp).symm
theorem DrawAt.neT {H : Hp} {a c p : Addr} {xs : List V} (d : DrawAt H a c) (hp : H p=some (.tup xs)) : p≠a:=by
  obtain ⟨_,_,_,_,_,h,_⟩:=d
  exact ne_of hp h (by intro z; cases z)
def spBegin (K : PySem.W.Frag) : Sp:=fun vs H Q _=>∃ (a : Addr) (ns : List Int),vs=[.ref a]∧SqL K H a (ns.map V.int)∧ns.length≤63∧∀ l c H',H l=none→H c=none→Same H H'→DrawAt H' l c→Q (.ref l) H'
def spPick : Sp:=fun vs H Q _=>∃ (a c : Addr) (m : Int),vs=[.ref a,.int m]∧DrawAt H a c∧0 < m∧m < 18446744073709551616∧∀ r H',0≤r→r < m→DrawAt H' a c→KeepBut a H H'→Q (.int r) H'
theorem cut_ints (ns : List Int) (lo hi : Option Int) : ∃ ms : List Int,cutV (ns.map V.int) lo hi=ms.map V.int∧ms.length≤ns.length:=by
  unfold cutV
  rw [← List.map_drop,← List.map_take]
  exact ⟨_,rfl,by rw [List.length_take,List.length_drop]; omega⟩
theorem atI_some {xs : List V} {r : Int} {v : V} (h0 : 0≤r) (h : xs[r.toNat]? = some v) : atI xs r=some v:=by
  have:=atI_nat (xs:=xs) (j:=r.toNat) (v:=v) h
  rw [show ((r.toNat : Nat) : Int)=r by omega] at this
  exact this
def Rows (H : Hp) (a : Addr) (rs : List (List Int)) : Prop:=∃ ps : List Addr,H a=some (.lst (ps.map V.ref))∧ps.length=rs.length∧∀ (i : Nat) p r,ps[i]? = some p→rs[i]? = some r→H p=some (.tup (r.map V.int))
theorem Rows.same {H H' : Hp} {a : Addr} {rs : List (List Int)} (h : Rows H a rs) (s : Same H H') : Rows H' a rs:=by
  obtain ⟨ps,h1,h2,h3⟩:=h
  exact ⟨ps,s _ _ h1,h2,fun i p r e1 e2=>s _ _ (h3 i p r e1 e2)⟩
theorem Rows.keep {H H' : Hp} {a l c : Addr} {rs : List (List Int)} (h : Rows H a rs) (n : a≠l) (d : DrawAt H l c) (k : KeepBut l H H') : Rows H' a rs:=by
  obtain ⟨ps,h1,h2,h3⟩:=h
  exact ⟨ps,k _ _ n h1,h2,fun i p r e1 e2=>k _ _ (d.neT (h3 i p r e1 e2)) (h3 i p r e1 e2)⟩
theorem Rows.there {H : Hp} {a : Addr} {rs : List (List Int)} (h : Rows H a rs) : ∃ o,H a=some o:=by
  obtain ⟨ps,h1,_⟩:=h
  exact ⟨_,h1⟩
theorem Rows.get {H : Hp} {a : Addr} {rs : List (List Int)} (h : Rows H a rs) : ∃ xs : List V,H a=some (.lst xs)∧xs.length=rs.length∧∀ (i : Nat) x,xs[i]? = some x→∃ p r,x = .ref p∧rs[i]? = some r∧H p=some (.tup (r.map V.int)):=by
  obtain ⟨ps,h1,h2,h3⟩:=h
  refine ⟨_,h1,by rw [List.length_map,h2],fun i x e=>?_⟩
  rw [List.getElem?_map] at e
  cases q : ps[i]? with
  | none=>rw [q] at e; cases e
  | some p=>
    rw [q] at e
    have hi:=(List.getElem?_eq_some_iff.mp q).1
    have hr : rs[i]? = some (rs[i]'(by omega)):=List.getElem?_eq_getElem (by omega)
    exact ⟨p,_,(Option.some.inj e).symm,hr,h3 i p _ q hr⟩
theorem Rows.push {H : Hp} {a p : Addr} {rs : List (List Int)} {xs : List V} {r : List Int} (h : Rows H a rs) (hx : H a=some (.lst xs)) (hp : H p=none) : Rows (L2.upd (L2.upd H p (.tup (r.map V.int))) a (.lst (xs ++ [.ref p]))) a (rs ++ [r]):=by
  obtain ⟨ps,h1,h2,h3⟩:=h
  rw [hx] at h1
  cases h1
  refine ⟨ps ++ [p],by rw [upd_same,List.map_append]; rfl,by rw [List.length_append,List.length_append,h2]; rfl,fun i q r' e1 e2=>?_⟩
  by_cases hi : i < ps.length
  · rw [List.getElem?_append_left hi] at e1
    rw [List.getElem?_append_left (by omega)] at e2
    have:=h3 i q r' e1 e2
    rw [upd_ne (ne_of this hx (by intro z; cases z)),upd_ne (ne_of_none this hp)]
    exact this
  · have hi' : i=ps.length:=by
      have:=(List.getElem?_eq_some_iff.mp e1).1
      rw [List.length_append,List.length_singleton] at this
      omega
    subst hi'
    rw [List.getElem?_append_right (Nat.le_refl _),Nat.sub_self] at e1
    rw [h2,List.getElem?_append_right (Nat.le_refl _),Nat.sub_self] at e2
    cases e1
    cases e2
    rw [upd_ne (ne_of_none hx hp).symm,upd_same]
theorem Rows.nil {H : Hp} {a : Addr} (h : H a=some (.lst [])) : Rows H a []:=⟨[],h,rfl,fun i p r e=>by cases e⟩
def LotIn (lo n sc : Int) (r : List Int) : Prop:=∃ d c u : Int,r=[d,c,u]∧lo≤d∧d < lo + n∧1≤c∧c≤sc∧1≤u∧u≤1000000
def OutIn (lo n sc : Int) (r : List Int) : Prop:=∃ d c : Int,r=[d,c]∧lo≤d∧d < lo + n∧1≤c∧c≤sc
def spLots : Sp:=fun vs H Q _=>∃ (a c p : Addr) (m lo n sc : Int),vs=[.ref a,.int m,.ref p,.int sc]∧DrawAt H a c∧0≤m∧m≤900∧H p=some (.tup [.int lo,.int n])∧1≤n∧n≤999∧1≤sc∧sc≤10000000000∧
  ∀ l rs H',H l=none→(∀ r∈rs,LotIn lo n sc r)→(rs.length : Int)≤m→DrawAt H' a c→KeepBut a H H'→Rows H' l rs→Q (.ref l) H'
def spOuts : Sp:=fun vs H Q _=>∃ (a c p : Addr) (m lo n sc : Int),vs=[.ref a,.int m,.ref p,.int sc]∧DrawAt H a c∧0≤m∧m≤900∧H p=some (.tup [.int lo,.int n])∧1≤n∧n≤999∧1≤sc∧sc≤10000000000∧
  ∀ l rs H',H l=none→(∀ r∈rs,OutIn lo n sc r)→(rs.length : Int)≤m→DrawAt H' a c→KeepBut a H H'→Rows H' l rs→Q (.ref l) H'
end L2
namespace K07
open PySem L2
def top (i : Nat) : Stmt:=PySem.Challenge.pw_drawback_k07_whole_dealt_unit_by_unit.main.body.getD i (.Pass ⟨0,0,0,0⟩)
abbrev s_begin : Stmt:=top 36
abbrev n_begin : List Str:=["_law_script"]
abbrev p_begin : List Str:=["_law_script"]
theorem sc_begin : FnScope n_begin p_begin (defScope s_begin):=⟨rfl,rfl,rfl,by decide +kernel,rfl,by decide +kernel,by decide +kernel⟩
abbrev s_pick : Stmt:=top 37
abbrev n_pick : List Str:=["_law_draw","_law_many","_law_cell","_law_got"]
abbrev p_pick : List Str:=["_law_draw","_law_many"]
theorem sc_pick : FnScope n_pick p_pick (defScope s_pick):=⟨rfl,rfl,rfl,by decide +kernel,rfl,by decide +kernel,by decide +kernel⟩
abbrev s_some_lots : Stmt:=top 38
abbrev n_some_lots : List Str:=["_law_draw","_law_most_here","_law_days","_law_scale","_law_dear","_law_found","_law_k","_law_day","_law_count"]
abbrev p_some_lots : List Str:=["_law_draw","_law_most_here","_law_days","_law_scale"]
theorem sc_some_lots : FnScope n_some_lots p_some_lots (defScope s_some_lots):=⟨rfl,rfl,rfl,by decide +kernel,rfl,by decide +kernel,by decide +kernel⟩
abbrev s_some_outs : Stmt:=top 39
abbrev n_some_outs : List Str:=["_law_draw","_law_most_here","_law_days","_law_scale","_law_found","_law_k","_law_day"]
abbrev p_some_outs : List Str:=["_law_draw","_law_most_here","_law_days","_law_scale"]
theorem sc_some_outs : FnScope n_some_outs p_some_outs (defScope s_some_outs):=⟨rfl,rfl,rfl,by decide +kernel,rfl,by decide +kernel,by decide +kernel⟩
section
variable {P : Program} {w : World} {K : PySem.W.Frag} {mg : Str→Option Value} {base : Heap} {f : Addr} {fd : FuncData}
theorem ok_begin (F : Fun K "_law_begin" "_law_begin" s_begin f fd) (B : Bn mg) : FnOk P w K mg base CX0 1 f fd p_begin (spBegin K):=by
  refine F.ok sc_begin (fun vs H Q E h=>?_) (fun cdv A outer s H vs Q E hr h=>?_)
  · obtain ⟨a,ns,rfl,_⟩:=h; rfl
  obtain ⟨a,ns,rfl,hS,hl,q⟩:=h
  refine ⟨_,(pss_one (ps_ret (pe_lst (pa_c (pe_callTy call_list_of rfl B.list PyProof.Rows.boot_list (pa_c (pe_slice sl_list (pv 0) po_none (po_some pe_int)) pa_nil)) (pa_c pe_int (pa_c pe_int (pa_c pe_int (pa_c pe_int pa_nil)))))))),?_⟩
  refine ⟨_,rfl,_,rfl,a,_,rfl,hS,fun p hp=>?_⟩
  obtain ⟨ms,em,hm⟩:=cut_ints ns none (some 63)
  refine ⟨p,_,rfl,.inl (SqL.of upd_same),fun c hc=>?_⟩
  refine ⟨by show 5≤sizeLine; decide,fun l hl'=>?_⟩
  have s1 : Same H (L2.upd H p (.lst (cutV (ns.map V.int) none (some 63)))):=same_new hp _
  have s2:=s1.trans (same_new hc (.lst (cutV (ns.map V.int) none (some 63))))
  have s3:=s2.trans (same_new hl' (.lst [.ref c,.int 0,.int 0,.int 1,.int 0]))
  have ncl : c≠l:=ne_of_none (upd_same (H:=L2.upd H p _) (o:=.lst (cutV (ns.map V.int) none (some 63)))) hl'
  refine q l c _ (s2.free hl') (s1.free hc) s3 ⟨ms,0,0,1,0,upd_same,?_,ncl,by decide,by decide,by decide⟩
  rw [upd_ne ncl,upd_same,em]
theorem ok_pick (F : Fun K "_law_pick" "_law_pick" s_pick f fd) (B : Bn mg) : FnOk P w K mg base CX0 1 f fd p_pick spPick:=by
  refine F.ok sc_pick (fun vs H Q E h=>?_) (fun cdv A outer s H vs Q E hr h=>?_)
  · obtain ⟨a,c,m,rfl,_⟩:=h; rfl
  obtain ⟨a,c,m,rfl,⟨ns,i,x,y,z,d1,d2,nca,hi,hy,hy2⟩,hm,hm2,q⟩:=h
  refine ⟨_,(pss_cons (ps_if (PW.pt (pw_and (pt_cmpR op_lt (pe_ix ix_list (pv 0) pe_int (fun _ _=>rfl)) (pv 1) (nomark _)) (pw_and1 (pt_cmpR op_lt (pe_ix ix_list (pv 0) pe_int (fun _ _=>rfl)) (pe_callB call_len_seq rfl B.len PySem.boot_len (pa_c (pe_ix ix_list (pv 0) pe_int (fun _ _=>rfl)) pa_nil)) (nomark _))))) (pss_cons (ps_set (i:=2) sc_pick.nd rfl (Or.inl rfl) (pe_ix ix_list (pe_ix ix_list (pv 0) pe_int (fun _ _=>rfl)) (pe_ix ix_list (pv 0) pe_int (fun _ _=>rfl)) (fun _ _=>rfl)))
      (pss_cons (ps_asg (pe_op op_add (pe_ix ix_list (pv 0) pe_int (fun _ _=>rfl)) pe_int) (pg_sub (pv 0) pe_int set_list))
      (pss_cons (ps_asg pe_int (pg_sub (pv 0) pe_int set_list))
      (pss_one (ps_if (pt_cmpR op_ge (pv 2) (pe_op op_pow pe_int pe_int) (nomark _)) (pss_one (ps_asg (pv 2) (pg_sub (pv 0) pe_int set_list))) (pss_one (ps_asg (pe_op op_mod (pe_op op_add (pe_ix ix_list (pv 0) pe_int (fun _ _=>rfl)) (pv 2)) pe_int) (pg_sub (pv 0) pe_int set_list)))))))) pss_nil)
    (pss_cons (ps_if (pt_cmpR op_ge (pe_ix ix_list (pv 0) pe_int (fun _ _=>rfl)) (pv 1) (nomark _)) (pss_cons (ps_set (i:=3) sc_pick.nd rfl (Or.inl rfl) (pe_op op_mod (pe_ix ix_list (pv 0) pe_int (fun _ _=>rfl)) (pv 1)))
      (pss_cons (ps_asg (pe_op op_fdivL (pe_ix ix_list (pv 0) pe_int (fun _ _=>rfl)) (pv 1)) (pg_sub (pv 0) pe_int set_list))
      (pss_one (ps_ret (pv 3))))) pss_nil)
    (pss_cons (ps_asg (pe_op op_add (pe_ix ix_list (pv 0) pe_int (fun _ _=>rfl)) pe_int) (pg_sub (pv 0) pe_int set_list))
    (pss_cons (ps_asg (pe_op op_mod (pe_op op_add (pe_op op_add (pe_op op_pow (pe_ix ix_list (pv 0) pe_int (fun _ _=>rfl)) pe_int) (pe_op op_mul pe_int (pe_ix ix_list (pv 0) pe_int (fun _ _=>rfl)))) pe_int) pe_int) (pg_sub (pv 0) pe_int set_list))
    (pss_one (ps_ret (pe_op op_mod (pe_op op_fdivL (pe_ix ix_list (pv 0) pe_int (fun _ _=>rfl)) pe_int) (pv 1)))))))),?_⟩
  refine (show ∀ (u : TS),(∀ (cv : Option V) (H1 : Hp) (i x y z : Int),Draw H1 a c ns i x y z→KeepBut a H H1→u { nx:=fun _ H'=>Q .non H',rt:=Q } [some (.ref a),some (.int m),cv,none] H1)→tSeq _ u _ _ _ from fun u hu=>?_) _ ?_
  · -- if draw[2] < many and draw[1] < len(draw[0])
    refine ⟨_,rfl,a,_,_,.int x,rfl,rfl,SqL.of d1,rfl,_,rfl,_,_,rfl,rfl,_,rfl,?_⟩
    by_cases c1 : x < m
    · rw [decide_eq_true c1]
      refine iteT ⟨_,rfl,a,_,_,.int i,rfl,rfl,SqL.of d1,rfl,_,rfl,a,_,_,.ref c,rfl,rfl,SqL.of d1,rfl,c,_,rfl,.inl (SqL.of d2),_,_,rfl,rfl,_,rfl,?_⟩
      rw [List.length_map]
      by_cases c2 : i < (ns.length : Int)
      · rw [decide_eq_true c2]
        have hk : i.toNat < ns.length:=by omega
        have ei : ((i.toNat : Nat) : Int)=i:=by omega
        have eat : atI (ns.map V.int) i=some (.int ns[i.toNat]):=by
          have:=atI_nat (xs:=ns.map V.int) (j:=i.toNat) (v:=.int ns[i.toNat]) (by rw [List.getElem?_map,List.getElem?_eq_getElem hk]; rfl)
          rw [ei] at this; exact this
        refine iteT ⟨_,rfl,a,_,_,.ref c,rfl,rfl,SqL.of d1,rfl,_,rfl,a,_,_,.int i,rfl,rfl,SqL.of d1,rfl,c,_,_,.int ns[i.toNat],rfl,rfl,SqL.of d2,eat,?_⟩
        generalize ns[i.toNat]=v
        refine ⟨_,rfl,a,_,_,.int i,rfl,rfl,SqL.of d1,rfl,_,_,rfl,rfl,_,rfl,a,_,_,1,rfl,rfl,d1,rfl,?_⟩
        refine ⟨_,rfl,a,_,_,2,rfl,rfl,upd_same,rfl,?_⟩
        rw [upd_upd]
        have e2 : L2.upd H a (.lst [.ref c,.int (i + 1),.int 0,.int y,.int z]) c=some (.lst (ns.map V.int)):=by rw [upd_ne nca]; exact d2
        refine ⟨_,rfl,_,_,rfl,rfl,⟨by decide,by decide,by decide⟩,_,_,rfl,rfl,_,rfl,?_⟩
        refine ite2 (fun _=>?_) (fun _=>?_)
        · refine ⟨_,rfl,_,rfl,a,_,_,2,rfl,rfl,upd_same,rfl,?_⟩
          rw [upd_upd]
          exact hu _ _ (i + 1) v y z ⟨upd_same,by rw [upd_ne nca]; exact d2,nca,by omega,hy,hy2⟩ KeepBut.refl.upd
        · refine ⟨_,rfl,a,_,_,.int y,rfl,rfl,SqL.of upd_same,rfl,_,rfl,_,_,rfl,rfl,_,_,rfl,rfl,(by show (0 : Int) < 1000000007; decide),_,rfl,a,_,_,3,rfl,rfl,upd_same,rfl,?_⟩
          rw [upd_upd]
          exact hu _ _ (i + 1) 0 ((y + v) % 1000000007) z ⟨upd_same,by rw [upd_ne nca]; exact d2,nca,by omega,by omega,by omega⟩ KeepBut.refl.upd
      · rw [decide_eq_false c2]
        exact iteF (hu _ H i x y z ⟨d1,d2,nca,hi,hy,hy2⟩ KeepBut.refl)
    · rw [decide_eq_false c1]
      exact iteF (iteF (hu _ H i x y z ⟨d1,d2,nca,hi,hy,hy2⟩ KeepBut.refl))
  · -- the rest
    clear d1 d2 hi hy hy2 i x y z
    rintro cv H1 i x y z ⟨d1,d2,_,hi,hy,hy2⟩ kb
    refine ⟨_,rfl,a,_,_,.int x,rfl,rfl,SqL.of d1,rfl,_,rfl,_,_,rfl,rfl,_,rfl,?_⟩
    by_cases c1 : m≤x
    · rw [decide_eq_true c1]
      refine iteT ⟨_,rfl,a,_,_,.int x,rfl,rfl,SqL.of d1,rfl,_,rfl,_,_,rfl,rfl,hm,?_⟩
      refine ⟨_,rfl,a,_,_,.int x,rfl,rfl,SqL.of d1,rfl,_,rfl,_,_,rfl,rfl,⟨hm,hm2⟩,_,rfl,a,_,_,2,rfl,rfl,d1,rfl,?_⟩
      refine ⟨_,rfl,?_⟩
      exact q _ _ (Int.emod_nonneg _ (by omega)) (Int.emod_lt_of_pos _ hm) ⟨ns,i,x / m,y,z,upd_same,by rw [upd_ne nca]; exact d2,nca,hi,hy,hy2⟩ kb.upd
    · rw [decide_eq_false c1]
      refine iteF ?_
      refine ⟨_,rfl,a,_,_,.int z,rfl,rfl,SqL.of d1,rfl,_,_,rfl,rfl,_,rfl,a,_,_,4,rfl,rfl,d1,rfl,?_⟩
      refine ⟨_,rfl,a,_,_,.int y,rfl,rfl,SqL.of upd_same,rfl,_,_,rfl,rfl,⟨by decide,by decide,by omega⟩,_,rfl,a,_,_,.int (z + 1),rfl,rfl,SqL.of upd_same,rfl,_,_,rfl,rfl,.inl ⟨by decide,by decide⟩,_,_,rfl,rfl,_,_,rfl,rfl,_,_,rfl,rfl,(by show (0 : Int) < 1000000007; decide),_,rfl,a,_,_,3,rfl,rfl,upd_same,rfl,?_⟩
      rw [upd_upd]
      have hy4 : 0≤(y ^ (3 : Int).toNat + 40503 * (z + 1) + 17) % 1000000007∧(y ^ (3 : Int).toNat + 40503 * (z + 1) + 17) % 1000000007 < 1000000007:=⟨Int.emod_nonneg _ (by decide),Int.emod_lt_of_pos _ (by decide)⟩
      refine ⟨_,rfl,a,_,_,.int ((y ^ (3 : Int).toNat + 40503 * (z + 1) + 17) % 1000000007),rfl,rfl,SqL.of upd_same,rfl,_,_,rfl,rfl,⟨by decide,by decide⟩,_,rfl,_,_,rfl,rfl,hm,?_⟩
      exact q _ _ (Int.emod_nonneg _ (by omega)) (Int.emod_lt_of_pos _ hm) ⟨ns,i,x,(y ^ (3 : Int).toNat + 40503 * (z + 1) + 17) % 1000000007,z + 1,upd_same,by rw [upd_ne nca]; exact d2,nca,hi,hy4.1,hy4.2⟩ kb.upd
variable (B : Bn mg) (G_pick : Cal P w K mg base CX0 1 "_law_pick" p_pick spPick)
include B G_pick
theorem ok_some_lots (F : Fun K "_law_some_lots" "_law_some_lots" s_some_lots f fd) : FnOk P w K mg base CX0 2 f fd p_some_lots spLots:=by
  refine F.ok sc_some_lots (fun vs H Q E h=>?_) (fun cdv A outer s H vs Q E hr h=>?_)
  · obtain ⟨a,c,p,m,lo,n,sc,rfl,_⟩:=h; rfl
  obtain ⟨a,c,p,m,lo,n,sc,rfl,d,m0,m1,hp,n0,n1,s0,s1,q⟩:=h
  refine ⟨_,(pss_cons (ps_set (i:=4) sc_some_lots.nd rfl (Or.inl rfl) (pe_ix ix_tup (pe_tup (pa_c pe_int (pa_c pe_int (pa_c pe_int (pa_c (pe_op op_pow pe_int pe_int) pa_nil))))) (pe_cal G_pick hr rfl pass0 (pa_c (pv 0) (pa_c pe_int pa_nil))) (fun _ _=>rfl)))
    (pss_cons (ps_set (i:=5) sc_some_lots.nd rfl (Or.inl rfl) (pe_lst pa_nil))
    (pss_cons (ps_for PassesOwn.never rfl (pi_range1 rfl B.range (pa_c (pe_cal G_pick hr rfl pass0 (pa_c (pv 0) (pa_c (pe_op op_add (pv 1) pe_int) pa_nil))) pa_nil)) (pg_name (i:=6) sc_some_lots.nd rfl (Or.inl rfl)) (pss_cons (ps_set (i:=7) sc_some_lots.nd rfl (Or.inl rfl) (pe_op op_add (pe_ix ix_tup (pv 2) pe_int (fun _ _=>rfl)) (pe_cal G_pick hr rfl pass0 (pa_c (pv 0) (pa_c (pe_ix ix_tup (pv 2) pe_int (fun _ _=>rfl)) pa_nil)))))
      (pss_cons (ps_set (i:=8) sc_some_lots.nd rfl (Or.inl rfl) (pe_op op_add pe_int (pe_cal G_pick hr rfl pass0 (pa_c (pv 0) (pa_c (pv 3) pa_nil)))))
      (pss_one (ps_expr (pe_bm PySem.F.plainAttrs_list PySem.F.slot_list_append PySem.F.type_list_append mt_append (pv 5) (pa_c (pe_tup (pa_c (pv 7) (pa_c (pv 8) (pa_c (pe_op op_add pe_int (pe_cal G_pick hr rfl pass0 (pa_c (pv 0) (pa_c (pv 4) pa_nil)))) pa_nil)))) pa_nil)))))))
    (pss_one (ps_ret (pv 5)))))),?_⟩
  refine ⟨_,_,rfl,rfl,⟨by decide,by decide,by decide⟩,by show 4≤sizeLine; decide,fun p0 hp0=>?_⟩
  refine ⟨_,rfl,a,c,4,rfl,d.new hp0,by decide,by decide,fun r1 H1 a1 c1 d1 kb1=>?_⟩
  have ht:=kb1 p0 _ (d.ne hp0) upd_same
  have hv : ∃ v,atI [V.int 2,.int 5,.int 40,.int (10 ^ (6 : Int).toNat)] r1=some (.int v)∧1≤v∧v≤1000000:=by
    have : r1=0∨r1=1∨r1=2∨r1=3:=by omega
    rcases this with rfl | rfl | rfl | rfl
    · exact ⟨2,rfl,by omega,by omega⟩
    · exact ⟨5,rfl,by omega,by omega⟩
    · exact ⟨40,rfl,by omega,by omega⟩
    · exact ⟨1000000,rfl,by omega,by omega⟩
  obtain ⟨dear,ev,v0,v1⟩:=hv
  refine ⟨p0,_,_,.int dear,rfl,rfl,SqT.of ht,ev,?_⟩
  refine ⟨by show 0≤sizeLine; decide,fun l hl=>?_⟩
  have k1 : KeepBut a H H1:=(KeepBut.refl.new hp0).trans kb1
  have fl : H l=none:=k1.none (d1.ne hl) hl
  have dl:=d1.new (o:=.lst []) hl
  have pa : p≠a:=d.neT hp
  refine ⟨_,rfl,_,rfl,_,_,rfl,rfl,a,c,m + 1,rfl,dl,by omega,by omega,fun r2 H2 a2 c2 d2 kb2=>?_⟩
  have k2 : KeepBut a H H2:=(k1.new hl).trans kb2
  have hl2:=kb2 l _ (d1.ne hl) upd_same
  refine ⟨r2,rfl,by omega,by omega,for_range (n:=r2.toNat) (fun i σ H3=>∃ o6 o7 o8 rs,σ=[some (.ref a),some (.int m),some (.ref p),some (.int sc),some (.int dear),some (.ref l),o6,o7,o8]∧DrawAt H3 a c∧KeepBut a H H3∧Rows H3 l rs∧rs.length=i∧∀ r∈rs,LotIn lo n sc r) ⟨_,_,_,[],rfl,d2,k2,Rows.nil hl2,rfl,fun r hr=>by cases hr⟩ ?_ ?_⟩
  · rintro i σ H3 hi ⟨o6,o7,o8,rs,rfl,d3,k3,hR,hlen,hall⟩
    refine ⟨_,rfl,p,_,_,.int lo,rfl,rfl,SqT.of (k3 p _ pa hp),rfl,?_⟩
    refine ⟨_,rfl,_,rfl,p,_,_,.int n,rfl,rfl,SqT.of (k3 p _ pa hp),rfl,a,c,n,rfl,d3,by omega,by omega,fun x1 H4 a4 c4 d4 kb4=>⟨_,_,rfl,rfl,?_⟩⟩
    refine ⟨_,rfl,_,rfl,a,c,sc,rfl,d4,by omega,by omega,fun x2 H5 a5 c5 d5 kb5=>⟨_,_,rfl,rfl,?_⟩⟩
    have nla : l≠a:=d1.ne hl
    have R5:=(hR.keep nla d3 kb4).keep nla d4 kb5
    refine ⟨_,rfl,.inl ⟨rfl,?_⟩,?_⟩
    · obtain ⟨xs,e,_⟩:=R5.get
      exact ⟨_,SqL.of e⟩
    refine ⟨_,rfl,_,rfl,_,rfl,_,rfl,a,c,dear,rfl,d5,by omega,by omega,fun x3 H6 a6 c6 d6 kb6=>⟨_,_,rfl,rfl,by show 3≤sizeLine; decide,fun t ht=>?_⟩⟩
    have R6:=R5.keep nla d5 kb6
    obtain ⟨xs,ex,exl,_⟩:=R6.get
    refine ⟨l,xs,.ref t,rfl,rfl,by rw [upd_ne (ne_of_none ex ht)]; exact ex,small1000 (by omega),?_⟩
    have k6 : KeepBut a H H6:=((k3.trans kb4).trans kb5).trans kb6
    have dn:=(d6.new (o:=.tup [.int (lo + x1),.int (1 + x2),.int (1 + x3)]) ht).upd (o:=.lst (xs ++ [.ref t])) nla (d1.nc hl)
    refine ⟨_,_,_,rs ++ [[lo + x1,1 + x2,1 + x3]],rfl,dn,(k6.new ht).young fl,R6.push (r:=[lo + x1,1 + x2,1 + x3]) ex ht,by rw [List.length_append,hlen]; rfl,fun r hr=>?_⟩
    rcases List.mem_append.mp hr with z | z
    · exact hall r z
    · rw [List.mem_singleton.mp z]
      exact ⟨_,_,_,rfl,by omega,by omega,by omega,by omega,by omega,by omega⟩
  · rintro σ H3 ⟨o6,o7,o8,rs,rfl,d3,k3,hR,hlen,hall⟩
    exact ⟨_,rfl,q l rs H3 fl hall (by omega) d3 k3 hR⟩
theorem ok_some_outs (F : Fun K "_law_some_outs" "_law_some_outs" s_some_outs f fd) : FnOk P w K mg base CX0 2 f fd p_some_outs spOuts:=by
  refine F.ok sc_some_outs (fun vs H Q E h=>?_) (fun cdv A outer s H vs Q E hr h=>?_)
  · obtain ⟨a,c,p,m,lo,n,sc,rfl,_⟩:=h; rfl
  obtain ⟨a,c,p,m,lo,n,sc,rfl,d,m0,m1,hp,n0,n1,s0,s1,q⟩:=h
  refine ⟨_,(pss_cons (ps_set (i:=4) sc_some_outs.nd rfl (Or.inl rfl) (pe_lst pa_nil))
    (pss_cons (ps_for PassesOwn.never rfl (pi_range1 rfl B.range (pa_c (pe_cal G_pick hr rfl pass0 (pa_c (pv 0) (pa_c (pe_op op_add (pv 1) pe_int) pa_nil))) pa_nil)) (pg_name (i:=5) sc_some_outs.nd rfl (Or.inl rfl)) (pss_cons (ps_set (i:=6) sc_some_outs.nd rfl (Or.inl rfl) (pe_op op_add (pe_ix ix_tup (pv 2) pe_int (fun _ _=>rfl)) (pe_cal G_pick hr rfl pass0 (pa_c (pv 0) (pa_c (pe_ix ix_tup (pv 2) pe_int (fun _ _=>rfl)) pa_nil)))))
      (pss_one (ps_expr (pe_bm PySem.F.plainAttrs_list PySem.F.slot_list_append PySem.F.type_list_append mt_append (pv 4) (pa_c (pe_tup (pa_c (pv 6) (pa_c (pe_op op_add pe_int (pe_cal G_pick hr rfl pass0 (pa_c (pv 0) (pa_c (pv 3) pa_nil)))) pa_nil))) pa_nil))))))
    (pss_one (ps_ret (pv 4))))),?_⟩
  refine ⟨by show 0≤sizeLine; decide,fun l hl=>?_⟩
  have nla : l≠a:=d.ne hl
  have pa : p≠a:=d.neT hp
  refine ⟨_,rfl,_,rfl,_,_,rfl,rfl,a,c,m + 1,rfl,d.new hl,by omega,by omega,fun r2 H2 a2 c2 d2 kb2=>?_⟩
  have k2 : KeepBut a H H2:=(KeepBut.refl.new hl).trans kb2
  have hl2:=kb2 l _ nla upd_same
  refine ⟨r2,rfl,by omega,by omega,for_range (n:=r2.toNat) (fun i σ H3=>∃ o6 o7 rs,σ=[some (.ref a),some (.int m),some (.ref p),some (.int sc),some (.ref l),o6,o7]∧DrawAt H3 a c∧KeepBut a H H3∧Rows H3 l rs∧rs.length=i∧∀ r∈rs,OutIn lo n sc r) ⟨_,_,[],rfl,d2,k2,Rows.nil hl2,rfl,fun r hr=>by cases hr⟩ ?_ ?_⟩
  · rintro i σ H3 hi ⟨o6,o7,rs,rfl,d3,k3,hR,hlen,hall⟩
    refine ⟨_,rfl,p,_,_,.int lo,rfl,rfl,SqT.of (k3 p _ pa hp),rfl,?_⟩
    refine ⟨_,rfl,_,rfl,p,_,_,.int n,rfl,rfl,SqT.of (k3 p _ pa hp),rfl,a,c,n,rfl,d3,by omega,by omega,fun x1 H4 a4 c4 d4 kb4=>⟨_,_,rfl,rfl,?_⟩⟩
    have R5:=hR.keep nla d3 kb4
    refine ⟨_,rfl,.inl ⟨rfl,?_⟩,?_⟩
    · obtain ⟨xs,e,_⟩:=R5.get
      exact ⟨_,SqL.of e⟩
    refine ⟨_,rfl,_,rfl,_,rfl,a,c,sc,rfl,d4,by omega,by omega,fun x3 H6 a6 c6 d6 kb6=>⟨_,_,rfl,rfl,by show 2≤sizeLine; decide,fun t ht=>?_⟩⟩
    have R6:=R5.keep nla d4 kb6
    obtain ⟨xs,ex,exl,_⟩:=R6.get
    refine ⟨l,xs,.ref t,rfl,rfl,by rw [upd_ne (ne_of_none ex ht)]; exact ex,small1000 (by omega),?_⟩
    have k6 : KeepBut a H H6:=(k3.trans kb4).trans kb6
    have dn:=(d6.new (o:=.tup [.int (lo + x1),.int (1 + x3)]) ht).upd (o:=.lst (xs ++ [.ref t])) nla (d.nc hl)
    refine ⟨_,_,rs ++ [[lo + x1,1 + x3]],rfl,dn,(k6.new ht).young hl,R6.push (r:=[lo + x1,1 + x3]) ex ht,by rw [List.length_append,hlen]; rfl,fun r hr=>?_⟩
    rcases List.mem_append.mp hr with z | z
    · exact hall r z
    · rw [List.mem_singleton.mp z]
      exact ⟨_,_,rfl,by omega,by omega,by omega,by omega⟩
  · rintro σ H3 ⟨o6,o7,rs,rfl,d3,k3,hR,hlen,hall⟩
    exact ⟨_,rfl,q l rs H3 hl hall (by omega) d3 k3 hR⟩
end
end K07
namespace L2
open PySem PySem.W PyProof.Rows
def okW {α : Type} (n : Nat) (lt : Nat→Nat→Bool) (Q : α→Prop) : KasT α→Prop
  | .ret a=>Q a
  | .ask i j k=>i < n∧j < n∧okW n lt Q (k (lt i j))
theorem okW_mono {α : Type} {n : Nat} {lt : Nat→Nat→Bool} {Q Q' : α→Prop} (h : ∀ a,Q a→Q' a) : ∀ {t : KasT α},okW n lt Q t→okW n lt Q' t
  | .ret a,q=>h a q
  | .ask _ _ _,⟨a,b,q⟩=>⟨a,b,okW_mono h q⟩
theorem okW_bind {α β : Type} {n : Nat} {lt : Nat→Nat→Bool} {Q : β→Prop} {f : α→KasT β} : ∀ {t : KasT α},okW n lt (fun a=>okW n lt Q (f a)) t→okW n lt Q (t.bind f)
  | .ret a,q=>q
  | .ask _ _ _,⟨a,b,q⟩=>⟨a,b,okW_bind q⟩
theorem okW_wp {α : Type} {n : Nat} {lt : Nat→Nat→Bool} {cmp : Nat→Nat→(Bool→Shared→Prop)→Shared→Prop} {s : Shared} (hc : ∀ i j C,i < n→j < n→C (lt i j) s→cmp i j C s) {Q : α→Shared→Prop} : ∀ {t : KasT α},okW n lt (fun a=>Q a s) t→t.kasWp cmp Q s
  | .ret _,q=>q
  | .ask i j _,⟨a,b,q⟩=>hc i j _ a b (okW_wp hc q)
structure Ordr (lt : Nat→Nat→Bool) : Prop where
  irr : ∀ i,lt i i=false
  tr : ∀ i j k,lt j i=false→lt k j=false→lt k i=false
  asy : ∀ i j,lt i j=true→lt j i=false
section
variable {n : Nat} {lt : Nat→Nat→Bool}
abbrev gA (p : Array Nat) (i : Nat) : Nat:=p.getD i 0
abbrev leA (lt : Nat→Nat→Bool) (i j : Nat) : Prop:=lt j i=false
def PermN (n : Nat) (p : Array Nat) : Prop:=p.toList.Perm (List.range n)
def Up (lt : Nat→Nat→Bool) (p : Array Nat) (m : Nat) : Prop:=∀ i j,i≤j→j < m→leA lt (gA p i) (gA p j)
def Down (lt : Nat→Nat→Bool) (p : Array Nat) (m : Nat) : Prop:=∀ i j,i≤j→j < m→leA lt (gA p j) (gA p i)
theorem gA_eq (p : Array Nat) (i : Nat) : gA p i=(p[i]?).getD 0:=by simp [gA]
theorem PermN.size {p : Array Nat} (h : PermN n p) : p.size=n:=by
  have:=List.Perm.length_eq h
  simpa using this
theorem PermN.below {p : Array Nat} (h : PermN n p) (h0 : 0 < n) (i : Nat) : gA p i < n:=by
  rw [gA_eq]
  cases e : p[i]? with
  | none=>exact h0
  | some v=>
    have hm : v∈p.toList:=by
      obtain ⟨hi,rfl⟩:=Array.getElem?_eq_some_iff.mp e
      simp
    exact List.mem_range.mp ((List.Perm.mem_iff h).mp hm)
theorem PermN.rev {p : Array Nat} (h : PermN n p) (i j : Nat) : PermN n (kas_rev p i j):=((mirror_perm p i j _).toList).trans h
theorem PermN.bub {p : Array Nat} (h : PermN n p) (k d : Nat) : PermN n (bubble p k d):=((bubble_perm p k d).toList).trans h
theorem gA_rev {p : Array Nat} {i j : Nat} (hj : j≤p.size) (k : Nat) : gA (kas_rev p i j) k=if i≤k∧k < j then gA p (i + j - 1 - k) else gA p k:=by
  rw [gA_eq,gA_eq,gA_eq]
  unfold kas_rev
  rw [getElem?_mirror_all hj]
  split <;> rfl
theorem gA_bub {p : Array Nat} {src d : Nat} (hs : src < p.size) (hd : d≤src) (k : Nat) : gA (bubble p src d) k=if k=src - d then gA p src else if src - d < k∧k≤src then gA p (k - 1) else gA p k:=by
  rw [gA_eq,gA_eq,gA_eq,gA_eq,getElem?_bubble hs d hd]
  split
  · rfl
  · split <;> rfl
variable (O : Ordr lt)
include O
theorem up_succ {p : Array Nat} {m : Nat} (h : Up lt p m) (h1 : 1≤m) (c : leA lt (gA p (m - 1)) (gA p m)) : Up lt p (m + 1):=by
  intro i j hij hj
  by_cases e : j < m
  · exact h i j hij e
  · have : j=m:=by omega
    subst this
    by_cases e2 : i=j
    · subst e2; exact O.irr _
    · exact O.tr _ _ _ (h i (j - 1) (by omega) (by omega)) c
theorem down_succ {p : Array Nat} {m : Nat} (h : Down lt p m) (h1 : 1≤m) (c : leA lt (gA p m) (gA p (m - 1))) : Down lt p (m + 1):=by
  intro i j hij hj
  by_cases e : j < m
  · exact h i j hij e
  · have : j=m:=by omega
    subst this
    by_cases e2 : i=j
    · subst e2; exact O.irr _
    · exact O.tr _ _ _ c (h i (j - 1) (by omega) (by omega))
theorem ok_asc {p : Array Nat} (hp : PermN n p) (h0 : 0 < n) : ∀ (f m : Nat),1≤m→m + f≤n→Up lt p m→
    okW n lt (fun r=>m≤r∧r≤m + f∧Up lt p r∧(r=m + f∨lt (gA p r) (gA p (r - 1))=true)) (kas_asc p f m)
  | 0,m,h1,hf,hu=>⟨Nat.le_refl _,Nat.le_refl _,hu,.inl rfl⟩
  | f + 1,m,h1,hf,hu=>by
    refine ⟨hp.below h0 m,hp.below h0 (m - 1),?_⟩
    by_cases c : lt (gA p m) (gA p (m - 1))=true
    · show okW n lt _ (if lt (gA p m) (gA p (m - 1))=true then KasT.ret m else kas_asc p f (m + 1))
      rw [if_pos c]
      exact ⟨Nat.le_refl _,by omega,hu,.inr c⟩
    · show okW n lt _ (if lt (gA p m) (gA p (m - 1))=true then KasT.ret m else kas_asc p f (m + 1))
      rw [if_neg c]
      have c' : lt (gA p m) (gA p (m - 1))=false:=by simpa using c
      refine okW_mono (fun r ⟨a,b,u,d⟩=>⟨by omega,by omega,u,?_⟩) (ok_asc hp h0 f (m + 1) (by omega) (by omega) (up_succ O hu h1 c'))
      rcases d with d | d
      · exact .inl (by omega)
      · exact .inr d
def Alike (lt : Nat→Nat→Bool) (p : Array Nat) (m q : Nat) : Prop:=∀ i,m - (q + 1)≤i→i < m→leA lt (gA p i) (gA p (m - 1))∧leA lt (gA p (m - 1)) (gA p i)
theorem rev_alike {p : Array Nat} {m q : Nat} (hs : m≤p.size) (hq : q + 1≤m) (h : Alike lt p m q) (k : Nat) : leA lt (gA (kas_rev p (m - (q + 1)) m) k) (gA p k)∧leA lt (gA p k) (gA (kas_rev p (m - (q + 1)) m) k):=by
  rw [gA_rev hs]
  by_cases c : m - (q + 1)≤k∧k < m
  · rw [if_pos c]
    have a:=h (m - (q + 1) + m - 1 - k) (by omega) (by omega)
    have b:=h k c.1 c.2
    exact ⟨O.tr _ _ _ a.1 b.2,O.tr _ _ _ b.1 a.2⟩
  · rw [if_neg c]
    exact ⟨O.irr _,O.irr _⟩
theorem down_rev {p : Array Nat} {m q : Nat} (hs : m≤p.size) (hq : q + 1≤m) (h : Alike lt p m q) (d : Down lt p m) : Down lt (kas_rev p (m - (q + 1)) m) m:=fun i j hij hj=>
  O.tr _ _ _ (rev_alike O hs hq h j).1 (O.tr _ _ _ (d i j hij hj) (rev_alike O hs hq h i).2)
theorem ok_desc (h0 : 0 < n) : ∀ (f : Nat) (p : Array Nat) (m q : Nat),PermN n p→1≤m→m + f≤n→q + 1≤m→Down lt p m→Alike lt p m q→
    okW n lt (fun r=>PermN n r.1∧1≤r.2.1∧r.2.1≤n∧m≤r.2.1∧r.2.1≤m + f∧r.2.2 + 1≤r.2.1∧Down lt r.1 r.2.1∧Alike lt r.1 r.2.1 r.2.2) (kas_desc f p m q)
  | 0,p,m,q,hp,h1,hf,hq,d,al=>⟨hp,h1,by show m≤n; omega,Nat.le_refl _,Nat.le_refl _,hq,d,al⟩
  | f + 1,p,m,q,hp,h1,hf,hq,d,al=>by
    have hs : m≤p.size:=by rw [hp.size]; omega
    have one : ∀ p' : Array Nat,Alike lt p' (m + 1) 0:=fun p' i a b=>by
      have : i=m:=by omega
      subst this
      exact ⟨O.irr _,O.irr _⟩
    refine ⟨hp.below h0 m,hp.below h0 (m - 1),?_⟩
    show okW n lt _ (if lt (gA p m) (gA p (m - 1))=true then (if q > 0 then kas_desc f (kas_rev p (m - (q + 1)) m) (m + 1) 0 else kas_desc f p (m + 1) 0) else KasT.ask (p.getD (m - 1) 0) (p.getD m 0) fun d=>if d=true then KasT.ret (p,m,q) else kas_desc f p (m + 1) (q + 1))
    by_cases c : lt (gA p m) (gA p (m - 1))=true
    · rw [if_pos c]
      by_cases cq : q > 0
      · rw [if_pos cq]
        have d1:=down_rev O hs hq al d
        have e : leA lt (gA (kas_rev p (m - (q + 1)) m) m) (gA (kas_rev p (m - (q + 1)) m) (m - 1)):=by
          have a1:=(rev_alike O hs hq al m).1
          have a2:=(rev_alike O hs hq al (m - 1)).2
          exact O.tr _ _ _ a1 (O.tr _ _ _ (O.asy _ _ c) a2)
        refine okW_mono (fun r ⟨a,b,c,x,y,z⟩=>⟨a,b,c,by omega,by omega,z⟩) (ok_desc h0 f _ (m + 1) 0 (hp.rev _ _) (by omega) (by omega) (by omega) (down_succ O d1 h1 e) (one _))
      · rw [if_neg cq]
        refine okW_mono (fun r ⟨a,b,c,x,y,z⟩=>⟨a,b,c,by omega,by omega,z⟩) (ok_desc h0 f p (m + 1) 0 hp (by omega) (by omega) (by omega) (down_succ O d h1 (O.asy _ _ c)) (one _))
    · rw [if_neg c]
      have c' : lt (gA p m) (gA p (m - 1))=false:=by simpa using c
      refine ⟨hp.below h0 (m - 1),hp.below h0 m,?_⟩
      by_cases c2 : lt (gA p (m - 1)) (gA p m)=true
      · show okW n lt _ (if lt (gA p (m - 1)) (gA p m)=true then KasT.ret (p,m,q) else kas_desc f p (m + 1) (q + 1))
        rw [if_pos c2]
        exact ⟨hp,h1,by show m≤n; omega,Nat.le_refl _,by show m≤m + (f + 1); omega,hq,d,al⟩
      · show okW n lt _ (if lt (gA p (m - 1)) (gA p m)=true then KasT.ret (p,m,q) else kas_desc f p (m + 1) (q + 1))
        rw [if_neg c2]
        have c2' : lt (gA p (m - 1)) (gA p m)=false:=by simpa using c2
        refine okW_mono (fun r ⟨a,b,c,x,y,z⟩=>⟨a,b,c,by omega,by omega,z⟩) (ok_desc h0 f p (m + 1) (q + 1) hp (by omega) (by omega) (by omega) (down_succ O d h1 c2') ?_)
        intro i a b
        by_cases e : i=m
        · subst e; exact ⟨O.irr _,O.irr _⟩
        · have:=al i (by omega) (by omega)
          exact ⟨O.tr _ _ _ this.1 c',O.tr _ _ _ c2' this.2⟩
theorem up_rev {p : Array Nat} {m : Nat} (hs : m≤p.size) (d : Down lt p m) : Up lt (kas_rev p 0 m) m:=by
  intro i j hij hj
  rw [gA_rev hs,gA_rev hs,if_pos ⟨Nat.zero_le _,by omega⟩,if_pos ⟨Nat.zero_le _,hj⟩]
  exact d _ _ (by omega) (by omega)
abbrev RunOk (n : Nat) (lt : Nat→Nat→Bool) (N : Nat) (r : Nat×Array Nat) : Prop:=PermN n r.2∧1≤r.1∧r.1≤N∧Up lt r.2 r.1
theorem ok_tail3 (h0 : 0 < n) {p : Array Nat} {m : Nat} (hp : PermN n p) (h1 : 1≤m) (hm : m≤n) (d : Down lt p m) : okW n lt (RunOk n lt n) (kas_tail3 m n p):=by
  unfold kas_tail3
  have hs : m≤p.size:=by rw [hp.size]; omega
  refine okW_bind (okW_mono (fun r ⟨a,b,u,_⟩=>?_) (ok_asc O (hp.rev 0 m) h0 (n - m) m h1 (by omega) (up_rev O hs d)))
  exact ⟨hp.rev 0 m,by show 1≤r; omega,by show r≤n; omega,u⟩
theorem ok_descPart (h0 : 0 < n) {p : Array Nat} {m : Nat} (hp : PermN n p) (hm : m + 1≤n) (d : Down lt p (m + 1)) : okW n lt (RunOk n lt n) (kas_descPart m n p):=by
  unfold kas_descPart
  refine okW_bind (okW_mono (fun r ⟨a,b,c,x,y,z,dd,al⟩=>?_) (ok_desc O h0 (n - (m + 1)) p (m + 1) 0 hp (by omega) (by omega) (by omega) d ?_))
  · intro i a b
    have : i=m:=by omega
    subst this
    exact ⟨O.irr _,O.irr _⟩
  · by_cases cq : r.2.2 > 0
    · rw [if_pos cq]
      exact ok_tail3 O h0 (a.rev _ _) b c (down_rev O (by rw [a.size]; exact c) z al dd)
    · rw [if_neg cq]
      exact ok_tail3 O h0 a b c dd
theorem ok_count (h2 : 2≤n) {p : Array Nat} (hp : PermN n p) : okW n lt (RunOk n lt n) (kas_count n p):=by
  unfold kas_count
  have h0 : 0 < n:=by omega
  refine okW_bind (okW_mono (fun r ⟨a,b,u,e⟩=>?_) (ok_asc O hp h0 (n - 1) 1 (by omega) (by omega) ?_))
  · intro i j hij hj
    have : i=j:=by omega
    subst this
    exact O.irr _
  · by_cases c1 : (r == n)=true
    · rw [if_pos c1]
      have : r=n:=by simpa using c1
      exact ⟨hp,a,by show r≤n; omega,u⟩
    · rw [if_neg c1]
      have rn : r≠n:=by simpa using c1
      have lst : lt (gA p r) (gA p (r - 1))=true:=by
        rcases e with e | e
        · exact absurd (by omega) rn
        · exact e
      have hs : r≤p.size:=by rw [hp.size]; omega
      by_cases c2 : r > 1
      · rw [if_pos c2]
        refine ⟨hp.below h0 0,hp.below h0 (r - 1),?_⟩
        by_cases c3 : lt (gA p 0) (gA p (r - 1))=true
        · show okW n lt _ (if lt (gA p 0) (gA p (r - 1))=true then KasT.ret (r,p) else kas_descPart r n (kas_rev p 0 r))
          rw [if_pos c3]
          exact ⟨hp,a,by show r≤n; omega,u⟩
        · show okW n lt _ (if lt (gA p 0) (gA p (r - 1))=true then KasT.ret (r,p) else kas_descPart r n (kas_rev p 0 r))
          rw [if_neg c3]
          have c3' : lt (gA p 0) (gA p (r - 1))=false:=by simpa using c3
          refine ok_descPart O h0 (hp.rev 0 r) (by omega) (down_succ O ?_ a ?_)
          · intro i j hij hj
            rw [gA_rev hs,gA_rev hs,if_pos ⟨Nat.zero_le _,hj⟩,if_pos ⟨Nat.zero_le _,by omega⟩]
            exact u _ _ (by omega) (by omega)
          · rw [gA_rev hs,gA_rev hs,if_neg (by omega),if_pos ⟨Nat.zero_le _,by omega⟩]
            have e0 : 0 + r - 1 - (r - 1)=0:=by omega
            rw [e0]
            exact O.tr _ _ _ (O.asy _ _ lst) c3'
      · rw [if_neg c2]
        have r1 : r=1:=by omega
        subst r1
        refine ok_descPart O h0 hp (by omega) (down_succ O ?_ (Nat.le_refl _) (O.asy _ _ lst))
        intro i j hij hj
        have : i=j:=by omega
        subst this
        exact O.irr _
theorem ok_place (h0 : 0 < n) {p : Array Nat} {k : Nat} (hp : PermN n p) (u : Up lt p k) : ∀ (f l r : Nat),l≤r→r≤k→r - l≤f→(∀ i,i < l→leA lt (gA p i) (gA p k))→(∀ i,r≤i→i < k→leA lt (gA p k) (gA p i))→
    okW n lt (fun x=>x≤k∧(∀ i,i < x→leA lt (gA p i) (gA p k))∧∀ i,x≤i→i < k→leA lt (gA p k) (gA p i)) (kas_place p k f l r)
  | 0,l,r,h1,h2,hf,a,b=>⟨by omega,a,fun i x y=>b i (by omega) y⟩
  | f + 1,l,r,h1,h2,hf,a,b=>by
    show okW n lt _ (if l ≥ r then KasT.ret l else _)
    by_cases c : l ≥ r
    · rw [if_pos c]
      exact ⟨by omega,a,fun i x y=>b i (by omega) y⟩
    · rw [if_neg c]
      refine ⟨hp.below h0 k,hp.below h0 _,?_⟩
      show okW n lt _ (if lt (gA p k) (gA p ((l + r) / 2))=true then kas_place p k f l ((l + r) / 2) else kas_place p k f ((l + r) / 2 + 1) r)
      by_cases d : lt (gA p k) (gA p ((l + r) / 2))=true
      · rw [if_pos d]
        refine ok_place h0 hp u f l _ (by omega) (by omega) (by omega) a fun i x y=>?_
        exact O.tr _ _ _ (O.asy _ _ d) (u _ i x y)
      · rw [if_neg d]
        have d' : lt (gA p k) (gA p ((l + r) / 2))=false:=by simpa using d
        refine ok_place h0 hp u f _ r (by omega) h2 (by omega) (fun i x=>?_) b
        exact O.tr _ _ _ (u i ((l + r) / 2) (by omega) (by omega)) d'
theorem ok_bin (h0 : 0 < n) : ∀ (f : Nat) (p : Array Nat) (k : Nat),PermN n p→f + k=n→Up lt p k→okW n lt (fun r=>PermN n r∧Up lt r n) (kas_bin f p k)
  | 0, p, k, hp, hk, u => ⟨hp, by have : k = n := by omega
                                  subst this; exact u⟩
  | f + 1,p,k,hp,hk,u=>by
    show okW n lt _ ((kas_place p k k 0 k).bind fun l=>kas_bin f (bubble p k (k - l)) (k + 1))
    refine okW_bind (okW_mono (fun l ⟨hl,a,b⟩=>?_) (ok_place O h0 hp u k 0 k (Nat.zero_le _) (Nat.le_refl _) (by omega) (fun i x=>by omega) fun i x y=>by omega))
    refine ok_bin h0 f _ (k + 1) (hp.bub _ _) (by omega) ?_
    have hs : k < p.size:=by rw [hp.size]; omega
    have g:=gA_bub (p:=p) (src:=k) (d:=k - l) hs (by omega)
    have e : k - (k - l)=l:=by omega
    rw [e] at g
    intro i j hij hj
    rw [g i,g j]
    by_cases ci : i=l
    · rw [if_pos ci]
      by_cases cj : j=l
      · rw [if_pos cj]; exact O.irr _
      · rw [if_neg cj,if_pos ⟨by omega,by omega⟩]
        exact b _ (by omega) (by omega)
    · rw [if_neg ci]
      by_cases cj : j=l
      · rw [if_pos cj,if_neg (by omega)]
        exact a i (by omega)
      · rw [if_neg cj]
        by_cases di : l < i∧i≤k
        · rw [if_pos di,if_pos ⟨by omega,by omega⟩]
          exact u _ _ (by omega) (by omega)
        · rw [if_neg di]
          by_cases dj : l < j∧j≤k
          · rw [if_pos dj]
            exact u _ _ (by omega) (by omega)
          · rw [if_neg dj]
            exact u _ _ hij (by omega)
theorem ok_sort (h2 : 2≤n) : okW n lt (fun p=>PermN n p∧Up lt p n) (kas_sort n):=by
  unfold kas_sort
  have h0 : 0 < n:=by omega
  refine okW_bind (okW_mono (fun r ⟨a,b,c,u⟩=>?_) (ok_count O h2 (p:=List.toArray (List.range n)) (by unfold PermN; simp)))
  have e : max r.1 1=r.1:=by omega
  rw [e]
  by_cases d : r.1 < n
  · rw [if_pos d]
    exact ok_bin O h0 (n - r.1) r.2 r.1 a (by omega) u
  · rw [if_neg d]
    have : r.1=n:=by omega
    rw [this] at u
    exact ⟨a,u⟩
end
end L2
namespace L2
open PySem PySem.Spec PyProof.Rows
section
variable {X : Cx} {a b e : Expr} {es : List Expr} {pos : Pos}
end
end L2
namespace L2
open PySem PySem.Spec PyProof.Rows
theorem pe_glI {X : Cx} {x : Str} {v : Int} {pos : Pos} (hg : Gl X x) (hm : ∃ t,X.mg x=some (.int v t)) (hd : (x == ("__debug__" : Str))=false:=by decide) : PE X (.Name x pos) (tC (.int v)):=by
  obtain ⟨t,h⟩:=hm
  exact pe_glob hg h ⟨_,rfl⟩ hd
abbrev inB (v hi : Int) : Prop:=1≤v∧v≤hi
def rowBad : List Int→Option Nat
  | [d,c]=>if inB d 999 then if inB c 10000000000 then none else some 1 else some 0
  | [d,c,u]=>if inB d 999 then if inB c 10000000000 then if inB u 1000000 then none else some 2 else some 1 else some 0
  | _=>none
def rowsBad (rs : List (List Int)) : Option Nat:=rs.findSome? rowBad
theorem rowsBad_take {rs : List (List Int)} {i : Nat} {r : List Int} (h : rowsBad (rs.take i)=none) (e : rs[i]? = some r) (b : rowBad r=none) : rowsBad (rs.take (i + 1))=none:=by
  obtain ⟨hi,e'⟩:=List.getElem?_eq_some_iff.mp e
  unfold rowsBad at *
  rw [List.take_succ_eq_append_getElem hi,List.findSome?_append,h,e']
  simp [b]
theorem rowsBad_hit {rs : List (List Int)} {i j : Nat} {r : List Int} (h : rowsBad (rs.take i)=none) (e : rs[i]? = some r) (b : rowBad r=some j) : rowsBad rs=some j:=by
  obtain ⟨hi,e'⟩:=List.getElem?_eq_some_iff.mp e
  unfold rowsBad at *
  have : rs=rs.take i ++ r :: rs.drop (i + 1):=by rw [← e',← List.drop_eq_getElem_cons hi,List.take_append_drop]
  rw [this,List.findSome?_append,h]
  simp [b]
theorem take_next {rs : List (List Int)} {i : Nat} {r : List Int} (e : rs[i]? = some r) : rs.take i ++ [r]=rs.take (i + 1):=by
  obtain ⟨hi,e'⟩:=List.getElem?_eq_some_iff.mp e
  rw [List.take_succ_eq_append_getElem hi,e']
def spIn (c : Addr) (hi : Int) : Sp:=fun vs H Q E=>∃ v : Int,vs=[.int v]∧(inB v hi→Q .non H)∧(¬ inB v hi→E (.ref c) none H)
def spIsDay : Sp:=fun vs H Q _=>∃ d : Int,vs=[.int d]∧Q (.bl (decide (inB d 999))) H
def spMany (cR : Addr) : Sp:=fun vs H Q E=>∃ a xs,vs=[.ref a]∧H a=some (.lst xs)∧(xs.length≤30→Q .non H)∧(30 < xs.length→E (.ref cR) none H)
def spChk (cR : Addr) (cls : Nat→Addr) (w : Nat) : Sp:=fun vs H Q E=>∃ a rs,vs=[.ref a]∧Rows H a rs∧(∀ r∈rs,r.length=w)∧(30 < rs.length→E (.ref cR) none H)∧
  (rs.length≤30→∀ j,rowsBad rs=some j→∀ H',Same H H'→E (.ref (cls j)) none H')∧(rs.length≤30→rowsBad rs=none→∀ l H',H l=none→Same H H'→Rows H' l rs→Q (.ref l) H')
theorem len2 {r : List Int} (h : r.length=2) : ∃ d c,r=[d,c]:=match r,h with | [d,c],_=>⟨d,c,rfl⟩
theorem len3 {r : List Int} (h : r.length=3) : ∃ d c u,r=[d,c,u]:=match r,h with | [d,c,u],_=>⟨d,c,u,rfl⟩
theorem chain_in {v hi : Int} {R : Bool→Prop} (h : R (decide (inB v hi))) : ∃ i j : Int,V.int 1 = .int i∧V.int v = .int j∧∃ b,V.bl (decide (i≤j)) = .bl b∧if b=true then ∃ i' j' : Int,V.int v = .int i'∧V.int hi = .int j'∧∃ b',V.bl (decide (i'≤j')) = .bl b'∧R b' else ∃ b',V.bl false = .bl b'∧R b':=by
  refine ⟨_,_,rfl,rfl,_,rfl,?_⟩
  refine ite2 (fun c=>?_) (fun c=>?_)
  · have c1 : (1 : Int)≤v:=of_decide_eq_true c
    refine ⟨_,_,rfl,rfl,_,rfl,?_⟩
    have e : decide (v≤hi)=decide (inB v hi):=by by_cases z : v≤hi <;> simp [z,c1,inB]
    rw [e]; exact h
  · have c1 : ¬ (1 : Int)≤v:=of_decide_eq_false (Bool.eq_false_iff.mpr c)
    have e : false=decide (inB v hi):=by simp [inB,c1]
    exact ⟨_,rfl,by rw [e]; exact h⟩
end L2
namespace L2
open PySem PySem.Spec PyProof.Rows
theorem cut_to (r : List Int) {k : Int} (h0 : 0≤k) (h1 : k < r.length) : cutV (r.map V.int) none (some k)=(r.take k.toNat).map V.int∧¬ (HT.sIx (r.map V.int).length 0 none=0∧HT.sIx (r.map V.int).length (r.map V.int).length (some k)=(r.map V.int).length):=by
  have e : HT.sIx (r.map V.int).length (r.map V.int).length (some k)=k.toNat:=by
    show (if k < 0 then (k + ((r.map V.int).length : Int)).toNat else min k.toNat (r.map V.int).length)=k.toNat
    rw [if_neg (by omega),List.length_map]
    omega
  refine ⟨?_,fun z=>by rw [e,List.length_map] at z; omega⟩
  unfold cutV
  rw [e]
  show ((r.map V.int).drop 0).take (k.toNat - 0)=_
  rw [List.drop_zero,Nat.sub_zero,← List.map_take]
theorem cut_from (r : List Int) {k : Int} (h0 : 1≤k) (h1 : k≤r.length) : cutV (r.map V.int) (some k) none=(r.drop k.toNat).map V.int∧¬ (HT.sIx (r.map V.int).length 0 (some k)=0∧HT.sIx (r.map V.int).length (r.map V.int).length none=(r.map V.int).length):=by
  have e : HT.sIx (r.map V.int).length 0 (some k)=k.toNat:=by
    show (if k < 0 then (k + ((r.map V.int).length : Int)).toNat else min k.toNat (r.map V.int).length)=k.toNat
    rw [if_neg (by omega),List.length_map]
    omega
  refine ⟨?_,fun z=>by rw [e] at z; omega⟩
  unfold cutV
  rw [e]
  show ((r.map V.int).drop k.toNat).take ((r.map V.int).length - k.toNat)=_
  rw [← List.map_drop,List.take_of_length_le (by rw [List.length_map,List.length_map,List.length_drop]; omega)]
end L2
namespace L2
open PySem PySem.Spec PySem.W PyProof.Rows
theorem ints_of : ∀ {ns : List Int} {us : List Value},Vals (ns.map V.int) us→IntsAre us ns
  | [],_,.nil=>.nil
  | n :: r,_,.cons x t=>by
    obtain ⟨k,rfl⟩:=x
    exact .cons n k (ints_of t)
theorem ints_to : ∀ {ns : List Int} {us : List Value},IntsAre us ns→Vals (ns.map V.int) us
  | _,_,.nil=>.nil
  | _,_,.cons n t r=>.cons ⟨t,rfl⟩ (ints_to r)
def lexB : List Int→List Int→Bool
  | a :: as,b :: bs=>if a=b then lexB as bs else decide (a < b)
  | [],_ :: _=>true
  | _,[]=>false
theorem lex_irr : ∀ a : List Int,lexB a a=false
  | []=>rfl
  | a :: as=>by show (if a=a then lexB as as else _)=false; rw [if_pos rfl]; exact lex_irr as
theorem lex_asy : ∀ {a b : List Int},lexB a b=true→lexB b a=false
  | [],[],h=>by cases h
  | [],b :: bs,_=>rfl
  | a :: as,[],h=>by cases h
  | a :: as,b :: bs,h=>by
    show (if b=a then lexB bs as else decide (b < a))=false
    have h' : (if a=b then lexB as bs else decide (a < b))=true:=h
    by_cases e : a=b
    · rw [if_pos e] at h'
      rw [if_pos e.symm]
      exact lex_asy h'
    · rw [if_neg e] at h'
      rw [if_neg (Ne.symm e)]
      have:=of_decide_eq_true h'
      exact decide_eq_false (by omega)
theorem lex_tr : ∀ {a b c : List Int},lexB b a=false→lexB c b=false→lexB c a=false
  | [],[],[],_,_=>rfl
  | [],[],_ :: _,_,_=>rfl
  | [],_ :: _,[],_,h=>by cases h
  | [],_ :: _,_ :: _,_,_=>rfl
  | _ :: _,[],_,h,_=>by cases h
  | _ :: _,_ :: _,[],_,h=>by cases h
  | a :: as,b :: bs,c :: cs,h,g=>by
    have h' : (if b=a then lexB bs as else decide (b < a))=false:=h
    have g' : (if c=b then lexB cs bs else decide (c < b))=false:=g
    show (if c=a then lexB cs as else decide (c < a))=false
    by_cases e1 : b=a
    · rw [if_pos e1] at h'
      subst e1
      by_cases e2 : c=b
      · rw [if_pos e2] at g'
        rw [if_pos e2]
        exact lex_tr h' g'
      · rw [if_neg e2] at g' ⊢
        exact g'
    · rw [if_neg e1] at h'
      have h1:=of_decide_eq_false h'
      by_cases e2 : c=b
      · subst e2
        rw [if_neg e1]
        exact h'
      · rw [if_neg e2] at g'
        have g1:=of_decide_eq_false g'
        rw [if_neg (by omega)]
        exact decide_eq_false (by omega)
def ltOf (rs : List (List Int)) (i j : Nat) : Bool:=lexB (rs.getD i []) (rs.getD j [])
theorem ordr_of (rs : List (List Int)) : Ordr (ltOf rs):=⟨fun _=>lex_irr _,fun _ _ _ a b=>lex_tr a b,fun _ _ a=>lex_asy a⟩
section
variable {prog : Program} {w : World} {A : Around} {E : Value→Shared→Prop} {s : Shared}
theorem katLex_ints {Q : Bool→Shared→Prop} : ∀ {xs ys : List Value} {as bs : List Int} (i : Nat),IntsAre xs as→IntsAre ys bs→as.length=bs.length→Q (lexB as bs) s→KatLex prog w A true false Q (xs.zip ys) i s
  | _,_,_,_,i,.nil,.nil,_,q=>q
  | _,_,_,_,i,.cons n t r,.cons m u r',hl,q=>by
    show KatLex prog w A true false Q ((Value.int n t,Value.int m u) :: _) i s
    refine kat_cons (wpAny_eqBool_int ?_)
    by_cases e : n=m
    · rw [show (n == m)=true by simpa using e]
      refine kat_yes (katLex_ints (i + 1) r r' (by simpa using hl) ?_)
      have q' : Q (if n=m then lexB _ _ else _) s:=q
      rw [if_pos e] at q'
      exact q'
    · rw [show (n == m)=false by simpa using e]
      refine kat_no ?_
      have q' : Q (if n=m then lexB _ _ else decide (n < m)) s:=q
      rw [if_neg e] at q'
      by_cases c : (true && i == 0)=true
      · rw [c]; exact oneLt_int q'
      · rw [Bool.eq_false_iff.mpr c]
        exact kat_one _ _ (lt_int q')
  | _,_,_,_,i,.nil,.cons _ _ _,hl,q=>by simp at hl
  | _,_,_,_,i,.cons _ _ _,.nil,hl,q=>by simp at hl
def TupsAt (h : Heap) (bs : List Addr) (rs : List (List Int)) : Prop:=bs.length=rs.length∧∀ (i : Nat) b r,bs[i]? = some b→rs[i]? = some r→∃ its : List Value,IsTup h b its.toArray∧IntsAre its r
theorem TupsAt.tail {h : Heap} {b : Addr} {bs : List Addr} {r : List Int} {rs : List (List Int)} (t : TupsAt h (b :: bs) (r :: rs)) : TupsAt h bs rs:=⟨by simpa using t.1,fun i c q e1 e2=>t.2 (i + 1) c q (by simpa using e1) (by simpa using e2)⟩
theorem TupsAt.kat {h : Heap} : ∀ {bs : List Addr} {rs : List (List Int)},TupsAt h bs rs→(∀ r∈rs,r≠[])→∃ fs : List Value,fs.length=bs.length∧KatTups h (bs.map Value.ref) fs∧∀ v∈fs,∃ n t,v = .int n t
  | [],[],_,_=>⟨[],rfl,trivial,fun v hv=>by cases hv⟩
  | [],_ :: _,t,_=>by have:=t.1; simp at this
  | _ :: _,[],t,_=>by have:=t.1; simp at this
  | b :: bs,r :: rs,t,hn=>by
    obtain ⟨fs,h1,h2,h3⟩:=t.tail.kat fun q hq=>hn q (.tail _ hq)
    obtain ⟨its,⟨o,ho,hc,n,hd⟩,ia⟩:=t.2 0 b r rfl rfl
    cases ia with
    | nil=>exact absurd rfl (hn [] (.head _))
    | cons m k ia=>
      refine ⟨.int m k :: fs,by simp [h1],⟨⟨b,o,_,n,rfl,ho,hc,hd,rfl⟩,h2⟩,fun v hv=>?_⟩
      rcases List.mem_cons.mp hv with rfl | hv
      · exact ⟨m,k,rfl⟩
      · exact h3 v hv
theorem TupsAt.ask {bs : List Addr} {rs : List (List Int)} {wd : Nat} (t : TupsAt s.heap bs rs) (hw : ∀ r∈rs,r.length=wd) (i j : Nat) (C : Bool→Shared→Prop) (hi : i < bs.length) (hj : j < bs.length) (q : C (ltOf rs i j) s) : kas_ask prog w A (tuples' true) (bs.map Value.ref) i j C s:=by
  have hi' : i < rs.length:=by rw [← t.1]; exact hi
  have hj' : j < rs.length:=by rw [← t.1]; exact hj
  obtain ⟨xs,⟨o,ho,_,n,hd⟩,ia⟩:=t.2 i bs[i] rs[i] (by simp [hi]) (by simp [hi'])
  obtain ⟨ys,⟨o',ho',_,n',hd'⟩,ib⟩:=t.2 j bs[j] rs[j] (by simp [hj]) (by simp [hj'])
  unfold kas_ask
  rw [show (bs.map Value.ref).getD i Value.none = .ref bs[i] by simp [hi],show (bs.map Value.ref).getD j Value.none = .ref bs[j] by simp [hj]]
  have la : xs.length=wd:=by rw [IntsAre.length ia]; exact hw _ (List.getElem_mem hi')
  have lb : ys.length=wd:=by rw [IntsAre.length ib]; exact hw _ (List.getElem_mem hj')
  refine kat_lt ho hd ho' hd' ?_
  rw [show decide (xs.toArray.size < ys.toArray.size)=false by simp [la,lb]]
  have q' : C (lexB rs[i] rs[j]) s:=by
    unfold ltOf at q
    rw [show rs.getD i []=rs[i] by simp [hi'],show rs.getD j []=rs[j] by simp [hj']] at q
    exact q
  exact katLex_ints 0 ia ib (by rw [hw _ (List.getElem_mem hi'),hw _ (List.getElem_mem hj')]) q'
theorem up_small {lt : Nat→Nat→Bool} (O : Ordr lt) {p : Array Nat} {m : Nat} (h : m < 2) : Up lt p m:=fun i j hij hj=>by
  have : i=j:=by omega
  subst this
  exact O.irr _
end
section
variable {X : Cx}
def rSum (K : PySem.W.Frag) : List V→Hp→VK→Prop:=fun xs H Q=>∃ (p : Addr) (ns : List Int),xs=[.ref p]∧SqL K H p (ns.map V.int)∧Q (.int ns.sum) H
theorem call_sumI (hc : X.calm=true) : CallR X (.builtin "sum") (rSum X.K):=by
  intro pins s σ H xs us Q I r h
  obtain ⟨p,ns,rfl,hq,q⟩:=h
  obtain ⟨u,rfl,ru⟩:=r.one
  cases ru
  obtain ⟨its,rv,pl,hz⟩:=I.list hq
  have ia:=ints_of rv
  obtain ⟨ys,ey⟩:=ia.allInts.items
  have hl:=pl.isList
  have e2 : (numsOf its.toArray.toList).sum=ns.sum:=by rw [show its.toArray.toList=its by simp,ia.numsOf]
  rw [ey] at hl e2
  refine sum_intListG (I.ok.hd hc) hl fun h' tk t' kk=>⟨.int ns.sum,H,I.kept (t':=tk) kk,⟨t',?_⟩,q⟩
  rw [nums_intItems] at e2
  rw [preSum_eq,List.take_of_length_le (by simp),e2]
end
end L2
namespace L2
open PySem PySem.Spec PySem.W PyProof.Rows
section
variable {X : Cx}
def rRng1 : List V→Hp→VK→Prop:=fun xs H Q=>∃ n : Int,xs=[.int n]∧∀ l,H l=none→Q (.ref l) (upd H l (.rng 0 n))
theorem call_rng1 : CallR X (.type "range") rRng1:=by
  intro pins s σ H xs us Q I r h
  obtain ⟨n,rfl,q⟩:=h
  obtain ⟨u,rfl,ru⟩:=r.one
  obtain ⟨t,rfl⟩:=ru
  refine call_range_1 ?_
  exact ⟨.ref _,_,I.laid (t':=s.toks + 1 + 1) (a:=s.heap.objs.size) (o:=.rng 0 n) (fun b o e=>Heap.get?_push_of_some _ e) (Nat.le_refl _) ⟨_,_,_,Heap.get?_push_size _ rfl⟩,rfl,q _ (I.hok.fresh (Nat.le_refl _))⟩
def uptoN (n : Nat) : List Int:=(List.range n).map fun i=>((i : Nat) : Int)
theorem uptoN_length (n : Nat) : (uptoN n).length=n:=by simp [uptoN]
def rListRng : List V→Hp→VK→Prop:=fun xs H Q=>∃ (p : Addr) (n : Nat),xs=[.ref p]∧H p=some (.rng 0 n)∧n≤1000∧∀ l,H l=none→Q (.ref l) (upd H l (.lst ((uptoN n).map V.int)))
theorem items_rng {acc : Array Value} {n : Nat} (h : ItemsOf (fun i v=>∃ t,v=Value.int (0 + (i : Int) * 1) t) acc n) : Vals ((uptoN n).map V.int) acc.toList:=by
  obtain ⟨h1,h2⟩:=h
  have go : ∀ (l : List Value) (k : Nat),(∀ (j : Nat) v,l[j]? = some v→∃ t,v=Value.int ((k + j : Nat) : Int) t)→Vals ((List.range' k l.length).map fun i=>V.int ((i : Nat) : Int)) l:=by
    intro l
    induction l with
    | nil=>intro k _; exact .nil
    | cons a r ih=>
      intro k hl
      rw [List.length_cons,List.range'_succ,List.map_cons]
      obtain ⟨t,e⟩:=hl 0 a rfl
      refine .cons ⟨t,?_⟩ (ih (k + 1) fun j v ev=>?_)
      · rw [e,Nat.add_zero]
      · obtain ⟨t,e⟩:=hl (j + 1) v (by simpa using ev)
        exact ⟨t,by rw [e]; congr 1; omega⟩
  have:=go acc.toList 0 fun j v ev=>by
    obtain ⟨t,e⟩:=h2 j v (by simpa using ev)
    exact ⟨t,by rw [e]; congr 1; omega⟩
  rw [Array.length_toList,h1] at this
  unfold uptoN
  rw [List.map_map,List.range_eq_range']
  exact this
theorem call_list_rng (hc : X.calm=true) : CallR X (.type "list") rListRng:=by
  intro pins s σ H xs us Q I r h
  obtain ⟨p,n,rfl,hp,hn,q⟩:=h
  obtain ⟨u,rfl,ru⟩:=r.one
  cases ru
  obtain ⟨t1,t2,t3,ho⟩:=(show ObjOk X.prog X.w H s.heap p (.rng 0 n) from I.hok p _ hp)
  refine call_list_range (a:=0) (b:=(n : Int)) (c:=1) (n:=n) (I.ok.hd hc) ho (small_one (by decide) (by decide) (by omega) (by omega)) ?_ (by omega) fun h' tk acc' c' kk e it=>?_
  · rw [rangeSize_one]
    split <;> omega
  · refine ⟨.ref _,_,I.laid (t':=tk) (a:=s.heap.objs.size) (o:=.lst ((uptoN n).map V.int)) kk (Nat.le_refl _) ⟨?_,acc'.toList,c',items_rng it,by simpa using e⟩,rfl,q _ (I.hok.fresh (Nat.le_refl _))⟩
    rw [List.length_map,uptoN_length,sizeLine_eq]; omega
end
end L2
namespace L2
open PySem PySem.Spec PySem.W PyProof.Rows
theorem uptoN_succ (n : Nat) : uptoN (n + 1)=uptoN n ++ [((n : Nat) : Int)]:=by
  unfold uptoN
  rw [List.range_succ,List.map_append]; rfl
theorem uptoN_mem {n : Nat} {i : Int} : i∈uptoN n↔0≤i∧i < n:=by
  unfold uptoN
  rw [List.mem_map]
  constructor
  · rintro ⟨k,hk,rfl⟩
    have:=List.mem_range.mp hk
    omega
  · intro h
    exact ⟨i.toNat,List.mem_range.mpr (by omega),by omega⟩
abbrev colAt (rs : List (List Int)) (k : Nat) (i : Int) : Int:=(rs.getD i.toNat []).getD k 0
def keyE (rs : List (List Int)) (i : Int) : List Int:=[colAt rs 0 i,i]
def keyD (rs : List (List Int)) (i : Int) : List Int:=[-(colAt rs 2 i),colAt rs 0 i,i]
def Ordered (key : Int→List Int) (n : Nat) (os : List Int) : Prop:=os.Perm (uptoN n)∧os.Pairwise (fun i j=>lexB (key j) (key i)=false)
def okE (r : List Int) : Prop:=1≤r.length
def okD (r : List Int) : Prop:=r.length=3
theorem row_at {rs : List (List Int)} {i : Nat} {r : List Int} (e : rs[i]? = some r) : rs.getD ((i : Nat) : Int).toNat []=r:=by
  rw [Int.toNat_natCast,List.getD_eq_getElem?_getD,e]; rfl
end L2
namespace L2
open PySem PySem.Spec PySem.W PyProof.Rows
def GoodTo (rs : List (List Int)) (ts : List Int) (i : Nat) : Prop:=∀ (j : Nat) r u,j < i→rs[j]? = some r→ts[j]? = some u→0≤u∧u≤r.getD 1 0
theorem goodTo_zero {rs : List (List Int)} {ts : List Int} : GoodTo rs ts 0:=fun j r u h=>absurd h (Nat.not_lt_zero _)
theorem goodTo_succ {rs : List (List Int)} {ts : List Int} {i : Nat} {r : List Int} {u : Int} (er : rs[i]? = some r) (eu : ts[i]? = some u) : GoodTo rs ts (i + 1)↔GoodTo rs ts i∧0≤u∧u≤r.getD 1 0:=by
  constructor
  · intro h
    exact ⟨fun j r u hj=>h j r u (by omega),h i r u (by omega) er eu⟩
  · rintro ⟨h,g⟩ j r' u' hj e1 e2
    by_cases c : j < i
    · exact h j r' u' c e1 e2
    · have : j=i:=by omega
      subst this
      rw [er] at e1
      rw [eu] at e2
      cases e1
      cases e2
      exact g
def TakenOk (rs : List (List Int)) (ts : List Int) : Prop:=ts.length=rs.length∧GoodTo rs ts rs.length
def dutyOk (r : List Int) : Prop:=r.length=3∧-(2 ^ 64) < r.getD 2 0∧r.getD 2 0 < 2 ^ 64
def IntsAt (H : Hp) (b : Addr) (ts : List Int) : Prop:=H b=some (.lst (ts.map V.int))
theorem ints_at {os : List Int} {i : Nat} {x : V} (e : (os.map V.int)[i]? = some x) : ∃ v,x = .int v∧os[i]? = some v:=by
  rw [List.getElem?_map] at e
  cases q : os[i]? with
  | none=>rw [q] at e; cases e
  | some v=>rw [q] at e; exact ⟨v,(Option.some.inj e).symm,rfl⟩
theorem atI_ints {os : List Int} {r : Int} {i : Nat} (hr : r=(i : Int)) (h : i < os.length) : atI (os.map V.int) r=some (.int os[i]):=by
  subst hr
  exact atI_nat (by rw [List.getElem?_map,List.getElem?_eq_getElem h]; rfl)
def spChkTaken (cT : Addr) : Sp:=fun vs H Q E=>∃ (a b : Addr) (rs : List (List Int)) (ts : List Int),vs=[.ref a,.ref b]∧Rows H a rs∧(∀ r∈rs,r.length=3)∧IntsAt H b ts∧rs.length≤100∧ts.length≤100∧
  (¬ TakenOk rs ts→∀ H',Same H H'→E (.ref cT) none H')∧(TakenOk rs ts→∀ l H',H l=none→Same H H'→IntsAt H' l ts→Q (.ref l) H')
end L2
namespace L2
open PySem PySem.Spec PySem.W PyProof.Rows
def vbm : List Value:=[.type "ValueError",.type "Exception",.type "BaseException",.type "object"]
theorem passN {P : Program} {w : World} {X : Cx} : Passes (CXE P w) X E0:=fun _ _ _ _ _ _ _ h=>by
  obtain ⟨_,_,_,_,_,_,_,_,h,_⟩:=h
  exact h.elim
abbrev okTerm (t : Int) : Prop:=0≤t∧t≤400
def spTerm (c : Addr) : Sp:=fun vs H Q E=>∃ v : Int,vs=[.int v]∧(okTerm v→Q .non H)∧(¬ okTerm v→E (.ref c) none H)
theorem chain_lo {lo v hi : Int} {R : Bool→Prop} (h : R (decide (lo≤v∧v≤hi))) : ∃ i j : Int,V.int lo = .int i∧V.int v = .int j∧∃ b,V.bl (decide (i≤j)) = .bl b∧if b=true then ∃ i' j' : Int,V.int v = .int i'∧V.int hi = .int j'∧∃ b',V.bl (decide (i'≤j')) = .bl b'∧R b' else ∃ b',V.bl false = .bl b'∧R b':=by
  refine ⟨_,_,rfl,rfl,_,rfl,?_⟩
  refine ite2 (fun c=>?_) (fun c=>?_)
  · have c1 : lo≤v:=of_decide_eq_true c
    refine ⟨_,_,rfl,rfl,_,rfl,?_⟩
    have e : decide (v≤hi)=decide (lo≤v∧v≤hi):=by by_cases z : v≤hi <;> simp [z,c1]
    rw [e]; exact h
  · have c1 : ¬ lo≤v:=of_decide_eq_false (Bool.eq_false_iff.mpr c)
    have e : false=decide (lo≤v∧v≤hi):=by simp [c1]
    exact ⟨_,rfl,by rw [e]; exact h⟩
def clCol (cl : Nat→Addr) : Nat→Addr
  | 0=>cl 1
  | 1=>cl 3
  | _=>cl 4
def goesB (tm f l : Int) (r : List Int) : Bool:=decide (f≤r.getD 0 0∧r.getD 0 0≤l + tm)
def goingOf (rs : List (List Int)) (tm f l : Int) : Int:=((rs.filter (goesB tm f l)).map fun r=>r.getD 1 0).sum
theorem filter_take {α : Type} {rs : List α} {i : Nat} {r : α} (p : α→Bool) (e : rs[i]? = some r) : (rs.take (i + 1)).filter p=(rs.take i).filter p ++ if p r=true then [r] else []:=by
  obtain ⟨hi,e'⟩:=List.getElem?_eq_some_iff.mp e
  rw [List.take_succ_eq_append_getElem hi,List.filter_append,e']
  congr 1
  by_cases z : p r=true
  · rw [if_pos z,List.filter_cons_of_pos z]; rfl
  · rw [if_neg z,List.filter_cons_of_neg z]; rfl
def spGoing : Sp:=fun vs H Q _=>∃ (a p : Addr) (tm f l : Int) (rs : List (List Int)),vs=[.ref a,.int tm,.ref p]∧Rows H a rs∧(∀ r∈rs,r.length=2)∧rs.length≤100∧H p=some (.tup [.int f,.int l])∧∀ H',Same H H'→Q (.int (goingOf rs tm f l)) H'
theorem cmp_nil {K : PySem.W.Frag} {H : Hp} {l e : Addr} {xs : List V} {neg : Bool} {Q : VK} (hl : H l=some (.lst xs)) (he : H e=some (.lst [])) (q : Q (.bl (neg != decide (xs.length=0))) H) : rCmpL K neg (.ref l) (.ref e) H Q:=by
  refine ⟨l,e,xs,[],rfl,rfl,SqL.of hl,SqL.of he,?_⟩
  by_cases z : xs.length=0
  · refine .inr ⟨z,0,fun _=>true,by decide,fun j x y e1 e2=>(by cases e2),?_⟩
    rw [z] at q ⊢
    exact q
  · refine .inl ⟨z,?_⟩
    rw [decide_eq_false z] at q
    cases neg <;> exact q
end L2
namespace K07
open PySem L2
structure Txt (K : PySem.W.Frag) (mg : Str→Option Value) (cl : Nat→Addr) : Prop where
  FIRST_DAY : ∃ t,mg "FIRST_DAY" = some (.int 1 t)
  LAST_DAY : ∃ t,mg "LAST_DAY" = some (.int 999 t)
  MOST_TERM : ∃ t,mg "MOST_TERM" = some (.int 400 t)
  MOST_ROWS : ∃ t,mg "MOST_ROWS" = some (.int 30 t)
  MOST_COUNT : ∃ t,mg "MOST_COUNT" = some (.int 10000000000 t)
  MOST_DUTY : ∃ t,mg "MOST_DUTY" = some (.int 1000000 t)
  gCustomsError : mg "CustomsError" = some (.ref (cl 0))
  gBadDay : mg "BadDay" = some (.ref (cl 1))
  gBadTerm : mg "BadTerm" = some (.ref (cl 2))
  gBadCount : mg "BadCount" = some (.ref (cl 3))
  gBadDuty : mg "BadDuty" = some (.ref (cl 4))
  gBadRows : mg "BadRows" = some (.ref (cl 5))
  gBadTaken : mg "BadTaken" = some (.ref (cl 7))
  eBadDay : PySem.W.excIn K (cl 1) vbm "ValueError.__new__" = true
  eBadTerm : PySem.W.excIn K (cl 2) vbm "ValueError.__new__" = true
  eBadCount : PySem.W.excIn K (cl 3) vbm "ValueError.__new__" = true
  eBadDuty : PySem.W.excIn K (cl 4) vbm "ValueError.__new__" = true
  eBadRows : PySem.W.excIn K (cl 5) vbm "ValueError.__new__" = true
  eBadTaken : PySem.W.excIn K (cl 7) vbm "ValueError.__new__" = true
abbrev s_is_day : Stmt:=top 12
abbrev n_is_day : List Str:=["day"]
abbrev p_is_day : List Str:=["day"]
theorem sc_is_day : FnScope n_is_day p_is_day (defScope s_is_day):=⟨rfl,rfl,rfl,by decide +kernel,rfl,by decide +kernel,by decide +kernel⟩
abbrev s_check_day : Stmt:=top 13
abbrev n_check_day : List Str:=["day"]
abbrev p_check_day : List Str:=["day"]
theorem sc_check_day : FnScope n_check_day p_check_day (defScope s_check_day):=⟨rfl,rfl,rfl,by decide +kernel,rfl,by decide +kernel,by decide +kernel⟩
abbrev s_check_term : Stmt:=top 14
abbrev n_check_term : List Str:=["term"]
abbrev p_check_term : List Str:=["term"]
theorem sc_check_term : FnScope n_check_term p_check_term (defScope s_check_term):=⟨rfl,rfl,rfl,by decide +kernel,rfl,by decide +kernel,by decide +kernel⟩
abbrev s_check_many : Stmt:=top 19
abbrev n_check_many : List Str:=["rows"]
abbrev p_check_many : List Str:=["rows"]
theorem sc_check_many : FnScope n_check_many p_check_many (defScope s_check_many):=⟨rfl,rfl,rfl,by decide +kernel,rfl,by decide +kernel,by decide +kernel⟩
abbrev s_check_count : Stmt:=top 20
abbrev n_check_count : List Str:=["count"]
abbrev p_check_count : List Str:=["count"]
theorem sc_check_count : FnScope n_check_count p_check_count (defScope s_check_count):=⟨rfl,rfl,rfl,by decide +kernel,rfl,by decide +kernel,by decide +kernel⟩
abbrev s_check_duty : Stmt:=top 21
abbrev n_check_duty : List Str:=["duty"]
abbrev p_check_duty : List Str:=["duty"]
theorem sc_check_duty : FnScope n_check_duty p_check_duty (defScope s_check_duty):=⟨rfl,rfl,rfl,by decide +kernel,rfl,by decide +kernel,by decide +kernel⟩
abbrev s_checked_lots : Stmt:=top 22
abbrev n_checked_lots : List Str:=["lots","told","day","count","duty"]
abbrev p_checked_lots : List Str:=["lots"]
theorem sc_checked_lots : FnScope n_checked_lots p_checked_lots (defScope s_checked_lots):=⟨rfl,rfl,rfl,by decide +kernel,rfl,by decide +kernel,by decide +kernel⟩
abbrev s_checked_outs : Stmt:=top 23
abbrev n_checked_outs : List Str:=["outs","told","day","count"]
abbrev p_checked_outs : List Str:=["outs"]
theorem sc_checked_outs : FnScope n_checked_outs p_checked_outs (defScope s_checked_outs):=⟨rfl,rfl,rfl,by decide +kernel,rfl,by decide +kernel,by decide +kernel⟩
abbrev s_going : Stmt:=top 27
abbrev n_going : List Str:=["outs","term","stretch","first","last"]
abbrev p_going : List Str:=["outs","term","stretch"]
theorem sc_going : FnScope n_going p_going (defScope s_going):=⟨rfl,rfl,rfl,by decide +kernel,rfl,by decide +kernel,by decide +kernel⟩
section
variable {P : Program} {w : World} {K : PySem.W.Frag} {mg : Str→Option Value} {base : Heap} {f : Addr} {fd : FuncData} {cl : Nat→Addr} (T : Txt K mg cl) (B : Bn mg)
include T B
theorem ok_is_day (F : Fun K "is_day" "is_day" s_is_day f fd) : FnOk P w K mg base CX0 1 f fd p_is_day spIsDay:=by
  refine F.ok sc_is_day (fun vs H Q E h=>?_) (fun cdv A outer s H vs Q E hr h=>?_)
  · obtain ⟨d,rfl,_⟩:=h; rfl
  obtain ⟨d,rfl,q⟩:=h
  refine ⟨_,(pss_one (ps_ret (pe_chain op_le op_le (pe_glI rfl T.FIRST_DAY) (pv 0) (pe_glI rfl T.LAST_DAY)))),?_⟩
  refine ⟨_,rfl,_,_,rfl,rfl,_,rfl,?_⟩
  refine ite2 (fun c=>?_) (fun c=>?_)
  · have c1 : (1 : Int)≤d:=of_decide_eq_true c
    refine ⟨_,_,rfl,rfl,?_⟩
    have e : decide (d≤999)=decide (inB d 999):=by by_cases z : d≤999 <;> simp [z,c1,inB]
    show Q (.bl (decide (d≤999))) H
    rw [e]; exact q
  · have c1 : ¬ (1 : Int)≤d:=of_decide_eq_false (Bool.eq_false_iff.mpr c)
    have e : false=decide (inB d 999):=by simp [inB,c1]
    show Q (.bl false) H
    rw [e]; exact q
theorem ok_check_day (G_is_day : Cal P w K mg base CX0 1 "is_day" p_is_day spIsDay) (F : Fun K "check_day" "check_day" s_check_day f fd) : FnOk P w K mg base (CXE P w) 2 f fd p_check_day (spIn (cl 1) 999):=by
  refine F.okE sc_check_day (fun vs H Q E h=>?_) (fun cdv A outer s H vs Q E hr h=>?_)
  · obtain ⟨d,rfl,_⟩:=h; rfl
  obtain ⟨d,rfl,q1,q2⟩:=h
  refine ⟨_,pss_one (ps_if (pt_not (pt_truth (pe_cal G_is_day hr rfl pass0 (pa_c (pv 0) pa_nil)) (fun _=>rfl))) (pss_one (ps_raise (E:=E) rfl T.gBadDay T.eBadDay PySem.F.excBase_ValueError rfl makesE (pa_c pe_str pa_nil))) pss_nil),?_⟩
  refine ⟨_,rfl,d,rfl,_,rfl,?_⟩
  by_cases c : inB d 999
  · rw [decide_eq_true c]
    exact iteF (q1 c)
  · rw [decide_eq_false c]
    exact iteT ⟨by show 1≤sizeLine; decide,q2 c⟩
theorem ok_check_term (F : Fun K "check_term" "check_term" s_check_term f fd) : FnOk P w K mg base (CXE P w) 2 f fd p_check_term (spTerm (cl 2)):=by
  refine F.okE sc_check_term (fun vs H Q E h=>?_) (fun cdv A outer s H vs Q E hr h=>?_)
  · obtain ⟨d,rfl,_⟩:=h; rfl
  obtain ⟨d,rfl,q1,q2⟩:=h
  refine ⟨_,(pss_one (ps_if (pt_not (pt_chain op_le op_le pe_int (pv 0) (pe_glI rfl T.MOST_TERM))) (pss_one (ps_raise (E:=E) rfl T.gBadTerm T.eBadTerm PySem.F.excBase_ValueError rfl makesE (pa_c pe_str pa_nil))) pss_nil)),?_⟩
  refine ⟨_,rfl,?_⟩
  refine chain_lo (lo:=0) (v:=d) (hi:=400) ?_
  by_cases c : okTerm d
  · rw [decide_eq_true c]
    exact iteF (q1 c)
  · rw [decide_eq_false c]
    exact iteT ⟨by show 1≤sizeLine; decide,q2 c⟩
theorem ok_check_many (F : Fun K "check_many" "check_many" s_check_many f fd) : FnOk P w K mg base (CXE P w) 2 f fd p_check_many (spMany (cl 5)):=by
  refine F.okE sc_check_many (fun vs H Q E h=>?_) (fun cdv A outer s H vs Q E hr h=>?_)
  · obtain ⟨a,xs,rfl,_⟩:=h; rfl
  obtain ⟨a,xs,rfl,ha,q1,q2⟩:=h
  refine ⟨_,(pss_one (ps_if (pt_cmpR op_gt (pe_callB call_len_seq rfl B.len PySem.boot_len (pa_c (pv 0) pa_nil)) (pe_glI rfl T.MOST_ROWS) (nomark _)) (pss_one (ps_raise (E:=E) rfl T.gBadRows T.eBadRows PySem.F.excBase_ValueError rfl makesE (pa_c pe_str pa_nil))) pss_nil)),?_⟩
  refine ⟨_,rfl,a,_,rfl,.inl (SqL.of ha),_,_,rfl,rfl,_,rfl,?_⟩
  by_cases c : (30 : Int) < xs.length
  · rw [decide_eq_true c]
    exact iteT ⟨by show 1≤sizeLine; decide,q2 (by omega)⟩
  · rw [decide_eq_false c]
    exact iteF (q1 (by omega))
theorem ok_check_count (F : Fun K "check_count" "check_count" s_check_count f fd) : FnOk P w K mg base (CXE P w) 2 f fd p_check_count (spIn (cl 3) 10000000000):=by
  refine F.okE sc_check_count (fun vs H Q E h=>?_) (fun cdv A outer s H vs Q E hr h=>?_)
  · obtain ⟨d,rfl,_⟩:=h; rfl
  obtain ⟨d,rfl,q1,q2⟩:=h
  refine ⟨_,(pss_one (ps_if (pt_not (pt_chain op_le op_le pe_int (pv 0) (pe_glI rfl T.MOST_COUNT))) (pss_one (ps_raise (E:=E) rfl T.gBadCount T.eBadCount PySem.F.excBase_ValueError rfl makesE (pa_c pe_str pa_nil))) pss_nil)),?_⟩
  refine ⟨_,rfl,?_⟩
  refine chain_in (v:=d) (hi:=10000000000) ?_
  by_cases c : inB d 10000000000
  · rw [decide_eq_true c]
    exact iteF (q1 c)
  · rw [decide_eq_false c]
    exact iteT ⟨by show 1≤sizeLine; decide,q2 c⟩
theorem ok_check_duty (F : Fun K "check_duty" "check_duty" s_check_duty f fd) : FnOk P w K mg base (CXE P w) 2 f fd p_check_duty (spIn (cl 4) 1000000):=by
  refine F.okE sc_check_duty (fun vs H Q E h=>?_) (fun cdv A outer s H vs Q E hr h=>?_)
  · obtain ⟨d,rfl,_⟩:=h; rfl
  obtain ⟨d,rfl,q1,q2⟩:=h
  refine ⟨_,(pss_one (ps_if (pt_not (pt_chain op_le op_le pe_int (pv 0) (pe_glI rfl T.MOST_DUTY))) (pss_one (ps_raise (E:=E) rfl T.gBadDuty T.eBadDuty PySem.F.excBase_ValueError rfl makesE (pa_c pe_str pa_nil))) pss_nil)),?_⟩
  refine ⟨_,rfl,?_⟩
  refine chain_in (v:=d) (hi:=1000000) ?_
  by_cases c : inB d 1000000
  · rw [decide_eq_true c]
    exact iteF (q1 c)
  · rw [decide_eq_false c]
    exact iteT ⟨by show 1≤sizeLine; decide,q2 c⟩
theorem ok_checked_lots (G_check_many : Cal P w K mg base (CXE P w) 2 "check_many" p_check_many (spMany (cl 5))) (G_check_day : Cal P w K mg base (CXE P w) 2 "check_day" p_check_day (spIn (cl 1) 999)) (G_check_count : Cal P w K mg base (CXE P w) 2 "check_count" p_check_count (spIn (cl 3) 10000000000)) (G_check_duty : Cal P w K mg base (CXE P w) 2 "check_duty" p_check_duty (spIn (cl 4) 1000000)) (F : Fun K "checked_lots" "checked_lots" s_checked_lots f fd) : FnOk P w K mg base (CXE P w) 3 f fd p_checked_lots (spChk (cl 5) (clCol cl) 3):=by
  refine F.okE sc_checked_lots (fun vs H Q E h=>?_) (fun cdv A outer s H vs Q E hr h=>?_)
  · obtain ⟨a,rs,rfl,_⟩:=h; rfl
  obtain ⟨a,rs,rfl,hR,h3,q1,q2,q3⟩:=h
  refine ⟨_,(pss_cons (ps_expr (pe_cal (E:=E) G_check_many hr rfl (passE fun _ _ z=>z) (pa_c (pv 0) pa_nil)))
    (pss_cons (ps_set (i:=1) sc_checked_lots.nd rfl (Or.inl rfl) (pe_lst pa_nil))
    (pss_cons (ps_for PassesOwn.leaving rfl (pi_list (pv 0)) (pg_tup rfl (pgs_cons (pg_name (i:=2) sc_checked_lots.nd rfl (Or.inl rfl)) (pgs_cons (pg_name (i:=3) sc_checked_lots.nd rfl (Or.inl rfl)) (pgs_cons (pg_name (i:=4) sc_checked_lots.nd rfl (Or.inl rfl)) pgs_nil)))) (pss_cons (ps_expr (pe_cal (E:=E) G_check_day hr rfl (passE fun _ _ z=>z) (pa_c (pv 2) pa_nil)))
      (pss_cons (ps_expr (pe_cal (E:=E) G_check_count hr rfl (passE fun _ _ z=>z) (pa_c (pv 3) pa_nil)))
      (pss_cons (ps_expr (pe_cal (E:=E) G_check_duty hr rfl (passE fun _ _ z=>z) (pa_c (pv 4) pa_nil)))
      (pss_one (ps_expr (pe_bm PySem.F.plainAttrs_list PySem.F.slot_list_append PySem.F.type_list_append mt_append (pv 1) (pa_c (pe_tup (pa_c (pv 2) (pa_c (pv 3) (pa_c (pv 4) pa_nil)))) pa_nil))))))))
    (pss_one (ps_ret (pv 1)))))),?_⟩
  obtain ⟨xs,ex,exl,exi⟩:=hR.get
  refine ⟨_,rfl,a,xs,rfl,ex,fun c=>?_,fun c=>q1 (by omega)⟩
  have c30 : rs.length≤30:=by omega
  refine ⟨by show 0≤sizeLine; decide,fun l hl=>?_⟩
  refine ⟨_,rfl,a,rfl,⟨xs,SqL.of (by rw [upd_ne (ne_of_none ex hl)]; exact ex)⟩,?_⟩
  refine for_list (xs:=xs) (fun i σ H3=>∃ o2 o3 o4,σ=[some (.ref a),some (.ref l),o2,o3,o4]∧Same H H3∧Rows H3 l (rs.take i)∧rowsBad (rs.take i)=none) ⟨_,_,_,rfl,same_new hl _,Rows.nil upd_same,rfl⟩ ?_ ?_ ?_
  · rintro i σ H3 hi ⟨o2,o3,o4,rfl,sm,_⟩
    exact SqL.of (sm _ _ ex)
  · rintro i x σ H3 exi' ⟨o2,o3,o4,rfl,sm,R3,hb⟩
    obtain ⟨p,r,rfl,er,hp⟩:=exi i x exi'
    obtain ⟨d,c,u,rfl⟩:=len3 (h3 r (List.mem_of_getElem? er))
    refine ⟨p,_,rfl,SqT.of (sm _ _ hp),rfl,_,_,rfl,_,_,rfl,_,_,rfl,rfl,?_⟩
    have bad : ∀ j,rowBad [d,c,u]=some j→E (.ref (clCol cl j)) none H3:=fun j e=>q2 c30 j (rowsBad_hit hb er e) H3 sm
    refine ⟨_,rfl,d,rfl,fun c1=>?_,fun c1=>bad 0 (by simp only [rowBad,if_neg c1])⟩
    refine ⟨_,rfl,c,rfl,fun c2=>?_,fun c2=>bad 1 (by simp only [rowBad,if_pos c1,if_neg c2])⟩
    refine ⟨_,rfl,u,rfl,fun c3=>?_,fun c3=>bad 2 (by simp only [rowBad,if_pos c1,if_pos c2,if_neg c3])⟩
    have good : rowBad [d,c,u]=none:=by simp only [rowBad,if_pos c1,if_pos c2,if_pos c3]
    obtain ⟨ys,ey,eyl,_⟩:=R3.get
    refine ⟨_,rfl,.inl ⟨rfl,_,SqL.of ey⟩,?_⟩
    refine ⟨_,rfl,_,rfl,_,rfl,by show 3≤sizeLine; decide,fun t ht=>?_⟩
    refine ⟨l,ys,.ref t,rfl,rfl,by rw [upd_ne (ne_of_none ey ht)]; exact ey,small1000 (by rw [eyl,List.length_take]; omega),?_⟩
    refine ⟨_,_,_,rfl,(sm.trans (same_new ht _)).young hl,?_,rowsBad_take hb er good⟩
    rw [← take_next er]
    exact R3.push (r:=[d,c,u]) ey ht
  · rintro σ H3 ⟨o2,o3,o4,rfl,sm,R3,hb⟩
    rw [exl,List.take_length] at R3 hb
    exact ⟨_,rfl,q3 c30 hb l H3 hl sm R3⟩
theorem ok_checked_outs (G_check_many : Cal P w K mg base (CXE P w) 2 "check_many" p_check_many (spMany (cl 5))) (G_check_day : Cal P w K mg base (CXE P w) 2 "check_day" p_check_day (spIn (cl 1) 999)) (G_check_count : Cal P w K mg base (CXE P w) 2 "check_count" p_check_count (spIn (cl 3) 10000000000)) (F : Fun K "checked_outs" "checked_outs" s_checked_outs f fd) : FnOk P w K mg base (CXE P w) 3 f fd p_checked_outs (spChk (cl 5) (clCol cl) 2):=by
  refine F.okE sc_checked_outs (fun vs H Q E h=>?_) (fun cdv A outer s H vs Q E hr h=>?_)
  · obtain ⟨a,rs,rfl,_⟩:=h; rfl
  obtain ⟨a,rs,rfl,hR,h3,q1,q2,q3⟩:=h
  refine ⟨_,(pss_cons (ps_expr (pe_cal (E:=E) G_check_many hr rfl (passE fun _ _ z=>z) (pa_c (pv 0) pa_nil)))
    (pss_cons (ps_set (i:=1) sc_checked_outs.nd rfl (Or.inl rfl) (pe_lst pa_nil))
    (pss_cons (ps_for PassesOwn.leaving rfl (pi_list (pv 0)) (pg_tup rfl (pgs_cons (pg_name (i:=2) sc_checked_outs.nd rfl (Or.inl rfl)) (pgs_cons (pg_name (i:=3) sc_checked_outs.nd rfl (Or.inl rfl)) pgs_nil))) (pss_cons (ps_expr (pe_cal (E:=E) G_check_day hr rfl (passE fun _ _ z=>z) (pa_c (pv 2) pa_nil)))
      (pss_cons (ps_expr (pe_cal (E:=E) G_check_count hr rfl (passE fun _ _ z=>z) (pa_c (pv 3) pa_nil)))
      (pss_one (ps_expr (pe_bm PySem.F.plainAttrs_list PySem.F.slot_list_append PySem.F.type_list_append mt_append (pv 1) (pa_c (pe_tup (pa_c (pv 2) (pa_c (pv 3) pa_nil))) pa_nil)))))))
    (pss_one (ps_ret (pv 1)))))),?_⟩
  obtain ⟨xs,ex,exl,exi⟩:=hR.get
  refine ⟨_,rfl,a,xs,rfl,ex,fun c=>?_,fun c=>q1 (by omega)⟩
  have c30 : rs.length≤30:=by omega
  refine ⟨by show 0≤sizeLine; decide,fun l hl=>?_⟩
  refine ⟨_,rfl,a,rfl,⟨xs,SqL.of (by rw [upd_ne (ne_of_none ex hl)]; exact ex)⟩,?_⟩
  refine for_list (xs:=xs) (fun i σ H3=>∃ o2 o3,σ=[some (.ref a),some (.ref l),o2,o3]∧Same H H3∧Rows H3 l (rs.take i)∧rowsBad (rs.take i)=none) ⟨_,_,rfl,same_new hl _,Rows.nil upd_same,rfl⟩ ?_ ?_ ?_
  · rintro i σ H3 hi ⟨o2,o3,rfl,sm,_⟩
    exact SqL.of (sm _ _ ex)
  · rintro i x σ H3 exi' ⟨o2,o3,rfl,sm,R3,hb⟩
    obtain ⟨p,r,rfl,er,hp⟩:=exi i x exi'
    obtain ⟨d,c,rfl⟩:=len2 (h3 r (List.mem_of_getElem? er))
    refine ⟨p,_,rfl,SqT.of (sm _ _ hp),rfl,_,_,rfl,_,_,rfl,rfl,?_⟩
    have bad : ∀ j,rowBad [d,c]=some j→E (.ref (clCol cl j)) none H3:=fun j e=>q2 c30 j (rowsBad_hit hb er e) H3 sm
    refine ⟨_,rfl,d,rfl,fun c1=>?_,fun c1=>bad 0 (by simp only [rowBad,if_neg c1])⟩
    refine ⟨_,rfl,c,rfl,fun c2=>?_,fun c2=>bad 1 (by simp only [rowBad,if_pos c1,if_neg c2])⟩
    have good : rowBad [d,c]=none:=by simp only [rowBad,if_pos c1,if_pos c2]
    obtain ⟨ys,ey,eyl,_⟩:=R3.get
    refine ⟨_,rfl,.inl ⟨rfl,_,SqL.of ey⟩,?_⟩
    refine ⟨_,rfl,_,rfl,by show 2≤sizeLine; decide,fun t ht=>?_⟩
    refine ⟨l,ys,.ref t,rfl,rfl,by rw [upd_ne (ne_of_none ey ht)]; exact ey,small1000 (by rw [eyl,List.length_take]; omega),?_⟩
    refine ⟨_,_,rfl,(sm.trans (same_new ht _)).young hl,?_,rowsBad_take hb er good⟩
    rw [← take_next er]
    exact R3.push (r:=[d,c]) ey ht
  · rintro σ H3 ⟨o2,o3,rfl,sm,R3,hb⟩
    rw [exl,List.take_length] at R3 hb
    exact ⟨_,rfl,q3 c30 hb l H3 hl sm R3⟩
theorem ok_going (F : Fun K "going" "going" s_going f fd) : FnOk P w K mg base CX0 1 f fd p_going spGoing:=by
  refine F.ok sc_going (fun vs H Q E h=>?_) (fun cdv A outer s H vs Q E hr h=>?_)
  · obtain ⟨a,p,tm,f,l,rs,rfl,_⟩:=h; rfl
  obtain ⟨a,p,tm,ff,l,rs,rfl,hR,h2,hn,hp,q⟩:=h
  refine ⟨_,(pss_cons (ps_asg (pv 2) (pg_tup rfl (pgs_cons (pg_name (i:=3) sc_going.nd rfl (Or.inr rfl)) (pgs_cons (pg_name (i:=4) sc_going.nd rfl (Or.inr rfl)) pgs_nil))))
    (pss_one (ps_ret (pe_callB (call_sumI rfl) rfl B.sum PyProof.Rows.boot_sum (pa_c (pe_comp (N':=["day","count","first","last","term"]) (ix:=[none,none,some 3,some 4,some 1]) (g:=(gTup K 2 (gCons (gName 0) (gCons (gName 1) gNil)))) (ti:=(tTest (tChain (rI0 fun i j=>.bl (decide (i≤j))) (rI0 fun i j=>.bl (decide (i≤j))) (tVar 2) (tVar 0) (tOp (rI0 fun i j=>.int (i + j)) (tVar 3) (tVar 4))))) (te:=(tVar 1)) rfl (comp_scope (N:=n_going) (D:=defScope s_going) (by decide +kernel)) (pi_list (pv 0)) (fun C s H fp=>(pg_tup rfl (pgs_cons (pg_name (i:=0) (show (["day","count","first","last","term"] : List Str).Nodup by decide +kernel) rfl (Or.inl rfl)) (pgs_cons (pg_name (i:=1) (show (["day","count","first","last","term"] : List Str).Nodup by decide +kernel) rfl (Or.inl rfl)) pgs_nil)))) (fun C s H fp=>(pifs_one (pt_chain op_le op_le (pv 2) (pv 0) (pe_op op_add (pv 3) (pv 4))))) (fun C s H fp=>(pv 1))) pa_nil))))),?_⟩
  obtain ⟨xs,ex,exl,exi⟩:=hR.get
  refine ⟨_,rfl,p,_,rfl,SqT.of hp,rfl,_,_,rfl,_,_,rfl,rfl,?_⟩
  refine ⟨_,rfl,a,rfl,⟨xs,SqL.of ex⟩,fun D hD=>⟨fun i m H3=>i + m=xs.length∧Same H H3∧H3 D=some (.lst ((((rs.take i).filter (goesB tm ff l)).map fun r=>r.getD 1 0).map V.int)),⟨xs.length,by omega,same_new hD _,upd_same⟩,?_⟩⟩
  rintro i m H3 ⟨him,s3,hD3⟩
  have ex3:=s3 _ _ ex
  by_cases hi : i < xs.length
  · refine .inr ⟨⟨xs,_,SqL.of ex3,List.getElem?_eq_getElem hi⟩,?_⟩
    rintro x H' ⟨rfl,hx⟩
    obtain ⟨pr,r,rfl,er,hpr⟩:=exi i x (hx _ (SqL.of ex3))
    obtain ⟨d,cc,rfl⟩:=len2 (h2 r (List.mem_of_getElem? er))
    refine ⟨pr,_,rfl,SqT.of (s3 _ _ hpr),rfl,_,_,rfl,_,_,rfl,rfl,?_,?_⟩
    · intro k v e
      match k,e with
      | 0,e=>cases e
      | 1,e=>cases e
      | 2,e=>exact e
      | 3,e=>exact e
      | 4,e=>exact e
      | k + 5,e=>cases e
    · have ft:=filter_take (rs:=rs) (goesB tm ff l) er
      have gb : goesB tm ff l [d,cc]=decide (ff≤d∧d≤l + tm):=rfl
      refine ⟨_,rfl,_,rfl,_,_,rfl,rfl,_,rfl,?_⟩
      have yes : (ff≤d∧d≤l + tm)→∃ zs,H' D=some (.lst zs)∧zs.length < sizeLine∧∃ m',m' < m∧(i + 1 + m' = xs.length∧Same H (L2.upd H' D (.lst (zs ++ [.int cc])))∧L2.upd H' D (.lst (zs ++ [.int cc])) D=some (.lst ((((rs.take (i + 1)).filter (goesB tm ff l)).map fun r=>r.getD 1 0).map V.int))):=fun z=>by
        refine ⟨_,hD3,small1000 ?_,m - 1,by omega,by omega,s3.young hD,?_⟩
        · rw [List.length_map,List.length_map]
          have l1:=List.length_filter_le (goesB tm ff l) (rs.take i)
          rw [List.length_take] at l1
          omega
        · rw [upd_same,ft,if_pos (by rw [gb]; exact decide_eq_true z),List.map_append,List.map_append]; rfl
      have no : ¬ (ff≤d∧d≤l + tm)→∃ m',m' < m∧(i + 1 + m' = xs.length∧Same H H'∧H' D=some (.lst ((((rs.take (i + 1)).filter (goesB tm ff l)).map fun r=>r.getD 1 0).map V.int))):=fun z=>by
        refine ⟨m - 1,by omega,by omega,s3,?_⟩
        rw [ft,if_neg (by rw [gb]; intro y; exact z (of_decide_eq_true y)),List.append_nil]
        exact hD3
      by_cases c1 : ff≤d
      · rw [decide_eq_true c1]
        refine iteT ⟨_,rfl,_,rfl,_,_,rfl,rfl,_,_,rfl,rfl,_,rfl,?_⟩
        by_cases c2 : d≤l + tm
        · rw [decide_eq_true c2]
          exact iteT ⟨_,rfl,yes ⟨c1,c2⟩⟩
        · rw [decide_eq_false c2]
          exact iteF (no fun z=>c2 z.2)
      · rw [decide_eq_false c1]
        exact iteF ⟨_,rfl,iteF (no fun z=>c1 z.1)⟩
  · refine .inl ⟨⟨xs,SqL.of ex3,by omega⟩,D,((rs.take i).filter (goesB tm ff l)).map fun r=>r.getD 1 0,rfl,SqL.of hD3,?_⟩
    have ei : rs.take i=rs:=List.take_of_length_le (by omega)
    rw [ei]
    exact q H3 s3
end
end K07
namespace L2
open PySem PySem.Spec PySem.W PyProof.Rows
section
variable {X : Cx} {a b c d e : Expr} {ta tb tc td te : TE} {pos p2 : Pos}
end
theorem keep_refl {σ₀ : St} : ∀ (k : Nat) v,σ₀[k]? = some (some v)→σ₀[k]? = some (some v):=fun _ _ h=>h
theorem keep_set {σ₀ σ : St} {j : Nat} {x : Option V} (h : ∀ (k : Nat) v,σ₀[k]? = some (some v)→σ[k]? = some (some v)) (hj : σ₀[j]? = some none) : ∀ (k : Nat) v,σ₀[k]? = some (some v)→(σ.set j x)[k]? = some (some v):=fun k v e=>by
  have : j≠k:=fun z=>by rw [z,e] at hj; cases hj
  rw [List.getElem?_set_ne this]
  exact h k v e
def Tups (H : Hp) (xs : List V) (rs : List (List Int)) : Prop:=xs.length=rs.length∧∀ (i : Nat) x r,xs[i]? = some x→rs[i]? = some r→∃ p,x = .ref p∧H p=some (.tup (r.map V.int))
theorem Tups.drop {H : Hp} {xs : List V} {rs : List (List Int)} (h : Tups H xs rs) (n : Nat) : Tups H (xs.drop n) (rs.drop n):=by
  refine ⟨by rw [List.length_drop,List.length_drop,h.1],fun i x r e1 e2=>?_⟩
  rw [List.getElem?_drop] at e1 e2
  exact h.2 _ x r e1 e2
theorem Tups.keep {H H' : Hp} {xs : List V} {rs : List (List Int)} (h : Tups H xs rs) (k : ∀ (p : Addr) (z : List V),H p=some (.tup z)→H' p=some (.tup z)) : Tups H' xs rs:=⟨h.1,fun i x r e1 e2=>by
  obtain ⟨p,e,hp⟩:=h.2 i x r e1 e2
  exact ⟨p,e,k _ _ hp⟩⟩
theorem Tups.same {H H' : Hp} {xs : List V} {rs : List (List Int)} (h : Tups H xs rs) (s : Same H H') : Tups H' xs rs:=h.keep fun _ _ e=>s _ _ e
theorem Tups.but {H H' : Hp} {D : Addr} {ys xs : List V} {rs : List (List Int)} (h : Tups H xs rs) (hD : H D=some (.lst ys)) (k : ∀ b o,b≠D→H b=some o→H' b=some o) : Tups H' xs rs:=h.keep fun p z e=>k _ _ (ne_of e hD (by intro z; cases z)) e
theorem Tups.draw {H H' : Hp} {a c : Addr} {xs : List V} {rs : List (List Int)} (h : Tups H xs rs) (d : DrawAt H a c) (k : KeepBut a H H') : Tups H' xs rs:=h.keep fun p z e=>k _ _ (d.neT e) e
theorem Tups.at {H : Hp} {xs : List V} {rs : List (List Int)} (h : Tups H xs rs) {i : Nat} {x : V} (e : xs[i]? = some x) : ∃ p r,x = .ref p∧rs[i]? = some r∧H p=some (.tup (r.map V.int)):=by
  have hi:=(List.getElem?_eq_some_iff.mp e).1
  have hr : rs[i]? = some (rs[i]'(by rw [← h.1]; exact hi)):=List.getElem?_eq_getElem (by rw [← h.1]; exact hi)
  obtain ⟨p,e',hp⟩:=h.2 i x _ e hr
  exact ⟨p,_,e',hr,hp⟩
theorem Tups.rows {H : Hp} {a : Addr} {xs : List V} {rs : List (List Int)} (h : Tups H xs rs) (ha : H a=some (.lst xs)) : Rows H a rs:=by
  obtain ⟨ps,e⟩ : ∃ ps : List Addr,xs=ps.map V.ref:=by
    have : ∀ (xs : List V) (rs : List (List Int)),Tups H xs rs→∃ ps : List Addr,xs=ps.map V.ref:=by
      intro xs
      induction xs with
      | nil=>exact fun _ _=>⟨[],rfl⟩
      | cons x r ih=>
        intro rs h
        obtain ⟨p,_,e,_⟩:=h.at (i:=0) rfl
        obtain ⟨ps,e'⟩:=ih (rs.drop 1) (by simpa using h.drop 1)
        exact ⟨p :: ps,by rw [e,e']; rfl⟩
    exact this xs rs h
  subst e
  refine ⟨ps,ha,by rw [← h.1,List.length_map],fun i p r e1 e2=>?_⟩
  obtain ⟨q,e,hq⟩:=h.2 i (.ref p) r (by rw [List.getElem?_map,e1]; rfl) e2
  cases e
  exact hq
theorem Rows.tups {H : Hp} {a : Addr} {rs : List (List Int)} (h : Rows H a rs) : ∃ xs,H a=some (.lst xs)∧Tups H xs rs:=by
  obtain ⟨ps,h1,h2,h3⟩:=h
  refine ⟨_,h1,by rw [List.length_map,h2],fun i x r e1 e2=>?_⟩
  rw [List.getElem?_map] at e1
  cases q : ps[i]? with
  | none=>rw [q] at e1; cases e1
  | some p=>rw [q] at e1; cases e1; exact ⟨p,rfl,h3 i p r q e2⟩
theorem getElem_next {α : Type} {rs : List α} {i : Nat} {r : α} (e : rs[i]? = some r) : rs.take (i + 1)=rs.take i ++ [r]:=by
  obtain ⟨hi,e'⟩:=List.getElem?_eq_some_iff.mp e
  rw [List.take_succ_eq_append_getElem hi,e']
def colNo : Nat→Nat
  | 0=>1
  | 1=>3
  | _=>4
theorem clCol_no (cl : Nat→Addr) (j : Nat) : clCol cl j=cl (colNo j):=by
  match j with
  | 0=>rfl
  | 1=>rfl
  | j + 2=>rfl
def rowsNo (rs : List (List Int)) : Option Nat:=if 30 < rs.length then some 5 else (rowsBad rs).map colNo
def bothNo (rs os : List (List Int)) (tm : Int) : Option Nat:=match rowsNo rs with
  | some n=>some n
  | none=>match rowsNo os with
    | some n=>some n
    | none=>if okTerm tm then none else some 2
theorem rowsNo_many {rs : List (List Int)} (h : 30 < rs.length) : rowsNo rs=some 5:=by unfold rowsNo; rw [if_pos h]
theorem rowsNo_bad {rs : List (List Int)} {j : Nat} (h : rs.length≤30) (e : rowsBad rs=some j) : rowsNo rs=some (colNo j):=by unfold rowsNo; rw [if_neg (by omega),e]; rfl
theorem rowsNo_ok {rs : List (List Int)} (h : rs.length≤30) (e : rowsBad rs=none) : rowsNo rs=none:=by unfold rowsNo; rw [if_neg (by omega),e]; rfl
theorem bothNo_lots {rs os : List (List Int)} {tm : Int} {n : Nat} (h : rowsNo rs=some n) : bothNo rs os tm=some n:=by unfold bothNo; rw [h]
theorem bothNo_outs {rs os : List (List Int)} {tm : Int} {n : Nat} (h : rowsNo rs=none) (h' : rowsNo os=some n) : bothNo rs os tm=some n:=by unfold bothNo; rw [h,h']
theorem bothNo_term {rs os : List (List Int)} {tm : Int} (h : rowsNo rs=none) (h' : rowsNo os=none) : bothNo rs os tm=if okTerm tm then none else some 2:=by unfold bothNo; rw [h,h']
def spBoth (cl : Nat→Addr) : Sp:=fun vs H Q E=>∃ (a b : Addr) (tm : Int) (rs os : List (List Int)),vs=[.ref a,.ref b,.int tm]∧Rows H a rs∧(∀ r∈rs,r.length=3)∧Rows H b os∧(∀ r∈os,r.length=2)∧
  (∀ n,bothNo rs os tm=some n→∀ H',Same H H'→E (.ref (cl n)) none H')∧(bothNo rs os tm=none→∀ t l o H',H t=none→H l=none→H o=none→Same H H'→Rows H' l rs→Rows H' o os→H' t=some (.tup [.ref l,.ref o])→Q (.ref t) H')
end L2
namespace K07
open PySem L2
abbrev s_checked_both : Stmt:=top 24
abbrev n_checked_both : List Str:=["lots","outs","term","goods","gone"]
abbrev p_checked_both : List Str:=["lots","outs","term"]
theorem sc_checked_both : FnScope n_checked_both p_checked_both (defScope s_checked_both):=⟨rfl,rfl,rfl,by decide +kernel,rfl,by decide +kernel,by decide +kernel⟩
section
variable {P : Program} {w : World} {K : PySem.W.Frag} {mg : Str→Option Value} {base : Heap} {f : Addr} {fd : FuncData} {cl : Nat→Addr} (T : Txt K mg cl) (B : Bn mg)
include T B
theorem ok_checked_both (G_checked_lots : Cal P w K mg base (CXE P w) 3 "checked_lots" p_checked_lots (spChk (cl 5) (clCol cl) 3)) (G_checked_outs : Cal P w K mg base (CXE P w) 3 "checked_outs" p_checked_outs (spChk (cl 5) (clCol cl) 2)) (G_check_term : Cal P w K mg base (CXE P w) 2 "check_term" p_check_term (spTerm (cl 2))) (F : Fun K "checked_both" "checked_both" s_checked_both f fd) : FnOk P w K mg base (CXE P w) 4 f fd p_checked_both (spBoth cl):=by
  refine F.okE sc_checked_both (fun vs H Q E h=>?_) (fun cdv A outer s H vs Q E hr h=>?_)
  · obtain ⟨a,b,tm,rs,os,rfl,_⟩:=h; rfl
  obtain ⟨a,b,tm,rs,os,rfl,hR,h3,hO,h2,q1,q2⟩:=h
  refine ⟨_,(pss_cons (ps_set (i:=3) sc_checked_both.nd rfl (Or.inl rfl) (pe_cal (E:=E) G_checked_lots hr rfl (passE fun _ _ z=>z) (pa_c (pv 0) pa_nil)))
    (pss_cons (ps_set (i:=4) sc_checked_both.nd rfl (Or.inl rfl) (pe_cal (E:=E) G_checked_outs hr rfl (passE fun _ _ z=>z) (pa_c (pv 1) pa_nil)))
    (pss_cons (ps_expr (pe_cal (E:=E) G_check_term hr rfl (passE fun _ _ z=>z) (pa_c (pv 2) pa_nil)))
    (pss_one (ps_ret (pe_tup (pa_c (pv 3) (pa_c (pv 4) pa_nil)))))))),?_⟩
  refine ⟨_,rfl,a,rs,rfl,hR,h3,fun c=>q1 5 (bothNo_lots (rowsNo_many c)) H (Same.refl H),fun c j e H' sm=>by rw [clCol_no]; exact q1 _ (bothNo_lots (rowsNo_bad c e)) H' sm,fun rn rb l H1 hl s1 R1=>?_⟩
  have r0:=rowsNo_ok rn rb
  refine ⟨_,rfl,b,os,rfl,hO.same s1,h2,fun c=>q1 5 (bothNo_outs r0 (rowsNo_many c)) H1 s1,fun c j e H' sm=>by rw [clCol_no]; exact q1 _ (bothNo_outs r0 (rowsNo_bad c e)) H' (s1.trans sm),fun on ob o H2 ho s2 R2=>?_⟩
  have o0:=rowsNo_ok on ob
  have bt:=bothNo_term (tm:=tm) r0 o0
  have s12:=s1.trans s2
  refine ⟨_,rfl,tm,rfl,fun c=>?_,fun c=>q1 2 (by rw [bt,if_neg c]) H2 s12⟩
  rw [if_pos c] at bt
  refine ⟨_,rfl,_,rfl,by show 2≤sizeLine; decide,fun t ht=>?_⟩
  have s3:=same_new (H:=H2) ht (.tup [.ref l,.ref o])
  exact q2 bt t l o _ (s12.free ht) hl (s1.free ho) (s12.trans s3) ((R1.same s2).same s3) (R2.same s3) upd_same
end
end K07
namespace L2
open PySem PySem.Spec PyProof.Rows
section
variable {κ : Type} [DecidableEq κ]
def valV (kvs : List (κ×V)) (k : κ) : Option V:=(kvs.find? fun kv=>decide (kv.1=k)).map (·.2)
def putK (kvs : List (κ×V)) (k : κ) (v : V) : List (κ×V):=
  if (kvs.any fun kv=>decide (kv.1=k))=true then kvs.map (fun kv=>if kv.1=k then (kv.1,v) else kv) else kvs ++ [(k,v)]
theorem valV_pos {p : κ×V} {r : List (κ×V)} {k : κ} (e : p.1=k) : valV (p :: r) k=some p.2:=by simp [valV,List.find?_cons,e]
theorem valV_neg {p : κ×V} {r : List (κ×V)} {k : κ} (e : ¬ p.1=k) : valV (p :: r) k=valV r k:=by simp [valV,List.find?_cons,e]
theorem valV_any (k : κ) : ∀ kvs : List (κ×V),(kvs.any fun kv=>decide (kv.1=k))=(valV kvs k).isSome
  | []=>rfl
  | p :: r=>by
    rw [List.any_cons]
    by_cases e : p.1=k
    · simp only [valV_pos e,decide_eq_true e,Bool.true_or,Option.isSome_some]
    · rw [valV_neg e,decide_eq_false e,Bool.false_or]; exact valV_any k r
theorem length_putK (kvs : List (κ×V)) (k : κ) (v : V) : (putK kvs k v).length≤kvs.length + 1:=by
  unfold putK
  split
  · rw [List.length_map]; omega
  · rw [List.length_append,List.length_cons,List.length_nil]; omega
theorem putK_new {kvs : List (κ×V)} {k : κ} (v : V) (h : valV kvs k=none) : putK kvs k v=kvs ++ [(k,v)]:=by
  unfold putK
  rw [valV_any,h]
  exact if_neg (by decide)
theorem RelO.isSome_eq {o : Option V} {u : Option Value} (r : RelO o u) : o.isSome=u.isSome:=by
  cases o with
  | none=>cases u with
    | none=>rfl
    | some _=>exact (show False from r).elim
  | some _=>cases u with
    | none=>exact (show False from r).elim
    | some _=>rfl
theorem KV.any {kvs : List (κ×V)} {vs : List (κ×Value)} (r : KV kvs vs) (k : κ) : (kvs.any fun kv=>decide (kv.1=k))=vs.any fun kv=>decide (kv.1=k):=by
  unfold KV at r
  induction r with
  | nil=>rfl
  | cons h t ih=>rw [List.any_cons,List.any_cons,ih,h.1]
theorem KV.repl {kvs : List (κ×V)} {vs : List (κ×Value)} (r : KV kvs vs) (k : κ) {y : V} {u : Value} (ry : RelV y u) :
    KV (kvs.map fun kv=>if kv.1=k then (kv.1,y) else kv) (vs.map fun kv=>if kv.1=k then (kv.1,u) else kv):=by
  unfold KV at r ⊢
  induction r with
  | nil=>exact .nil
  | @cons p q ps qs h t ih=>
    rw [List.map_cons,List.map_cons]
    refine .cons ?_ ih
    obtain ⟨h1,h2⟩:=h
    by_cases e : p.1=k
    · rw [if_pos e,if_pos (h1.symm.trans e)]; exact ⟨h1,ry⟩
    · rw [if_neg e,if_neg (fun z=>e (h1.trans z))]; exact ⟨h1,h2⟩
theorem KV.put {kvs : List (κ×V)} {vs : List (κ×Value)} (r : KV kvs vs) (k : κ) {y : V} {u : Value} (ry : RelV y u) : KV (putK kvs k y) (stored vs k u):=by
  unfold putK stored
  rw [r.any k]
  by_cases e : (vs.any fun kv=>decide (kv.1=k))=true
  · rw [if_pos e,if_pos e]; exact r.repl k ry
  · rw [if_neg e,if_neg e]; exact Paired.snoc r ⟨rfl,ry⟩
theorem KV.length {kvs : List (κ×V)} {vs : List (κ×Value)} (r : KV kvs vs) : kvs.length=vs.length:=Paired.length r
end
theorem kV_is {P : Program} {w : World} {k : Key} {u : Value} (r : RelV (kV k) u) : (mixKind P w).is k u=true:=by
  cases k with
  | inl i=>obtain ⟨t,e⟩:=(show ∃ t,u=Value.int i t from r); subst e; exact mixKind_int P w i t
  | inr x=>obtain ⟨t,e⟩:=(show ∃ t,u=Value.str x t from r); subst e; exact mixKind_str P w x t
theorem items_are {P : Program} {w : World} : ∀ {ks : List Key} {us : List Value},Vals (ks.map kV) us→ItemsAre (mixKind P w) ks us
  | [],_,r=>by rw [List.map_nil] at r; cases r; exact .nil
  | k :: ks,_,r=>by
    rw [List.map_cons] at r
    cases r with
    | cons h t=>exact .cons (kV_is h) (items_are t)
abbrev KT (H : Hp) : List (List Key×V)→List (List Key×Addr×Value)→Prop:=Paired fun p q=>p.1=q.1∧H q.2.1=some (.tup (p.1.map kV))∧RelV p.2 q.2.2
theorem KT.val {H : Hp} {kvs : List (List Key×V)} {xs : List (List Key×Addr×Value)} (r : KT H kvs xs) (k : List Key) : RelO (valV kvs k) ((atKey xs k).map (·.2)):=by
  induction r with
  | nil=>exact True.intro
  | @cons p q ps qs h t ih=>
    obtain ⟨h1,_,h2⟩:=h
    by_cases e : p.1=k
    · have e' : q.1=k:=h1.symm.trans e
      have b : atKey (q :: qs) k=some q.2:=by simp [atKey,List.find?_cons,e']
      rw [valV_pos e,b]; exact h2
    · have e' : ¬ q.1=k:=fun z=>e (h1.trans z)
      have b : atKey (q :: qs) k=atKey qs k:=by simp [atKey,List.find?_cons,e']
      rw [valV_neg e,b]; exact ih
theorem KT.repl {H : Hp} {kvs : List (List Key×V)} {xs : List (List Key×Addr×Value)} (r : KT H kvs xs) (k : List Key) {y : V} {u : Value} (ry : RelV y u) :
    KT H (kvs.map fun kv=>if kv.1=k then (kv.1,y) else kv) (xs.map (putAt k u)):=by
  induction r with
  | nil=>exact .nil
  | @cons p q ps qs h t ih=>
    rw [List.map_cons,List.map_cons]
    refine .cons ?_ ih
    obtain ⟨h1,h2,h3⟩:=h
    unfold putAt
    by_cases e : p.1=k
    · rw [if_pos e,if_pos (h1.symm.trans e)]; exact ⟨h1,h2,ry⟩
    · rw [if_neg e,if_neg (fun z=>e (h1.trans z))]; exact ⟨h1,h2,h3⟩
theorem KT.put {H : Hp} {kvs : List (List Key×V)} {xs : List (List Key×Addr×Value)} (r : KT H kvs xs) (k : List Key) {b : Addr} {y : V} {u : Value} (hb : H b=some (.tup (k.map kV))) (ry : RelV y u) :
    KT H (putK kvs k y) (storedH xs k b u):=by
  have e : (kvs.any fun kv=>decide (kv.1=k))=(atKey xs k).isSome:=by
    rw [valV_any,(r.val k).isSome_eq,Option.isSome_map]
  unfold putK storedH
  rw [e]
  by_cases q : (atKey xs k).isSome=true
  · rw [if_pos q,if_pos q]; exact r.repl k ry
  · rw [if_neg q,if_neg q]; exact Paired.snoc r ⟨rfl,hb,ry⟩
theorem KT.keeps {H H' : Hp} {kvs : List (List Key×V)} {xs : List (List Key×Addr×Value)} (r : KT H kvs xs) (ht : ∀ b ys,H b=some (.tup ys)→H' b=some (.tup ys)) : KT H' kvs xs:=
  Paired.mapP r fun _ _ z=>⟨z.1,ht _ _ z.2.1,z.2.2⟩
section
variable {P : Program} {w : World} {H : Hp} {h : Heap} {a : Addr}
theorem rd_of {u : HO} (ok : HOk P w H h) (e : Rd H a u) : ObjOk P w H h a u:=e.ok ok
theorem dk_rd {kvs : List (Key×V)} (ok : HOk P w H h) (e : Rd H a (.dK kvs)) : kvs.length≤sizeLine∧(a == sysModules)=false∧∃ vs,KV kvs vs∧h.DictOf (mixKind P w) a vs:=
  show ObjOk P w H h a (.dK kvs) from rd_of ok e
theorem dk_of {kvs : List (Key×V)} (ok : HOk P w H h) (e : H a=some (.dK kvs)) : kvs.length≤sizeLine∧(a == sysModules)=false∧∃ vs,KV kvs vs∧h.DictOf (mixKind P w) a vs:=dk_rd ok (.inl e)
theorem key_of {ks : List Key} (ok : HOk P w H h) (e : H a=some (.tup (ks.map kV))) : (tupleKind (mixKind P w)).is h ks a:=by
  obtain ⟨_,its,r,o,h1,h2,n,h3⟩:=(show ObjOk P w H h a (.tup (ks.map kV)) from ok a _ e)
  exact ⟨o,its.toArray,n,h1,h2,h3,by simpa using items_are r⟩
theorem dt_rd {kvs : List (List Key×V)} (ok : HOk P w H h) (e : Rd H a (.dT kvs)) : kvs.length≤sizeLine∧(a == sysModules)=false∧
    ∃ xs,KT H kvs xs∧h.DictOfH (tupleKind (mixKind P w)) a xs:=by
  obtain ⟨z,y,xs,r,o,es,ep,h1,h2,h3,h4,h5⟩:=(show ObjOk P w H h a (.dT kvs) from rd_of ok e)
  refine ⟨z,y,xs,r,o,es,ep,h1,h2,h3,h4,fun x hx=>?_,h5⟩
  have all : ∀ {l : List (List Key×V)} {m : List (List Key×Addr×Value)},KT H l m→∀ x∈m,(tupleKind (mixKind P w)).is h x.1 x.2.1:=by
    intro l m q
    induction q with
    | nil=>intro x hx; exact nomatch hx
    | @cons p q ps qs hq t ih=>
      intro x hx
      rcases List.mem_cons.mp hx with e | hx
      · subst e
        exact key_of ok (by rw [← hq.1]; exact hq.2.1)
      · exact ih x hx
  exact all r x hx
theorem dt_of {kvs : List (List Key×V)} (ok : HOk P w H h) (e : H a=some (.dT kvs)) : kvs.length≤sizeLine∧(a == sysModules)=false∧
    ∃ xs,KT H kvs xs∧h.DictOfH (tupleKind (mixKind P w)) a xs:=dt_rd ok (.inl e)
end
def DPut (H : Hp) (a : Addr) (y v : V) (H' : Hp) : Prop:=
  (∃ kvs k,H a=some (.dK kvs)∧y=kV k∧kvs.length < sizeLine∧H' = upd H a (.dK (putK kvs k v)))∨
  ∃ kvs k b,H a=some (.dT kvs)∧y = .ref b∧H b=some (.tup (k.map kV))∧kvs.length < sizeLine∧H' = upd H a (.dT (putK kvs k v))
theorem DPut.t {H : Hp} {a b : Addr} {kvs : List (List Key×V)} {k : List Key} {v : V} (e : H a=some (.dT kvs)) (eb : H b=some (.tup (k.map kV))) (hl : kvs.length < sizeLine) :
    DPut H a (.ref b) v (upd H a (.dT (putK kvs k v))):=.inr ⟨kvs,k,b,e,rfl,eb,hl,rfl⟩
section
variable {X : Cx} {pins : List (Addr×Obj)} {σ : St} {H : Hp} {s : Shared} {a : Addr} {y v : V} {u r : Value} {o : Option V} {A : Around} {E : Value→Shared→Prop}
theorem Inv.big (I : Inv X pins σ H s) : sysModules < s.heap.objs.size:=by
  have h : mainGlobals < s.heap.objs.size:=(I.mod.glob.keeps I.bk).lt
  exact Nat.lt_trans (by decide) h
theorem d_write {h' : Heap} {t' : Nat} {ob : HO} (I : Inv X pins σ H s) (mu : Mut (H a)) (hs : Heap.SameBut a s.heap h') (he : ∃ q,h'.get? a=some q) (new : ObjOk X.prog X.w (upd H a ob) h' a ob) :
    Inv X pins σ (upd H a ob) { s with heap:=h',toks:=t' }:=
  I.write (x:=a) (e:=a) mu (.inl rfl) (fun b q hb z=>(hs.2 b hb).trans z) he new
theorem dk_new {P : Program} {w : World} {H' : Hp} {h' : Heap} {kvs : List (Key×V)} {vs : List (Key×Value)} (z : kvs.length≤sizeLine) (hd : (a == sysModules)=false) (rel : KV kvs vs) (dd : h'.DictOf (mixKind P w) a vs) :
    ObjOk P w H' h' a (.dK kvs):=⟨z,hd,vs,rel,dd⟩
theorem d_setItem {H' : Hp} {Q : Unit→Shared→Prop} (hu : A.units + 1 < cLine) (I : Inv X pins σ H s) (g : DPut H a y v H') (ry : RelV y u) (rv : RelV v r) (h : ∀ s',Inv X pins σ H' s'→Q () s') :
    wpAny (model X.prog X.w) A (setItem (.ref a) u r) Q E s:=by
  rcases g with ⟨kvs,k,e,ey,l,eH⟩ | ⟨kvs,k,b,e,ey,eb,l,eH⟩
  · subst ey eH
    obtain ⟨z,hd,vs,rel,dd⟩:=dk_of I.hok e
    have hz : vs.length≤sizeLine:=by rw [← rel.length]; exact z
    have hl : (putK kvs k v).length≤sizeLine:=by have:=length_putK kvs k v; omega
    refine wpAny_setItem_pairs (hsz:=hz) (kV_is ry) dd fun h' dd' hs=>h _ ?_
    have he : ∃ q,h'.get? a=some q:=let ⟨q,_,_,hq,_⟩:=dd'; ⟨q,hq⟩
    exact d_write I (by rw [e]; exact True.intro) hs he (dk_new hl hd (rel.put k rv) dd')
  · subst ey eH
    cases (show u=Value.ref b from ry)
    obtain ⟨z,hd,xs,rel,dd⟩:=dt_of I.hok e
    have hz : xs.length≤sizeLine:=by rw [← Paired.length rel]; exact z
    have hl : (putK kvs k v).length≤sizeLine:=by have:=length_putK kvs k v; omega
    refine wpAny_setItem_heap (hsz:=hz) (tupleKind_room_in1 hu) (key_of I.hok eb) dd fun h' dd' hs=>h _ ?_
    obtain ⟨q,es,ep,hq,h2,h3,h4,_,h5⟩:=dd'
    refine d_write I (by rw [e]; exact True.intro) hs ⟨q,hq⟩ ⟨hl,hd,_,(rel.put k eb rv).keeps fun c ys ec=>?_,q,es,ep,hq,h2,h3,h4,h5⟩
    rw [upd_ne (ne_of ec e (fun z=>nomatch z))]
    exact ec
end
section
variable {X : Cx} {pins : List (Addr×Obj)} {σ : St} {H : Hp} {s : Shared} {a : Addr} {kvs : List (Key×V)} {k : Key} {u : Value} {A : Around} {E : Value→Shared→Prop}
end
def sDPut (td ty tv : TE) : TS:=fun D σ H=>tv σ H fun v H1=>td σ H1 fun x H2=>ty σ H2 fun y H3=>∃ a H4,x = .ref a∧DPut H3 a y v H4∧D.nx σ H4
section
variable {X : Cx} {o i e value : Expr} {pos pos' tpos : Pos} {td ty tv : TE}
theorem ps_dput (hu : X.A.units + 1 < cLine) (ho : PE X o td) (hi : PE X i ty) (hv : PE X value tv) (hs : swapsWith value (some (.Subscript o i pos')) pos.line X.env=pure false) :
    PS X (.Assign [.Subscript o i pos'] value pos) (sDPut td ty tv):=by
  intro pins s σ H D I h
  refine wpAny_Assign_Subscript (thn (hv pins s σ H _ I h) fun r s1 ⟨v,H1,I1,rv,q1⟩=>thn (ho pins s1 σ H1 _ I1 q1) fun u s2 ⟨x,H2,I2,rx,q2⟩=>thn (hi pins s2 σ H2 _ I2 q2) fun iv s3 ⟨y,H3,I3,ry,a,H4,ex,g,q3⟩=>?_) hs
  subst ex
  obtain rfl : u=Value.ref a:=rx
  exact d_setItem hu I3 g ry rv fun s4 I4=>⟨σ,H4,I4,q3⟩
end
theorem dt_empty {P : Program} {w : World} {H : Hp} (h : Heap) (hb : sysModules < h.objs.size) : ObjOk P w H (h.push { cls:=.type "dict",data:=.dict #[] }) h.objs.size (.dT []) :=
  ⟨Nat.zero_le _,beq_eq_false_iff_ne.mpr (Ne.symm (Nat.ne_of_lt hb)),[],.nil,_,#[],0,Heap.get?_push_size _ rfl,⟨rfl,rfl,rfl⟩,rfl,rfl,List.nodup_nil⟩
def tDNewT : TE:=fun _ H Q=>∀ p,H p=none→Q (.ref p) (upd H p (.dT []))
section
variable {X : Cx} {pos : Pos}
theorem pe_dnewT : PE X (.Dict [] [] pos) tDNewT:=fun pins s σ H Q I h=>
  wpAny_Dict_empty ⟨.ref s.heap.objs.size,_,I.laid (a:=s.heap.objs.size) (o:=.dT []) (t':=s.toks) (fun _ _ q=>Heap.get?_push_of_some _ q) (Nat.le_refl _) (dt_empty s.heap I.big),rfl,h _ (I.hok.fresh (Nat.le_refl _))⟩
end
def IsD (H : Hp) (a : Addr) : Prop:=(∃ kvs,Rd H a (.dK kvs))∨∃ kvs,Rd H a (.dT kvs)
theorem isD_at {X : Cx} {pins : List (Addr×Obj)} {σ : St} {H : Hp} {s : Shared} {a : Addr} (I : Inv X pins σ H s) (d : IsD H a) :
    s.TypeIs (.ref a) "dict" ∧ (∀ b,Value.ref a = .ref b→∃ ob,s.heap.get? b=some ob∧ob.dict=none)∧(a == sysModules)=false:=by
  rcases d with ⟨kvs,e⟩ | ⟨kvs,e⟩
  · obtain ⟨_,hd,vs,_,dd⟩:=dk_rd I.hok e
    refine ⟨dd.typeIs,fun b q=>?_,hd⟩
    cases q
    obtain ⟨ob,_,_,h1,h2,_⟩:=dd
    exact ⟨ob,h1,h2.2.1⟩
  · obtain ⟨_,hd,xs,_,dd⟩:=dt_rd I.hok e
    refine ⟨dd.typeIs,fun b q=>?_,hd⟩
    cases q
    obtain ⟨ob,_,_,h1,h2,_⟩:=dd
    exact ⟨ob,h1,h2.2.1⟩
section
variable {X : Cx} {pins : List (Addr×Obj)} {σ : St} {H : Hp} {s : Shared} {a : Addr} {y d : V} {u r : Value} {o : Option V} {A : Around} {E : Value→Shared→Prop}
end
section
variable {X : Cx} {o e f : Expr} {apos cpos : Pos} {td ty tx : TE}
end
section
variable {X : Cx} {pins : List (Addr×Obj)} {σ : St} {H : Hp} {s : Shared} {a : Addr} {kvs : List (Key×V)} {A : Around} {E : Value→Shared→Prop}
end
section
variable {X : Cx} {pins : List (Addr×Obj)} {σ : St} {H : Hp} {s : Shared} {a : Addr} {y : V} {u : Value} {A : Around} {E : Value→Shared→Prop}
end
end L2
namespace L2
open PySem PySem.Spec PyProof.Rows
section
variable {X : Cx} {pins : List (Addr×Obj)} {σ : St} {H : Hp} {s : Shared}
theorem d_dictSet {a b : Addr} {kvs : List (List Key×V)} {k : List Key} {v : V} {r : Value} {A : Around} {E : Value→Shared→Prop} {Q : Unit→Shared→Prop} (hu : A.units < cLine) (I : Inv X pins σ H s) (e : H a=some (.dT kvs)) (eb : H b=some (.tup (k.map kV))) (l : kvs.length < sizeLine) (rv : RelV v r)
    (h : ∀ s',Inv X pins σ (upd H a (.dT (putK kvs k v))) s'→Q () s') : wpAny (model X.prog X.w) A (dictSet a (.ref b) r) Q E s:=by
  obtain ⟨z,hd,xs,rel,dd⟩:=dt_of I.hok e
  have lp:=length_putK kvs k v
  refine wpAny_dictSet_heap (hsz:=by rw [← Paired.length rel]; exact z) (show (tupleKind (mixKind X.prog X.w)).room A from hu) (key_of I.hok eb) dd fun h' dd' hs=>h _ ?_
  obtain ⟨q,es,ep,hq,h2,h3,h4,_,h5⟩:=dd'
  refine d_write I (by rw [e]; exact True.intro) hs ⟨q,hq⟩ ⟨by omega,hd,_,(rel.put k eb rv).keeps fun c ys ec=>?_,q,es,ep,hq,h2,h3,h4,h5⟩
  rw [upd_ne (ne_of ec e (fun z=>nomatch z))]; exact ec
theorem Inv.freeze {a : Addr} {u : HO} {o : Obj} (I : Inv X pins σ H s) (e : H a=some u) (mu : Mut (H a)) (ho : s.heap.get? a=some o) (hu : ObjOk X.prog X.w (upd H a (.frz o u)) s.heap a u) : Inv X pins σ (upd H a (.frz o u)) s:=
  I.write (x:=a) (e:=a) (t':=s.toks) (h':=s.heap) mu (.inl rfl) (fun b q _ z=>z) ⟨o,ho⟩ ⟨ho,hu⟩
def tFrz (t : TE) : TE:=fun σ H Q=>t σ H fun x H1=>∃ a kvs,x = .ref a∧H1 a=some (.dT kvs)∧∀ o,Q x (upd H1 a (.frz o (.dT kvs)))
theorem pe_frz {e : Expr} {t : TE} (h : PE X e t) : PE X e (tFrz t):=by
  intro pins s σ H Q I hw
  refine thn (h pins s σ H _ I hw) fun v s1 ⟨x,H1,I1,r1,a,kvs,ex,ea,q⟩=>?_
  obtain ⟨z,hd,xs,rel,o,es,ep,h1,h2,h3,h4,h5⟩:=(show ObjOk X.prog X.w H1 s1.heap a (.dT kvs) from I1.hok a _ ea)
  refine ⟨x,_,I1.freeze ea (by rw [ea]; exact True.intro) h1 ⟨z,hd,xs,Paired.mapP rel fun _ _ y=>⟨y.1,?_,y.2.2⟩,o,es,ep,h1,h2,h3,h4,h5⟩,r1,q o⟩
  rw [upd_ne (ne_of y.2.1 ea (fun z=>nomatch z))]; exact y.2.1
end
def tDComp (ix : List (Option Nat)) (wi : TI) (g : TG) (ti : TT) (tk tv : TE) : TE:=fun σ H Q=>wi σ H fun J H1=>∀ D,H1 D=none→∃ W : Nat→Nat→Hp→Prop,(∃ m,W 0 m (upd H1 D (.dT [])))∧∀ i m H,W i m H→
  (J.stop i H∧Q (.ref D) H)∨(J.go i H∧∀ x H',J.yld i H x H'→g x (compSt ix σ) H' fun σ2 H2=>(∀ (k : Nat) v,(compSt ix σ)[k]? = some (some v)→σ2[k]? = some (some v))∧ti σ2 H2 fun b H3=>
    if b=true then tk σ2 H3 fun y H4=>tv σ2 H4 fun z H5=>∃ kvs k bb,H5 D=some (.dT kvs)∧y = .ref bb∧H5 bb=some (.tup (k.map kV))∧kvs.length < sizeLine∧∃ m',m' < m∧W (i + 1) m' (upd H5 D (.dT (putK kvs k z))) else ∃ m',m' < m∧W (i + 1) m' H3)
section
variable {X : Cx} {N' : List Str} {ix : List (Option Nat)} {scope : Scope} {kx vx tg iter : Expr} {ifs : List Expr} {pos : Pos} {wi : TI} {g : TG} {ti : TT} {tk tv : TE}
theorem dcomp_loop {X' : Cx} {σ₀ : St} {H : Hp} {s : Shared} {Q : VK} {it D : Addr} {fp : List Addr} {tn : Nat→Heap→Prop} {J : It} {W : Nat→Nat→Hp→Prop} {m0 : Nat} (hu : X'.A.units < cLine) (I : Inv X' [] σ₀ H s) (hcalm : X'.calm=true) (hxe : X'.xe=fun _ _=>False)
    (T : Turn X'.prog X'.w X'.K tg J fp it tn) (st : tn 0 s.heap) (hf : ∀ b∈fp,FpOk X' [] H b) (hg : PG X' tg g) (hi : PIfs X' ifs ti) (hk : PE X' kx tk) (hv : PE X' vx tv) (w0 : W 0 m0 H)
    (turn : ∀ i m H,W i m H→(J.stop i H∧Q (.ref D) H)∨(J.go i H∧∀ x H',J.yld i H x H'→g x σ₀ H' fun σ2 H2=>(∀ (k : Nat) v,σ₀[k]? = some (some v)→σ2[k]? = some (some v))∧ti σ2 H2 fun b H3=>
        if b=true then tk σ2 H3 fun y H4=>tv σ2 H4 fun z H5=>∃ kvs k bb,H5 D=some (.dT kvs)∧y = .ref bb∧H5 bb=some (.tup (k.map kV))∧kvs.length < sizeLine∧∃ m',m' < m∧W (i + 1) m' (upd H5 D (.dT (putK kvs k z))) else ∃ m',m' < m∧W (i + 1) m' H3)) :
    codeAny (model X'.prog X'.w) X'.A (.compStart (.DictComp kx vx [⟨tg,iter,ifs,0⟩] scope pos) 0 (.ref it) (.ref D) X'.env) (fun r s'=>(∃ f,r = .ok f)∧∃ H',Inv X' [] σ₀ H' s'∧Q (.ref D) H') s:=by
  have stat : ∀ {H' : Hp},(∀ b∈fp,H' b=none)→∀ b∈fp,FpOk X' [] H' b:=fun hn b hb=>⟨hn b hb,(hf b hb).2⟩
  have loop : codeAny (model X'.prog X'.w) X'.A (.compLoop (.DictComp kx vx [⟨tg,iter,ifs,0⟩] scope pos) 0 (.ref it) (.ref D) X'.env) (fun r s'=>(∃ f,r = .ok f)∧∃ H',Inv X' [] σ₀ H' s'∧Q (.ref D) H') s:=by
    refine codeAny_loop rfl (fun n s'=>∃ i H',Inv X' [] σ₀ H' s'∧tn i s'.heap∧(∀ b∈fp,H' b=none)∧W i n H') ?_ m0 ⟨0,H,I,st,fun b hb=>(hf b hb).1,w0⟩
    rintro n s1 ⟨i,H1,I1,st1,fr1,w1⟩
    show wpAny _ X'.A ((compTurn (.DictComp kx vx [⟨tg,iter,ifs,0⟩] scope pos) 0 (.ref it) (.ref D) X'.env).onRaise (fun x=>do noteFrame x X'.env; theTreesLotGoes x)) _ _ s1
    refine wpAny_noted ?_
    have noE : ∀ {α : Type} {t : Sem α} {P : α→Shared→Prop} {F : Value→Shared→Prop} {s : Shared},wpAny (model X'.prog X'.w) X'.A t P X'.xe s→wpAny (model X'.prog X'.w) X'.A t P F s:=fun h=>wpAny_mono h (fun _ _ x=>x) fun e s' x=>by rw [hxe] at x; exact x.elim
    rw [compTurn_dict]
    refine wpAny_bind (wpAny_standAt (wpAny_bind ?_))
    rcases turn i n H1 w1 with ⟨stop,qn⟩ | ⟨go,step⟩
    · refine thn (T.done X' rfl rfl rfl hcalm i [] s1 σ₀ H1 _ I1 (stat fr1) st1 stop) fun r s2 ⟨hr,I2⟩=>?_
      subst hr
      exact wpAny_pure ⟨⟨_,rfl⟩,H1,I2,qn⟩
    · refine thn (T.item X' rfl rfl rfl hcalm i [] s1 σ₀ H1 _ I1 (stat fr1) st1 go) fun r s2 ⟨u,hr,h2⟩=>?_
      subst hr
      refine wpAny_bind (thn h2 fun _ s3 ⟨x,H3,I3,r3,y3,st3,fr3⟩=>?_)
      have I3':=I3.pinned (stat fr3) (T.obj _ _ st3)
      refine wpAny_bind (noE (thn (hg _ s3 σ₀ H3 x u _ I3' r3 (step x H3 y3)) fun _ s4 ⟨σ4,H4,I4,hk4,q4⟩=>?_))
      refine wpAny_bind (noE (thn (hi _ s4 σ4 H4 _ I4 q4) fun ok s5 ⟨H5,I5,q5⟩=>?_))
      have again' : ∀ {s7 : Shared} {H7 : Hp} {m' : Nat},Inv X' ([] ++ pinsAt fp s3.heap) σ4 H7 s7→m' < n→W (i + 1) m' H7→∃ m,m < n∧∃ i H',Inv X' [] σ₀ H' s7∧tn i s7.heap∧(∀ b∈fp,H' b=none)∧W i m H':=fun {s7 H7 m'} I7 hm w7=>by
        refine ⟨m',hm,i + 1,H7,I7.unpinned.weak (by rw [I3.len,I7.len]) hk4,T.keep _ _ _ st3 fun b hb o e=>(I7.pin (b,o) (List.mem_append_right _ (List.mem_append_right _ (mem_pinsAt hb e)))).1,fun b hb=>?_,w7⟩
        obtain ⟨o,e,d⟩:=T.obj _ _ st3 b hb
        exact (I7.pin (b,o) (List.mem_append_right _ (List.mem_append_right _ (mem_pinsAt hb e)))).2.1
      cases ok with
      | false=>
        obtain ⟨m',hm,w7⟩:=q5
        exact wpAny_pure ⟨rfl,again' I5 hm w7⟩
      | true=>
        refine wpAny_bind (wpAny_bind (noE (thn (hk _ s5 σ4 H5 _ I5 q5) fun kv s6 ⟨yv,H6,I6,r6,q6⟩=>?_)))
        refine wpAny_bind (wpAny_holding (noE (thn (hv _ s6 σ4 H6 _ I6 q6) fun vv s7 ⟨zv,H7,I7,r7,kvs,k,bb,hD,ey,hbb,hz,m',hm,w7⟩=>?_)))
        subst ey
        cases r6
        refine wpAny_bind (wpAny_standAt (wpAny_holding ?_))
        exact d_dictSet hu I7 hD hbb hz r7 fun s8 I8=>wpAny_pure ⟨rfl,again' I8 hm w7⟩
  refine codeAny_compStart_dict loop (T.self _ 0 s _ _ st loop)
theorem dcomp_block {pins : List (Addr×Obj)} {σ : St} {H : Hp} {s : Shared} {Q : VK} {it : Addr} {fp : List Addr} {tn : Nat→Heap→Prop} {J : It} {E : Value→Shared→Prop} (hu : X.A.units < cLine) (I : Inv X pins σ H s) (hcalm : X.calm=true) (S : CompScope X N' ix scope)
    (T : Turn X.prog X.w X.K tg J fp it tn) (st : tn 0 s.heap) (hf : ∀ b∈fp,FpOk X pins H b)
    (hg : ∀ C s H fp,PG (cxComp X N' scope C s H fp) tg g) (hi : ∀ C s H fp,PIfs (cxComp X N' scope C s H fp) ifs ti) (hk : ∀ C s H fp,PE (cxComp X N' scope C s H fp) kx tk) (hv : ∀ C s H fp,PE (cxComp X N' scope C s H fp) vx tv)
    (h : ∀ D,H D=none→∃ W : Nat→Nat→Hp→Prop,(∃ m,W 0 m (upd H D (.dT [])))∧∀ i m H,W i m H→
      (J.stop i H∧Q (.ref D) H)∨(J.go i H∧∀ x H',J.yld i H x H'→g x (compSt ix σ) H' fun σ2 H2=>(∀ (k : Nat) v,(compSt ix σ)[k]? = some (some v)→σ2[k]? = some (some v))∧ti σ2 H2 fun b H3=>
        if b=true then tk σ2 H3 fun y H4=>tv σ2 H4 fun z H5=>∃ kvs k bb,H5 D=some (.dT kvs)∧y = .ref bb∧H5 bb=some (.tup (k.map kV))∧kvs.length < sizeLine∧∃ m',m' < m∧W (i + 1) m' (upd H5 D (.dT (putK kvs k z))) else ∃ m',m' < m∧W (i + 1) m' H3)) :
    wpAny (model X.prog X.w) X.A newDict (fun acc s3=>wpAny (model X.prog X.w) X.A (newFunctionEnv scope X.env.globals (clOf X.env scope.names []) [] X.env.qual none .none (some X.env)) (fun cenv s4=>
      codeAny (model X.prog X.w) X.A (.compStart (.DictComp kx vx [⟨tg,iter,ifs,0⟩] scope pos) 0 (.ref it) acc { cenv with scope:=relabel scope X.env }) (CompEnd X pins σ Q acc cenv.locals) s4) E s3) E s:=by
  refine wpAny_newObj_type ?_
  have fresh0 : H s.heap.objs.size=none:=I.hok.fresh (Nat.le_refl _)
  have I3 : Inv X pins σ (upd H s.heap.objs.size (.dT [])) { s with heap:=s.heap.push { cls:=.type "dict",data:=.dict #[] } } :=
    I.laid (a:=s.heap.objs.size) (o:=.dT []) (t':=s.toks) (fun b u e=>Heap.get?_push_of_some _ e) (Nat.le_refl _) (dt_empty s.heap I.big)
  obtain ⟨W,⟨m0,w0⟩,turn⟩:=h s.heap.objs.size fresh0
  generalize hD : s.heap.objs.size=D at *
  have lt0 : ∀ b∈fp,b < s.heap.objs.size:=fun b hb=>by obtain ⟨o,e,_⟩:=T.obj 0 _ st b hb; exact Heap.lt_size e
  have hf3 : ∀ b∈fp,FpOk X pins (upd H D (.dT [])) b:=fun b hb=>by
    have nb : b≠D:=by rw [← hD]; exact Nat.ne_of_lt (lt0 b hb)
    obtain ⟨f0,fr⟩:=hf b hb
    exact ⟨by rw [upd_ne nb]; exact f0,fr⟩
  have st3 : tn 0 (s.heap.push { cls:=.type "dict",data:=.dict #[] }):=T.keep _ _ _ st fun b hb o e=>Heap.get?_push_of_some _ e
  revert I3 st3
  generalize (s.heap.push { cls:=.type "dict",data:=.dict #[] })=h3
  intro I3 st3
  have lt3 : ∀ b∈fp,b < h3.objs.size:=fun b hb=>by obtain ⟨o,e,_⟩:=T.obj 0 _ st3 b hb; exact Heap.lt_size e
  refine wpAny_newFunctionEnv S.nocell (fun x hx=>nomatch hx) (fun h4 hns hsb=>?_) S.kind
  have k4 : ∀ b o,h3.get? b=some o→h4.get? b=some o:=fun b o e=>(hsb.2 b (Nat.ne_of_lt (Heap.lt_size e))).trans (Heap.get?_push_of_some _ e)
  have J4 : Inv (cxComp X N' scope h3.objs.size { s with heap:=h3 } (upd H D (.dT [])) fp) [] (compSt ix σ) (upd H D (.dT [])) { s with heap:=h4,toks:=s.toks + ([] : List (Str×Value)).length }:=
    inv_comp (s:={ s with heap:=h3 }) (tk:=s.toks + ([] : List (Str×Value)).length) I3 hcalm S hf3 lt3 hns k4
  have st4 : tn 0 ({ s with heap:=h4,toks:=s.toks + ([] : List (Str×Value)).length } : Shared).heap:=T.keep _ _ _ st3 fun b hb o e=>k4 b o e
  have fr4 : ∀ b∈fp,upd H D (.dT []) b=none:=fun b hb=>(hf3 b hb).1
  revert J4 st4
  generalize ({ s with heap:=h4,toks:=s.toks + ([] : List (Str×Value)).length } : Shared)=s4
  intro J4 st4
  have hf4 : ∀ b∈fp,FpOk (cxComp X N' scope h3.objs.size { s with heap:=h3 } (upd H D (.dT [])) fp) [] (upd H D (.dT [])) b:=fun b hb=>
    ⟨fr4 b hb,Nat.ne_of_lt (lt3 b hb),J4.ok.exfs b hb,.inl hb,fun x c e=>(J4.ok.exf b hb).2 x c e,fun p hp=>nomatch hp⟩
  refine codeAny_mono (dcomp_loop (X':=cxComp X N' scope h3.objs.size { s with heap:=h3 } (upd H D (.dT [])) fp) (Q:=Q) (D:=D) hu J4 rfl rfl T st4 hf4 (hg _ _ _ _) (hi _ _ _ _) (hk _ _ _ _) (hv _ _ _ _) w0 turn) fun r s' ⟨hr,H',J',q'⟩=>?_
  refine ⟨D,H',rfl,hr,I3.call' J'.os J'.base J'.hok J'.bare fun b hb=>?_,?_,?_,q'⟩
  · obtain ⟨_,f1,_,f3,f4,f5⟩:=hf3 b hb
    exact ⟨f3,f1,f4,f5⟩
  · exact I3.fpOk (H':=H') (Nat.le_refl _) J'.free
  · obtain ⟨m,hn,_⟩:=J'.loc
    exact ⟨m,hn⟩
theorem pe_dcomp (hu : X.A.units < cLine) (hcalm : X.calm=true) (S : CompScope X N' ix scope) (hit : PI X tg iter wi)
    (hg : ∀ C s H fp,PG (cxComp X N' scope C s H fp) tg g) (hi : ∀ C s H fp,PIfs (cxComp X N' scope C s H fp) ifs ti) (hk : ∀ C s H fp,PE (cxComp X N' scope C s H fp) kx tk) (hv : ∀ C s H fp,PE (cxComp X N' scope C s H fp) vx tv)
    (hs : ∀ x,foldedSetIterable iter X.env x=pure x:=by intro _; rfl) : PE X (.DictComp kx vx [⟨tg,iter,ifs,0⟩] scope pos) (tDComp ix wi g ti tk tv):=by
  intro pins s σ H Q I h
  show wpAny _ X.A (comprehension (.DictComp kx vx [⟨tg,iter,ifs,0⟩] scope pos) scope X.env _ newDict false (eval iter X.env)) _ _ s
  refine wpAny_comprehension_free (use:=none) rfl hs (comp_closure I S) S.kind S.loc (thn (hit pins s σ H _ I h) fun v s1 h1=>thn h1 fun itv s2 h2=>?_)
  obtain ⟨it,fp,tn,J,H2,rfl,I2,T,st2,f2,q2⟩:=h2
  refine thn (dcomp_block (E:=X.xe) (kx:=kx) (vx:=vx) (iter:=iter) (pos:=pos) hu I2 hcalm S T st2 f2 hg hi hk hv q2) fun acc s3 h3=>thn h3 fun cenv s4 h4=>codeAny_mono h4 fun r s' hr=>?_
  obtain ⟨D,H',rfl,⟨f,rfl⟩,I',⟨g0,g1,_,g3,g4,g5⟩,⟨m,hm⟩,q'⟩:=hr
  exact ⟨m,hm,fun h' hsb=>⟨.ref D,H',I'.turned (t':=s'.toks) (fun b o hb e=>(hsb.2 b hb).trans e) g0 g1 g3 g4 g5,rfl,q'⟩⟩
end
end L2
namespace L2
open PySem PySem.Spec PyProof.Rows
section
variable {prog : Program} {w : World} {A : Around} {E : Value→Shared→Prop} {s : Shared}
def RawD (h : Heap) (d : Addr) (es : Array DictEntry) (ep : Nat) : Prop:=∃ o,h.get? d=some o∧o.data = .dict es ep
theorem raw_iter {v d : Addr} {es : Array DictEntry} {ep : Nat} {Q : Value→Shared→Prop} (hv : s.heap.IsItemsView v d) (hm : RawD s.heap d es ep)
    (hQ : Q (.ref s.heap.objs.size) { s with heap:=s.heap.push { cls:=.type "dict_itemiterator",data:=.fields #[.none,.bool false,.ref d,.int 0 0,.int es.size 0,.int ep 0,.none,.none] } }) : wpAny (model prog w) A (pyIter (.ref v)) Q E s:=by
  obtain ⟨ov,e1,_,e2⟩:=id hv
  obtain ⟨o,e3,e4⟩:=hm
  refine wpAny_pyIter_slot hv.typeIs PySem.F.slot_dict_items_iter (wpAny_call_entry PySem.F.slot_dict_items_iter hv.typeIs PySem.F.entry_dict_items_iter ?_ (PySem.F.args_dict_items_iter_1 _))
  unfold Builtin.«dict_items.__iter__»
  refine wpAny_bind (wpAny_pure (wpAny_bind ?_))
  unfold Builtin.Dict_items.dictOf
  refine wpAny_bind (wpAny_field e1 e2 (x:=.ref d) rfl (wpAny_pure (wpAny_bind ?_)))
  unfold Builtin.Dict_items.newIterator
  refine wpAny_bind (wpAny_dictEntries e3 e4 (wpAny_bind (wpAny_dictEpoch e3 e4 ?_)))
  simp only [show Builtin.Dict_items.ownsTuple "dict_itemiterator" = true from by decide,if_true]
  refine wpAny_newObj_type (wpAny_pure ⟨_,rfl,"dict_itemiterator",_,⟨_,Heap.get?_push_size _ rfl,rfl⟩,PySem.F.slot_dict_itemiterator_next.lookup,?_⟩) (by simp only [sizeOk,Builtin.Dict_items.ownedTupleFields,List.size_toArray,List.length_append,List.length_cons,List.length_nil,sizeLine_eq]; omega)
  simpa [rawInt,Builtin.Dict_items.ownedTupleFields] using hQ
theorem raw_item {it d : Addr} {i ep : Nat} {es : Array DictEntry} {ok ov : Value} {Q : Option Value→Shared→Prop} (hit : IsItemIter s.heap it d i es.size ep ok ov) (hm : RawD s.heap d es ep) (hi : i < es.size)
    (hQ : ∀ h',IsItemIterOut h' it d (i + 1) es.size ep es[i].key es[i].val s.heap.objs.size→h'.get? s.heap.objs.size=some { cls:=.type "tuple",data:=.seq #[es[i].key,es[i].val] } →
      h'.objs.size=s.heap.objs.size + 1→(∀ b o,b≠it→s.heap.get? b=some o→h'.get? b=some o)→Q (some (.ref s.heap.objs.size)) { s with heap:=h' }) : wpAny (model prog w) A (pyNext (.ref it)) Q E s:=by
  obtain ⟨hp,g,dr,tk,os⟩:=s
  obtain ⟨od,hod,hdd⟩:=hm
  have hT : Shared.TypeIs ⟨hp,g,dr,tk,os⟩ (.ref it) "dict_itemiterator" := ⟨_,hit,rfl⟩
  unfold pyNext
  refine wpAny_bind (wpAny_attempt (wpAny_callSpecial?_slot (name:=Str.ofString "__next__") hT PySem.F.slot_dict_itemiterator_next (wpAny_call_entry PySem.F.slot_dict_itemiterator_next hT PySem.F.entry_dict_itemiterator_next ?_ (PySem.F.args_dict_itemiterator_next_1 _))))
  refine wpAny_bind (wpAny_pure (wpAny_bind (wpAny_bind ?_)))
  first | refine wpAny_bind (wpAny_typeNameOfWhole_itemiter hT (wpAny_pure ?_)) | refine wpAny_bind (wpAny_typeNameOf_itemiter hT (wpAny_pure ?_))
  refine wpAny_bind (wpAny_fieldsOf hit rfl ?_)
  simp only [show Builtin.Dict_items.ownsTuple "dict_itemiterator" = true from by decide,if_true]
  show wpAny _ _ (if (Value.ref d == Value.none)=true then _ else _) _ _ _
  rw [if_neg (show ¬ ((Value.ref d == Value.none)=true) from Bool.false_ne_true)]
  refine wpAny_bind (wpAny_pure (wpAny_bind (wpAny_dictEntries hod hdd ?_)))
  rw [if_neg (by simp)]
  refine wpAny_bind (wpAny_pure (wpAny_bind (wpAny_dictEpoch hod hdd ?_)))
  rw [if_neg (by simp)]
  refine wpAny_pure ?_
  simp only [show ¬ ((i : Int) < 0) from by omega,if_false,Int.toNat_natCast,Array.getElem?_eq_getElem hi]
  refine wpAny_bind ?_
  first | refine wpAny_bind (wpAny_typeNameOfWhole_itemiter hT (wpAny_pure ?_)) | refine wpAny_bind (wpAny_typeNameOf_itemiter hT (wpAny_pure ?_))
  refine wpAny_bind (wpAny_isOneOf_itemiter hT ?_)
  show wpAny _ _ (setField (.ref it) 3 (rawInt ((i : Int) + 1)) >>= _) _ _ ⟨hp,g,dr,tk,os⟩
  refine wpAny_bind (wpAny_setField_rec hit (by simp) fun h1 x1 y1=>?_)
  have y1' : Heap.SameBut it hp h1:=y1
  have x1' : IsItemIter h1 it d (i + 1) es.size ep ok ov:=by
    unfold IsItemIter
    rw [show ((i + 1 : Nat) : Int)=(i : Int) + 1 from by omega]
    simpa [rawInt] using x1
  have hT1 : Shared.TypeIs ⟨h1,g,dr,tk,os⟩ (.ref it) "dict_itemiterator" := ⟨_,x1',rfl⟩
  refine wpAny_bind (wpAny_holding (wpAny_bind (wpAny_isOneOf_itemiter hT1 (wpAny_bind (wpAny_isOneOf_itemiter hT1 ?_)))))
  show wpAny _ _ (Builtin.Dict_items.pairFromOwner (.ref it) 6 es[i].key es[i].val) _ _ ⟨h1,g,dr,tk,os⟩
  unfold Builtin.Dict_items.pairFromOwner
  refine wpAny_bind (wpAny_newTuple ?_)
  have x2 : IsItemIter (h1.push { cls:=.type "tuple",data:=.seq #[es[i].key,es[i].val] }) it d (i + 1) es.size ep ok ov:=Heap.get?_push_of_some _ x1'
  generalize e2 : h1.push { cls:=.type "tuple",data:=.seq #[es[i].key,es[i].val] } = h2 at x2
  have z1 : h1.objs.size=hp.objs.size:=y1'.1
  have lt : it < hp.objs.size:=Heap.lt_size hit
  have t2 : h2.get? hp.objs.size=some { cls:=.type "tuple",data:=.seq #[es[i].key,es[i].val] }:=by rw [← e2,← z1]; exact Heap.get?_push_size _ rfl
  have z2 : h2.objs.size=hp.objs.size + 1:=by rw [← e2,Heap.size_push,z1]
  have k2 : ∀ b o,b≠it→hp.get? b=some o→h2.get? b=some o:=fun b o hb e=>by rw [← e2]; exact Heap.get?_push_of_some _ (y1'.extBut b o hb e)
  show wpAny _ _ (Builtin.Dict_items.ownedTupleIsFree (.ref it) >>= _) _ _ ⟨h2,g,dr,tk,os⟩
  rw [z1]
  clear e2 x1 x1' y1 y1' hT1 z1 h1
  refine wpAny_bind ?_
  unfold Builtin.Dict_items.ownedTupleIsFree
  refine wpAny_bind (wpAny_field x2 rfl (x:=.none) rfl (wpAny_pure ?_))
  simp only [if_true]
  refine wpAny_bind (wpAny_field x2 rfl (x:=ok) rfl (wpAny_bind (wpAny_field x2 rfl (x:=ov) rfl ?_)))
  refine wpAny_bind (wpAny_setField_rec x2 (by simp) fun h3 x3 y3=>?_)
  have y3' : Heap.SameBut it h2 h3:=y3
  have x3' : IsItemIter h3 it d (i + 1) es.size ep es[i].key ov:=x3
  refine wpAny_bind (wpAny_setField_rec x3' (by simp) fun h4 x4 y4=>?_)
  have y4' : Heap.SameBut it h3 h4:=y4
  have x4' : IsItemIter h4 it d (i + 1) es.size ep es[i].key es[i].val:=x4
  refine wpAny_bind (wpAny_setField_rec x4' (by simp) fun h5 x5 y5=>?_)
  have y5' : Heap.SameBut it h4 h5:=y5
  have x5' : IsItemIterOut h5 it d (i + 1) es.size ep es[i].key es[i].val hp.objs.size:=x5
  refine wpAny_bind (wpAny_setField_rec x5' (by simp) fun h6 x6 y6=>?_)
  have y6' : Heap.SameBut it h5 h6:=y6
  have x6' : IsItemIterOut h6 it d (i + 1) es.size ep es[i].key es[i].val hp.objs.size:=x6
  have all : ∀ b o,b≠it→h2.get? b=some o→h6.get? b=some o:=fun b o hb e=>y6'.extBut b o hb (y5'.extBut b o hb (y4'.extBut b o hb (y3'.extBut b o hb e)))
  refine wpAny_bind (wpAny_letGo (wpAny_pure (wpAny_pure ⟨_,rfl,wpAny_pure (hQ h6 x6' (all _ _ (Nat.ne_of_gt lt) t2) ?_ fun b o hb e=>all b o hb (k2 b o hb e))⟩)))
  show h6.objs.size=hp.objs.size + 1
  rw [y6'.1,y5'.1,y4'.1,y3'.1,z2]
theorem raw_end {it d : Addr} {i ep : Nat} {es : Array DictEntry} {ok ov : Value} {Q : Option Value→Shared→Prop} (hh : A.handled=none) (hit : IsItemIter s.heap it d i es.size ep ok ov) (hm : RawD s.heap d es ep) (hi : es.size≤i)
    (hQ : ∀ h',Heap.ExtBut it s.heap h'→Q none { s with heap:=h' }) : wpAny (model prog w) A (pyNext (.ref it)) Q E s:=by
  obtain ⟨od,hod,hdd⟩:=hm
  have hT : s.TypeIs (.ref it) "dict_itemiterator" := ⟨_,hit,rfl⟩
  unfold pyNext
  refine wpAny_bind (wpAny_attempt (wpAny_callSpecial?_slot (name:=Str.ofString "__next__") hT PySem.F.slot_dict_itemiterator_next (wpAny_call_entry PySem.F.slot_dict_itemiterator_next hT PySem.F.entry_dict_itemiterator_next ?_ (PySem.F.args_dict_itemiterator_next_1 _))))
  refine wpAny_bind (wpAny_pure (wpAny_bind (wpAny_bind ?_)))
  first | refine wpAny_bind (wpAny_typeNameOfWhole_itemiter hT (wpAny_pure ?_)) | refine wpAny_bind (wpAny_typeNameOf_itemiter hT (wpAny_pure ?_))
  refine wpAny_bind (wpAny_fieldsOf hit rfl ?_)
  simp only [show Builtin.Dict_items.ownsTuple "dict_itemiterator" = true from by decide,if_true]
  show wpAny _ _ (if (Value.ref d == Value.none)=true then _ else _) _ _ s
  rw [if_neg (show ¬ ((Value.ref d == Value.none)=true) from Bool.false_ne_true)]
  refine wpAny_bind (wpAny_pure (wpAny_bind (wpAny_dictEntries hod hdd ?_)))
  rw [if_neg (by simp)]
  refine wpAny_bind (wpAny_pure (wpAny_bind (wpAny_dictEpoch hod hdd ?_)))
  rw [if_neg (by simp)]
  refine wpAny_pure ?_
  simp only [show ¬ ((i : Int) < 0) from by omega,if_false,Int.toNat_natCast,Array.getElem?_eq_none hi]
  refine wpAny_bind ?_
  first | refine wpAny_bind (wpAny_typeNameOfWhole_itemiter hT (wpAny_pure ?_)) | refine wpAny_bind (wpAny_typeNameOf_itemiter hT (wpAny_pure ?_))
  show wpAny _ _ (setField (.ref it) 2 .none >>= _) _ _ s
  refine wpAny_bind (wpAny_setField hit rfl (by simp) ?_)
  show wpAny _ _ (newExc (.type "StopIteration") [] >>= _) _ _ _
  refine wpAny_bind ?_
  simp only [newExc,newTuple]
  refine wpAny_bind (wpAny_newObj_type ?_ (by size_fits))
  refine wpAny_bind (m:=firstArgMember _ _) (wpAny_of_eq (a:=Value.none) (by first | rfl | (simp only [firstArgMember]; rfl)) ?_)
  refine wpAny_newObj_type ?_ (by size_fits)
  simp only [raiseNew]
  refine wpAny_bind (wpAny_handled ?_)
  rw [show A.in1.handled=none from hh]
  refine wpAny_bind (wpAny_pure (wpAny_throw ?_))
  refine wpAny_bind (wpAny_isInstance (b:=true) (T := "StopIteration") ⟨_,Heap.get?_push_size _ rfl,rfl⟩ isSubtype_stop ?_)
  exact wpAny_pure (hQ _ (((Heap.SameBut.update ..).extBut.push _).push _))
end
section
variable {prog : Program} {w : World} {A : Around} {E : Value→Shared→Prop} {s : Shared}
theorem rawv_iter {v d : Addr} {es : Array DictEntry} {ep : Nat} {Q : Value→Shared→Prop} (hv : s.heap.IsValuesView v d) (hm : RawD s.heap d es ep)
    (hQ : Q (.ref s.heap.objs.size) { s with heap:=s.heap.push { cls:=.type "dict_valueiterator",data:=.fields #[.ref d,.int 0 0,.int es.size 0,.int ep 0] } }) : wpAny (model prog w) A (pyIter (.ref v)) Q E s:=by
  obtain ⟨ov,e1,_,e2⟩:=id hv
  obtain ⟨o,e3,e4⟩:=hm
  refine wpAny_pyIter_slot hv.typeIs PySem.F.slot_dict_values_iter (wpAny_call_entry PySem.F.slot_dict_values_iter hv.typeIs PySem.F.entry_dict_values_iter ?_ (PySem.F.args_dict_values_iter_1 _))
  unfold Builtin.«dict_values.__iter__»
  refine wpAny_bind (wpAny_pure (wpAny_bind ?_))
  unfold Builtin.Dict_items.dictOf
  refine wpAny_bind (wpAny_field e1 e2 (x:=.ref d) rfl (wpAny_pure (wpAny_bind ?_)))
  unfold Builtin.Dict_items.newIterator
  refine wpAny_bind (wpAny_dictEntries e3 e4 (wpAny_bind (wpAny_dictEpoch e3 e4 ?_)))
  simp only [show Builtin.Dict_items.ownsTuple "dict_valueiterator" = false from by decide,Bool.false_eq_true,if_false]
  refine wpAny_newObj_type (wpAny_pure ⟨_,rfl,"dict_valueiterator",_,⟨_,Heap.get?_push_size _ rfl,rfl⟩,PySem.F.slot_dict_valueiterator_next.lookup,?_⟩)
  simpa [rawInt] using hQ
theorem rawv_item {it d : Addr} {i ep : Nat} {es : Array DictEntry} {Q : Option Value→Shared→Prop} (hit : s.heap.IsValIter it d i es.size ep) (hm : RawD s.heap d es ep) (hi : i < es.size)
    (hQ : ∀ h',h'.IsValIter it d (i + 1) es.size ep→Heap.SameBut it s.heap h'→Q (some es[i].val) { s with heap:=h' }) : wpAny (model prog w) A (pyNext (.ref it)) Q E s:=by
  obtain ⟨o,ho,hc,hd⟩:=id hit
  obtain ⟨od,hod,hdd⟩:=hm
  unfold pyNext
  refine wpAny_bind (wpAny_attempt (wpAny_callSpecial?_slot (name:=Str.ofString "__next__") hit.typeIs PySem.F.slot_dict_valueiterator_next (wpAny_call_entry PySem.F.slot_dict_valueiterator_next hit.typeIs PySem.F.entry_dict_valueiterator_next ?_ (PySem.F.args_dict_valueiterator_next_1 _))))
  refine wpAny_bind (wpAny_pure (wpAny_bind (wpAny_bind ?_)))
  first | refine wpAny_bind (wpAny_typeNameOfWhole_valiter hit.typeIs (wpAny_pure ?_)) | refine wpAny_bind (wpAny_typeNameOf_valiter hit.typeIs (wpAny_pure ?_))
  refine wpAny_bind (wpAny_fieldsOf ho hd ?_)
  simp only [show Builtin.Dict_items.ownsTuple "dict_valueiterator" = false from by decide,Bool.false_eq_true,if_false]
  show wpAny _ _ (if (Value.ref d == Value.none)=true then _ else _) _ _ s
  rw [if_neg (show ¬ ((Value.ref d == Value.none)=true) from Bool.false_ne_true)]
  refine wpAny_bind (wpAny_pure (wpAny_bind (wpAny_dictEntries hod hdd ?_)))
  rw [if_neg (by simp)]
  refine wpAny_bind (wpAny_pure (wpAny_bind (wpAny_dictEpoch hod hdd ?_)))
  rw [if_neg (by simp)]
  refine wpAny_pure ?_
  simp only [show ¬ ((i : Int) < 0) from by omega,if_false,Int.toNat_natCast,Array.getElem?_eq_getElem hi]
  refine wpAny_bind ?_
  first | refine wpAny_bind (wpAny_typeNameOfWhole_valiter hit.typeIs (wpAny_pure ?_)) | refine wpAny_bind (wpAny_typeNameOf_valiter hit.typeIs (wpAny_pure ?_))
  refine wpAny_bind (wpAny_isOneOf_valiter hit.typeIs ?_)
  show wpAny _ _ (setField (.ref it) 1 (rawInt ((i : Int) + 1)) >>= _) _ _ s
  refine wpAny_bind (wpAny_setField ho hd (by simp) ?_)
  have x1 : (s.heap.update it (Obj.mapFields (·.setIfInBounds 1 (rawInt ((i : Int) + 1))))).IsValIter it d (i + 1) es.size ep:=
    ⟨_,Heap.get?_update_self _ ho (Obj.isFreed_of_fields (Obj.data_mapFields hd _)),(Obj.cls_mapFields ..).trans hc,by rw [Obj.data_mapFields hd]; simp [rawInt]⟩
  have y1:=Heap.SameBut.update s.heap it (Obj.mapFields (·.setIfInBounds 1 (rawInt ((i : Int) + 1))))
  have q1:=hQ _ x1 y1
  revert x1 q1
  generalize s.heap.update it (Obj.mapFields (·.setIfInBounds 1 (rawInt ((i : Int) + 1))))=h1
  intro x1 q1
  refine wpAny_bind (wpAny_holding (wpAny_bind (wpAny_isOneOf_valiter (s:={ s with heap:=h1 }) x1.typeIs (wpAny_bind (wpAny_isOneOf_valiter (s:={ s with heap:=h1 }) x1.typeIs ?_)))))
  show wpAny _ _ (pure es[i].val) _ _ _
  exact wpAny_pure (wpAny_pure ⟨_,rfl,wpAny_pure q1⟩)
theorem rawv_end {it d : Addr} {i ep : Nat} {es : Array DictEntry} {Q : Option Value→Shared→Prop} (hh : A.handled=none) (hit : s.heap.IsValIter it d i es.size ep) (hm : RawD s.heap d es ep) (hi : es.size≤i)
    (hQ : ∀ h',Heap.ExtBut it s.heap h'→Q none { s with heap:=h' }) : wpAny (model prog w) A (pyNext (.ref it)) Q E s:=by
  obtain ⟨o,ho,hc,hd⟩:=id hit
  obtain ⟨od,hod,hdd⟩:=hm
  unfold pyNext
  refine wpAny_bind (wpAny_attempt (wpAny_callSpecial?_slot (name:=Str.ofString "__next__") hit.typeIs PySem.F.slot_dict_valueiterator_next (wpAny_call_entry PySem.F.slot_dict_valueiterator_next hit.typeIs PySem.F.entry_dict_valueiterator_next ?_ (PySem.F.args_dict_valueiterator_next_1 _))))
  refine wpAny_bind (wpAny_pure (wpAny_bind (wpAny_bind ?_)))
  first | refine wpAny_bind (wpAny_typeNameOfWhole_valiter hit.typeIs (wpAny_pure ?_)) | refine wpAny_bind (wpAny_typeNameOf_valiter hit.typeIs (wpAny_pure ?_))
  refine wpAny_bind (wpAny_fieldsOf ho hd ?_)
  simp only [show Builtin.Dict_items.ownsTuple "dict_valueiterator" = false from by decide,Bool.false_eq_true,if_false]
  show wpAny _ _ (if (Value.ref d == Value.none)=true then _ else _) _ _ s
  rw [if_neg (show ¬ ((Value.ref d == Value.none)=true) from Bool.false_ne_true)]
  refine wpAny_bind (wpAny_pure (wpAny_bind (wpAny_dictEntries hod hdd ?_)))
  rw [if_neg (by simp)]
  refine wpAny_bind (wpAny_pure (wpAny_bind (wpAny_dictEpoch hod hdd ?_)))
  rw [if_neg (by simp)]
  refine wpAny_pure ?_
  simp only [show ¬ ((i : Int) < 0) from by omega,if_false,Int.toNat_natCast,Array.getElem?_eq_none hi]
  refine wpAny_bind ?_
  first | refine wpAny_bind (wpAny_typeNameOfWhole_valiter hit.typeIs (wpAny_pure ?_)) | refine wpAny_bind (wpAny_typeNameOf_valiter hit.typeIs (wpAny_pure ?_))
  show wpAny _ _ (setField (.ref it) 0 .none >>= _) _ _ s
  refine wpAny_bind (wpAny_setField ho hd (by simp) ?_)
  show wpAny _ _ (newExc (.type "StopIteration") [] >>= _) _ _ _
  refine wpAny_bind ?_
  simp only [newExc,newTuple]
  refine wpAny_bind (wpAny_newObj_type ?_ (by size_fits))
  refine wpAny_bind (m:=firstArgMember _ _) (wpAny_of_eq (a:=Value.none) (by first | rfl | (simp only [firstArgMember]; rfl)) ?_)
  refine wpAny_newObj_type ?_ (by size_fits)
  simp only [raiseNew]
  refine wpAny_bind (wpAny_handled ?_)
  rw [show A.in1.handled=none from hh]
  refine wpAny_bind (wpAny_pure (wpAny_throw ?_))
  refine wpAny_bind (wpAny_isInstance (b:=true) (T := "StopIteration") ⟨_,Heap.get?_push_size _ rfl,rfl⟩ isSubtype_stop ?_)
  exact wpAny_pure (hQ _ (((Heap.SameBut.update ..).extBut.push _).push _))
end
def Itd (o : Obj) (kvs : List (List Key×V)) (a : Addr) : It:=
  ⟨fun i H=>H a=some (.frz o (.dT kvs))∧i < kvs.length,
   fun i H v H'=>∃ p b k x,v = .ref p∧H p=none∧H' = upd H p (.tup [.ref b,x])∧kvs[i]? = some (k,x)∧H b=some (.tup (k.map kV)),
   fun i H=>H a=some (.frz o (.dT kvs))∧kvs.length≤i⟩
def itmTn (it d : Addr) (n ep : Nat) (i : Nat) (h : Heap) : Prop:=∃ ok ov,IsItemIter h it d i n ep ok ov
theorem frz_raw {X : Cx} {pins : List (Addr×Obj)} {σ : St} {H : Hp} {s : Shared} {a : Addr} {o : Obj} {kvs : List (List Key×V)} (I : Inv X pins σ H s) (e : H a=some (.frz o (.dT kvs))) : ∃ es ep xs,o.data = .dict es ep∧RawD s.heap a es ep∧KT H kvs xs∧es.toList=xs.map (entryOfKey (tupleKind (mixKind X.prog X.w)))∧es.size=kvs.length:=by
  obtain ⟨h1,z,hd,xs,rel,o',es,ep,h2,h3,h4,h5,h6⟩:=(show ObjOk X.prog X.w H s.heap a (.frz o (.dT kvs)) from I.hok a _ e)
  rw [h1] at h2
  cases h2
  exact ⟨es,ep,xs,h4,⟨o,h1,h4⟩,rel,h5,by rw [size_of_entries h5]; exact (Paired.length rel).symm⟩
theorem kt_at {H : Hp} {kvs : List (List Key×V)} {xs : List (List Key×Addr×Value)} (r : KT H kvs xs) : ∀ {i : Nat} {q : List Key×Addr×Value},xs[i]? = some q→∃ p,kvs[i]? = some p∧p.1=q.1∧H q.2.1=some (.tup (p.1.map kV))∧RelV p.2 q.2.2:=by
  induction r with
  | nil=>intro i q e; cases e
  | cons h t ih=>
    intro i q e
    cases i with
    | zero=>cases e; exact ⟨_,rfl,h⟩
    | succ i=>exact ih e
theorem itemiter_entry : entryFor table "dict_itemiterator.__iter__" = some Builtin.«dict_keyiterator.__iter__»:=entryFor_alias (by kernel_rfl) rfl (id' := "dict_keyiterator.__iter__") (by decide +kernel) (by kernel_rfl)
theorem turn_items {P : Program} {w : World} {K : PySem.W.Frag} {es : List Expr} {x1 : Nat} {tp : Pos} {it d : Addr} {n ep : Nat} {o : Obj} {ents : Array DictEntry} {kvs : List (List Key×V)} (ho : o.data = .dict ents ep) (hn : ents.size=n) : Turn P w K (.Tuple es x1 tp) (Itd o kvs d) [it] it (itmTn it d n ep) where
  mem:=by simp
  obj:=fun i h ⟨ok,ov,t1⟩ c hc=>by
    have e : c=it:=by simpa using hc
    subst e
    exact ⟨_,t1,fun v q=>by cases q⟩
  keep:=fun i h h' ⟨ok,ov,t1⟩ k=>⟨ok,ov,k it (by simp) _ t1⟩
  item:=by
    intro X hP hw hK hc i pins s σ H E I hf ⟨ok,ov,t1⟩ ⟨ea,hi⟩
    subst hP hw hK hn
    obtain ⟨es',ep',xs,e1,hm,rel,he,hsz⟩:=frz_raw I ea
    rw [ho] at e1
    cases e1
    have hi' : i < ents.size:=by omega
    refine raw_item t1 hm hi' fun h' a1 a2 a3 a4=>?_
    refine ⟨_,rfl,wpAny_letOwnedTupleGo_items a1 fun h'' c1 c2=>?_⟩
    have nz : s.heap.objs.size≠it:=Nat.ne_of_gt (Heap.lt_size t1)
    have I1 : Inv X pins σ H { s with heap:=h'',toks:=s.toks }:=I.turnedL hf fun c o hc q=>by
      simp only [List.mem_cons,List.not_mem_nil,or_false] at hc
      exact c2.extBut c o hc (a4 c o hc q)
    have ex : ents[i]? = (xs[i]?).map (entryOfKey (tupleKind (mixKind X.prog X.w))):=entry_at he i
    rw [Array.getElem?_eq_getElem hi'] at ex
    cases q : xs[i]? with
    | none=>rw [q] at ex; cases ex
    | some x=>
      rw [q] at ex
      have eq1 : ents[i]=entryOfKey (tupleKind (mixKind X.prog X.w)) x:=Option.some.inj ex
      obtain ⟨p,ep1,ek,hb,rv⟩:=kt_at rel q
      have k1 : ents[i].key = .ref x.2.1:=by rw [eq1]; rfl
      have v1 : ents[i].val=x.2.2:=by rw [eq1]; rfl
      rw [k1,v1] at a2
      have I2:=I.trackNew (t':=s.toks) (o:=.tup [.ref x.2.1,p.2]) I1 (Nat.le_refl _) ⟨by show 2≤sizeLine; decide,[.ref x.2.1,x.2.2],.cons rfl (.cons rv .nil),⟨_,c2.extBut _ _ nz a2,rfl,_,rfl⟩⟩
      have fr : H s.heap.objs.size=none:=I.hok.fresh (Nat.le_refl _)
      refine ⟨.ref s.heap.objs.size,_,I2,rfl,⟨s.heap.objs.size,x.2.1,p.1,p.2,rfl,fr,rfl,ep1,hb⟩,⟨_,_,c1⟩,fun c hc=>?_⟩
      have e : c=it:=by simpa using hc
      subst e
      rw [upd_ne (Ne.symm nz)]
      exact (hf c (by simp)).1
  done:=by
    intro X hP hw hK hc i pins s σ H E I hf ⟨ok,ov,t1⟩ ⟨ea,hi⟩
    subst hP hw hK hn
    obtain ⟨es',ep',xs,e1,hm,rel,he,hsz⟩:=frz_raw I ea
    rw [ho] at e1
    cases e1
    refine raw_end (I.ok.hd hc) t1 hm (by omega) fun h' kk=>⟨rfl,I.turnedL (t':=s.toks) hf fun c o hc q=>?_⟩
    simp only [List.mem_cons,List.not_mem_nil,or_false] at hc
    exact kk c o hc q
  self:=fun A _ s Q E ⟨ok,ov,t1⟩ h=>by
    have hT : s.TypeIs (.ref it) "dict_itemiterator" := ⟨_,t1,rfl⟩
    refine wpAny_pyIter_slot hT PySem.F.slot_dict_itemiterator_iter (wpAny_call_entry PySem.F.slot_dict_itemiterator_iter hT itemiter_entry ?_ (PySem.F.args_dict_itemiterator_iter_1 _))
    show wpAny _ _ (ret (.ref it)) _ _ s
    exact wpAny_pure ⟨_,rfl,"dict_itemiterator",_,hT,PySem.F.slot_dict_itemiterator_next.lookup,h⟩
section
variable {X : Cx} {es : List Expr} {x1 : Nat} {tp : Pos} {oe : Expr} {td : TE} {apos cpos : Pos}
def iItm (td : TE) : TI:=fun σ H R=>td σ H fun x H1=>∃ a o kvs,x = .ref a∧H1 a=some (.frz o (.dT kvs))∧R (Itd o kvs a) H1
theorem frz_ty {pins : List (Addr×Obj)} {σ : St} {H : Hp} {s : Shared} {a : Addr} {o : Obj} {kvs : List (List Key×V)} (I : Inv X pins σ H s) (e : H a=some (.frz o (.dT kvs))) : s.TypeIs (.ref a) "dict" ∧ (∀ b,Value.ref a = .ref b→∃ ob,s.heap.get? b=some ob∧ob.dict=none)∧(a == sysModules)=false:=isD_at I (.inr ⟨kvs,.inr ⟨o,e⟩⟩)
theorem pi_items (ho : PE X oe td) (hbase : attributeBase oe "items" X.env (eval oe X.env)=eval oe X.env:=by rfl) (hline : (apos.endLine == cpos.line)=true:=by rfl) : PI X (.Tuple es x1 tp) (.Call (.Attribute oe "items" apos) [] [] cpos) (iItm td):=by
  intro pins s σ H R I h
  refine wpAny_Call_method0_late hbase hline (thn (ho pins s σ H _ I h) fun v s1 ⟨x,H1,I1,r1,a,o,kvs,ex,ea,q⟩=>?_)
  subst ex
  cases r1
  obtain ⟨t1,t2,t3⟩:=frz_ty I1 ea
  refine ⟨"dict","dict.items",PySem.F.plainAttrs_dict,PySem.F.slot_dict_items,PySem.F.type_dict_items,t1,t2,Calls.callWith_builtin rfl (PySem.evalArgs_none ?_)⟩
  refine wpAny_call_entry PySem.F.slot_dict_items t1 PySem.F.entry_dict_items ?_ (PySem.F.args_dict_items_1 _)
  unfold Builtin.«dict.items» Builtin.Dict.noArgs
  refine wpAny_bind (wpAny_bind (wpAny_notOrdered_dict t1 ?_))
  show wpAny _ _ (pure a) _ _ s1
  refine wpAny_pure ?_
  show wpAny _ _ (Builtin.Dict.showsAll a >>= _) _ _ s1
  unfold Builtin.Dict.showsAll
  rw [if_neg (by rw [t3]; exact Bool.false_ne_true)]
  refine wpAny_bind (wpAny_pure (wpAny_bind (wpAny_newObj_type (wpAny_pure ⟨_,rfl,?_⟩))))
  obtain ⟨ents,ep,xs,e1,⟨o',r1,r2⟩,rel,he,hsz⟩:=frz_raw I1 ea
  have I2 : Inv X pins σ H1 { s1 with heap:=s1.heap.push { cls:=.type "dict_items",data:=.fields #[.ref a] } }:=I1.kept (t':=s1.toks) fun b o e=>Heap.get?_push_of_some _ e
  refine raw_iter (es:=ents) (ep:=ep) ⟨_,Heap.get?_push_size _ rfl,rfl,rfl⟩ ⟨o',Heap.get?_push_of_some _ r1,r2⟩ ?_
  revert I2
  generalize ({ s1 with heap:=s1.heap.push { cls:=.type "dict_items",data:=.fields #[.ref a] } } : Shared)=s2
  intro I2
  have I3 : Inv X pins σ H1 { s2 with heap:=s2.heap.push { cls:=.type "dict_itemiterator",data:=.fields #[.none,.bool false,.ref a,.int 0 0,.int ents.size 0,.int ep 0,.none,.none] } }:=I2.kept (t':=s2.toks) fun b o e=>Heap.get?_push_of_some _ e
  refine ⟨_,[s2.heap.objs.size],_,_,H1,rfl,I3,turn_items (ep:=ep) (n:=ents.size) e1 rfl,⟨.none,.none,Heap.get?_push_size _ rfl⟩,fun c hc=>?_,q⟩
  have e : c=s2.heap.objs.size:=by simpa using hc
  subst e
  exact I2.fpOk (H':=H1) (Nat.le_refl _) (I2.hok.fresh (Nat.le_refl _))
end
def Itv (o : Obj) (kvs : List (List Key×V)) (a : Addr) : It:=
  ⟨fun i H=>H a=some (.frz o (.dT kvs))∧i < kvs.length,fun i H v H'=>H' = H∧∃ k,kvs[i]? = some (k,v),fun i H=>H a=some (.frz o (.dT kvs))∧kvs.length≤i⟩
theorem turn_vals {P : Program} {w : World} {K : PySem.W.Frag} {tg : Expr} {it d : Addr} {n ep : Nat} {o : Obj} {ents : Array DictEntry} {kvs : List (List Key×V)} (ho : o.data = .dict ents ep) (hn : ents.size=n) : Turn P w K tg (Itv o kvs d) [it] it (fun i h=>h.IsValIter it d i n ep) where
  mem:=by simp
  obj:=fun i h st c hc=>by
    have e : c=it:=by simpa using hc
    subst e
    obtain ⟨o,e,_,d⟩:=st
    exact ⟨o,e,fun v z=>by rw [d] at z; cases z⟩
  keep:=fun i h h' st k=>st.at fun o e=>k it (by simp) o e
  item:=by
    intro X hP hw hK hc i pins s σ H E I hf st ⟨ea,hi⟩
    subst hP hw hK hn
    obtain ⟨es',ep',xs,e1,hm,rel,he,hsz⟩:=frz_raw I ea
    rw [ho] at e1
    cases e1
    have hi' : i < ents.size:=by omega
    refine rawv_item st hm hi' fun h' a1 a2=>?_
    obtain ⟨oi,g1,g2,g3⟩:=a1
    refine ⟨_,rfl,go_of g1 g2 g3 (by decide) ?_⟩
    have I1 : Inv X pins σ H { s with heap:=h',toks:=s.toks }:=I.turnedL hf fun c o hc q=>by
      simp only [List.mem_cons,List.not_mem_nil,or_false] at hc
      exact a2.extBut c o hc q
    have ex : ents[i]? = (xs[i]?).map (entryOfKey (tupleKind (mixKind X.prog X.w))):=entry_at he i
    rw [Array.getElem?_eq_getElem hi'] at ex
    cases q : xs[i]? with
    | none=>rw [q] at ex; cases ex
    | some x=>
      rw [q] at ex
      have eq1 : ents[i]=entryOfKey (tupleKind (mixKind X.prog X.w)) x:=Option.some.inj ex
      obtain ⟨p,ep1,ek,hb,rv⟩:=kt_at rel q
      have v1 : ents[i].val=x.2.2:=by rw [eq1]; rfl
      rw [v1]
      exact ⟨p.2,H,I1,rv,⟨rfl,p.1,ep1⟩,⟨oi,g1,g2,g3⟩,fun c hc=>(hf c hc).1⟩
  done:=by
    intro X hP hw hK hc i pins s σ H E I hf st ⟨ea,hi⟩
    subst hP hw hK hn
    obtain ⟨es',ep',xs,e1,hm,rel,he,hsz⟩:=frz_raw I ea
    rw [ho] at e1
    cases e1
    refine rawv_end (I.ok.hd hc) st hm (by omega) fun h' kk=>⟨rfl,I.turnedL (t':=s.toks) hf fun c o hc q=>?_⟩
    simp only [List.mem_cons,List.not_mem_nil,or_false] at hc
    exact kk c o hc q
  self:=fun _ _ _ _ _ st h=>wpAny_pyIter_valiter st h
section
variable {X : Cx} {tg : Expr} {oe : Expr} {td : TE} {apos cpos : Pos}
def iVal (td : TE) : TI:=fun σ H R=>td σ H fun x H1=>∃ a o kvs,x = .ref a∧H1 a=some (.frz o (.dT kvs))∧R (Itv o kvs a) H1
theorem pi_values (ho : PE X oe td) (hbase : attributeBase oe "values" X.env (eval oe X.env)=eval oe X.env:=by rfl) (hline : (apos.endLine == cpos.line)=true:=by rfl) : PI X tg (.Call (.Attribute oe "values" apos) [] [] cpos) (iVal td):=by
  intro pins s σ H R I h
  refine wpAny_Call_method0_late hbase hline (thn (ho pins s σ H _ I h) fun v s1 ⟨x,H1,I1,r1,a,o,kvs,ex,ea,q⟩=>?_)
  subst ex
  cases r1
  obtain ⟨t1,t2,t3⟩:=frz_ty I1 ea
  refine ⟨"dict","dict.values",PySem.F.plainAttrs_dict,PySem.F.slot_dict_values,PySem.F.type_dict_values,t1,t2,Calls.callWith_builtin rfl (PySem.evalArgs_none ?_)⟩
  refine wpAny_call_entry PySem.F.slot_dict_values t1 PySem.F.entry_dict_values ?_ (PySem.F.args_dict_values_1 _)
  refine wpAny_bind ?_
  unfold Builtin.Dict.noArgs
  refine wpAny_bind (wpAny_notOrdered_dict t1 ?_)
  show wpAny _ _ (pure a) _ _ s1
  refine wpAny_pure ?_
  show wpAny _ _ (Builtin.Dict.showsAll a >>= _) _ _ s1
  unfold Builtin.Dict.showsAll
  rw [if_neg (by rw [t3]; exact Bool.false_ne_true)]
  refine wpAny_bind (wpAny_pure (wpAny_bind (wpAny_newObj_type (wpAny_pure ⟨_,rfl,?_⟩))))
  obtain ⟨ents,ep,xs,e1,⟨o',r1,r2⟩,rel,he,hsz⟩:=frz_raw I1 ea
  have I2 : Inv X pins σ H1 { s1 with heap:=s1.heap.push { cls:=.type "dict_values",data:=.fields #[.ref a] } }:=I1.kept (t':=s1.toks) fun b o e=>Heap.get?_push_of_some _ e
  refine rawv_iter (es:=ents) (ep:=ep) ⟨_,Heap.get?_push_size _ rfl,rfl,rfl⟩ ⟨o',Heap.get?_push_of_some _ r1,r2⟩ ?_
  revert I2
  generalize ({ s1 with heap:=s1.heap.push { cls:=.type "dict_values",data:=.fields #[.ref a] } } : Shared)=s2
  intro I2
  have I3 : Inv X pins σ H1 { s2 with heap:=s2.heap.push { cls:=.type "dict_valueiterator",data:=.fields #[.ref a,.int 0 0,.int ents.size 0,.int ep 0] } }:=I2.kept (t':=s2.toks) fun b o e=>Heap.get?_push_of_some _ e
  refine ⟨_,[s2.heap.objs.size],_,_,H1,rfl,I3,turn_vals (ep:=ep) (n:=ents.size) e1 rfl,⟨_,Heap.get?_push_size _ rfl,rfl,rfl⟩,fun c hc=>?_,q⟩
  have e : c=s2.heap.objs.size:=by simpa using hc
  subst e
  exact I2.fpOk (H':=H1) (Nat.le_refl _) (I2.hok.fresh (Nat.le_refl _))
end
end L2
namespace L2
open PySem PySem.Spec PyProof.Rows
theorem compTurn_in (elt target iter : Expr) (c0 : Comprehension) (ifs : List Expr) (scope : Scope) (pos : Pos) (it acc : Value) (env : Env) :
    compTurn (.ListComp elt [c0,⟨target,iter,ifs,0⟩] scope pos) 1 it acc env=(do
      standAt iter.pos
      match ← pyNext it with
      | none=>pure (.done .next)
      | some v=>
        letOwnedTupleGo target it v
        assign target env v
        let mut ok:=true
        for c in ifs do
          if ok then ok ← isTrue c env (eval c env)
        if ok then
          (do let _ ← call (.builtin "list.append") [acc,← eval elt env])
        again (.compLoop (.ListComp elt [c0,⟨target,iter,ifs,0⟩] scope pos) 1 it acc env)):=by rfl
theorem compTurn_out (elt t0 i0 t1 i1 : Expr) (ifs0 ifs : List Expr) (scope : Scope) (pos : Pos) (it acc : Value) (env : Env) :
    compTurn (.ListComp elt [⟨t0,i0,ifs0,0⟩,⟨t1,i1,ifs,0⟩] scope pos) 0 it acc env=(do
      standAt i0.pos
      match ← pyNext it with
      | none=>pure (.done .next)
      | some v=>
        letOwnedTupleGo t0 it v
        assign t0 env v
        let mut ok:=true
        for c in ifs0 do
          if ok then ok ← isTrue c env (eval c env)
        if ok then
          let x ← eval i1 env
          standAt i1.pos
          let x ← foldedSetIterable i1 env x
          let _ ← runOwn (.compStart (.ListComp elt [⟨t0,i0,ifs0,0⟩,⟨t1,i1,ifs,0⟩] scope pos) 1 (← holding [x] (pyIter x)) acc env) env
        again (.compLoop (.ListComp elt [⟨t0,i0,ifs0,0⟩,⟨t1,i1,ifs,0⟩] scope pos) 0 it acc env)):=by rfl
section
variable {prog : Program} {w : World} {A : Around} {R : Result→Shared→Prop} {s : Shared}
theorem compStart_in {elt target iter ifs scope pos it acc env} {c0 : Comprehension}
    (h0 : codeAny (model prog w) A (.compLoop (.ListComp elt [c0,⟨target,iter,ifs,0⟩] scope pos) 1 it acc env) R s)
    (h : wpAny (model prog w) A (pyIter it) (fun it' s'=>codeAny (model prog w) A (.compLoop (.ListComp elt [c0,⟨target,iter,ifs,0⟩] scope pos) 1 it' acc env) R s') (notedBy (model prog w) A env fun x s'=>R (.error x) s') s) :
    codeAny (model prog w) A (.compStart (.ListComp elt [c0,⟨target,iter,ifs,0⟩] scope pos) 1 it acc env) R s:=by
  refine codeAny_of_tree ?_
  show wpAny _ _ ((compStart (.ListComp elt [c0,⟨target,iter,ifs,0⟩] scope pos) 1 it acc env).onRaise (fun x=>do noteFrame x env; standAt theWindowsPlace)) _ _ s
  refine wpAny_notedAt ?_
  unfold compStart
  show wpAny _ _ (ask >>= _) _ _ s
  refine wpAny_bind (wpAny_askSetting (wpAny_ite ?_))
  split
  · first | exact wpAny_bind (wpAny_pure (wpAny_pure (And.intro rfl h0))) | exact wpAny_pure (And.intro rfl h0)
  · refine wpAny_bind (wpAny_rule ?_)
    show wpAny _ _ (standAt iter.pos >>= _) _ _ s
    exact wpAny_bind (wpAny_standAt (wpAny_bind (wpAny_mono h (fun it' s' h'=>wpAny_pure (And.intro rfl h')) fun _ _ x=>x)))
end
section
variable {X : Cx} {N' : List Str} {ix : List (Option Nat)} {scope : Scope} {elt tg iter : Expr} {ifs : List Expr} {pos : Pos} {wi : TI} {g : TG} {ti : TT} {te : TE}
theorem comp_in {X' : Cx} {c0 : Comprehension} {pins : List (Addr×Obj)} {R : Hp→Prop} {σ₀ : St} {H : Hp} {s : Shared} {it D : Addr} {fp : List Addr} {tn : Nat→Heap→Prop} {J : It} {W : Nat→Nat→Hp→Prop} {m0 : Nat} (I : Inv X' pins σ₀ H s) (hcalm : X'.calm=true) (hxe : X'.xe=fun _ _=>False)
    (T : Turn X'.prog X'.w X'.K tg J fp it tn) (st : tn 0 s.heap) (hf : ∀ b∈fp,FpOk X' pins H b) (hg : PG X' tg g) (hi : PIfs X' ifs ti) (he : PE X' elt te) (w0 : W 0 m0 H)
    (turn : ∀ i m H,W i m H→(J.stop i H∧R H)∨(J.go i H∧∀ x H',J.yld i H x H'→g x σ₀ H' fun σ2 H2=>(∀ (k : Nat) v,σ₀[k]? = some (some v)→σ2[k]? = some (some v))∧ti σ2 H2 fun b H3=>
        if b=true then te σ2 H3 fun y H4=>∃ zs,H4 D=some (.lst zs)∧zs.length < sizeLine∧∃ m',m' < m∧W (i + 1) m' (upd H4 D (.lst (zs ++ [y]))) else ∃ m',m' < m∧W (i + 1) m' H3)) :
    codeAny (model X'.prog X'.w) X'.A (.compStart (.ListComp elt [c0,⟨tg,iter,ifs,0⟩] scope pos) 1 (.ref it) (.ref D) X'.env) (fun r s'=>(∃ f,r = .ok f)∧∃ H',Inv X' pins σ₀ H' s'∧R H') s:=by
  have stat : ∀ {H' : Hp},(∀ b∈fp,H' b=none)→∀ b∈fp,FpOk X' pins H' b:=fun hn b hb=>⟨hn b hb,(hf b hb).2⟩
  have loop : codeAny (model X'.prog X'.w) X'.A (.compLoop (.ListComp elt [c0,⟨tg,iter,ifs,0⟩] scope pos) 1 (.ref it) (.ref D) X'.env) (fun r s'=>(∃ f,r = .ok f)∧∃ H',Inv X' pins σ₀ H' s'∧R H') s:=by
    refine codeAny_loop rfl (fun n s'=>∃ i H',Inv X' pins σ₀ H' s'∧tn i s'.heap∧(∀ b∈fp,H' b=none)∧W i n H') ?_ m0 ⟨0,H,I,st,fun b hb=>(hf b hb).1,w0⟩
    rintro n s1 ⟨i,H1,I1,st1,fr1,w1⟩
    show wpAny _ X'.A ((compTurn (.ListComp elt [c0,⟨tg,iter,ifs,0⟩] scope pos) 1 (.ref it) (.ref D) X'.env).onRaise (fun x=>do noteFrame x X'.env; theTreesLotGoes x)) _ _ s1
    refine wpAny_noted ?_
    have noE : ∀ {α : Type} {t : Sem α} {P : α→Shared→Prop} {F : Value→Shared→Prop} {s : Shared},wpAny (model X'.prog X'.w) X'.A t P X'.xe s→wpAny (model X'.prog X'.w) X'.A t P F s:=fun h=>wpAny_mono h (fun _ _ x=>x) fun e s' x=>by rw [hxe] at x; exact x.elim
    rw [compTurn_in]
    refine wpAny_bind (wpAny_standAt (wpAny_bind ?_))
    rcases turn i n H1 w1 with ⟨stop,qn⟩ | ⟨go,step⟩
    · refine thn (T.done X' rfl rfl rfl hcalm i pins s1 σ₀ H1 _ I1 (stat fr1) st1 stop) fun r s2 ⟨hr,I2⟩=>?_
      subst hr
      exact wpAny_pure ⟨⟨_,rfl⟩,H1,I2,qn⟩
    · refine thn (T.item X' rfl rfl rfl hcalm i pins s1 σ₀ H1 _ I1 (stat fr1) st1 go) fun r s2 ⟨u,hr,h2⟩=>?_
      subst hr
      refine wpAny_bind (thn h2 fun _ s3 ⟨x,H3,I3,r3,y3,st3,fr3⟩=>?_)
      have I3':=I3.pinned (stat fr3) (T.obj _ _ st3)
      refine wpAny_bind (noE (thn (hg _ s3 σ₀ H3 x u _ I3' r3 (step x H3 y3)) fun _ s4 ⟨σ4,H4,I4,hk4,q4⟩=>?_))
      refine wpAny_bind (noE (thn (hi _ s4 σ4 H4 _ I4 q4) fun ok s5 ⟨H5,I5,q5⟩=>?_))
      have again' : ∀ {s7 : Shared} {H7 : Hp} {m' : Nat},Inv X' (pins ++ pinsAt fp s3.heap) σ4 H7 s7→m' < n→W (i + 1) m' H7→∃ m,m < n∧∃ i H',Inv X' pins σ₀ H' s7∧tn i s7.heap∧(∀ b∈fp,H' b=none)∧W i m H':=fun {s7 H7 m'} I7 hm w7=>by
        refine ⟨m',hm,i + 1,H7,I7.unpinned.weak (by rw [I3.len,I7.len]) hk4,T.keep _ _ _ st3 fun b hb o e=>(I7.pin (b,o) (List.mem_append_right _ (List.mem_append_right _ (mem_pinsAt hb e)))).1,fun b hb=>?_,w7⟩
        obtain ⟨o,e,d⟩:=T.obj _ _ st3 b hb
        exact (I7.pin (b,o) (List.mem_append_right _ (List.mem_append_right _ (mem_pinsAt hb e)))).2.1
      cases ok with
      | false=>
        obtain ⟨m',hm,w7⟩:=q5
        exact wpAny_pure ⟨rfl,again' I5 hm w7⟩
      | true=>
        refine wpAny_bind (wpAny_bind (noE (thn (he _ s5 σ4 H5 _ I5 q5) fun y s6 ⟨yv,H6,I6,r6,zs,hD,hz,m',hm,w7⟩=>?_)))
        refine wpAny_bind (noE (thn (mt_append (X:=X') _ s6 σ4 H6 (.ref D) [yv] (.ref D) [y] (fun v H7=>H7=upd H6 D (.lst (zs ++ [yv]))) I6 rfl (.cons r6 .nil) ⟨D,zs,yv,rfl,rfl,hD,hz,rfl⟩) fun v s7 ⟨vv,H7,I7,_,e7⟩=>?_))
        subst e7
        exact wpAny_pure (wpAny_pure ⟨rfl,again' I7 hm w7⟩)
  refine compStart_in loop (T.self _ 0 s _ _ st loop)
variable {t1 i1 : Expr} {wi1 : TI} {g1 : TG}
def two (J : It) (R : Hp→Prop) (D : Addr) (σ₀ : St) (g : TG) (wi1 : TI) (g1 : TG) (ti : TT) (te : TE) (W : Nat→Nat→Hp→Prop) : Prop:=∀ i m H,W i m H→(J.stop i H∧R H)∨(J.go i H∧∀ x H',J.yld i H x H'→g x σ₀ H' fun σ1 H1=>(∀ (k : Nat) v,σ₀[k]? = some (some v)→σ1[k]? = some (some v))∧wi1 σ1 H1 fun J1 H2=>
  ∃ W1 : Nat→Nat→Hp→Prop,(∃ m1,W1 0 m1 H2)∧∀ j m1 H3,W1 j m1 H3→(J1.stop j H3∧∃ m',m' < m∧W (i + 1) m' H3)∨(J1.go j H3∧∀ y H4,J1.yld j H3 y H4→g1 y σ1 H4 fun σ2 H5=>(∀ (k : Nat) v,σ1[k]? = some (some v)→σ2[k]? = some (some v))∧ti σ2 H5 fun b H6=>
    if b=true then te σ2 H6 fun z H7=>∃ zs,H7 D=some (.lst zs)∧zs.length < sizeLine∧∃ m',m' < m1∧W1 (j + 1) m' (upd H7 D (.lst (zs ++ [z]))) else ∃ m',m' < m1∧W1 (j + 1) m' H6))
def tComp2 (ix : List (Option Nat)) (wi : TI) (g : TG) (wi1 : TI) (g1 : TG) (ti : TT) (te : TE) : TE:=fun σ H Q=>wi σ H fun J H1=>∀ D,H1 D=none→∃ W : Nat→Nat→Hp→Prop,(∃ m,W 0 m (upd H1 D (.lst [])))∧two J (Q (.ref D)) D (compSt ix σ) g wi1 g1 ti te W
theorem comp2_loop {X' : Cx} {σ₀ : St} {H : Hp} {s : Shared} {R : Hp→Prop} {it D : Addr} {fp : List Addr} {tn : Nat→Heap→Prop} {J : It} {W : Nat→Nat→Hp→Prop} {m0 : Nat} (I : Inv X' [] σ₀ H s) (hcalm : X'.calm=true) (hxe : X'.xe=fun _ _=>False)
    (T : Turn X'.prog X'.w X'.K tg J fp it tn) (st : tn 0 s.heap) (hf : ∀ b∈fp,FpOk X' [] H b) (hg : PG X' tg g) (hi1 : PI X' t1 i1 wi1) (hg1 : PG X' t1 g1) (hi : PIfs X' ifs ti) (he : PE X' elt te) (w0 : W 0 m0 H) (hs1 : ∀ x,foldedSetIterable i1 X'.env x=pure x)
    (turn : two J R D σ₀ g wi1 g1 ti te W) :
    codeAny (model X'.prog X'.w) X'.A (.compStart (.ListComp elt [⟨tg,iter,[],0⟩,⟨t1,i1,ifs,0⟩] scope pos) 0 (.ref it) (.ref D) X'.env) (fun r s'=>(∃ f,r = .ok f)∧∃ H',Inv X' [] σ₀ H' s'∧R H') s:=by
  have stat : ∀ {H' : Hp},(∀ b∈fp,H' b=none)→∀ b∈fp,FpOk X' [] H' b:=fun hn b hb=>⟨hn b hb,(hf b hb).2⟩
  have loop : codeAny (model X'.prog X'.w) X'.A (.compLoop (.ListComp elt [⟨tg,iter,[],0⟩,⟨t1,i1,ifs,0⟩] scope pos) 0 (.ref it) (.ref D) X'.env) (fun r s'=>(∃ f,r = .ok f)∧∃ H',Inv X' [] σ₀ H' s'∧R H') s:=by
    refine codeAny_loop rfl (fun n s'=>∃ i H',Inv X' [] σ₀ H' s'∧tn i s'.heap∧(∀ b∈fp,H' b=none)∧W i n H') ?_ m0 ⟨0,H,I,st,fun b hb=>(hf b hb).1,w0⟩
    rintro n s1 ⟨i,H1,I1,st1,fr1,w1⟩
    show wpAny _ X'.A ((compTurn (.ListComp elt [⟨tg,iter,[],0⟩,⟨t1,i1,ifs,0⟩] scope pos) 0 (.ref it) (.ref D) X'.env).onRaise (fun x=>do noteFrame x X'.env; theTreesLotGoes x)) _ _ s1
    refine wpAny_noted ?_
    have noE : ∀ {α : Type} {t : Sem α} {P : α→Shared→Prop} {F : Value→Shared→Prop} {s : Shared},wpAny (model X'.prog X'.w) X'.A t P X'.xe s→wpAny (model X'.prog X'.w) X'.A t P F s:=fun h=>wpAny_mono h (fun _ _ x=>x) fun e s' x=>by rw [hxe] at x; exact x.elim
    rw [compTurn_out]
    refine wpAny_bind (wpAny_standAt (wpAny_bind ?_))
    rcases turn i n H1 w1 with ⟨stop,qn⟩ | ⟨go,step⟩
    · refine thn (T.done X' rfl rfl rfl hcalm i [] s1 σ₀ H1 _ I1 (stat fr1) st1 stop) fun r s2 ⟨hr,I2⟩=>?_
      subst hr
      exact wpAny_pure ⟨⟨_,rfl⟩,H1,I2,qn⟩
    · refine thn (T.item X' rfl rfl rfl hcalm i [] s1 σ₀ H1 _ I1 (stat fr1) st1 go) fun r s2 ⟨u,hr,h2⟩=>?_
      subst hr
      refine wpAny_bind (thn h2 fun _ s3 ⟨x,H3,I3,r3,y3,st3,fr3⟩=>?_)
      have I3':=I3.pinned (stat fr3) (T.obj _ _ st3)
      refine wpAny_bind (noE (thn (hg _ s3 σ₀ H3 x u _ I3' r3 (step x H3 y3)) fun _ s4 ⟨σ4,H4,I4,hk4,q4⟩=>?_))
      refine wpAny_bind (wpAny_pure ?_)
      simp only [if_true]
      refine wpAny_bind (noE (thn (hi1 _ s4 σ4 H4 _ I4 q4) fun v5 s5 h5=>?_))
      refine wpAny_bind (wpAny_standAt (wpAny_bind (wpAny_of_eq (hs1 v5) ?_)))
      refine wpAny_bind (wpAny_holding (noE (thn h5 fun itv s6 h6=>?_)))
      obtain ⟨it1,fp1,tn1,J1,H6,rfl,I6,T1,st6,f6,W1,⟨m1,w6⟩,turn1⟩:=h6
      refine wpAny_bind (wpAny_runOwn (h:=none) (codeAny_mono (comp_in (pins:=[] ++ pinsAt fp s3.heap) (c0:=⟨tg,iter,[],0⟩) (R:=fun H'=>∃ m',m' < n∧W (i + 1) m' H') (tg:=t1) (iter:=i1) (pos:=pos) (scope:=scope) I6 hcalm hxe T1 st6 f6 hg1 hi he w6 turn1) fun r s7 h7=>?_))
      obtain ⟨⟨fl,rfl⟩,H7,I7,m',hm,w7⟩:=h7
      refine wpAny_pure ⟨rfl,m',hm,i + 1,H7,I7.unpinned.weak (by rw [I3.len,I7.len]) hk4,T.keep _ _ _ st3 fun b hb o e=>(I7.pin (b,o) (List.mem_append_right _ (List.mem_append_right _ (mem_pinsAt hb e)))).1,fun b hb=>?_,w7⟩
      obtain ⟨o,e,d⟩:=T.obj _ _ st3 b hb
      exact (I7.pin (b,o) (List.mem_append_right _ (List.mem_append_right _ (mem_pinsAt hb e)))).2.1
  refine codeAny_compStart_list loop (T.self _ 0 s _ _ st loop)
theorem comp2_block {pins : List (Addr×Obj)} {σ : St} {H : Hp} {s : Shared} {Q : VK} {it : Addr} {fp : List Addr} {tn : Nat→Heap→Prop} {J : It} {E : Value→Shared→Prop} (I : Inv X pins σ H s) (hcalm : X.calm=true) (S : CompScope X N' ix scope)
    (T : Turn X.prog X.w X.K tg J fp it tn) (st : tn 0 s.heap) (hf : ∀ b∈fp,FpOk X pins H b)
    (hg : ∀ C s H fp,PG (cxComp X N' scope C s H fp) tg g) (hi1 : ∀ C s H fp,PI (cxComp X N' scope C s H fp) t1 i1 wi1) (hg1 : ∀ C s H fp,PG (cxComp X N' scope C s H fp) t1 g1) (hi : ∀ C s H fp,PIfs (cxComp X N' scope C s H fp) ifs ti) (he : ∀ C s H fp,PE (cxComp X N' scope C s H fp) elt te) (hs1 : ∀ C s H fp x,foldedSetIterable i1 (cxComp X N' scope C s H fp).env x=pure x)
    (h : ∀ D,H D=none→∃ W : Nat→Nat→Hp→Prop,(∃ m,W 0 m (upd H D (.lst [])))∧two J (Q (.ref D)) D (compSt ix σ) g wi1 g1 ti te W) :
    wpAny (model X.prog X.w) X.A (newList []) (fun acc s3=>wpAny (model X.prog X.w) X.A (newFunctionEnv scope X.env.globals (clOf X.env scope.names []) [] X.env.qual none .none (some X.env)) (fun cenv s4=>
      codeAny (model X.prog X.w) X.A (.compStart (.ListComp elt [⟨tg,iter,[],0⟩,⟨t1,i1,ifs,0⟩] scope pos) 0 (.ref it) acc { cenv with scope:=relabel scope X.env }) (CompEnd X pins σ Q acc cenv.locals) s4) E s3) E s:=by
  refine wpAny_newList ?_
  have fresh0 : H s.heap.objs.size=none:=I.hok.fresh (Nat.le_refl _)
  have I3 : Inv X pins σ (upd H s.heap.objs.size (.lst [])) { s with heap:=s.heap.push { cls:=.type "list",data:=.seq ([] : List Value).toArray } } :=
    I.laid (t':=s.toks) (fun b u e=>Heap.get?_push_of_some _ e) (Nat.le_refl _) ⟨by show 0≤sizeLine; exact Nat.zero_le _,[],0,.nil,Heap.get?_push_size _ rfl⟩
  obtain ⟨W,⟨m0,w0⟩,turn⟩:=h s.heap.objs.size fresh0
  generalize hD : s.heap.objs.size=D at *
  have lt0 : ∀ b∈fp,b < s.heap.objs.size:=fun b hb=>by obtain ⟨o,e,_⟩:=T.obj 0 _ st b hb; exact Heap.lt_size e
  have hf3 : ∀ b∈fp,FpOk X pins (upd H D (.lst [])) b:=fun b hb=>by
    have nb : b≠D:=by rw [← hD]; exact Nat.ne_of_lt (lt0 b hb)
    obtain ⟨f0,fr⟩:=hf b hb
    exact ⟨by rw [upd_ne nb]; exact f0,fr⟩
  have st3 : tn 0 (s.heap.push { cls:=.type "list",data:=.seq ([] : List Value).toArray }):=T.keep _ _ _ st fun b hb o e=>Heap.get?_push_of_some _ e
  revert I3 st3
  generalize (s.heap.push { cls:=.type "list",data:=.seq ([] : List Value).toArray })=h3
  intro I3 st3
  have lt3 : ∀ b∈fp,b < h3.objs.size:=fun b hb=>by obtain ⟨o,e,_⟩:=T.obj 0 _ st3 b hb; exact Heap.lt_size e
  refine wpAny_newFunctionEnv S.nocell (fun x hx=>nomatch hx) (fun h4 hns hsb=>?_) S.kind
  have k4 : ∀ b o,h3.get? b=some o→h4.get? b=some o:=fun b o e=>(hsb.2 b (Nat.ne_of_lt (Heap.lt_size e))).trans (Heap.get?_push_of_some _ e)
  have J4 : Inv (cxComp X N' scope h3.objs.size { s with heap:=h3 } (upd H D (.lst [])) fp) [] (compSt ix σ) (upd H D (.lst [])) { s with heap:=h4,toks:=s.toks + ([] : List (Str×Value)).length }:=
    inv_comp (s:={ s with heap:=h3 }) (tk:=s.toks + ([] : List (Str×Value)).length) I3 hcalm S hf3 lt3 hns k4
  have st4 : tn 0 ({ s with heap:=h4,toks:=s.toks + ([] : List (Str×Value)).length } : Shared).heap:=T.keep _ _ _ st3 fun b hb o e=>k4 b o e
  have fr4 : ∀ b∈fp,upd H D (.lst []) b=none:=fun b hb=>(hf3 b hb).1
  revert J4 st4
  generalize ({ s with heap:=h4,toks:=s.toks + ([] : List (Str×Value)).length } : Shared)=s4
  intro J4 st4
  have hf4 : ∀ b∈fp,FpOk (cxComp X N' scope h3.objs.size { s with heap:=h3 } (upd H D (.lst [])) fp) [] (upd H D (.lst [])) b:=fun b hb=>
    ⟨fr4 b hb,Nat.ne_of_lt (lt3 b hb),J4.ok.exfs b hb,.inl hb,fun x c e=>(J4.ok.exf b hb).2 x c e,fun p hp=>nomatch hp⟩
  refine codeAny_mono (comp2_loop (X':=cxComp X N' scope h3.objs.size { s with heap:=h3 } (upd H D (.lst [])) fp) (R:=Q (.ref D)) (D:=D) J4 rfl rfl T st4 hf4 (hg _ _ _ _) (hi1 _ _ _ _) (hg1 _ _ _ _) (hi _ _ _ _) (he _ _ _ _) w0 (hs1 _ _ _ _) turn) fun r s' ⟨hr,H',J',q'⟩=>?_
  refine ⟨D,H',rfl,hr,I3.call' J'.os J'.base J'.hok J'.bare fun b hb=>?_,?_,?_,q'⟩
  · obtain ⟨_,f1,_,f3,f4,f5⟩:=hf3 b hb
    exact ⟨f3,f1,f4,f5⟩
  · exact I3.fpOk (H':=H') (Nat.le_refl _) J'.free
  · obtain ⟨m,hn,_⟩:=J'.loc
    exact ⟨m,hn⟩
theorem pe_comp2 (hcalm : X.calm=true) (S : CompScope X N' ix scope) (hit : PI X tg iter wi)
    (hg : ∀ C s H fp,PG (cxComp X N' scope C s H fp) tg g) (hi1 : ∀ C s H fp,PI (cxComp X N' scope C s H fp) t1 i1 wi1) (hg1 : ∀ C s H fp,PG (cxComp X N' scope C s H fp) t1 g1) (hi : ∀ C s H fp,PIfs (cxComp X N' scope C s H fp) ifs ti) (he : ∀ C s H fp,PE (cxComp X N' scope C s H fp) elt te)
    (hs1 : ∀ C s H fp x,foldedSetIterable i1 (cxComp X N' scope C s H fp).env x=pure x:=by intros; rfl) (hs : ∀ x,foldedSetIterable iter X.env x=pure x:=by intro _; rfl) : PE X (.ListComp elt [⟨tg,iter,[],0⟩,⟨t1,i1,ifs,0⟩] scope pos) (tComp2 ix wi g wi1 g1 ti te):=by
  intro pins s σ H Q I h
  rw [eval_ListComp]
  refine wpAny_comprehension_free (use:=none) rfl hs (comp_closure I S) S.kind S.loc (thn (hit pins s σ H _ I h) fun v s1 h1=>thn h1 fun itv s2 h2=>?_)
  obtain ⟨it,fp,tn,J,H2,rfl,I2,T,st2,f2,q2⟩:=h2
  refine thn (comp2_block (E:=X.xe) (elt:=elt) (iter:=iter) (pos:=pos) I2 hcalm S T st2 f2 hg hi1 hg1 hi he hs1 q2) fun acc s3 h3=>thn h3 fun cenv s4 h4=>codeAny_mono h4 fun r s' hr=>?_
  obtain ⟨D,H',rfl,⟨f,rfl⟩,I',⟨g0,g1,_,g3,g4,g5⟩,⟨m,hm⟩,q'⟩:=hr
  exact ⟨m,hm,fun h' hsb=>⟨.ref D,H',I'.turned (t':=s'.toks) (fun b o hb e=>(hsb.2 b hb).trans e) g0 g1 g3 g4 g5,rfl,q'⟩⟩
end
end L2
namespace L2
open PySem PySem.Spec PyProof.Rows
def Rise (xs : Array Nat) : Prop:=∀ (i j : Nat) (hi : i < xs.size) (hj : j < xs.size),i < j→xs[i] < xs[j]
theorem below_go {xs : Array Nat} {j : Nat} (h : Rise xs) : ∀ (fuel lo hi : Nat),lo≤hi→hi≤xs.size→hi - lo≤fuel→(∀ (k : Nat) (hk : k < xs.size),k < lo→xs[k] < j)→(∀ (k : Nat) (hk : k < xs.size),hi≤k→j≤xs[k])→
    SetTable.below.go xs j fuel lo hi≤xs.size∧(∀ (k : Nat) (hk : k < xs.size),k < SetTable.below.go xs j fuel lo hi→xs[k] < j)∧∀ (k : Nat) (hk : k < xs.size),SetTable.below.go xs j fuel lo hi≤k→j≤xs[k]:=by
  intro fuel
  induction fuel with
  | zero=>
    intro lo hi h1 h2 h3 h4 h5
    have e : lo=hi:=by omega
    subst e
    exact ⟨h2,h4,h5⟩
  | succ n ih=>
    intro lo hi h1 h2 h3 h4 h5
    unfold SetTable.below.go
    by_cases c : lo < hi
    · rw [if_pos c]
      dsimp only
      have hm : (lo + hi) / 2 < xs.size:=by omega
      have eg : xs.getD ((lo + hi) / 2) j=xs[(lo + hi) / 2]:=by rw [Array.getD_eq_getD_getElem?,Array.getElem?_eq_getElem hm]; rfl
      rw [eg]
      by_cases c2 : xs[(lo + hi) / 2] < j
      · rw [if_pos c2]
        refine ih _ _ (by omega) h2 (by omega) (fun k hk hlt=>?_) h5
        by_cases c3 : k=(lo + hi) / 2
        · subst c3; exact c2
        · have:=h k ((lo + hi) / 2) hk hm (by omega)
          omega
      · rw [if_neg c2]
        refine ih _ _ (by omega) (by omega) (by omega) h4 (fun k hk hge=>?_)
        by_cases c3 : k=(lo + hi) / 2
        · subst c3; omega
        · have:=h ((lo + hi) / 2) k hm hk (by omega)
          omega
    · rw [if_neg c]
      have e : lo=hi:=by omega
      subst e
      exact ⟨h2,h4,h5⟩
theorem below_at {xs : Array Nat} (h : Rise xs) (j : Nat) : SetTable.below xs j≤xs.size∧(∀ (k : Nat) (hk : k < xs.size),k < SetTable.below xs j→xs[k] < j)∧∀ (k : Nat) (hk : k < xs.size),SetTable.below xs j≤k→j≤xs[k]:=
  below_go h xs.size 0 xs.size (Nat.zero_le _) (Nat.le_refl _) (by omega) (fun k _ z=>absurd z (Nat.not_lt_zero _)) (fun k hk z=>absurd hk (by omega))
theorem size_insert {α : Type} (xs : Array α) (p : Nat) (x : α) (hp : p≤xs.size) : (SetTable.insertAt xs p x).size=xs.size + 1:=by
  unfold SetTable.insertAt
  rw [Array.size_append,Array.size_push,Array.size_extract,Array.size_extract]
  omega
theorem get_insert {α : Type} (xs : Array α) (p : Nat) (x : α) (hp : p≤xs.size) (i : Nat) : (SetTable.insertAt xs p x)[i]? = if i < p then xs[i]? else if i=p then some x else xs[i - 1]?:=by
  unfold SetTable.insertAt
  have s1 : ((xs.extract 0 p).push x).size=p + 1:=by rw [Array.size_push,Array.size_extract]; omega
  by_cases c1 : i < p
  · rw [if_pos c1,Array.getElem?_append_left (by omega),Array.getElem?_push_lt (by rw [Array.size_extract]; omega)]
    rw [← Array.getElem?_eq_getElem,Array.getElem?_extract]
    rw [if_pos (by omega)]
    congr 1
    omega
  · rw [if_neg c1]
    by_cases c2 : i=p
    · subst c2
      rw [if_pos rfl,Array.getElem?_append_left (by omega),Array.getElem?_push,if_pos (by rw [Array.size_extract]; omega)]
    · rw [if_neg c2,Array.getElem?_append_right (by omega),Array.getElem?_extract,s1]
      by_cases c3 : i - (p + 1) < xs.size - p
      · rw [if_pos (by omega)]
        congr 1
        omega
      · rw [if_neg (by omega),Array.getElem?_eq_none (by omega)]
theorem rise_insert {xs : Array Nat} (h : Rise xs) {j : Nat} (hn : xs[SetTable.below xs j]?≠some j) : Rise (SetTable.insertAt xs (SetTable.below xs j) j):=by
  obtain ⟨b1,b2,b3⟩:=below_at h j
  generalize SetTable.below xs j=p at *
  have val : ∀ (i : Nat) (hi : i < (SetTable.insertAt xs p j).size),some (SetTable.insertAt xs p j)[i]=if i < p then xs[i]? else if i=p then some j else xs[i - 1]?:=fun i hi=>by rw [← get_insert xs p j b1 i,Array.getElem?_eq_getElem hi]
  have above : ∀ (k : Nat) (hk : k < xs.size),p≤k→j < xs[k]:=fun k hk hpk=>by
    have hp : p < xs.size:=by omega
    have h1:=b3 p hp (Nat.le_refl _)
    have h2 : xs[p]≠j:=fun z=>hn (by rw [Array.getElem?_eq_getElem hp,z])
    by_cases c : k=p
    · subst c; omega
    · have:=h p k hp hk (by omega)
      omega
  intro i k hi hk hik
  have sz:=size_insert xs p j b1
  have vi:=val i hi
  have vk:=val k hk
  by_cases c1 : k < p
  · rw [if_pos (by omega),Array.getElem?_eq_getElem (by omega)] at vi
    rw [if_pos c1,Array.getElem?_eq_getElem (by omega)] at vk
    rw [Option.some.inj vi,Option.some.inj vk]
    exact h i k (by omega) (by omega) hik
  · rw [if_neg c1] at vk
    by_cases c2 : k=p
    · rw [if_pos c2] at vk
      rw [if_pos (by omega),Array.getElem?_eq_getElem (by omega)] at vi
      rw [Option.some.inj vi,Option.some.inj vk]
      exact b2 i (by omega) (by omega)
    · rw [if_neg c2,Array.getElem?_eq_getElem (by omega)] at vk
      rw [Option.some.inj vk]
      by_cases c3 : i < p
      · rw [if_pos c3,Array.getElem?_eq_getElem (by omega)] at vi
        rw [Option.some.inj vi]
        exact h i (k - 1) (by omega) (by omega) (by omega)
      · rw [if_neg c3] at vi
        by_cases c4 : i=p
        · rw [if_pos c4] at vi
          rw [Option.some.inj vi]
          exact above (k - 1) (by omega) (by omega)
        · rw [if_neg c4,Array.getElem?_eq_getElem (by omega)] at vi
          rw [Option.some.inj vi]
          exact h (i - 1) (k - 1) (by omega) (by omega) (by omega)
theorem rise_range (n : Nat) : Rise (Array.range n):=fun i j hi hj hij=>by simpa using hij
theorem slot_free {t : SetTable} {j : Nat} (h : t.slot j = .empty∨t.slot j = .dummy) : t.place[SetTable.below t.place j]?≠some j:=fun e=>by
  unfold SetTable.slot at h
  dsimp only at h
  rw [e] at h
  simp at h
theorem probe_go {t : SetTable} {ha : Nat→Int} {h : Int} : ∀ (fuel : Nat) (p : SetTable.Probe) {j : Nat} {d : Option Nat},(∀ x,p.dummy=some x→t.slot x = .dummy)→SetTable.probe.go t ha h fuel p=some (.empty j d)→t.slot j = .empty∧∀ x,d=some x→t.slot x = .dummy:=by
  intro fuel
  induction fuel with
  | zero=>intro p j d _ e; cases e
  | succ n ih=>
    intro p j d hp e
    unfold SetTable.probe.go at e
    have adv : ∀ q : SetTable.Probe,(t.advance q).dummy=q.dummy:=fun q=>by unfold SetTable.advance; split <;> rfl
    cases q : t.slot p.j with
    | empty=>
      rw [q] at e
      cases e
      exact ⟨q,hp⟩
    | dummy=>
      rw [q] at e
      refine ih _ (fun x hx=>?_) e
      rw [adv] at hx
      cases hx
      exact q
    | live i=>
      rw [q] at e
      dsimp only at e
      split at e
      · cases e
      · exact ih _ (fun x hx=>hp x (by rw [adv] at hx; exact hx)) e
theorem freeSlot_free {t : SetTable} {h : Int} {j : Nat} {b : Bool} (e : t.freeSlot h=some (j,b)) : t.place[SetTable.below t.place j]?≠some j:=by
  unfold SetTable.freeSlot at e
  split at e
  · rename_i j' d hp
    obtain ⟨p1,p2⟩:=probe_go _ _ (fun x hx=>(by cases hx)) hp
    cases d with
    | none=>cases e; exact slot_free (.inl p1)
    | some x=>cases e; exact slot_free (.inr (p2 x rfl))
  · cases e
theorem layNew_rise {t : SetTable} (es : Array (Int×Value)) (h : Int) (x : Value) (hr : Rise t.place) : Rise (layNew t es h x).2.1.place∧(layNew t es h x).2.1.led=t.led:=by
  unfold layNew
  split
  · rename_i slot wd e
    dsimp only
    unfold SetTable.orStandIn
    split
    · exact ⟨rise_insert hr (freeSlot_free e),rfl⟩
    · exact ⟨rise_range _,rfl⟩
  · exact ⟨rise_range _,rfl⟩
theorem relayAll_rise {t : SetTable} (es : Array (Int×Value)) (n : Nat) : Rise (relayAll t es n).2.1.place∧(relayAll t es n).2.1.led=t.led:=by
  unfold relayAll
  split
  · rename_i t' order e
    dsimp only
    split
    · unfold SetTable.relaid SetTable.laid at e
      cases q : SetTable.layClean (SetTable.sizeAbove n - 1) (es.map (·.1)) with
      | none=>rw [q] at e; cases e
      | some owner=>
        rw [q] at e
        cases e
        refine ⟨fun i j hi hj hij=>?_,rfl⟩
        have pw : (((List.range (SetTable.sizeAbove n - 1 + 1)).filterMap fun j=>(owner.getD j none).map (j,·)).map (·.1)).Pairwise (· < ·):=by
          rw [List.pairwise_map]
          refine List.Pairwise.filterMap (R:=(· < ·)) _ (fun a a' haa b hb b' hb'=>?_) List.pairwise_lt_range
          cases q1 : owner.getD a none with
          | none=>rw [q1] at hb; cases hb
          | some v1=>
            cases q2 : owner.getD a' none with
            | none=>rw [q2] at hb'; cases hb'
            | some v2=>rw [q1] at hb; rw [q2] at hb'; cases hb; cases hb'; exact haa
        have:=List.pairwise_iff_getElem.mp pw i j (by simpa using hi) (by simpa using hj) hij
        simpa using this
    · exact ⟨rise_range _,rfl⟩
  · exact ⟨rise_range _,rfl⟩
end L2
namespace L2
open PySem PySem.Spec PyProof.Rows
def byT (w : World) : Bool:=w.params.followText "set-order"
def kOf (e : Int×Value) : Int:=match e.2 with
  | .int k _=>k
  | _=>0
def AllI (l : List (Int×Value)) : Prop:=∀ e∈l,∃ k t,e=(hashInt k,.int k t)
def SetI (w : World) (a : Addr) (ns : List Int) (h : Heap) : Prop:=∃ o es ep t,h.get? a=some o∧o.ExactSet∧o.data = .set es ep t∧AllI es.toList∧(es.toList.map kOf).Perm ns∧es.size < scanBound∧t.fits es.size=true∧t.led = !byT w∧Rise t.place
section
variable {prog : Program} {w : World} {A : Around} {E : Value→Shared→Prop} {s : Shared}
theorem AllI.elems {l : List (Int×Value)} (h : AllI l) : ElemsOf (intKind prog w) l:=fun e he=>by
  obtain ⟨k,t,rfl⟩:=h e he
  exact ⟨⟨k,intKind_is prog w k t,rfl⟩,rfl⟩
theorem AllI.perm {l l' : List (Int×Value)} (h : AllI l) (p : l'.Perm l) : AllI l':=fun e he=>h e (p.mem_iff.mp he)
theorem AllI.has {l : List (Int×Value)} (h : AllI l) (x : Int) : x∈l.map kOf↔∃ e∈l,(intKind prog w).is x e.2=true:=by
  constructor
  · intro m
    obtain ⟨e,he,rfl⟩:=List.mem_map.mp m
    obtain ⟨k,t,rfl⟩:=h e he
    exact ⟨_,he,intKind_is prog w k t⟩
  · rintro ⟨e,he,hx⟩
    obtain ⟨k,t,rfl⟩:=h e he
    have : x=k:=(intKind prog w).inj _ x k hx (intKind_is prog w k t)
    subst this
    exact List.mem_map.mpr ⟨_,he,rfl⟩
theorem SetI.typeIs {a : Addr} {ns : List Int} (S : SetI w a ns s.heap) : s.TypeIs (.ref a) "set" := let ⟨o,_,_,_,ho,hc,_⟩:=S; ⟨o,ho,hc.1⟩
theorem SetI.keep {a : Addr} {ns : List Int} {h h' : Heap} (S : SetI w a ns h) (k : ∀ o,h.get? a=some o→h'.get? a=some o) : SetI w a ns h':=let ⟨o,es,ep,t,ho,r⟩:=S; ⟨o,es,ep,t,k o ho,r⟩
theorem set_store {a : Addr} {o : Obj} {es es' : Array (Int×Value)} {ep : Nat} {t t' : SetTable} {ns : List Int} {h : Heap} (ho : h.get? a=some o) (hex : o.ExactSet) (hd : o.data = .set es ep t) (r : AllI es'.toList∧(es'.toList.map kOf).Perm ns∧es'.size < scanBound∧t'.fits es'.size=true∧t'.led = !byT w∧Rise t'.place) :
    (h.update a (Obj.putSet es' t')).get? a=some { o with data:=.set es' (ep + 1) t' }∧SetI w a ns (h.update a (Obj.putSet es' t')):=by
  have hg : (h.update a (Obj.putSet es' t')).get? a=some { o with data:=.set es' (ep + 1) t' }:=by
    have:=Heap.get?_update_self (Obj.putSet es' t') ho (by rw [putSet_of es' t' hd]; rfl)
    rw [putSet_of es' t' hd] at this
    exact this
  exact ⟨hg,_,es',ep + 1,t',hg,hex,rfl,r⟩
theorem set_new {Q : Value→Shared→Prop} (h : ∀ h',(∀ b o,s.heap.get? b=some o→h'.get? b=some o)→h'.objs.size=s.heap.objs.size + 1→SetI w s.heap.objs.size [] h'→Q (.ref s.heap.objs.size) { s with heap:=h' }) : wpAny (model prog w) A (newSet (.type "set")) Q E s:=by
  unfold newSet setsByText
  refine wpAny_bind (wpAny_bind (wpAny_askSetting (wpAny_pure ?_)))
  dsimp only
  simp only [newObj]
  refine wpAny_bind (wpAny_alloc (wpAny_pure (h _ (fun b o e=>Heap.get?_push_of_some _ e) (Heap.size_push ..) ⟨_,#[],0,_,Heap.get?_push_size _ rfl,⟨rfl,rfl,rfl⟩,rfl,fun e he=>by simp at he,by exact List.Perm.refl _,by decide,by rfl,rfl,fun i j hi=>by simp [SetTable.fresh] at hi⟩)))
theorem set_tail {g : Bool→Sem Unit} (hg : ∀ (b : Bool) (s₁ : Shared) (Q' : Unit→Shared→Prop),Q' () s₁→wpAny (model prog w) A (g b) Q' E s₁)
    {a : Addr} {o : Obj} {es es1 : Array (Int×Value)} {ep : Nat} {t t2 : SetTable} {ns : List Int} {wd : Bool} {R : Option Bool→Shared→Prop} (ho : s.heap.get? a=some o) (hex : o.ExactSet) (hd : o.data = .set es ep t)
    (r : AllI es1.toList∧(es1.toList.map kOf).Perm ns∧es1.size < scanBound∧t2.fits es1.size=true∧t2.led = !byT w∧Rise t2.place) (h : ∀ h',Heap.SameBut a s.heap h'→SetI w a ns h'→R (some true) { s with heap:=h' }) :
    wpAny (model prog w) A (do
        storeSet a es1 t2
        if (!wd && t2.tooFull)=true then do
            g (relayAll t2 es1 (SetTable.grown es1.size)).2.2
            storeSet a (relayAll t2 es1 (SetTable.grown es1.size)).1 (relayAll t2 es1 (SetTable.grown es1.size)).2.1
            pure (some true)
          else pure (some true)) R E s:=by
  obtain ⟨r1,r2,r3,r4,r5,r6⟩:=id r
  refine wpAny_bind (wpAny_storeSet_of ho hd ?_ (fits_of_scanBound r3))
  obtain ⟨o1,S1⟩:=set_store (w:=w) ho hex hd r
  have u1:=Heap.SameBut.update s.heap a (Obj.putSet es1 t2)
  split
  · have hp:=relayAll_perm t2 es1 (SetTable.grown es1.size)
    have hf:=relayAll_fits t2 es1 (SetTable.grown es1.size)
    obtain ⟨hr,hl⟩:=relayAll_rise (t:=t2) es1 (SetTable.grown es1.size)
    generalize relayAll t2 es1 (SetTable.grown es1.size)=Rl at hp hf hr hl ⊢
    obtain ⟨es2,t3,gave⟩:=Rl
    dsimp only at hp hf hr hl ⊢
    have hz : es2.size=es1.size:=by rw [← Array.length_toList,hp.length_eq,Array.length_toList]
    refine wpAny_bind (hg _ _ _ ?_)
    refine wpAny_bind (wpAny_storeSet_of o1 rfl ?_ (fits_of_scanBound (by rw [hz]; exact r3)))
    obtain ⟨_,S2⟩:=set_store (w:=w) (ns:=ns) o1 hex rfl ⟨r1.perm hp,(hp.map kOf).trans r2,by rw [hz]; exact r3,hf,by rw [hl]; exact r5,hr⟩
    exact wpAny_pure (h _ (u1.trans (Heap.SameBut.update _ a _)) S2)
  · exact wpAny_pure (h _ u1 S1)
theorem set_add {a : Addr} {ns : List Int} {x : Int} {tx : Tok} {Q : Value→Shared→Prop} (S : SetI w a ns s.heap) (hn : ns.length + 1 < scanBound)
    (h : ∀ h',Heap.SameBut a s.heap h'→SetI w a (if x∈ns then ns else ns ++ [x]) h'→Q .none { s with heap:=h',toks:=s.toks + 1 }) : wpAny (model prog w) A (call (.builtin "set.add") [.ref a,.int x tx]) Q E s:=by
  refine wpAny_call_entry PySem.F.slot_set_add S.typeIs PySem.F.entry_set_add ?_ (PySem.F.args_set_add_2 _ _)
  unfold Builtin.«set.add» Builtin.Frozenset.oneOther
  simp only [List.isEmpty_nil,bind_assoc]
  unfold Builtin.Frozenset.addrOf setAdd
  refine wpAny_bind (wpAny_pure ?_)
  try dsimp only
  refine wpAny_bind (wpAny_pure ?_)
  try dsimp only
  refine wpAny_bind (wpAny_holding (wpAny_bind ((intKind prog w).pyHash (intKind_is prog w x tx) ?_)))
  obtain ⟨o,es,ep,t,ho,hex,hd,hel,hpm,hb,hf,hled,hrise⟩:=S
  have hsz : es.size=ns.length:=by rw [← Array.length_toList,← hpm.length_eq,List.length_map]
  have elems : ElemsOf (intKind prog w) es.toList:=hel.elems
  have key:=intKind_is prog w x tx
  unfold setAddHashed setAddHashedIn
  refine wpAny_holding (wpAny_bind (wpAny_setState_of (s:={ s with toks:=s.toks + 1 }) ho hd hf ?_))
  dsimp only
  rw [byScan_of (x:=.int x tx) rfl hb elems]
  simp only [↓reduceIte]
  unfold setAddByScan
  refine wpAny_bind (wpAny_bind (wpAny_rule (wpAny_bind (wpAny_setScan_of key ho hd hf elems ?_))))
  have mem:=(hel.has (prog:=prog) (w:=w) x)
  cases hr : List.findIdx? (fun e=>(intKind prog w).is x e.2) es.toList with
  | some j=>
    dsimp only
    obtain ⟨hj,hpj,_⟩:=List.findIdx?_eq_some_iff_getElem.mp hr
    have hx : x∈ns:=hpm.mem_iff.mp (mem.mpr ⟨_,List.getElem_mem hj,hpj⟩)
    rw [if_pos hx] at h
    refine wpAny_pure (wpAny_pure ?_)
    show wpAny _ _ (ret Value.none) _ _ _
    exact wpAny_pure ⟨_,rfl,h s.heap (Heap.SameBut.refl a s.heap) ⟨o,es,ep,t,ho,hex,hd,hel,hpm,hb,hf,hled,hrise⟩⟩
  | none=>
    dsimp only
    have hx : x ∉ ns:=fun z=>by
      obtain ⟨e,he,hp⟩:=mem.mp (hpm.mem_iff.mpr z)
      have:=List.findIdx?_eq_none_iff.mp hr e he
      rw [hp] at this
      cases this
    rw [if_neg hx] at h
    have hgw : ∀ (b : Bool) {s₁ : Shared} {Q' : Unit→Shared→Prop},Q' () s₁→wpAny (model prog w) A.in1 (match b with | true=>rule "set.scan.the-table-gave-way" | false=>pure ()) Q' E s₁:=fun b s₁ Q' hq=>by cases b <;> first | exact wpAny_pure hq | exact wpAny_rule hq
    have hp1:=layNew_perm t es ((intKind prog w).hash x) (.int x tx)
    have hf1:=layNew_fits t es ((intKind prog w).hash x) (.int x tx)
    obtain ⟨hr1,hl1⟩:=layNew_rise es ((intKind prog w).hash x) (.int x tx) hrise
    generalize layNew t es ((intKind prog w).hash x) (.int x tx)=L at hp1 hf1 hr1 hl1 ⊢
    obtain ⟨es1,t1,wd,gave⟩:=L
    dsimp only at hp1 hf1 hr1 hl1 ⊢
    rw [Array.toList_push] at hp1
    have el1 : AllI es1.toList:=AllI.perm (l:=es.toList ++ [((intKind prog w).hash x,.int x tx)]) (fun e he=>by
      rcases List.mem_append.mp he with z | z
      · exact hel e z
      · rw [List.mem_singleton.mp z]; exact ⟨x,tx,rfl⟩) hp1
    have pm1 : (es1.toList.map kOf).Perm (ns ++ [x]):=(hp1.map kOf).trans (by rw [List.map_append]; exact hpm.append_right _)
    have sz1 : es1.size < scanBound:=by rw [← Array.length_toList,hp1.length_eq,List.length_append,Array.length_toList,hsz]; exact hn
    refine wpAny_bind (hgw _ ?_)
    have fin : ∀ h',Heap.SameBut a s.heap h'→SetI w a (ns ++ [x]) h'→wpAny (model prog w) A.in1 (ret Value.none) (fun r s'=>∃ v,r = .done (.ret v)∧Q v s') E { s with heap:=h',toks:=s.toks + 1 }:=fun h' sb S'=>wpAny_pure ⟨_,rfl,h h' sb S'⟩
    split
    · refine wpAny_bind ?_
      rw [hashByValue_scannable 8 (x:=.int x tx) rfl]
      refine wpAny_pure ?_
      simp only [plainKind,↓reduceIte]
      refine set_tail (w:=w) (ns:=ns ++ [x]) ?_ ho hex hd ⟨el1,pm1,sz1,hf1,by rw [hl1]; exact hled,hr1⟩ ?_
      · intro b s₁ Q' hq; cases b <;> first | exact wpAny_pure hq | exact wpAny_rule hq
      · intro h' sb S'; dsimp only; exact wpAny_pure (fin h' sb S')
    · refine wpAny_bind (wpAny_pure ?_)
      simp only [↓reduceIte]
      refine set_tail (w:=w) (ns:=ns ++ [x]) ?_ ho hex hd ⟨el1,pm1,sz1,hf1,by rw [hl1]; exact hled,hr1⟩ ?_
      · intro b s₁ Q' hq; cases b <;> first | exact wpAny_pure hq | exact wpAny_rule hq
      · intro h' sb S'; dsimp only; exact wpAny_pure (fin h' sb S')
end
end L2
namespace L2
open PySem PySem.Spec PyProof.Rows
def HS (w : World) (a : Addr) (ns : List Int) : HO:=.ext (SetI w a ns)
theorem hs_ok {P : Program} {w : World} {H : Hp} {h : Heap} {a : Addr} {ns : List Int} (S : SetI w a ns h) : ObjOk P w H h a (HS w a ns):=⟨S,(let ⟨o,_,_,_,ho,_⟩:=S; ⟨o,ho⟩),fun h1 h2 S1 k=>S1.keep k⟩
theorem hs_at {X : Cx} {pins : List (Addr×Obj)} {σ : St} {H : Hp} {s : Shared} {a : Addr} {ns : List Int} (I : Inv X pins σ H s) (e : H a=some (HS X.w a ns)) : SetI X.w a ns s.heap:=(show ObjOk X.prog X.w H s.heap a (HS X.w a ns) from I.hok a _ e).1
theorem s_add {X : Cx} {pins : List (Addr×Obj)} {σ : St} {H : Hp} {s : Shared} {a : Addr} {ns : List Int} {x : Int} {tx : Tok} {A : Around} {E : Value→Shared→Prop} {Q : Value→Shared→Prop} (I : Inv X pins σ H s) (e : H a=some (HS X.w a ns)) (hn : ns.length + 1 < scanBound)
    (h : ∀ s',Inv X pins σ (upd H a (HS X.w a (if x∈ns then ns else ns ++ [x]))) s'→Q .none s') : wpAny (model X.prog X.w) A (call (.builtin "set.add") [.ref a,.int x tx]) Q E s :=
  set_add (w:=X.w) (hs_at I e) hn fun h' sb S'=>h _ (d_write I (by rw [e]; exact True.intro) sb (let ⟨o,_,_,_,ho,_⟩:=S'; ⟨o,ho⟩) (hs_ok S'))
theorem compTurn_set (elt target iter : Expr) (ifs : List Expr) (scope : Scope) (pos : Pos) (it acc : Value) (env : Env) :
    compTurn (.SetComp elt [⟨target,iter,ifs,0⟩] scope pos) 0 it acc env=(do
      standAt iter.pos
      match ← pyNext it with
      | none=>pure (.done .next)
      | some v=>
        letOwnedTupleGo target it v
        assign target env v
        let mut ok:=true
        for c in ifs do
          if ok then ok ← isTrue c env (eval c env)
        if ok then
          (do let v ← eval elt env; standAt elt.pos; let _ ← call (.builtin "set.add") [acc,v])
        again (.compLoop (.SetComp elt [⟨target,iter,ifs,0⟩] scope pos) 0 it acc env)):=by rfl
section
variable {prog : Program} {w : World} {A : Around} {R : Result→Shared→Prop} {s : Shared}
theorem compStart_set {elt target iter ifs scope pos it acc env}
    (h0 : codeAny (model prog w) A (.compLoop (.SetComp elt [⟨target,iter,ifs,0⟩] scope pos) 0 it acc env) R s)
    (h : wpAny (model prog w) A (pyIter it) (fun it' s'=>codeAny (model prog w) A (.compLoop (.SetComp elt [⟨target,iter,ifs,0⟩] scope pos) 0 it' acc env) R s') (notedBy (model prog w) A env fun x s'=>R (.error x) s') s) :
    codeAny (model prog w) A (.compStart (.SetComp elt [⟨target,iter,ifs,0⟩] scope pos) 0 it acc env) R s:=by
  refine codeAny_of_tree ?_
  show wpAny _ _ ((compStart (.SetComp elt [⟨target,iter,ifs,0⟩] scope pos) 0 it acc env).onRaise (fun x=>do noteFrame x env; standAt theWindowsPlace)) _ _ s
  refine wpAny_notedAt ?_
  unfold compStart
  show wpAny _ _ (ask >>= _) _ _ s
  refine wpAny_bind (wpAny_askSetting (wpAny_ite ?_))
  split
  · first | exact wpAny_bind (wpAny_pure (wpAny_pure (And.intro rfl h0))) | exact wpAny_pure (And.intro rfl h0)
  · refine wpAny_bind (wpAny_rule ?_)
    show wpAny _ _ (standAt iter.pos >>= _) _ _ s
    exact wpAny_bind (wpAny_standAt (wpAny_bind (wpAny_mono h (fun it' s' h'=>wpAny_pure (And.intro rfl h')) fun _ _ x=>x)))
end
section
variable {X : Cx} {N' : List Str} {ix : List (Option Nat)} {scope : Scope} {elt tg iter : Expr} {ifs : List Expr} {pos : Pos} {wi : TI} {g : TG} {ti : TT} {te : TE}
def tSComp (w : World) (ix : List (Option Nat)) (wi : TI) (g : TG) (ti : TT) (te : TE) : TE:=fun σ H Q=>wi σ H fun J H1=>∀ D,H1 D=none→∃ W : Nat→Nat→Hp→Prop,(∃ m,W 0 m (upd H1 D (HS w D [])))∧∀ i m H,W i m H→
  (J.stop i H∧Q (.ref D) H)∨(J.go i H∧∀ x H',J.yld i H x H'→g x (compSt ix σ) H' fun σ2 H2=>(∀ (k : Nat) v,(compSt ix σ)[k]? = some (some v)→σ2[k]? = some (some v))∧ti σ2 H2 fun b H3=>
    if b=true then te σ2 H3 fun y H4=>∃ ns x,H4 D=some (HS w D ns)∧y = .int x∧ns.length + 1 < scanBound∧∃ m',m' < m∧W (i + 1) m' (upd H4 D (HS w D (if x∈ns then ns else ns ++ [x]))) else ∃ m',m' < m∧W (i + 1) m' H3)
theorem scomp_loop {X' : Cx} {σ₀ : St} {H : Hp} {s : Shared} {Q : VK} {it D : Addr} {fp : List Addr} {tn : Nat→Heap→Prop} {J : It} {W : Nat→Nat→Hp→Prop} {m0 : Nat} (I : Inv X' [] σ₀ H s) (hcalm : X'.calm=true) (hxe : X'.xe=fun _ _=>False)
    (T : Turn X'.prog X'.w X'.K tg J fp it tn) (st : tn 0 s.heap) (hf : ∀ b∈fp,FpOk X' [] H b) (hg : PG X' tg g) (hi : PIfs X' ifs ti) (he : PE X' elt te) (w0 : W 0 m0 H)
    (turn : ∀ i m H,W i m H→(J.stop i H∧Q (.ref D) H)∨(J.go i H∧∀ x H',J.yld i H x H'→g x σ₀ H' fun σ2 H2=>(∀ (k : Nat) v,σ₀[k]? = some (some v)→σ2[k]? = some (some v))∧ti σ2 H2 fun b H3=>
        if b=true then te σ2 H3 fun y H4=>∃ ns x,H4 D=some (HS X'.w D ns)∧y = .int x∧ns.length + 1 < scanBound∧∃ m',m' < m∧W (i + 1) m' (upd H4 D (HS X'.w D (if x∈ns then ns else ns ++ [x]))) else ∃ m',m' < m∧W (i + 1) m' H3)) :
    codeAny (model X'.prog X'.w) X'.A (.compStart (.SetComp elt [⟨tg,iter,ifs,0⟩] scope pos) 0 (.ref it) (.ref D) X'.env) (fun r s'=>(∃ f,r = .ok f)∧∃ H',Inv X' [] σ₀ H' s'∧Q (.ref D) H') s:=by
  have stat : ∀ {H' : Hp},(∀ b∈fp,H' b=none)→∀ b∈fp,FpOk X' [] H' b:=fun hn b hb=>⟨hn b hb,(hf b hb).2⟩
  have loop : codeAny (model X'.prog X'.w) X'.A (.compLoop (.SetComp elt [⟨tg,iter,ifs,0⟩] scope pos) 0 (.ref it) (.ref D) X'.env) (fun r s'=>(∃ f,r = .ok f)∧∃ H',Inv X' [] σ₀ H' s'∧Q (.ref D) H') s:=by
    refine codeAny_loop rfl (fun n s'=>∃ i H',Inv X' [] σ₀ H' s'∧tn i s'.heap∧(∀ b∈fp,H' b=none)∧W i n H') ?_ m0 ⟨0,H,I,st,fun b hb=>(hf b hb).1,w0⟩
    rintro n s1 ⟨i,H1,I1,st1,fr1,w1⟩
    show wpAny _ X'.A ((compTurn (.SetComp elt [⟨tg,iter,ifs,0⟩] scope pos) 0 (.ref it) (.ref D) X'.env).onRaise (fun x=>do noteFrame x X'.env; theTreesLotGoes x)) _ _ s1
    refine wpAny_noted ?_
    have noE : ∀ {α : Type} {t : Sem α} {P : α→Shared→Prop} {F : Value→Shared→Prop} {s : Shared},wpAny (model X'.prog X'.w) X'.A t P X'.xe s→wpAny (model X'.prog X'.w) X'.A t P F s:=fun h=>wpAny_mono h (fun _ _ x=>x) fun e s' x=>by rw [hxe] at x; exact x.elim
    rw [compTurn_set]
    refine wpAny_bind (wpAny_standAt (wpAny_bind ?_))
    rcases turn i n H1 w1 with ⟨stop,qn⟩ | ⟨go,step⟩
    · refine thn (T.done X' rfl rfl rfl hcalm i [] s1 σ₀ H1 _ I1 (stat fr1) st1 stop) fun r s2 ⟨hr,I2⟩=>?_
      subst hr
      exact wpAny_pure ⟨⟨_,rfl⟩,H1,I2,qn⟩
    · refine thn (T.item X' rfl rfl rfl hcalm i [] s1 σ₀ H1 _ I1 (stat fr1) st1 go) fun r s2 ⟨u,hr,h2⟩=>?_
      subst hr
      refine wpAny_bind (thn h2 fun _ s3 ⟨x,H3,I3,r3,y3,st3,fr3⟩=>?_)
      have I3':=I3.pinned (stat fr3) (T.obj _ _ st3)
      refine wpAny_bind (noE (thn (hg _ s3 σ₀ H3 x u _ I3' r3 (step x H3 y3)) fun _ s4 ⟨σ4,H4,I4,hk4,q4⟩=>?_))
      refine wpAny_bind (noE (thn (hi _ s4 σ4 H4 _ I4 q4) fun ok s5 ⟨H5,I5,q5⟩=>?_))
      have again' : ∀ {s7 : Shared} {H7 : Hp} {m' : Nat},Inv X' ([] ++ pinsAt fp s3.heap) σ4 H7 s7→m' < n→W (i + 1) m' H7→∃ m,m < n∧∃ i H',Inv X' [] σ₀ H' s7∧tn i s7.heap∧(∀ b∈fp,H' b=none)∧W i m H':=fun {s7 H7 m'} I7 hm w7=>by
        refine ⟨m',hm,i + 1,H7,I7.unpinned.weak (by rw [I3.len,I7.len]) hk4,T.keep _ _ _ st3 fun b hb o e=>(I7.pin (b,o) (List.mem_append_right _ (List.mem_append_right _ (mem_pinsAt hb e)))).1,fun b hb=>?_,w7⟩
        obtain ⟨o,e,d⟩:=T.obj _ _ st3 b hb
        exact (I7.pin (b,o) (List.mem_append_right _ (List.mem_append_right _ (mem_pinsAt hb e)))).2.1
      cases ok with
      | false=>
        obtain ⟨m',hm,w7⟩:=q5
        exact wpAny_pure ⟨rfl,again' I5 hm w7⟩
      | true=>
        refine wpAny_bind (wpAny_bind (noE (thn (he _ s5 σ4 H5 _ I5 q5) fun y s6 ⟨yv,H6,I6,r6,ns,x6,hD,ey,hz,m',hm,w7⟩=>?_)))
        subst ey
        obtain ⟨tx,rfl⟩:=r6
        refine wpAny_bind (wpAny_standAt (wpAny_bind ?_))
        exact s_add I6 hD hz fun s8 I8=>wpAny_pure (wpAny_pure ⟨rfl,again' I8 hm w7⟩)
  refine compStart_set loop (T.self _ 0 s _ _ st loop)
theorem scomp_block {pins : List (Addr×Obj)} {σ : St} {H : Hp} {s : Shared} {Q : VK} {it : Addr} {fp : List Addr} {tn : Nat→Heap→Prop} {J : It} {E : Value→Shared→Prop} (I : Inv X pins σ H s) (hcalm : X.calm=true) (S : CompScope X N' ix scope)
    (T : Turn X.prog X.w X.K tg J fp it tn) (st : tn 0 s.heap) (hf : ∀ b∈fp,FpOk X pins H b)
    (hg : ∀ C s H fp,PG (cxComp X N' scope C s H fp) tg g) (hi : ∀ C s H fp,PIfs (cxComp X N' scope C s H fp) ifs ti) (he : ∀ C s H fp,PE (cxComp X N' scope C s H fp) elt te)
    (h : ∀ D,H D=none→∃ W : Nat→Nat→Hp→Prop,(∃ m,W 0 m (upd H D (HS X.w D [])))∧∀ i m H,W i m H→
      (J.stop i H∧Q (.ref D) H)∨(J.go i H∧∀ x H',J.yld i H x H'→g x (compSt ix σ) H' fun σ2 H2=>(∀ (k : Nat) v,(compSt ix σ)[k]? = some (some v)→σ2[k]? = some (some v))∧ti σ2 H2 fun b H3=>
        if b=true then te σ2 H3 fun y H4=>∃ ns x,H4 D=some (HS X.w D ns)∧y = .int x∧ns.length + 1 < scanBound∧∃ m',m' < m∧W (i + 1) m' (upd H4 D (HS X.w D (if x∈ns then ns else ns ++ [x]))) else ∃ m',m' < m∧W (i + 1) m' H3)) :
    wpAny (model X.prog X.w) X.A (newSet (.type "set")) (fun acc s3=>wpAny (model X.prog X.w) X.A (newFunctionEnv scope X.env.globals (clOf X.env scope.names []) [] X.env.qual none .none (some X.env)) (fun cenv s4 =>
      codeAny (model X.prog X.w) X.A (.compStart (.SetComp elt [⟨tg,iter,ifs,0⟩] scope pos) 0 (.ref it) acc { cenv with scope:=relabel scope X.env }) (CompEnd X pins σ Q acc cenv.locals) s4) E s3) E s:=by
  refine set_new (w:=X.w) fun h3 kk hsz S3=>?_
  have fresh0 : H s.heap.objs.size=none:=I.hok.fresh (Nat.le_refl _)
  obtain ⟨W,⟨m0,w0⟩,turn⟩:=h s.heap.objs.size fresh0
  have lt0 : ∀ b∈fp,b < s.heap.objs.size:=fun b hb=>by obtain ⟨o,e,_⟩:=T.obj 0 _ st b hb; exact Heap.lt_size e
  generalize hD : s.heap.objs.size=D at *
  have I3 : Inv X pins σ (upd H D (HS X.w D [])) { s with heap:=h3 }:=I.laid (a:=D) (o:=HS X.w D []) (t':=s.toks) kk (Nat.le_of_eq hD) (hs_ok S3)
  have hf3 : ∀ b∈fp,FpOk X pins (upd H D (HS X.w D [])) b:=fun b hb=>by
    obtain ⟨f0,fr⟩:=hf b hb
    exact ⟨by rw [upd_ne (Nat.ne_of_lt (lt0 b hb))]; exact f0,fr⟩
  have st3 : tn 0 h3:=T.keep _ _ _ st fun b hb o e=>kk b o e
  have lt3 : ∀ b∈fp,b < h3.objs.size:=fun b hb=>by obtain ⟨o,e,_⟩:=T.obj 0 _ st3 b hb; exact Heap.lt_size e
  refine wpAny_newFunctionEnv S.nocell (fun x hx=>nomatch hx) (fun h4 hns hsb=>?_) S.kind
  have k4 : ∀ b o,h3.get? b=some o→h4.get? b=some o:=fun b o e=>(hsb.2 b (Nat.ne_of_lt (Heap.lt_size e))).trans (Heap.get?_push_of_some _ e)
  have J4 : Inv (cxComp X N' scope h3.objs.size { s with heap:=h3 } (upd H D (HS X.w D [])) fp) [] (compSt ix σ) (upd H D (HS X.w D [])) { s with heap:=h4,toks:=s.toks + ([] : List (Str×Value)).length }:=
    inv_comp (s:={ s with heap:=h3 }) (tk:=s.toks + ([] : List (Str×Value)).length) I3 hcalm S hf3 lt3 hns k4
  have st4 : tn 0 ({ s with heap:=h4,toks:=s.toks + ([] : List (Str×Value)).length } : Shared).heap:=T.keep _ _ _ st3 fun b hb o e=>k4 b o e
  have fr4 : ∀ b∈fp,upd H D (HS X.w D []) b=none:=fun b hb=>(hf3 b hb).1
  revert J4 st4
  generalize ({ s with heap:=h4,toks:=s.toks + ([] : List (Str×Value)).length } : Shared)=s4
  intro J4 st4
  have hf4 : ∀ b∈fp,FpOk (cxComp X N' scope h3.objs.size { s with heap:=h3 } (upd H D (HS X.w D [])) fp) [] (upd H D (HS X.w D [])) b:=fun b hb=>
    ⟨fr4 b hb,Nat.ne_of_lt (lt3 b hb),J4.ok.exfs b hb,.inl hb,fun x c e=>(J4.ok.exf b hb).2 x c e,fun p hp=>nomatch hp⟩
  refine codeAny_mono (scomp_loop (X':=cxComp X N' scope h3.objs.size { s with heap:=h3 } (upd H D (HS X.w D [])) fp) (Q:=Q) (D:=D) J4 rfl rfl T st4 hf4 (hg _ _ _ _) (hi _ _ _ _) (he _ _ _ _) w0 turn) fun r s' ⟨hr,H',J',q'⟩=>?_
  refine ⟨D,H',rfl,hr,I3.call' J'.os J'.base J'.hok J'.bare fun b hb=>?_,?_,?_,q'⟩
  · obtain ⟨_,f1,_,f3,f4,f5⟩:=hf3 b hb
    exact ⟨f3,f1,f4,f5⟩
  · exact I3.fpOk (H':=H') (Nat.le_refl _) J'.free
  · obtain ⟨m,hn,_⟩:=J'.loc
    exact ⟨m,hn⟩
theorem pe_scomp (hcalm : X.calm=true) (S : CompScope X N' ix scope) (hit : PI X tg iter wi)
    (hg : ∀ C s H fp,PG (cxComp X N' scope C s H fp) tg g) (hi : ∀ C s H fp,PIfs (cxComp X N' scope C s H fp) ifs ti) (he : ∀ C s H fp,PE (cxComp X N' scope C s H fp) elt te)
    (hs : ∀ x,foldedSetIterable iter X.env x=pure x:=by intro _; rfl) : PE X (.SetComp elt [⟨tg,iter,ifs,0⟩] scope pos) (tSComp X.w ix wi g ti te):=by
  intro pins s σ H Q I h
  show wpAny _ X.A (comprehension (.SetComp elt [⟨tg,iter,ifs,0⟩] scope pos) scope X.env _ (newSet (.type "set")) false (eval iter X.env)) _ _ s
  refine wpAny_comprehension_free (use:=none) rfl hs (comp_closure I S) S.kind S.loc (thn (hit pins s σ H _ I h) fun v s1 h1=>thn h1 fun itv s2 h2=>?_)
  obtain ⟨it,fp,tn,J,H2,rfl,I2,T,st2,f2,q2⟩:=h2
  refine thn (scomp_block (E:=X.xe) (elt:=elt) (iter:=iter) (pos:=pos) I2 hcalm S T st2 f2 hg hi he q2) fun acc s3 h3=>thn h3 fun cenv s4 h4=>codeAny_mono h4 fun r s' hr=>?_
  obtain ⟨D,H',rfl,⟨f,rfl⟩,I',⟨g0,g1,_,g3,g4,g5⟩,⟨m,hm⟩,q'⟩:=hr
  exact ⟨m,hm,fun h' hsb=>⟨.ref D,H',I'.turned (t':=s'.toks) (fun b o hb e=>(hsb.2 b hb).trans e) g0 g1 g3 g4 g5,rfl,q'⟩⟩
end
end L2
namespace L2
open PySem PySem.Spec PyProof.Rows
theorem erase_perm {α : Type} : ∀ {l : List α} {i : Nat} (hi : i < l.length),(l[i] :: l.eraseIdx i).Perm l
  | x :: r,0,_=>List.Perm.refl _
  | x :: r,i + 1,hi=>by
    have hi' : i < r.length:=by simpa using hi
    have h:=erase_perm hi'
    show (r[i] :: x :: r.eraseIdx i).Perm (x :: r)
    exact (List.Perm.swap x r[i] _).trans (h.cons x)
theorem pick_go {α : Type} (next : Nat→Nat) : ∀ (fuel k : Nat) (left : List α) (out : Array α),left.length=fuel→(pickOrder.go next fuel k left out).toList.Perm (out.toList ++ left):=by
  intro fuel
  induction fuel with
  | zero=>
    intro k left out h
    rw [List.length_eq_zero_iff.mp h,List.append_nil]
    exact List.Perm.refl _
  | succ n ih=>
    intro k left out h
    unfold pickOrder.go
    have hi : next k % left.length < left.length:=Nat.mod_lt _ (by omega)
    rw [List.getElem?_eq_getElem hi]
    dsimp only
    refine (ih _ _ _ (by rw [List.length_eraseIdx,if_pos hi]; omega)).trans ?_
    rw [Array.toList_push,List.append_assoc]
    refine List.Perm.append_left _ ?_
    exact erase_perm hi
theorem pick_perm {α : Type} (next : Nat→Nat) (xs : Array α) : (pickOrder next xs).toList.Perm xs.toList:=by
  have:=pick_go next xs.size 0 xs.toList #[] (by simp)
  simpa [pickOrder] using this
section
variable {prog : Program} {w : World} {A : Around} {E : Value→Shared→Prop} {s : Shared}
theorem wpAny_choose {src : Source} {n : Nat} {Q : Nat→Shared→Prop} (hn : n≠0) (h : ∀ i d,i < n→Q i { s with drawn:=d }) : wpAny (model prog w) A (choose src n) Q E s:=
  fun _ _ _=>⟨hn,h _ _ (Nat.mod_lt _ (Nat.pos_of_ne_zero hn))⟩
theorem wpAny_drawOrder {α : Type} : ∀ (n : Nat) (xs : List α) (s : Shared) {Q : List α→Shared→Prop},xs.length=n→(∀ ys d,ys.Perm xs→Q ys { s with drawn:=d })→wpAny (model prog w) A (drawOrder n xs) Q E s:=by
  intro n
  induction n with
  | zero=>
    intro xs s Q h q
    unfold drawOrder
    rw [List.length_eq_zero_iff.mp h] at q
    exact wpAny_pure (q [] s.drawn (List.Perm.refl _))
  | succ n ih=>
    intro xs s Q h q
    cases xs with
    | nil=>cases h
    | cons x r=>
      unfold drawOrder
      refine wpAny_bind (wpAny_choose (by simp) fun i d hi=>?_)
      rw [List.getElem?_eq_getElem hi]
      dsimp only
      refine wpAny_bind (ih _ _ (by rw [List.length_eraseIdx,if_pos hi]; omega) fun ys d' hp=>wpAny_pure (q _ d' ?_))
      exact (hp.cons _).trans (erase_perm hi)
end
theorem slot_set_iterator_next : Slot "set_iterator" "__next__" "set_iterator.__next__" :=
  .of (owner := "set_iterator") (n := "__next__") (by rw [typeLookup_type,builtinLookup_eq_fast]; kernel_rfl) (by decide +kernel) (by decide +kernel) (by decide +kernel) (by first | exact .inl (by decide +kernel) | exact .inr (by decide +kernel)) (by rw [isSubtype_type]; kernel_rfl)
theorem entry_set_iterator_next : entryFor table "set_iterator.__next__" = some Builtin.«set_iterator.__next__»:=entryFor_of_tree (by kernel_rfl)
theorem args_set_iterator_next (a : Value) : argsOk "set_iterator.__next__" ⟨[a],[]⟩:=by unfold argsOk; kernel_rfl
theorem entry_set_iter : entryFor table "set.__iter__" = some Builtin.«frozenset.__iter__»:=entryFor_alias (by kernel_rfl) rfl (id' := "frozenset.__iter__") (by decide +kernel) (by kernel_rfl)
def SIter (h : Heap) (I : Addr) (first : Value) (i : Nat) (a : Addr) (n ep : Nat) : Prop:=h.get? I=some { cls:=.type "set_iterator",data:=.fields #[first,.int i 0,.ref a,.int n 0,.int ep 0] }
inductive Way (w : World) (a : Addr) (es : Array (Int×Value)) (ep : Nat) (t : SetTable) : List Value→(Nat→Heap→Value→Prop)→List Addr→Prop
  | led (h : byT w=false) (hl : t.led=true) (hp : (t.plain || decide (es.size≤1))=true) : Way w a es ep t (es.toList.map (·.2)) (fun i _ f=>f=rawInt ((if i=0 then 0 else t.place.getD (i - 1) 0 + 1 : Nat) : Int)) []
  | text (h : byT w=true) : Way w a es ep t ((pickOrder (w.params.setOrder a ep) es).toList.map (·.2)) (fun _ _ f=>f=rawInt 0) []
  | drawn {ps : List Nat} {tp : Addr} (h : ps.Perm (List.range es.size)) : Way w a es ep t (ps.filterMap fun i=>(es[i]?).map (·.2)) (fun _ hp f=>f = .ref tp∧∃ o n,hp.get? tp=some o∧o.data = .seq (ps.map fun (i : Nat)=>rawInt i).toArray n) [tp]
theorem Way.perm {w : World} {a : Addr} {es : Array (Int×Value)} {ep : Nat} {t : SetTable} {vals : List Value} {F : Nat→Heap→Value→Prop} {ex : List Addr} (y : Way w a es ep t vals F ex) : vals.Perm (es.toList.map (·.2)):=by
  cases y with
  | led=>exact List.Perm.refl _
  | text=>exact (pick_perm _ es).map _
  | drawn h=>
    refine (h.filterMap _).trans ?_
    have : (List.range es.size).filterMap (fun i=>(es[i]?).map (·.2))=es.toList.map (·.2):=by
      have e:=PySem.filterMap_getElem?_range es
      rw [← e,List.map_filterMap]
    rw [this]
section
variable {prog : Program} {w : World} {A : Around} {E : Value→Shared→Prop} {s : Shared}
theorem set_iter {a : Addr} {o : Obj} {es : Array (Int×Value)} {ep : Nat} {t : SetTable} {Q : Value→Shared→Prop} (ho : s.heap.get? a=some o) (hex : o.ExactSet) (hd : o.data = .set es ep t) (hf : t.fits es.size=true) (hled : t.led = !byT w) (hb : es.size < scanBound)
    (h : ∀ I h' d vals F ex first,Way w a es ep t vals F ex→F 0 h' first→SIter h' I first 0 a es.size ep→(∀ b o,s.heap.get? b=some o→h'.get? b=some o)→s.heap.objs.size≤I→(∀ b∈ex,s.heap.objs.size≤b∧b < I)→I < h'.objs.size→Q (.ref I) { s with heap:=h',drawn:=d }) : wpAny (model prog w) A (pyIter (.ref a)) Q E s:=by
  have hT : s.TypeIs (.ref a) "set" := ⟨o,ho,hex.1⟩
  refine wpAny_pyIter_slot hT PySem.F.slot_set_iter (wpAny_call_entry PySem.F.slot_set_iter hT entry_set_iter ?_ (PySem.F.args_set_iter_1 _))
  unfold Builtin.«frozenset.__iter__» Builtin.Frozenset.slot0 slotArgs
  simp only [List.isEmpty_nil,Bool.not_true,Bool.false_eq_true,↓reduceIte,bind_assoc,List.length_nil,bne_self_eq_false]
  unfold Builtin.Frozenset.addrOf Builtin.Frozenset.sizeOf
  refine wpAny_bind (wpAny_pure (wpAny_bind (wpAny_pure (wpAny_bind (wpAny_bind (wpAny_setEntries_of ho hd hf (wpAny_pure ?_)))))))
  refine wpAny_bind ?_
  unfold setDrawn setsByText
  refine wpAny_bind (wpAny_setState_of ho hd hf ?_)
  dsimp only
  refine wpAny_bind (wpAny_bind (wpAny_askSetting (wpAny_pure (wpAny_pure ?_))))
  have fin : ∀ (first : Value) (s1 : Shared) (d : Drawn) (h1 : Heap),s1 = { s with heap:=h1,drawn:=d }→(∀ b o,s.heap.get? b=some o→h1.get? b=some o)→(∀ I h',I=h1.objs.size→(∀ b o,h1.get? b=some o→h'.get? b=some o)→SIter h' I first 0 a es.size ep→I < h'.objs.size→Q (.ref I) { s with heap:=h',drawn:=d })→
      wpAny (model prog w) A.in1 (do let e ← setEpoch a; let x ← newFields "set_iterator" [first,rawInt 0,Value.ref a,rawInt es.size,rawInt e]; ret x) (fun fin s'=>∃ v,fin=Fin.done (Flow.ret v)∧∃ T' r,s'.TypeIs v T'∧typeLookup (Value.type T') (Str.ofString "__next__")=pure (some r)∧Q v s') E s1:=by
    intro first s1 d h1 e1 k1 q
    subst e1
    refine wpAny_bind (wpAny_setEpoch_of (k1 _ _ ho) hd hf ?_)
    refine wpAny_bind (wpAny_newObj_type (wpAny_pure ⟨_,rfl,"set_iterator",_,⟨_,Heap.get?_push_size _ rfl,rfl⟩,slot_set_iterator_next.lookup,?_⟩))
    exact q h1.objs.size _ rfl (fun b o e=>Heap.get?_push_of_some _ e) (Heap.get?_push_size _ rfl) (by rw [Heap.size_push]; exact Nat.lt_succ_self _)
  split
  · rename_i c0
    refine wpAny_bind (wpAny_drawOrder _ _ _ (List.length_range ..) fun ys d hp=>?_)
    have hlen : ys.length=es.size:=by rw [hp.length_eq,List.length_range]
    refine wpAny_bind (wpAny_newTuple ?_ (by rw [List.length_map,hlen]; exact fits_of_scanBound hb))
    refine fin _ _ d (s.heap.push { cls:=.type "tuple",data:=.seq (ys.map fun (i : Nat)=>rawInt i).toArray }) rfl (fun b o e=>Heap.get?_push_of_some _ e) fun I h' eI kI si lI=>?_
    have sz:=Heap.size_push s.heap ({ cls:=.type "tuple",data:=.seq (ys.map fun (i : Nat)=>rawInt i).toArray } : Obj)
    refine h I h' d _ _ _ _ (.drawn (tp:=s.heap.objs.size) hp) ⟨rfl,_,_,kI _ _ (Heap.get?_push_size _ rfl),rfl⟩ si (fun b o e=>kI _ _ (Heap.get?_push_of_some _ e)) (by omega) (fun b hb=>?_) lI
    rw [List.mem_singleton.mp hb]
    exact ⟨Nat.le_refl _,by rw [eI]; exact Nat.lt_of_lt_of_eq (Nat.lt_succ_self _) sz.symm⟩
  · rename_i c0
    have c : ¬ (!byT w && (!t.plain && decide (es.size > 1)))=true:=c0
    refine wpAny_bind (wpAny_pure ?_)
    refine fin _ _ s.drawn s.heap rfl (fun b o e=>e) fun I h' eI kI si lI=>?_
    cases bt : byT w with
    | true=>exact h I h' s.drawn _ _ _ _ (.text bt) rfl si kI (by omega) (fun b hb=>by cases hb) lI
    | false=>
      refine h I h' s.drawn _ _ _ _ (.led bt (by rw [hled,bt]; rfl) ?_) rfl si kI (by omega) (fun b hb=>by cases hb) lI
      rw [bt] at c
      cases hp : t.plain with
      | true=>rfl
      | false=>
        rw [hp] at c
        have : ¬ es.size > 1:=fun z=>c (by simp [z])
        simp
        omega
end
end L2
namespace L2
open PySem PySem.Spec PyProof.Rows
theorem below_next {place : Array Nat} (h : Rise place) {i : Nat} (hi : i≤place.size) : SetTable.below place (if i=0 then 0 else place.getD (i - 1) 0 + 1)=i:=by
  obtain ⟨b1,b2,b3⟩:=below_at h (if i=0 then 0 else place.getD (i - 1) 0 + 1)
  generalize SetTable.below place (if i=0 then 0 else place.getD (i - 1) 0 + 1)=b at *
  by_cases c : i=0
  · rw [if_pos c] at b2
    by_cases z : b=0
    · omega
    · have:=b2 0 (by omega) (by omega)
      omega
  · rw [if_neg c] at b2 b3
    have hm : i - 1 < place.size:=by omega
    have eg : place.getD (i - 1) 0=place[i - 1]:=by rw [Array.getD_eq_getD_getElem?,Array.getElem?_eq_getElem hm]; rfl
    rw [eg] at b2 b3
    rcases Nat.lt_trichotomy b i with z | z | z
    · have:=b3 (i - 1) hm (by omega)
      omega
    · exact z
    · have h1:=b2 i (by omega) z
      have h2:=h (i - 1) i hm (by omega) (by omega)
      omega
section
variable {prog : Program} {w : World} {A : Around} {E : Value→Shared→Prop} {s : Shared}
def SRaw (w : World) (h : Heap) (a : Addr) (es : Array (Int×Value)) (ep : Nat) (t : SetTable) : Prop:=(∃ o,h.get? a=some o∧o.data = .set es ep t)∧t.fits es.size=true∧Rise t.place
theorem next_led {a : Addr} {es : Array (Int×Value)} {ep i g e' : Nat} {t : SetTable} {Q : Option (Value×Nat)→Shared→Prop} (hS : SRaw w s.heap a es ep t) (bt : byT w=false) (hl : t.led=true) (hp : (t.plain || decide (es.size≤1))=true) (hi : i≤es.size)
    (h1 : ∀ hlt : i < es.size,Q (some (es[i].2,t.place.getD i 0 + 1)) s) (h2 : i=es.size→Q none s) : wpAny (model prog w) A (setNext a (if i=0 then 0 else t.place.getD (i - 1) 0 + 1) g e') Q E s:=by
  obtain ⟨⟨o,ho,hd⟩,hf,hr⟩:=hS
  have hz : t.place.size=es.size:=by
    simp only [SetTable.fits,Bool.and_eq_true,beq_iff_eq] at hf
    exact hf.1
  unfold setNext setsByText
  refine wpAny_bind (wpAny_setState_of ho hd hf ?_)
  dsimp only
  refine wpAny_bind (wpAny_bind (wpAny_askSetting (wpAny_pure ?_)))
  have bt' : ¬ (⟨(model prog w).prog,(model prog w).w.params⟩ : Setting).params.followText "set-order" = true:=fun z=>by have : byT w=true:=z; rw [bt] at this; cases this
  rw [if_neg bt']
  split
  · rename_i c0
    have c : (!t.plain && decide (es.size > 1))=true:=c0
    simp only [Bool.and_eq_true,Bool.not_eq_true',decide_eq_true_eq] at c
    rw [c.1] at hp
    simp at hp
    omega
  · refine wpAny_bind ?_
    show wpAny _ _ (if (!t.led && !es.isEmpty)=true then unsupported "set:maker-not-led" else pure ()) _ _ s
    rw [if_neg (by rw [hl]; simp)]
    refine wpAny_pure ?_
    rw [below_next hr (by omega)]
    by_cases c : i < es.size
    · rw [Array.getElem?_eq_getElem c,Array.getElem?_eq_getElem (by omega)]
      have e1 : t.place.getD i 0=t.place[i]'(by omega):=by rw [Array.getD_eq_getD_getElem?,Array.getElem?_eq_getElem (by omega)]; rfl
      rw [e1] at h1
      exact wpAny_pure (h1 c)
    · rw [Array.getElem?_eq_none (by omega)]
      exact wpAny_pure (h2 (by omega))
theorem next_text {a : Addr} {es : Array (Int×Value)} {ep i sl : Nat} {t : SetTable} {Q : Option (Value×Nat)→Shared→Prop} (hS : SRaw w s.heap a es ep t) (bt : byT w=true) (h : Q (((pickOrder (w.params.setOrder a ep) es)[i]?).map fun e=>(e.2,sl)) s) : wpAny (model prog w) A (setNext a sl i ep) Q E s:=by
  obtain ⟨⟨o,ho,hd⟩,hf,hr⟩:=hS
  unfold setNext setsByText
  refine wpAny_bind (wpAny_setState_of ho hd hf ?_)
  dsimp only
  refine wpAny_bind (wpAny_bind (wpAny_askSetting (wpAny_pure ?_)))
  have bt' : (⟨(model prog w).prog,(model prog w).w.params⟩ : Setting).params.followText "set-order" = true:=bt
  rw [if_pos bt',if_neg (by simp)]
  refine wpAny_bind ?_
  first | refine wpAny_pure ?_ | skip
  unfold setWalk setsByText
  refine wpAny_bind (wpAny_setState_of ho hd hf ?_)
  dsimp only
  refine wpAny_bind (wpAny_bind (wpAny_askSetting (wpAny_pure ?_)))
  rw [if_pos bt']
  exact wpAny_bind (wpAny_askSetting (wpAny_pure (wpAny_pure h)))
theorem next_drawn {a : Addr} {es : Array (Int×Value)} {ep k : Nat} {t : SetTable} {Q : Value→Shared→Prop} (hS : SRaw w s.heap a es ep t) (hk : k < es.size) (h : Q es[k].2 s) : wpAny (model prog w) A (setNextDrawn a k ep) Q E s:=by
  obtain ⟨⟨o,ho,hd⟩,hf,hr⟩:=hS
  unfold setNextDrawn
  refine wpAny_bind (wpAny_setState_of ho hd hf ?_)
  dsimp only
  rw [if_neg (by simp),Array.getElem?_eq_getElem hk]
  exact wpAny_pure h
theorem set_item {I a : Addr} {es : Array (Int×Value)} {ep : Nat} {t : SetTable} {vals : List Value} {F : Nat→Heap→Value→Prop} {ex : List Addr} {first : Value} {i : Nat} {Q : Option Value→Shared→Prop} (y : Way w a es ep t vals F ex) (hS : SRaw w s.heap a es ep t) (hit : SIter s.heap I first i a es.size ep) (hF : F i s.heap first) (nI : ∀ b∈ex,b≠I) (naI : a≠I) (hi : i < es.size)
    (hQ : ∀ h' first' v,vals[i]? = some v→SIter h' I first' (i + 1) a es.size ep→F (i + 1) h' first'→(∀ b o,b≠I→s.heap.get? b=some o→h'.get? b=some o)→Q (some v) { s with heap:=h' }) : wpAny (model prog w) A (pyNext (.ref I)) Q E s:=by
  obtain ⟨⟨o,ho,hd⟩,hf,hr⟩:=id hS
  have hT : s.TypeIs (.ref I) "set_iterator" := ⟨_,hit,rfl⟩
  unfold pyNext
  refine wpAny_bind (wpAny_attempt (wpAny_callSpecial?_slot (name:=Str.ofString "__next__") hT slot_set_iterator_next (wpAny_call_entry slot_set_iterator_next hT entry_set_iterator_next ?_ (args_set_iterator_next _))))
  unfold Builtin.«set_iterator.__next__»
  refine wpAny_bind (wpAny_pure ?_)
  refine wpAny_bind (wpAny_fieldsOf hit rfl ?_)
  dsimp only
  refine wpAny_bind (wpAny_setEntries_of ho hd hf ?_)
  rw [if_neg (by simp)]
  have set0 : ∀ {h1 : Heap} {f : Value} {k : Nat} (v : Value) {R : Unit→Shared→Prop} {E' : Value→Shared→Prop},SIter h1 I f k a es.size ep→(∀ h2,SIter h2 I v k a es.size ep→Heap.SameBut I h1 h2→R () { s with heap:=h2 })→wpAny (model prog w) A.in1 (setField (.ref I) 0 v) R E' { s with heap:=h1 }:=fun {h1 f k} v {R E'} x q=>wpAny_setField_rec x (by simp) fun h2 x2 y2=>q h2 x2 y2
  have set1 : ∀ {h1 : Heap} {f : Value} {k : Nat} {R : Unit→Shared→Prop} {E' : Value→Shared→Prop},SIter h1 I f k a es.size ep→(∀ h2,SIter h2 I f (k + 1) a es.size ep→Heap.SameBut I h1 h2→R () { s with heap:=h2 })→wpAny (model prog w) A.in1 (setField (.ref I) 1 (rawInt ((k : Int) + 1))) R E' { s with heap:=h1 }:=fun {h1 f k R E'} x q=>wpAny_setField_rec x (by simp) fun h2 x2 y2=>q h2 (by
    unfold SIter
    rw [show ((k + 1 : Nat) : Int)=(k : Int) + 1 from by omega]
    simpa [rawInt] using x2) y2
  cases y with
  | led bt hl hp=>
    have hF' : first=rawInt (if i=0 then 0 else t.place.getD (i - 1) 0 + 1 : Nat):=hF
    subst hF'
    show wpAny _ _ (do let r ← setNext a ((if i=0 then 0 else t.place.getD (i - 1) 0 + 1 : Nat) : Int).toNat (i : Int).toNat (ep : Int).toNat; _) _ _ s
    rw [Int.toNat_natCast,Int.toNat_natCast,Int.toNat_natCast]
    refine wpAny_bind (next_led hS bt hl hp (Nat.le_of_lt hi) (fun hlt=>?_) fun z=>absurd z (by omega))
    dsimp only
    refine wpAny_bind (set0 _ hit fun h2 x2 y2=>wpAny_bind (set1 x2 fun h3 x3 y3=>?_))
    refine wpAny_pure ⟨_,rfl,wpAny_pure (hQ h3 _ _ ?_ x3 ?_ fun b o hb e=>y3.extBut b o hb (y2.extBut b o hb e))⟩
    · rw [List.getElem?_map,Array.getElem?_toList,Array.getElem?_eq_getElem hi]; rfl
    · show rawInt _=rawInt _
      rw [if_neg (by omega),Nat.add_sub_cancel]
  | text bt=>
    have hF' : first=rawInt 0:=hF
    subst hF'
    show wpAny _ _ (do let r ← setNext a (0 : Int).toNat (i : Int).toNat (ep : Int).toNat; _) _ _ s
    rw [Int.toNat_natCast,Int.toNat_natCast]
    refine wpAny_bind (next_text hS bt ?_)
    have hz : (pickOrder (w.params.setOrder a ep) es).size=es.size:=by rw [← Array.length_toList,(pick_perm _ es).length_eq,Array.length_toList]
    rw [Array.getElem?_eq_getElem (by omega)]
    dsimp only [Option.map]
    refine wpAny_bind (set0 _ hit fun h2 x2 y2=>wpAny_bind (set1 x2 fun h3 x3 y3=>?_))
    refine wpAny_pure ⟨_,rfl,wpAny_pure (hQ h3 _ _ ?_ x3 rfl fun b o hb e=>y3.extBut b o hb (y2.extBut b o hb e))⟩
    rw [List.getElem?_map,Array.getElem?_toList,Array.getElem?_eq_getElem (by omega)]; rfl
  | @drawn ps tp hp=>
    obtain ⟨rfl,ot,nt,h1,h2⟩:=hF
    dsimp only
    refine wpAny_bind ?_
    unfold seqItems?
    refine wpAny_bind (wpAny_load h1 ?_)
    rw [h2]
    refine wpAny_pure ?_
    dsimp only
    have hl : ps.length=es.size:=by rw [hp.length_eq,List.length_range]
    rw [Int.toNat_natCast,List.getElem?_toArray,List.getElem?_map,List.getElem?_eq_getElem (by omega)]
    have hk : ps[i]'(by omega) < es.size:=List.mem_range.mp (hp.mem_iff.mp (List.getElem_mem _))
    dsimp only [Option.map,rawInt]
    rw [Int.toNat_natCast,Int.toNat_natCast]
    refine wpAny_bind (next_drawn hS hk ?_)
    refine wpAny_bind (set1 hit fun h3 x3 y3=>?_)
    refine wpAny_pure ⟨_,rfl,wpAny_pure (hQ h3 _ _ ?_ x3 ⟨rfl,ot,nt,y3.extBut _ _ (nI tp (by simp)) h1,h2⟩ fun b o hb e=>y3.extBut b o hb e)⟩
    have all : ∀ (l : List Nat),(∀ k∈l,k < es.size)→l.filterMap (fun k=>(es[k]?).map (·.2))=l.map fun k=>(es.getD k (0,.none)).2:=by
      intro l
      induction l with
      | nil=>intro _; rfl
      | cons x r ih=>
        intro h
        have hx:=h x (.head _)
        rw [List.filterMap_cons,Array.getElem?_eq_getElem hx,Option.map_some]
        show es[x].2 :: _=_
        rw [ih fun k hk=>h k (.tail _ hk),List.map_cons,Array.getD_eq_getD_getElem?,Array.getElem?_eq_getElem hx]
        rfl
    rw [all ps fun k hk'=>List.mem_range.mp (hp.mem_iff.mp hk'),List.getElem?_map,List.getElem?_eq_getElem (by omega)]
    show some (es.getD (ps[i]'(by omega)) (0,.none)).2=_
    rw [Array.getD_eq_getD_getElem?,Array.getElem?_eq_getElem hk]
    rfl
theorem set_end {I a : Addr} {es : Array (Int×Value)} {ep : Nat} {t : SetTable} {vals : List Value} {F : Nat→Heap→Value→Prop} {ex : List Addr} {first : Value} {Q : Option Value→Shared→Prop} (hh : A.handled=none) (y : Way w a es ep t vals F ex) (hS : SRaw w s.heap a es ep t) (hit : SIter s.heap I first es.size a es.size ep) (hF : F es.size s.heap first)
    (hQ : ∀ h',(∀ b o,b≠I→s.heap.get? b=some o→h'.get? b=some o)→Q none { s with heap:=h' }) : wpAny (model prog w) A (pyNext (.ref I)) Q E s:=by
  obtain ⟨⟨o,ho,hd⟩,hf,hr⟩:=id hS
  have hT : s.TypeIs (.ref I) "set_iterator" := ⟨_,hit,rfl⟩
  unfold pyNext
  refine wpAny_bind (wpAny_attempt (wpAny_callSpecial?_slot (name:=Str.ofString "__next__") hT slot_set_iterator_next (wpAny_call_entry slot_set_iterator_next hT entry_set_iterator_next ?_ (args_set_iterator_next _))))
  unfold Builtin.«set_iterator.__next__»
  refine wpAny_bind (wpAny_pure ?_)
  refine wpAny_bind (wpAny_fieldsOf hit rfl ?_)
  dsimp only
  refine wpAny_bind (wpAny_setEntries_of ho hd hf ?_)
  rw [if_neg (by simp)]
  have stop : ∀ (h1 : Heap),(∃ vs,h1.get? I=some { cls:=.type "set_iterator",data:=.fields vs }∧2 < vs.size)→(∀ b o,b≠I→s.heap.get? b=some o→h1.get? b=some o)→wpAny (model prog w) A.in1 (do setField (.ref I) 2 .none; let x ← newExc (.type "StopIteration") []; raiseNew x) (fun fin s'=>∃ v,fin=Fin.done (Flow.ret v)∧wpAny (model prog w) A (pure (some v)) Q E s')
      (fun e s'=>wpAny (model prog w) A (do let b ← isInstance e (.type "StopIteration"); if b=true then pure none else throw e) Q E s') { s with heap:=h1 }:=by
    rintro h1 ⟨vs,e1,e2⟩ k1
    refine wpAny_bind (wpAny_setField e1 rfl e2 ?_)
    refine wpAny_bind ?_
    simp only [newExc,newTuple]
    refine wpAny_bind (wpAny_newObj_type ?_ (by size_fits))
    refine wpAny_bind (m:=firstArgMember _ _) (wpAny_of_eq (a:=Value.none) (by first | rfl | (simp only [firstArgMember]; rfl)) ?_)
    refine wpAny_newObj_type ?_ (by size_fits)
    simp only [raiseNew]
    refine wpAny_bind (wpAny_handled ?_)
    rw [show A.in1.handled=none from hh]
    refine wpAny_bind (wpAny_pure (wpAny_throw ?_))
    refine wpAny_bind (wpAny_isInstance (b:=true) (T := "StopIteration") ⟨_,Heap.get?_push_size _ rfl,rfl⟩ isSubtype_stop ?_)
    have u:=((Heap.SameBut.update h1 I (Obj.mapFields (·.setIfInBounds 2 Value.none))).extBut.push ({ cls:=.type "tuple",data:=.seq ([] : List Value).toArray } : Obj))
    exact wpAny_pure (hQ _ fun b o hb e=>Heap.get?_push_of_some _ (u b o hb (k1 b o hb e)))
  cases y with
  | led bt hl hp=>
    have hF' : first=rawInt (if es.size=0 then 0 else t.place.getD (es.size - 1) 0 + 1 : Nat):=hF
    subst hF'
    show wpAny _ _ (do let r ← setNext a ((if es.size=0 then 0 else t.place.getD (es.size - 1) 0 + 1 : Nat) : Int).toNat (es.size : Int).toNat (ep : Int).toNat; _) _ _ s
    rw [Int.toNat_natCast,Int.toNat_natCast,Int.toNat_natCast]
    refine wpAny_bind (next_led hS bt hl hp (Nat.le_refl _) (fun hlt=>absurd hlt (Nat.lt_irrefl _)) fun _=>?_)
    exact stop s.heap ⟨_,hit,by simp⟩ fun b o _ e=>e
  | text bt=>
    have hF' : first=rawInt 0:=hF
    subst hF'
    show wpAny _ _ (do let r ← setNext a (0 : Int).toNat (es.size : Int).toNat (ep : Int).toNat; _) _ _ s
    rw [Int.toNat_natCast,Int.toNat_natCast]
    refine wpAny_bind (next_text hS bt ?_)
    have hz : (pickOrder (w.params.setOrder a ep) es).size=es.size:=by rw [← Array.length_toList,(pick_perm _ es).length_eq,Array.length_toList]
    rw [Array.getElem?_eq_none (by omega)]
    exact stop s.heap ⟨_,hit,by simp⟩ fun b o _ e=>e
  | @drawn ps tp hp=>
    obtain ⟨rfl,ot,nt,h1,h2⟩:=hF
    dsimp only
    refine wpAny_bind ?_
    unfold seqItems?
    refine wpAny_bind (wpAny_load h1 ?_)
    rw [h2]
    refine wpAny_pure ?_
    dsimp only
    have hl : ps.length=es.size:=by rw [hp.length_eq,List.length_range]
    rw [Int.toNat_natCast,List.getElem?_toArray,List.getElem?_map,List.getElem?_eq_none (by omega)]
    dsimp only [Option.map]
    refine wpAny_bind (wpAny_setField_rec hit (by simp) fun h3 x3 y3=>?_)
    exact stop h3 ⟨_,x3,by simp⟩ fun b o hb e=>y3.extBut b o hb e
end
end L2
namespace L2
open PySem PySem.Spec PySem.W PyProof.Rows
variable {X : Cx}
end L2
namespace L2
open PySem PySem.Spec PySem.W PyProof.Rows
theorem sub_set_self : isSubtype (.type "set") (.type "set")=pure true:=by rw [isSubtype_type]; kernel_rfl
theorem slot_set_iterator_iter : Slot "set_iterator" "__iter__" "set_iterator.__iter__" :=
  .of (owner := "set_iterator") (n := "__iter__") (by rw [typeLookup_type,builtinLookup_eq_fast]; kernel_rfl) (by decide +kernel) (by decide +kernel) (by decide +kernel) (by first | exact .inl (by decide +kernel) | exact .inr (by decide +kernel)) (by rw [isSubtype_type]; kernel_rfl)
theorem entry_set_iterator_iter : entryFor table "set_iterator.__iter__" = some Builtin.«dict_keyiterator.__iter__»:=entryFor_alias (by kernel_rfl) rfl (id' := "dict_keyiterator.__iter__") (by decide +kernel) (by kernel_rfl)
theorem args_set_iterator_iter (a : Value) : argsOk "set_iterator.__iter__" ⟨[a],[]⟩:=by unfold argsOk; kernel_rfl
def intOf : Value→Int
  | .int k _=>k
  | _=>0
theorem ints_all : ∀ {l : List Value},(∀ v∈l,∃ k t,v = .int k t)→IntsAre l (l.map intOf)
  | [],_=>.nil
  | v :: r,h=>by
    obtain ⟨k,t,rfl⟩:=h v (.head _)
    exact .cons k t (ints_all fun u hu=>h u (.tail _ hu))
section
variable {prog : Program} {w : World} {A : Around} {E : Value→Shared→Prop} {s : Shared}
theorem Way.stay {a : Addr} {es : Array (Int×Value)} {ep : Nat} {t : SetTable} {vals : List Value} {F : Nat→Heap→Value→Prop} {ex : List Addr} (y : Way w a es ep t vals F ex) {i : Nat} {h h' : Heap} {f : Value} (hF : F i h f) (k : ∀ b∈ex,∀ o,h.get? b=some o→h'.get? b=some o) : F i h' f:=by
  cases y with
  | led=>exact hF
  | text=>exact hF
  | drawn hp=>
    obtain ⟨e,o,n,h1,h2⟩:=hF
    exact ⟨e,o,n,k _ (by simp) o h1,h2⟩
theorem walk_set (hh : A.handled=none) {I a : Addr} {es : Array (Int×Value)} {ep : Nat} {t : SetTable} {vals : List Value} {F : Nat→Heap→Value→Prop} {ex : List Addr} (y : Way w a es ep t vals F ex) (nI : ∀ b∈ex,b≠I) (naI : a≠I) :
    WalksS prog w A I (I :: a :: ex) [I] Eq es.size (fun i v=>vals[i]? = some v) (fun i s=>SRaw w s.heap a es ep t∧∃ first,SIter s.heap I first i a es.size ep∧F i s.heap first) where
  sub:=fun b hb=>by rw [List.mem_singleton.mp hb]; exact .head _
  grefl:=fun _=>rfl
  gtrans:=fun _ _ _ h1 h2=>h1.trans h2
  frame:=fun i s h' tk ⟨⟨⟨o,ho,hd⟩,r⟩,first,hi,hF⟩ _ k=>⟨⟨⟨o,k a (.tail _ (.head _)) o ho,hd⟩,r⟩,first,k I (.head _) _ hi,y.stay hF fun b hb o e=>k b (.tail _ (.tail _ hb)) o e⟩
  item:=fun i s Q E hi ⟨hS,first,hit,hF⟩ hQ=>set_item y hS hit hF nI naI hi fun h' f' v hv x1 x2 k=>by
    obtain ⟨⟨o,ho,hd⟩,r⟩:=hS
    exact hQ v _ hv ⟨⟨⟨o,k a o naI ho,hd⟩,r⟩,f',x1,x2⟩ ⟨fun b o hb e=>k b o (fun z=>hb (by rw [z]; exact .head _)) e,rfl,rfl,rfl,Nat.le_refl _⟩
  done:=fun s Q E ⟨hS,first,hit,hF⟩ hQ=>set_end hh y hS hit hF fun h' k=>hQ _ ⟨fun b o hb e=>k b o (fun z=>hb (by rw [z]; exact .head _)) e,rfl,rfl,rfl,Nat.le_refl _⟩
  self:=fun i s Q E ⟨_,first,hit,_⟩ h=>by
    have hT : s.TypeIs (.ref I) "set_iterator" := ⟨_,hit,rfl⟩
    refine wpAny_pyIter_slot hT slot_set_iterator_iter (wpAny_call_entry slot_set_iterator_iter hT entry_set_iterator_iter ?_ (args_set_iterator_iter _))
    show wpAny _ _ (ret (.ref I)) _ _ s
    exact wpAny_pure ⟨_,rfl,"set_iterator",_,hT,slot_set_iterator_next.lookup,h⟩
theorem set_collect {a : Addr} {ns : List Int} {Q : List Value→Shared→Prop} (hh : A.handled=none) (S : SetI w a ns s.heap)
    (hQ : ∀ vals ms h' d tk,IntsAre vals ms→ms.Perm ns→(∀ b o,s.heap.get? b=some o→h'.get? b=some o)→s.toks≤tk→Q vals { s with heap:=h',drawn:=d,toks:=tk }) : wpAny (model prog w) A (collect (.ref a)) Q E s:=by
  obtain ⟨o,es,ep,t,ho,hex,hd,hel,hpm,hb,hf,hled,hrise⟩:=id S
  have hSa : s.heap.objs.size≠a:=Nat.ne_of_gt (Heap.lt_size ho)
  have hT : s.TypeIs (.ref a) "set" := ⟨o,ho,hex.1⟩
  unfold collect
  refine wpAny_bind (wpAny_runValue (codeAny_builtin PySem.F.entry_proto_collect ?_))
  rw [Around.under_plainId PySem.F.plain_proto_collect _]
  show wpAny _ A.in1 (newList [] >>= fun l=>again (.builtin "list.__iadd__" ⟨[l,.ref a],[]⟩)) _ _ s
  refine wpAny_bind (wpAny_newObj_type ?_)
  refine wpAny_pure ⟨plainId_quiet PySem.F.plain_list_iadd _,codeAny_builtin PySem.F.entry_list_iadd ?_⟩
  rw [Around.under_plainId PySem.F.plain_list_iadd _]
  have hS1 : (s.heap.push { cls:=.type "list",data:=.seq ([] : List Value).toArray }).get? s.heap.objs.size=some { cls:=.type "list",data:=.seq ([] : List Value).toArray }:=Heap.get?_push_size _ rfl
  have k1 : ∀ b o,s.heap.get? b=some o→(s.heap.push { cls:=.type "list",data:=.seq ([] : List Value).toArray }).get? b=some o:=fun b o e=>Heap.get?_push_of_some _ e
  have z1 : (s.heap.push { cls:=.type "list",data:=.seq ([] : List Value).toArray }).objs.size=s.heap.objs.size + 1:=Heap.size_push ..
  show wpAny _ A.in1 (Builtin.List.listExtendWith (.ref s.heap.objs.size) (.ref a) (.ref s.heap.objs.size)) _ _ _
  generalize s.heap.push { cls:=.type "list",data:=.seq ([] : List Value).toArray } = h1 at *
  generalize hL : s.heap.objs.size=L at *
  have ho1:=k1 _ _ ho
  unfold Builtin.List.listExtendWith
  refine wpAny_bind (wpAny_typeOf (s:={ s with heap:=h1 }) ⟨o,ho1,hex.1⟩ ?_)
  rw [if_neg (by simp [Builtin.List.listSameRef,hSa])]
  refine wpAny_bind (set_iter (s:={ s with heap:=h1 }) ho1 hex hd hf hled hb fun I h2 d vals F ex first y hF hit k2 lI lex lt=>?_)
  refine wpAny_bind (wpAny_holding ?_)
  have ho2:=k2 _ _ ho1
  have hS2:=k2 _ _ hS1
  have hT2 : Shared.TypeIs { s with heap:=h2,drawn:=d } (.ref a) "set" := ⟨o,ho2,hex.1⟩
  unfold Builtin.List.listLengthHint
  refine wpAny_bind (wpAny_specialOf hT2 PySem.F.slot_set_len.lookup ?_)
  have hsp : splitId "set.__len__" = some ("set","__len__"):=by decide +kernel
  dsimp only
  rw [hsp]
  dsimp only
  refine wpAny_bind (wpAny_isInstance (b:=true) hT2 sub_set_self ?_)
  rw [if_neg (by decide),if_pos (by kernel_rfl)]
  refine wpAny_bind (wpAny_typeOf hT2 ?_)
  refine wpAny_pure ?_
  rw [if_pos (by kernel_rfl)]
  refine wpAny_bind (wpAny_rule ?_)
  unfold Builtin.List.listTouch
  refine wpAny_bind (wpAny_bind (listUpdate_at (s:={ s with heap:=h2,drawn:=d }) hS2 rfl ?_ (by show 0≤sizeLine; decide) (by show 1≤sizeLine + 1; decide)))
  have hS3 : (h2.update L (Obj.mapSeq fun x=>x.push Value.none)).get? L=some { cls:=.type "list",data:=.seq (#[].push Value.none) 1 }:=Heap.get?_update_self _ hS2 rfl
  refine listUpdate_at (s:={ s with heap:=h2.update L (Obj.mapSeq fun x=>x.push Value.none),drawn:=d }) hS3 rfl ?_ (by show 1≤sizeLine; decide) (by show 0≤sizeLine + 1; decide)
  have hS4 : ((h2.update L (Obj.mapSeq fun x=>x.push Value.none)).update L (Obj.mapSeq fun x=>x.pop)).get? L=some { cls:=.type "list",data:=.seq #[] 2 }:=Heap.get?_update_self _ hS3 rfl
  have k4 : ∀ b o,b≠L→h2.get? b=some o→((h2.update L (Obj.mapSeq fun x=>x.push Value.none)).update L (Obj.mapSeq fun x=>x.pop)).get? b=some o:=fun b o hb e=>(Heap.get?_update_other _ _ (Ne.symm hb)).trans ((Heap.get?_update_other _ _ (Ne.symm hb)).trans e)
  show wpAny _ _ _ _ _ { s with heap:=(h2.update L (Obj.mapSeq fun x=>x.push Value.none)).update L (Obj.mapSeq fun x=>x.pop),drawn:=d }
  generalize (h2.update L (Obj.mapSeq fun x=>x.push Value.none)).update L (Obj.mapSeq fun x=>x.pop)=h4 at hS4 k4 ⊢
  have lI' : L + 1≤I:=by rw [← z1]; exact lI
  have lex' : ∀ b∈ex,L + 1≤b∧b < I:=fun b hb=>⟨by rw [← z1]; exact (lex b hb).1,(lex b hb).2⟩
  have naL : a < L:=by rw [← hL]; exact Heap.lt_size ho
  have naI : a≠I:=Nat.ne_of_lt (Nat.lt_trans naL lI')
  have nI : ∀ b∈ex,b≠I:=fun b hb=>Nat.ne_of_lt (lex' b hb).2
  have nLI : I≠L:=Nat.ne_of_gt lI'
  have nLx : ∀ b∈ex,b≠L:=fun b hb=>Nat.ne_of_gt (lex' b hb).1
  have hLf : L ∉ I :: a :: ex:=fun m=>by
    rcases List.mem_cons.mp m with z | m
    · exact nLI z.symm
    · rcases List.mem_cons.mp m with z | m
      · exact hSa z
      · exact nLx L m rfl
  have Wk : WalksS prog w A.in1 I (I :: a :: ex) [I] Eq es.size (fun i v=>vals[i]? = some v) (fun i s=>SRaw w s.heap a es ep t∧∃ first,SIter s.heap I first i a es.size ep∧F i s.heap first):=walk_set (A:=A.in1) hh y nI naI
  refine wpAny_pure ⟨plainId_quiet PySem.F.plain_extend_loop _,codeAny_extend_loopS Wk (fits_of_scanBound hb) L hLf _ es.size 0 { s with heap:=h4,drawn:=d } #[] 2 rfl (Nat.zero_le _) ⟨⟨⟨o,k4 _ _ (Ne.symm hSa) ho2,hd⟩,hf,hrise⟩,first,k4 _ _ nLI hit,y.stay hF fun b hb o e=>k4 _ _ (nLx b hb) e⟩ hS4 (ItemsOf.nil _) fun s' acc' c' hm hS' hacc=>?_⟩
  show wpAny _ A (load L >>= _) _ _ s'
  refine wpAny_bind (wpAny_load hS' (wpAny_pure ?_))
  have hp:=y.perm
  have hlen : vals.length=es.size:=by rw [hp.length_eq,List.length_map,Array.length_toList]
  have eacc : acc'.toList=vals:=by
    refine List.ext_getElem? fun j=>?_
    by_cases hj : j < acc'.size
    · rw [Array.getElem?_toList,Array.getElem?_eq_getElem hj]
      exact (hacc.2 j _ (Array.getElem?_eq_getElem hj)).symm
    · rw [List.getElem?_eq_none (by rw [Array.length_toList]; omega),List.getElem?_eq_none (by rw [hlen,← hacc.1]; omega)]
  rw [eacc]
  obtain ⟨sh,sg,sd,st,so⟩:=s'
  have m2 : s.gens=sg:=hm.gens
  have m4 : so=s.os:=hm.os
  subst m2 m4
  refine hQ vals (vals.map intOf) sh sd st (ints_all fun v hv=>?_) ?_ (fun b o e=>?_) hm.toks
  · obtain ⟨e,he,rfl⟩:=List.mem_map.mp (hp.mem_iff.mp hv)
    obtain ⟨k,t,rfl⟩:=hel e he
    exact ⟨k,t,rfl⟩
  · refine (hp.map intOf).trans ?_
    rw [List.map_map]
    exact hpm
  · have lt : b < L:=by rw [← hL]; exact Heap.lt_size e
    refine hm.heap b o (fun z=>?_) (k4 _ _ (Nat.ne_of_lt lt) (k2 _ _ (k1 _ _ e)))
    rcases List.mem_cons.mp z with z | z
    · exact Nat.ne_of_lt lt z
    · exact Nat.ne_of_lt (Nat.lt_trans lt lI') (List.mem_singleton.mp z)
end
end L2
namespace L2
open PySem PySem.Spec PySem.W PyProof.Rows
section
variable {X : Cx}
theorem Inv.drawn {pins : List (Addr×Obj)} {σ : St} {H : Hp} {s : Shared} (I : Inv X pins σ H s) (d : Drawn) : Inv X pins σ H { s with drawn:=d }:=
  I.step (g':=s.gens) (d':=d) (t':=s.toks) (h':=s.heap) (ch:=[]) (fun _ z=>nomatch z) (fun b o _ _ _ e _=>e) (fun b o _ _ _ e _=>⟨o.slots,e⟩) (fun _ _ _ _ n=>n) (fun b o _ e=>⟨o,e⟩) (fun _ _ e=>e) (fun _ _ _ e=>e) (fun b ps e=>⟨#[],by rw [e]; simp⟩) (fun m hm=>hm) I.hok I.bare
def rSortS (w : World) : List V→Hp→VK→Prop:=fun xs H Q=>∃ (p : Addr) (ns : List Int),xs=[.ref p]∧H p=some (HS w p ns)∧ns.length < 64∧∀ (l : Addr) (ms : List Int),H l=none→ms.Perm ns→ms.Pairwise (·≤·)→Q (.ref l) (upd H l (.lst (ms.map V.int)))
theorem call_sortS (hc : X.calm=true) : CallR X (.builtin "sorted") (rSortS X.w):=by
  intro pins s σ H xs us Q I r h
  obtain ⟨p,ns,rfl,hq,h64,q⟩:=h
  obtain ⟨u,rfl,ru⟩:=r.one
  cases ru
  refine Calls.call_function_entry kind_sorted plain_sorted entry_sorted (args_sorted1 _) ?_
  unfold Builtin.«sorted»
  refine wpAny_bind (m:=checkCount "sorted" 1 1 _) (wpAny_pure ?_)
  refine wpAny_bind (set_collect (w:=X.w) (show X.A.in1.handled=none from I.ok.hd hc) (hs_at I hq) fun vals ms h1 d tk ia pm k1 htk=>?_)
  have I1 : Inv X pins σ H { s with heap:=h1,drawn:=d,toks:=tk }:=(I.kept (h':=h1) (t':=tk) k1).drawn d
  have lv : vals.length < 64:=by rw [IntsAre.length ia,pm.length_eq]; exact h64
  revert I1
  generalize ({ s with heap:=h1,drawn:=d,toks:=tk } : Shared)=s1
  intro I1
  refine wpAny_bind (wpAny_newList ?_ (by rw [sizeLine_eq]; omega))
  have hoL : (s1.heap.push (seqObj "list" vals.toArray 0)).get? s1.heap.objs.size=some (seqObj "list" vals.toArray 0):=Heap.get?_push_size _ rfl
  show wpAny _ _ _ _ _ { s1 with heap:=s1.heap.push (seqObj "list" vals.toArray 0) }
  refine wpAny_bind (wpAny_holding (wpAny_call_entry slot_list_sort ⟨_,hoL,rfl⟩ entry_list_sort (list_sort_tree (s:={ s1 with heap:=s1.heap.push (seqObj "list" vals.toArray 0) }) hoL ia lv fun out ms' i1 i2 i3=>⟨_,rfl,?_⟩) (args_list_sort _)))
  refine wpAny_pure ⟨_,rfl,?_⟩
  obtain ⟨e,he⟩:=sortedHeap_at (out:=out) hoL
  refine ⟨.ref s1.heap.objs.size,_,I1.laid (t':=s1.toks) (a:=s1.heap.objs.size) (o:=.lst (ms'.map V.int)) (fun b o e=>?_) (Nat.le_refl _) ⟨?_,out.toList,e,ints_to i1,?_⟩,rfl,q _ ms' (I1.hok.fresh (Nat.le_refl _)) (i2.trans pm) i3⟩
  · have lt:=Heap.lt_size e
    show (sortedHeap _ _ _ _).get? b=some o
    rw [sortedHeap_old (Nat.ne_of_lt lt) (by rw [size_push']; exact Nat.lt_succ_of_lt lt)]
    exact Heap.get?_push_of_some _ e
  · rw [List.length_map,i2.length_eq,pm.length_eq,sizeLine_eq]; omega
  · rw [he]
end
end L2
namespace L2
open PySem PySem.Spec PySem.W PyProof.Rows
theorem for_items {o : Obj} {kvs : List (List Key×V)} {a : Addr} {g : TG} {tb : TS} {D : Ends} {σ : St} {H : Hp} (Pv : Nat→St→Hp→Prop) (h0 : Pv 0 σ H) (hl : ∀ i σ H,Pv i σ H→H a=some (.frz o (.dT kvs)))
    (hs : ∀ i k x σ H p b,kvs[i]? = some (k,x)→Pv i σ H→H p=none→H b=some (.tup (k.map kV))→g (.ref p) σ (upd H p (.tup [.ref b,x])) fun σ2 H2=>tb { D with nx:=Pv (i + 1),ct:=Pv (i + 1),bk:=D.nx } σ2 H2) (hd : ∀ σ H,Pv kvs.length σ H→D.nx σ H) :
    ∃ W : Nat→Nat→St→Hp→Prop,(∃ m,W 0 m σ H)∧∀ i m σ H,W i m σ H→
      ((Itd o kvs a).stop i H∧D.nx σ H)∨((Itd o kvs a).go i H∧∃ N : St→Hp→Prop,(∀ σ' H',N σ' H'→∃ m',m' < m∧W (i + 1) m' σ' H')∧∀ x H',(Itd o kvs a).yld i H x H'→g x σ H' fun σ2 H2=>tb { D with nx:=N,ct:=N,bk:=D.nx } σ2 H2):=by
  refine ⟨fun i m σ H=>m=kvs.length - i∧i≤kvs.length∧Pv i σ H,⟨kvs.length,by simp,Nat.zero_le _,h0⟩,?_⟩
  rintro i m σ H ⟨rfl,hi,p⟩
  have q:=hl i σ H p
  by_cases hlt : i < kvs.length
  · refine .inr ⟨⟨q,hlt⟩,Pv (i + 1),fun σ' H' p'=>⟨kvs.length - (i + 1),by omega,rfl,hlt,p'⟩,?_⟩
    rintro x H' ⟨pp,b,k,v,rfl,hp,rfl,e,hb⟩
    exact hs i k v σ H pp b e p hp hb
  · have e : i=kvs.length:=by omega
    subst e
    exact .inl ⟨⟨q,Nat.le_refl _⟩,hd σ H p⟩
section
variable {o : Obj} {kvs : List (List Key×V)} {a D : Addr} {g : TG} {ti : TT} {te tk tv : TE} {σ₀ : St} {H1 : Hp} {R : Hp→Prop}
theorem comp_vals (P : Nat→List V→Hp→Prop) (hD : H1 D=none) (hx : H1 a=some (.frz o (.dT kvs))) (hn : kvs.length≤1000)
    (st : ∀ i zs H H',P i zs H→(∀ b o,b≠D→H b=some o→H' b=some o)→P i zs H') (h0 : P 0 [] H1)
    (step : ∀ i k v zs H,kvs[i]? = some (k,v)→Same H1 H→P i zs H→∀ (K1 : V→Hp→Prop) (K2 : Hp→Prop),(∀ y H4,Same H H4→P (i + 1) (zs ++ [y]) H4→K1 y H4)→(∀ H3,Same H H3→P (i + 1) zs H3→K2 H3)→
      g v σ₀ H fun σ2 H2=>(∀ (k : Nat) v,σ₀[k]? = some (some v)→σ2[k]? = some (some v))∧ti σ2 H2 fun b H3=>if b=true then te σ2 H3 K1 else K2 H3)
    (fin : ∀ zs H,Same H1 H→P kvs.length zs H→zs.length≤kvs.length→H D=some (.lst zs)→R H) :
    ∃ W : Nat→Nat→Hp→Prop,(∃ m,W 0 m (upd H1 D (.lst [])))∧∀ i m H,W i m H→((Itv o kvs a).stop i H∧R H)∨((Itv o kvs a).go i H∧∀ x H',(Itv o kvs a).yld i H x H'→g x σ₀ H' fun σ2 H2=>(∀ (k : Nat) v,σ₀[k]? = some (some v)→σ2[k]? = some (some v))∧ti σ2 H2 fun b H3=>
      if b=true then te σ2 H3 fun y H4=>∃ zs,H4 D=some (.lst zs)∧zs.length < sizeLine∧∃ m',m' < m∧W (i + 1) m' (upd H4 D (.lst (zs ++ [y]))) else ∃ m',m' < m∧W (i + 1) m' H3):=by
  refine ⟨fun i m H=>i + m=kvs.length∧Same H1 H∧∃ zs,H D=some (.lst zs)∧zs.length≤i∧P i zs H,⟨kvs.length,by omega,same_new hD _,[],upd_same,Nat.le_refl _,st _ _ _ _ h0 fun b o hb e=>by rw [upd_ne hb]; exact e⟩,?_⟩
  rintro i m H ⟨him,s1,zs,hz,hl,hp⟩
  have ex:=s1 _ _ hx
  by_cases hi : i < kvs.length
  · refine .inr ⟨⟨ex,hi⟩,?_⟩
    rintro x H' ⟨rfl,k,e⟩
    exact step i k x zs H' e s1 hp _ _ (fun y H4 s4 p4=>⟨zs,s4 _ _ hz,small1000 (by omega),m - 1,by omega,by omega,(s1.trans s4).young hD,zs ++ [y],upd_same,by rw [List.length_append,List.length_singleton]; omega,st _ _ _ _ p4 fun b o hb e=>by rw [upd_ne hb]; exact e⟩) fun H3 s3 p3=>⟨m - 1,by omega,by omega,s1.trans s3,zs,s3 _ _ hz,by omega,p3⟩
  · have e : i=kvs.length:=by omega
    subst e
    exact .inl ⟨⟨ex,Nat.le_refl _⟩,fin zs H s1 hp hl hz⟩
theorem dcomp_by {K : PySem.W.Frag} {xs : List V} (P : Nat→List (List Key×V)→Hp→Prop) (hD : H1 D=none) (hx : H1 a=some (.lst xs)) (hn : xs.length≤1000)
    (st : ∀ i zs H H',P i zs H→(∀ b o,b≠D→H b=some o→H' b=some o)→P i zs H') (h0 : P 0 [] H1)
    (step : ∀ i x zs H,xs[i]? = some x→Same H1 H→P i zs H→∀ (K1 : V→Hp→V→Hp→Prop) (K2 : Hp→Prop),(∀ y H4 z H5,Same H H5→(∃ k bb,y = .ref bb∧H5 bb=some (.tup (k.map kV))∧P (i + 1) (putK zs k z) H5)→K1 y H4 z H5)→(∀ H3,Same H H3→P (i + 1) zs H3→K2 H3)→
      g x σ₀ H fun σ2 H2=>(∀ (k : Nat) v,σ₀[k]? = some (some v)→σ2[k]? = some (some v))∧ti σ2 H2 fun b H3=>if b=true then tk σ2 H3 fun y H4=>tv σ2 H4 fun z H5=>K1 y H4 z H5 else K2 H3)
    (fin : ∀ zs H,Same H1 H→P xs.length zs H→H D=some (.dT zs)→R H) :
    ∃ W : Nat→Nat→Hp→Prop,(∃ m,W 0 m (upd H1 D (.dT [])))∧∀ i m H,W i m H→((Itl K a).stop i H∧R H)∨((Itl K a).go i H∧∀ x H',(Itl K a).yld i H x H'→g x σ₀ H' fun σ2 H2=>(∀ (k : Nat) v,σ₀[k]? = some (some v)→σ2[k]? = some (some v))∧ti σ2 H2 fun b H3=>
      if b=true then tk σ2 H3 fun y H4=>tv σ2 H4 fun z H5=>∃ kvs k bb,H5 D=some (.dT kvs)∧y = .ref bb∧H5 bb=some (.tup (k.map kV))∧kvs.length < sizeLine∧∃ m',m' < m∧W (i + 1) m' (upd H5 D (.dT (putK kvs k z))) else ∃ m',m' < m∧W (i + 1) m' H3):=by
  refine ⟨fun i m H=>i + m=xs.length∧Same H1 H∧∃ zs,H D=some (.dT zs)∧zs.length≤i∧P i zs H,⟨xs.length,by omega,same_new hD _,[],upd_same,Nat.le_refl _,st _ _ _ _ h0 fun b o hb e=>by rw [upd_ne hb]; exact e⟩,?_⟩
  rintro i m H ⟨him,s1,zs,hz,hl,hp⟩
  have ex:=s1 _ _ hx
  by_cases hi : i < xs.length
  · refine .inr ⟨⟨xs,_,SqL.of ex,List.getElem?_eq_getElem hi⟩,?_⟩
    rintro x H' ⟨rfl,hy⟩
    refine step i x zs H' (hy _ (SqL.of ex)) s1 hp (fun y _ z H5=>∃ kvs k bb,H5 D=some (.dT kvs)∧y = .ref bb∧H5 bb=some (.tup (k.map kV))∧kvs.length < sizeLine∧∃ m',m' < m∧(i + 1 + m' = xs.length∧Same H1 (upd H5 D (.dT (putK kvs k z)))∧∃ zs,upd H5 D (.dT (putK kvs k z)) D=some (.dT zs)∧zs.length≤i + 1∧P (i + 1) zs (upd H5 D (.dT (putK kvs k z))))) _ (fun y H4 z H5 s5 ⟨k,bb,ey,hb,p5⟩=>?_) fun H3 s3 p3=>⟨m - 1,by omega,by omega,s1.trans s3,zs,s3 _ _ hz,by omega,p3⟩
    have lp:=length_putK zs k z
    exact ⟨zs,k,bb,s5 _ _ hz,ey,hb,small1000 (by omega),m - 1,by omega,by omega,(s1.trans s5).young hD,_,upd_same,by omega,st _ _ _ _ p5 fun b o hb e=>by rw [upd_ne hb]; exact e⟩
  · have e : i=xs.length:=by omega
    subst e
    exact .inl ⟨⟨xs,SqL.of ex,Nat.le_refl _⟩,fin zs H s1 hp hz⟩
theorem scomp_by {K : PySem.W.Frag} {w : World} {xs : List V} (P : Nat→List Int→Prop) (hD : H1 D=none) (hx : H1 a=some (.lst xs)) (hn : xs.length≤1000) (h0 : P 0 [])
    (step : ∀ i x ns H,xs[i]? = some x→Same H1 H→P i ns→∀ (K1 : V→Hp→Prop) (K2 : Hp→Prop),(∀ y z H4,y = .int z→Same H H4→P (i + 1) (if z∈ns then ns else ns ++ [z])→K1 y H4)→(∀ H3,Same H H3→P (i + 1) ns→K2 H3)→
      g x σ₀ H fun σ2 H2=>(∀ (k : Nat) v,σ₀[k]? = some (some v)→σ2[k]? = some (some v))∧ti σ2 H2 fun b H3=>if b=true then te σ2 H3 K1 else K2 H3)
    (fin : ∀ ns H,Same H1 H→P xs.length ns→ns.length≤xs.length→H D=some (HS w D ns)→R H) :
    ∃ W : Nat→Nat→Hp→Prop,(∃ m,W 0 m (upd H1 D (HS w D [])))∧∀ i m H,W i m H→((Itl K a).stop i H∧R H)∨((Itl K a).go i H∧∀ x H',(Itl K a).yld i H x H'→g x σ₀ H' fun σ2 H2=>(∀ (k : Nat) v,σ₀[k]? = some (some v)→σ2[k]? = some (some v))∧ti σ2 H2 fun b H3=>
      if b=true then te σ2 H3 fun y H4=>∃ ns x,H4 D=some (HS w D ns)∧y = .int x∧ns.length + 1 < scanBound∧∃ m',m' < m∧W (i + 1) m' (upd H4 D (HS w D (if x∈ns then ns else ns ++ [x]))) else ∃ m',m' < m∧W (i + 1) m' H3):=by
  refine ⟨fun i m H=>i + m=xs.length∧Same H1 H∧∃ ns,H D=some (HS w D ns)∧ns.length≤i∧P i ns,⟨xs.length,by omega,same_new hD _,[],upd_same,Nat.le_refl _,h0⟩,?_⟩
  rintro i m H ⟨him,s1,ns,hz,hl,hp⟩
  have ex:=s1 _ _ hx
  by_cases hi : i < xs.length
  · refine .inr ⟨⟨xs,_,SqL.of ex,List.getElem?_eq_getElem hi⟩,?_⟩
    rintro x H' ⟨rfl,hy⟩
    refine step i x ns H' (hy _ (SqL.of ex)) s1 hp _ _ (fun y z H4 ey s4 p4=>⟨ns,z,s4 _ _ hz,ey,by have : scanBound=4096:=rfl; omega,m - 1,by omega,by omega,(s1.trans s4).young hD,_,upd_same,?_,p4⟩) fun H3 s3 p3=>⟨m - 1,by omega,by omega,s1.trans s3,ns,s3 _ _ hz,by omega,p3⟩
    split
    · omega
    · rw [List.length_append,List.length_singleton]; omega
  · have e : i=xs.length:=by omega
    subst e
    exact .inl ⟨⟨xs,SqL.of ex,Nat.le_refl _⟩,fin ns H s1 hp hl hz⟩
end
end L2
namespace L2
open PySem PySem.Spec PySem.W PyProof.Rows
def stKey (f l : Int) : List Key:=[.inl f,.inl l]
def slk (ks : List (Int×Int)) (v : Int→Int→Int) : List (List Key×V):=ks.map fun p=>(stKey p.1 p.2,.int (v p.1 p.2))
def SlAt (H : Hp) (d : Addr) (ks : List (Int×Int)) (v : Int→Int→Int) : Prop:=∃ o,H d=some (.frz o (.dT (slk ks v)))
theorem SlAt.same {H H' : Hp} {d : Addr} {ks : List (Int×Int)} {v : Int→Int→Int} (h : SlAt H d ks v) (s : Same H H') : SlAt H' d ks v:=by
  obtain ⟨o,e⟩:=h
  exact ⟨o,s _ _ e⟩
def DaysOf (rs : List (List Int)) (ds : List Int) : Prop:=ds.Pairwise (· < ·)∧(∀ d,d∈ds↔∃ r∈rs,r.getD 0 0=d)∧ds.length≤rs.length
def strOf (ds : List Int) : List (Int×Int):=ds.flatMap fun f=>(ds.filter fun l=>decide (f≤l)).map fun l=>(f,l)
def spDaysOf : Sp:=fun vs H Q _=>∃ (a : Addr) (rs : List (List Int)),vs=[.ref a]∧Rows H a rs∧(∀ r∈rs,r.length=3)∧rs.length≤60∧∀ l ds H',H l=none→DaysOf rs ds→Same H H'→IntsAt H' l ds→Q (.ref l) H'
def spStretchesOf : Sp:=fun vs H Q _=>∃ (a : Addr) (rs : List (List Int)),vs=[.ref a]∧Rows H a rs∧(∀ r∈rs,r.length=3)∧rs.length≤31∧∀ l ds H',H l=none→DaysOf rs ds→Same H H'→Rows H' l ((strOf ds).map fun p=>[p.1,p.2])→Q (.ref l) H'
def spAgainstEach : Sp:=fun vs H Q _=>∃ (a b : Addr) (tm : Int) (rs os : List (List Int)),vs=[.ref a,.ref b,.int tm]∧Rows H a rs∧(∀ r∈rs,r.length=3)∧rs.length≤31∧Rows H b os∧(∀ r∈os,r.length=2)∧os.length≤100∧∀ d ds H',H d=none→DaysOf rs ds→Same H H'→SlAt H' d (strOf ds) (goingOf os tm)→Q (.ref d) H'
def lessF (v : Int→Int→Int) (day u : Int) : Int→Int→Int:=fun f l=>if f≤day∧day≤l then v f l - u else v f l
def spLessened : Sp:=fun vs H Q _=>∃ (d : Addr) (day u : Int) (ks : List (Int×Int)) (v : Int→Int→Int),vs=[.ref d,.int day,.int u]∧SlAt H d ks v∧ks.Nodup∧ks.length≤1000∧∀ d' H',H d' = none→Same H H'→SlAt H' d' ks (lessF v day u)→Q (.ref d') H'
def spNoneLacks : Sp:=fun vs H Q _=>∃ (d : Addr) (ks : List (Int×Int)) (v : Int→Int→Int),vs=[.ref d]∧SlAt H d ks v∧ks.length≤1000∧∀ H',Same H H'→Q (.bl (decide (∀ p∈ks,0≤v p.1 p.2))) H'
def FreeIs (ks : List (Int×Int)) (v : Int→Int→Int) (day left M : Int) : Prop:=M≤left∧(∀ p∈ks,p.1≤day→day≤p.2→M≤v p.1 p.2)∧(M=left∨∃ p∈ks,p.1≤day∧day≤p.2∧M=v p.1 p.2)
theorem nodup_of_lt {ds : List Int} (h : ds.Pairwise (· < ·)) : ds.Nodup:=h.imp fun z=>Int.ne_of_lt z
theorem str_nodup {ds : List Int} (h : ds.Pairwise (· < ·)) : (strOf ds).Nodup:=by
  have nd:=nodup_of_lt h
  unfold strOf
  suffices hh : ∀ es : List Int,es.Nodup→(es.flatMap fun f=>(ds.filter fun l=>decide (f≤l)).map fun l=>(f,l)).Nodup from hh ds nd
  intro es
  induction es with
  | nil=>intro _; exact List.nodup_nil
  | cons f r ih=>
    intro hn
    obtain ⟨h1,h2⟩:=List.nodup_cons.mp hn
    rw [List.flatMap_cons,List.nodup_append]
    refine ⟨?_,ih h2,fun p hp q hq e=>?_⟩
    · exact List.Pairwise.map _ (fun a b hab z=>hab (congrArg Prod.snd z)) (nd.filter _)
    · obtain ⟨l,_,rfl⟩:=List.mem_map.mp hp
      obtain ⟨f',hf',hq'⟩:=List.mem_flatMap.mp hq
      obtain ⟨l',_,rfl⟩:=List.mem_map.mp hq'
      cases e
      exact h1 hf'
theorem str_len {ds : List Int} (h : ds.length≤31) : (strOf ds).length≤961:=by
  unfold strOf
  have : ∀ es : List Int,(es.flatMap fun f=>(ds.filter fun l=>decide (f≤l)).map fun l=>(f,l)).length≤es.length * 31:=by
    intro es
    induction es with
    | nil=>exact Nat.le_refl _
    | cons f r ih=>
      rw [List.flatMap_cons,List.length_append,List.length_map,List.length_cons]
      have:=List.length_filter_le (fun l=>decide (f≤l)) ds
      omega
  have:=this ds
  omega
theorem mem_str {ds : List Int} {f l : Int} : (f,l)∈strOf ds↔f∈ds∧l∈ds∧f≤l:=by
  unfold strOf
  constructor
  · intro h
    obtain ⟨f',hf,h'⟩:=List.mem_flatMap.mp h
    obtain ⟨l',hl,e⟩:=List.mem_map.mp h'
    cases e
    obtain ⟨h1,h2⟩:=List.mem_filter.mp hl
    exact ⟨hf,h1,of_decide_eq_true h2⟩
  · rintro ⟨h1,h2,h3⟩
    exact List.mem_flatMap.mpr ⟨f,h1,List.mem_map.mpr ⟨l,List.mem_filter.mpr ⟨h2,decide_eq_true h3⟩,rfl⟩⟩
theorem key_inj {f l f' l' : Int} (h : stKey f l=stKey f' l') : f=f'∧l=l':=by
  unfold stKey at h
  simp only [List.cons.injEq,Sum.inl.injEq,and_true] at h
  exact h
theorem put_slk {ks : List (Int×Int)} {v : Int→Int→Int} {f l : Int} (h : (f,l) ∉ ks) : putK (slk ks v) (stKey f l) (.int (v f l))=slk (ks ++ [(f,l)]) v:=by
  have hn : valV (slk ks v) (stKey f l)=none:=by
    unfold valV slk
    rw [Option.map_eq_none_iff,List.find?_eq_none]
    intro x hx z
    obtain ⟨p,hp,rfl⟩:=List.mem_map.mp hx
    obtain ⟨e1,e2⟩:=key_inj (of_decide_eq_true z)
    exact h (by rw [← e1,← e2]; exact hp)
  rw [putK_new _ hn]
  unfold slk
  rw [List.map_append]; rfl
end L2
namespace L2
def strOf' (ds : List Int) (i j : Nat) : List (List Int):=((ds.take i).flatMap fun f=>(ds.filter fun l=>decide (f≤l)).map fun l=>[f,l]) ++ ((((ds.take j).filter fun l=>decide (ds.getD i 0≤l)).map fun l=>[ds.getD i 0,l]))
theorem str'_len {ds : List Int} {i j : Nat} (h : ds.length≤31) : (strOf' ds i j).length≤1000:=by
  unfold strOf'
  have : ∀ es : List Int,(es.flatMap fun f=>(ds.filter fun l=>decide (f≤l)).map fun l=>[f,l]).length≤es.length * 31:=by
    intro es
    induction es with
    | nil=>exact Nat.le_refl _
    | cons f r ih=>
      rw [List.flatMap_cons,List.length_append,List.length_map,List.length_cons]
      have:=List.length_filter_le (fun l=>decide (f≤l)) ds
      omega
  have h1:=this (ds.take i)
  have h2:=List.length_filter_le (fun l=>decide (ds.getD i 0≤l)) (ds.take j)
  rw [List.length_append,List.length_map]
  rw [List.length_take] at h1 h2
  omega
end L2
namespace K07
open PySem L2
abbrev s_days_of : Stmt:=top 28
abbrev n_days_of : List Str:=["lots"]
abbrev p_days_of : List Str:=["lots"]
theorem sc_days_of : FnScope n_days_of p_days_of (defScope s_days_of):=⟨rfl,rfl,rfl,by decide +kernel,rfl,by decide +kernel,by decide +kernel⟩
abbrev s_stretches_of : Stmt:=top 29
abbrev n_stretches_of : List Str:=["lots","days"]
abbrev p_stretches_of : List Str:=["lots"]
theorem sc_stretches_of : FnScope n_stretches_of p_stretches_of (defScope s_stretches_of):=⟨rfl,rfl,rfl,by decide +kernel,rfl,by decide +kernel,by decide +kernel⟩
abbrev s_against_each : Stmt:=top 30
abbrev n_against_each : List Str:=["lots","outs","term"]
abbrev p_against_each : List Str:=["lots","outs","term"]
theorem sc_against_each : FnScope n_against_each p_against_each (defScope s_against_each):=⟨rfl,rfl,rfl,by decide +kernel,rfl,by decide +kernel,by decide +kernel⟩
abbrev s_lessened : Stmt:=top 31
abbrev n_lessened : List Str:=["slacks","day","units","told","first","last","slack"]
abbrev p_lessened : List Str:=["slacks","day","units"]
theorem sc_lessened : FnScope n_lessened p_lessened (defScope s_lessened):=⟨rfl,rfl,rfl,by decide +kernel,rfl,by decide +kernel,by decide +kernel⟩
abbrev s_none_lacks : Stmt:=top 33
abbrev n_none_lacks : List Str:=["slacks"]
abbrev p_none_lacks : List Str:=["slacks"]
theorem sc_none_lacks : FnScope n_none_lacks p_none_lacks (defScope s_none_lacks):=⟨rfl,rfl,rfl,by decide +kernel,rfl,by decide +kernel,by decide +kernel⟩
section
variable {P : Program} {w : World} {K : PySem.W.Frag} {mg : Str→Option Value} {base : Heap} {f : Addr} {fd : FuncData} {cl : Nat→Addr} (T : Txt K mg cl) (B : Bn mg)
include T B
theorem ok_days_of (F : Fun K "days_of" "days_of" s_days_of f fd) : FnOk P w K mg base CX0 1 f fd p_days_of spDaysOf:=by
  refine F.ok sc_days_of (fun vs H Q E h=>?_) (fun cdv A outer s H vs Q E hr h=>?_)
  · obtain ⟨a,rs,rfl,_⟩:=h; rfl
  obtain ⟨a,rs,rfl,hR,h3,hn,q⟩:=h
  refine ⟨_,(pss_one (ps_ret (pe_callB (call_sortS rfl) rfl B.sorted PyProof.Rows.boot_sorted (pa_c (pe_scomp (N':=["day","count","duty"]) (ix:=[none,none,none]) (g:=(gTup K 3 (gCons (gName 0) (gCons (gName 1) (gCons (gName 2) gNil))))) (ti:=tIf0) (te:=(tVar 0)) rfl (comp_scope (N:=n_days_of) (D:=defScope s_days_of) (by decide +kernel)) (pi_list (pv 0)) (fun C s H fp=>(pg_tup rfl (pgs_cons (pg_name (i:=0) (show (["day","count","duty"] : List Str).Nodup by decide +kernel) rfl (Or.inl rfl)) (pgs_cons (pg_name (i:=1) (show (["day","count","duty"] : List Str).Nodup by decide +kernel) rfl (Or.inl rfl)) (pgs_cons (pg_name (i:=2) (show (["day","count","duty"] : List Str).Nodup by decide +kernel) rfl (Or.inl rfl)) pgs_nil))))) (fun C s H fp=>pifs_nil) (fun C s H fp=>(pv 0))) pa_nil)))),?_⟩
  obtain ⟨xs,ex,ht⟩:=hR.tups
  refine ⟨_,rfl,a,rfl,⟨xs,SqL.of ex⟩,fun D hD=>?_⟩
  refine scomp_by (fun i ns=>ns.Nodup∧∀ d,d∈ns↔∃ r∈rs.take i,r.getD 0 0=d) hD ex (by rw [ht.1]; omega) ⟨List.nodup_nil,fun d=>⟨fun z=>(by cases z),fun ⟨r,hr,_⟩=>(by cases hr)⟩⟩ ?_ ?_
  · rintro i x ns H1 ei s1 ⟨nd,hm⟩ K1 K2 q1 q2
    obtain ⟨p,r,rfl,er,hp⟩:=ht.at ei
    obtain ⟨d,c,u,rfl⟩:=len3 (h3 r (List.mem_of_getElem? er))
    refine ⟨p,_,rfl,SqT.of (s1 _ _ hp),rfl,_,_,rfl,_,_,rfl,_,_,rfl,rfl,keep_set (keep_set (keep_set keep_refl rfl) rfl) rfl,?_⟩
    refine ⟨_,rfl,q1 _ d _ rfl (Same.refl _) ⟨?_,fun e=>?_⟩⟩
    · split
      · exact nd
      · rename_i z
        exact List.nodup_append.mpr ⟨nd,by simp,fun a ha b hb e=>z (by rw [← List.mem_singleton.mp hb,← e]; exact ha)⟩
    · rw [getElem_next er]
      have key : (∃ r∈rs.take i ++ [[d,c,u]],r.getD 0 0=e)↔(e∈ns∨e=d):=by
        rw [hm e]
        constructor
        · rintro ⟨r,hr,e'⟩
          rcases List.mem_append.mp hr with z | z
          · exact .inl ⟨r,z,e'⟩
          · rw [List.mem_singleton.mp z] at e'; exact .inr e'.symm
        · rintro (⟨r,z,e'⟩ | z)
          · exact ⟨r,List.mem_append_left _ z,e'⟩
          · exact ⟨_,List.mem_append_right _ (.head _),z.symm⟩
      rw [key]
      split
      · rename_i z
        exact ⟨.inl,fun y=>y.elim id fun y=>by rw [y]; exact z⟩
      · rw [List.mem_append,List.mem_singleton]
  · rintro ns H1 s1 ⟨nd,hm⟩ hl hz
    rw [ht.1,List.take_length] at hm
    have h1:=ht.1
    refine ⟨D,ns,rfl,hz,by omega,fun l ms hl' hp hs=>?_⟩
    refine q l ms _ (s1.free hl') ⟨?_,fun d=>by rw [hp.mem_iff]; exact hm d,by rw [hp.length_eq]; omega⟩ (s1.trans (same_new hl' _)) upd_same
    exact (hs.and (hp.nodup_iff.mpr nd)).imp fun ⟨z1,z2⟩=>by omega
theorem ok_stretches_of (G_days_of : Cal P w K mg base CX0 1 "days_of" p_days_of spDaysOf) (F : Fun K "stretches_of" "stretches_of" s_stretches_of f fd) : FnOk P w K mg base CX0 2 f fd p_stretches_of spStretchesOf:=by
  refine F.ok sc_stretches_of (fun vs H Q E h=>?_) (fun cdv A outer s H vs Q E hr h=>?_)
  · obtain ⟨a,rs,rfl,_⟩:=h; rfl
  obtain ⟨a,rs,rfl,hR,h3,hn,q⟩:=h
  refine ⟨_,(pss_cons (ps_set (i:=1) sc_stretches_of.nd rfl (Or.inr rfl) (pe_cal G_days_of hr rfl pass0 (pa_c (pv 0) pa_nil)))
    (pss_one (ps_ret (pe_comp2 (N':=["first","last","days"]) (ix:=[none,none,some 1]) (g:=(gName 0)) (wi1:=iList K (tVar 2)) (g1:=(gName 1)) (ti:=(tTest (tOp (rI0 fun i j=>.bl (decide (i≤j))) (tVar 0) (tVar 1)))) (te:=(tTup (tCons (tVar 0) (tCons (tVar 1) tNil)))) rfl (comp_scope (N:=n_stretches_of) (D:=defScope s_stretches_of) (by decide +kernel)) (pi_list (pv 1)) (fun C s H fp=>(pg_name (i:=0) (show (["first","last","days"] : List Str).Nodup by decide +kernel) rfl (Or.inl rfl))) (fun C s H fp=>(pi_list (pv 2))) (fun C s H fp=>(pg_name (i:=1) (show (["first","last","days"] : List Str).Nodup by decide +kernel) rfl (Or.inl rfl))) (fun C s H fp=>(pifs_one (pt_cmpR op_le (pv 0) (pv 1) (nomark _)))) (fun C s H fp=>(pe_tup (pa_c (pv 0) (pa_c (pv 1) pa_nil)))))))),?_⟩
  refine ⟨_,rfl,a,rs,rfl,hR,h3,by omega,fun dl ds H1 hdl hds s1 e1=>?_⟩
  have ld : ds.length≤31:=Nat.le_trans hds.2.2 hn
  refine ⟨_,rfl,dl,rfl,⟨_,SqL.of e1⟩,fun D hD=>?_⟩
  have part : ∀ i j,strOf' ds i j=((ds.take i).flatMap fun f=>(ds.filter fun l=>decide (f≤l)).map fun l=>[f,l]) ++ ((((ds.take j).filter fun l=>decide (ds.getD i 0≤l)).map fun l=>[ds.getD i 0,l])):=fun i j=>rfl
  refine ⟨fun i m H2=>i + m=ds.length∧Same H1 H2∧Rows H2 D (strOf' ds i 0),⟨ds.length,by omega,same_new hD _,Rows.nil upd_same⟩,?_⟩
  rintro i m H2 ⟨him,s2,R2⟩
  have e2 : IntsAt H2 dl ds:=s2 _ _ e1
  by_cases hi : i < ds.length
  · refine .inr ⟨⟨_,_,SqL.of e2,List.getElem?_eq_getElem (by rw [List.length_map]; exact hi)⟩,?_⟩
    rintro x H' ⟨rfl,hx⟩
    obtain ⟨fi,rfl,efi⟩:=ints_at (hx _ (SqL.of e2))
    have gfi : ds.getD i 0=fi:=by rw [List.getD_eq_getElem?_getD,efi]; rfl
    refine ⟨keep_set keep_refl rfl,?_⟩
    refine ⟨_,rfl,dl,rfl,⟨_,SqL.of e2⟩,?_⟩
    refine ⟨fun j m1 H3=>j + m1=ds.length∧Same H1 H3∧Rows H3 D (strOf' ds i j),⟨ds.length,by omega,s2,R2⟩,?_⟩
    rintro j m1 H3 ⟨hjm,s3,R3⟩
    have e3 : IntsAt H3 dl ds:=s3 _ _ e1
    by_cases hj : j < ds.length
    · refine .inr ⟨⟨_,_,SqL.of e3,List.getElem?_eq_getElem (by rw [List.length_map]; exact hj)⟩,?_⟩
      rintro y H4 ⟨rfl,hy⟩
      obtain ⟨la,rfl,ela⟩:=ints_at (hy _ (SqL.of e3))
      refine ⟨keep_set keep_refl rfl,?_⟩
      refine ⟨_,rfl,_,rfl,_,_,rfl,rfl,_,rfl,?_⟩
      have ft:=filter_take (rs:=ds) (fun l=>decide (fi≤l)) ela
      by_cases c1 : fi≤la
      · rw [decide_eq_true c1]
        refine iteT ⟨_,rfl,_,rfl,by show 2≤sizeLine; decide,fun t ht=>?_⟩
        obtain ⟨ys,ey,eyl,_⟩:=R3.get
        have e4 : strOf' ds i (j + 1)=strOf' ds i j ++ [[fi,la]]:=by
          rw [part,part,gfi,ft,if_pos (decide_eq_true c1),List.map_append,← List.append_assoc]; rfl
        refine ⟨ys,by rw [upd_ne (ne_of_none ey ht)]; exact ey,small1000 (by rw [eyl]; exact str'_len ld),m1 - 1,by omega,by omega,(s3.trans (same_new ht _)).young hD,?_⟩
        rw [e4]
        exact R3.push (r:=[fi,la]) ey ht
      · rw [decide_eq_false c1]
        refine iteF ⟨m1 - 1,by omega,by omega,s3,?_⟩
        have e4 : strOf' ds i (j + 1)=strOf' ds i j:=by
          rw [part,part,gfi,ft,if_neg (fun z=>c1 (of_decide_eq_true z)),List.append_nil]
        rw [e4]
        exact R3
    · refine .inl ⟨⟨_,SqL.of e3,by rw [List.length_map]; omega⟩,m - 1,by omega,by omega,s3,?_⟩
      have e4 : strOf' ds (i + 1) 0=strOf' ds i j:=by
        rw [part,part,gfi,getElem_next efi,List.flatMap_append,List.take_of_length_le (by omega : ds.length≤j)]
        simp
      rw [e4]
      exact R3
  · refine .inl ⟨⟨_,SqL.of e2,by rw [List.length_map]; omega⟩,?_⟩
    refine q D ds H2 (s1.free hD) hds (s1.trans s2) ?_
    have e4 : strOf' ds i 0=(strOf ds).map fun p=>[p.1,p.2]:=by
      rw [part,List.take_of_length_le (by omega : ds.length≤i)]
      unfold strOf
      rw [List.map_flatMap]
      simp
      rfl
    rw [← e4]
    exact R2
theorem ok_against_each (G_stretches_of : Cal P w K mg base CX0 2 "stretches_of" p_stretches_of spStretchesOf) (G_going : Cal P w K mg base CX0 1 "going" p_going spGoing) (F : Fun K "against_each" "against_each" s_against_each f fd) : FnOk P w K mg base CX0 3 f fd p_against_each spAgainstEach:=by
  refine F.ok sc_against_each (fun vs H Q E h=>?_) (fun cdv A outer s H vs Q E hr h=>?_)
  · obtain ⟨a,b,tm,rs,os,rfl,_⟩:=h; rfl
  obtain ⟨a,b,tm,rs,os,rfl,hR,h3,rn,hO,h2,on,q⟩:=h
  refine ⟨_,(pss_one (ps_ret (pe_frz (pe_dcomp (N':=["stretch","outs","term"]) (ix:=[none,some 1,some 2]) (g:=(gName 0)) (ti:=tIf0) (tk:=(tVar 0)) (tv:=(tCall spGoing [] E0 (tCons (tVar 1) (tCons (tVar 2) (tCons (tVar 0) tNil))))) (Nat.lt_of_le_of_lt (Nat.le_add_right _ _) hr.units) rfl (comp_scope (N:=n_against_each) (D:=defScope s_against_each) (by decide +kernel)) (pi_list (pe_cal G_stretches_of hr rfl pass0 (pa_c (pv 0) pa_nil))) (fun C s H fp=>(pg_name (i:=0) (show (["stretch","outs","term"] : List Str).Nodup by decide +kernel) rfl (Or.inl rfl))) (fun C s H fp=>pifs_nil) (fun C s H fp=>(pv 0)) (fun C s H fp=>(pe_cal G_going hr rfl pass0 (pa_c (pv 1) (pa_c (pv 2) (pa_c (pv 0) pa_nil))))))))),?_⟩
  refine ⟨_,rfl,a,rs,rfl,hR,h3,rn,fun sl ds H1 hsl hds s1 R1=>?_⟩
  obtain ⟨xs,ex,ht⟩:=R1.tups
  have ld : ds.length≤31:=Nat.le_trans hds.2.2 rn
  have sn:=str_len ld
  have nd:=str_nodup hds.1
  have O1:=hO.same s1
  refine ⟨sl,rfl,⟨xs,SqL.of ex⟩,fun D hD=>?_⟩
  have lx : xs.length=(strOf ds).length:=by rw [ht.1,List.length_map]
  refine dcomp_by (fun i zs _=>zs=slk ((strOf ds).take i) (goingOf os tm)) hD ex (by omega) (fun i zs H1 H2 h k=>h) rfl ?_ ?_
  · rintro i x zs H2 ei s2 rfl K1 K2 q1 q2
    obtain ⟨p,r,rfl,er,hp⟩:=ht.at ei
    rw [List.getElem?_map] at er
    cases ep : (strOf ds)[i]? with
    | none=>rw [ep] at er; cases er
    | some pr=>
      rw [ep] at er
      cases er
      obtain ⟨ff,la⟩:=pr
      refine ⟨keep_set keep_refl rfl,_,rfl,_,rfl,_,rfl,_,rfl,b,p,tm,ff,la,os,rfl,O1.same s2,h2,on,s2 _ _ hp,fun H3 s3=>?_⟩
      refine q1 _ _ _ _ s3 ⟨stKey ff la,p,rfl,s3 _ _ (s2 _ _ hp),?_⟩
      have hni : (ff,la) ∉ (strOf ds).take i:=fun z=>by
        obtain ⟨hi,e'⟩:=List.getElem?_eq_some_iff.mp ep
        have:=List.nodup_append.mp (by rw [← List.take_append_drop i (strOf ds)] at nd; exact nd)
        exact this.2.2 _ z _ (by rw [List.drop_eq_getElem_cons hi,e']; exact .head _) rfl
      rw [getElem_next ep]
      exact put_slk hni
  · rintro zs H2 s2 rfl hz
    rw [lx,List.take_length] at hz
    refine ⟨D,_,rfl,hz,fun o=>?_⟩
    exact q D ds _ (s1.free hD) hds ((s1.trans s2).young (s1.free hD)) ⟨o,upd_same⟩
theorem ok_lessened (F : Fun K "lessened" "lessened" s_lessened f fd) : FnOk P w K mg base CX0 1 f fd p_lessened spLessened:=by
  refine F.ok sc_lessened (fun vs H Q E h=>?_) (fun cdv A outer s H vs Q E hr h=>?_)
  · obtain ⟨d,day,u,ks,v,rfl,_⟩:=h; rfl
  obtain ⟨d,day,u,ks,v,rfl,⟨o,ho⟩,nd,kn,q⟩:=h
  refine ⟨_,(pss_cons (ps_set (i:=3) sc_lessened.nd rfl (Or.inl rfl) pe_dnewT)
    (pss_cons (ps_for PassesOwn.never rfl (pi_items (pv 0)) (pg_tup rfl (pgs_cons (pg_tup rfl (pgs_cons (pg_name (i:=4) sc_lessened.nd rfl (Or.inl rfl)) (pgs_cons (pg_name (i:=5) sc_lessened.nd rfl (Or.inl rfl)) pgs_nil))) (pgs_cons (pg_name (i:=6) sc_lessened.nd rfl (Or.inl rfl)) pgs_nil))) (pss_one (ps_dput (hu_of hr) (pv 3) (pe_tup (pa_c (pv 4) (pa_c (pv 5) pa_nil))) (pe_ifExp (pt_chain op_le op_le (pv 4) (pv 1) (pv 5)) (pe_op op_sub (pv 6) (pv 2)) (pv 6)) rfl)))
    (pss_one (ps_ret (pe_frz (pv 3)))))),?_⟩
  refine fun t ht=>?_
  have s1:=same_new ht (.dT [])
  refine ⟨_,rfl,d,o,_,rfl,s1 _ _ ho,?_⟩
  refine for_items (fun i σ H3=>∃ o4 o5 o6,σ=[some (.ref d),some (.int day),some (.int u),some (.ref t),o4,o5,o6]∧Same H H3∧H3 t=some (.dT (slk (ks.take i) (lessF v day u)))) ⟨_,_,_,rfl,s1,upd_same⟩ ?_ ?_ ?_
  · rintro i σ H3 ⟨o4,o5,o6,rfl,s3,_⟩
    exact s3 _ _ ho
  · rintro i k x σ H3 p b ei ⟨o4,o5,o6,rfl,s3,e3⟩ hp hb
    unfold slk at ei
    rw [List.getElem?_map] at ei
    cases ep : ks[i]? with
    | none=>rw [ep] at ei; cases ei
    | some pr=>
      rw [ep] at ei
      cases ei
      obtain ⟨ff,la⟩:=pr
      have sN:=same_new hp (.tup [.ref b,.int (v ff la)])
      have hb':=sN _ _ hb
      refine ⟨p,_,rfl,SqT.of upd_same,rfl,_,_,rfl,b,_,rfl,SqT.of hb',rfl,_,_,rfl,_,_,rfl,rfl,_,_,rfl,rfl,?_⟩
      have s4:=s3.trans sN
      have e4:=sN _ _ e3
      generalize L2.upd H3 p (.tup [.ref b,.int (v ff la)])=H4 at *
      have hni : (ff,la) ∉ ks.take i:=fun z=>by
        obtain ⟨hi,e'⟩:=List.getElem?_eq_some_iff.mp ep
        have:=List.nodup_append.mp (by rw [← List.take_append_drop i ks] at nd; exact nd)
        exact this.2.2 _ z _ (by rw [List.drop_eq_getElem_cons hi,e']; exact .head _) rfl
      have put : ∀ z : Int,z=lessF v day u ff la→∃ x H5,V.ref t=V.ref x∧True∧H5=H5:=fun z _=>⟨t,H4,rfl,trivial,rfl⟩
      have fin : ∀ z : Int,z=lessF v day u ff la→∀ (tp : Addr) (htp : H4 tp=none),∃ a H5,V.ref t = .ref a∧DPut (L2.upd H4 tp (.tup [.int ff,.int la])) a (.ref tp) (.int z) H5∧(∃ o4 o5 o6,([some (.ref d),some (.int day),some (.int u),some (.ref t),some (.int ff),some (.int la),some (.int (v ff la))] : St)=[some (.ref d),some (.int day),some (.int u),some (.ref t),o4,o5,o6]∧Same H H5∧H5 t=some (.dT (slk (ks.take (i + 1)) (lessF v day u)))):=fun z ez tp htp=>by
        have sT:=same_new htp (.tup [.int ff,.int la])
        refine ⟨t,_,rfl,DPut.t (k:=stKey ff la) (sT _ _ e4) upd_same (small1000 (by unfold slk; rw [List.length_map,List.length_take]; omega)),_,_,_,rfl,(s4.trans sT).young ht,?_⟩
        rw [upd_same,getElem_next ep,ez,put_slk hni]
      refine ⟨_,rfl,_,rfl,_,_,rfl,rfl,_,rfl,?_⟩
      by_cases c1 : ff≤day
      · rw [decide_eq_true c1]
        refine iteT ⟨_,rfl,_,_,rfl,rfl,_,rfl,?_⟩
        by_cases c2 : day≤la
        · rw [decide_eq_true c2]
          refine iteT ⟨_,rfl,_,rfl,_,_,rfl,rfl,_,rfl,_,rfl,_,rfl,by show 2≤sizeLine; decide,fun tp htp=>?_⟩
          exact fin _ (by unfold lessF; rw [if_pos ⟨c1,c2⟩]) tp htp
        · rw [decide_eq_false c2]
          refine iteF ⟨_,rfl,_,rfl,_,rfl,_,rfl,by show 2≤sizeLine; decide,fun tp htp=>?_⟩
          exact fin _ (by unfold lessF; rw [if_neg fun z=>c2 z.2]) tp htp
      · rw [decide_eq_false c1]
        refine iteF ⟨_,rfl,iteF ⟨_,rfl,_,rfl,_,rfl,_,rfl,by show 2≤sizeLine; decide,fun tp htp=>?_⟩⟩
        exact fin _ (by unfold lessF; rw [if_neg fun z=>c1 z.1]) tp htp
  · rintro σ H3 ⟨o4,o5,o6,rfl,s3,e3⟩
    have lk : (slk ks v).length=ks.length:=by unfold slk; rw [List.length_map]
    rw [lk,List.take_length] at e3
    exact ⟨_,rfl,t,_,rfl,e3,fun o'=>q t _ ht (s3.young ht) ⟨o',upd_same⟩⟩
theorem ok_none_lacks (F : Fun K "none_lacks" "none_lacks" s_none_lacks f fd) : FnOk P w K mg base CX0 1 f fd p_none_lacks spNoneLacks:=by
  refine F.ok sc_none_lacks (fun vs H Q E h=>?_) (fun cdv A outer s H vs Q E hr h=>?_)
  · obtain ⟨d,ks,v,rfl,_⟩:=h; rfl
  obtain ⟨d,ks,v,rfl,⟨o,ho⟩,kn,q⟩:=h
  refine ⟨_,(pss_one (ps_ret (pe_callB (call_allB rfl) rfl B.all PyProof.Rows.boot_all (pa_c (pe_comp (N':=["slack"]) (ix:=[none]) (g:=(gName 0)) (ti:=tIf0) (te:=(tOp (rI0 fun i j=>.bl (decide (j≤i))) (tVar 0) (tC (.int 0)))) rfl (comp_scope (N:=n_none_lacks) (D:=defScope s_none_lacks) (by decide +kernel)) (pi_values (pv 0)) (fun C s H fp=>(pg_name (i:=0) (show (["slack"] : List Str).Nodup by decide +kernel) rfl (Or.inl rfl))) (fun C s H fp=>pifs_nil) (fun C s H fp=>(pe_cmpR op_ge (pv 0) pe_int (nomark _)))) pa_nil)))),?_⟩
  have lk : (slk ks v).length=ks.length:=by unfold slk; rw [List.length_map]
  refine ⟨_,rfl,d,o,_,rfl,ho,fun D hD=>?_⟩
  refine comp_vals (fun i zs _=>zs=((ks.take i).map fun p=>decide (0≤v p.1 p.2)).map V.bl) hD ho (by rw [lk]; omega) (fun i zs H1 H2 h k=>h) rfl ?_ ?_
  · rintro i k x zs H1 ei s1 rfl K1 K2 q1 q2
    unfold slk at ei
    rw [List.getElem?_map] at ei
    cases ep : ks[i]? with
    | none=>rw [ep] at ei; cases ei
    | some pr=>
      rw [ep] at ei
      cases ei
      refine ⟨keep_set keep_refl rfl,_,rfl,_,_,rfl,rfl,q1 _ _ (Same.refl _) ?_⟩
      rw [getElem_next ep,List.map_append,List.map_append]; rfl
  · rintro zs H1 s1 rfl hl hz
    rw [lk,List.take_length] at hz
    refine ⟨D,_,rfl,SqL.of hz,?_⟩
    have e : (ks.map fun p=>decide (0≤v p.1 p.2)).all id=decide (∀ p∈ks,0≤v p.1 p.2):=by
      rw [Bool.eq_iff_iff,List.all_eq_true,decide_eq_true_iff]
      constructor
      · intro h p hp
        exact of_decide_eq_true (h _ (List.mem_map.mpr ⟨p,hp,rfl⟩))
      · intro h x hx
        obtain ⟨p,hp,rfl⟩:=List.mem_map.mp hx
        exact decide_eq_true (h p hp)
    rw [e]
    exact q H1 s1
end
end K07
namespace L2
open PySem PySem.Spec PySem.W PyProof.Rows
def freeF (v : Int→Int→Int) (day left : Int) : List (Int×Int)→Int
  | []=>left
  | p :: ks=>if p.1≤day∧day≤p.2∧v p.1 p.2 < freeF v day left ks then v p.1 p.2 else freeF v day left ks
theorem freeF_is (v : Int→Int→Int) (day left : Int) : ∀ ks,FreeIs ks v day left (freeF v day left ks)
  | []=>⟨Int.le_refl _,fun p hp=>(by cases hp),.inl rfl⟩
  | p :: ks=>by
    obtain ⟨h1,h2,h3⟩:=freeF_is v day left ks
    unfold freeF
    split
    · rename_i c
      refine ⟨by omega,fun q hq a b=>?_,.inr ⟨p,.head _,c.1,c.2.1,rfl⟩⟩
      rcases List.mem_cons.mp hq with e | e
      · subst e; exact Int.le_refl _
      · have:=h2 q e a b; omega
    · rename_i c
      refine ⟨h1,fun q hq a b=>?_,?_⟩
      · rcases List.mem_cons.mp hq with e | e
        · subst e
          exact Int.not_lt.mp fun z=>c ⟨a,b,z⟩
        · exact h2 q e a b
      · rcases h3 with z | ⟨q,hq,a,b,e⟩
        · exact .inl z
        · exact .inr ⟨q,.tail _ hq,a,b,e⟩
theorem FreeIs.uniq {ks : List (Int×Int)} {v : Int→Int→Int} {day left M M' : Int} (h : FreeIs ks v day left M) (h' : FreeIs ks v day left M') : M=M':=by
  obtain ⟨a1,a2,a3⟩:=h
  obtain ⟨b1,b2,b3⟩:=h'
  refine Int.le_antisymm ?_ ?_
  · rcases b3 with z | ⟨p,hp,x,y,e⟩
    · rw [z]; exact a1
    · rw [e]; exact a2 p hp x y
  · rcases a3 with z | ⟨p,hp,x,y,e⟩
    · rw [z]; exact b1
    · rw [e]; exact b2 p hp x y
def stepN (ks : List (Int×Int)) (rs : List (List Int)) (v : Int→Int→Int) (i : Int) : Int:=freeF v (colAt rs 0 i) (colAt rs 1 i) ks
def bestGo (ks : List (Int×Int)) (rs : List (List Int)) : List Int→(Int→Int→Int)→List Int→(Int→Int→Int)×List Int
  | [],v,cs=>(v,cs)
  | i :: os,v,cs=>bestGo ks rs os (lessF v (colAt rs 0 i) (stepN ks rs v i)) (cs.set i.toNat (stepN ks rs v i))
theorem bestGo_append (ks : List (Int×Int)) (rs : List (List Int)) : ∀ (os ps : List Int) (v : Int→Int→Int) (cs : List Int),bestGo ks rs (os ++ ps) v cs=bestGo ks rs ps (bestGo ks rs os v cs).1 (bestGo ks rs os v cs).2
  | [],ps,v,cs=>rfl
  | i :: os,ps,v,cs=>bestGo_append ks rs os ps _ _
theorem bestGo_len (ks : List (Int×Int)) (rs : List (List Int)) : ∀ (os : List Int) (v : Int→Int→Int) (cs : List Int),(bestGo ks rs os v cs).2.length=cs.length
  | [],v,cs=>rfl
  | i :: os,v,cs=>by
    show (bestGo ks rs os _ _).2.length=_
    rw [bestGo_len,List.length_set]
def nN (ks : List (Int×Int)) (v : Int→Int→Int) : Prop:=∀ p∈ks,0≤v p.1 p.2
def Within (rs : List (List Int)) (cs : List Int) : Prop:=∀ (j : Nat) u,cs[j]? = some u→0≤u∧u≤colAt rs 1 (j : Int)
theorem step_in {ks : List (Int×Int)} {rs : List (List Int)} {v : Int→Int→Int} {i : Int} (hv : nN ks v) (hc : 0≤colAt rs 1 i) : 0≤stepN ks rs v i∧stepN ks rs v i≤colAt rs 1 i∧nN ks (lessF v (colAt rs 0 i) (stepN ks rs v i)):=by
  obtain ⟨h1,h2,h3⟩:=freeF_is v (colAt rs 0 i) (colAt rs 1 i) ks
  refine ⟨?_,h1,fun p hp=>?_⟩
  · rcases h3 with z | ⟨p,hp,_,_,e⟩
    · unfold stepN; rw [z]; exact hc
    · unfold stepN; rw [e]; exact hv p hp
  · unfold lessF
    split
    · rename_i c
      have:=h2 p hp c.1 c.2
      unfold stepN
      omega
    · exact hv p hp
theorem bestGo_in {ks : List (Int×Int)} {rs : List (List Int)} : ∀ (os : List Int) (v : Int→Int→Int) (cs : List Int),(∀ i∈os,0≤i∧0≤colAt rs 1 i)→nN ks v→Within rs cs→nN ks (bestGo ks rs os v cs).1∧Within rs (bestGo ks rs os v cs).2
  | [],v,cs,_,hv,hc=>⟨hv,hc⟩
  | i :: os,v,cs,ho,hv,hc=>by
    obtain ⟨i0,i1⟩:=ho i (.head _)
    obtain ⟨a1,a2,a3⟩:=step_in hv i1
    refine bestGo_in os _ _ (fun j hj=>ho j (.tail _ hj)) a3 fun j u e=>?_
    rw [List.getElem?_set] at e
    split at e
    · rename_i z
      split at e
      · cases e
        have : ((j : Nat) : Int)=i:=by omega
        rw [this]
        exact ⟨a1,a2⟩
      · cases e
    · exact hc j u e
def BestIs (rs os : List (List Int)) (tm : Int) (cs : List Int) : Prop:=∃ ds ord,DaysOf rs ds∧Ordered (keyD rs) rs.length ord∧cs=(bestGo (strOf ds) rs ord (goingOf os tm) (List.replicate rs.length 0)).2
theorem BestIs.len {rs os : List (List Int)} {tm : Int} {cs : List Int} (h : BestIs rs os tm cs) : cs.length=rs.length:=by
  obtain ⟨ds,ord,_,_,rfl⟩:=h
  rw [bestGo_len,List.length_replicate]
theorem days_uniq {rs rs' : List (List Int)} {ds ds' : List Int} (h : DaysOf rs ds) (h' : DaysOf rs' ds') (e : ∀ d,(∃ r∈rs,r.getD 0 0=d)↔∃ r∈rs',r.getD 0 0=d) : ds=ds':=by
  refine List.Perm.eq_of_pairwise (le:=(· < ·)) (fun a b _ _ x y=>by omega) h.1 h'.1 ?_
  refine (List.perm_ext_iff_of_nodup (nodup_of_lt h.1) (nodup_of_lt h'.1)).mpr fun d=>?_
  rw [h.2.1 d,h'.2.1 d]
  exact e d
theorem going_nn {os : List (List Int)} (h : ∀ r∈os,0≤r.getD 1 0) (tm f l : Int) : 0≤goingOf os tm f l:=by
  unfold goingOf
  have : ∀ qs : List (List Int),(∀ r∈qs,0≤r.getD 1 0)→0≤(qs.map fun r=>r.getD 1 0).sum:=by
    intro qs
    induction qs with
    | nil=>intro _; exact Int.le_refl _
    | cons r qs ih=>
      intro hh
      rw [List.map_cons,List.sum_cons]
      have:=hh r (.head _)
      have:=ih fun r hr=>hh r (.tail _ hr)
      omega
  exact this _ fun r hr=>h r (List.mem_filter.mp hr).1
theorem col_nn {rs : List (List Int)} (h : ∀ r∈rs,0≤r.getD 1 0) (i : Int) : 0≤colAt rs 1 i:=by
  unfold colAt
  rw [List.getD_eq_getElem?_getD (l:=rs)]
  cases e : rs[i.toNat]? with
  | none=>exact Int.le_refl _
  | some r=>exact h r (List.mem_of_getElem? e)
theorem BestIs.taken {rs os : List (List Int)} {tm : Int} {cs : List Int} (h : BestIs rs os tm cs) (hr : ∀ r∈rs,0≤r.getD 1 0) (ho : ∀ r∈os,0≤r.getD 1 0) : TakenOk rs cs:=by
  refine ⟨h.len,fun j r u hj er eu=>?_⟩
  obtain ⟨ds,ord,_,hord,rfl⟩:=h
  have w:=(bestGo_in (rs:=rs) (ks:=strOf ds) ord (goingOf os tm) (List.replicate rs.length 0) (fun i hi=>⟨(uptoN_mem.mp (hord.1.mem_iff.mp hi)).1,col_nn hr i⟩) (fun p _=>going_nn ho _ _ _) (fun j u e=>by
    have:=List.mem_of_getElem? e
    rw [(List.mem_replicate.mp this).2]
    exact ⟨Int.le_refl _,col_nn hr _⟩)).2 j u eu
  rw [show colAt rs 1 (j : Int)=r.getD 1 0 by unfold colAt; rw [row_at er]] at w
  exact w
theorem both_ok {rs os : List (List Int)} {tm : Int} (h : bothNo rs os tm=none) : rs.length≤30∧os.length≤30∧rowsBad rs=none∧rowsBad os=none:=by
  have one : ∀ {qs : List (List Int)},rowsNo qs=none→qs.length≤30∧rowsBad qs=none:=by
    intro qs e
    unfold rowsNo at e
    split at e
    · cases e
    · rename_i z
      exact ⟨by omega,Option.map_eq_none_iff.mp e⟩
  unfold bothNo at h
  cases e1 : rowsNo rs with
  | some n=>rw [e1] at h; cases h
  | none=>
    rw [e1] at h
    cases e2 : rowsNo os with
    | some n=>rw [e2] at h; cases h
    | none=>exact ⟨(one e1).1,(one e2).1,(one e1).2,(one e2).2⟩
end L2
namespace K07
open PySem L2
abbrev s_checked_taken : Stmt:=top 25
abbrev n_checked_taken : List Str:=["lots","taken","lot","units"]
abbrev p_checked_taken : List Str:=["lots","taken"]
theorem sc_checked_taken : FnScope n_checked_taken p_checked_taken (defScope s_checked_taken):=⟨rfl,rfl,rfl,by decide +kernel,rfl,by decide +kernel,by decide +kernel⟩
section
variable {P : Program} {w : World} {K : PySem.W.Frag} {mg : Str→Option Value} {base : Heap} {f : Addr} {fd : FuncData} {cl : Nat→Addr} (T : Txt K mg cl) (B : Bn mg)
include T B
theorem ok_checked_taken (F : Fun K "checked_taken" "checked_taken" s_checked_taken f fd) : FnOk P w K mg base (CXE P w) 2 f fd p_checked_taken (spChkTaken (cl 7)):=by
  refine F.okE sc_checked_taken (fun vs H Q E h=>?_) (fun cdv A outer s H vs Q E hr h=>?_)
  · obtain ⟨a,b,rs,ts,rfl,_⟩:=h; rfl
  obtain ⟨a,b,rs,ts,rfl,hR,h3,hb,hn,hm,q1,q2⟩:=h
  refine ⟨_,(pss_cons (ps_if (pt_cmpR op_ne (pe_callB call_len_seq rfl B.len PySem.boot_len (pa_c (pv 1) pa_nil)) (pe_callB call_len_seq rfl B.len PySem.boot_len (pa_c (pv 0) pa_nil)) (nomark _)) (pss_one (ps_raise (E:=E) rfl T.gBadTaken T.eBadTaken PySem.F.excBase_ValueError rfl makesE (pa_c pe_str pa_nil))) pss_nil)
    (pss_cons (ps_for PassesOwn.leaving rfl (pi_zip rfl B.zip (pa_c (pv 0) (pa_c (pv 1) pa_nil))) (pg_tup rfl (pgs_cons (pg_name (i:=2) sc_checked_taken.nd rfl (Or.inl rfl)) (pgs_cons (pg_name (i:=3) sc_checked_taken.nd rfl (Or.inl rfl)) pgs_nil))) (pss_one (ps_if (pt_not (pt_chain op_le op_le pe_int (pv 3) (pe_ix ix_tup (pv 2) pe_int (fun _ _=>rfl)))) (pss_one (ps_raise (E:=E) rfl T.gBadTaken T.eBadTaken PySem.F.excBase_ValueError rfl makesE (pa_c pe_str pa_nil))) pss_nil)))
    (pss_one (ps_ret (pe_callTy call_list_of rfl B.list PyProof.Rows.boot_list (pa_c (pv 1) pa_nil)))))),?_⟩
  obtain ⟨xs,ex,exl,exi⟩:=hR.get
  refine ⟨_,rfl,b,_,rfl,.inl (SqL.of hb),_,rfl,a,_,rfl,.inl (SqL.of ex),rfl,_,rfl,?_⟩
  rw [List.length_map]
  by_cases c : ts.length=rs.length
  · rw [decide_eq_true (by rw [exl,c] : V.int (ts.length : Int)=V.int (xs.length : Int))]
    refine iteF ?_
    refine ⟨_,rfl,_,rfl,true,true,a,b,xs,_,rfl,SqL.of ex,SqL.of hb,?_⟩
    refine for_zip (xs:=xs) (ys:=ts.map V.int) (b1:=true) (b2:=true) (fun i σ H3=>∃ o2 o3,σ=[some (.ref a),some (.ref b),o2,o3]∧Same H H3∧GoodTo rs ts i) ⟨_,_,rfl,Same.refl H,goodTo_zero⟩ ?_ ?_ ?_
    · rintro i σ H3 hi ⟨o2,o3,rfl,sm,_⟩
      exact ⟨SqL.of (sm _ _ ex),SqL.of (sm _ _ hb)⟩
    · rintro i x y σ H3 p e1 e2 ⟨o2,o3,rfl,sm,hg⟩ hp
      obtain ⟨pr,r,rfl,er,hpr⟩:=exi i x e1
      obtain ⟨v,rfl,ev⟩:=ints_at e2
      obtain ⟨d,cc,u,rfl⟩:=len3 (h3 r (List.mem_of_getElem? er))
      have sp:=sm.trans (same_new hp (.tup [.ref pr,.int v]))
      refine ⟨p,_,rfl,SqT.of upd_same,rfl,_,_,rfl,_,_,rfl,rfl,?_⟩
      have bad : ¬ (0≤v∧v≤cc)→¬ TakenOk rs ts:=fun z ok=>z (ok.2 i _ _ (List.getElem?_eq_some_iff.mp er).1 er ev)
      refine ⟨_,rfl,_,_,rfl,rfl,_,rfl,?_⟩
      by_cases c1 : 0≤v
      · rw [decide_eq_true c1]
        refine iteT ⟨_,rfl,pr,_,_,.int cc,rfl,rfl,SqT.of (sp _ _ hpr),rfl,_,_,rfl,rfl,_,rfl,?_⟩
        by_cases c2 : v≤cc
        · rw [decide_eq_true c2]
          exact iteF ⟨_,_,rfl,sp,(goodTo_succ er ev).mpr ⟨hg,c1,c2⟩⟩
        · rw [decide_eq_false c2]
          exact iteT ⟨by show 1≤sizeLine; decide,q1 (bad fun z=>c2 z.2) _ sp⟩
      · rw [decide_eq_false c1]
        exact iteF ⟨_,rfl,iteT ⟨by show 1≤sizeLine; decide,q1 (bad fun z=>c1 z.1) _ sp⟩⟩
    · rintro σ H3 ⟨o2,o3,rfl,sm,hg⟩
      rw [List.length_map,show min xs.length ts.length=rs.length by omega] at hg
      exact ⟨_,rfl,b,_,rfl,.inl (SqL.of (sm _ _ hb)),fun l hl=>q2 ⟨c,hg⟩ l _ (sm.free hl) (sm.trans (same_new hl _)) upd_same⟩
  · rw [decide_eq_false (by intro z; have:=V.int.inj z; omega : ¬ V.int (ts.length : Int)=V.int (xs.length : Int))]
    exact iteT ⟨by show 1≤sizeLine; decide,q1 (fun z=>c z.1) H (Same.refl H)⟩
end
end K07
namespace L2
open PySem PySem.Spec PySem.W PyProof.Rows
def slackTo (rs : List (List Int)) (ts : List Int) (v : Int→Int→Int) : Nat→Int→Int→Int
  | 0=>v
  | n + 1=>lessF (slackTo rs ts v n) (colAt rs 0 (n : Int)) (ts.getD n 0)
def takenTo (rs : List (List Int)) (ts : List Int) (f l : Int) : Nat→Int
  | 0=>0
  | n + 1=>takenTo rs ts f l n + if f≤colAt rs 0 (n : Int)∧colAt rs 0 (n : Int)≤l then ts.getD n 0 else 0
theorem slack_taken (rs : List (List Int)) (ts : List Int) (v : Int→Int→Int) (f l : Int) : ∀ n,slackTo rs ts v n f l=v f l - takenTo rs ts f l n
  | 0=>by show v f l=v f l - 0; omega
  | n + 1=>by
    have ih:=slack_taken rs ts v f l n
    show lessF (slackTo rs ts v n) (colAt rs 0 (n : Int)) (ts.getD n 0) f l=v f l - (takenTo rs ts f l n + if f≤colAt rs 0 (n : Int)∧colAt rs 0 (n : Int)≤l then ts.getD n 0 else 0)
    unfold lessF
    split <;> omega
def slackF (rs os : List (List Int)) (tm : Int) (ts : List Int) : Int→Int→Int:=slackTo rs ts (goingOf os tm) rs.length
def spSlacksOf : Sp:=fun vs H Q _=>∃ (a b t : Addr) (tm : Int) (rs os : List (List Int)) (ts : List Int),vs=[.ref a,.ref b,.int tm,.ref t]∧Rows H a rs∧(∀ r∈rs,r.length=3)∧rs.length≤31∧Rows H b os∧(∀ r∈os,r.length=2)∧os.length≤100∧IntsAt H t ts∧ts.length=rs.length∧∀ d ds H',H d=none→DaysOf rs ds→Same H H'→SlAt H' d (strOf ds) (slackF rs os tm ts)→Q (.ref d) H'
def spDealable (cl : Nat→Addr) : Sp:=fun vs H Q E=>∃ (a b t : Addr) (tm : Int) (rs os : List (List Int)) (ts : List Int),vs=[.ref a,.ref b,.int tm,.ref t]∧Rows H a rs∧(∀ r∈rs,r.length=3)∧Rows H b os∧(∀ r∈os,r.length=2)∧IntsAt H t ts∧ts.length≤100∧
  (∀ n,bothNo rs os tm=some n→∀ H',Same H H'→E (.ref (cl n)) none H')∧(bothNo rs os tm=none→(¬ TakenOk rs ts→∀ H',Same H H'→E (.ref (cl 7)) none H')∧(TakenOk rs ts→∀ ds H',DaysOf rs ds→Same H H'→Q (.bl (decide (∀ p∈strOf ds,0≤slackF rs os tm ts p.1 p.2))) H'))
end L2
namespace K07
open PySem L2
abbrev s_slacks_of : Stmt:=top 32
abbrev n_slacks_of : List Str:=["lots","outs","term","taken","slacks","lot","units"]
abbrev p_slacks_of : List Str:=["lots","outs","term","taken"]
theorem sc_slacks_of : FnScope n_slacks_of p_slacks_of (defScope s_slacks_of):=⟨rfl,rfl,rfl,by decide +kernel,rfl,by decide +kernel,by decide +kernel⟩
abbrev s_dealable : Stmt:=top 34
abbrev n_dealable : List Str:=["lots","outs","term","taken","goods","gone","counts"]
abbrev p_dealable : List Str:=["lots","outs","term","taken"]
theorem sc_dealable : FnScope n_dealable p_dealable (defScope s_dealable):=⟨rfl,rfl,rfl,by decide +kernel,rfl,by decide +kernel,by decide +kernel⟩
section
variable {P : Program} {w : World} {K : PySem.W.Frag} {mg : Str→Option Value} {base : Heap} {f : Addr} {fd : FuncData} {cl : Nat→Addr} (T : Txt K mg cl) (B : Bn mg)
include T B
theorem ok_slacks_of (G_against_each : Cal P w K mg base CX0 3 "against_each" p_against_each spAgainstEach) (G_lessened : Cal P w K mg base CX0 1 "lessened" p_lessened spLessened) (F : Fun K "slacks_of" "slacks_of" s_slacks_of f fd) : FnOk P w K mg base CX0 4 f fd p_slacks_of spSlacksOf:=by
  refine F.ok sc_slacks_of (fun vs H Q E h=>?_) (fun cdv A outer s H vs Q E hr h=>?_)
  · obtain ⟨a,b,t,tm,rs,os,ts,rfl,_⟩:=h; rfl
  obtain ⟨a,b,t,tm,rs,os,ts,rfl,hR,h3,rn,hO,h2,on,hT,hl,q⟩:=h
  refine ⟨_,(pss_cons (ps_set (i:=4) sc_slacks_of.nd rfl (Or.inl rfl) (pe_cal G_against_each hr rfl pass0 (pa_c (pv 0) (pa_c (pv 1) (pa_c (pv 2) pa_nil)))))
    (pss_cons (ps_for PassesOwn.never rfl (pi_zip rfl B.zip (pa_c (pv 0) (pa_c (pv 3) pa_nil))) (pg_tup rfl (pgs_cons (pg_name (i:=5) sc_slacks_of.nd rfl (Or.inl rfl)) (pgs_cons (pg_name (i:=6) sc_slacks_of.nd rfl (Or.inl rfl)) pgs_nil))) (pss_one (ps_set (i:=4) sc_slacks_of.nd rfl (Or.inl rfl) (pe_cal G_lessened hr rfl pass0 (pa_c (pv 4) (pa_c (pe_ix ix_tup (pv 5) pe_int (fun _ _=>rfl)) (pa_c (pv 6) pa_nil)))))))
    (pss_one (ps_ret (pv 4))))),?_⟩
  refine ⟨_,rfl,_,rfl,_,rfl,a,b,tm,rs,os,rfl,hR,h3,rn,hO,h2,on,fun d ds H1 hd hds s1 S1=>?_⟩
  have ld : ds.length≤31:=Nat.le_trans hds.2.2 rn
  have sn:=str_len ld
  have nd:=str_nodup hds.1
  obtain ⟨xs,ex,exl,exi⟩:=(hR.same s1).get
  have hb:=s1 _ _ hT
  refine ⟨_,rfl,_,rfl,true,true,a,t,xs,_,rfl,SqL.of ex,SqL.of hb,?_⟩
  refine for_zip (xs:=xs) (ys:=ts.map V.int) (b1:=true) (b2:=true) (fun i σ H3=>∃ d4 o5 o6,σ=[some (.ref a),some (.ref b),some (.int tm),some (.ref t),some (.ref d4),o5,o6]∧H d4=none∧Same H1 H3∧SlAt H3 d4 (strOf ds) (slackTo rs ts (goingOf os tm) i)) ⟨d,_,_,rfl,hd,Same.refl H1,S1⟩ ?_ ?_ ?_
  · rintro i σ H3 hi ⟨d4,o5,o6,rfl,_,sm,_⟩
    exact ⟨SqL.of (sm _ _ ex),SqL.of (sm _ _ hb)⟩
  · rintro i x y σ H3 p e1 e2 ⟨d4,o5,o6,rfl,hd4,sm,S4⟩ hp
    obtain ⟨pr,r,rfl,er,hpr⟩:=exi i x e1
    obtain ⟨v,rfl,ev⟩:=ints_at e2
    obtain ⟨dd,cc,u,rfl⟩:=len3 (h3 r (List.mem_of_getElem? er))
    have sN:=same_new hp (.tup [.ref pr,.int v])
    have sp:=sm.trans sN
    refine ⟨p,_,rfl,SqT.of upd_same,rfl,_,_,rfl,_,_,rfl,rfl,?_⟩
    refine ⟨_,rfl,_,rfl,pr,_,_,.int dd,rfl,rfl,SqT.of (sp _ _ hpr),rfl,_,rfl,d4,dd,v,strOf ds,_,rfl,S4.same sN,nd,by omega,fun d5 H5 hd5 s5 S5=>?_⟩
    refine ⟨d5,_,_,rfl,(s1.trans sp).free hd5,sp.trans s5,?_⟩
    have c0 : colAt rs 0 (i : Int)=dd:=by unfold colAt; rw [row_at er]; rfl
    have tv : ts.getD i 0=v:=by rw [List.getD_eq_getElem?_getD,ev]; rfl
    show SlAt H5 d5 (strOf ds) (lessF (slackTo rs ts (goingOf os tm) i) (colAt rs 0 (i : Int)) (ts.getD i 0))
    rw [c0,tv]
    exact S5
  · rintro σ H3 ⟨d4,o5,o6,rfl,hd4,sm,S4⟩
    rw [List.length_map,show min xs.length ts.length=rs.length by omega] at S4
    exact ⟨_,rfl,q d4 ds H3 hd4 hds (s1.trans sm) S4⟩
theorem ok_dealable (G_checked_both : Cal P w K mg base (CXE P w) 4 "checked_both" p_checked_both (spBoth cl)) (G_checked_taken : Cal P w K mg base (CXE P w) 2 "checked_taken" p_checked_taken (spChkTaken (cl 7))) (G_slacks_of : Cal P w K mg base CX0 4 "slacks_of" p_slacks_of spSlacksOf) (G_none_lacks : Cal P w K mg base CX0 1 "none_lacks" p_none_lacks spNoneLacks) (F : Fun K "dealable" "dealable" s_dealable f fd) : FnOk P w K mg base (CXE P w) 5 f fd p_dealable (spDealable cl):=by
  refine F.okE sc_dealable (fun vs H Q E h=>?_) (fun cdv A outer s H vs Q E hr h=>?_)
  · obtain ⟨a,b,t,tm,rs,os,ts,rfl,_⟩:=h; rfl
  obtain ⟨a,b,t,tm,rs,os,ts,rfl,hR,h3,hO,h2,hT,tn,q1,q2⟩:=h
  refine ⟨_,(pss_cons (ps_asg (pe_cal (E:=E) G_checked_both hr rfl (passE fun _ _ z=>z) (pa_c (pv 0) (pa_c (pv 1) (pa_c (pv 2) pa_nil)))) (pg_tup rfl (pgs_cons (pg_name (i:=4) sc_dealable.nd rfl (Or.inl rfl)) (pgs_cons (pg_name (i:=5) sc_dealable.nd rfl (Or.inl rfl)) pgs_nil))))
    (pss_cons (ps_set (i:=6) sc_dealable.nd rfl (Or.inl rfl) (pe_cal (E:=E) G_checked_taken hr rfl (passE fun _ _ z=>z) (pa_c (pv 4) (pa_c (pv 3) pa_nil))))
    (pss_one (ps_ret (pe_cal G_none_lacks hr rfl pass0 (pa_c (pe_cal G_slacks_of hr rfl pass0 (pa_c (pv 4) (pa_c (pv 5) (pa_c (pv 2) (pa_c (pv 6) pa_nil))))) pa_nil)))))),?_⟩
  refine ⟨_,rfl,_,rfl,_,rfl,a,b,tm,rs,os,rfl,hR,h3,hO,h2,q1,fun bn tp g o H1 ht hg ho s1 R1 O1 e1=>?_⟩
  obtain ⟨rn,on,_,_⟩:=both_ok bn
  have rn' : rs.length≤31:=by omega
  obtain ⟨q3,q4⟩:=q2 bn
  refine ⟨tp,_,rfl,SqT.of e1,rfl,_,_,rfl,_,_,rfl,rfl,?_⟩
  refine ⟨_,rfl,_,rfl,g,t,rs,ts,rfl,R1,h3,s1 _ _ hT,by omega,tn,fun z H' s'=>q3 z H' (s1.trans s'),fun tk l H2 hl s2 I2=>?_⟩
  have s12:=s1.trans s2
  refine ⟨_,rfl,_,rfl,_,rfl,_,rfl,g,o,l,tm,rs,os,ts,rfl,R1.same s2,h3,rn',O1.same s2,h2,by omega,I2,tk.1,fun d ds H3 hd hds s3 S3=>?_⟩
  have sn:=str_len (Nat.le_trans hds.2.2 rn')
  exact ⟨d,_,_,rfl,S3,by omega,fun H4 s4=>q4 tk ds H4 hds ((s12.trans s3).trans s4)⟩
end
end K07
namespace K07
open PySem L2
abbrev s_same : Stmt:=top 51
abbrev n_same : List Str:=["_law_found","_law_due"]
abbrev p_same : List Str:=["_law_found","_law_due"]
theorem sc_same : FnScope n_same p_same (defScope s_same):=⟨rfl,rfl,rfl,by decide +kernel,rfl,by decide +kernel,by decide +kernel⟩
def spSame : Nat→Sp
  | 0=>fun _ _ _ _=>False
  | n + 1=>fun vs H Q _=>∃ v u,vs=[v,u]∧EqD H n v u∧∀ H',Same H H'→Q (.bl true) H'
section
variable {P : Program} {w : World} {K : PySem.W.Frag} {mg : Str→Option Value} {base : Heap} {f : Addr} {fd : FuncData}
theorem nd2 : (["_law_one","_law_other"] : List Str).Nodup:=by decide +kernel
abbrev g2 (K : PySem.W.Frag) : TG:=gTup K 2 (gCons (gName 0) (gCons (gName 1) gNil))
theorem same_comp {m : Nat} {H2 : Hp} {a b : Addr} {xs ys : List V} {bb : Bool} {Q : VK} (hl : xs.length=ys.length) (hs : xs.length≤1000) (hx : ∀ (i : Nat) x y,xs[i]? = some x→ys[i]? = some y→EqD H2 m x y) (hb : ∀ H',Same H2 H'→SqB K H' bb a xs∧SqB K H' bb b ys)
    (q : ∀ H',Same H2 H'→Q (.bl true) H') : tComp [none,none] (iZip K (tCons (tVar 0) (tCons (tVar 1) tNil))) (g2 K) tIf0 (tCall (spSame (m + 1)) [] E0 (tCons (tVar 0) (tCons (tVar 1) tNil))) [some (.ref a),some (.ref b)] H2
      (fun x H3=>∃ (p : Addr) (bs : List Bool),[x]=[V.ref p]∧SqL K H3 p (bs.map V.bl)∧Q (.bl (bs.all id)) H3):=by
  obtain ⟨q1,q2⟩:=hb H2 (Same.refl H2)
  refine ⟨_,rfl,_,rfl,bb,bb,a,b,xs,ys,rfl,q1,q2,fun D hD=>⟨fun i m' H4=>i + m' = xs.length∧Same H2 H4∧H4 D=some (.lst (List.replicate i (.bl true))),⟨xs.length,by omega,same_new hD _,upd_same⟩,?_⟩⟩
  rintro i m' H4 ⟨him,sm,hD4⟩
  obtain ⟨r1,r2⟩:=hb H4 sm
  by_cases hi : i < xs.length
  · refine .inr ⟨⟨xs,ys,xs[i],ys[i]'(by omega),r1,r2,List.getElem?_eq_getElem hi,List.getElem?_eq_getElem (by omega)⟩,?_⟩
    rintro x H' ⟨p,x',y',rfl,hp,rfl,hxy⟩
    obtain ⟨e1,e2⟩:=hxy xs ys r1 r2
    refine ⟨p,_,rfl,SqT.of upd_same,rfl,_,_,rfl,_,_,rfl,rfl,?_,?_⟩
    · intro k v e
      match k,e with
      | 0,e=>cases e
      | 1,e=>cases e
      | k + 2,e=>cases e
    · refine ⟨_,rfl,_,rfl,x',y',rfl,(hx i x' y' e1 e2).same (sm.trans (same_new hp _)),fun H5 s5=>?_⟩
      have hD5:=s5 _ _ (show L2.upd H4 p (.tup [x',y']) D=some (.lst (List.replicate i (.bl true))) by rw [upd_ne (ne_of_none hD4 hp)]; exact hD4)
      refine ⟨_,hD5,small1000 (by rw [List.length_replicate]; omega),m' - 1,by omega,by omega,fun c o e=>?_,?_⟩
      · rw [upd_ne (ne_of_none e hD)]
        exact s5 _ _ (same_new hp _ _ _ (sm _ _ e))
      · rw [upd_same,List.replicate_succ']
  · refine .inl ⟨⟨xs,ys,r1,r2,.inl (by omega)⟩,D,List.replicate i true,rfl,SqL.of (by rw [List.map_replicate]; exact hD4),?_⟩
    have e : (List.replicate i true).all id=true:=List.all_eq_true.mpr fun b hb=>by rw [List.eq_of_mem_replicate hb]; rfl
    rw [e]
    exact q H4 sm
theorem ok_same1 {n : Nat} (F : Fun K "_law_same" "_law_same" s_same f fd) (B : Bn mg) (G : FnOk P w K mg base CX0 n f fd n_same (spSame n)) (b1 : Binds K fd n_same []) (k1 : PySem.W.keepIn K (.ref f)=true) (m1 : mg "_law_same" = some (.ref f)) :
    FnOk P w K mg base CX0 (n + 1) f fd n_same (spSame (n + 1)):=by
  refine F.ok sc_same (fun vs H Q E h=>?_) (fun cdv A outer s H vs Q E hr h=>?_)
  · obtain ⟨v,u,rfl,_⟩:=h; rfl
  obtain ⟨v,u,rfl,heq,q⟩:=h
  refine ⟨_,pss_cons (ps_if (pt_cmpR op_isN (pv 1) pe_non (nomark _)) (pss_one (ps_ret (pe_cmpR op_isN (pv 0) pe_non (nomark _)))) pss_nil)
    (pss_cons (ps_if (PW.pt (pw_or (pt_truth (pe_callB call_isi rfl B.isi PyProof.Rows.boot_isinstance (pa_c (pv 1) (pa_c (pe_bltn rfl B.bool PyProof.Rows.boot_bool (v:=.ty "bool") rfl) pa_nil))) (fun _=>rfl)) (pw_or1 (pt_truth (pe_callB call_isi rfl B.isi PyProof.Rows.boot_isinstance (pa_c (pv 0) (pa_c (pe_bltn rfl B.bool PyProof.Rows.boot_bool (v:=.ty "bool") rfl) pa_nil))) (fun _=>rfl)))))
      (pss_one (ps_ret (pe_and (pe_callB call_isi rfl B.isi PyProof.Rows.boot_isinstance (pa_c (pv 1) (pa_c (pe_bltn rfl B.bool PyProof.Rows.boot_bool (v:=.ty "bool") rfl) pa_nil))) (pe_and (pe_callB call_isi rfl B.isi PyProof.Rows.boot_isinstance (pa_c (pv 0) (pa_c (pe_bltn rfl B.bool PyProof.Rows.boot_bool (v:=.ty "bool") rfl) pa_nil))) (pe_one (pe_cmpR op_eq (pv 0) (pv 1) (nomark _))))))) pss_nil)
    (pss_cons (ps_if (pt_truth (pe_callB call_isT rfl B.isi PyProof.Rows.boot_isinstance (pa_c (pv 1) (pa_c (pe_tup (pa_c (pe_bltn rfl B.int PyProof.Rows.boot_int (v:=.ty "int") rfl) (pa_c (pe_bltn rfl B.str PyProof.Rows.boot_str (v:=.ty "str") rfl) pa_nil))) pa_nil))) (fun _=>rfl))
      (pss_one (ps_ret (pe_and (pe_cmpR op_eq (pe_callB call_isi rfl B.isi PyProof.Rows.boot_isinstance (pa_c (pv 0) (pa_c (pe_bltn rfl B.int PyProof.Rows.boot_int (v:=.ty "int") rfl) pa_nil))) (pe_callB call_isi rfl B.isi PyProof.Rows.boot_isinstance (pa_c (pv 1) (pa_c (pe_bltn rfl B.int PyProof.Rows.boot_int (v:=.ty "int") rfl) pa_nil))) (nomark _))
        (pe_and (pe_callB call_isT rfl B.isi PyProof.Rows.boot_isinstance (pa_c (pv 0) (pa_c (pe_tup (pa_c (pe_bltn rfl B.int PyProof.Rows.boot_int (v:=.ty "int") rfl) (pa_c (pe_bltn rfl B.str PyProof.Rows.boot_str (v:=.ty "str") rfl) pa_nil))) pa_nil))) (pe_one (pe_cmpR op_eq (pv 0) (pv 1) (nomark _))))))) pss_nil)
    (pss_cons (ps_if (PW.pt (pw_or (pt_cmpR op_ne (pe_callB call_isi rfl B.isi PyProof.Rows.boot_isinstance (pa_c (pv 0) (pa_c (pe_bltn rfl B.list PyProof.Rows.boot_list (v:=.ty "list") rfl) pa_nil))) (pe_callB call_isi rfl B.isi PyProof.Rows.boot_isinstance (pa_c (pv 1) (pa_c (pe_bltn rfl B.list PyProof.Rows.boot_list (v:=.ty "list") rfl) pa_nil))) (nomark _))
        (pw_or1 (pt_cmpR op_ne (pe_callB call_isi rfl B.isi PyProof.Rows.boot_isinstance (pa_c (pv 0) (pa_c (pe_bltn rfl B.tuple PyProof.Rows.boot_tuple (v:=.ty "tuple") rfl) pa_nil))) (pe_callB call_isi rfl B.isi PyProof.Rows.boot_isinstance (pa_c (pv 1) (pa_c (pe_bltn rfl B.tuple PyProof.Rows.boot_tuple (v:=.ty "tuple") rfl) pa_nil))) (nomark _)))))
      (pss_one (ps_ret pe_bl)) pss_nil)
    (pss_cons (ps_if (pt_cmpR op_ne (pe_callB call_len_seq rfl B.len PySem.boot_len (pa_c (pv 0) pa_nil)) (pe_callB call_len_seq rfl B.len PySem.boot_len (pa_c (pv 1) pa_nil)) (nomark _)) (pss_one (ps_ret pe_bl)) pss_nil)
    (pss_one (ps_ret (pe_callB (call_allB rfl) rfl B.all PyProof.Rows.boot_all (pa_c (pe_comp (N':=["_law_one","_law_other"]) (ix:=[none,none]) (g:=g2 K) (ti:=tIf0) (te:=tCall (spSame n) [] E0 (tCons (tVar 0) (tCons (tVar 1) tNil))) rfl (comp_scope (N:=n_same) (D:=defScope s_same) (by decide +kernel)) (pi_zip rfl B.zip (pa_c (pv 0) (pa_c (pv 1) pa_nil)))
      (fun C s H fp=>pg_tup rfl (pgs_cons (pg_name (i:=0) nd2 rfl (Or.inl rfl)) (pgs_cons (pg_name (i:=1) nd2 rfl (Or.inl rfl)) pgs_nil))) (fun _ _ _ _=>pifs_nil) (fun C s H fp=>pe_call G hr rfl m1 k1 b1 .nil pass0 (pa_c (pv 0) (pa_c (pv 1) pa_nil)))) pa_nil)))))))),?_⟩
  have sN : ∀ {p : Addr} {o : HO},H p=none→Same H (L2.upd H p o):=fun hp=>same_new hp _
  cases heq with
  | flat hf=>
    cases v with
    | non=>
      refine ⟨_,rfl,rfl,_,rfl,?_⟩
      refine iteT ?_
      exact ⟨_,rfl,rfl,q H (Same.refl H)⟩
    | bl b=>
      refine ⟨_,rfl,rfl,_,rfl,?_⟩
      refine iteF ?_
      refine ⟨_,rfl,_,_,_,_,true,rfl,rfl,TyOf.bl b,by kernel_rfl,_,rfl,?_⟩
      refine iteT (iteT ?_)
      refine ⟨_,rfl,_,_,_,_,true,rfl,rfl,TyOf.bl b,by kernel_rfl,_,rfl,?_⟩
      refine iteT ⟨_,rfl,_,_,_,_,true,rfl,rfl,TyOf.bl b,by kernel_rfl,_,rfl,?_⟩
      refine iteT ⟨_,rfl,_,rfl,rfl,?_⟩
      rw [decide_eq_true (rfl : V.bl b=V.bl b)]
      exact q H (Same.refl H)
    | int i=>
      refine ⟨_,rfl,rfl,_,rfl,?_⟩
      refine iteF ?_
      refine ⟨_,rfl,_,_,_,_,false,rfl,rfl,TyOf.int i,by kernel_rfl,_,rfl,?_⟩
      refine iteF ⟨_,rfl,_,_,_,_,false,rfl,rfl,TyOf.int i,by kernel_rfl,_,rfl,?_⟩
      refine iteF ?_
      refine ⟨_,rfl,by show 2≤sizeLine; decide,fun p hp=>⟨_,p,_,_,[.type "int",.type "str"],true,rfl,upd_same,rfl,TyOf.int i,by kernel_rfl,_,rfl,?_⟩⟩
      refine iteT ?_
      refine ⟨_,rfl,_,_,_,_,true,rfl,rfl,TyOf.int i,by kernel_rfl,_,rfl,_,_,_,_,true,rfl,rfl,TyOf.int i,by kernel_rfl,rfl,_,rfl,?_⟩
      refine iteT ⟨_,rfl,by show 2≤sizeLine; decide,fun p2 hp2=>⟨_,p2,_,_,[.type "int",.type "str"],true,rfl,upd_same,rfl,TyOf.int i,by kernel_rfl,_,rfl,?_⟩⟩
      refine iteT ⟨_,rfl,_,rfl,rfl,?_⟩
      rw [decide_eq_true (rfl : V.int i=V.int i)]
      exact q _ ((sN hp).trans (same_new hp2 _))
    | str x=>
      refine ⟨_,rfl,rfl,_,rfl,?_⟩
      refine iteF ?_
      refine ⟨_,rfl,_,_,_,_,false,rfl,rfl,TyOf.str x,by kernel_rfl,_,rfl,?_⟩
      refine iteF ⟨_,rfl,_,_,_,_,false,rfl,rfl,TyOf.str x,by kernel_rfl,_,rfl,?_⟩
      refine iteF ?_
      refine ⟨_,rfl,by show 2≤sizeLine; decide,fun p hp=>⟨_,p,_,_,[.type "int",.type "str"],true,rfl,upd_same,rfl,TyOf.str x,by kernel_rfl,_,rfl,?_⟩⟩
      refine iteT ?_
      refine ⟨_,rfl,_,_,_,_,false,rfl,rfl,TyOf.str x,by kernel_rfl,_,rfl,_,_,_,_,false,rfl,rfl,TyOf.str x,by kernel_rfl,rfl,_,rfl,?_⟩
      refine iteT ⟨_,rfl,by show 2≤sizeLine; decide,fun p2 hp2=>⟨_,p2,_,_,[.type "int",.type "str"],true,rfl,upd_same,rfl,TyOf.str x,by kernel_rfl,_,rfl,?_⟩⟩
      refine iteT ⟨_,rfl,_,rfl,rfl,?_⟩
      rw [decide_eq_true (rfl : V.str x=V.str x)]
      exact q _ ((sN hp).trans (same_new hp2 _))
    | _=>exact absurd (show false=true from hf) Bool.false_ne_true
  | @tup m a b xs ys h1 h2 hl hs hx=>
    refine ⟨_,rfl,rfl,_,rfl,?_⟩
    refine iteF ?_
    refine ⟨_,rfl,_,_,_,_,false,rfl,rfl,TyOf.tup h2,by kernel_rfl,_,rfl,?_⟩
    refine iteF ⟨_,rfl,_,_,_,_,false,rfl,rfl,TyOf.tup h1,by kernel_rfl,_,rfl,?_⟩
    refine iteF ?_
    refine ⟨_,rfl,by show 2≤sizeLine; decide,fun p hp=>?_⟩
    have g1:=sN (o:=.tup [.ty "int",.ty "str"]) hp _ _ h1
    have g2:=sN (o:=.tup [.ty "int",.ty "str"]) hp _ _ h2
    refine ⟨_,p,_,_,[.type "int",.type "str"],false,rfl,upd_same,rfl,TyOf.tup g2,by kernel_rfl,_,rfl,?_⟩
    refine iteF ?_
    refine ⟨_,rfl,_,_,_,_,false,rfl,rfl,TyOf.tup g1,by kernel_rfl,_,rfl,_,_,_,_,false,rfl,rfl,TyOf.tup g2,by kernel_rfl,rfl,_,rfl,?_⟩
    refine iteF ⟨_,rfl,_,_,_,_,true,rfl,rfl,TyOf.tup g1,by kernel_rfl,_,rfl,_,_,_,_,true,rfl,rfl,TyOf.tup g2,by kernel_rfl,rfl,_,rfl,?_⟩
    refine iteF ?_
    refine ⟨_,rfl,a,_,rfl,.inr (SqT.of g1),_,rfl,b,_,rfl,.inr (SqT.of g2),rfl,_,rfl,?_⟩
    refine iteNS (by rw [hl]) ?_
    exact same_comp (bb:=false) hl hs (fun i x y e1 e2=>(hx i x y e1 e2).same (sN hp)) (fun H' sm=>⟨SqT.of (sm _ _ g1),SqT.of (sm _ _ g2)⟩) fun H' sm=>q H' ((sN hp).trans sm)
  | @lst m a b xs ys h1 h2 hl hs hx=>
    refine ⟨_,rfl,rfl,_,rfl,?_⟩
    refine iteF ?_
    refine ⟨_,rfl,_,_,_,_,false,rfl,rfl,TyOf.lst h2,by kernel_rfl,_,rfl,?_⟩
    refine iteF ⟨_,rfl,_,_,_,_,false,rfl,rfl,TyOf.lst h1,by kernel_rfl,_,rfl,?_⟩
    refine iteF ?_
    refine ⟨_,rfl,by show 2≤sizeLine; decide,fun p hp=>?_⟩
    have g1:=sN (o:=.tup [.ty "int",.ty "str"]) hp _ _ h1
    have g2:=sN (o:=.tup [.ty "int",.ty "str"]) hp _ _ h2
    refine ⟨_,p,_,_,[.type "int",.type "str"],false,rfl,upd_same,rfl,TyOf.lst g2,by kernel_rfl,_,rfl,?_⟩
    refine iteF ?_
    refine ⟨_,rfl,_,_,_,_,true,rfl,rfl,TyOf.lst g1,by kernel_rfl,_,rfl,_,_,_,_,true,rfl,rfl,TyOf.lst g2,by kernel_rfl,rfl,_,rfl,?_⟩
    refine iteF ⟨_,rfl,_,_,_,_,false,rfl,rfl,TyOf.lst g1,by kernel_rfl,_,rfl,_,_,_,_,false,rfl,rfl,TyOf.lst g2,by kernel_rfl,rfl,_,rfl,?_⟩
    refine iteF ?_
    refine ⟨_,rfl,a,_,rfl,.inl (SqL.of g1),_,rfl,b,_,rfl,.inl (SqL.of g2),rfl,_,rfl,?_⟩
    refine iteNS (by rw [hl]) ?_
    exact same_comp (bb:=true) hl hs (fun i x y e1 e2=>(hx i x y e1 e2).same (sN hp)) (fun H' sm=>⟨SqL.of (sm _ _ g1),SqL.of (sm _ _ g2)⟩) fun H' sm=>q H' ((sN hp).trans sm)
theorem ok_same (F : Fun K "_law_same" "_law_same" s_same f fd) (B : Bn mg) (b1 : Binds K fd n_same []) (k1 : PySem.W.keepIn K (.ref f)=true) (m1 : mg "_law_same" = some (.ref f)) : ∀ n : Nat,FnOk P w K mg base CX0 n f fd n_same (spSame n)
  | 0=>⟨fun _ _ _ _ h=>False.elim h,fun _ _ _ _ _ _ _ _ _ _ _ _ _ h=>False.elim h⟩
  | n + 1=>ok_same1 F B (ok_same F B b1 k1 m1 n) b1 k1 m1
end
end K07
namespace L2
open PySem PySem.Spec PySem.W PyProof.Rows
def BMain (mg : Str→Option Value) (base : Heap) : Prop:=∃ bm ob,mg "__builtins__" = some (.ref bm)∧bm≠builtinsNs∧base.get? bm=some ob∧ob.cls = .type "module" ∧ ob.dict=some builtinsNs∧ob.data = .plain
def without (H : Hp) (a c : Addr) : Hp:=fun b=>if b=a∨b=c then none else H b
theorem without_none {H : Hp} {a c b : Addr} (h : H b=none) : without H a c b=none:=by
  unfold without
  split
  · rfl
  · exact h
theorem without_some {H : Hp} {a c b : Addr} {o : HO} (h : without H a c b=some o) : b≠a∧b≠c∧H b=some o:=by
  unfold without at h
  split at h
  · cases h
  · rename_i n
    exact ⟨fun z=>n (.inl z),fun z=>n (.inr z),h⟩
theorem without_ne {H : Hp} {a c b : Addr} (h1 : b≠a) (h2 : b≠c) : without H a c b=H b:=by
  unfold without
  rw [if_neg (fun z=>z.elim h1 h2)]
theorem without_l {H : Hp} {a c : Addr} : without H a c a=none:=by unfold without; rw [if_pos (.inl rfl)]
theorem without_r {H : Hp} {a c : Addr} : without H a c c=none:=by unfold without; rw [if_pos (.inr rfl)]
def IsCod (q : Str) (o : Obj) : Prop:=∃ vs t,o.data = .fields vs∧vs[1]? = some (.str q t)
section
variable {X : Cx} {pins : List (Addr×Obj)} {σ : St} {H : Hp} {s : Shared}
theorem Inv.fsFree (I : Inv X pins σ H s) {b : Addr} (hb : b∈X.fs) : H b=none:=by
  obtain ⟨_,o,ho,_⟩:=I.ok.funs.mem hb
  exact I.base.free b o ho (I.ok.frf b hb) fun z=>I.ok.exfs b z hb
theorem Inv.notOld (I : Inv X pins σ H s) (hex : X.ex=[]) {b : Addr} {u : HO} (e : H b=some u) : ∀ o,X.s₀.heap.get? b=some o→X.H₀ b≠none:=fun o ho n=>by
  have:=I.base.free b o ho n (by rw [hex]; simp)
  rw [e] at this; cases this
theorem lam_make {A : Around} {E : Value→Shared→Prop} {q : Str} {params : Arguments} {body : Expr} {scope : Scope} {pos : Pos} {c P : Addr} {clos : List (Str×Addr)} {Q : Value→Shared→Prop} (I : Inv X pins σ H s) (hex : X.ex=[])
    (hP : H P=some (.cod q pos)) (hcode : X.env.code = .ref c) (C : codeHdIn X.K c P=true) (B : BMain X.mg X.base) (hcl : closureFor scope X.env=pure clos) (hdef : defaultsOf params X.env=([],[])) (hq : X.env.qual ++ "<lambda>" = q)
    (h : ∀ f c' ctv co s',Inv X ((f,kla_obj "<lambda>" q params body scope clos ((X.mg "__name__").getD .none) c' ctv) :: (P,tabObj #[rawInt pos.line,rawInt pos.col,.ref c']) :: (c',co) :: pins) σ (without H P c') s'→IsCod q co→P≠c'→H f=none→(H c' = none∨H c' = some (.own P)) →
      (∀ o,X.s₀.heap.get? c' = some o→X.H₀ c'≠none)→(∀ p∈X.pn ++ pins,p.1≠P∧p.1≠c')→Q (.ref f) s') :
    wpAny (model X.prog X.w) A (eval (.Lambda params body scope pos) X.env) Q E s:=by
  have Cd : CodeHd s.heap c P:=codeHd_of_K I.kIn C
  have hgs:=I.mod.glob.keeps I.bk
  have nP : ∀ b,H b=none→b≠P:=fun b n z=>by rw [z,hP] at n; cases n
  obtain ⟨bm,ob,b1,b2,b3,b4,b5,b6⟩:=B
  have b3':=I.bs _ _ b3
  have hgP : mainGlobals≠P:=by
    obtain ⟨o,es,ep,e,_⟩:=I.mod.glob
    exact nP _ (I.bs _ _ e).2
  have hbG : bm≠mainGlobals:=fun z=>by
    obtain ⟨o,es,ep,e,hd,_⟩:=I.mod.glob
    rw [z,e] at b3; cases b3; rw [hd] at b6; cases b6
  have BA : s.heap.BuiltinsAt X.mg P:=⟨bm,ob,b1,b2,hbG,nP _ b3'.2,b3'.1,b4,b5,b6⟩
  have Lne : X.env.locals≠P:=nP _ I.free
  refine kla_eval hdef ?_
  rw [hq]
  have fin : ∀ (h' : Heap) (tk : Nat) (f c' : Addr) (ctv : Value),Heap.ExtBut P s.heap h'→s.heap.objs.size≤h'.objs.size→f=h'.objs.size→h'.CodeRec (.ref c') q→h'.get? P=some (tabObj #[rawInt pos.line,rawInt pos.col,.ref c'])→P≠c'→
      (H c' = some (.own P)∨s.heap.objs.size≤c')→Q (.ref f) { s with heap:=h'.push (kla_obj "<lambda>" q params body scope clos ((X.mg "__name__").getD .none) c' ctv),toks:=tk }:=by
    intro h' tk f c' ctv hx hsz ef hrec hT hne hc
    subst ef
    have hcn : H c' = none∨H c' = some (.own P):=by
      rcases hc with z | z
      · exact .inr z
      · exact .inl (I.hok.fresh z)
    have kp : ∀ b o,b≠P→s.heap.get? b=some o→(h'.push (kla_obj "<lambda>" q params body scope clos ((X.mg "__name__").getD .none) c' ctv)).get? b=some o:=fun b o n e=>Heap.get?_push_of_some _ (hx b o n e)
    have ncc : ∀ b u,H b=some u→u≠.own P→b≠c':=fun b u e n z=>by
      rw [z] at e
      rcases hcn with y | y
      · rw [y] at e; cases e
      · rw [y] at e; cases e; exact n rfl
    have npp : ∀ b u,H b=some u→u≠.cod q pos→b≠P:=fun b u e n z=>by
      rw [z,hP] at e; cases e; exact n rfl
    obtain ⟨c₂,co,vs,t,e2,hoc,hd,hv⟩:=hrec
    cases e2
    have J : Inv X pins σ (without H P c') { s with heap:=h'.push (kla_obj "<lambda>" q params body scope clos ((X.mg "__name__").getD .none) c' ctv),toks:=tk }:=by
      refine I.step (g':=s.gens) (d':=s.drawn) (ch:=[]) (fun _ z=>nomatch z) (fun b o _ _ _ e n=>kp b o (nP b n) e) (fun b o _ _ _ e n=>⟨o.slots,kp b o (nP b n) e⟩) (fun b o _ _ n=>without_none n) (fun b o _ e=>?_)
        (fun b xs e=>by rw [without_ne (npp b _ e (by intro z; cases z)) (ncc b _ e (by intro z; cases z))]; exact e) (fun b o u e=>by rw [without_ne (npp b _ e (by intro z; cases z)) (ncc b _ e (by intro z; cases z))]; exact e)
        (fun b ps e=>⟨#[],by rw [without_ne (npp b _ e (by intro z; cases z)) (ncc b _ e (by intro z; cases z)),e]; simp⟩) (fun m hm=>?_) (fun b u e=>?_) I.bare
      · by_cases hb : b=P
        · exact ⟨_,by rw [hb]; exact Heap.get?_push_of_some _ hT⟩
        · exact ⟨o,kp b o hb e⟩
      · obtain ⟨o,es,ep,ho,r⟩:=hm
        exact ⟨o,es,ep,kp _ o Lne ho,r⟩
      · obtain ⟨n1,n2,e'⟩:=without_some e
        refine (I.hok b u e').stay (fun d v hd q=>kp d v ?_ q) (fun d z=>?_) fun d xs z=>?_
        · rcases hd with z | z
          · rw [z]; exact n1
          · exact npp d _ z (by intro y; cases y)
        · rw [without_ne (npp d _ z (by intro y; cases y)) (ncc d _ z (by intro y; cases y; exact n1 rfl))]; exact z
        · rw [without_ne (npp d _ z (by intro y; cases y)) (ncc d _ z (by intro y; cases y))]; exact z
    have hf : H h'.objs.size=none:=I.hok.fresh hsz
    have old : ∀ b u,H b=some u→b≠X.env.locals∧b ∉ X.fs:=fun b u e=>⟨fun z=>(by rw [z,I.free] at e; cases e),fun z=>(by rw [I.fsFree z] at e; cases e)⟩
    have new : ∀ b,s.heap.objs.size≤b→b≠X.env.locals∧b ∉ X.fs:=fun b hb=>⟨Nat.ne_of_gt (Nat.lt_of_lt_of_le I.lt hb),I.nofs hb⟩
    have hc' : c'≠X.env.locals∧c' ∉ X.fs:=by
      rcases hc with z | z
      · exact old _ _ z
      · exact new _ z
    refine h h'.objs.size c' ctv co _ (J.pins_of fun p hp=>?_) ⟨vs,t,hd,hv⟩ hne hf hcn (fun o ho=>?_) fun p hp=>?_
    · rcases List.mem_cons.mp hp with rfl | hp
      · exact ⟨Heap.get?_push_size _ rfl,without_none hf,(new _ hsz).1,(new _ hsz).2,fun v z=>(by cases z)⟩
      · rcases List.mem_cons.mp hp with rfl | hp
        · exact ⟨Heap.get?_push_of_some _ hT,without_l,(old _ _ hP).1,(old _ _ hP).2,fun v z=>(by cases z)⟩
        · rcases List.mem_cons.mp hp with rfl | hp
          · exact ⟨Heap.get?_push_of_some _ hoc,without_r,hc'.1,hc'.2,fun v z=>(by rw [hd] at z; cases z)⟩
          · exact J.pin p (List.mem_append_right _ hp)
    · rcases hc with z | z
      · exact I.notOld hex z o ho
      · exact absurd (Nat.lt_of_lt_of_le (Heap.lt_size ho) (Nat.le_trans I.sz z)) (Nat.lt_irrefl _)
    · obtain ⟨e,n,_⟩:=I.pin p hp
      refine ⟨nP _ n,fun z=>?_⟩
      rcases hc with y | y
      · rw [z,y] at n; cases n
      · exact absurd (Nat.lt_of_lt_of_le (Heap.lt_size e) (z ▸ y)) (Nat.lt_irrefl _)
  rcases (show ObjOk X.prog X.w H s.heap P (.cod q pos) from I.hok P _ hP) with e | ⟨c',e,hw,hrec⟩
  · refine kla_makeFunction (mg:=X.mg) hcl I.ok.glob hgs hcode Cd e trivial rfl hgP BA fun c' ctv h' tk hx hge hlt hrec htb=>?_
    refine fin h' tk _ c' ctv hx (Nat.le_of_lt (Nat.lt_of_le_of_lt hge hlt)) rfl hrec (by rw [htb]; simp) ?_ (.inr hge)
    intro z
    rw [← z] at hge
    exact absurd (Nat.lt_of_lt_of_le (Heap.lt_size e) hge) (Nat.lt_irrefl _)
  · refine kla_makeFunctionHit (mg:=X.mg) hcl I.ok.glob hgs hcode Cd e (by simp [TriplesOk,rawInt]) (cv:=.ref c') (by simp [codeAmong,rawInt]) BA fun ctv h' tk hk hsz=>?_
    refine fin h' tk _ c' ctv (fun b o _ e=>hk b o e) hsz rfl (hrec.keeps hk) (hk _ _ e) ?_ (.inl hw)
    intro z
    rw [← z,hP] at hw; cases hw
theorem Inv.retrack {P c' f : Addr} {fo co : Obj} {q : Str} {pos : Pos} (I : Inv X ((f,fo) :: (P,tabObj #[rawInt pos.line,rawInt pos.col,.ref c']) :: (c',co) :: pins) σ H s) (hq : IsCod q co) (hne : P≠c')
    (nP : ∀ o,X.s₀.heap.get? P=some o→X.H₀ P≠none) (nc : ∀ o,X.s₀.heap.get? c' = some o→X.H₀ c'≠none) (hp : ∀ p∈X.pn ++ pins,p.1≠P∧p.1≠c') : Inv X pins σ (upd (upd H P (.cod q pos)) c' (.own P)) s:=by
  obtain ⟨eP,hP,lP,_,dP⟩:=I.pin (P,tabObj #[rawInt pos.line,rawInt pos.col,.ref c']) (List.mem_append_right _ (.tail _ (.head _)))
  obtain ⟨ec,hc,lc,_,dc⟩:=I.pin (c',co) (List.mem_append_right _ (.tail _ (.tail _ (.head _))))
  dsimp only at eP hP lP dP ec hc lc dc
  have away : ∀ b,b≠P→b≠c'→upd (upd H P (.cod q pos)) c' (.own P) b=H b:=fun b n1 n2=>by rw [upd_ne n2,upd_ne n1]
  have some_away : ∀ b u,H b=some u→b≠P∧b≠c':=fun b u e=>⟨fun z=>(by rw [z,hP] at e; cases e),fun z=>(by rw [z,hc] at e; cases e)⟩
  have keepS : ∀ b u,H b=some u→upd (upd H P (.cod q pos)) c' (.own P) b=some u:=fun b u e=>by
    obtain ⟨n1,n2⟩:=some_away b u e
    rw [away b n1 n2]; exact e
  have atP : upd (upd H P (.cod q pos)) c' (.own P) P=some (.cod q pos):=by rw [upd_ne hne,upd_same]
  have atc : upd (upd H P (.cod q pos)) c' (.own P) c' = some (.own P):=upd_same
  refine ⟨I.ok,I.os,I.bare,⟨I.base.keep,I.base.slot,fun b o e n hx=>?_,I.base.there,fun b xs e=>keepS b _ (I.base.tups b xs e),fun b o xs e=>keepS b _ (I.base.frzs b o xs e),fun b ps e=>?_⟩,I.loc,I.cell,?_,fun x c e=>?_,fun p hp'=>?_,fun b u e=>?_,I.len⟩
  · rw [away b (fun z=>nP o (z ▸ e) (z ▸ n)) (fun z=>nc o (z ▸ e) (z ▸ n))]
    exact I.base.free b o e n hx
  · obtain ⟨more,z⟩:=I.base.tbls b ps e
    exact ⟨more,keepS b _ z⟩
  · rw [away _ (Ne.symm lP) (Ne.symm lc)]; exact I.free
  · obtain ⟨v,o,ho,hd⟩:=I.cell x c e
    rw [away c (fun z=>by rw [z,eP] at ho; cases ho; exact dP v hd) (fun z=>by rw [z,ec] at ho; cases ho; exact dc v hd)]
    exact I.freeC x c e
  · obtain ⟨z1,z2⟩:=hp p hp'
    have hp2 : p∈X.pn ++ ((f,fo) :: (P,tabObj #[rawInt pos.line,rawInt pos.col,.ref c']) :: (c',co) :: pins):=by
      rcases List.mem_append.mp hp' with y | y
      · exact List.mem_append_left _ y
      · exact List.mem_append_right _ (.tail _ (.tail _ (.tail _ y)))
    obtain ⟨e,n,r⟩:=I.pin p hp2
    exact ⟨e,by rw [away _ z1 z2]; exact n,r⟩
  · by_cases hb : b=c'
    · subst hb
      rw [atc] at e; cases e
      exact ⟨co,ec⟩
    · by_cases hb2 : b=P
      · subst hb2
        rw [atP] at e; cases e
        obtain ⟨vs,t,d1,d2⟩:=hq
        exact .inr ⟨c',eP,atc,c',co,vs,t,rfl,ec,d1,d2⟩
      · rw [away b hb2 hb] at e
        exact (I.hok b u e).stay (fun _ _ _ q=>q) (fun d z=>keepS d _ z) fun d xs z=>keepS d _ z
end
end L2
namespace L2
open PySem PySem.Spec PySem.W PyProof.Rows
def cxLam (X : Cx) (A : Around) (N' : List Str) (q : Str) (scope : Scope) (f c' : Addr) (s : Shared) (H : Hp) : Cx where
  prog:=X.prog
  w:=X.w
  K:=X.K
  mg:=X.mg
  base:=X.base
  A:=A.deeper (envX q scope s.heap.objs.size f (.ref c') (clOf X.env scope.names []))
  N:=N'
  s₀:=s
  H₀:=H
  env:=envX q scope s.heap.objs.size f (.ref c') (clOf X.env scope.names [])
  outer:=X.stack
  stack:=envX q scope s.heap.objs.size f (.ref c') (clOf X.env scope.names []) :: X.stack
  ex:=[]
  fn:=fun _=>false
  calm:=true
  pn:=[]
  xe:=fun _ _=>False
structure LamScope (X : Cx) (N' : List Str) (ix : List (Option Nat)) (p : Str) (scope : Scope) : Prop where
  kind : scope.kind = .function
  co : scope.isCoroutine=false
  gen : scope.isGenerator=false
  nocell : ∀ y∈scope.names,y.2≠.cell
  par : N'[0]? = some p
  loc : scope.names.lookup p=some .local
  len : ix.length=N'.length
  pos : 0 < N'.length
  free : ∀ y∈scope.names,y.2 = .free→X.env.kindOf y.1=some .cell
  out : ∀ (k j : Nat) (x : Str),N'[k]? = some x→ix[k]? = some (some j)→X.N[j]? = some x∧(x,NameKind.free)∈scope.names∧scope.names.lookup x=some .free
def lamSt (ix : List (Option Nat)) (σ : St) (v : V) : St:=(compSt ix σ).set 0 (some v)
section
variable {X : Cx} {pins : List (Addr×Obj)} {σ : St} {H : Hp} {s : Shared} {N' : List Str} {ix : List (Option Nat)} {p q : Str} {scope : Scope}
theorem cl_cellsL (I : Inv X pins σ H s) (S : LamScope X N' ix p scope) {x : Str} {c : Addr} (h : (clOf X.env scope.names []).lookup x=some c) : X.env.cells.lookup x=some c:=by
  rcases mem_clOf _ _ (PySem.mem_of_lookup h) with z | ⟨z1,z2⟩
  · cases z
  · obtain ⟨c',hc⟩:=I.ok.has x (.inl (S.free _ z1 rfl))
    dsimp only at z2
    rw [hc] at z2
    rw [hc,z2]
    rfl
theorem inv_lam {A : Around} {f c' : Addr} {h' : Heap} {tk : Nat} {x : V} {u : Value} (I : Inv X pins σ H s) (hcalm : A.handled=none) (hfr : A.frames=some X.stack) (S : LamScope X N' ix p scope) (r : RelV x u)
    (hns : h'.Ns s.heap.objs.size (fun y=>([(p,u)] : List (Str×Value)).reverse.lookup y)) (hk : ∀ b o,s.heap.get? b=some o→h'.get? b=some o) : Inv (cxLam X A N' q scope f c' s H) [] (lamSt ix σ x) H { s with heap:=h',toks:=tk }:=by
  have noL : H s.heap.objs.size=none:=I.hok.fresh (Nat.le_refl _)
  refine ⟨⟨I.ok.mod,S.kind,rfl,rfl,Nat.le_refl _,fun x y c h1 h2=>I.ok.inj x y c (cl_cellsL I S h1) (cl_cellsL I S h2),fun x hx=>?_,(fun x c z=>nomatch z),fun _=>hcalm,Around.frames_deeper hfr,.inr ⟨rfl,rfl⟩,fun b hb=>absurd (show b∈([] : List Addr) from hb) (by simp),I.bs,Nat.le_trans I.ok.bsz I.sz,fun b o q hb=>absurd (show b∈([] : List Addr) from hb) (by simp),fun b hb=>absurd (show b∈([] : List Addr) from hb) (by simp),I.stack,I.stkFree⟩,
    rfl,I.bare,Un.kept hk,⟨_,hns,fun k y v h1 h2 h3=>?_⟩,fun x c h=>?_,noL,fun x c h=>I.freeC x c (cl_cellsL I S h),(fun p hp=>absurd (show p∈([] : List (Addr×Obj)) from hp) (by simp)),I.hok.kept hk,?_⟩
  · have hx' : scope.names.lookup x=some .cell∨scope.names.lookup x=some .free:=hx
    rcases hx' with z | z
    · exact absurd rfl (S.nocell _ (PySem.mem_of_lookup z))
    · exact lookup_of_mem (clOf_has (env:=X.env) scope.names [] (PySem.mem_of_lookup z))
  · have e2 : ((compSt ix σ).set 0 (some x))[k]? = some (some v):=h2
    have h1' : N'[k]? = some y:=h1
    by_cases hk0 : k=0
    · subst hk0
      rw [S.par] at h1'
      cases h1'
      have hl : 0 < (compSt ix σ).length:=by unfold compSt; rw [List.length_map,S.len]; exact S.pos
      rw [List.getElem?_set_self hl] at e2
      cases e2
      refine ⟨u,r,.inl ⟨S.loc,?_⟩⟩
      show ([(p,u)] : List (Str×Value)).lookup p=some u
      rw [List.lookup_cons,show (p == p)=true from by simp]
    · rw [List.getElem?_set_ne (fun z=>hk0 z.symm)] at e2
      unfold compSt at e2
      rw [List.getElem?_map] at e2
      cases e3 : ix[k]? with
      | none=>rw [e3] at e2; cases e2
      | some o=>
        rw [e3] at e2
        cases o with
        | none=>cases e2
        | some j=>
          obtain ⟨n1,n2,n3⟩:=S.out k j y h1' e3
          have e4 : σ[j]? = some (some v):=by
            have : (σ[j]?).join=some v:=Option.some.inj e2
            cases e5 : σ[j]? with
            | none=>rw [e5] at this; cases this
            | some w=>rw [e5] at this; exact congrArg some this
          have kc:=S.free _ n2 rfl
          obtain ⟨m,hn,hl⟩:=I.loc
          obtain ⟨u',r',l⟩:=hl j y v n1 e4 (.inr (.inl kc))
          refine ⟨u',r',?_⟩
          rcases l with ⟨z,_⟩ | ⟨_,c,hc,hcell⟩
          · dsimp only at kc
            rw [kc] at z; cases z
          · obtain ⟨c2,hc2⟩:=lookup_of_mem (clOf_has (env:=X.env) scope.names [] n2)
            have ec:=cl_cellsL I S hc2
            rw [hc] at ec
            cases ec
            exact .inr ⟨.inr n3,c,hc2,hcell.keeps hk⟩
  · obtain ⟨v,z⟩:=I.cell x c (cl_cellsL I S h)
    exact ⟨v,z.keeps hk⟩
  · unfold lamSt compSt
    rw [List.length_set,List.length_map]
    exact S.len
theorem lam_call {A : Around} {f c' : Addr} {params : Arguments} {body : Expr} {pm ctv : Value} {x : V} {u : Value} {tb : TE} {Q : VK} (I : Inv X pins σ H s) (hcalm : A.handled=none) (hfr : A.frames=some X.stack) (hdp : A.depth < recursionLimit) (S : LamScope X N' ix p scope)
    (hf : s.heap.get? f=some (kla_obj "<lambda>" q params body scope (clOf X.env scope.names []) pm c' ctv)) (hc : s.heap.CodeRec (.ref c') q)
    (hb : bindArgs (kla_fn "<lambda>" q params body scope (clOf X.env scope.names []) pm (.ref c') ctv) ⟨[u],[]⟩=pure [(p,u)])
    (he : PE (cxLam X A N' q scope f c' s H) body tb) (r : RelV x u) (h : tb (lamSt ix σ x) H Q) : wpAny (model X.prog X.w) A (call (.ref f) [u]) (EP X pins σ Q) (fun _ _=>False) s:=by
  refine wpAny_call (codeAny_mono (R:=fun r s'=>∃ u,r = .ok (.ret u)∧EP X pins σ Q u s') ?_ fun r s' hq=>?_)
  · refine kla_callFunE hdp hf rfl S.co S.gen rfl hc ?_
    rw [hb]
    refine wpAny_pure (wpAny_newFunctionEnv S.nocell (fun y hy=>?_) (fun h₁ hns hsb=>⟨I.nolimit.fresh _ hsb,?_⟩) S.kind)
    · obtain rfl : y=(p,u):=by simpa using hy
      exact S.loc
    show codeAny _ _ (.expr body (envX q scope s.heap.objs.size f (.ref c') (clOf X.env scope.names []))) _ _
    have hk₁ : ∀ b o,s.heap.get? b=some o→h₁.get? b=some o:=fun b o e=>hsb.extBut b o (Nat.ne_of_lt (Heap.lt_size e)) (Heap.get?_push_of_some _ e)
    have J:=inv_lam (q:=q) (A:=A) (f:=f) (c':=c') (tk:=s.toks + ([(p,u)] : List (Str×Value)).length) I hcalm hfr S r hns hk₁
    refine kla_codeExpr (wpAny_mono (he [] _ _ H Q J h) (fun v s' hv=>?_) fun _ _ z=>z.elim)
    obtain ⟨v',H',J',rv,q'⟩:=hv
    exact ⟨v,rfl,I.after ⟨v',H',J'.os,J'.bare,J'.base,J'.hok,rv,q'⟩⟩
  · obtain ⟨u',rfl,z⟩:=hq
    exact z
end
end L2
namespace L2
open PySem PySem.Spec PySem.W PyProof.Rows
section
variable {X : Cx} {pins : List (Addr×Obj)} {σ : St} {H : Hp} {s : Shared}
theorem Inv.turn1 {t' : Nat} {it : Addr} {o o' : Obj} {h' : Heap} (I : Inv X ((it,o) :: pins) σ H s) (hs : Heap.SameBut it s.heap h') (ho : h'.get? it=some o') (hd : ∀ v,o'.data≠.cell v) (hge : X.s₀.heap.objs.size≤it) (hne : ∀ p∈X.pn ++ pins,p.1≠it) :
    Inv X ((it,o') :: pins) σ H { s with heap:=h',toks:=t' }:=by
  obtain ⟨e,n,l,fs,d⟩:=I.pin (it,o) (List.mem_append_right _ (.head _))
  dsimp only at e n l fs d
  have I0 : Inv X pins σ H s:=I.pins_of fun p hp=>I.pin p (List.mem_append_right _ (.tail _ hp))
  have J:=I0.turned (t':=t') (it:=it) (h':=h') (fun b u nb eb=>(hs.2 b nb).trans eb) n l (.inr hge) (fun x c hc z=>by
    obtain ⟨v,oc,hoc,hdc⟩:=I.cell x c hc
    rw [z,e] at hoc
    cases hoc
    exact d v hdc) hne
  refine J.pins_of fun p hp=>?_
  rcases List.mem_cons.mp hp with rfl | hp
  · exact ⟨ho,n,l,fs,hd⟩
  · exact J.pin p (List.mem_append_right _ hp)
theorem Inv.track1 {it : Addr} {ob : Obj} {o : HO} (I : Inv X ((it,ob) :: pins) σ H s) (hge : X.s₀.heap.objs.size≤it) (hne : ∀ p∈X.pn ++ pins,p.1≠it) (ok : ObjOk X.prog X.w (upd H it o) s.heap it o) : Inv X pins σ (upd H it o) s:=by
  obtain ⟨e,n,l,fs,d⟩:=I.pin (it,ob) (List.mem_append_right _ (.head _))
  dsimp only at e n l fs d
  have I0 : Inv X pins σ H s:=I.pins_of fun p hp=>I.pin p (List.mem_append_right _ (.tail _ hp))
  have ne : ∀ b u,H b=some u→b≠it:=fun b u q z=>by rw [z,n] at q; cases q
  refine I0.step (g':=s.gens) (d':=s.drawn) (t':=s.toks) (h':=s.heap) (ch:=[it]) (fun b hb=>?_) (fun b o _ _ _ e _=>e) (fun b o _ _ _ e _=>⟨o.slots,e⟩) (fun b u hb _ nn=>?_) (fun b o _ e=>⟨o,e⟩) (fun b xs q=>by rw [upd_ne (ne b _ q)]; exact q) (fun b u xs q=>by rw [upd_ne (ne b _ q)]; exact q)
    (fun b ps q=>⟨#[],by rw [upd_ne (ne b _ q),q]; simp⟩) (fun m hm=>hm) (fun b u q=>?_) I.bare
  · obtain rfl : b=it:=by simpa using hb
    refine ⟨.inr hge,l,fun x c hc z=>?_,hne⟩
    obtain ⟨v,oc,hoc,hdc⟩:=I.cell x c hc
    rw [z,e] at hoc
    cases hoc
    exact d v hdc
  · rw [upd_ne fun z=>hb (by rw [z]; exact List.mem_singleton.mpr rfl)]; exact nn
  · by_cases hb : b=it
    · subst hb
      rw [upd_same] at q; cases q
      exact ok
    · rw [upd_ne hb] at q
      exact (I.hok b u q).stay (fun _ _ _ z=>z) (fun c z=>by rw [upd_ne (ne c _ z)]; exact z) fun c xs z=>by rw [upd_ne (ne c _ z)]; exact z
def KeysAt (H : Hp) (bs : List Addr) (ns : List Int) (key : Int→List Int) : Prop:=∀ (j : Nat) b n,bs[j]? = some b→ns[j]? = some n→H b=some (.tup ((key n).map V.int))
theorem sorted_key {A : Around} {E : Value→Shared→Prop} {l f : Addr} {ns : List Int} {key : Int→List Int} {wd : Nat} {Q : Value→Shared→Prop} (I : Inv X pins σ H s) (hl : SqL X.K H l (ns.map V.int)) (h64 : ns.length < 64) (hw : ∀ n∈ns,(key n).length=wd) (hw0 : 0 < wd)
    (hcall : ∀ n∈ns,∀ pins' H2 s2 u,(∀ p∈pins,p∈pins')→Inv X pins' σ H2 s2→Same H H2→RelV (.int n) u→wpAny (model X.prog X.w) A.in1.in1 (call (.ref f) [u]) (EP X pins' σ fun y H3=>∃ b,y = .ref b∧Same H2 H3∧H3 b=some (.tup ((key n).map V.int))) (fun _ _=>False) s2)
    (h : ∀ (D : Addr) (ms : List Int) H3 s3,H D=none→ms.Perm ns→ms.Pairwise (fun a b=>lexB (key b) (key a)=false)→Same H H3→H3 D=some (.lst (ms.map V.int))→Inv X pins σ H3 s3→Q (.ref D) s3) :
    wpAny (model X.prog X.w) A (call (.builtin "sorted") [.ref l] [(Str.ofString "key",.ref f)]) Q E s:=by
  obtain ⟨its,rv,pl,hz⟩:=I.list hl
  have ia:=ints_of rv
  have hlen : its.length=ns.length:=IntsAre.length ia
  have hl':=pl.isList
  refine call_function_entry_kw kind_sorted plain_sorted entry_sorted (ksk_s1 _ _) ?_
  unfold Builtin.«sorted»
  refine wpAny_bind (m:=checkCount "sorted" 1 1 _) (wpAny_pure ?_)
  refine wpAny_bind (collect_list hl' ?_ (by rw [sizeLine_eq]; omega))
  refine wpAny_bind (wpAny_newList ?_ (by rw [sizeLine_eq]; omega))
  have hsz : ((s.heap.push (seqObj "list" #[] 0)).update s.heap.objs.size (Obj.mapSeq (· ++ its.toArray))).objs.size=s.heap.objs.size + 1:=by
    rw [Heap.size_update,size_push']
  have hoL : (((s.heap.push (seqObj "list" #[] 0)).update s.heap.objs.size (Obj.mapSeq (· ++ its.toArray))).push (seqObj "list" its.toArray 0)).get? (s.heap.objs.size + 1)=some (seqObj "list" its.toArray 0):=by
    rw [← hsz]; exact Heap.get?_push_size _ rfl
  have keep : ∀ b o,s.heap.get? b=some o→(((s.heap.push (seqObj "list" #[] 0)).update s.heap.objs.size (Obj.mapSeq (· ++ its.toArray))).push (seqObj "list" its.toArray 0)).get? b=some o:=fun b o q=>by
    have hlt : b < s.heap.objs.size:=Heap.lt_size q
    rw [Heap.get?_push_ne _ _ _ (by rw [hsz]; exact Nat.ne_of_lt (Nat.lt_succ_of_lt hlt)),Heap.get?_update_ne _ _ _ _ (Nat.ne_of_lt hlt),Heap.get?_push_ne _ _ _ (Nat.ne_of_lt hlt)]
    exact q
  have hsz1 : (((s.heap.push (seqObj "list" #[] 0)).update s.heap.objs.size (Obj.mapSeq (· ++ its.toArray))).push (seqObj "list" its.toArray 0)).objs.size=s.heap.objs.size + 2:=by rw [size_push',hsz]
  show wpAny _ _ _ _ _ { s with heap:=((s.heap.push (seqObj "list" #[] 0)).update s.heap.objs.size (Obj.mapSeq (· ++ its.toArray))).push (seqObj "list" its.toArray 0) }
  rw [hsz]
  generalize ((s.heap.push (seqObj "list" #[] 0)).update s.heap.objs.size (Obj.mapSeq (· ++ its.toArray))).push (seqObj "list" its.toArray 0)=h1 at hoL keep hsz1 ⊢
  refine wpAny_bind (wpAny_holding (wpAny_call_entry_kw slot_list_sort ⟨_,hoL,rfl⟩ entry_list_sort ?body (ksk_l1 _ _)))
  case body=>
  show wpAny (model X.prog X.w) A.in1.in1 (Builtin.«list.sort» ⟨[.ref (s.heap.objs.size + 1)],[(Str.ofString "key",.ref f)]⟩) _ _ _
  rw [ksk_t1]
  obtain ⟨D,eD⟩ : ∃ D,s.heap.objs.size + 1=D:=⟨_,rfl⟩
  rw [eD] at hoL ⊢
  have hD1 : D < h1.objs.size:=by omega
  obtain ⟨e1,ho1⟩ : ∃ e1,(h1.update D (Obj.mapSeq fun _=>(#[] : Array Value))).get? D=some (seqObj "list" #[] e1):=⟨_,get?_update_seq hoL fun _=>#[]⟩
  unfold ksk_tree
  refine wpAny_bind (listItems_at hoL rfl ?_)
  refine wpAny_bind (listUpdate_at hoL rfl ?_ (by rw [List.size_toArray,sizeLine_eq]; omega) (Nat.zero_le _))
  refine wpAny_bind (seqEpoch_at ho1 rfl ?_)
  refine wpAny_bind (wpAny_newTuple ?_ (by show its.length≤_; rw [sizeLine_eq]; omega))
  refine wpAny_bind (wpAny_newList ?_ (Nat.zero_le _))
  refine wpAny_holding ?_
  have hkS : ((h1.update D (Obj.mapSeq fun _=>(#[] : Array Value))).push (seqObj "tuple" its.toArray 0)).objs.size=s.heap.objs.size + 3:=by rw [size_push',Heap.size_update,hsz1]
  have keep2 : ∀ b o,s.heap.get? b=some o→(((h1.update D (Obj.mapSeq fun _=>(#[] : Array Value))).push (seqObj "tuple" its.toArray 0)).push (seqObj "list" #[] 0)).get? b=some o:=fun b o q=>by
    have hlt : b < s.heap.objs.size:=Heap.lt_size q
    refine Heap.get?_push_of_some _ (Heap.get?_push_of_some _ ?_)
    rw [Heap.get?_update_ne _ _ _ _ (Nat.ne_of_lt (Nat.lt_trans hlt (by omega)))]
    exact keep b o q
  have ho2 : (((h1.update D (Obj.mapSeq fun _=>(#[] : Array Value))).push (seqObj "tuple" its.toArray 0)).push (seqObj "list" #[] 0)).get? D=some (seqObj "list" #[] e1):=Heap.get?_push_of_some _ (Heap.get?_push_of_some _ ho1)
  have hoS : (((h1.update D (Obj.mapSeq fun _=>(#[] : Array Value))).push (seqObj "tuple" its.toArray 0)).push (seqObj "list" #[] 0)).get? (s.heap.objs.size + 3)=some (seqObj "list" #[] 0):=by
    rw [← hkS]; exact Heap.get?_push_size _ rfl
  show wpAny (model X.prog X.w) A.in1.in1 _ _ _ { s with heap:=((h1.update D (Obj.mapSeq fun _=>(#[] : Array Value))).push (seqObj "tuple" its.toArray 0)).push (seqObj "list" #[] 0) }
  rw [hkS]
  obtain ⟨S,eS⟩ : ∃ S,s.heap.objs.size + 3=S:=⟨_,rfl⟩
  rw [eS] at hoS ⊢
  generalize ((h1.update D (Obj.mapSeq fun _=>(#[] : Array Value))).push (seqObj "tuple" its.toArray 0)).push (seqObj "list" #[] 0)=h2 at keep2 ho2 hoS ⊢
  have hDS : D≠S:=by omega
  have HD : H D=none:=I.hok.fresh (by omega)
  have HS' : H S=none:=I.hok.fresh (by omega)
  have geD : X.s₀.heap.objs.size≤D:=Nat.le_trans I.sz (by omega)
  have geS : X.s₀.heap.objs.size≤S:=Nat.le_trans I.sz (by omega)
  have pinlt : ∀ p∈X.pn ++ pins,p.1 < s.heap.objs.size:=fun p hp=>Heap.lt_size (I.pin p hp).1
  have pinD : ∀ p∈X.pn ++ pins,p.1≠D:=fun p hp=>Nat.ne_of_lt (Nat.lt_trans (pinlt p hp) (by omega))
  have pinS : ∀ p∈X.pn ++ pins,p.1≠S:=fun p hp=>Nat.ne_of_lt (Nat.lt_trans (pinlt p hp) (by omega))
  have pinDS : ∀ o,∀ p∈X.pn ++ ((D,o) :: pins),p.1≠S:=fun o p hp=>by
    rcases List.mem_append.mp hp with z | z
    · exact pinS p (List.mem_append_left _ z)
    · rcases List.mem_cons.mp z with rfl | z
      · exact hDS
      · exact pinS p (List.mem_append_right _ z)
  have I2 : Inv X ((S,seqObj "list" #[] 0) :: (D,seqObj "list" #[] e1) :: pins) σ H { s with heap:=h2 }:=by
    have J:=I.kept (t':=s.toks) keep2
    refine J.pins_of fun p hp=>?_
    rcases List.mem_cons.mp hp with rfl | hp
    · exact ⟨hoS,HS',Nat.ne_of_gt (Nat.lt_of_lt_of_le I.lt (by omega)),I.nofs (by omega),fun v z=>(by cases z)⟩
    · rcases List.mem_cons.mp hp with rfl | hp
      · exact ⟨ho2,HD,Nat.ne_of_gt (Nat.lt_of_lt_of_le I.lt (by omega)),I.nofs (by omega),fun v z=>(by cases z)⟩
      · exact J.pin p (List.mem_append_right _ hp)
  unfold ksk_rest
  refine wpAny_bind (wpAny_rule ?_)
  first
    | rw [List.forIn_toArray]
    | (rw [← Array.forIn_toList]; simp only [List.toList_toArray])
    | rw [← Array.forIn_toList]
  refine wpAny_bind (ksk_fold (fun i s'=>∃ H' bs e,Inv X ((S,seqObj "list" (List.toArray (List.map Value.ref bs)) e) :: (D,seqObj "list" #[] e1) :: pins) σ H' s'∧Same H H'∧bs.length=i∧KeysAt H' bs ns key) its 0 _ ⟨H,[],0,I2,Same.refl H,rfl,fun j b n e=>(by cases e)⟩ (fun j u s' hj hJ=>?_) fun s' hJ=>?_)
  · obtain ⟨H',bs,e,J,sm,hbl,hks⟩:=hJ
    rw [Nat.zero_add] at hbl ⊢
    have hjl : j < its.length:=(List.getElem?_eq_some_iff.mp hj).1
    obtain ⟨n,en⟩ : ∃ n,ns[j]? = some n:=⟨_,List.getElem?_eq_getElem (by omega)⟩
    obtain ⟨u',eu,ru⟩:=rv.get (i:=j) (x:=.int n) (by rw [List.getElem?_map,en]; rfl)
    rw [hj] at eu
    cases eu
    refine wpAny_bind (wpAny_attempt (wpAny_mono (hcall n (List.mem_of_getElem? en) _ H' s' u (fun p hp=>.tail _ (.tail _ hp)) J sm ru) (fun k s'' hk=>?_) fun _ _ hF=>hF.elim))
    obtain ⟨y,H3,J3,ry,b,rfl,sm3,hb⟩:=hk
    cases ry
    obtain ⟨eS3,nS3,lS3,fS3,dS3⟩:=J3.pin (S,seqObj "list" (List.toArray (List.map Value.ref bs)) e) (List.mem_append_right _ (.head _))
    dsimp only at eS3
    have s1:=Heap.SameBut.update s''.heap S (Obj.mapSeq (·.push (.ref b)))
    have ea : (List.toArray (List.map Value.ref bs)).push (.ref b)=List.toArray (List.map Value.ref (bs ++ [b])):=by simp
    obtain ⟨c2,hc2⟩ : ∃ c2,(s''.heap.update S (Obj.mapSeq (·.push (.ref b)))).get? S=some (seqObj "list" (List.toArray (List.map Value.ref (bs ++ [b]))) c2):=⟨_,by rw [← ea]; exact get?_update_seq eS3 (·.push (.ref b))⟩
    try dsimp only
    refine wpAny_bind (listUpdate_at eS3 rfl ?_ (by rw [List.size_toArray,List.length_map,sizeLine_eq]; omega) (Nat.le_trans (Nat.le_of_eq (Array.size_push ..)) (by rw [List.size_toArray,List.length_map,sizeLine_eq]; omega)))
    refine wpAny_pure ⟨rfl,H3,bs ++ [b],c2,J3.turn1 (t':=s''.toks) s1 hc2 (fun v z=>(by cases z)) geS (pinDS _),sm.trans sm3,by rw [List.length_append,List.length_singleton]; omega,fun j' b' n' e1' e2'=>?_⟩
    by_cases hjj : j' < bs.length
    · rw [List.getElem?_append_left hjj] at e1'
      exact sm3 _ _ (hks j' b' n' e1' e2')
    · have : j' = bs.length:=by
        have:=(List.getElem?_eq_some_iff.mp e1').1
        rw [List.length_append,List.length_singleton] at this
        omega
      subst this
      rw [List.getElem?_append_right (Nat.le_refl _),Nat.sub_self] at e1'
      cases e1'
      rw [hbl,en] at e2'
      cases e2'
      exact hb
  · obtain ⟨H',bs,e,J,sm,hbl,hks⟩:=hJ
    rw [Nat.zero_add] at hbl
    obtain ⟨eS3,nS3,lS3,fS3,dS3⟩:=J.pin (S,seqObj "list" (List.toArray (List.map Value.ref bs)) e) (List.mem_append_right _ (.head _))
    obtain ⟨eD3,nD3,_⟩:=J.pin (D,seqObj "list" #[] e1) (List.mem_append_right _ (.tail _ (.head _)))
    dsimp only at eS3 eD3
    try dsimp only
    refine wpAny_bind (listItems_at eS3 rfl ?_)
    unfold ksk_end
    try dsimp only
    rw [if_neg Bool.false_ne_true]
    have hkl : (List.map Value.ref bs).length=its.length:=by rw [List.length_map,hbl]
    have tt : TupsAt s'.heap bs (ns.map key):=⟨by rw [List.length_map]; omega,fun i b r x1 x2=>by
      rw [List.getElem?_map] at x2
      cases en : ns[i]? with
      | none=>rw [en] at x2; cases x2
      | some n=>
        rw [en] at x2
        cases x2
        obtain ⟨_,us,rr,y⟩:=(show ObjOk X.prog X.w H' s'.heap b (.tup ((key n).map V.int)) from J.hok b _ (hks i b n x1 en))
        exact ⟨us,y,ints_of rr⟩⟩
    have hwk : ∀ r∈ns.map key,r.length=wd:=fun r hr=>by
      obtain ⟨n,hn,rfl⟩:=List.mem_map.mp hr
      exact hw n hn
    have tail : ∀ (st' : SortSt) (p : Array Nat),PermN its.length p→Up (ltOf (ns.map key)) p its.length→(arrOf st').map (·.2)=List.toArray (p.toList.map fun i=>its.getD i Value.none)→failedOf st' = none→
        wpAny (model X.prog X.w) A.in1.in1 (ksk_tail D false e1 (.ref S) st') (fun fin s'=>∃ v,fin = .done (.ret v)∧wpAny (model X.prog X.w) A.in1 (pure (PySem.Fin.done (.ret (.ref D)))) (fun fin s'=>∃ v,fin = .done (.ret v)∧Q v s') E s') E s':=by
      intro st' p hp hu har hf
      unfold ksk_tail
      try dsimp only
      rw [har]
      have s1:=Heap.SameBut.update s'.heap S (Obj.mapSeq fun _=>(#[] : Array Value))
      obtain ⟨c1,hc1⟩ : ∃ c1,(s'.heap.update S (Obj.mapSeq fun _=>(#[] : Array Value))).get? S=some (seqObj "list" #[] c1):=⟨_,get?_update_seq eS3 fun _=>#[]⟩
      have eD4 : (s'.heap.update S (Obj.mapSeq fun _=>(#[] : Array Value))).get? D=some (seqObj "list" #[] e1):=(s1.2 D hDS).trans eD3
      have s2:=Heap.SameBut.update (s'.heap.update S (Obj.mapSeq fun _=>(#[] : Array Value))) D (Obj.mapSeq fun _=>List.toArray (p.toList.map fun i=>its.getD i Value.none))
      obtain ⟨c2,hc2⟩ : ∃ c2,((s'.heap.update S (Obj.mapSeq fun _=>(#[] : Array Value))).update D (Obj.mapSeq fun _=>List.toArray (p.toList.map fun i=>its.getD i Value.none))).get? D=some (seqObj "list" (List.toArray (p.toList.map fun i=>its.getD i Value.none)) c2):=⟨_,get?_update_seq eD4 fun _=>List.toArray (p.toList.map fun i=>its.getD i Value.none)⟩
      refine wpAny_bind (listUpdate_at eS3 rfl ?_ (by rw [List.size_toArray,sizeLine_eq]; omega) (Nat.zero_le _))
      refine wpAny_bind (wpAny_letGo ?_)
      refine wpAny_bind (seqEpoch_at eD4 rfl ?_)
      refine wpAny_bind (listUpdate_at eD4 rfl ?_ (Nat.zero_le _) (by
        show (List.toArray (p.toList.map fun i=>its.getD i Value.none)).size≤_
        rw [List.size_toArray,List.length_map,Array.length_toList,hp.size,sizeLine_eq]; omega))
      rw [hf]
      simp only [bne_self_eq_false,Bool.false_eq_true,if_false]
      refine wpAny_pure ⟨_,rfl,wpAny_pure ⟨_,rfl,?_⟩⟩
      have J1:=J.turn1 (t':=s'.toks) s1 hc1 (fun v z=>(by cases z)) geS (pinDS _)
      have J2 : Inv X ((D,seqObj "list" #[] e1) :: pins) σ H' { s' with heap:=s'.heap.update S (Obj.mapSeq fun _=>(#[] : Array Value)) }:=J1.pins_of fun p hp=>J1.pin p (List.mem_append_right _ (.tail _ hp))
      have J3:=J2.turn1 (t':=s'.toks) s2 hc2 (fun v z=>(by cases z)) geD pinD
      have hmem : ∀ i∈p.toList,i < its.length:=fun i hi=>List.mem_range.mp ((List.Perm.mem_iff hp).mp hi)
      have vv : ∀ is : List Nat,(∀ i∈is,i < its.length)→Vals ((is.map fun i=>ns.getD i 0).map V.int) (is.map fun i=>its.getD i Value.none):=fun is his=>by
        induction is with
        | nil=>exact .nil
        | cons i r ih=>
          refine .cons ?_ (ih fun j hj=>his j (.tail _ hj))
          have hi:=his i (.head _)
          obtain ⟨u,eu,ru⟩:=rv.get (i:=i) (x:=.int (ns.getD i 0)) (by
            rw [List.getElem?_map,List.getD_eq_getElem?_getD,List.getElem?_eq_getElem (show i < ns.length by omega)]; rfl)
          show RelV (.int (ns.getD i 0)) (its.getD i Value.none)
          rw [List.getD_eq_getElem?_getD (l:=its),eu]
          exact ru
      refine h D (p.toList.map fun i=>ns.getD i 0) (upd H' D (.lst ((p.toList.map fun i=>ns.getD i 0).map V.int))) _ HD ?_ ?_ (sm.trans (same_new nD3 _)) upd_same (J3.track1 geD pinD ⟨?_,_,c2,vv _ hmem,hc2⟩)
      · have e1 : (List.range its.length).map (fun i=>ns.getD i 0)=ns:=by
          apply List.ext_getElem?
          intro i
          rw [List.getElem?_map]
          by_cases hi : i < its.length
          · rw [List.getElem?_range hi]; simp [show i < ns.length by omega]
          · rw [List.getElem?_eq_none (by simpa using hi),List.getElem?_eq_none (by omega)]; rfl
        have:=hp.map (fun i=>ns.getD i 0)
        rw [e1] at this
        exact this
      · rw [List.pairwise_map,List.pairwise_iff_getElem]
        intro i j hi hj hij
        have hj' : j < its.length:=by rw [Array.length_toList,hp.size] at hj; exact hj
        have:=hu i j (Nat.le_of_lt hij) hj'
        have gi : gA p i=p.toList[i]:=by
          rw [Array.length_toList] at hi
          simp [gA,hi]
        have gj : gA p j=p.toList[j]:=by
          rw [Array.length_toList] at hj
          simp [gA,hj]
        rw [gi,gj] at this
        have kk : ∀ i,i < ns.length→(ns.map key).getD i []=key (ns.getD i 0):=fun i hi=>by simp [hi]
        have this' : lexB ((ns.map key).getD p.toList[j] []) ((ns.map key).getD p.toList[i] [])=false:=this
        rw [kk _ (by have:=hmem _ (List.getElem_mem hj); omega),kk _ (by have:=hmem _ (List.getElem_mem hi); omega)] at this'
        exact this'
      · rw [List.length_map,List.length_map,Array.length_toList,hp.size,sizeLine_eq]; omega
    by_cases h2 : its.toArray.size < 2
    · rw [if_pos h2,if_pos h2]
      refine wpAny_bind (wpAny_pure ?_)
      rw [StateT.run_pure]
      refine wpAny_bind (wpAny_pure ?_)
      rw [if_neg Bool.false_ne_true]
      have pr : PermN its.length (List.toArray (List.range its.length)):=by unfold PermN; simp
      refine tail _ (List.toArray (List.range its.length)) pr (up_small (ordr_of _) (by rw [List.size_toArray] at h2; exact h2)) ?_ rfl
      exact kat_snds (vs:=its) (ks:=List.map Value.ref bs) (p:=List.toArray (List.range its.length)) hkl (by
        have e:=kas_range ((List.map Value.ref bs).toArray.zip its.toArray)
        rw [show ((List.map Value.ref bs).toArray.zip its.toArray).size=its.length by simp [hkl,hbl]] at e
        exact e.symm)
    · rw [if_neg h2,if_neg h2]
      rw [List.size_toArray] at h2
      obtain ⟨fs,f1,f2,f3⟩:=tt.kat fun r hr z=>by have:=hwk r hr; rw [z] at this; simp at this; omega
      refine wpAny_bind (kat_kind (T:=.type "int") f2 (by omega) (fun v hv=>?_) rfl ?_)
      · obtain ⟨m,k,rfl⟩:=f3 v hv
        exact Looks.of_pure rfl
      rw [show ((Value.type "int" : Value) != Value.type "tuple")=true from rfl,if_neg Bool.false_ne_true]
      refine wpAny_bind (wpAny_mono (kat_run (A:=A.in1.in1) (vs:=its) (ks:=List.map Value.ref bs) (κ:=tuples' true)
        (G:=fun p s2=>(PermN its.length p∧Up (ltOf (ns.map key)) p its.length)∧s2=s')
        (Q:=fun st' s2=>∃ p : Array Nat,PermN its.length p∧Up (ltOf (ns.map key)) p its.length∧arrOf st' = p.map (kas_item ((List.map Value.ref bs).toArray.zip its.toArray))∧failedOf st' = none∧s2=s')
        hkl (by omega) (by omega) (fun p' st' s2 a1 a2 a3 a4=>⟨p',a4.1.1,a4.1.2,a2,a3,a4.2⟩) ?_) ?_ fun _ _ e=>e)
      · refine okW_wp (n:=its.length) (lt:=ltOf (ns.map key)) (fun i j C hi hj q=>TupsAt.ask tt hwk i j C (by omega) (by omega) q) (okW_mono (fun p hp=>⟨hp,rfl⟩) (ok_sort (ordr_of _) (by omega)))
      · rintro ⟨⟨⟩,st'⟩ s2 ⟨p,hp,hu,har,hf,rfl⟩
        dsimp only
        exact tail st' p hp hu (kat_snds hkl har) hf
end
end L2
namespace L2
open PySem PySem.Spec PySem.W PyProof.Rows
def SortKR (P : Addr) (q : Str) (lpos : Pos) (ix : List (Option Nat)) (tb : TE) (σ : St) (Q : VK) (v : V) (H1 : Hp) : Prop:=∃ (l : Addr) (ns : List Int) (key : Int→List Int) (wd : Nat),v = .ref l∧H1 l=some (.lst (ns.map V.int))∧ns.length < 64∧H1 P=some (.cod q lpos)∧0 < wd∧(∀ n∈ns,(key n).length=wd)∧
  (∀ n∈ns,∀ H2,(∀ b o,H1 b=some o→o≠.cod q lpos→o≠.own P→H2 b=some o)→tb (lamSt ix σ (.int n)) H2 fun y H3=>∃ b,y = .ref b∧Same H2 H3∧H3 b=some (.tup ((key n).map V.int)))∧
  ∀ (D : Addr) (ms : List Int) H',H1 D=none→ms.Perm ns→ms.Pairwise (fun a b=>lexB (key b) (key a)=false)→Same H1 H'→H' D=some (.lst (ms.map V.int))→Q (.ref D) H'
def tSortK (te : TE) (P : Addr) (q : Str) (lpos : Pos) (ix : List (Option Nat)) (tb : TE) : TE:=fun σ H Q=>te σ H fun v H1=>SortKR P q lpos ix tb σ Q v H1
theorem pe_sortK {X : Cx} {k : Nat} {e body : Expr} {te tb : TE} {P c : Addr} {q p : Str} {N' : List Str} {ix : List (Option Nat)} {params : Arguments} {scope : Scope} {npos lpos kpos pos : Pos} (hr : Room k X.A) (ha : PA X [e] (tCons te tNil)) (hg : Gl X "sorted") (hm : X.mg "sorted" = none) (hv : bootBuiltins "sorted" = some (.builtin "sorted"))
    (hex : X.ex=[]) (hcode : X.env.code = .ref c) (C : codeHdIn X.K c P=true) (B : BMain X.mg X.base) (hdef : defaultsOf params X.env=([],[])) (hq : X.env.qual ++ "<lambda>" = q) (S : LamScope X N' ix p scope)
    (hbnd : ∀ (cl : List (Str×Addr)) (pm : Value) (c' : Addr) (ctv u : Value),bindArgs (kla_fn "<lambda>" q params body scope cl pm (.ref c') ctv) ⟨[u],[]⟩=pure [(p,u)])
    (hb : ∀ (A : Around) (f c' : Addr) (s : Shared) (H : Hp),PE (cxLam X A N' q scope f c' s H) body tb)
    (he : backTo pos (starEach [e] X.env)=(false,eval e X.env) :: backTo pos (starEach [] X.env):=by rfl) (hpl : (backTo pos (starEach [e] X.env)).any (·.1)=false:=by rfl) :
    PE X (.Call (.Name "sorted" npos) [e] [⟨some (Str.ofString "key"),.Lambda params body scope lpos,kpos⟩] pos) (tSortK te P q lpos ix tb):=by
  intro pins s σ H Q I h
  refine wpAny_Call_Name_kw (ld_blt I hg hm hv ?_ (by decide) (by decide))
  refine callWith_kw (thn (ha pos pins s σ H (fun vs H1=>match vs with | [v]=>SortKR P q lpos ix tb σ Q v H1 | _=>False) I h) fun us s1 ⟨vs,H1,I1,r1,q1⟩=>?_) he hpl
  obtain ⟨v,rfl⟩ : ∃ v,vs=[v]:=by
    match vs,q1 with
    | [v],_=>exact ⟨v,rfl⟩
  obtain ⟨l,ns,key,wd,rfl,hl,h64,hP,hw0,hw,hkey,q⟩:=q1
  obtain ⟨u,rfl,ru⟩:=r1.one
  cases ru
  show wpAny _ _ (evalAll ((do let v ← eval (.Lambda params body scope lpos) X.env; standAt pos; pure v) :: [])) _ _ s1
  refine wpAny_evalAll_cons (wpAny_bind ?_)
  have hcl : closureFor scope X.env=pure (clOf X.env scope.names []):=closureFor_cl fun y hy hf=>I1.ok.has y.1 (.inl (S.free y hy hf))
  refine lam_make I1 hex hP hcode C B hcl hdef hq fun f c' ctv co s2 J hco hne hfn hcn nc hpp=>?_
  refine wpAny_bind (wpAny_standAt (wpAny_pure (wpAny_evalAll_nil ?_)))
  have ncc : ∀ b o,H1 b=some o→o≠.own P→b≠c':=fun b o e n z=>by
    rw [z] at e
    rcases hcn with y | y
    · rw [y] at e; cases e
    · rw [y] at e; cases e; exact n rfl
  have npp : ∀ b o,H1 b=some o→o≠.cod _ lpos→b≠P:=fun b o e n z=>by
    rw [z,hP] at e; cases e; exact n rfl
  have hl2 : without H1 P c' l=some (.lst (ns.map V.int)):=by rw [without_ne (npp _ _ hl (by intro z; cases z)) (ncc _ _ hl (by intro z; cases z))]; exact hl
  show wpAny _ _ (call (.builtin "sorted") [.ref l] [(Str.ofString "key",.ref f)]) _ _ s2
  refine sorted_key J (SqL.of hl2) h64 hw hw0 (fun n hn pins' H2 s3 u hsub J3 sm ru=>?_) fun D ms H3 s3 hD hperm hpw sm hD3 J3=>?_
  · have pf:=J3.pin (f,kla_obj "<lambda>" _ params body scope (clOf X.env scope.names []) ((X.mg "__name__").getD .none) c' ctv) (List.mem_append_right _ (hsub _ (.head _)))
    have pc:=J3.pin (c',co) (List.mem_append_right _ (hsub _ (.tail _ (.tail _ (.head _)))))
    obtain ⟨vs,t,d1,d2⟩:=hco
    refine lam_call J3 hr.hd I1.ok.frames hr.depth S pf.1 ⟨c',co,vs,t,rfl,pc.1,d1,d2⟩ (hbnd _ _ _ _ _) (hb _ f c' s3 H2) ru (hkey n hn H2 fun b o e n1 n2=>sm _ _ ?_)
    rw [without_ne (npp _ _ e n1) (ncc _ _ e n2)]
    exact e
  · have pP:=(J3.pin (P,tabObj #[rawInt lpos.line,rawInt lpos.col,.ref c']) (List.mem_append_right _ (.tail _ (.head _)))).2.1
    have pc:=(J3.pin (c',co) (List.mem_append_right _ (.tail _ (.tail _ (.head _))))).2.1
    dsimp only at pP pc
    have nDP : D≠P:=fun z=>by rw [z,pP] at hD3; cases hD3
    have nDc : D≠c':=fun z=>by rw [z,pc] at hD3; cases hD3
    have J4:=J3.retrack hco hne (I1.notOld hex hP) nc hpp
    refine ⟨.ref D,_,J4,rfl,q D ms _ ?_ hperm hpw (fun b o e=>?_) ?_⟩
    · rw [without_ne nDP nDc] at hD; exact hD
    · by_cases hb : b=c'
      · subst hb
        rw [upd_same]
        rcases hcn with z | z
        · rw [z] at e; cases e
        · rw [z] at e; exact e
      · rw [upd_ne hb]
        by_cases hb2 : b=P
        · subst hb2
          rw [upd_same,← hP]; exact e
        · rw [upd_ne hb2]
          exact sm _ _ (by rw [without_ne hb2 hb]; exact e)
    · rw [upd_ne nDc,upd_ne nDP]; exact hD3
theorem Fun.okC {P : Program} {w : World} {K : PySem.W.Frag} {mg : Str→Option Value} {base : Heap} {x qual : Str} {st : Stmt} {f c : Addr} {fd : FuncData} {N ps : List Str} {k : Nat} {sp : Sp} (F : Fun K x qual st f fd) (hc : fd.code = .ref c) (S : FnScope N ps (defScope st)) (len : ∀ vs H Q E,sp vs H Q E→vs.length=ps.length)
    (hbody : ∀ (A : Around) (outer : List Env) (s : Shared) (H : Hp) (vs : List V) (Q : VK) (E : XK),Room k (A.deeper (envOfC qual (defScope st) s.heap.objs.size f (.ref c)))→sp vs H Q E→
      ∃ t,PSs (cxOf CX0 P w K mg base N qual (defScope st) f (.ref c) A outer s H E).nox (defBody st) t∧t { nx:=fun _ H'=>Q .non H',rt:=Q } (start N vs) H) : FnOk P w K mg base CX0 (k + 1) f fd ps sp:=by
  obtain ⟨oc,od,kV,doc,pm,an,cdv,ct,osl,rfl,lk,hcd⟩:=F.ex
  obtain rfl : cdv = .ref c:=hc
  refine fn_of lk hcd S len fun A outer s H vs Q E hr hsp=>?_
  obtain ⟨t,h,q⟩:=hbody A outer s H vs Q E hr hsp
  exact ⟨t,h.nox,q⟩
def lamOk (N N' : List Str) (ix : List (Option Nat)) (p : Str) (scope D : Scope) : Bool:=
  (scope.kind == .function) && (!scope.isCoroutine) && (!scope.isGenerator) && (scope.names.all fun y=>(y.2 != .cell) && (y.2 != .free || D.names.lookup y.1 == some .cell)) && (N'[0]? == some p) && (scope.names.lookup p == some .local) && (ix.length == N'.length) && decide (0 < N'.length) &&
  ((List.range N'.length).all fun k=>match ix[k]?,N'[k]? with
    | some (some j),some x=>N[j]? == some x && scope.names.contains (x,.free) && scope.names.lookup x == some .free
    | _,_=>true)
theorem lam_scope {X : Cx} {N' : List Str} {ix : List (Option Nat)} {p : Str} {scope : Scope} {N : List Str} {D : Scope} (h : lamOk N N' ix p scope D=true) (hN : X.N=N:=by rfl) (hD : X.env.scope=D:=by rfl) : LamScope X N' ix p scope:=by
  unfold lamOk at h
  simp only [Bool.and_eq_true,decide_eq_true_eq] at h
  obtain ⟨⟨⟨⟨⟨⟨⟨⟨h1,h2⟩,h3⟩,h4⟩,h5⟩,h6⟩,h7⟩,h8⟩,h9⟩:=h
  have hall:=List.all_eq_true.mp h4
  refine ⟨by simpa using h1,by simpa using h2,by simpa using h3,fun y hy z=>?_,by simpa using h5,by simpa using h6,by simpa using h7,h8,fun y hy z=>?_,fun k j x e1 e2=>?_⟩
  · have:=hall y hy
    rw [z] at this
    simp at this
  · have:=hall y hy
    rw [z] at this
    have q : D.names.lookup y.1=some .cell:=by simpa using this
    show X.env.scope.names.lookup y.1=some .cell
    rw [hD]; exact q
  · have hk : k < N'.length:=(List.getElem?_eq_some_iff.mp e1).1
    have:=List.all_eq_true.mp h9 k (List.mem_range.mpr hk)
    rw [e1,e2] at this
    simp only [Bool.and_eq_true] at this
    obtain ⟨⟨a,b⟩,c⟩:=this
    refine ⟨by rw [hN]; simpa using a,by simpa using b,by simpa using c⟩
def lamPos (st : Stmt) : Pos:=match defBody st with
  | [.Return (some (.Call _ _ [⟨_,.Lambda _ _ _ pos,_⟩] _)) _]=>pos
  | _=>⟨0,0,0,0⟩
abbrev Tbs:=List (Addr×Str×Pos)
def Tb (ts : Tbs) (H : Hp) : Prop:=∀ t∈ts,H t.1=some (.cod t.2.1 t.2.2)
theorem Tb.same {ts : Tbs} {H H' : Hp} (h : Tb ts H) (s : Same H H') : Tb ts H':=fun t ht=>s _ _ (h t ht)
theorem Tb.keep {ts : Tbs} {H H' : Hp} {a c : Addr} (h : Tb ts H) (d : DrawAt H a c) (k : KeepBut a H H') : Tb ts H':=fun t ht=>by
  refine k _ _ (fun z=>?_) (h t ht)
  obtain ⟨_,_,_,_,_,e,_⟩:=d
  have:=h t ht
  rw [z,e] at this; cases this
def spOrdT (ts : Tbs) (key : List (List Int)→Int→List Int) (ok : List Int→Prop) : Sp:=fun vs H Q _=>∃ (a : Addr) (rs : List (List Int)),vs=[.ref a]∧Tb ts H∧Rows H a rs∧rs.length≤60∧(∀ r∈rs,ok r)∧
  ∀ (l : Addr) (os : List Int) (H' : Hp),H l=none→Same H H'→Ordered (key rs) rs.length os→H' l=some (.lst (os.map V.int))→Q (.ref l) H'
end L2
namespace L2
def S : List (Int×Int)→Int→Int→Int
  | [],_,_=>0
  | p :: r,f,l=>(if f≤p.1∧p.1≤l then p.2 else 0) + S r f l
def give (tm e : Int) : Int→List (Int×Int)→List (Int×Int)
  | _,[]=>[]
  | c,p :: r=>(p.1,p.2 - (if 0 < min c p.2∧e - tm≤p.1∧p.1≤e then min c p.2 else 0)) :: give tm e (c - (if 0 < min c p.2∧e - tm≤p.1∧p.1≤e then min c p.2 else 0)) r
def deal (tm : Int) : List (Int×Int)→List (Int×Int)→List (Int×Int)
  | [],L=>L
  | o :: O,L=>deal tm O (give tm o.1 o.2 L)
def Pos (L : List (Int×Int)) : Prop:=∀ p∈L,0≤p.2
def Up1 (L : List (Int×Int)) : Prop:=L.Pairwise fun p q=>p.1≤q.1
def Hall (L O : List (Int×Int)) (tm : Int) : Prop:=∀ f l,f≤l→S L f l≤S O f (l + tm)
theorem S_nonneg : ∀ {L : List (Int×Int)},Pos L→∀ f l,0≤S L f l
  | [],_,f,l=>Int.le_refl _
  | p :: r,h,f,l=>by
    have h1:=h p (.head _)
    have h2:=S_nonneg (L:=r) (fun q hq=>h q (.tail _ hq)) f l
    show 0≤(if f≤p.1∧p.1≤l then p.2 else 0) + S r f l
    split <;> omega
theorem S_mono : ∀ {L : List (Int×Int)},Pos L→∀ {f l f' l' : Int},f'≤f→l≤l'→S L f l≤S L f' l'
  | [],_,f,l,f',l',_,_=>Int.le_refl _
  | p :: r,h,f,l,f',l',h1,h2=>by
    have h0:=h p (.head _)
    have h3:=S_mono (L:=r) (fun q hq=>h q (.tail _ hq)) h1 h2
    show (if f≤p.1∧p.1≤l then p.2 else 0) + S r f l≤(if f'≤p.1∧p.1≤l' then p.2 else 0) + S r f' l'
    split <;> split <;> omega
theorem S_none : ∀ {L : List (Int×Int)} {f l : Int},(∀ p∈L,¬ (f≤p.1∧p.1≤l))→S L f l=0
  | [],_,_,_=>rfl
  | p :: r,f,l,h=>by
    show (if f≤p.1∧p.1≤l then p.2 else 0) + S r f l=0
    rw [if_neg (h p (.head _)),S_none fun q hq=>h q (.tail _ hq)]
    rfl
theorem give_days {tm e : Int} : ∀ {c : Int} {L : List (Int×Int)},(give tm e c L).map (·.1)=L.map (·.1)
  | _,[]=>rfl
  | c,p :: r=>by show p.1 :: (give tm e _ r).map (·.1)=p.1 :: r.map (·.1); rw [give_days]
theorem up_days {L M : List (Int×Int)} (h : M.map (·.1)=L.map (·.1)) (hL : Up1 L) : Up1 M:=by
  unfold Up1 at *
  rw [← List.pairwise_map (f:=fun p : Int×Int=>p.1) (R:=(·≤·))] at *
  rw [h]; exact hL
theorem give_pos {tm e : Int} : ∀ {c : Int} {L : List (Int×Int)},Pos L→Pos (give tm e c L)
  | _,[],h=>h
  | c,p :: r,h=>fun q hq=>by
    have h0:=h p (.head _)
    rcases List.mem_cons.mp hq with z | z
    · rw [z]
      show 0≤p.2 - (if 0 < min c p.2∧e - tm≤p.1∧p.1≤e then min c p.2 else 0)
      split <;> omega
    · exact give_pos (fun q hq=>h q (.tail _ hq)) q z
theorem give_le {tm e : Int} : ∀ {c : Int} {L : List (Int×Int)},Pos L→∀ f l,S (give tm e c L) f l≤S L f l
  | _,[],_,_,_=>Int.le_refl _
  | c,p :: r,h,f,l=>by
    have h0:=h p (.head _)
    have ih:=give_le (tm:=tm) (e:=e) (c:=c - (if 0 < min c p.2∧e - tm≤p.1∧p.1≤e then min c p.2 else 0)) (L:=r) (fun q hq=>h q (.tail _ hq)) f l
    show (if f≤p.1∧p.1≤l then p.2 - (if 0 < min c p.2∧e - tm≤p.1∧p.1≤e then min c p.2 else 0) else 0) + S (give tm e _ r) f l≤(if f≤p.1∧p.1≤l then p.2 else 0) + S r f l
    split
    · have : 0≤(if 0 < min c p.2∧e - tm≤p.1∧p.1≤e then min c p.2 else 0):=by split <;> omega
      omega
    · omega
theorem give_zero {tm e : Int} : ∀ {L : List (Int×Int)},give tm e 0 L=L
  | []=>rfl
  | p :: r=>by
    show (p.1,p.2 - (if 0 < min 0 p.2∧e - tm≤p.1∧p.1≤e then min 0 p.2 else 0)) :: give tm e (0 - (if 0 < min 0 p.2∧e - tm≤p.1∧p.1≤e then min 0 p.2 else 0)) r=p :: r
    rw [if_neg (by omega)]
    show (p.1,p.2 - 0) :: give tm e (0 - 0) r=p :: r
    rw [Int.sub_zero,Int.sub_zero,give_zero]
theorem give_most {tm e : Int} : ∀ {c : Int} {L : List (Int×Int)},0≤c→Pos L→∀ f l,S L f l≤(if f≤e∧e≤l + tm then c else 0) + S (give tm e c L) f l
  | c,[],hc,_,f,l=>by
    show (0 : Int)≤_ + 0
    split <;> omega
  | c,p :: r,hc,h,f,l=>by
    have h0:=h p (.head _)
    have y0 : 0≤(if 0 < min c p.2∧e - tm≤p.1∧p.1≤e then min c p.2 else 0)∧(if 0 < min c p.2∧e - tm≤p.1∧p.1≤e then min c p.2 else 0)≤c∧((if 0 < min c p.2∧e - tm≤p.1∧p.1≤e then min c p.2 else 0)=0∨(e - tm≤p.1∧p.1≤e)):=by split <;> omega
    show (if f≤p.1∧p.1≤l then p.2 else 0) + S r f l≤(if f≤e∧e≤l + tm then c else 0) + ((if f≤p.1∧p.1≤l then p.2 - (if 0 < min c p.2∧e - tm≤p.1∧p.1≤e then min c p.2 else 0) else 0) + S (give tm e (c - (if 0 < min c p.2∧e - tm≤p.1∧p.1≤e then min c p.2 else 0)) r) f l)
    generalize (if 0 < min c p.2∧e - tm≤p.1∧p.1≤e then min c p.2 else 0)=y at *
    have ih:=give_most (tm:=tm) (e:=e) (c:=c - y) (L:=r) (by omega) (fun q hq=>h q (.tail _ hq)) f l
    split at ih <;> split <;> omega
theorem give_full {tm e : Int} : ∀ {c : Int} {L : List (Int×Int)},0≤c→Pos L→Up1 L→∀ {d x l : Int},(d,x)∈give tm e c L→0 < x→e - tm≤d→d≤e→d≤l→S L (e - tm) l=c + S (give tm e c L) (e - tm) l
  | _,[],_,_,_,d,x,l,hm,_,_,_,_=>by cases hm
  | c,p :: r,hc,h,hu,d,x,l,hm,hx,h1,h2,h3=>by
    have h0:=h p (.head _)
    have hr : Pos r:=fun q hq=>h q (.tail _ hq)
    obtain ⟨hu1,hu2⟩:=List.pairwise_cons.mp hu
    show (if e - tm≤p.1∧p.1≤l then p.2 else 0) + S r (e - tm) l=c + ((if e - tm≤p.1∧p.1≤l then p.2 - (if 0 < min c p.2∧e - tm≤p.1∧p.1≤e then min c p.2 else 0) else 0) + S (give tm e (c - (if 0 < min c p.2∧e - tm≤p.1∧p.1≤e then min c p.2 else 0)) r) (e - tm) l)
    rcases List.mem_cons.mp hm with z | z
    · have e1 : d=p.1:=congrArg Prod.fst z
      have e2 : x=p.2 - (if 0 < min c p.2∧e - tm≤p.1∧p.1≤e then min c p.2 else 0):=congrArg Prod.snd z
      have hy : (if 0 < min c p.2∧e - tm≤p.1∧p.1≤e then min c p.2 else 0)=c:=by
        split at e2 <;> split <;> omega
      rw [hy,Int.sub_self,give_zero,if_pos (by omega),if_pos (by omega)]
      omega
    · have hd : p.1≤d:=by
        have m : d∈(give tm e (c - (if 0 < min c p.2∧e - tm≤p.1∧p.1≤e then min c p.2 else 0)) r).map (·.1):=List.mem_map.mpr ⟨_,z,rfl⟩
        rw [give_days] at m
        obtain ⟨q,hq,e'⟩:=List.mem_map.mp m
        have:=hu1 q hq
        omega
      have y0 : 0≤(if 0 < min c p.2∧e - tm≤p.1∧p.1≤e then min c p.2 else 0)∧(if 0 < min c p.2∧e - tm≤p.1∧p.1≤e then min c p.2 else 0)≤c∧((if 0 < min c p.2∧e - tm≤p.1∧p.1≤e then min c p.2 else 0)=0∨(e - tm≤p.1∧p.1≤e)):=by split <;> omega
      generalize (if 0 < min c p.2∧e - tm≤p.1∧p.1≤e then min c p.2 else 0)=y at *
      have ih:=give_full (tm:=tm) (e:=e) (c:=c - y) (L:=r) (by omega) hr hu2 z hx h1 h2 h3
      split <;> omega
theorem give_keeps {tm e c : Int} {L O : List (Int×Int)} (ht : 0≤tm) (hc : 0≤c) (hL : Pos L) (hu : Up1 L) (hO : Pos O) (he : ∀ o∈O,e≤o.1) (h : Hall L ((e,c) :: O) tm) : Hall (give tm e c L) O tm:=by
  intro f l hfl
  have H : ∀ f l,f≤l→S L f l≤(if f≤e∧e≤l + tm then c else 0) + S O f (l + tm):=fun f l hfl=>h f l hfl
  have gl:=give_le (tm:=tm) (e:=e) (c:=c) hL
  have gp:=give_pos (tm:=tm) (e:=e) (c:=c) hL
  by_cases c0 : f≤e∧e≤l + tm
  · have low : S L f (e - tm - 1)≤0:=by
      by_cases z : f≤e - tm - 1
      · have:=H f (e - tm - 1) z
        rw [if_neg (by omega),S_none (L:=O) (fun o ho y=>by have:=he o ho; omega)] at this
        omega
      · rw [S_none fun p _ y=>by omega]
        exact Int.le_refl _
    by_cases c1 : ∃ d x,(d,x)∈give tm e c L∧0 < x∧e - tm≤d∧d≤e∧f≤d∧d≤l
    · obtain ⟨d,x,hm,hx,h1,h2,h3,h4⟩:=c1
      have full:=give_full hc hL hu hm hx h1 h2 h4
      have h5:=H (e - tm) l (by omega)
      rw [if_pos (by omega)] at h5
      have h6 : S O (e - tm) (l + tm)≤S O f (l + tm):=by
        have : ∀ (O : List (Int×Int)),Pos O→(∀ o∈O,e≤o.1)→S O (e - tm) (l + tm)≤S O f (l + tm):=by
          intro O
          induction O with
          | nil=>intro _ _; exact Int.le_refl _
          | cons o r ih=>
            intro hp hd
            have i1:=ih (fun q hq=>hp q (.tail _ hq)) (fun q hq=>hd q (.tail _ hq))
            have i2:=hd o (.head _)
            have i3:=hp o (.head _)
            show (if e - tm≤o.1∧o.1≤l + tm then o.2 else 0) + S r (e - tm) (l + tm)≤(if f≤o.1∧o.1≤l + tm then o.2 else 0) + S r f (l + tm)
            split <;> split <;> omega
        exact this O hO he
      have h7 : S (give tm e c L) f l≤S (give tm e c L) f (e - tm - 1) + S (give tm e c L) (e - tm) l:=by
        have : ∀ (M : List (Int×Int)),Pos M→S M f l≤S M f (e - tm - 1) + S M (e - tm) l:=by
          intro M
          induction M with
          | nil=>intro _; exact Int.le_refl _
          | cons p r ih=>
            intro hp
            have i1:=ih (fun q hq=>hp q (.tail _ hq))
            have i2:=hp p (.head _)
            show (if f≤p.1∧p.1≤l then p.2 else 0) + S r f l≤((if f≤p.1∧p.1≤e - tm - 1 then p.2 else 0) + S r f (e - tm - 1)) + ((if e - tm≤p.1∧p.1≤l then p.2 else 0) + S r (e - tm) l)
            split <;> split <;> split <;> omega
        exact this _ gp
      have h8:=gl f (e - tm - 1)
      omega
    · have h9 : S (give tm e c L) f l≤S (give tm e c L) f (e - tm - 1) + S (give tm e c L) (e + 1) l:=by
        have : ∀ (M : List (Int×Int)),Pos M→(∀ d x,(d,x)∈M→¬ (0 < x∧e - tm≤d∧d≤e∧f≤d∧d≤l))→S M f l≤S M f (e - tm - 1) + S M (e + 1) l:=by
          intro M
          induction M with
          | nil=>intro _ _; exact Int.le_refl _
          | cons p r ih=>
            intro hp hn
            have i1:=ih (fun q hq=>hp q (.tail _ hq)) (fun d x hm=>hn d x (.tail _ hm))
            have i2:=hp p (.head _)
            have i3:=hn p.1 p.2 (.head _)
            show (if f≤p.1∧p.1≤l then p.2 else 0) + S r f l≤((if f≤p.1∧p.1≤e - tm - 1 then p.2 else 0) + S r f (e - tm - 1)) + ((if e + 1≤p.1∧p.1≤l then p.2 else 0) + S r (e + 1) l)
            split <;> split <;> split <;> omega
        exact this _ gp fun d x hm z=>c1 ⟨d,x,hm,z⟩
      have h10:=gl f (e - tm - 1)
      have h11:=gl (e + 1) l
      have h12 : S L (e + 1) l≤S O f (l + tm):=by
        by_cases z : e + 1≤l
        · have:=H (e + 1) l z
          rw [if_neg (by omega)] at this
          have:=S_mono hO (f:=e + 1) (l:=l + tm) (f':=f) (l':=l + tm) (by omega) (Int.le_refl _)
          omega
        · rw [S_none fun p _ y=>by omega]
          exact S_nonneg hO _ _
      omega
  · have:=H f l hfl
    rw [if_neg c0] at this
    have:=gl f l
    omega
theorem deal_iff {tm : Int} (ht : 0≤tm) : ∀ {O L : List (Int×Int)},Pos O→Up1 O→Pos L→Up1 L→((∀ p∈deal tm O L,p.2=0)↔Hall L O tm)
  | [],L,_,_,hL,_=>by
    constructor
    · intro h f l _
      have : ∀ (M : List (Int×Int)),(∀ p∈M,p.2=0)→S M f l=0:=by
        intro M
        induction M with
        | nil=>intro _; rfl
        | cons p r ih=>
          intro hm
          have i1:=ih fun q hq=>hm q (.tail _ hq)
          have i2:=hm p (.head _)
          show (if f≤p.1∧p.1≤l then p.2 else 0) + S r f l=0
          split <;> omega
      rw [this L h]
      exact Int.le_refl _
    · intro h p hp
      have h1:=h p.1 p.1 (Int.le_refl _)
      have h2 : p.2≤S L p.1 p.1:=by
        have : ∀ (M : List (Int×Int)),Pos M→p∈M→p.2≤S M p.1 p.1:=by
          intro M
          induction M with
          | nil=>intro _ hm; cases hm
          | cons q r ih=>
            intro hp' hm
            show p.2≤(if p.1≤q.1∧q.1≤p.1 then q.2 else 0) + S r p.1 p.1
            have i0:=hp' q (.head _)
            have i1:=S_nonneg (L:=r) (fun q hq=>hp' q (.tail _ hq)) p.1 p.1
            rcases List.mem_cons.mp hm with z | z
            · rw [← z,if_pos ⟨Int.le_refl _,Int.le_refl _⟩]
              omega
            · have:=ih (fun q hq=>hp' q (.tail _ hq)) z
              split <;> omega
        exact this L hL hp
      have h3:=hL p hp
      have h4 : S ([] : List (Int×Int)) p.1 (p.1 + tm)=0:=rfl
      show p.2=0
      omega
  | o :: O,L,hO,hu,hL,huL=>by
    obtain ⟨e,c⟩:=o
    have hO' : Pos O:=fun q hq=>hO q (.tail _ hq)
    obtain ⟨hu1,hu2⟩:=List.pairwise_cons.mp hu
    have hc : 0≤c:=hO (e,c) (.head _)
    have ih:=deal_iff ht (O:=O) (L:=give tm e c L) hO' hu2 (give_pos hL) (up_days give_days huL)
    show (∀ p∈deal tm O (give tm e c L),p.2=0)↔_
    rw [ih]
    constructor
    · intro h f l hfl
      have h1:=give_most (tm:=tm) (e:=e) hc hL f l
      have h2:=h f l hfl
      show S L f l≤(if f≤e∧e≤l + tm then c else 0) + S O f (l + tm)
      omega
    · exact give_keeps ht hc hL huL hO' hu1
end L2
namespace L2
open PySem PySem.Spec PySem.W PyProof.Rows
end L2
namespace L2
open PySem PySem.Spec PySem.W PyProof.Rows
end L2
namespace L2
abbrev Quad:=Int×Int×Int×Int
def SX (f l : Int) : List Quad→Int
  | []=>0
  | (d,c,x,y) :: Z=>(if f≤d∧d≤l then x else 0) + SX f l Z
def one (d x : Int) (Ts : List (Int×Int)) : Int:=(Ts.map fun T=>if T.1≤d∧d≤T.2 then x else 0).sum
def CX (Ts : List (Int×Int)) (Z : List Quad) : Int:=(Ts.map fun T=>SX T.1 T.2 Z).sum
end L2
namespace L2
def sumO (g : Int→Int) : List Int→Int
  | []=>0
  | i :: os=>g i + sumO g os
theorem sumO_map (g : Int→Int) : ∀ os : List Int,sumO g os=(os.map g).sum
  | []=>rfl
  | i :: os=>by show g i + _=_; rw [sumO_map g os,List.map_cons,List.sum_cons]
theorem bestGo_keep {ks : List (Int×Int)} {rs : List (List Int)} {j : Nat} : ∀ (os : List Int) (v : Int→Int→Int) (cs : List Int),(∀ i∈os,i.toNat≠j)→(bestGo ks rs os v cs).2[j]? = cs[j]?
  | [],v,cs,_=>rfl
  | i :: os,v,cs,h=>by
    show (bestGo ks rs os _ _).2[j]? = _
    rw [bestGo_keep os _ _ fun k hk=>h k (.tail _ hk),List.getElem?_set_ne (h i (.head _))]
theorem perm_sum {a b : List Int} (h : a.Perm b) : a.sum=b.sum:=by
  induction h with
  | nil=>rfl
  | cons x _ ih=>rw [List.sum_cons,List.sum_cons,ih]
  | swap x y l=>rw [List.sum_cons,List.sum_cons,List.sum_cons,List.sum_cons]; omega
  | trans _ _ a b=>exact a.trans b
theorem upto_nodup (n : Nat) : (uptoN n).Nodup:=by
  unfold uptoN
  exact List.Pairwise.map _ (fun a b h e=>h (by omega)) List.nodup_range
theorem going_cons (r : List Int) (os : List (List Int)) (tm f l : Int) : goingOf (r :: os) tm f l=(if f≤r.getD 0 0∧r.getD 0 0≤l + tm then r.getD 1 0 else 0) + goingOf os tm f l:=by
  unfold goingOf
  rw [List.filter_cons]
  by_cases c : f≤r.getD 0 0∧r.getD 0 0≤l + tm
  · rw [if_pos (show goesB tm f l r=true from decide_eq_true c),if_pos c,List.map_cons,List.sum_cons]
  · rw [if_neg (fun z : goesB tm f l r=true=>c (of_decide_eq_true z)),if_neg c]; omega
end L2
namespace L2
def lotsBy (rs : List (List Int)) (ts : List Int) (is : List Int) : List (Int×Int):=is.map fun i=>(colAt rs 0 i,ts.getD i.toNat 0)
def outsBy (os : List (List Int)) (js : List Int) : List (Int×Int):=js.map fun j=>(colAt os 0 j,colAt os 1 j)
theorem S_sum (g : Int→Int×Int) (f l : Int) : ∀ is : List Int,S (is.map g) f l=(is.map fun i=>if f≤(g i).1∧(g i).1≤l then (g i).2 else 0).sum
  | []=>rfl
  | i :: is=>by
    rw [List.map_cons,List.map_cons,List.sum_cons,← S_sum g f l is]
    rfl
theorem S_perm (g : Int→Int×Int) (f l : Int) {is js : List Int} (h : is.Perm js) : S (is.map g) f l=S (js.map g) f l:=by
  rw [S_sum,S_sum]
  exact perm_sum (h.map _)
theorem S_append (f l : Int) : ∀ (a b : List (Int×Int)),S (a ++ b) f l=S a f l + S b f l
  | [],b=>by show S b f l=0 + S b f l; omega
  | p :: a,b=>by
    show (if f≤p.1∧p.1≤l then p.2 else 0) + S (a ++ b) f l=(if f≤p.1∧p.1≤l then p.2 else 0) + S a f l + S b f l
    rw [S_append f l a b]; omega
theorem S_taken (rs : List (List Int)) (ts : List Int) (f l : Int) : ∀ n,S (lotsBy rs ts (uptoN n)) f l=takenTo rs ts f l n
  | 0=>rfl
  | n + 1=>by
    unfold lotsBy
    rw [uptoN_succ,List.map_append,S_append]
    have ih:=S_taken rs ts f l n
    unfold lotsBy at ih
    rw [ih]
    show _ + ((if f≤colAt rs 0 (n : Int)∧colAt rs 0 (n : Int)≤l then ts.getD (n : Int).toNat 0 else 0) + 0)=_ + (if f≤colAt rs 0 (n : Int)∧colAt rs 0 (n : Int)≤l then ts.getD n 0 else 0)
    rw [Int.toNat_natCast]
    omega
theorem S_rows (f l : Int) : ∀ os : List (List Int),S (os.map fun r=>(r.getD 0 0,r.getD 1 0)) f l=goingOf os 0 f l
  | []=>rfl
  | r :: os=>by
    rw [going_cons,← S_rows f l os,Int.add_zero]
    rfl
theorem going_at (os : List (List Int)) (tm f l : Int) : goingOf os tm f l=goingOf os 0 f (l + tm):=by
  induction os with
  | nil=>rfl
  | cons r os ih=>rw [going_cons,going_cons,ih,Int.add_zero]
theorem outs_rows (os : List (List Int)) : outsBy os (uptoN os.length)=os.map fun r=>(r.getD 0 0,r.getD 1 0):=by
  unfold outsBy uptoN
  rw [List.map_map]
  refine List.ext_getElem? fun i=>?_
  rw [List.getElem?_map,List.getElem?_map]
  by_cases h : i < os.length
  · rw [List.getElem?_range h,List.getElem?_eq_getElem h]
    show some (colAt os 0 (i : Int),colAt os 1 (i : Int))=_
    unfold colAt
    rw [row_at (List.getElem?_eq_getElem h)]
    rfl
  · rw [List.getElem?_eq_none (by rw [List.length_range]; omega),List.getElem?_eq_none (by omega)]; rfl
theorem S_going {os : List (List Int)} {js : List Int} (h : js.Perm (uptoN os.length)) (tm f l : Int) : S (outsBy os js) f (l + tm)=goingOf os tm f l:=by
  unfold outsBy
  rw [S_perm _ _ _ h]
  have:=outs_rows os
  unfold outsBy at this
  rw [this,S_rows,← going_at]
theorem least_of : ∀ (xs : List Int),xs≠[]→(∃ m∈xs,∀ x∈xs,m≤x)∧∃ m∈xs,∀ x∈xs,x≤m
  | [],h=>absurd rfl h
  | [x],_=>⟨⟨x,.head _,fun y hy=>by rw [List.mem_singleton.mp hy]; exact Int.le_refl _⟩,⟨x,.head _,fun y hy=>by rw [List.mem_singleton.mp hy]; exact Int.le_refl _⟩⟩
  | x :: y :: r,_=>by
    obtain ⟨⟨a,ha,h1⟩,⟨b,hb,h2⟩⟩:=least_of (y :: r) (fun z=>by cases z)
    refine ⟨?_,?_⟩
    · by_cases c : x≤a
      · exact ⟨x,.head _,fun z hz=>by
          rcases List.mem_cons.mp hz with e | e
          · omega
          · have:=h1 z e; omega⟩
      · exact ⟨a,.tail _ ha,fun z hz=>by
          rcases List.mem_cons.mp hz with e | e
          · omega
          · exact h1 z e⟩
    · by_cases c : b≤x
      · exact ⟨x,.head _,fun z hz=>by
          rcases List.mem_cons.mp hz with e | e
          · omega
          · have:=h2 z e; omega⟩
      · exact ⟨b,.tail _ hb,fun z hz=>by
          rcases List.mem_cons.mp hz with e | e
          · omega
          · exact h2 z e⟩
theorem S_in {L : List (Int×Int)} {f l f' l' : Int} : (∀ p∈L,f≤p.1→p.1≤l→f'≤p.1∧p.1≤l')→f≤f'→l'≤l→S L f l=S L f' l':=by
  intro h h1 h2
  induction L with
  | nil=>rfl
  | cons p L ih=>
    have e:=ih fun q hq=>h q (.tail _ hq)
    have hp:=h p (.head _)
    show (if f≤p.1∧p.1≤l then p.2 else 0) + S L f l=(if f'≤p.1∧p.1≤l' then p.2 else 0) + S L f' l'
    rw [e]
    by_cases c : f≤p.1∧p.1≤l
    · rw [if_pos c,if_pos (hp c.1 c.2)]
    · rw [if_neg c,if_neg (by omega)]
theorem slack_hall {rs os : List (List Int)} {tm : Int} {ts ds is js : List Int} (hds : DaysOf rs ds) (hi : is.Perm (uptoN rs.length)) (hj : js.Perm (uptoN os.length)) (ho : ∀ r∈os,0≤r.getD 1 0) : (∀ p∈strOf ds,0≤slackF rs os tm ts p.1 p.2)↔Hall (lotsBy rs ts is) (outsBy os js) tm:=by
  have key : ∀ f l,slackF rs os tm ts f l=S (outsBy os js) f (l + tm) - S (lotsBy rs ts is) f l:=fun f l=>by
    unfold slackF
    rw [slack_taken,S_going hj,← S_taken]
    unfold lotsBy
    rw [S_perm _ _ _ hi]
  have posO : Pos (outsBy os js):=fun p hp=>by
    obtain ⟨j,_,rfl⟩:=List.mem_map.mp hp
    exact col_nn ho j
  constructor
  · intro h f l hfl
    by_cases c : (ds.filter fun d=>decide (f≤d∧d≤l))=[]
    · have : S (lotsBy rs ts is) f l=0:=S_none fun p hp z=>by
        obtain ⟨i,hi',rfl⟩:=List.mem_map.mp hp
        obtain ⟨i0,i1⟩:=uptoN_mem.mp (hi.mem_iff.mp hi')
        have hl : i.toNat < rs.length:=by omega
        have hd : colAt rs 0 i∈ds:=(hds.2.1 _).mpr ⟨rs[i.toNat],List.getElem_mem hl,by unfold colAt; rw [List.getD_eq_getElem?_getD (l:=rs),List.getElem?_eq_getElem hl]; rfl⟩
        have : colAt rs 0 i∈ds.filter fun d=>decide (f≤d∧d≤l):=List.mem_filter.mpr ⟨hd,decide_eq_true z⟩
        rw [c] at this
        cases this
      rw [this]
      exact S_nonneg posO _ _
    · obtain ⟨⟨a,ha,h1⟩,⟨b,hb,h2⟩⟩:=least_of _ c
      obtain ⟨a1,a2⟩:=List.mem_filter.mp ha
      obtain ⟨b1,b2⟩:=List.mem_filter.mp hb
      have a3:=of_decide_eq_true a2
      have b3:=of_decide_eq_true b2
      have ab:=h1 b hb
      have e : S (lotsBy rs ts is) f l=S (lotsBy rs ts is) a b:=S_in (fun p hp z1 z2=>by
        obtain ⟨i,hi',rfl⟩:=List.mem_map.mp hp
        obtain ⟨i0,i1⟩:=uptoN_mem.mp (hi.mem_iff.mp hi')
        have hl : i.toNat < rs.length:=by omega
        have hd : colAt rs 0 i∈ds:=(hds.2.1 _).mpr ⟨rs[i.toNat],List.getElem_mem hl,by unfold colAt; rw [List.getD_eq_getElem?_getD (l:=rs),List.getElem?_eq_getElem hl]; rfl⟩
        have hm : colAt rs 0 i∈ds.filter fun d=>decide (f≤d∧d≤l):=List.mem_filter.mpr ⟨hd,decide_eq_true ⟨z1,z2⟩⟩
        exact ⟨h1 _ hm,h2 _ hm⟩) a3.1 b3.2
      have k:=key a b
      have h0:=h (a,b) (mem_str.mpr ⟨a1,b1,ab⟩)
      dsimp only at h0
      have mo : S (outsBy os js) a (b + tm)≤S (outsBy os js) f (l + tm):=S_mono posO a3.1 (by omega)
      omega
  · intro h p hp
    have:=(mem_str.mp (show (p.1,p.2)∈strOf ds from hp)).2.2
    have:=h p.1 p.2 this
    have:=key p.1 p.2
    omega
end L2
namespace L2
def stepL (rs : List (List Int)) (tm e j : Int) (st : Int×List Int×List (List Int)) (i : Int) : Int×List Int×List (List Int):=
  if 0 < min st.1 (st.2.1.getD i.toNat 0)∧e - tm≤colAt rs 0 i∧colAt rs 0 i≤e then (st.1 - min st.1 (st.2.1.getD i.toNat 0),st.2.1.set i.toNat (st.2.1.getD i.toNat 0 - min st.1 (st.2.1.getD i.toNat 0)),st.2.2 ++ [[i,j,min st.1 (st.2.1.getD i.toNat 0)]]) else st
def outL (rs os : List (List Int)) (tm : Int) (ages : List Int) (st : List Int×List (List Int)) (j : Int) : List Int×List (List Int):=
  (ages.foldl (stepL rs tm (colAt os 0 j) j) (colAt os 1 j,st.1,st.2)).2
def dealL (rs os : List (List Int)) (tm : Int) (ages outs ts : List Int) : List Int×List (List Int):=outs.foldl (outL rs os tm ages) (ts,[])
theorem foldL_keep {rs : List (List Int)} {tm e j : Int} {k : Nat} : ∀ (is : List Int) (st : Int×List Int×List (List Int)),(∀ i∈is,i.toNat≠k)→(is.foldl (stepL rs tm e j) st).2.1[k]? = st.2.1[k]?
  | [],st,_=>rfl
  | i :: is,st,h=>by
    rw [List.foldl_cons,foldL_keep is _ fun m hm=>h m (.tail _ hm)]
    unfold stepL
    split
    · exact List.getElem?_set_ne (h i (.head _))
    · rfl
theorem foldL_len {rs : List (List Int)} {tm e j : Int} : ∀ (is : List Int) (st : Int×List Int×List (List Int)),(is.foldl (stepL rs tm e j) st).2.1.length=st.2.1.length
  | [],st=>rfl
  | i :: is,st=>by
    rw [List.foldl_cons,foldL_len is]
    unfold stepL
    split
    · exact List.length_set
    · rfl
theorem lotsBy_congr {rs : List (List Int)} {a b : List Int} {is : List Int} (h : ∀ i∈is,a[i.toNat]? = b[i.toNat]?) : lotsBy rs a is=lotsBy rs b is:=by
  unfold lotsBy
  refine List.map_congr_left fun i hi=>?_
  rw [List.getD_eq_getElem?_getD,List.getD_eq_getElem?_getD,h i hi]
theorem give_link {rs : List (List Int)} {tm e j : Int} : ∀ (is : List Int) (c : Int) (left : List Int) (told : List (List Int)),is.Nodup→(∀ i∈is,0≤i∧i.toNat < left.length)→lotsBy rs (is.foldl (stepL rs tm e j) (c,left,told)).2.1 is=give tm e c (lotsBy rs left is)
  | [],c,left,told,_,_=>rfl
  | i :: is,c,left,told,nd,hi=>by
    obtain ⟨n1,n2⟩:=List.nodup_cons.mp nd
    obtain ⟨i0,i1⟩:=hi i (.head _)
    have ne : ∀ k∈is,k.toNat≠i.toNat:=fun k hk z=>n1 (by
      have:=(hi k (.tail _ hk)).1
      rw [show i=k by omega]; exact hk)
    rw [List.foldl_cons]
    show (colAt rs 0 i,(is.foldl (stepL rs tm e j) (stepL rs tm e j (c,left,told) i)).2.1.getD i.toNat 0) :: lotsBy rs (is.foldl (stepL rs tm e j) (stepL rs tm e j (c,left,told) i)).2.1 is=(colAt rs 0 i,left.getD i.toNat 0 - (if 0 < min c (left.getD i.toNat 0)∧e - tm≤colAt rs 0 i∧colAt rs 0 i≤e then min c (left.getD i.toNat 0) else 0)) :: give tm e (c - (if 0 < min c (left.getD i.toNat 0)∧e - tm≤colAt rs 0 i∧colAt rs 0 i≤e then min c (left.getD i.toNat 0) else 0)) (lotsBy rs left is)
    rw [List.getD_eq_getElem?_getD,foldL_keep is _ ne]
    by_cases z : 0 < min c (left.getD i.toNat 0)∧e - tm≤colAt rs 0 i∧colAt rs 0 i≤e
    · have st : stepL rs tm e j (c,left,told) i=(c - min c (left.getD i.toNat 0),left.set i.toNat (left.getD i.toNat 0 - min c (left.getD i.toNat 0)),told ++ [[i,j,min c (left.getD i.toNat 0)]]):=by
        unfold stepL
        exact if_pos z
      rw [st,if_pos z,give_link is _ _ _ n2 fun k hk=>⟨(hi k (.tail _ hk)).1,by rw [List.length_set]; exact (hi k (.tail _ hk)).2⟩]
      congr 1
      · dsimp only
        rw [List.getElem?_set_self i1]; rfl
      · congr 1
        exact lotsBy_congr fun k hk=>List.getElem?_set_ne (ne k hk).symm
    · have st : stepL rs tm e j (c,left,told) i=(c,left,told):=by
        unfold stepL
        exact if_neg z
      rw [st,if_neg z,give_link is _ _ _ n2 fun k hk=>hi k (.tail _ hk)]
      congr 1
      · dsimp only
        rw [← List.getD_eq_getElem?_getD,Int.sub_zero]
      · rw [Int.sub_zero]
theorem deal_link {rs os : List (List Int)} {tm : Int} {ages : List Int} (nd : ages.Nodup) : ∀ (outs : List Int) (st : List Int×List (List Int)),(∀ i∈ages,0≤i∧i.toNat < st.1.length)→lotsBy rs (outs.foldl (outL rs os tm ages) st).1 ages=deal tm (outsBy os outs) (lotsBy rs st.1 ages)
  | [],st,_=>rfl
  | j :: outs,st,h=>by
    rw [List.foldl_cons,deal_link nd outs _ fun i hi=>⟨(h i hi).1,by
      show i.toNat < (ages.foldl (stepL rs tm (colAt os 0 j) j) (colAt os 1 j,st.1,st.2)).2.1.length
      rw [foldL_len]; exact (h i hi).2⟩]
    show deal tm (outsBy os outs) (lotsBy rs (ages.foldl (stepL rs tm (colAt os 0 j) j) (colAt os 1 j,st.1,st.2)).2.1 ages)=_
    rw [give_link ages _ _ _ nd h]
    rfl
theorem up_eldest {rs : List (List Int)} {n : Nat} {is : List Int} (h : Ordered (keyE rs) n is) : is.Pairwise fun i j=>colAt rs 0 i≤colAt rs 0 j:=by
  refine h.2.imp fun {i j} z=>?_
  have z' : (if colAt rs 0 j=colAt rs 0 i then (if j=i then false else decide (j < i)) else decide (colAt rs 0 j < colAt rs 0 i))=false:=z
  by_cases c : colAt rs 0 j=colAt rs 0 i
  · omega
  · rw [if_neg c] at z'
    have:=of_decide_eq_false z'
    omega
theorem left_iff {rs os : List (List Int)} {tm : Int} {ts ds ages outs : List Int} (ht : 0≤tm) (hds : DaysOf rs ds) (ha : Ordered (keyE rs) rs.length ages) (hb : Ordered (keyE os) os.length outs) (ho : ∀ r∈os,0≤r.getD 1 0) (hl : ts.length=rs.length) (hts : ∀ u∈ts,0≤u) :
    (∀ i∈ages,(dealL rs os tm ages outs ts).1.getD i.toNat 0=0)↔∀ p∈strOf ds,0≤slackF rs os tm ts p.1 p.2:=by
  have nd : ages.Nodup:=(ha.1.nodup_iff).mpr (upto_nodup _)
  have rng : ∀ i∈ages,0≤i∧i.toNat < ts.length:=fun i hi=>by
    have:=uptoN_mem.mp (ha.1.mem_iff.mp hi)
    exact ⟨this.1,by omega⟩
  rw [slack_hall hds ha.1 hb.1 ho,← deal_iff ht (O:=outsBy os outs) (L:=lotsBy rs ts ages) (fun p hp=>by
    obtain ⟨j,_,rfl⟩:=List.mem_map.mp hp
    exact col_nn ho j) (List.pairwise_map.mpr (up_eldest hb)) (fun p hp=>by
    obtain ⟨i,hi,rfl⟩:=List.mem_map.mp hp
    have:=(rng i hi).2
    show 0≤ts.getD i.toNat 0
    rw [List.getD_eq_getElem?_getD,List.getElem?_eq_getElem this]
    exact hts _ (List.getElem_mem this)) (List.pairwise_map.mpr (up_eldest ha)),← deal_link nd outs (ts,[]) rng]
  show _↔∀ p∈lotsBy rs (dealL rs os tm ages outs ts).1 ages,p.2=0
  constructor
  · intro h p hp
    obtain ⟨i,hi,rfl⟩:=List.mem_map.mp hp
    exact h i hi
  · intro h i hi
    exact h _ (List.mem_map.mpr ⟨i,hi,rfl⟩)
end L2
namespace L2
def unitsIn (rs : List (List Int)) (Y : Int→Int) (f l : Int) : Int:=sumO (fun i=>if f≤colAt rs 0 i∧colAt rs 0 i≤l then Y i else 0) (uptoN rs.length)
end L2
namespace L2
theorem units_S (rs : List (List Int)) (Y : Int→Int) (f l : Int) : unitsIn rs Y f l=S ((uptoN rs.length).map fun i=>(colAt rs 0 i,Y i)) f l:=by
  rw [S_sum]
  unfold unitsIn
  rw [sumO_map]
end L2
namespace L2
open PySem PySem.Spec PySem.W PyProof.Rows
theorem takenTo_set {rs : List (List Int)} {ts : List Int} {k : Nat} {x f l : Int} (hk : k < ts.length) : ∀ n,takenTo rs (ts.set k x) f l n=takenTo rs ts f l n + if k < n∧f≤colAt rs 0 (k : Int)∧colAt rs 0 (k : Int)≤l then x - ts.getD k 0 else 0
  | 0=>by rw [if_neg (by omega)]; rfl
  | n + 1=>by
    have ih:=takenTo_set (rs:=rs) (x:=x) (f:=f) (l:=l) hk n
    show takenTo rs (ts.set k x) f l n + (if f≤colAt rs 0 (n : Int)∧colAt rs 0 (n : Int)≤l then (ts.set k x).getD n 0 else 0)=takenTo rs ts f l n + (if f≤colAt rs 0 (n : Int)∧colAt rs 0 (n : Int)≤l then ts.getD n 0 else 0) + _
    rw [ih]
    by_cases e : k=n
    · subst e
      have g : (ts.set k x).getD k 0=x:=by rw [List.getD_eq_getElem?_getD,List.getElem?_set_self hk]; rfl
      rw [g,if_neg (fun z : k < k∧_=>Nat.lt_irrefl _ z.1)]
      by_cases c : f≤colAt rs 0 (k : Int)∧colAt rs 0 (k : Int)≤l
      · rw [if_pos c,if_pos c,if_pos ⟨Nat.lt_succ_self _,c⟩]; omega
      · rw [if_neg c,if_neg c,if_neg (fun z=>c z.2)]
    · have g : (ts.set k x).getD n 0=ts.getD n 0:=by rw [List.getD_eq_getElem?_getD,List.getElem?_set_ne e,List.getD_eq_getElem?_getD]
      rw [g]
      generalize (if f≤colAt rs 0 (n : Int)∧colAt rs 0 (n : Int)≤l then ts.getD n 0 else 0)=y
      by_cases c : k < n∧f≤colAt rs 0 (k : Int)∧colAt rs 0 (k : Int)≤l
      · rw [if_pos c,if_pos ⟨by omega,c.2⟩]; omega
      · rw [if_neg c,if_neg (fun z=>c ⟨by omega,z.2⟩)]; omega
theorem slack_set {rs os : List (List Int)} {tm : Int} {ts : List Int} {k : Nat} {x f l : Int} (hk : k < ts.length) (hl : ts.length=rs.length) : slackF rs os tm (ts.set k x) f l=slackF rs os tm ts f l - if f≤colAt rs 0 (k : Int)∧colAt rs 0 (k : Int)≤l then x - ts.getD k 0 else 0:=by
  unfold slackF
  rw [slack_taken,slack_taken,takenTo_set hk]
  by_cases c : f≤colAt rs 0 (k : Int)∧colAt rs 0 (k : Int)≤l
  · rw [if_pos c,if_pos ⟨by omega,c⟩]; omega
  · rw [if_neg c,if_neg (fun z=>c z.2)]; omega
def insD (x : Int) : List Int→List Int
  | []=>[x]
  | d :: ds=>if x < d then x :: d :: ds else if x=d then d :: ds else d :: insD x ds
theorem mem_insD {x z : Int} : ∀ {ds : List Int},z∈insD x ds↔z=x∨z∈ds
  | []=>by simp [insD]
  | d :: ds=>by
    unfold insD
    split
    · simp
    · split
      · rename_i e; subst e; simp
      · rw [List.mem_cons,mem_insD,List.mem_cons]
        constructor
        · rintro (h | h | h) <;> simp [h]
        · rintro (h | h | h) <;> simp [h]
theorem insD_up {x : Int} : ∀ {ds : List Int},ds.Pairwise (· < ·)→(insD x ds).Pairwise (· < ·)
  | [],_=>by simp [insD]
  | d :: ds,h=>by
    obtain ⟨h1,h2⟩:=List.pairwise_cons.mp h
    unfold insD
    split
    · rename_i c
      refine List.pairwise_cons.mpr ⟨fun z hz=>?_,h⟩
      rcases List.mem_cons.mp hz with e | e
      · omega
      · have:=h1 z e; omega
    · rename_i c
      split
      · exact h
      · rename_i e
        refine List.pairwise_cons.mpr ⟨fun z hz=>?_,insD_up h2⟩
        rcases mem_insD.mp hz with y | y
        · omega
        · exact h1 z y
theorem insD_len {x : Int} : ∀ {ds : List Int},(insD x ds).length≤ds.length + 1
  | []=>Nat.le_refl _
  | d :: ds=>by
    unfold insD
    split
    · simp
    · split
      · simp
      · have:=insD_len (x:=x) (ds:=ds)
        simp; omega
theorem days_exist : ∀ rs : List (List Int),∃ ds,DaysOf rs ds
  | []=>⟨[],.nil,fun d=>⟨fun h=>(by cases h),fun ⟨r,h,_⟩=>(by cases h)⟩,Nat.le_refl _⟩
  | r :: rs=>by
    obtain ⟨ds,h1,h2,h3⟩:=days_exist rs
    refine ⟨insD (r.getD 0 0) ds,insD_up h1,fun d=>?_,Nat.le_trans insD_len (by rw [List.length_cons]; omega)⟩
    rw [mem_insD,h2 d]
    constructor
    · rintro (e | ⟨q,hq,e⟩)
      · exact ⟨r,.head _,e.symm⟩
      · exact ⟨q,.tail _ hq,e⟩
    · rintro ⟨q,hq,e⟩
      rcases List.mem_cons.mp hq with z | z
      · subst z; exact .inl e.symm
      · exact .inr ⟨q,z,e⟩
def NoLack (rs os : List (List Int)) (tm : Int) (ts : List Int) : Prop:=∀ ds,DaysOf rs ds→∀ p∈strOf ds,0≤slackF rs os tm ts p.1 p.2
theorem days_same {rs : List (List Int)} {ds ds' : List Int} (h : DaysOf rs ds) (h' : DaysOf rs ds') : ds' = ds:=days_uniq h' h fun _=>Iff.rfl
theorem NoLack.of {rs os : List (List Int)} {tm : Int} {ts ds : List Int} (hds : DaysOf rs ds) (h : ∀ p∈strOf ds,0≤slackF rs os tm ts p.1 p.2) : NoLack rs os tm ts:=fun ds' h'=>by rw [days_same hds h']; exact h
theorem foldL_nn {rs : List (List Int)} {tm e j : Int} : ∀ (is : List Int) (st : Int×List Int×List (List Int)),(∀ x∈st.2.1,0≤x)→∀ x∈(is.foldl (stepL rs tm e j) st).2.1,0≤x
  | [],st,h=>h
  | i :: is,st,h=>by
    rw [List.foldl_cons]
    refine foldL_nn is _ fun x hx=>?_
    unfold stepL at hx
    split at hx
    · rcases List.mem_or_eq_of_mem_set hx with z | z
      · exact h x z
      · rw [z]; omega
    · exact h x hx
theorem dealL_nn {rs os : List (List Int)} {tm : Int} {ages : List Int} : ∀ (outs : List Int) (st : List Int×List (List Int)),(∀ x∈st.1,0≤x)→∀ x∈(outs.foldl (outL rs os tm ages) st).1,0≤x
  | [],st,h=>h
  | j :: outs,st,h=>by
    rw [List.foldl_cons]
    exact dealL_nn outs _ (foldL_nn ages _ h)
theorem dealL_len {rs os : List (List Int)} {tm : Int} {ages : List Int} : ∀ (outs : List Int) (st : List Int×List (List Int)),(outs.foldl (outL rs os tm ages) st).1.length=st.1.length
  | [],st=>rfl
  | j :: outs,st=>by
    rw [List.foldl_cons,dealL_len outs]
    exact foldL_len ages _
theorem foldL_told {rs : List (List Int)} {tm e j : Int} : ∀ (is : List Int) (st : Int×List Int×List (List Int)),(is.foldl (stepL rs tm e j) st).2.2.length≤st.2.2.length + is.length
  | [],st=>Nat.le_refl _
  | i :: is,st=>by
    have a:=foldL_told (rs:=rs) (tm:=tm) (e:=e) (j:=j) is (stepL rs tm e j st i)
    have b : (stepL rs tm e j st i).2.2.length≤st.2.2.length + 1:=by
      unfold stepL
      split
      · rw [List.length_append,List.length_singleton]; exact Nat.le_refl _
      · exact Nat.le_succ _
    rw [List.foldl_cons,List.length_cons]
    omega
theorem dealL_told {rs os : List (List Int)} {tm : Int} {ages : List Int} : ∀ (outs : List Int) (st : List Int×List (List Int)),(outs.foldl (outL rs os tm ages) st).2.length≤st.2.length + outs.length * ages.length
  | [],st=>by rw [List.length_nil,Nat.zero_mul]; exact Nat.le_refl _
  | j :: outs,st=>by
    have a:=dealL_told (rs:=rs) (os:=os) (tm:=tm) (ages:=ages) outs (outL rs os tm ages st j)
    have b : (outL rs os tm ages st j).2.length≤st.2.length + ages.length:=foldL_told (rs:=rs) (tm:=tm) (e:=colAt os 0 j) (j:=j) ages (colAt os 1 j,st.1,st.2)
    rw [List.foldl_cons,List.length_cons,Nat.succ_mul]
    omega
theorem sum_nn0 : ∀ {xs : List Int},(∀ x∈xs,0≤x)→0≤xs.sum∧(xs.sum=0↔∀ x∈xs,x=0)
  | [],_=>⟨Int.le_refl _,by simp⟩
  | x :: xs,h=>by
    obtain ⟨a,b⟩:=sum_nn0 fun y hy=>h y (.tail _ hy)
    have h0:=h x (.head _)
    rw [List.sum_cons]
    refine ⟨by omega,fun z=>?_,fun z=>?_⟩
    · have e : xs.sum=0:=by omega
      exact List.forall_mem_cons.mpr ⟨by omega,b.mp e⟩
    · obtain ⟨z1,z2⟩:=List.forall_mem_cons.mp z
      rw [z1,b.mpr z2]; rfl
theorem left_sum {rs os : List (List Int)} {tm : Int} {ts ages outs : List Int} (ht : 0≤tm) (ha : Ordered (keyE rs) rs.length ages) (hb : Ordered (keyE os) os.length outs) (ho : ∀ r∈os,0≤r.getD 1 0) (hl : ts.length=rs.length) (hts : ∀ u∈ts,0≤u) :
    0≤(dealL rs os tm ages outs ts).1.sum∧((dealL rs os tm ages outs ts).1.sum=0↔NoLack rs os tm ts):=by
  obtain ⟨ds,hds⟩:=days_exist rs
  have nn:=dealL_nn (rs:=rs) (os:=os) (tm:=tm) (ages:=ages) outs (ts,[]) hts
  have ln:=dealL_len (rs:=rs) (os:=os) (tm:=tm) (ages:=ages) outs (ts,[])
  obtain ⟨s0,s1⟩:=sum_nn0 nn
  refine ⟨s0,?_⟩
  have e1 : NoLack rs os tm ts↔∀ p∈strOf ds,0≤slackF rs os tm ts p.1 p.2:=⟨fun h=>h ds hds,fun h=>.of hds h⟩
  rw [e1,← left_iff ht hds ha hb ho hl hts]
  refine s1.trans ?_
  show (∀ x∈(dealL rs os tm ages outs ts).1,x=0)↔_
  have ln' : (dealL rs os tm ages outs ts).1.length=rs.length:=ln.trans hl
  constructor
  · intro h i hi
    have:=uptoN_mem.mp (ha.1.mem_iff.mp hi)
    have hk : i.toNat < (dealL rs os tm ages outs ts).1.length:=by omega
    rw [List.getD_eq_getElem?_getD,List.getElem?_eq_getElem hk]
    exact h _ (List.getElem_mem hk)
  · intro h x hx
    obtain ⟨k,hk,e⟩:=List.getElem_of_mem hx
    have:=h ((k : Nat) : Int) (ha.1.mem_iff.mpr (uptoN_mem.mpr ⟨by omega,by omega⟩))
    rw [Int.toNat_natCast,List.getD_eq_getElem?_getD,List.getElem?_eq_getElem hk,e] at this
    exact this
def FreeL (rs os : List (List Int)) (tm : Int) (ts : List Int) (i M : Int) : Prop:=∀ ds,DaysOf rs ds→FreeIs (strOf ds) (slackF rs os tm ts) (colAt rs 0 i) (colAt rs 1 i - ts.getD i.toNat 0) M
theorem more_iff {rs os : List (List Int)} {tm : Int} {ts ds : List Int} {k : Nat} {m : Int} (hds : DaysOf rs ds) (hk : k < ts.length) (hl : ts.length=rs.length) (h : NoLack rs os tm ts) : NoLack rs os tm (ts.set k (ts.getD k 0 + m))↔∀ p∈strOf ds,p.1≤colAt rs 0 (k : Int)→colAt rs 0 (k : Int)≤p.2→m≤slackF rs os tm ts p.1 p.2:=by
  constructor
  · intro z p hp a b
    have:=z ds hds p hp
    rw [slack_set hk hl,if_pos ⟨a,b⟩] at this
    omega
  · intro z
    refine .of hds fun p hp=>?_
    rw [slack_set hk hl]
    by_cases c : p.1≤colAt rs 0 (k : Int)∧colAt rs 0 (k : Int)≤p.2
    · rw [if_pos c]
      have:=z p hp c.1 c.2
      omega
    · rw [if_neg c]
      have:=h ds hds p hp
      omega
theorem free_of {rs os : List (List Int)} {tm : Int} {ts : List Int} {k : Nat} {M : Int} (hk : k < ts.length) (hl : ts.length=rs.length) (h : NoLack rs os tm ts) (m1 : M≤colAt rs 1 (k : Int) - ts.getD k 0) (ok : NoLack rs os tm (ts.set k (ts.getD k 0 + M)))
    (no : M < colAt rs 1 (k : Int) - ts.getD k 0→¬ NoLack rs os tm (ts.set k (ts.getD k 0 + (M + 1)))) : FreeL rs os tm ts (k : Int) M:=by
  intro ds hds
  rw [more_iff hds hk hl h] at ok
  rw [more_iff hds hk hl h] at no
  refine ⟨by rw [Int.toNat_natCast]; exact m1,ok,?_⟩
  rw [Int.toNat_natCast]
  by_cases c : M=colAt rs 1 (k : Int) - ts.getD k 0
  · exact .inl c
  · refine .inr ?_
    have z:=no (by omega)
    refine Classical.byContradiction fun y=>z fun p hp a b=>?_
    have e:=ok p hp a b
    by_cases w : M=slackF rs os tm ts p.1 p.2
    · exact absurd ⟨p,hp,a,b,w⟩ y
    · omega
theorem bestGo_slack {rs os : List (List Int)} {tm : Int} {ks : List (Int×Int)} : ∀ (is : List Int) (v : Int→Int→Int) (cs : List Int),(∀ f l,v f l=slackF rs os tm cs f l)→is.Nodup→(∀ i∈is,0≤i∧i.toNat < cs.length∧cs.getD i.toNat 0=0)→cs.length=rs.length→∀ f l,(bestGo ks rs is v cs).1 f l=slackF rs os tm (bestGo ks rs is v cs).2 f l
  | [],v,cs,h,_,_,_=>h
  | i :: is,v,cs,h,nd,hi,hl=>by
    obtain ⟨n1,n2⟩:=List.nodup_cons.mp nd
    obtain ⟨i0,i1,i2⟩:=hi i (.head _)
    refine bestGo_slack is _ _ (fun f l=>?_) n2 (fun j hj=>?_) (by rw [List.length_set]; exact hl)
    · rw [slack_set i1 hl,i2,show ((i.toNat : Nat) : Int)=i by omega,← h f l]
      unfold lessF
      split <;> omega
    · obtain ⟨j0,j1,j2⟩:=hi j (.tail _ hj)
      have ne : i.toNat≠j.toNat:=fun z=>n1 (by rw [show i=j by omega]; exact hj)
      refine ⟨j0,by rw [List.length_set]; exact j1,?_⟩
      rw [List.getD_eq_getElem?_getD,List.getElem?_set_ne ne,← List.getD_eq_getElem?_getD]
      exact j2
theorem slack_zero {rs os : List (List Int)} {tm f l : Int} {n : Nat} : slackF rs os tm (List.replicate n 0) f l=goingOf os tm f l:=by
  unfold slackF
  rw [slack_taken]
  have : ∀ m,takenTo rs (List.replicate n 0) f l m=0:=by
    intro m
    induction m with
    | zero=>rfl
    | succ k ih=>
      show takenTo rs (List.replicate n 0) f l k + (if f≤colAt rs 0 (k : Int)∧colAt rs 0 (k : Int)≤l then (List.replicate n (0 : Int)).getD k 0 else 0)=0
      rw [ih,List.getD_eq_getElem?_getD,List.getElem?_replicate]
      have g : ((if k < n then some (0 : Int) else none).getD 0)=0:=by split <;> rfl
      rw [g]
      split <;> rfl
  rw [this]; omega
def gapOf (σ : List (Option V)) : Nat:=match σ[5]?,σ[6]? with
  | some (some (V.int lo)),some (some (V.int hi))=>(hi - lo).toNat
  | _,_=>0
theorem set_cat (ts : List Int) {k : Nat} (x : Int) (h : k < ts.length) : ts.take k ++ [x] ++ ts.drop (k + 1)=ts.set k x:=by
  rw [List.set_eq_take_append_cons_drop,if_pos h,List.append_assoc]; rfl
def spDealT (tb : Tbs) : Sp:=fun vs H Q _=>∃ (a b t : Addr) (tm : Int) (rs os : List (List Int)) (ts : List Int),vs=[.ref a,.ref b,.int tm,.ref t]∧Tb tb H∧Rows H a rs∧(∀ r∈rs,r.length=3)∧rs.length≤31∧Rows H b os∧(∀ r∈os,r.length=2)∧os.length≤31∧IntsAt H t ts∧ts.length=rs.length∧
  ∀ q l ages outs H',H q=none→H l=none→Ordered (keyE rs) rs.length ages→Ordered (keyE os) os.length outs→Same H H'→Rows H' l (dealL rs os tm ages outs ts).2→H' q=some (.tup [.ref l,.int (dealL rs os tm ages outs ts).1.sum])→Q (.ref q) H'
structure LotsOk (rs os : List (List Int)) (tm : Int) : Prop where
  h3 : ∀ r∈rs,r.length=3
  rn : rs.length≤31
  h2 : ∀ r∈os,r.length=2
  on : os.length≤31
  r0 : ∀ r∈rs,0≤r.getD 1 0
  o0 : ∀ r∈os,0≤r.getD 1 0
  t0 : 0≤tm
  rd : ∀ r∈rs,dutyOk r
  rc : ∀ r∈rs,r.getD 1 0≤10000000000
def spMostT (tb : Tbs) : Sp:=fun vs H Q _=>∃ (a b t : Addr) (tm : Int) (rs os : List (List Int)) (ts : List Int) (k : Nat),vs=[.ref a,.ref b,.int tm,.ref t,.int (k : Int)]∧Tb tb H∧Rows H a rs∧Rows H b os∧LotsOk rs os tm∧IntsAt H t ts∧ts.length=rs.length∧k < rs.length∧(∀ u∈ts,0≤u)∧ts.getD k 0≤colAt rs 1 (k : Int)∧NoLack rs os tm ts∧
  ∀ M H',FreeL rs os tm ts (k : Int) M→Same H H'→Q (.int M) H'
def spBestT (tb : Tbs) : Sp:=fun vs H Q _=>∃ (a b : Addr) (tm : Int) (rs os : List (List Int)),vs=[.ref a,.ref b,.int tm]∧Tb tb H∧Rows H a rs∧Rows H b os∧LotsOk rs os tm∧∀ l cs H',H l=none→BestIs rs os tm cs→Same H H'→IntsAt H' l cs→Q (.ref l) H'
end L2
namespace K07
open PySem L2
abbrev s_eldestL : Stmt:=top 42
abbrev n_eldestL : List Str:=["_law_rows"]
abbrev p_eldestL : List Str:=["_law_rows"]
theorem sc_eldestL : FnScope n_eldestL p_eldestL (defScope s_eldestL):=⟨rfl,rfl,rfl,by decide +kernel,rfl,by decide +kernel,by decide +kernel⟩
abbrev lq_eldestL : Str:=("_law_eldest" : Str) ++ ".<locals>." ++ "<lambda>"
abbrev lp_eldestL : PySem.Pos:=lamPos s_eldestL
abbrev s_dearestL : Stmt:=top 41
abbrev n_dearestL : List Str:=["_law_lots"]
abbrev p_dearestL : List Str:=["_law_lots"]
theorem sc_dearestL : FnScope n_dearestL p_dearestL (defScope s_dearestL):=⟨rfl,rfl,rfl,by decide +kernel,rfl,by decide +kernel,by decide +kernel⟩
abbrev lq_dearestL : Str:=("_law_dearest" : Str) ++ ".<locals>." ++ "<lambda>"
abbrev lp_dearestL : PySem.Pos:=lamPos s_dearestL
abbrev s_deal : Stmt:=top 43
abbrev n_deal : List Str:=["_law_lots","_law_outs","_law_term","_law_taken","_law_left","_law_found","_law_order","_law_out","_law_day","_law_count","_law_lot","_law_some"]
abbrev p_deal : List Str:=["_law_lots","_law_outs","_law_term","_law_taken"]
theorem sc_deal : FnScope n_deal p_deal (defScope s_deal):=⟨rfl,rfl,rfl,by decide +kernel,rfl,by decide +kernel,by decide +kernel⟩
abbrev s_most : Stmt:=top 44
abbrev n_most : List Str:=["_law_lots","_law_outs","_law_term","_law_taken","_law_at","_law_low","_law_high","_law_middle","_law_tried"]
abbrev p_most : List Str:=["_law_lots","_law_outs","_law_term","_law_taken","_law_at"]
theorem sc_most : FnScope n_most p_most (defScope s_most):=⟨rfl,rfl,rfl,by decide +kernel,rfl,by decide +kernel,by decide +kernel⟩
abbrev s_bestL : Stmt:=top 45
abbrev n_bestL : List Str:=["_law_lots","_law_outs","_law_term","_law_taken","_law_at"]
abbrev p_bestL : List Str:=["_law_lots","_law_outs","_law_term"]
theorem sc_bestL : FnScope n_bestL p_bestL (defScope s_bestL):=⟨rfl,rfl,rfl,by decide +kernel,rfl,by decide +kernel,by decide +kernel⟩
section
variable {P : Program} {w : World} {K : PySem.W.Frag} {mg : Str→Option Value} {base : Heap} {f c PT : Addr} {fd : FuncData} {tb : Tbs} (B : Bn mg)
include B
theorem ok_eldestL (BM : BMain mg base) (hc : fd.code = .ref c) (hC : PySem.W.codeHdIn K c PT=true) (ht : (PT,lq_eldestL,lp_eldestL)∈tb) (F : Fun K "_law_eldest" "_law_eldest" s_eldestL f fd) : FnOk P w K mg base CX0 1 f fd p_eldestL (spOrdT tb keyE okE):=by
  refine F.okC hc sc_eldestL (fun vs H Q E h=>?_) (fun A outer s H vs Q E hr h=>?_)
  · obtain ⟨a,rs,rfl,_⟩:=h; rfl
  obtain ⟨a,rs,rfl,hT,hR,h60,hok,q⟩:=h
  refine ⟨_,(pss_one (ps_ret (pe_sortK (N':=["_law_at","_law_rows"]) (ix:=[none,some 0]) (p := "_law_at") (tb:=(tTup (tCons (tOp (rIxT K) (tOp (rIxL K) (tVar 1) (tVar 0)) (tC (.int 0))) (tCons (tVar 0) tNil)))) hr (pa_c (pe_callTy (call_list_rng rfl) rfl B.list PyProof.Rows.boot_list (pa_c (pe_callTy call_rng1 rfl B.range PyProof.Rows.boot_range (pa_c (pe_callB call_len_seq rfl B.len PySem.boot_len (pa_c (pv 0) pa_nil)) pa_nil)) pa_nil)) pa_nil) rfl B.sorted PyProof.Rows.boot_sorted rfl rfl hC BM rfl rfl (lam_scope (N:=n_eldestL) (D:=defScope s_eldestL) (by decide +kernel)) (fun _ _ _ _ _=>rfl) (fun A f c s H=>(pe_tup (pa_c (pe_ix ix_tup (pe_ix ix_list (pv 1) (pv 0) (fun _ _=>rfl)) pe_int (fun _ _=>rfl)) (pa_c (pv 0) pa_nil))))))),?_⟩
  obtain ⟨xs,ex,hx⟩:=hR.tups
  have lx:=hx.1
  refine ⟨_,rfl,a,xs,rfl,.inl (SqL.of ex),(xs.length : Int),rfl,fun g hg=>?_⟩
  refine ⟨g,xs.length,rfl,upd_same,by omega,fun l hl=>?_⟩
  have sg:=same_new (H:=H) hg (.rng 0 (xs.length : Int))
  have sl:=same_new hl (.lst ((uptoN xs.length).map V.int))
  have s1:=sg.trans sl
  refine ⟨l,uptoN xs.length,keyE rs,2,rfl,upd_same,by rw [uptoN_length]; omega,s1 _ _ (hT _ ht),by decide,fun n hn=>rfl,fun n hn H2 h2=>?_,fun D ms H' hD hp ho s2 e2=>?_⟩
  · obtain ⟨n0,n1⟩:=uptoN_mem.mp hn
    obtain ⟨k,rfl⟩ : ∃ k : Nat,n=(k : Int):=⟨n.toNat,by omega⟩
    have hk : k < xs.length:=by omega
    obtain ⟨p,r,ep,er,hp⟩:=hx.at (List.getElem?_eq_getElem hk)
    have eix : atI xs (k : Int)=some (.ref p):=atI_nat (by rw [List.getElem?_eq_getElem hk,ep])
    obtain ⟨d,r',rfl⟩ : ∃ d r',r=d :: r':=by
      match r,hok r (List.mem_of_getElem? er) with
      | d :: r',_=>exact ⟨d,r',rfl⟩
    have ex2 : H2 a=some (.lst xs):=h2 _ _ (s1 _ _ ex) (by intro z; cases z) (by intro z; cases z)
    have hp2 : H2 p=some (.tup ((d :: r').map V.int)):=h2 _ _ (s1 _ _ hp) (by intro z; cases z) (by intro z; cases z)
    refine ⟨_,rfl,_,rfl,a,xs,_,.ref p,rfl,rfl,SqL.of ex2,eix,p,_,_,.int d,rfl,rfl,SqT.of hp2,atI_some (by decide) rfl,_,rfl,by show 2≤sizeLine; decide,fun t ht=>⟨t,rfl,same_new ht _,?_⟩⟩
    have e2 : keyE rs ((k : Nat) : Int)=[d,(k : Int)]:=by
      unfold keyE colAt
      rw [row_at er]; rfl
    rw [e2]
    exact upd_same
  · rw [lx] at hp
    exact q D ms H' (s1.free hD) (s1.trans s2) ⟨hp,ho⟩ e2
theorem ok_dearestL (BM : BMain mg base) (hc : fd.code = .ref c) (hC : PySem.W.codeHdIn K c PT=true) (ht : (PT,lq_dearestL,lp_dearestL)∈tb) (F : Fun K "_law_dearest" "_law_dearest" s_dearestL f fd) : FnOk P w K mg base CX0 1 f fd p_dearestL (spOrdT tb keyD okD):=by
  refine F.okC hc sc_dearestL (fun vs H Q E h=>?_) (fun A outer s H vs Q E hr h=>?_)
  · obtain ⟨a,rs,rfl,_⟩:=h; rfl
  obtain ⟨a,rs,rfl,hT,hR,h60,hok,q⟩:=h
  refine ⟨_,(pss_one (ps_ret (pe_sortK (N':=["_law_at","_law_lots"]) (ix:=[none,some 0]) (p := "_law_at") (tb:=(tTup (tCons (tUn (rU fun i=>.int (-i)) (tOp (rIxT K) (tOp (rIxL K) (tVar 1) (tVar 0)) (tC (.int 2)))) (tCons (tOp (rIxT K) (tOp (rIxL K) (tVar 1) (tVar 0)) (tC (.int 0))) (tCons (tVar 0) tNil))))) hr (pa_c (pe_callTy (call_list_rng rfl) rfl B.list PyProof.Rows.boot_list (pa_c (pe_callTy call_rng1 rfl B.range PyProof.Rows.boot_range (pa_c (pe_callB call_len_seq rfl B.len PySem.boot_len (pa_c (pv 0) pa_nil)) pa_nil)) pa_nil)) pa_nil) rfl B.sorted PyProof.Rows.boot_sorted rfl rfl hC BM rfl rfl (lam_scope (N:=n_dearestL) (D:=defScope s_dearestL) (by decide +kernel)) (fun _ _ _ _ _=>rfl) (fun A f c s H=>(pe_tup (pa_c (pe_un un_neg (pe_ix ix_tup (pe_ix ix_list (pv 1) (pv 0) (fun _ _=>rfl)) pe_int (fun _ _=>rfl))) (pa_c (pe_ix ix_tup (pe_ix ix_list (pv 1) (pv 0) (fun _ _=>rfl)) pe_int (fun _ _=>rfl)) (pa_c (pv 0) pa_nil)))))))),?_⟩
  obtain ⟨xs,ex,hx⟩:=hR.tups
  have lx:=hx.1
  refine ⟨_,rfl,a,xs,rfl,.inl (SqL.of ex),(xs.length : Int),rfl,fun g hg=>?_⟩
  refine ⟨g,xs.length,rfl,upd_same,by omega,fun l hl=>?_⟩
  have sg:=same_new (H:=H) hg (.rng 0 (xs.length : Int))
  have sl:=same_new hl (.lst ((uptoN xs.length).map V.int))
  have s1:=sg.trans sl
  refine ⟨l,uptoN xs.length,keyD rs,3,rfl,upd_same,by rw [uptoN_length]; omega,s1 _ _ (hT _ ht),by decide,fun n hn=>rfl,fun n hn H2 h2=>?_,fun D ms H' hD hp ho s2 e2=>?_⟩
  · obtain ⟨n0,n1⟩:=uptoN_mem.mp hn
    obtain ⟨k,rfl⟩ : ∃ k : Nat,n=(k : Int):=⟨n.toNat,by omega⟩
    have hk : k < xs.length:=by omega
    obtain ⟨p,r,ep,er,hp⟩:=hx.at (List.getElem?_eq_getElem hk)
    have eix : atI xs (k : Int)=some (.ref p):=atI_nat (by rw [List.getElem?_eq_getElem hk,ep])
    obtain ⟨d,cc,u,rfl⟩:=len3 (hok r (List.mem_of_getElem? er))
    have ex2 : H2 a=some (.lst xs):=h2 _ _ (s1 _ _ ex) (by intro z; cases z) (by intro z; cases z)
    have hp2 : H2 p=some (.tup ([d,cc,u].map V.int)):=h2 _ _ (s1 _ _ hp) (by intro z; cases z) (by intro z; cases z)
    refine ⟨_,rfl,_,rfl,a,xs,_,.ref p,rfl,rfl,SqL.of ex2,eix,p,_,_,.int u,rfl,rfl,SqT.of hp2,rfl,u,rfl,_,rfl,_,rfl,a,xs,_,.ref p,rfl,rfl,SqL.of ex2,eix,p,_,_,.int d,rfl,rfl,SqT.of hp2,rfl,_,rfl,by show 3≤sizeLine; decide,fun t ht=>⟨t,rfl,same_new ht _,?_⟩⟩
    have e2 : keyD rs ((k : Nat) : Int)=[-u,d,(k : Int)]:=by
      unfold keyD colAt
      rw [row_at er]; rfl
    rw [e2]
    exact upd_same
  · rw [lx] at hp
    exact q D ms H' (s1.free hD) (s1.trans s2) ⟨hp,ho⟩ e2
theorem ok_deal (G_eldestL : Cal P w K mg base CX0 1 "_law_eldest" p_eldestL (spOrdT tb keyE okE)) (F : Fun K "_law_deal" "_law_deal" s_deal f fd) : FnOk P w K mg base CX0 2 f fd p_deal (spDealT tb):=by
  refine F.ok sc_deal (fun vs H Q E h=>?_) (fun cdv A outer s H vs Q E hr h=>?_)
  · obtain ⟨a,b,t,tm,rs,os,ts,rfl,_⟩:=h; rfl
  obtain ⟨a,b,t,tm,rs,os,ts,rfl,hTb,hR,h3,rn,hO,h2,on,hT,hl,q⟩:=h
  refine ⟨_,(pss_cons (ps_set (i:=4) sc_deal.nd rfl (Or.inl rfl) (pe_callTy call_list_of rfl B.list PyProof.Rows.boot_list (pa_c (pv 3) pa_nil)))
    (pss_cons (ps_set (i:=5) sc_deal.nd rfl (Or.inl rfl) (pe_lst pa_nil))
    (pss_cons (ps_set (i:=6) sc_deal.nd rfl (Or.inl rfl) (pe_cal G_eldestL hr rfl pass0 (pa_c (pv 0) pa_nil)))
    (pss_cons (ps_for PassesOwn.never rfl (pi_list (pe_cal G_eldestL hr rfl pass0 (pa_c (pv 1) pa_nil))) (pg_name (i:=7) sc_deal.nd rfl (Or.inl rfl)) (pss_cons (ps_asg (pe_ix ix_list (pv 1) (pv 7) (fun _ _=>rfl)) (pg_tup rfl (pgs_cons (pg_name (i:=8) sc_deal.nd rfl (Or.inl rfl)) (pgs_cons (pg_name (i:=9) sc_deal.nd rfl (Or.inl rfl)) pgs_nil))))
      (pss_one (ps_for PassesOwn.never rfl (pi_list (pv 6)) (pg_name (i:=10) sc_deal.nd rfl (Or.inl rfl)) (pss_cons (ps_set (i:=11) sc_deal.nd rfl (Or.inl rfl) (pe_callB (call_min2 rfl) rfl B.min PyProof.Rows.boot_min (pa_c (pv 9) (pa_c (pe_ix ix_list (pv 4) (pv 10) (fun _ _=>rfl)) pa_nil))))
        (pss_one (ps_if (PW.pt (pw_and (pt_cmpR op_gt (pv 11) pe_int (nomark _)) (pw_and (pt_cmpR op_le (pe_op op_sub (pv 8) (pv 2)) (pe_ix ix_tup (pe_ix ix_list (pv 0) (pv 10) (fun _ _=>rfl)) pe_int (fun _ _=>rfl)) (nomark _)) (pw_and1 (pt_cmpR op_le (pe_ix ix_tup (pe_ix ix_list (pv 0) (pv 10) (fun _ _=>rfl)) pe_int (fun _ _=>rfl)) (pv 8) (nomark _)))))) (pss_cons (ps_expr (pe_bm PySem.F.plainAttrs_list PySem.F.slot_list_append PySem.F.type_list_append mt_append (pv 5) (pa_c (pe_tup (pa_c (pv 10) (pa_c (pv 7) (pa_c (pv 11) pa_nil)))) pa_nil)))
          (pss_cons (ps_asg (pe_op op_sub (pe_ix ix_list (pv 4) (pv 10) (fun _ _=>rfl)) (pv 11)) (pg_sub (pv 4) (pv 10) set_list))
          (pss_one (ps_set (i:=9) sc_deal.nd rfl (Or.inl rfl) (pe_op op_sub (pv 9) (pv 11)))))) pss_nil)))))))
    (pss_one (ps_ret (pe_tup (pa_c (pv 5) (pa_c (pe_callB (call_sumI rfl) rfl B.sum PyProof.Rows.boot_sum (pa_c (pv 4) pa_nil)) pa_nil))))))))),?_⟩
  refine ⟨_,rfl,t,_,rfl,.inl (SqL.of hT),fun lf hlf=>?_⟩
  have s1:=same_new (H:=H) hlf (.lst (ts.map V.int))
  have I1 : IntsAt (L2.upd H lf (.lst (ts.map V.int))) lf ts:=upd_same
  generalize L2.upd H lf (.lst (ts.map V.int))=H1 at *
  refine ⟨by show 0≤sizeLine; decide,fun tl htl=>?_⟩
  have s2:=same_new (H:=H1) htl (.lst [])
  have I2 : IntsAt (L2.upd H1 tl (.lst [])) lf ts:=s2 _ _ I1
  have R2 : Rows (L2.upd H1 tl (.lst [])) tl []:=Rows.nil upd_same
  have htl0 : H tl=none:=s1.free htl
  have nlt : lf≠tl:=ne_of_none I1 htl
  generalize L2.upd H1 tl (.lst [])=H2 at *
  have s12:=s1.trans s2
  refine ⟨_,rfl,a,rs,rfl,hTb.same s12,hR.same s12,by omega,fun r hr=>by unfold okE; rw [h3 r hr]; decide,fun ag ages H3 hag s3 hages e3=>?_⟩
  have s13:=s12.trans s3
  have I3 : IntsAt H3 lf ts:=s3 _ _ I2
  have R3:=R2.same s3
  have nla : lf≠ag:=ne_of_none I2 hag
  have nta : tl≠ag:=by obtain ⟨z,ez,_⟩:=R2.get; exact ne_of_none ez hag
  have lag : ages.length=rs.length:=by rw [hages.1.length_eq,uptoN_length]
  refine ⟨_,rfl,b,os,rfl,hTb.same s13,hO.same s13,by omega,fun r hr=>by unfold okE; rw [h2 r hr]; decide,fun ol outs H4 hol s4 houts e4=>?_⟩
  have lou : outs.length=os.length:=by rw [houts.1.length_eq,uptoN_length]
  have nlo : lf≠ol:=ne_of_none I3 hol
  have nto : tl≠ol:=by obtain ⟨z,ez,_⟩:=R3.get; exact ne_of_none ez hol
  have s14:=s13.trans s4
  refine ⟨ol,rfl,⟨_,SqL.of e4⟩,?_⟩
  refine for_list (xs:=outs.map V.int) (fun i σ H5=>∃ o7 o8 o9 o10 o11,σ=[some (.ref a),some (.ref b),some (.int tm),some (.ref t),some (.ref lf),some (.ref tl),some (.ref ag),o7,o8,o9,o10,o11]∧Same H H5∧H5 ol=some (.lst (outs.map V.int))∧H5 ag=some (.lst (ages.map V.int))∧IntsAt H5 lf ((outs.take i).foldl (outL rs os tm ages) (ts,[])).1∧Rows H5 tl ((outs.take i).foldl (outL rs os tm ages) (ts,[])).2) ⟨_,_,_,_,_,rfl,s14,e4,s4 _ _ e3,s4 _ _ I3,R3.same s4⟩ ?_ ?_ ?_
  · rintro i σ H5 hi ⟨o7,o8,o9,o10,o11,rfl,sm,e5,_⟩
    exact SqL.of e5
  · rintro i x σ H5 exi ⟨o7,o8,o9,o10,o11,rfl,sm,e5,a5,I5,R5⟩
    obtain ⟨j',rfl,ej⟩:=ints_at exi
    have hj:=uptoN_mem.mp (houts.1.mem_iff.mp (List.mem_of_getElem? ej))
    obtain ⟨j,rfl⟩ : ∃ k : Nat,j' = (k : Int):=⟨j'.toNat,by omega⟩
    obtain ⟨xs,ex,hx⟩:=hR.tups
    obtain ⟨ys,ey,hy⟩:=hO.tups
    have lx:=hx.1
    have ly:=hy.1
    have hjy : j < ys.length:=by omega
    obtain ⟨po,r,ep,er,hpo⟩:=hy.at (List.getElem?_eq_getElem hjy)
    obtain ⟨dd,cc,rfl⟩:=len2 (h2 r (List.mem_of_getElem? er))
    have c0 : colAt os 0 (j : Int)=dd:=by unfold colAt; rw [row_at er]; rfl
    have c1 : colAt os 1 (j : Int)=cc:=by unfold colAt; rw [row_at er]; rfl
    have eix : atI ys (j : Int)=some (.ref po):=atI_nat (by rw [List.getElem?_eq_getElem hjy,ep])
    refine ⟨_,rfl,_,rfl,b,ys,_,.ref po,rfl,rfl,SqL.of (sm _ _ ey),eix,po,_,rfl,SqT.of (sm _ _ hpo),rfl,_,_,rfl,_,_,rfl,rfl,?_⟩
    have fold : (outs.take (i + 1)).foldl (outL rs os tm ages) (ts,[])=(ages.foldl (stepL rs tm dd (j : Int)) (cc,((outs.take i).foldl (outL rs os tm ages) (ts,[])).1,((outs.take i).foldl (outL rs os tm ages) (ts,[])).2)).2:=by
      rw [getElem_next ej,List.foldl_append]
      show outL rs os tm ages _ (j : Int)=_
      unfold outL
      rw [c0,c1]
    rw [fold]
    have len:=dealL_len (rs:=rs) (os:=os) (tm:=tm) (ages:=ages) (outs.take i) (ts,[])
    have len2:=dealL_told (rs:=rs) (os:=os) (tm:=tm) (ages:=ages) (outs.take i) (ts,[])
    have li : (outs.take i).length≤30:=by rw [List.length_take]; have:=(List.getElem?_eq_some_iff.mp ej).1; omega
    generalize ((outs.take i).foldl (outL rs os tm ages) (ts,[])).1=left at *
    generalize ((outs.take i).foldl (outL rs os tm ages) (ts,[])).2=told at *
    have tlen : told.length≤930:=by
      have h9 : (outs.take i).length * ages.length≤30 * 31:=Nat.mul_le_mul li (by omega)
      have h0 : ([] : List (List Int)).length=0:=rfl
      dsimp only at len2
      omega
    have llen : left.length=rs.length:=len.trans hl
    clear fold len len2
    refine ⟨_,rfl,ag,rfl,⟨_,SqL.of a5⟩,?_⟩
    refine for_list (xs:=ages.map V.int) (fun k σ H7=>∃ o10 o11,σ=[some (.ref a),some (.ref b),some (.int tm),some (.ref t),some (.ref lf),some (.ref tl),some (.ref ag),some (.int (j : Int)),some (.int dd),some (.int ((ages.take k).foldl (stepL rs tm dd (j : Int)) (cc,left,told)).1),o10,o11]∧Same H H7∧H7 ol=some (.lst (outs.map V.int))∧H7 ag=some (.lst (ages.map V.int))∧IntsAt H7 lf ((ages.take k).foldl (stepL rs tm dd (j : Int)) (cc,left,told)).2.1∧Rows H7 tl ((ages.take k).foldl (stepL rs tm dd (j : Int)) (cc,left,told)).2.2) ⟨_,_,rfl,sm,e5,a5,I5,R5⟩ ?_ ?_ ?_
    · rintro k σ H7 hk ⟨o10,o11,rfl,s7,_,a7,_⟩
      exact SqL.of a7
    · rintro k x σ H7 exk ⟨o10,o11,rfl,s7,e7,a7,I7,R7⟩
      obtain ⟨v',rfl,ev⟩:=ints_at exk
      have hv:=uptoN_mem.mp (hages.1.mem_iff.mp (List.mem_of_getElem? ev))
      obtain ⟨v,rfl⟩ : ∃ k : Nat,v' = (k : Int):=⟨v'.toNat,by omega⟩
      have fl:=foldL_len (rs:=rs) (tm:=tm) (e:=dd) (j:=(j : Int)) (ages.take k) (cc,left,told)
      have ft:=foldL_told (rs:=rs) (tm:=tm) (e:=dd) (j:=(j : Int)) (ages.take k) (cc,left,told)
      have kl : k < ages.length:=(List.getElem?_eq_some_iff.mp ev).1
      have tk : (ages.take k).length=k:=by rw [List.length_take]; omega
      have next : (ages.take (k + 1)).foldl (stepL rs tm dd (j : Int)) (cc,left,told)=stepL rs tm dd (j : Int) ((ages.take k).foldl (stepL rs tm dd (j : Int)) (cc,left,told)) (v : Int):=by
        rw [getElem_next ev,List.foldl_append]; rfl
      rw [next]
      generalize (ages.take k).foldl (stepL rs tm dd (j : Int)) (cc,left,told)=st at *
      obtain ⟨wt,lft,tld⟩:=st
      dsimp only at fl ft I7 R7 ⊢
      have hvx : v < xs.length:=by omega
      obtain ⟨pl,rl,epl,erl,hpl⟩:=hx.at (List.getElem?_eq_getElem hvx)
      obtain ⟨ld,lc,lu,rfl⟩:=len3 (h3 rl (List.mem_of_getElem? erl))
      have l0 : colAt rs 0 (v : Int)=ld:=by unfold colAt; rw [row_at erl]; rfl
      have eil : atI xs (v : Int)=some (.ref pl):=atI_nat (by rw [List.getElem?_eq_getElem hvx,epl])
      have hvl : v < lft.length:=by omega
      have eiv : atI (lft.map V.int) (v : Int)=some (.int lft[v]):=atI_ints rfl hvl
      have gv : lft.getD (v : Int).toNat 0=lft[v]:=by rw [Int.toNat_natCast,List.getD_eq_getElem?_getD,List.getElem?_eq_getElem hvl]; rfl
      refine ⟨_,rfl,_,rfl,_,rfl,lf,_,_,.int lft[v],rfl,rfl,SqL.of I7,eiv,_,_,rfl,?_⟩
      have em : (if lft[v] < wt then lft[v] else wt)=min wt lft[v]:=by
        split <;> omega
      rw [em]
      have hstep : stepL rs tm dd (j : Int) (wt,lft,tld) (v : Int)=if 0 < min wt lft[v]∧dd - tm≤ld∧ld≤dd then (wt - min wt lft[v],lft.set v (lft[v] - min wt lft[v]),tld ++ [[(v : Int),(j : Int),min wt lft[v]]]) else (wt,lft,tld):=by
        unfold stepL
        dsimp only
        rw [gv,l0,Int.toNat_natCast]
      rw [hstep]
      generalize hm : min wt lft[v]=m
      refine ⟨_,rfl,_,_,rfl,rfl,_,rfl,?_⟩
      by_cases c : 0 < m
      · rw [decide_eq_true c]
        refine iteT ⟨_,rfl,_,rfl,_,_,rfl,rfl,_,rfl,_,rfl,a,xs,_,.ref pl,rfl,rfl,SqL.of (s7 _ _ ex),eil,pl,_,_,.int ld,rfl,rfl,SqT.of (s7 _ _ hpl),rfl,_,_,rfl,rfl,_,rfl,?_⟩
        by_cases d1 : dd - tm≤ld
        · rw [decide_eq_true d1]
          refine iteT ⟨_,rfl,_,rfl,a,xs,_,.ref pl,rfl,rfl,SqL.of (s7 _ _ ex),eil,pl,_,_,.int ld,rfl,rfl,SqT.of (s7 _ _ hpl),rfl,_,rfl,_,_,rfl,rfl,_,rfl,?_⟩
          by_cases d2 : ld≤dd
          · rw [decide_eq_true d2,if_pos ⟨c,d1,d2⟩]
            refine iteT ?_
            obtain ⟨zs,ez,ezl,_⟩:=R7.get
            refine ⟨_,rfl,.inl ⟨rfl,_,SqL.of ez⟩,?_⟩
            refine ⟨_,rfl,_,rfl,_,rfl,by show 3≤sizeLine; decide,fun tp htp=>?_⟩
            refine ⟨tl,zs,.ref tp,rfl,rfl,by rw [upd_ne (ne_of_none ez htp)]; exact ez,small1000 (by omega),?_⟩
            have sT:=same_new (H:=H7) htp (.tup [.int (v : Int),.int (j : Int),.int m])
            have R8 : Rows (L2.upd (L2.upd H7 tp (.tup [.int (v : Int),.int (j : Int),.int m])) tl (.lst (zs ++ [.ref tp]))) tl (tld ++ [[(v : Int),(j : Int),m]]):=R7.push (r:=[(v : Int),(j : Int),m]) ez htp
            have s8 : Same H (L2.upd (L2.upd H7 tp (.tup [.int (v : Int),.int (j : Int),.int m])) tl (.lst (zs ++ [.ref tp]))):=(s7.trans sT).young htl0
            have I8 : IntsAt (L2.upd (L2.upd H7 tp (.tup [.int (v : Int),.int (j : Int),.int m])) tl (.lst (zs ++ [.ref tp]))) lf lft:=by unfold IntsAt; rw [upd_ne nlt]; exact sT _ _ I7
            have e8 : L2.upd (L2.upd H7 tp (.tup [.int (v : Int),.int (j : Int),.int m])) tl (.lst (zs ++ [.ref tp])) ol=some (.lst (outs.map V.int)):=by rw [upd_ne nto.symm]; exact sT _ _ e7
            have a8 : L2.upd (L2.upd H7 tp (.tup [.int (v : Int),.int (j : Int),.int m])) tl (.lst (zs ++ [.ref tp])) ag=some (.lst (ages.map V.int)):=by rw [upd_ne nta.symm]; exact sT _ _ a7
            generalize L2.upd (L2.upd H7 tp (.tup [.int (v : Int),.int (j : Int),.int m])) tl (.lst (zs ++ [.ref tp]))=H8 at *
            refine ⟨_,rfl,_,rfl,lf,_,_,.int lft[v],rfl,rfl,SqL.of I8,eiv,_,rfl,_,_,rfl,rfl,?_⟩
            refine ⟨_,rfl,_,rfl,lf,_,(v : Int),v,rfl,rfl,I8,by unfold ixN; rw [List.length_map,if_pos (by omega),Int.toNat_natCast,if_pos (by omega)],?_⟩
            refine ⟨_,rfl,_,rfl,_,_,rfl,rfl,?_⟩
            obtain ⟨ws,ew,hw⟩:=R8.tups
            refine ⟨_,_,rfl,s8.young hlf,?_,?_,?_,?_⟩
            · rw [upd_ne nlo.symm]; exact e8
            · rw [upd_ne nla.symm]; exact a8
            · unfold IntsAt
              rw [upd_same,List.map_set]
            · refine Tups.rows (xs:=ws) (hw.but I8 fun b o hb e=>by rw [upd_ne hb]; exact e) ?_
              rw [upd_ne nlt.symm]; exact ew
          · rw [decide_eq_false d2,if_neg (fun z=>d2 z.2.2)]
            exact iteF ⟨_,_,rfl,s7,e7,a7,I7,R7⟩
        · rw [decide_eq_false d1,if_neg (fun z=>d1 z.2.1)]
          exact iteF (iteF ⟨_,_,rfl,s7,e7,a7,I7,R7⟩)
      · rw [decide_eq_false c,if_neg (fun z=>c z.1)]
        exact iteF (iteF ⟨_,_,rfl,s7,e7,a7,I7,R7⟩)
    · rintro σ H7 ⟨o10,o11,rfl,s7,e7,a7,I7,R7⟩
      rw [List.length_map,List.take_length] at I7 R7
      exact ⟨_,_,_,_,_,rfl,s7,e7,a7,I7,R7⟩
  · rintro σ H5 ⟨o7,o8,o9,o10,o11,rfl,sm,e5,a5,I5,R5⟩
    rw [List.length_map,List.take_length] at I5 R5
    refine ⟨_,rfl,_,rfl,lf,_,rfl,SqL.of I5,by show 2≤sizeLine; decide,fun qq hqq=>?_⟩
    exact q qq tl ages outs _ (sm.free hqq) htl0 hages houts (sm.trans (same_new hqq _)) (R5.same (same_new hqq _)) upd_same
theorem ok_most (G_deal : Cal P w K mg base CX0 2 "_law_deal" p_deal (spDealT tb)) (F : Fun K "_law_most" "_law_most" s_most f fd) : FnOk P w K mg base CX0 3 f fd p_most (spMostT tb):=by
  refine F.ok sc_most (fun vs H Q E h=>?_) (fun cdv A outer s H vs Q E hr h=>?_)
  · obtain ⟨a,b,t,tm,rs,os,ts,k,rfl,_⟩:=h; rfl
  obtain ⟨a,b,t,tm,rs,os,ts,k,rfl,hTb,hR,hO,ok,hT,hl,hk,hts,hkc,nl,q⟩:=h
  refine ⟨_,(pss_cons (ps_set (i:=5) sc_most.nd rfl (Or.inl rfl) pe_int)
    (pss_cons (ps_set (i:=6) sc_most.nd rfl (Or.inl rfl) (pe_op op_sub (pe_ix ix_tup (pe_ix ix_list (pv 0) (pv 4) (fun _ _=>rfl)) pe_int (fun _ _=>rfl)) (pe_ix ix_list (pv 3) (pv 4) (fun _ _=>rfl))))
    (pss_cons (ps_while PassesOwn.never (pt_cmpR op_lt (pv 5) (pv 6) (nomark _)) (pss_cons (ps_set (i:=7) sc_most.nd rfl (Or.inl rfl) (pe_op op_fdivL (pe_op op_add (pe_op op_add (pv 5) (pv 6)) pe_int) pe_int))
      (pss_cons (ps_set (i:=8) sc_most.nd rfl (Or.inl rfl) (pe_op op_cat (pe_op op_cat (pe_slice sl_list (pv 3) po_none (po_some (pv 4))) (pe_lst (pa_c (pe_op op_add (pe_ix ix_list (pv 3) (pv 4) (fun _ _=>rfl)) (pv 7)) pa_nil))) (pe_slice sl_list (pv 3) (po_some (pe_op op_add (pv 4) pe_int)) po_none)))
      (pss_one (ps_if (pt_cmpR op_eq (pe_ix ix_tup (pe_cal G_deal hr rfl pass0 (pa_c (pv 0) (pa_c (pv 1) (pa_c (pv 2) (pa_c (pv 8) pa_nil))))) pe_int (fun _ _=>rfl)) pe_int (nomark _)) (pss_one (ps_set (i:=5) sc_most.nd rfl (Or.inl rfl) (pv 7))) (pss_one (ps_set (i:=6) sc_most.nd rfl (Or.inl rfl) (pe_op op_sub (pv 7) pe_int))))))))
    (pss_one (ps_ret (pv 5)))))),?_⟩
  obtain ⟨xs,ex,hx⟩:=hR.tups
  have lx:=hx.1
  have hkx : k < xs.length:=by omega
  have hkt : k < ts.length:=by omega
  obtain ⟨pl,rl,epl,erl,hpl⟩:=hx.at (List.getElem?_eq_getElem hkx)
  obtain ⟨ld,lc,lu,rfl⟩:=len3 (ok.h3 rl (List.mem_of_getElem? erl))
  have l1 : colAt rs 1 (k : Int)=lc:=by unfold colAt; rw [row_at erl]; rfl
  have gk : ts.getD k 0=ts[k]:=by rw [List.getD_eq_getElem?_getD,List.getElem?_eq_getElem hkt]; rfl
  have eil : atI xs (k : Int)=some (.ref pl):=atI_nat (by rw [List.getElem?_eq_getElem hkx,epl])
  have eik : atI (ts.map V.int) (k : Int)=some (.int ts[k]):=atI_ints rfl hkt
  rw [l1,gk] at hkc
  refine ⟨_,rfl,_,rfl,a,xs,_,.ref pl,rfl,rfl,SqL.of ex,eil,pl,_,_,.int lc,rfl,rfl,SqT.of hpl,rfl,_,rfl,_,rfl,t,_,_,.int ts[k],rfl,rfl,SqL.of hT,eik,_,_,rfl,rfl,?_⟩
  have z0 : ts.set k (ts.getD k 0 + 0)=ts:=by
    rw [Int.add_zero,gk]; exact List.set_getElem_self hkt
  dsimp only
  refine tSeq_by (fun σ H'=>∃ M o6 o7 o8,σ=[some (.ref a),some (.ref b),some (.int tm),some (.ref t),some (.int (k : Int)),some (.int M),o6,o7,o8]∧Same H H'∧FreeL rs os tm ts (k : Int) M) (fun D' hD' _=>?_) ?_
  · refine while_by (fun σ H'=>∃ lo hi o7 o8,σ=[some (.ref a),some (.ref b),some (.int tm),some (.ref t),some (.int (k : Int)),some (.int lo),some (.int hi),o7,o8]∧Same H H'∧0≤lo∧lo≤hi∧hi≤lc - ts[k]∧NoLack rs os tm (ts.set k (ts.getD k 0 + lo))∧∀ m,hi < m→m≤lc - ts[k]→¬ NoLack rs os tm (ts.set k (ts.getD k 0 + m)))
      (fun σ _=>gapOf σ) ⟨0,lc - ts[k],_,_,rfl,Same.refl H,Int.le_refl _,by omega,Int.le_refl _,by rw [z0]; exact nl,fun m h1 h2=>by omega⟩ ?_ ?_
    · rintro σ H1 ⟨lo,hi,o7,o8,rfl,sm,lo0,lh,hh,okl,noh⟩
      refine ⟨_,rfl,_,rfl,_,_,rfl,rfl,_,rfl,?_⟩
      by_cases c : lo < hi
      · rw [decide_eq_true c]
        refine iteT ?_
        have md : (lo + hi + 1) / 2≤hi∧lo < (lo + hi + 1) / 2:=by omega
        refine ⟨_,rfl,_,rfl,_,_,rfl,rfl,_,_,rfl,rfl,_,_,rfl,rfl,⟨by decide,by decide⟩,?_⟩
        refine ⟨_,rfl,_,rfl,_,rfl,t,_,rfl,SqL.of (sm _ _ hT),fun p1 hp1=>?_⟩
        rw [(cut_to ts (show (0 : Int)≤(k : Int) by omega) (by omega)).1]
        have s1:=same_new (H:=H1) hp1 (.lst ((ts.take (k : Int).toNat).map V.int))
        refine ⟨_,rfl,_,rfl,t,_,_,.int ts[k],rfl,rfl,SqL.of (s1 _ _ (sm _ _ hT)),eik,_,rfl,_,_,rfl,rfl,by show 1≤sizeLine; decide,fun p2 hp2=>?_⟩
        have s2:=same_new hp2 (.lst [V.int (ts[k] + ((lo + hi + 1) / 2))])
        refine ⟨p1,p2,_,_,rfl,rfl,s2 _ _ upd_same,upd_same,?_,fun p3 hp3=>?_⟩
        · rw [List.length_map,List.length_take]
          refine Nat.le_of_lt (small1000 ?_)
          show min _ _ + 1≤1000
          have:=ok.rn
          omega
        have s3:=same_new hp3 (.lst ((ts.take (k : Int).toNat).map V.int ++ [V.int (ts[k] + ((lo + hi + 1) / 2))]))
        refine ⟨_,rfl,_,rfl,_,_,rfl,rfl,_,rfl,t,_,rfl,SqL.of (s3 _ _ (s2 _ _ (s1 _ _ (sm _ _ hT)))),fun p4 hp4=>?_⟩
        rw [(cut_from ts (show (1 : Int)≤(k : Int) + 1 by omega) (by omega)).1]
        have s4:=same_new hp4 (.lst ((ts.drop ((k : Int) + 1).toNat).map V.int))
        have ecat : (ts.take (k : Int).toNat).map V.int ++ [V.int (ts[k] + ((lo + hi + 1) / 2))] ++ (ts.drop ((k : Int) + 1).toNat).map V.int=(ts.set k (ts.getD k 0 + ((lo + hi + 1) / 2))).map V.int:=by
          rw [← set_cat ts (ts.getD k 0 + ((lo + hi + 1) / 2)) hkt,Int.toNat_natCast,show ((k : Int) + 1).toNat=k + 1 by omega,List.map_append,List.map_append,gk]; rfl
        have ltr : (ts.set k (ts.getD k 0 + ((lo + hi + 1) / 2))).length=rs.length:=by rw [List.length_set]; exact hl
        have rn:=ok.rn
        refine ⟨p3,p4,_,_,rfl,rfl,s4 _ _ upd_same,upd_same,?_,fun p5 hp5=>?_⟩
        · rw [← List.length_append,ecat,List.length_map,ltr]
          exact Nat.le_of_lt (small1000 (by omega))
        rw [ecat]
        have s5:=same_new hp5 (.lst ((ts.set k (ts.getD k 0 + ((lo + hi + 1) / 2))).map V.int))
        have sm5:=sm.trans (s1.trans (s2.trans (s3.trans (s4.trans s5))))
        have hnn : ∀ u∈ts.set k (ts.getD k 0 + ((lo + hi + 1) / 2)),0≤u:=fun u hu=>by
          rcases List.mem_or_eq_of_mem_set hu with z | z
          · exact hts u z
          · have:=hts _ (List.getElem_mem hkt)
            rw [z,gk]; omega
        have I5 : IntsAt (L2.upd (L2.upd (L2.upd (L2.upd (L2.upd H1 p1 (.lst ((ts.take (k : Int).toNat).map V.int))) p2 (.lst [V.int (ts[k] + ((lo + hi + 1) / 2))])) p3 (.lst ((ts.take (k : Int).toNat).map V.int ++ [V.int (ts[k] + ((lo + hi + 1) / 2))]))) p4 (.lst ((ts.drop ((k : Int) + 1).toNat).map V.int))) p5 (.lst ((ts.set k (ts.getD k 0 + ((lo + hi + 1) / 2))).map V.int))) p5 (ts.set k (ts.getD k 0 + ((lo + hi + 1) / 2))):=upd_same
        generalize L2.upd (L2.upd (L2.upd (L2.upd (L2.upd H1 p1 (.lst ((ts.take (k : Int).toNat).map V.int))) p2 (.lst [V.int (ts[k] + ((lo + hi + 1) / 2))])) p3 (.lst ((ts.take (k : Int).toNat).map V.int ++ [V.int (ts[k] + ((lo + hi + 1) / 2))]))) p4 (.lst ((ts.drop ((k : Int) + 1).toNat).map V.int))) p5 (.lst ((ts.set k (ts.getD k 0 + ((lo + hi + 1) / 2))).map V.int))=H5 at *
        refine ⟨_,rfl,_,rfl,_,rfl,_,rfl,a,b,p5,tm,rs,os,_,rfl,hTb.same sm5,hR.same sm5,ok.h3,ok.rn,hO.same sm5,ok.h2,ok.on,I5,ltr,fun qq l ages outs H6 hqq hl6 ha hb s6 R6 e6=>?_⟩
        obtain ⟨_,ls⟩:=left_sum ok.t0 ha hb ok.o0 ltr hnn
        refine ⟨qq,_,_,.int _,rfl,rfl,SqT.of e6,rfl,rfl,_,rfl,?_⟩
        generalize (dealL rs os tm ages outs (ts.set k (ts.getD k 0 + ((lo + hi + 1) / 2)))).1.sum=sm0 at ls ⊢
        by_cases c0 : sm0=0
        · rw [decide_eq_true (show V.int sm0=V.int 0 by rw [c0])]
          refine iteT ⟨_,rfl,⟨((lo + hi + 1) / 2),hi,_,_,rfl,sm5.trans s6,by omega,md.1,hh,ls.mp c0,noh⟩,?_⟩
          show (hi - ((lo + hi + 1) / 2)).toNat < (hi - lo).toNat
          omega
        · rw [decide_eq_false (show ¬ V.int sm0=V.int 0 from fun z=>c0 (V.int.inj z))]
          refine iteF ⟨_,rfl,_,_,rfl,rfl,⟨lo,((lo + hi + 1) / 2) - 1,_,_,rfl,sm5.trans s6,lo0,by omega,by omega,okl,fun m h1 h2=>?_⟩,?_⟩
          · intro z
            by_cases hm : hi < m
            · exact noh m hm h2 z
            · refine c0 (ls.mpr ?_)
              obtain ⟨ds,hds⟩:=days_exist rs
              rw [more_iff hds hkt hl nl] at z ⊢
              intro p hp a1 b1
              have:=z p hp a1 b1
              omega
          · show (((lo + hi + 1) / 2) - 1 - lo).toNat < (hi - lo).toNat
            omega
      · rw [decide_eq_false c]
        refine iteF (hD' _ _ ⟨lo,_,_,_,rfl,sm,?_⟩)
        have e : lo=hi:=by omega
        subst e
        refine free_of hkt hl nl (by rw [l1,gk]; exact hh) okl fun z=>?_
        rw [l1,gk] at z
        exact noh (lo + 1) (by omega) (by omega)
    · rintro σ H1 Q1 Q2 hm ⟨v1,e1,v2,e2,i1,i2,r1,r2,b,r3,q1⟩
      exact ⟨v1,e1,v2,e2,i1,i2,r1,r2,b,r3,hm _ _ q1⟩
  · rintro σ H1 ⟨M,o6,o7,o8,rfl,sm,hM⟩
    exact ⟨_,rfl,q M H1 hM sm⟩
theorem ok_bestL (G_dearestL : Cal P w K mg base CX0 1 "_law_dearest" p_dearestL (spOrdT tb keyD okD)) (G_most : Cal P w K mg base CX0 3 "_law_most" p_most (spMostT tb)) (F : Fun K "_law_best" "_law_best" s_bestL f fd) : FnOk P w K mg base CX0 4 f fd p_bestL (spBestT tb):=by
  refine F.ok sc_bestL (fun vs H Q E h=>?_) (fun cdv A outer s H vs Q E hr h=>?_)
  · obtain ⟨a,b,tm,rs,os,rfl,_⟩:=h; rfl
  obtain ⟨a,b,tm,rs,os,rfl,hTb,hR,hO,ok,q⟩:=h
  refine ⟨_,(pss_cons (ps_set (i:=3) sc_bestL.nd rfl (Or.inl rfl) (pe_op op_rep (pe_lst (pa_c pe_int pa_nil)) (pe_callB call_len_seq rfl B.len PySem.boot_len (pa_c (pv 0) pa_nil))))
    (pss_cons (ps_for PassesOwn.never rfl (pi_list (pe_cal G_dearestL hr rfl pass0 (pa_c (pv 0) pa_nil))) (pg_name (i:=4) sc_bestL.nd rfl (Or.inl rfl)) (pss_one (ps_asg (pe_cal G_most hr rfl pass0 (pa_c (pv 0) (pa_c (pv 1) (pa_c (pv 2) (pa_c (pv 3) (pa_c (pv 4) pa_nil)))))) (pg_sub (pv 3) (pv 4) set_list))))
    (pss_one (ps_ret (pv 3))))),?_⟩
  obtain ⟨xs,ex,ht⟩:=hR.tups
  have lx:=ht.1
  have rn:=ok.rn
  refine ⟨by show 1≤sizeLine; decide,fun z hz=>?_⟩
  have sz:=same_new (H:=H) hz (.lst [.int 0])
  refine ⟨_,rfl,a,xs,rfl,.inl (SqL.of (sz _ _ ex)),z,(xs.length : Int),_,rfl,rfl,upd_same,by omega,by omega,?_,fun l hl=>?_⟩
  · show 1 * (xs.length : Int).toNat≤sizeLine
    exact Nat.le_of_lt (small1000 (by omega))
  have s1:=sz.trans (same_new hl (.lst (List.replicate (xs.length : Int).toNat [V.int 0]).flatten))
  have hl0 : H l=none:=sz.free hl
  have e1 : IntsAt (L2.upd (L2.upd H z (.lst [.int 0])) l (.lst (List.replicate (xs.length : Int).toNat [V.int 0]).flatten)) l (List.replicate rs.length 0):=by
    unfold IntsAt
    rw [upd_same,List.map_replicate,Int.toNat_natCast,lx]
    congr 2
    induction rs.length with
    | zero=>rfl
    | succ k ih=>rw [List.replicate_succ,List.flatten_cons,ih]; rfl
  generalize L2.upd (L2.upd H z (.lst [.int 0])) l (.lst (List.replicate (xs.length : Int).toNat [V.int 0]).flatten)=H1 at s1 e1 ⊢
  obtain ⟨ds,hds⟩:=days_exist rs
  refine ⟨_,rfl,a,rs,rfl,hTb.same s1,hR.same s1,by omega,ok.h3,fun dl ord H3 hdl s3 hord e3=>?_⟩
  refine ⟨dl,rfl,⟨_,SqL.of e3⟩,?_⟩
  have nl : l≠dl:=ne_of_none e1 hdl
  have nd : ord.Nodup:=(hord.1.nodup_iff).mpr (upto_nodup _)
  refine for_list (xs:=ord.map V.int) (fun i σ H4=>∃ o4,σ=[some (.ref a),some (.ref b),some (.int tm),some (.ref l),o4]∧Same H H4∧H4 dl=some (.lst (ord.map V.int))∧IntsAt H4 l (bestGo (strOf ds) rs (ord.take i) (goingOf os tm) (List.replicate rs.length 0)).2) ⟨_,rfl,s1.trans s3,e3,s3 _ _ e1⟩ ?_ ?_ ?_
  · rintro i σ H4 hi ⟨o4,rfl,sm,e4,_⟩
    exact SqL.of e4
  · rintro i x σ H4 exi ⟨o4,rfl,sm,e4,I4⟩
    obtain ⟨at',rfl,eat⟩:=ints_at exi
    have hat:=uptoN_mem.mp (hord.1.mem_iff.mp (List.mem_of_getElem? eat))
    obtain ⟨k,rfl⟩ : ∃ k : Nat,at' = (k : Int):=⟨at'.toNat,by omega⟩
    have pre : ∀ j∈ord.take i,0≤j∧j.toNat < rs.length:=fun j hj=>by
      have:=uptoN_mem.mp (hord.1.mem_iff.mp (List.mem_of_mem_take hj))
      exact ⟨this.1,by omega⟩
    have ndi : (ord.take i).Nodup:=nd.sublist (List.take_sublist _ _)
    have kno : ∀ j∈ord.take i,j.toNat≠k:=fun j hj z=>by
      have h1:=(pre j hj).1
      have ej : j=(k : Int):=by omega
      rw [ej] at hj
      obtain ⟨m,hm,em⟩:=List.getElem_of_mem hj
      rw [List.length_take] at hm
      rw [List.getElem_take] at em
      have hi':=(List.getElem?_eq_some_iff.mp eat)
      have:=(List.getElem_inj nd).mp (em.trans hi'.2.symm)
      omega
    have lc : (bestGo (strOf ds) rs (ord.take i) (goingOf os tm) (List.replicate rs.length 0)).2.length=rs.length:=by rw [bestGo_len,List.length_replicate]
    obtain ⟨nn,wi⟩:=bestGo_in (rs:=rs) (ks:=strOf ds) (ord.take i) (goingOf os tm) (List.replicate rs.length 0) (fun j hj=>⟨(pre j hj).1,col_nn ok.r0 j⟩) (fun p _=>going_nn ok.o0 _ _ _) (fun j u e=>by
      have:=List.mem_of_getElem? e
      rw [(List.mem_replicate.mp this).2]
      exact ⟨Int.le_refl _,col_nn ok.r0 _⟩)
    have sl:=bestGo_slack (rs:=rs) (os:=os) (tm:=tm) (ks:=strOf ds) (ord.take i) (goingOf os tm) (List.replicate rs.length 0) (fun f l=>slack_zero.symm) ndi (fun j hj=>⟨(pre j hj).1,by rw [List.length_replicate]; exact (pre j hj).2,by
      rw [List.getD_eq_getElem?_getD,List.getElem?_replicate]; split <;> rfl⟩) List.length_replicate
    have kp:=bestGo_keep (ks:=strOf ds) (rs:=rs) (j:=k) (ord.take i) (goingOf os tm) (List.replicate rs.length 0) kno
    have next : (bestGo (strOf ds) rs (ord.take (i + 1)) (goingOf os tm) (List.replicate rs.length 0)).2=(bestGo (strOf ds) rs (ord.take i) (goingOf os tm) (List.replicate rs.length 0)).2.set k (stepN (strOf ds) rs (bestGo (strOf ds) rs (ord.take i) (goingOf os tm) (List.replicate rs.length 0)).1 (k : Int)):=by
      rw [getElem_next eat,bestGo_append]; rfl
    rw [next]
    generalize (bestGo (strOf ds) rs (ord.take i) (goingOf os tm) (List.replicate rs.length 0)).1=v at *
    generalize (bestGo (strOf ds) rs (ord.take i) (goingOf os tm) (List.replicate rs.length 0)).2=cs at *
    clear next
    have ev : v=slackF rs os tm cs:=funext fun f=>funext fun l=>sl f l
    have gk : cs.getD k 0=0:=by
      rw [List.getD_eq_getElem?_getD,kp,List.getElem?_replicate]; split <;> rfl
    have noL : NoLack rs os tm cs:=.of hds (by rw [← ev]; exact nn)
    have csn : ∀ u∈cs,0≤u:=fun u hu=>by
      obtain ⟨j,hj,e⟩:=List.getElem_of_mem hu
      exact (wi j u (by rw [List.getElem?_eq_getElem hj,e])).1
    refine ⟨_,rfl,_,rfl,_,rfl,_,rfl,_,rfl,a,b,l,tm,rs,os,cs,k,rfl,hTb.same sm,hR.same sm,hO.same sm,ok,I4,lc,by omega,csn,by rw [gk]; exact col_nn ok.r0 _,noL,fun M H5 hM s5=>?_⟩
    have eM : M=stepN (strOf ds) rs v (k : Int):=by
      have h1:=hM ds hds
      rw [Int.toNat_natCast,gk,Int.sub_zero,← ev] at h1
      exact h1.uniq (freeF_is _ _ _ _)
    rw [← eM]
    have I5 : IntsAt H5 l cs:=s5 _ _ I4
    refine ⟨_,rfl,_,rfl,l,_,(k : Int),k,rfl,rfl,I5,by unfold ixN; rw [List.length_map,if_pos (by omega),Int.toNat_natCast,if_pos (by omega)],?_⟩
    refine ⟨_,rfl,(sm.trans s5).young hl0,by rw [upd_ne nl.symm]; exact s5 _ _ e4,?_⟩
    unfold IntsAt
    rw [upd_same,List.map_set]
  · rintro σ H4 ⟨o4,rfl,sm,e4,I4⟩
    rw [List.length_map,List.take_length] at I4
    exact ⟨_,rfl,q l _ H4 hl0 ⟨ds,ord,hds,hord,rfl⟩ sm I4⟩
end
end K07
namespace L2
open PySem PySem.Spec PySem.W PyProof.Rows
section
variable {K : PySem.W.Frag} {a c x D : Addr} {g : TG} {te : TE} {σ₀ : St} {H1 : Hp} {R : Hp→Prop}
theorem comp_lstK {xs : List V} (P : Nat→List V→Hp→Prop) (hD : H1 D=none) (hx : H1 x=some (.lst xs)) (nx : x≠a) (d1 : DrawAt H1 a c) (hn : xs.length≤1000) (st : ∀ i zs H H',P i zs H→(H D=none∨∃ l,H D=some (.lst l))→(∀ b o,b≠D→H b=some o→H' b=some o)→P i zs H') (h0 : P 0 [] H1)
    (step : ∀ i y zs H,xs[i]? = some y→H D=some (.lst zs)→KeepBut a H1 H→DrawAt H a c→P i zs H→∀ K1 : V→Hp→Prop,(∀ z H4,KeepBut a H H4→DrawAt H4 a c→P (i + 1) (zs ++ [z]) H4→K1 z H4)→g y σ₀ H fun σ2 H2=>(∀ (k : Nat) v,σ₀[k]? = some (some v)→σ2[k]? = some (some v))∧te σ2 H2 K1)
    (fin : ∀ zs H,KeepBut a H1 H→DrawAt H a c→P xs.length zs H→zs.length=xs.length→H D=some (.lst zs)→R H) :
    ∃ W : Nat→Nat→Hp→Prop,(∃ m,W 0 m (upd H1 D (.lst [])))∧∀ i m H,W i m H→((Itl K x).stop i H∧R H)∨((Itl K x).go i H∧∀ y H',(Itl K x).yld i H y H'→g y σ₀ H' fun σ2 H2=>(∀ (k : Nat) v,σ₀[k]? = some (some v)→σ2[k]? = some (some v))∧tIf0 σ2 H2 fun b H3=>
      if b=true then te σ2 H3 fun y H4=>∃ zs,H4 D=some (.lst zs)∧zs.length < sizeLine∧∃ m',m' < m∧W (i + 1) m' (upd H4 D (.lst (zs ++ [y]))) else ∃ m',m' < m∧W (i + 1) m' H3):=by
  have na:=d1.ne hD
  have nc:=d1.nc hD
  refine ⟨fun i m H=>i + m=xs.length∧KeepBut a H1 H∧DrawAt H a c∧∃ zs,H D=some (.lst zs)∧zs.length=i∧P i zs H,⟨xs.length,by omega,KeepBut.refl.new hD,d1.new hD,[],upd_same,rfl,st _ _ _ _ h0 (.inl hD) fun b o hb e=>by rw [upd_ne hb]; exact e⟩,?_⟩
  rintro i m H ⟨him,k1,d,zs,hz,hl,hp⟩
  have ex:=k1 _ _ nx hx
  by_cases hi : i < xs.length
  · refine .inr ⟨⟨xs,_,SqL.of ex,List.getElem?_eq_getElem hi⟩,?_⟩
    rintro y H' ⟨rfl,hy⟩
    refine step i y zs _ (hy _ (SqL.of ex)) hz k1 d hp _ fun y H4 k4 d4 p4=>⟨zs,k4 _ _ na hz,small1000 (by omega),m - 1,by omega,by omega,(k1.trans k4).young hD,d4.upd na nc,zs ++ [y],upd_same,by rw [List.length_append,List.length_singleton]; omega,st _ _ _ _ p4 (.inr ⟨_,k4 _ _ na hz⟩) fun b o hb e=>by rw [upd_ne hb]; exact e⟩
  · have e : i=xs.length:=by omega
    subst e
    exact .inl ⟨⟨xs,SqL.of ex,Nat.le_refl _⟩,fin zs H k1 d hp hl hz⟩
end
def LotG (r : List Int) : Prop:=∃ d c u : Int,r=[d,c,u]∧1≤d∧d≤999∧1≤c∧c≤10000000000∧1≤u∧u≤1000000
def OutG (r : List Int) : Prop:=∃ d c : Int,r=[d,c]∧1≤d∧d≤999∧1≤c∧c≤10000000000
theorem LotIn.good {lo n sc : Int} {r : List Int} (h : LotIn lo n sc r) (l1 : 1≤lo) (l2 : lo + n≤1000) (s1 : sc≤10000000000) : LotG r:=by
  obtain ⟨d,c,u,rfl,h1,h2,h3,h4,h5,h6⟩:=h
  exact ⟨d,c,u,rfl,by omega,by omega,by omega,by omega,h5,h6⟩
theorem OutIn.good {lo n sc : Int} {r : List Int} (h : OutIn lo n sc r) (l1 : 1≤lo) (l2 : lo + n≤1000) (s1 : sc≤10000000000) : OutG r:=by
  obtain ⟨d,c,rfl,h1,h2,h3,h4⟩:=h
  exact ⟨d,c,rfl,by omega,by omega,by omega,by omega⟩
structure GoodC (ls os : List (List Int)) (tm : Int) : Prop where
  lg : ∀ r∈ls,LotG r
  og : ∀ r∈os,OutG r
  ln : ls.length≤30
  on : os.length≤30
  t0 : 0≤tm
  t4 : tm≤400
theorem lotsG_bad {ls : List (List Int)} (h : ∀ r∈ls,LotG r) : rowsBad ls=none:=by
  unfold rowsBad
  rw [List.findSome?_eq_none_iff]
  intro r hr
  obtain ⟨d,c,u,rfl,h1,h2,h3,h4,h5,h6⟩:=h r hr
  simp only [rowBad]
  rw [if_pos ⟨by omega,by omega⟩,if_pos ⟨by omega,by omega⟩,if_pos ⟨by omega,by omega⟩]
theorem outsG_bad {ls : List (List Int)} (h : ∀ r∈ls,OutG r) : rowsBad ls=none:=by
  unfold rowsBad
  rw [List.findSome?_eq_none_iff]
  intro r hr
  obtain ⟨d,c,rfl,h1,h2,h3,h4⟩:=h r hr
  simp only [rowBad]
  rw [if_pos ⟨by omega,by omega⟩,if_pos ⟨by omega,by omega⟩]
theorem LotG.len {r : List Int} (h : LotG r) : r.length=3:=by obtain ⟨d,c,u,rfl,_⟩:=h; rfl
theorem OutG.len {r : List Int} (h : OutG r) : r.length=2:=by obtain ⟨d,c,rfl,_⟩:=h; rfl
theorem LotG.duty {r : List Int} (h : LotG r) : dutyOk r:=by
  obtain ⟨d,c,u,rfl,_,_,_,_,h5,h6⟩:=h
  exact ⟨rfl,by show -(2 ^ 64) < u; omega,by show u < 2 ^ 64; omega⟩
theorem GoodC.both {ls os : List (List Int)} {tm : Int} (h : GoodC ls os tm) : bothNo ls os tm=none:=by
  rw [bothNo_term (rowsNo_ok h.ln (lotsG_bad h.lg)) (rowsNo_ok h.on (outsG_bad h.og)),if_pos ⟨h.t0,h.t4⟩]
theorem GoodC.h3 {ls os : List (List Int)} {tm : Int} (h : GoodC ls os tm) : ∀ r∈ls,r.length=3:=fun r hr=>(h.lg r hr).len
theorem GoodC.h2 {ls os : List (List Int)} {tm : Int} (h : GoodC ls os tm) : ∀ r∈os,r.length=2:=fun r hr=>(h.og r hr).len
theorem lotsOk_of {ls os : List (List Int)} {tm : Int} (h1 : ∀ r∈ls,LotG r) (h2 : ∀ r∈os,OutG r) (ln : ls.length≤31) (on : os.length≤31) (t0 : 0≤tm) : LotsOk ls os tm:=by
  refine ⟨fun r hr=>(h1 r hr).len,ln,fun r hr=>(h2 r hr).len,on,fun r hr=>?_,fun r hr=>?_,t0,fun r hr=>(h1 r hr).duty,fun r hr=>?_⟩
  · obtain ⟨d,c,u,rfl,_,_,h3,_⟩:=h1 r hr; show (0 : Int)≤c; omega
  · obtain ⟨d,c,rfl,_,_,h3,_⟩:=h2 r hr; show (0 : Int)≤c; omega
  · obtain ⟨d,c,u,rfl,_,_,_,h4,_⟩:=h1 r hr; exact h4
theorem GoodC.ok {ls os : List (List Int)} {tm : Int} (h : GoodC ls os tm) : LotsOk ls os tm:=lotsOk_of h.lg h.og (by have:=h.ln; omega) (by have:=h.on; omega) h.t0
def spCountsT (tb : Tbs) : Sp:=fun vs H Q _=>∃ (a c l o : Addr) (tm : Int) (ls os : List (List Int)),vs=[.ref a,.ref l,.ref o,.int tm]∧DrawAt H a c∧Tb tb H∧Rows H l ls∧Rows H o os∧l≠a∧o≠a∧LotsOk ls os tm∧
  ∀ t ts H',H t=none→TakenOk ls ts→DrawAt H' a c→KeepBut a H H'→IntsAt H' t ts→Q (.ref t) H'
theorem takenOk_of {rs : List (List Int)} {ts : List Int} (hl : ts.length=rs.length) (h : ∀ (j : Nat) r u,rs[j]? = some r→ts[j]? = some u→0≤u∧u≤r.getD 1 0) : TakenOk rs ts:=⟨hl,fun j r u _ e1 e2=>h j r u e1 e2⟩
theorem TakenOk.at {rs : List (List Int)} {ts : List Int} (h : TakenOk rs ts) {j : Nat} {r : List Int} {u : Int} (e1 : rs[j]? = some r) (e2 : ts[j]? = some u) : 0≤u∧u≤r.getD 1 0:=h.2 j r u (List.getElem?_eq_some_iff.mp e1).1 e1 e2
theorem TakenOk.nn {rs : List (List Int)} {ts : List Int} (h : TakenOk rs ts) : ∀ u∈ts,0≤u:=fun u hu=>by
  obtain ⟨j,hj,e⟩:=List.getElem_of_mem hu
  exact (h.at (List.getElem?_eq_getElem (show j < rs.length by rw [← h.1]; exact hj)) (by rw [List.getElem?_eq_getElem hj,e])).1
end L2
namespace K07
open PySem L2
abbrev s_some_counts : Stmt:=top 46
abbrev n_some_counts : List Str:=["_law_draw","_law_lots","_law_outs","_law_term","_law_most_here","_law_way","_law_at","_law_more"]
abbrev p_some_counts : List Str:=["_law_draw","_law_lots","_law_outs","_law_term"]
theorem sc_some_counts : FnScope n_some_counts p_some_counts (defScope s_some_counts):=⟨rfl,rfl,rfl,by decide +kernel,rfl,by decide +kernel,by decide +kernel⟩
section
variable {P : Program} {w : World} {K : PySem.W.Frag} {mg : Str→Option Value} {base : Heap} {f : Addr} {fd : FuncData} {tb : Tbs} (B : Bn mg)
include B
theorem ok_some_counts (G_pick : Cal P w K mg base CX0 1 "_law_pick" p_pick spPick) (G_bestL : Cal P w K mg base CX0 4 "_law_best" p_bestL (spBestT tb)) (F : Fun K "_law_some_counts" "_law_some_counts" s_some_counts f fd) : FnOk P w K mg base CX0 5 f fd p_some_counts (spCountsT tb):=by
  refine F.ok sc_some_counts (fun vs H Q E h=>?_) (fun cdv A outer s H vs Q E hr h=>?_)
  · obtain ⟨a,c,l,o,tm,ls,os,rfl,_⟩:=h; rfl
  obtain ⟨a,c,l,o,tm,ls,os,rfl,d,hT,hR,hO,nla,noa,ok,q⟩:=h
  refine ⟨_,(pss_cons (ps_set (i:=4) sc_some_counts.nd rfl (Or.inl rfl) (pe_cal G_bestL hr rfl pass0 (pa_c (pv 1) (pa_c (pv 2) (pa_c (pv 3) pa_nil)))))
    (pss_cons (ps_set (i:=5) sc_some_counts.nd rfl (Or.inl rfl) (pe_cal G_pick hr rfl pass0 (pa_c (pv 0) (pa_c pe_int pa_nil))))
    (pss_cons (ps_if (pt_cmpR op_eq (pv 5) pe_int (nomark _)) (pss_one (ps_ret (pv 4))) pss_nil)
    (pss_cons (ps_if (pt_cmpR op_eq (pv 5) pe_int (nomark _)) (pss_one (ps_ret (pe_comp (N':=["_law_count","_law_draw"]) (ix:=[none,some 0]) (g:=(gName 0)) (ti:=tIf0) (te:=(tCall spPick [] E0 (tCons (tVar 1) (tCons (tOp (rI0 fun i j=>.int (i + j)) (tVar 0) (tC (.int 1))) tNil)))) rfl (comp_scope (N:=n_some_counts) (D:=defScope s_some_counts) (by decide +kernel)) (pi_list (pv 4)) (fun C s H fp=>(pg_name (i:=0) (show (["_law_count","_law_draw"] : List Str).Nodup by decide +kernel) rfl (Or.inl rfl))) (fun C s H fp=>pifs_nil) (fun C s H fp=>(pe_cal G_pick hr rfl pass0 (pa_c (pv 1) (pa_c (pe_op op_add (pv 0) pe_int) pa_nil))))))) pss_nil)
    (pss_cons (ps_if (PW.pt (pw_and (pt_cmpR op_eq (pv 5) pe_int (nomark _)) (pw_and1 (pt_cmpR (op_neL hr.units) (pv 1) (pe_lst pa_nil) (nomark _))))) (pss_cons (ps_set (i:=6) sc_some_counts.nd rfl (Or.inl rfl) (pe_cal G_pick hr rfl pass0 (pa_c (pv 0) (pa_c (pe_callB call_len_seq rfl B.len PySem.boot_len (pa_c (pv 1) pa_nil)) pa_nil))))
      (pss_cons (ps_set (i:=7) sc_some_counts.nd rfl (Or.inl rfl) (pe_op op_add (pe_op op_add (pe_ix ix_list (pv 4) (pv 6) (fun _ _=>rfl)) pe_int) (pe_cal G_pick hr rfl pass0 (pa_c (pv 0) (pa_c pe_int pa_nil)))))
      (pss_one (ps_ret (pe_op op_cat (pe_op op_cat (pe_slice sl_list (pv 4) po_none (po_some (pv 6))) (pe_lst (pa_c (pe_callB (call_min2 rfl) rfl B.min PyProof.Rows.boot_min (pa_c (pe_ix ix_tup (pe_ix ix_list (pv 1) (pv 6) (fun _ _=>rfl)) pe_int (fun _ _=>rfl)) (pa_c (pv 7) pa_nil))) pa_nil))) (pe_slice sl_list (pv 4) (po_some (pe_op op_add (pv 6) pe_int)) po_none)))))) pss_nil)
    (pss_one (ps_ret (pe_comp (N':=["_law_lot","_law_draw"]) (ix:=[none,some 0]) (g:=(gName 0)) (ti:=tIf0) (te:=(tCall spPick [] E0 (tCons (tVar 1) (tCons (tOp (rI0 fun i j=>.int (i + j)) (tOp (rIxT K) (tVar 0) (tC (.int 1))) (tC (.int 1))) tNil)))) rfl (comp_scope (N:=n_some_counts) (D:=defScope s_some_counts) (by decide +kernel)) (pi_list (pv 1)) (fun C s H fp=>(pg_name (i:=0) (show (["_law_lot","_law_draw"] : List Str).Nodup by decide +kernel) rfl (Or.inl rfl))) (fun C s H fp=>pifs_nil) (fun C s H fp=>(pe_cal G_pick hr rfl pass0 (pa_c (pv 1) (pa_c (pe_op op_add (pe_ix ix_tup (pv 0) pe_int (fun _ _=>rfl)) pe_int) pa_nil)))))))))))),?_⟩
  refine ⟨_,rfl,_,rfl,_,rfl,l,o,tm,ls,os,rfl,hT,hR,hO,ok,fun m cs H1 hm hb s1 I1=>?_⟩
  have tk:=hb.taken ok.r0 ok.o0
  have nma : m≠a:=d.ne hm
  have d1:=d.same s1
  have lcs:=hb.len
  have rn:=ok.rn
  refine ⟨_,rfl,a,c,4,rfl,d1,by decide,by decide,fun y H2 y0 y1 d2 kb2=>?_⟩
  have I2 : IntsAt H2 m cs:=kb2 _ _ nma I1
  have k2 : KeepBut a H H2:=(KeepBut.of_same s1).trans kb2
  have L2':=(hR.same s1).keep nla d1 kb2
  refine ⟨_,rfl,rfl,_,rfl,?_⟩
  refine ite2 (fun _=>⟨_,rfl,q m cs H2 hm tk d2 k2 I2⟩) (fun _=>?_)
  refine ⟨_,rfl,rfl,_,rfl,?_⟩
  refine ite2 (fun _=>?_) (fun _=>?_)
  · refine ⟨_,rfl,m,rfl,⟨_,SqL.of I2⟩,fun D hD=>?_⟩
    refine comp_lstK (fun i zs _=>∃ ts : List Int,zs=ts.map V.int∧ts.length=i∧∀ (j : Nat) u v,ts[j]? = some u→cs[j]? = some v→0≤u∧u≤v) hD I2 nma d2 (by rw [List.length_map]; omega) (fun i zs H' H'' h _ _=>h) ⟨[],rfl,rfl,fun j u v e=>(by cases e)⟩ (fun i x zs H' ex hz k' d' ⟨ts,ez,el,hts⟩ K1 q1=>?_) fun zs H3 k3 d3 ⟨ts,ez,el,hts⟩ lz e3=>?_
    · obtain ⟨v,rfl,ev⟩:=ints_at ex
      have hv:=tk.at (List.getElem?_eq_getElem (show i < ls.length by have:=(List.getElem?_eq_some_iff.mp ev).1; omega)) ev
      have hc:=ok.rc _ (List.getElem_mem (show i < ls.length by have:=(List.getElem?_eq_some_iff.mp ev).1; omega))
      refine ⟨keep_set keep_refl rfl,?_⟩
      refine ⟨_,rfl,_,rfl,_,_,rfl,rfl,a,c,v + 1,rfl,d',by omega,by omega,fun r H4 r0 r1 d4 kb4=>?_⟩
      subst ez
      refine q1 (.int r) H4 kb4 d4 ⟨ts ++ [r],by rw [List.map_append]; rfl,by rw [List.length_append,List.length_singleton]; omega,fun j u w e1 e2=>?_⟩
      by_cases hj : j < ts.length
      · rw [List.getElem?_append_left hj] at e1
        exact hts j u w e1 e2
      · have : j=ts.length:=by
          have:=(List.getElem?_eq_some_iff.mp e1).1
          rw [List.length_append,List.length_singleton] at this
          omega
        subst this
        rw [List.getElem?_append_right (Nat.le_refl _),Nat.sub_self] at e1
        cases e1
        rw [el,ev] at e2
        cases e2
        exact ⟨r0,by omega⟩
    · subst ez
      rw [List.length_map] at lz el
      have el' : ts.length=cs.length:=el
      refine q D ts H3 (k2.none (d2.ne hD) hD) (takenOk_of (by omega) fun j r u e1 e2=>?_) d3 (k2.trans k3) e3
      have hj : j < cs.length:=by have:=(List.getElem?_eq_some_iff.mp e2).1; omega
      have h1:=hts j u _ e2 (List.getElem?_eq_getElem hj)
      have h2:=tk.at e1 (List.getElem?_eq_getElem hj)
      exact ⟨h1.1,by omega⟩
  obtain ⟨xs,ex,hx⟩:=L2'.tups
  have lx:=hx.1
  dsimp only [tNext]
  refine tSeq_by (fun σ H3=>σ=[some (.ref a),some (.ref l),some (.ref o),some (.int tm),some (.ref m),some (.int y),none,none]∧KeepBut a H2 H3∧DrawAt H3 a c∧H3 l=some (.lst xs)∧Tups H3 xs ls) (fun D' nx hrt=>?_) ?_
  · refine ⟨_,rfl,rfl,_,rfl,?_⟩
    refine ite2 (fun _=>?_) (fun _=>iteF (nx _ _ ⟨rfl,KeepBut.refl,d2,ex,hx⟩))
    refine ⟨_,rfl,by show 0≤sizeLine; decide,fun e he=>?_⟩
    have sE:=same_new (H:=H2) he (.lst [])
    refine cmp_nil (sE _ _ ex) upd_same ⟨_,rfl,?_⟩
    have d3:=d2.same sE
    have x3:=sE _ _ ex
    have h3:=hx.same sE
    have I3:=sE _ _ I2
    have k3 : KeepBut a H2 (L2.upd H2 e (.lst [])):=KeepBut.of_same sE
    generalize L2.upd H2 e (.lst [])=H3 at *
    by_cases c1 : xs.length=0
    · rw [decide_eq_true c1]
      exact iteF (nx _ _ ⟨rfl,k3,d3,x3,h3⟩)
    · rw [decide_eq_false c1]
      refine iteT ⟨_,rfl,_,rfl,l,_,rfl,.inl (SqL.of x3),a,c,_,rfl,d3,by omega,by omega,fun r H4 r0 r1 d4 kb4=>?_⟩
      obtain ⟨k,rfl⟩ : ∃ k : Nat,r=(k : Int):=⟨r.toNat,by omega⟩
      have hk : k < xs.length:=by omega
      have hkc : k < cs.length:=by omega
      have I4 : IntsAt H4 m cs:=kb4 _ _ nma I3
      have x4:=kb4 _ _ nla x3
      have t4:=h3.draw d3 kb4
      have eik : atI (cs.map V.int) (k : Int)=some (.int cs[k]):=atI_ints rfl hkc
      refine ⟨_,rfl,_,rfl,m,_,_,.int cs[k],rfl,rfl,SqL.of I4,eik,_,_,rfl,rfl,_,rfl,a,c,2,rfl,d4,by decide,by decide,fun z H5 z0 z1 d5 kb5=>⟨_,_,rfl,rfl,?_⟩⟩
      have I5 : IntsAt H5 m cs:=kb5 _ _ nma I4
      have x5:=kb5 _ _ nla x4
      have t5:=t4.draw d4 kb5
      have k5 : KeepBut a H H5:=k2.trans (k3.trans (kb4.trans kb5))
      obtain ⟨pl,rl,epl,erl,hpl⟩:=t5.at (List.getElem?_eq_getElem hk)
      obtain ⟨ld,lc,lu,rfl⟩:=len3 (ok.h3 rl (List.mem_of_getElem? erl))
      have eil : atI xs (k : Int)=some (.ref pl):=atI_nat (by rw [List.getElem?_eq_getElem hk,epl])
      have lc0:=ok.r0 _ (List.mem_of_getElem? erl)
      refine ⟨_,rfl,_,rfl,_,rfl,m,_,rfl,SqL.of I5,fun p1 hp1=>?_⟩
      rw [(cut_to cs (show (0 : Int)≤(k : Int) by omega) (by omega)).1]
      have s1:=same_new (H:=H5) hp1 (.lst ((cs.take (k : Int).toNat).map V.int))
      refine ⟨_,rfl,_,rfl,l,xs,_,.ref pl,rfl,rfl,SqL.of (s1 _ _ x5),eil,pl,_,_,.int lc,rfl,rfl,SqT.of (s1 _ _ hpl),rfl,_,rfl,_,_,rfl,by show 1≤sizeLine; decide,fun p2 hp2=>?_⟩
      obtain ⟨mn,emn⟩ : ∃ mn,(if cs[k] + 1 + z < lc then cs[k] + 1 + z else lc)=mn:=⟨_,rfl⟩
      have hmn : 0≤mn∧mn≤lc:=by
        have h0:=(tk.nn _ (List.getElem_mem hkc))
        have h1 : (0 : Int)≤lc:=lc0
        rw [← emn]
        split <;> omega
      rw [emn]
      have s2:=same_new hp2 (.lst [V.int mn])
      refine ⟨p1,p2,_,_,rfl,rfl,s2 _ _ upd_same,upd_same,?_,fun p3 hp3=>?_⟩
      · rw [List.length_map,List.length_take]
        refine Nat.le_of_lt (small1000 ?_)
        show min _ _ + 1≤1000
        omega
      have s3:=same_new hp3 (.lst ((cs.take (k : Int).toNat).map V.int ++ [V.int mn]))
      refine ⟨_,rfl,_,rfl,_,_,rfl,rfl,_,rfl,m,_,rfl,SqL.of (s3 _ _ (s2 _ _ (s1 _ _ I5))),fun p4 hp4=>?_⟩
      rw [(cut_from cs (show (1 : Int)≤(k : Int) + 1 by omega) (by omega)).1]
      have s4:=same_new hp4 (.lst ((cs.drop ((k : Int) + 1).toNat).map V.int))
      have ecat : (cs.take (k : Int).toNat).map V.int ++ [V.int mn] ++ (cs.drop ((k : Int) + 1).toNat).map V.int=(cs.set k mn).map V.int:=by
        rw [← set_cat cs mn hkc,Int.toNat_natCast,show ((k : Int) + 1).toNat=k + 1 by omega,List.map_append,List.map_append]; rfl
      refine ⟨p3,p4,_,_,rfl,rfl,s4 _ _ upd_same,upd_same,?_,fun p5 hp5=>?_⟩
      · rw [← List.length_append,ecat,List.length_map,List.length_set]
        exact Nat.le_of_lt (small1000 (by omega))
      rw [ecat,hrt]
      have s5:=same_new hp5 (.lst ((cs.set k mn).map V.int))
      have S:=s1.trans (s2.trans (s3.trans (s4.trans s5)))
      refine q p5 (cs.set k mn) _ (k5.none (((d5.same (s1.trans (s2.trans (s3.trans s4)))).ne hp5)) ((s1.trans (s2.trans (s3.trans s4))).free hp5)) (takenOk_of (by rw [List.length_set]; omega) fun j r u e1 e2=>?_) (d5.same S) (k5.trans (KeepBut.of_same S)) upd_same
      by_cases ej : k=j
      · subst ej
        rw [List.getElem?_set_self hkc] at e2
        cases e2
        rw [erl] at e1
        cases e1
        exact hmn
      · rw [List.getElem?_set_ne ej] at e2
        exact tk.at e1 e2
  · rintro σ H3 ⟨rfl,k3,d3,x3,h3⟩
    refine ⟨_,rfl,l,rfl,⟨_,SqL.of x3⟩,fun D hD=>?_⟩
    refine comp_lstK (fun i zs H'=>Tups H' xs ls∧∃ ts : List Int,zs=ts.map V.int∧ts.length=i∧∀ (j : Nat) r u,ls[j]? = some r→ts[j]? = some u→0≤u∧u≤r.getD 1 0) hD x3 nla d3 (by omega) (fun i zs H' H'' ⟨h1,h2⟩ nl hk=>⟨⟨h1.1,fun j x r e1 e2=>?_⟩,h2⟩) ⟨h3,[],rfl,rfl,fun j r u e1 e2=>(by cases e2)⟩ (fun i x zs H' exi hz k' d' ⟨h1,ts,ez,el,hts⟩ K1 q1=>?_) fun zs H4 k4 d4 ⟨h4,ts,ez,el,hts⟩ lz e4=>?_
    · obtain ⟨p,e,hp⟩:=h1.2 j x r e1 e2
      refine ⟨p,e,hk _ _ (fun z=>?_) hp⟩
      rw [z] at hp
      rcases nl with w | ⟨l',w⟩ <;> (rw [w] at hp; cases hp)
    · obtain ⟨p,r,rfl,er,hp⟩:=h1.at exi
      obtain ⟨ld,lc,lu,rfl⟩:=len3 (ok.h3 r (List.mem_of_getElem? er))
      have lc0 : (0 : Int)≤lc:=ok.r0 _ (List.mem_of_getElem? er)
      have lc1 : lc≤10000000000:=ok.rc _ (List.mem_of_getElem? er)
      refine ⟨keep_set keep_refl rfl,?_⟩
      refine ⟨_,rfl,_,rfl,p,_,_,.int lc,rfl,rfl,SqT.of hp,rfl,_,_,rfl,rfl,a,c,lc + 1,rfl,d',by omega,by omega,fun v H4 v0 v1 d4 kb4=>?_⟩
      subst ez
      refine q1 (.int v) H4 kb4 d4 ⟨h1.draw d' kb4,ts ++ [v],by rw [List.map_append]; rfl,by rw [List.length_append,List.length_singleton]; omega,fun j r' u e1 e2=>?_⟩
      by_cases hj : j < ts.length
      · rw [List.getElem?_append_left hj] at e2
        exact hts j r' u e1 e2
      · have : j=ts.length:=by
          have:=(List.getElem?_eq_some_iff.mp e2).1
          rw [List.length_append,List.length_singleton] at this
          omega
        subst this
        rw [List.getElem?_append_right (Nat.le_refl _),Nat.sub_self] at e2
        cases e2
        rw [el,er] at e1
        cases e1
        exact ⟨v0,by show v≤lc; omega⟩
    · subst ez
      exact q D ts H4 ((k2.trans k3).none (d3.ne hD) hD) (takenOk_of (by omega) hts) d4 ((k2.trans k3).trans k4) e4
end
end K07
namespace L2
variable {nr : Nat→Nat→Prop} {n : Nat}
def cu (p : Nat→Bool) : List Bool→List (Option Nat)→Nat
  | false :: sn,some o :: h=>(p o).toNat + cu p sn h
  | _ :: sn,_ :: h=>cu p sn h
  | _,_=>0
theorem cu_hold {p : Nat→Bool} : ∀ {sn : List Bool} {h : List (Option Nat)} {s o : Nat},sn[s]? = some false→h[s]? = some (some o)→cu p sn h=(p o).toNat + cu p (sn.set s true) h
  | [],_,_,_,e,_=>by cases e
  | _ :: _,[],_,_,_,e=>by cases e
  | b :: sn,x :: h,0,o,e,e'=>by cases e; cases e'; rfl
  | b :: sn,x :: h,s + 1,o,e,e'=>by
    have k:=cu_hold (p:=p) (sn:=sn) (h:=h) (s:=s) (o:=o) e e'
    show cu p (b :: sn) (x :: h)=_ + cu p (b :: sn.set s true) (x :: h)
    cases b <;> cases x <;> simp only [cu] <;> omega
theorem cu_none {p : Nat→Bool} : ∀ {sn : List Bool} {h : List (Option Nat)} {s : Nat},h[s]? = some none→cu p sn h=cu p (sn.set s true) h
  | [],_,_,_=>rfl
  | _ :: _,[],_,e=>by cases e
  | b :: sn,x :: h,0,e=>by cases e; cases b <;> rfl
  | b :: sn,x :: h,s + 1,e=>by
    have k:=cu_none (p:=p) (sn:=sn) (h:=h) (s:=s) e
    show cu p (b :: sn) (x :: h)=cu p (b :: sn.set s true) (x :: h)
    cases b <;> cases x <;> simp only [cu] <;> omega
theorem cu_set {p : Nat→Bool} : ∀ {sn : List Bool} {h : List (Option Nat)} {s : Nat} {x : Option Nat},cu p (sn.set s true) (h.set s x)=cu p (sn.set s true) h
  | [],h,s,x=>by cases h <;> cases s <;> rfl
  | b :: sn,[],s,x=>by cases s <;> rfl
  | b :: sn,y :: h,0,x=>by cases x <;> cases y <;> rfl
  | b :: sn,y :: h,s + 1,x=>by
    have k:=cu_set (p:=p) (sn:=sn) (h:=h) (s:=s) (x:=x)
    show cu p (b :: sn.set s true) (y :: h.set s x)=cu p (b :: sn.set s true) (y :: h)
    cases b <;> cases y <;> simp only [cu] <;> omega
theorem cu_up {p : Nat→Bool} : ∀ {sn sn' : List Bool} {h h' : List (Option Nat)},sn'.length=sn.length→h'.length=h.length→(∀ s : Nat,sn[s]? = some true→sn'[s]? = some true)→(∀ s : Nat,sn'[s]? = some true→h'[s]? = h[s]?)→cu p sn h' + cu p sn' h=cu p sn h + cu p sn' h'
  | [],[],_,_,_,_,_,_=>rfl
  | [],_ :: _,_,_,e,_,_,_=>by cases e
  | _ :: _,[],_,_,e,_,_,_=>by cases e
  | _ :: _,_ :: _,[],[],_,_,_,_=>rfl
  | _ :: _,_ :: _,[],_ :: _,_,e,_,_=>by cases e
  | _ :: _,_ :: _,_ :: _,[],_,e,_,_=>by cases e
  | b :: sn,b' :: sn',x :: h,x' :: h',e1,e2,up,ag=>by
    have k:=cu_up (p:=p) (sn:=sn) (sn':=sn') (h:=h) (h':=h') (by simpa using e1) (by simpa using e2) (fun s=>up (s + 1)) (fun s=>ag (s + 1))
    have u0:=up 0
    have a0:=ag 0
    simp only [List.getElem?_cons_zero,Option.some.injEq] at u0 a0
    cases b <;> cases b'
    · cases x <;> cases x' <;> simp only [cu] <;> omega
    · have:=a0 rfl
      subst this
      cases x' <;> simp only [cu] <;> omega
    · cases (u0 rfl)
    · cases x <;> cases x' <;> simp only [cu] <;> omega
def Shut (nr : Nat→Nat→Prop) (n : Nat) (h : List (Option Nat)) (Z : Nat→Prop) : Prop:=∀ s,Z s→∃ o,h[s]? = some (some o)∧∀ t,t < n→nr o t→Z t
structure GoF (nr : Nat→Nat→Prop) (n : Nat) (h : List (Option Nat)) (u : Nat) (sn sn' : List Bool) : Prop where
  len : sn'.length=sn.length
  up : ∀ s : Nat,sn[s]? = some true→sn'[s]? = some true
  cl : ∀ s,s < n→nr u s→sn'[s]? = some true
  new : ∀ s : Nat,sn'[s]? = some true→sn[s]? = some true∨∃ o,h[s]? = some (some o)∧∀ t,t < n→nr o t→sn'[t]? = some true
structure GoT (nr : Nat→Nat→Prop) (n : Nat) (h : List (Option Nat)) (u : Nat) (sn : List Bool) (h' : List (Option Nat)) : Prop where
  len : h'.length=h.length
  near : (∀ (s v : Nat),h[s]? = some (some v)→nr v s)→∀ (s v : Nat),h'[s]? = some (some v)→nr v s
  keep : ∀ s : Nat,sn[s]? = some true→h'[s]? = h[s]?
  cnt : ∀ p,cu p sn h' = cu p sn h + (p u).toNat
  shut : ∀ Z,Shut nr n h Z→(∃ s,s < n∧nr u s∧¬ Z s)∧∀ s,Z s→h'[s]? = h[s]?
structure GoI (nr : Nat→Nat→Prop) (n : Nat) (h : List (Option Nat)) (u : Nat) (sn : List Bool) (i : Nat) (sn' : List Bool) : Prop where
  len : sn'.length=sn.length
  up : ∀ s : Nat,sn[s]? = some true→sn'[s]? = some true
  cl : ∀ s,s < i→nr u s→sn'[s]? = some true
  new : ∀ s : Nat,sn'[s]? = some true→sn[s]? = some true∨∃ o,h[s]? = some (some o)∧∀ t,t < n→nr o t→sn'[t]? = some true
variable {h h1 : List (Option Nat)} {u o i : Nat} {sn sn1 sn2 : List Bool}
theorem GoI.zero : GoI nr n h u sn 0 sn:=⟨rfl,fun _ e=>e,fun s hs=>absurd hs (by omega),fun _ e=>.inl e⟩
theorem GoI.fin (I : GoI nr n h u sn n sn1) : GoF nr n h u sn sn1:=⟨I.len,I.up,I.cl,I.new⟩
theorem GoI.pass (I : GoI nr n h u sn i sn1) (c : ¬ nr u i∨sn1[i]? = some true) : GoI nr n h u sn (i + 1) sn1:=
  ⟨I.len,I.up,fun s hs hn=>by
    by_cases e : s=i
    · subst e; exact c.elim (absurd hn) id
    · exact I.cl s (by omega) hn,I.new⟩
theorem set_true {s : Nat} (hi : sn1[i]? = some false) : (sn1.set i true)[s]? = some true↔s=i∨sn1[s]? = some true:=by
  have hl : i < sn1.length:=(List.getElem?_eq_some_iff.mp hi).1
  rw [List.getElem?_set]
  by_cases e : i=s
  · subst e; rw [if_pos rfl,if_pos hl]; exact ⟨fun _=>.inl rfl,fun _=>rfl⟩
  · rw [if_neg e]; exact ⟨.inr,fun z=>z.elim (fun y=>absurd y.symm e) id⟩
theorem GoI.fail (I : GoI nr n h u sn i sn1) (hi : sn1[i]? = some false) (ho : h[i]? = some (some o)) (F : GoF nr n h o (sn1.set i true) sn2) : GoI nr n h u sn (i + 1) sn2:=by
  have up2 : ∀ s : Nat,sn1[s]? = some true→sn2[s]? = some true:=fun s e=>F.up s ((set_true hi).mpr (.inr e))
  refine ⟨by rw [F.len,List.length_set,I.len],fun s e=>up2 s (I.up s e),fun s hs hn=>?_,fun s e=>?_⟩
  · by_cases e : s=i
    · exact F.up s ((set_true hi).mpr (.inl e))
    · exact up2 s (I.cl s (by omega) hn)
  · rcases F.new s e with e | ⟨o',g1,g2⟩
    · rcases (set_true hi).mp e with rfl | e
      · exact .inr ⟨o,ho,F.cl⟩
      · rcases I.new s e with e | ⟨o',g1,g2⟩
        · exact .inl e
        · exact .inr ⟨o',g1,fun t ht hn=>up2 t (g2 t ht hn)⟩
    · exact .inr ⟨o',g1,g2⟩
theorem GoI.none (I : GoI nr n h u sn i sn1) (hl : h.length=sn.length) (hin : i < n) (hn : nr u i) (hi : sn1[i]? = some false) (ho : h[i]? = some Option.none) : GoT nr n h u sn (h.set i (some u)):=by
  have hih : i < h.length:=(List.getElem?_eq_some_iff.mp ho).1
  have ne : ∀ s : Nat,sn1[s]? = some true→i≠s:=fun s e z=>by subst z; rw [hi] at e; cases e
  have ag : ∀ s : Nat,sn1[s]? = some true→(h.set i (some u))[s]? = h[s]?:=fun s e=>List.getElem?_set_ne (ne s e)
  refine ⟨List.length_set,fun nh s v e=>?_,fun s e=>ag s (I.up s e),fun p=>?_,fun Z hZ=>?_⟩
  · rw [List.getElem?_set] at e
    by_cases c : i=s
    · subst c; rw [if_pos rfl,if_pos hih] at e; cases e; exact hn
    · rw [if_neg c] at e; exact nh s v e
  · have a:=cu_up (p:=p) I.len List.length_set I.up ag
    have b:=cu_hold (p:=p) (h:=h.set i (some u)) (o:=u) hi (by rw [List.getElem?_set,if_pos rfl,if_pos hih])
    rw [cu_set] at b
    have c:=cu_none (p:=p) (sn:=sn1) ho
    omega
  · have nz : ¬ Z i:=fun z=>by obtain ⟨o,e,_⟩:=hZ i z; rw [ho] at e; cases e
    exact ⟨⟨i,hin,hn,nz⟩,fun s z=>List.getElem?_set_ne fun (e : i=s)=>nz (e ▸ z)⟩
theorem GoI.over (I : GoI nr n h u sn i sn1) (hin : i < n) (hn : nr u i) (hi : sn1[i]? = some false) (ho : h[i]? = some (some o)) (G : GoT nr n h o (sn1.set i true) h1) : GoT nr n h u sn (h1.set i (some u)):=by
  have hih : i < h1.length:=by rw [G.len]; exact (List.getElem?_eq_some_iff.mp ho).1
  have ne : ∀ s : Nat,sn1[s]? = some true→i≠s:=fun s e z=>by subst z; rw [hi] at e; cases e
  have ag : ∀ s : Nat,sn1[s]? = some true→(h1.set i (some u))[s]? = h[s]?:=fun s e=>by
    rw [List.getElem?_set_ne (ne s e)]; exact G.keep s ((set_true hi).mpr (.inr e))
  refine ⟨by rw [List.length_set,G.len],fun nh s v e=>?_,fun s e=>ag s (I.up s e),fun p=>?_,fun Z hZ=>?_⟩
  · rw [List.getElem?_set] at e
    by_cases c : i=s
    · subst c; rw [if_pos rfl,if_pos hih] at e; cases e; exact hn
    · rw [if_neg c] at e; exact G.near nh s v e
  · have a:=cu_up (p:=p) I.len (by rw [List.length_set,G.len]) I.up ag
    have b:=cu_hold (p:=p) (h:=h1.set i (some u)) (o:=u) hi (by rw [List.getElem?_set,if_pos rfl,if_pos hih])
    rw [cu_set] at b
    have c:=cu_hold (p:=p) hi ho
    have d:=G.cnt p
    omega
  · obtain ⟨⟨t,t1,t2,t3⟩,kp⟩:=G.shut Z hZ
    have nz : ¬ Z i:=fun z=>by
      obtain ⟨o',e,f⟩:=hZ i z
      rw [ho] at e; cases e
      exact t3 (f t t1 t2)
    exact ⟨⟨i,hin,hn,nz⟩,fun s z=>by rw [List.getElem?_set_ne fun (e : i=s)=>nz (e ▸ z)]; exact kp s z⟩
structure Sat (nr : Nat→Nat→Prop) (n : Nat) (i : Nat) (h : List (Option Nat)) (os fs : List Nat) : Prop where
  len : h.length=n
  near : ∀ (s v : Nat),h[s]? = some (some v)→nr v s
  cnt : ∀ p,cu p (List.replicate n false) h=os.countP p
  all : (os ++ fs).Perm (List.range i)
  shut : ∃ Z,Shut nr n h Z∧∀ f∈fs,∀ s,s < n→nr f s→Z s
theorem cu_nones {p : Nat→Bool} : ∀ n,cu p (List.replicate n false) (List.replicate n none)=0
  | 0=>rfl
  | n + 1=>by rw [List.replicate_succ,List.replicate_succ]; exact cu_nones n
theorem Sat.zero : Sat nr n 0 (List.replicate n none) [] []:=
  ⟨List.length_replicate,fun s v e=>(by rw [List.getElem?_replicate] at e; split at e <;> cases e),fun p=>cu_nones n,.refl _,fun _=>False,fun s z=>z.elim,fun f m=>(by cases m)⟩
theorem Sat.seat {os fs : List Nat} (S : Sat nr n i h os fs) (G : GoT nr n h i (List.replicate n false) h1) : Sat nr n (i + 1) h1 (i :: os) fs:=by
  obtain ⟨Z,hZ,hf⟩:=S.shut
  obtain ⟨_,kp⟩:=G.shut Z hZ
  refine ⟨by rw [G.len,S.len],G.near S.near,fun p=>?_,?_,Z,fun s z=>?_,hf⟩
  · rw [G.cnt,S.cnt,List.countP_cons]
    cases p i <;> rfl
  · rw [List.range_succ]
    exact (List.Perm.cons i S.all).trans (List.perm_append_singleton i _).symm
  · obtain ⟨o,e,f⟩:=hZ s z
    exact ⟨o,by rw [kp s z]; exact e,f⟩
theorem Sat.miss {os fs : List Nat} (S : Sat nr n i h os fs) (F : GoF nr n h i (List.replicate n false) sn1) : Sat nr n (i + 1) h os (i :: fs):=by
  obtain ⟨Z,hZ,hf⟩:=S.shut
  refine ⟨S.len,S.near,S.cnt,?_,fun s=>Z s∨sn1[s]? = some true,fun s z=>?_,fun f m s hs hn=>?_⟩
  · rw [List.range_succ]
    exact List.perm_middle.trans ((List.Perm.cons i S.all).trans (List.perm_append_singleton i _).symm)
  · rcases z with z | z
    · obtain ⟨o,e,f⟩:=hZ s z
      exact ⟨o,e,fun t ht hn=>.inl (f t ht hn)⟩
    · rcases F.new s z with e | ⟨o,e,f⟩
      · rw [List.getElem?_replicate] at e; split at e <;> cases e
      · exact ⟨o,e,fun t ht hn=>.inr (f t ht hn)⟩
  · rcases List.mem_cons.mp m with rfl | m
    · exact .inr (F.cl s hs hn)
    · exact .inl (hf f m s hs hn)
def NrD (tm : Int) (us ss : List Int) (u s : Nat) : Prop:=∃ d e,us[u]? = some d∧ss[s]? = some e∧e - tm≤d∧d≤e
theorem cu_ge {p : Nat→Bool} {B : Int→Bool} : ∀ {ss : List Int} {h : List (Option Nat)},(∀ (s : Nat) e,ss[s]? = some e→B e=true→∃ o,h[s]? = some (some o)∧p o=true)→ss.countP B≤cu p (List.replicate ss.length false) h
  | [],_,_=>Nat.zero_le _
  | e :: ss,[],hh=>by
    rw [List.countP_eq_zero.mpr fun x hx z=>?_]
    · exact Nat.zero_le _
    · obtain ⟨i,hi⟩:=List.getElem?_of_mem hx
      obtain ⟨o,z,_⟩:=hh i x hi z
      cases z
  | e :: ss,x :: h,hh=>by
    have k:=cu_ge (p:=p) (B:=B) (ss:=ss) (h:=h) fun s e=>hh (s + 1) e
    rw [List.countP_cons,List.length_cons,List.replicate_succ]
    by_cases c : B e=true
    · obtain ⟨o,z,po⟩:=hh 0 e rfl c
      cases z
      rw [if_pos c]
      simp only [cu,po,Bool.toNat_true]
      omega
    · rw [if_neg c]
      cases x <;> simp only [cu] <;> omega
theorem cu_le {p : Nat→Bool} {B : Int→Bool} : ∀ {ss : List Int} {h : List (Option Nat)},(∀ (s : Nat) e o,ss[s]? = some e→h[s]? = some (some o)→p o=true→B e=true)→cu p (List.replicate ss.length false) h≤ss.countP B
  | [],_,_=>Nat.zero_le _
  | e :: ss,[],hh=>by rw [List.length_cons,List.replicate_succ]; exact Nat.zero_le _
  | e :: ss,x :: h,hh=>by
    have k:=cu_le (p:=p) (B:=B) (ss:=ss) (h:=h) fun s e=>hh (s + 1) e
    rw [List.countP_cons,List.length_cons,List.replicate_succ]
    cases x with
    | none=>simp only [cu]; omega
    | some o=>
      simp only [cu]
      cases c : p o with
      | false=>simp only [Bool.toNat_false]; omega
      | true=>rw [if_pos (hh 0 e o rfl rfl c)]; simp only [Bool.toNat_true]; omega
theorem count_range (q : Int→Bool) (us : List Int) : us.countP q=(List.range us.length).countP fun u=>q (us.getD u 0):=by
  have e : us=(List.range us.length).map fun u=>us.getD u 0:=by
    refine List.ext_getElem? fun j=>?_
    rw [List.getElem?_map]
    by_cases hj : j < us.length
    · rw [List.getElem?_range hj,List.getElem?_eq_getElem hj,Option.map_some,List.getD_eq_getElem?_getD,List.getElem?_eq_getElem hj]; rfl
    · rw [List.getElem?_eq_none (by omega),List.getElem?_eq_none (by rw [List.length_range]; omega)]; rfl
  conv=>lhs; rw [e,List.countP_map]
  rfl
open Classical in
theorem Sat.cover {tm : Int} {us ss : List Int} {os fs : List Nat} (S : Sat (NrD tm us ss) ss.length us.length h os fs) : ∃ A : Int→Bool,(ss.countP fun e=>decide (∃ d,A d=true∧e - tm≤d∧d≤e)) + (us.countP fun d=>!A d)≤os.length:=by
  obtain ⟨Z,hZ,hf⟩:=S.shut
  refine ⟨fun d=>decide (∀ (s : Nat) e,ss[s]? = some e→e - tm≤d→d≤e→Z s),?_⟩
  generalize hA : (fun d=>decide (∀ (s : Nat) e,ss[s]? = some e→e - tm≤d→d≤e→Z s))=A
  have isA : ∀ d,A d=true↔∀ (s : Nat) e,ss[s]? = some e→e - tm≤d→d≤e→Z s:=fun d=>by rw [← hA]; exact decide_eq_true_iff
  have nrA : ∀ u,u < us.length→(∀ s,s < ss.length→NrD tm us ss u s→Z s)→A (us.getD u 0)=true:=fun u hu g=>(isA _).mpr fun s e es h1 h2=>by
    refine g s (List.getElem?_eq_some_iff.mp es).1 ⟨us.getD u 0,e,?_,es,h1,h2⟩
    rw [List.getD_eq_getElem?_getD,List.getElem?_eq_getElem hu]; rfl
  have lt : ∀ u∈os ++ fs,u < us.length:=fun u hu=>List.mem_range.mp (S.all.mem_iff.mp hu)
  have c1 : (ss.countP fun e=>decide (∃ d,A d=true∧e - tm≤d∧d≤e))≤os.countP fun u=>A (us.getD u 0):=by
    rw [← S.cnt]
    refine cu_ge fun s e es b=>?_
    obtain ⟨d,hd,h1,h2⟩:=of_decide_eq_true b
    obtain ⟨o,ho,g⟩:=hZ s ((isA d).mp hd s e es h1 h2)
    obtain ⟨d',e',eu,_⟩:=S.near s o ho
    exact ⟨o,ho,nrA o (List.getElem?_eq_some_iff.mp eu).1 g⟩
  have c2 : (us.countP fun d=>!A d)=os.countP fun u=>!A (us.getD u 0):=by
    rw [count_range,← S.all.countP_eq,List.countP_append,List.countP_eq_zero (l:=fs).mpr fun f hf'=>?_]
    · rfl
    · rw [nrA f (lt f (List.mem_append_right _ hf')) (hf f hf')]; decide
  have c3:=List.length_eq_countP_add_countP (l:=os) fun u=>A (us.getD u 0)
  have c4 : (os.countP fun u=>!A (us.getD u 0))=os.countP fun u=>decide ¬ A (us.getD u 0)=true:=List.countP_congr fun u _=>by cases A (us.getD u 0) <;> simp
  omega
theorem Sat.weak {tm : Int} {us ss : List Int} {os fs : List Nat} {m : Nat} (S : Sat (NrD tm us ss) ss.length m h os fs) (q B : Int→Bool) (hB : ∀ d e,q d=true→e - tm≤d→d≤e→B e=true) : (os.countP fun u=>q (us.getD u 0))≤ss.countP B:=by
  rw [← S.cnt]
  refine cu_le fun s e o es ho po=>?_
  obtain ⟨d,e',eu,es',h1,h2⟩:=S.near s o ho
  rw [es] at es'; cases es'
  rw [List.getD_eq_getElem?_getD,eu] at po
  exact hB d e po h1 h2
end L2
namespace L2
def SA (A : Int→Bool) : List (Int×Int)→Int
  | []=>0
  | p :: r=>(if A p.1=true then p.2 else 0) + SA A r
theorem give_few {A : Int→Bool} {tm e : Int} : ∀ {c : Int} {L : List (Int×Int)},0≤c→Pos L→SA A L - SA A (give tm e c L)≤c
  | c,[],h,_=>by show (0 : Int) - 0≤c; omega
  | c,p :: r,h,hL=>by
    have hp:=hL p (.head _)
    show (if A p.1=true then p.2 else 0) + SA A r - ((if A p.1=true then p.2 - (if 0 < min c p.2∧e - tm≤p.1∧p.1≤e then min c p.2 else 0) else 0) + SA A (give tm e (c - (if 0 < min c p.2∧e - tm≤p.1∧p.1≤e then min c p.2 else 0)) r))≤c
    have g0 : 0≤(if 0 < min c p.2∧e - tm≤p.1∧p.1≤e then min c p.2 else 0):=by split <;> omega
    have g1 : (if 0 < min c p.2∧e - tm≤p.1∧p.1≤e then min c p.2 else 0)≤c:=by split <;> omega
    generalize (if 0 < min c p.2∧e - tm≤p.1∧p.1≤e then min c p.2 else 0)=g at *
    have k:=give_few (A:=A) (tm:=tm) (e:=e) (c:=c - g) (L:=r) (by omega) fun q hq=>hL q (.tail _ hq)
    split <;> omega
theorem give_off {A : Int→Bool} {tm e : Int} (hA : ∀ d,A d=true→¬ (e - tm≤d∧d≤e)) : ∀ {c : Int} {L : List (Int×Int)},SA A (give tm e c L)=SA A L
  | c,[]=>rfl
  | c,p :: r=>by
    show (if A p.1=true then p.2 - (if 0 < min c p.2∧e - tm≤p.1∧p.1≤e then min c p.2 else 0) else 0) + SA A (give tm e _ r)=(if A p.1=true then p.2 else 0) + SA A r
    rw [give_off hA]
    by_cases c : A p.1=true
    · rw [if_pos c,if_pos c,if_neg (fun z=>hA _ c z.2)]; omega
    · rw [if_neg c,if_neg c]
open Classical in
noncomputable def nearB (A : Int→Bool) (tm : Int) : Int→Bool:=fun e=>decide (∃ d,A d=true∧e - tm≤d∧d≤e)
open Classical in
theorem nearB_iff {A : Int→Bool} {tm e : Int} : nearB A tm e=true↔∃ d,A d=true∧e - tm≤d∧d≤e:=by unfold nearB; exact decide_eq_true_iff
theorem deal_cover {A : Int→Bool} {tm : Int} : ∀ {O L : List (Int×Int)},Pos O→Pos L→SA A L≤SA A (deal tm O L) + SA (nearB A tm) O
  | [],L,_,_=>by show SA A L≤SA A L + 0; omega
  | o :: O,L,hO,hL=>by
    have k:=deal_cover (A:=A) (tm:=tm) (O:=O) (L:=give tm o.1 o.2 L) (fun q hq=>hO q (.tail _ hq)) (give_pos hL)
    show SA A L≤SA A (deal tm O (give tm o.1 o.2 L)) + ((if nearB A tm o.1=true then o.2 else 0) + SA (nearB A tm) O)
    by_cases c : nearB A tm o.1=true
    · rw [if_pos c]
      have:=give_few (A:=A) (tm:=tm) (e:=o.1) (hO o (.head _)) hL
      omega
    · rw [if_neg c]
      have:=give_off (A:=A) (tm:=tm) (e:=o.1) (c:=o.2) (L:=L) fun d hd z=>c (nearB_iff.mpr ⟨d,hd,z⟩)
      omega
theorem hall_cover {A : Int→Bool} {tm : Int} {O L : List (Int×Int)} (ht : 0≤tm) (hO : Pos O) (uO : Up1 O) (hL : Pos L) (uL : Up1 L) (h : Hall L O tm) : SA A L≤SA (nearB A tm) O:=by
  have z:=(deal_iff ht hO uO hL uL).mpr h
  have k:=deal_cover (A:=A) (tm:=tm) hO hL
  have e : ∀ (M : List (Int×Int)),(∀ p∈M,p.2=0)→SA A M=0:=by
    intro M
    induction M with
    | nil=>intro _; rfl
    | cons p r ih=>
      intro hM
      show (if A p.1=true then p.2 else 0) + SA A r=0
      rw [hM p (.head _),ih fun q hq=>hM q (.tail _ hq)]
      split <;> rfl
  rw [e _ z] at k
  omega
theorem SA_units (A : Int→Bool) : ∀ (L : List (Int×Int)),Pos L→SA A L=((L.flatMap fun p=>List.replicate p.2.toNat p.1).countP A : Nat)
  | [],_=>rfl
  | p :: r,h=>by
    have hp:=h p (.head _)
    have k:=SA_units A r fun q hq=>h q (.tail _ hq)
    show (if A p.1=true then p.2 else 0) + SA A r=_
    rw [List.flatMap_cons,List.countP_append,List.countP_replicate,k]
    by_cases c : A p.1=true
    · rw [if_pos c,if_pos c]; omega
    · rw [if_neg c,if_neg c]; omega
end L2
namespace K07
open PySem L2
abbrev s_goes_over : Stmt:=top 48
abbrev n_goes_over : List Str:=["_law_units","_law_seats","_law_term","_law_holders","_law_unit","_law_seen","_law_seat","_law_near","_law_other"]
abbrev p_goes_over : List Str:=["_law_units","_law_seats","_law_term","_law_holders","_law_unit","_law_seen"]
theorem sc_goes_over : FnScope n_goes_over p_goes_over (defScope s_goes_over):=⟨rfl,rfl,rfl,by decide +kernel,rfl,by decide +kernel,by decide +kernel⟩
def optV : Option Nat→V
  | none=>.non
  | some u=>.int u
def spGoes (n : Nat) : Sp:=fun vs H Q _=>∃ (ua sa ha na : Addr) (us ss : List Int) (tm : Int) (h : List (Option Nat)) (u : Nat) (sn : List Bool),vs=[.ref ua,.ref sa,.int tm,.ref ha,.int u,.ref na]∧H ua=some (.lst (us.map V.int))∧H sa=some (.lst (ss.map V.int))∧H ha=some (.lst (h.map optV))∧H na=some (.lst (sn.map V.bl))∧
  (ua≠ha∧ua≠na∧sa≠ha∧sa≠na∧ha≠na)∧h.length=ss.length∧sn.length=ss.length∧ss.length≤900∧u < us.length∧(∀ (s v : Nat),h[s]? = some (some v)→NrD tm us ss v s)∧(sn.countP fun b=>!b) < n∧
  (∀ (h' : List (Option Nat)) (sn' : List Bool) H',(∀ b o,b≠ha→b≠na→H b=some o→H' b=some o)→H' ha=some (.lst (h'.map optV))→H' na=some (.lst (sn'.map V.bl))→GoT (NrD tm us ss) ss.length h u sn h'→Q (.bl true) H')∧
  (∀ (sn' : List Bool) H',(∀ b o,b≠ha→b≠na→H b=some o→H' b=some o)→H' ha=some (.lst (h.map optV))→H' na=some (.lst (sn'.map V.bl))→GoF (NrD tm us ss) ss.length h u sn sn'→Q (.bl false) H')
theorem unseen_set : ∀ {sn : List Bool} {i : Nat},sn[i]? = some false→((sn.set i true).countP fun b=>!b) + 1=sn.countP fun b=>!b
  | [],_,e=>by cases e
  | b :: sn,0,e=>by cases e; rw [List.set_cons_zero,List.countP_cons,List.countP_cons]; rfl
  | b :: sn,i + 1,e=>by
    have k:=unseen_set (sn:=sn) (i:=i) e
    rw [List.set_cons_succ,List.countP_cons,List.countP_cons]
    omega
theorem unseen_up : ∀ {sn sn1 : List Bool},sn1.length=sn.length→(∀ s : Nat,sn[s]? = some true→sn1[s]? = some true)→(sn1.countP fun b=>!b)≤sn.countP fun b=>!b
  | [],[],_,_=>Nat.le_refl _
  | [],_ :: _,e,_=>by cases e
  | _ :: _,[],e,_=>by cases e
  | b :: sn,b1 :: sn1,e,up=>by
    have k:=unseen_up (sn:=sn) (sn1:=sn1) (by simpa using e) fun s=>up (s + 1)
    have u0:=up 0
    simp only [List.getElem?_cons_zero,Option.some.injEq] at u0
    rw [List.countP_cons,List.countP_cons]
    cases b <;> cases b1 <;> simp at u0 ⊢ <;> omega
section
variable {P : Program} {w : World} {K : PySem.W.Frag} {mg : Str→Option Value} {base : Heap} {f : Addr} {fd : FuncData} (B : Bn mg)
include B
theorem ok_goes1 {n : Nat} (G_goes_over : Cal P w K mg base CX0 n "_law_goes_over" p_goes_over (spGoes n)) (F : Fun K "_law_goes_over" "_law_goes_over" s_goes_over f fd) : FnOk P w K mg base CX0 (n + 1) f fd p_goes_over (spGoes (n + 1)):=by
  refine F.ok sc_goes_over (fun vs H Q E h=>?_) (fun cdv A outer s H vs Q E hr h=>?_)
  · obtain ⟨ua,sa,ha,na,us,ss,tm,h,u,sn,rfl,_⟩:=h; rfl
  obtain ⟨ua,sa,ha,na,us,ss,tm,h,u,sn,rfl,eu,es,eh,en,⟨n1,n2,n3,n4,n5⟩,lh,ln,l24,hu,hn,hc,q1,q2⟩:=h
  refine ⟨_,(pss_cons (ps_for PassesOwn.never rfl (pi_range1 rfl B.range (pa_c (pe_callB call_len_seq rfl B.len PySem.boot_len (pa_c (pv 1) pa_nil)) pa_nil)) (pg_name (i:=6) sc_goes_over.nd rfl (Or.inl rfl)) (pss_cons (ps_set (i:=7) sc_goes_over.nd rfl (Or.inl rfl) (pe_and (pe_cmpR op_le (pe_op op_sub (pe_ix ix_list (pv 1) (pv 6) (fun _ _=>rfl)) (pv 2)) (pe_ix ix_list (pv 0) (pv 4) (fun _ _=>rfl)) (nomark _)) (pe_one (pe_cmpR op_le (pe_ix ix_list (pv 0) (pv 4) (fun _ _=>rfl)) (pe_ix ix_list (pv 1) (pv 6) (fun _ _=>rfl)) (nomark _)))))
      (pss_one (ps_if (PW.pt (pw_and (pt_truth (pv 7) (fun _=>rfl)) (pw_and1 (pt_not (pt_truth (pe_ix ix_list (pv 5) (pv 6) (fun _ _=>rfl)) (fun _=>rfl)))))) (pss_cons (ps_asg pe_bl (pg_sub (pv 5) (pv 6) set_list))
        (pss_cons (ps_set (i:=8) sc_goes_over.nd rfl (Or.inl rfl) (pe_ix ix_list (pv 3) (pv 6) (fun _ _=>rfl)))
        (pss_one (ps_if (PW.pt (pw_or (pt_cmpR op_isN (pv 8) pe_non (nomark _)) (pw_or1 (pt_truth (pe_cal G_goes_over hr rfl pass0 (pa_c (pv 0) (pa_c (pv 1) (pa_c (pv 2) (pa_c (pv 3) (pa_c (pv 8) (pa_c (pv 5) pa_nil)))))) (hk:=Nat.le_refl _)) (fun _=>rfl))))) (pss_cons (ps_asg (pv 4) (pg_sub (pv 3) (pv 6) set_list))
          (pss_one (ps_ret pe_bl))) pss_nil)))) pss_nil))))
    (pss_one (ps_ret pe_bl))),?_⟩
  have lm : ∀ xs : List Int,(xs.map V.int).length=xs.length:=fun xs=>List.length_map _
  refine ⟨_,rfl,sa,_,rfl,.inl (SqL.of es),_,rfl,by omega,by rw [lm]; omega,?_⟩
  refine for_range (fun i σ H'=>∃ sn1 o6 o7 o8,σ=[some (.ref ua),some (.ref sa),some (.int tm),some (.ref ha),some (.int u),some (.ref na),o6,o7,o8]∧(∀ b o,b≠ha→b≠na→H b=some o→H' b=some o)∧H' ha=some (.lst (h.map optV))∧H' na=some (.lst (sn1.map V.bl))∧GoI (NrD tm us ss) ss.length h u sn i sn1) ⟨sn,_,_,_,rfl,fun b o _ _ e=>e,eh,en,GoI.zero⟩ ?_ ?_
  · rintro i σ H1 hi ⟨sn1,o6,o7,o8,rfl,kp,eh1,en1,I⟩
    rw [lm] at hi
    have hi : i < ss.length:=by omega
    have as : atI (ss.map V.int) (0 + (i : Int))=some (.int ss[i]):=atI_ints (by omega) hi
    have au : atI (us.map V.int) (u : Int)=some (.int us[u]):=atI_ints rfl hu
    have es1:=kp _ _ n3 n4 es
    have eu1:=kp _ _ n1 n2 eu
    refine ⟨_,rfl,_,rfl,sa,_,_,_,rfl,rfl,SqL.of es1,as,_,rfl,_,_,rfl,rfl,_,rfl,_,rfl,ua,_,_,_,rfl,rfl,SqL.of eu1,au,_,_,rfl,rfl,_,rfl,?_⟩
    have nrI : NrD tm us ss u i→ss[i] - tm≤us[u]∧us[u]≤ss[i]:=fun ⟨d,e,e1,e2,h1,h2⟩=>by
      rw [List.getElem?_eq_getElem hu] at e1; rw [List.getElem?_eq_getElem hi] at e2; cases e1; cases e2; exact ⟨h1,h2⟩
    by_cases c1 : ss[i] - tm≤us[u]
    · refine (if_pos (decide_eq_true c1)).mpr ?_
      refine ⟨_,rfl,_,rfl,ua,_,_,_,rfl,rfl,SqL.of eu1,au,_,rfl,_,rfl,sa,_,_,_,rfl,rfl,SqL.of es1,as,_,_,rfl,rfl,?_⟩
      by_cases c2 : us[u]≤ss[i]
      · dsimp only
        rw [decide_eq_true c2]
        have hnr : NrD tm us ss u i:=⟨_,_,List.getElem?_eq_getElem hu,List.getElem?_eq_getElem hi,c1,c2⟩
        have li : i < sn1.length:=by rw [I.len,ln]; exact hi
        have asn : atI (sn1.map V.bl) (0 + (i : Int))=some (.bl sn1[i]):=atI_some (by omega) (by rw [show ((0 : Int) + (i : Int)).toNat=i by omega,List.getElem?_map,List.getElem?_eq_getElem li]; rfl)
        refine ⟨_,rfl,_,rfl,iteT ⟨_,rfl,_,rfl,na,_,_,_,rfl,rfl,SqL.of en1,asn,_,rfl,?_⟩⟩
        cases hs : sn1[i] with
        | true=>exact iteF ⟨sn1,_,_,_,rfl,kp,eh1,en1,I.pass (.inr (by rw [List.getElem?_eq_getElem li,hs]))⟩
        | false=>
          have hi0 : sn1[i]? = some false:=by rw [List.getElem?_eq_getElem li,hs]
          have ixn : ∀ m : Nat,i < m→ixN m (0 + (i : Int))=some i:=fun m hm=>by unfold ixN; rw [if_pos (by omega),if_pos (by omega)]; congr 1; omega
          have lhi : i < h.length:=by omega
          have ah : atI (h.map optV) (0 + (i : Int))=some (optV h[i]):=atI_some (by omega) (by rw [show ((0 : Int) + (i : Int)).toNat=i by omega,List.getElem?_map,List.getElem?_eq_getElem lhi]; rfl)
          have sme : (sn1.map V.bl).set i (.bl true)=(sn1.set i true).map V.bl:=by rw [List.map_set]
          have kk : ∀ b o,b≠ha→b≠na→H b=some o→L2.upd H1 na (.lst ((sn1.set i true).map V.bl)) b=some o:=fun b o h1 h2 e=>by rw [upd_ne h2]; exact kp b o h1 h2 e
          have eh2 : L2.upd H1 na (.lst ((sn1.set i true).map V.bl)) ha=some (.lst (h.map optV)):=by rw [upd_ne n5]; exact eh1
          refine iteT ⟨_,rfl,_,rfl,na,_,_,i,rfl,rfl,en1,ixn _ (by rw [List.length_map]; exact li),?_⟩
          rw [sme]
          refine ⟨_,rfl,_,rfl,ha,_,_,_,rfl,rfl,SqL.of eh2,ah,?_⟩
          have en2 : L2.upd H1 na (.lst ((sn1.set i true).map V.bl)) na=some (.lst ((sn1.set i true).map V.bl)):=upd_same
          have eu2:=kk _ _ n1 n2 eu
          have es2:=kk _ _ n3 n4 es
          generalize L2.upd H1 na (.lst ((sn1.set i true).map V.bl))=H2 at *
          have lhm : i < (h.map optV).length:=by rw [List.length_map]; exact lhi
          cases hh : h[i] with
          | none=>
            have ho : h[i]? = some none:=by rw [List.getElem?_eq_getElem lhi,hh]
            refine ⟨_,rfl,rfl,_,rfl,?_⟩
            refine (if_pos (decide_eq_true rfl)).mpr (iteT ⟨_,rfl,_,rfl,_,rfl,ha,_,_,i,rfl,rfl,eh2,ixn _ lhm,?_⟩)
            rw [show (V.int (u : Int))=optV (some u) from rfl,← List.map_set]
            exact q1 _ (sn1.set i true) _ (fun b o h1 h2 e=>by rw [upd_ne h1]; exact kk b o h1 h2 e) upd_same (by rw [upd_ne n5.symm]; exact en2) (I.none (lh.trans ln.symm) hi hnr hi0 ho)
          | some o=>
            have ho : h[i]? = some (some o):=by rw [List.getElem?_eq_getElem lhi,hh]
            refine ⟨_,rfl,rfl,_,rfl,?_⟩
            refine (if_neg (by intro z; cases (of_decide_eq_true z))).mpr ?_
            have ou : o < us.length:=by obtain ⟨d,e,eo,_⟩:=hn i o ho; exact (List.getElem?_eq_some_iff.mp eo).1
            have cc : ((sn1.set i true).countP fun b=>!b) < n:=by
              have a1:=unseen_set hi0
              have a2:=unseen_up I.len I.up
              omega
            refine ⟨_,rfl,_,rfl,_,rfl,_,rfl,_,rfl,_,rfl,ua,sa,ha,na,us,ss,tm,h,o,sn1.set i true,rfl,eu2,es2,eh2,en2,⟨n1,n2,n3,n4,n5⟩,lh,by rw [List.length_set,I.len,ln],l24,ou,hn,cc,fun h' sn' H' k3 e3 e4 G=>⟨_,rfl,iteT ?_⟩,fun sn' H' k3 e3 e4 Fl=>⟨_,rfl,iteF ⟨sn',_,_,_,rfl,fun b o h1 h2 e=>k3 b o h1 h2 (kk b o h1 h2 e),e3,e4,I.fail hi0 ho Fl⟩⟩⟩
            refine ⟨_,rfl,_,rfl,_,rfl,ha,_,_,i,rfl,rfl,e3,ixn _ (by rw [List.length_map,G.len]; exact lhi),?_⟩
            rw [show (V.int (u : Int))=optV (some u) from rfl,← List.map_set]
            exact q1 _ sn' _ (fun b o h1 h2 e=>by rw [upd_ne h1]; exact k3 b o h1 h2 (kk b o h1 h2 e)) upd_same (by rw [upd_ne n5.symm]; exact e4) (I.over hi hnr hi0 ho G)
      · dsimp only
        rw [decide_eq_false c2]
        exact ⟨_,rfl,_,rfl,iteF (iteF ⟨sn1,_,_,_,rfl,kp,eh1,en1,I.pass (.inl fun z=>c2 (nrI z).2)⟩)⟩
    · refine (if_neg (by rw [decide_eq_false c1]; decide)).mpr ?_
      exact ⟨_,rfl,_,rfl,iteF (iteF ⟨sn1,_,_,_,rfl,kp,eh1,en1,I.pass (.inl fun z=>c1 (nrI z).1)⟩)⟩
  · rintro σ H1 ⟨sn1,o6,o7,o8,rfl,kp,eh1,en1,I⟩
    rw [lm] at I
    exact q2 _ _ kp eh1 en1 (GoI.fin (by rw [show ((ss.length : Int)).toNat=ss.length by omega] at I; exact I))
omit B in
theorem spGoes0 {vs : List V} {H : Hp} {Q : VK} {E : XK} (h : spGoes 0 vs H Q E) : False:=by
  obtain ⟨ua,sa,ha,na,us,ss,tm,h,u,sn,_,_,_,_,_,_,_,_,_,_,_,c,_⟩:=h
  exact absurd c (Nat.not_lt_zero _)
theorem ok_goes (F : Fun K "_law_goes_over" "_law_goes_over" s_goes_over f fd) (b1 : Binds K fd p_goes_over []) (k1 : PySem.W.keepIn K (.ref f)=true) (m1 : mg "_law_goes_over" = some (.ref f)) : ∀ n : Nat,FnOk P w K mg base CX0 n f fd p_goes_over (spGoes n)
  | 0=>⟨fun _ _ _ _ h=>(spGoes0 h).elim,fun _ _ _ _ _ _ _ _ _ _ _ _ _ h=>(spGoes0 h).elim⟩
  | n + 1=>ok_goes1 B ⟨f,fd,ok_goes F b1 k1 m1 n,b1,k1,m1⟩ F
end
end K07
namespace L2
open PySem PySem.Spec PySem.W PyProof.Rows
section
variable {X : Cx}
end
end L2
namespace L2
open PySem
variable {P : Program} {w : World} {K : PySem.W.Frag} {mg : Str→Option Value} {base : Heap}
end L2
namespace L2
open PySem PySem.Spec PyProof.Rows
section
variable {X : Cx}
end
end L2
namespace L2
open PySem
end L2
namespace L2
open PySem
theorem sumO_snoc (g : Int→Int) (k : Int) : ∀ os : List Int,sumO g (os ++ [k])=sumO g os + g k
  | []=>by show g k + 0=0 + g k; omega
  | i :: os=>by show g i + sumO g (os ++ [k])=g i + sumO g os + g k; rw [sumO_snoc g k os]; omega
theorem upto_next (n : Nat) : uptoN (n + 1)=uptoN n ++ [(n : Int)]:=by
  unfold uptoN
  rw [List.range_succ,List.map_append]; rfl
theorem slack_to (rs : List (List Int)) (ts : List Int) (v : Int→Int→Int) (f l : Int) : ∀ k,slackTo rs ts v k f l=v f l - sumO (fun i=>if f≤colAt rs 0 i∧colAt rs 0 i≤l then ts.getD i.toNat 0 else 0) (uptoN k)
  | 0=>by show v f l=v f l - 0; omega
  | k + 1=>by
    rw [upto_next,sumO_snoc]
    have ih:=slack_to rs ts v f l k
    show lessF (slackTo rs ts v k) _ _ f l=_
    unfold lessF
    have e : colAt rs 0 (k : Int)=(rs.getD k []).getD 0 0:=rfl
    have e2 : ((k : Nat) : Int).toNat=k:=by omega
    rw [ih,e,e2]
    split <;> omega
theorem slack_units (rs os : List (List Int)) (tm : Int) (ts : List Int) (f l : Int) : slackF rs os tm ts f l=goingOf os tm f l - unitsIn rs (fun i=>ts.getD i.toNat 0) f l:=slack_to rs ts (goingOf os tm) f l rs.length
end L2
namespace L2
open PySem
end L2
namespace HT
open PySem PySem.Spec PyProof.Rows
variable {prog : Program} {w : World} {A : Around} {E : Value→Shared→Prop} {s : Shared}
end HT
namespace L2
open PySem PySem.Spec PyProof.Rows
end L2
namespace L2
open PySem PySem.Spec PySem.W PyProof.Rows
end L2
namespace L2
open PySem
end L2
namespace L2
open PySem PySem.Spec PyProof.Rows
variable {X : Cx}
end L2
namespace L2
open PySem
end L2
namespace L2
open PySem
end L2
namespace L2
open PySem
def onB (f l d : Int) : Bool:=decide (f≤d∧d≤l)
end L2
namespace L2
open PySem
end L2
namespace L2
open PySem
end L2
namespace L2
open PySem
end L2
namespace L2
def rowOf (L : List (Int×Int)) : List Int:=L.flatMap fun p=>List.replicate p.2.toNat p.1
theorem SA_sum (A : Int→Bool) : ∀ L : List (Int×Int),SA A L=(L.map fun p=>if A p.1=true then p.2 else 0).sum
  | []=>rfl
  | p :: r=>by rw [List.map_cons,List.sum_cons,← SA_sum A r]; rfl
theorem SA_perm {A : Int→Bool} {a b : List (Int×Int)} (h : a.Perm b) : SA A a=SA A b:=by
  rw [SA_sum,SA_sum]; exact perm_sum (h.map _)
theorem by_day (rs : List (List Int)) : ∃ is : List Int,is.Perm (uptoN rs.length)∧is.Pairwise fun i j=>colAt rs 0 i≤colAt rs 0 j:=by
  refine ⟨(uptoN rs.length).mergeSort fun i j=>decide (colAt rs 0 i≤colAt rs 0 j),List.mergeSort_perm _ _,?_⟩
  refine (List.pairwise_mergeSort (le:=fun i j=>decide (colAt rs 0 i≤colAt rs 0 j)) (fun a b c h1 h2=>?_) (fun a b=>?_) _).imp fun h=>of_decide_eq_true h
  · have:=of_decide_eq_true h1
    have:=of_decide_eq_true h2
    exact decide_eq_true (by omega)
  · by_cases c : colAt rs 0 a≤colAt rs 0 b
    · rw [decide_eq_true c]; rfl
    · rw [decide_eq_true (show colAt rs 0 b≤colAt rs 0 a by omega),Bool.or_true]
theorem lots_pos {rs : List (List Int)} {ts is : List Int} (h : ∀ i∈is,0≤ts.getD i.toNat 0) : Pos (lotsBy rs ts is):=fun p hp=>by
  obtain ⟨i,hi,rfl⟩:=List.mem_map.mp hp
  exact h i hi
theorem outs_pos {os : List (List Int)} {js : List Int} (ho : ∀ r∈os,0≤r.getD 1 0) : Pos (outsBy os js):=fun p hp=>by
  obtain ⟨j,hj,rfl⟩:=List.mem_map.mp hp
  exact col_nn ho j
theorem hall_any {A : Int→Bool} {tm : Int} {rs os : List (List Int)} {ts : List Int} (ht : 0≤tm) (ho : ∀ r∈os,0≤r.getD 1 0) (hts : ∀ i∈uptoN rs.length,0≤ts.getD i.toNat 0) (h : NoLack rs os tm ts) :
    SA A (lotsBy rs ts (uptoN rs.length))≤SA (nearB A tm) (outsBy os (uptoN os.length)):=by
  obtain ⟨ds,hds⟩:=days_exist rs
  obtain ⟨is,pi,ui⟩:=by_day rs
  obtain ⟨js,pj,uj⟩:=by_day os
  have k:=(slack_hall hds pi pj ho).mp (h ds hds)
  have e1 : SA A (lotsBy rs ts (uptoN rs.length))=SA A (lotsBy rs ts is):=SA_perm (pi.map _).symm
  have e2 : SA (nearB A tm) (outsBy os (uptoN os.length))=SA (nearB A tm) (outsBy os js):=SA_perm (pj.map _).symm
  rw [e1,e2]
  exact hall_cover ht (outs_pos ho) (List.pairwise_map.mpr uj) (lots_pos fun i hi=>hts i (pi.mem_iff.mp hi)) (List.pairwise_map.mpr ui) k
theorem SA_on (f l : Int) : ∀ L : List (Int×Int),SA (onB f l) L=S L f l
  | []=>rfl
  | p :: r=>by
    show (if onB f l p.1=true then p.2 else 0) + SA (onB f l) r=(if f≤p.1∧p.1≤l then p.2 else 0) + S r f l
    rw [SA_on f l r]
    unfold onB
    by_cases c : f≤p.1∧p.1≤l
    · rw [if_pos c,if_pos (decide_eq_true c)]
    · rw [if_neg c,if_neg (by rw [decide_eq_false c]; decide)]
section
variable {tm : Int} {rs os : List (List Int)} {ts us ss : List Int} {h : List (Option Nat)} {ok fs : List Nat}
theorem Sat.len_le (S : Sat (NrD tm us ss) ss.length us.length h ok fs) : ok.length≤us.length:=by
  have:=S.all.length_eq
  rw [List.length_append,List.length_range] at this
  omega
theorem outs_on (ho : ∀ r∈os,0≤r.getD 1 0) (es : ss=rowOf (outsBy os (uptoN os.length))) (f l : Int) : ((ss.countP (onB f (l + tm)) : Nat) : Int)=goingOf os tm f l:=by
  rw [es]
  unfold rowOf
  rw [← SA_units _ _ (outs_pos ho),SA_on,S_going (.refl _)]
theorem Sat.on_le (S : Sat (NrD tm us ss) ss.length us.length h ok fs) (ho : ∀ r∈os,0≤r.getD 1 0) (es : ss=rowOf (outsBy os (uptoN os.length))) (f l : Int) : ((ok.countP fun u=>onB f l (us.getD u 0) : Nat) : Int)≤goingOf os tm f l:=by
  rw [← outs_on ho es f l]
  refine Int.ofNat_le.mpr (S.weak (onB f l) (onB f (l + tm)) fun d e hd h1 h2=>?_)
  have:=of_decide_eq_true hd
  exact decide_eq_true (by omega)
theorem len_parts (A : Int→Bool) (us : List Int) : us.length=us.countP A + us.countP fun d=>!A d:=by
  rw [List.length_eq_countP_add_countP A]
  congr 1
  refine List.countP_congr fun d _=>?_
  cases A d <;> simp
theorem Sat.full (S : Sat (NrD tm us ss) ss.length us.length h ok fs) (ht : 0≤tm) (ho : ∀ r∈os,0≤r.getD 1 0) (hts : ∀ i∈uptoN rs.length,0≤ts.getD i.toNat 0) (eu : us=rowOf (lotsBy rs ts (uptoN rs.length))) (es : ss=rowOf (outsBy os (uptoN os.length))) :
    ok.length=us.length↔NoLack rs os tm ts:=by
  constructor
  · intro e ds hds p hp
    have f0 : fs=[]:=by
      have:=S.all.length_eq
      rw [List.length_append,List.length_range] at this
      exact List.length_eq_zero_iff.mp (by omega)
    subst f0
    have k:=S.on_le ho es p.1 p.2
    rw [slack_units,units_S]
    have c : ((us.countP (onB p.1 p.2) : Nat) : Int)=L2.S ((uptoN rs.length).map fun i=>(colAt rs 0 i,ts.getD i.toNat 0)) p.1 p.2:=by
      rw [eu]
      unfold rowOf
      rw [← SA_units _ _ (lots_pos hts),SA_on]
      rfl
    have c2 : us.countP (onB p.1 p.2)=ok.countP fun u=>onB p.1 p.2 (us.getD u 0):=by
      rw [count_range,← S.all.countP_eq,List.append_nil]
    rw [← c,c2]
    omega
  · intro nl
    obtain ⟨A,hA⟩:=S.cover
    have k:=hall_any (A:=A) ht ho hts nl
    rw [SA_units _ _ (lots_pos hts),SA_units _ _ (outs_pos ho)] at k
    have e1 : us.countP A≤ss.countP (nearB A tm):=by
      rw [eu,es]; exact Int.ofNat_le.mp k
    have e2:=len_parts A us
    have e3:=S.len_le
    have e4 : (ss.countP (nearB A tm)) + (us.countP fun d=>!A d)≤ok.length:=hA
    omega
end
end L2
namespace K07
open PySem L2
abbrev s_seated : Stmt:=top 49
abbrev n_seated : List Str:=["_law_units","_law_seats","_law_term","_law_holders","_law_found","_law_unit","_law_seen"]
abbrev p_seated : List Str:=["_law_units","_law_seats","_law_term"]
theorem sc_seated : FnScope n_seated p_seated (defScope s_seated):=⟨rfl,rfl,rfl,by decide +kernel,rfl,by decide +kernel,by decide +kernel⟩
abbrev s_unit_row : Stmt:=top 47
abbrev n_unit_row : List Str:=["_law_lots","_law_taken","_law_found","_law_at"]
abbrev p_unit_row : List Str:=["_law_lots","_law_taken"]
theorem sc_unit_row : FnScope n_unit_row p_unit_row (defScope s_unit_row):=⟨rfl,rfl,rfl,by decide +kernel,rfl,by decide +kernel,by decide +kernel⟩
abbrev s_seat_row : Stmt:=top 50
abbrev n_seat_row : List Str:=["_law_outs","_law_found","_law_day","_law_count"]
abbrev p_seat_row : List Str:=["_law_outs"]
theorem sc_seat_row : FnScope n_seat_row p_seat_row (defScope s_seat_row):=⟨rfl,rfl,rfl,by decide +kernel,rfl,by decide +kernel,by decide +kernel⟩
def spSeated : Sp:=fun vs H Q _=>∃ (ua sa : Addr) (us ss : List Int) (tm : Int),vs=[.ref ua,.ref sa,.int tm]∧IntsAt H ua us∧IntsAt H sa ss∧us.length≤900∧ss.length≤24∧
  ∀ h os fs H',Same H H'→Sat (NrD tm us ss) ss.length us.length h os fs→Q (.int os.length) H'
def spUnitRow : Sp:=fun vs H Q _=>∃ (a t : Addr) (rs : List (List Int)) (ts : List Int),vs=[.ref a,.ref t]∧Rows H a rs∧(∀ r∈rs,r.length=3)∧IntsAt H t ts∧ts.length=rs.length∧(∀ u∈ts,0≤u∧u≤10)∧rs.length≤31∧
  ∀ l H',H l=none→Same H H'→IntsAt H' l (rowOf (lotsBy rs ts (uptoN rs.length)))→Q (.ref l) H'
def spSeatRow : Sp:=fun vs H Q _=>∃ (b : Addr) (os : List (List Int)),vs=[.ref b]∧Rows H b os∧(∀ r∈os,r.length=2)∧(∀ r∈os,0≤r.getD 1 0∧r.getD 1 0≤10)∧os.length≤31∧
  ∀ l H',H l=none→Same H H'→IntsAt H' l (rowOf (outsBy os (uptoN os.length)))→Q (.ref l) H'
theorem rep_one {α : Type} (x : α) : ∀ k : Nat,(List.replicate k [x]).flatten=List.replicate k x
  | 0=>rfl
  | k + 1=>by rw [List.replicate_succ,List.flatten_cons,rep_one x k,List.replicate_succ]; rfl
theorem rowOf_snoc (L : List (Int×Int)) (p : Int×Int) : rowOf (L ++ [p])=rowOf L ++ List.replicate p.2.toNat p.1:=by
  unfold rowOf; rw [List.flatMap_append,List.flatMap_cons,List.flatMap_nil,List.append_nil]
theorem rowOf_len {m : Nat} : ∀ {L : List (Int×Int)},(∀ p∈L,p.2.toNat≤m)→(rowOf L).length≤L.length * m
  | [],_=>Nat.zero_le _
  | p :: L,h=>by
    have k:=rowOf_len (m:=m) (L:=L) fun q hq=>h q (.tail _ hq)
    have:=h p (.head _)
    unfold rowOf at *
    rw [List.flatMap_cons,List.length_append,List.length_replicate,List.length_cons,Nat.succ_mul]
    omega
section
variable {P : Program} {w : World} {K : PySem.W.Frag} {mg : Str→Option Value} {base : Heap} {f : Addr} {fd : FuncData} (B : Bn mg)
include B
theorem ok_seated (G_goes_over : Cal P w K mg base CX0 25 "_law_goes_over" p_goes_over (spGoes 25)) (F : Fun K "_law_seated" "_law_seated" s_seated f fd) : FnOk P w K mg base CX0 26 f fd p_seated spSeated:=by
  refine F.ok sc_seated (fun vs H Q E h=>?_) (fun cdv A outer s H vs Q E hr h=>?_)
  · obtain ⟨ua,sa,us,ss,tm,rfl,_⟩:=h; rfl
  obtain ⟨ua,sa,us,ss,tm,rfl,eu,es,lu,ls,q⟩:=h
  refine ⟨_,(pss_cons (ps_set (i:=3) sc_seated.nd rfl (Or.inl rfl) (pe_op op_rep (pe_lst (pa_c pe_non pa_nil)) (pe_callB call_len_seq rfl B.len PySem.boot_len (pa_c (pv 1) pa_nil))))
    (pss_cons (ps_set (i:=4) sc_seated.nd rfl (Or.inl rfl) pe_int)
    (pss_cons (ps_for PassesOwn.never rfl (pi_range1 rfl B.range (pa_c (pe_callB call_len_seq rfl B.len PySem.boot_len (pa_c (pv 0) pa_nil)) pa_nil)) (pg_name (i:=5) sc_seated.nd rfl (Or.inl rfl)) (pss_cons (ps_set (i:=6) sc_seated.nd rfl (Or.inl rfl) (pe_op op_rep (pe_lst (pa_c pe_bl pa_nil)) (pe_callB call_len_seq rfl B.len PySem.boot_len (pa_c (pv 1) pa_nil))))
      (pss_one (ps_set (i:=4) sc_seated.nd rfl (Or.inl rfl) (pe_op op_add (pv 4) (pe_callTy call_int1 rfl B.int PyProof.Rows.boot_int (pa_c (pe_cal G_goes_over hr rfl pass0 (pa_c (pv 0) (pa_c (pv 1) (pa_c (pv 2) (pa_c (pv 3) (pa_c (pv 5) (pa_c (pv 6) pa_nil))))))) pa_nil)))))))
    (pss_one (ps_ret (pv 4)))))),?_⟩
  have lm : ∀ xs : List Int,(xs.map V.int).length=xs.length:=fun xs=>List.length_map _
  refine ⟨by show 1≤sizeLine; decide,fun p0 hp0=>?_⟩
  have u0:=same_new (H:=H) hp0 (.lst [.non])
  refine ⟨_,rfl,sa,_,rfl,.inl (SqL.of (u0 _ _ es)),p0,_,[.non],rfl,rfl,upd_same,by omega,by rw [lm]; omega,by show 1 * _≤sizeLine; exact Nat.le_of_lt (small1000 (by rw [lm]; omega)),fun ha hha=>?_⟩
  rw [rep_one,show ((ss.map V.int).length : Int).toNat=ss.length by rw [lm]; omega]
  have u1:=u0.trans (same_new hha (.lst (List.replicate ss.length V.non)))
  have eh : L2.upd (L2.upd H p0 (.lst [.non])) ha (.lst (List.replicate ss.length V.non)) ha=some (.lst ((List.replicate ss.length (none : Option Nat)).map optV)):=by rw [upd_same,List.map_replicate]; rfl
  have h0 : H ha=none:=u0.free hha
  generalize L2.upd (L2.upd H p0 (.lst [.non])) ha (.lst (List.replicate ss.length V.non))=H1 at *
  have nua : ua≠ha:=ne_of_none eu h0
  have nsa : sa≠ha:=ne_of_none es h0
  refine ⟨_,rfl,ua,_,rfl,.inl (SqL.of (u1 _ _ eu)),_,rfl,by omega,by rw [lm]; omega,?_⟩
  refine for_range (fun i σ H'=>∃ h os fs o5 o6,σ=[some (.ref ua),some (.ref sa),some (.int tm),some (.ref ha),some (.int (os.length : Nat)),o5,o6]∧(∀ b o,b≠ha→H1 b=some o→H' b=some o)∧H' ha=some (.lst (h.map optV))∧Sat (NrD tm us ss) ss.length i h os fs) ⟨_,[],[],_,_,rfl,fun b o _ e=>e,eh,Sat.zero⟩ ?_ ?_
  · rintro i σ H2 hi ⟨h,os,fs,o5,o6,rfl,k2,eh2,S⟩
    rw [lm] at hi
    have hi : i < us.length:=by omega
    have eu2:=k2 _ _ nua (u1 _ _ eu)
    have es2:=k2 _ _ nsa (u1 _ _ es)
    refine ⟨by show 1≤sizeLine; decide,fun p1 hp1=>?_⟩
    have v1:=same_new (H:=H2) hp1 (.lst [.bl false])
    refine ⟨_,rfl,sa,_,rfl,.inl (SqL.of (v1 _ _ es2)),p1,_,[.bl false],rfl,rfl,upd_same,by omega,by rw [lm]; omega,by show 1 * _≤sizeLine; exact Nat.le_of_lt (small1000 (by rw [lm]; omega)),fun na hna=>?_⟩
    rw [rep_one,show ((ss.map V.int).length : Int).toNat=ss.length by rw [lm]; omega]
    have v2:=v1.trans (same_new hna (.lst (List.replicate ss.length (V.bl false))))
    have en : L2.upd (L2.upd H2 p1 (.lst [.bl false])) na (.lst (List.replicate ss.length (V.bl false))) na=some (.lst ((List.replicate ss.length false).map V.bl)):=by rw [upd_same,List.map_replicate]
    have nna : ∀ b o,H2 b=some o→b≠na:=fun b o e=>ne_of_none (v1 _ _ e) hna
    generalize L2.upd (L2.upd H2 p1 (.lst [.bl false])) na (.lst (List.replicate ss.length (V.bl false)))=H3 at *
    have kk : ∀ {H4 : Hp},(∀ b o,b≠ha→b≠na→H3 b=some o→H4 b=some o)→∀ b o,b≠ha→H1 b=some o→H4 b=some o:=fun k b o hb e=>k b o hb (nna b o (k2 b o hb e)) (v2 _ _ (k2 b o hb e))
    refine ⟨_,rfl,_,rfl,_,rfl,_,rfl,_,rfl,_,rfl,_,rfl,ua,sa,ha,na,us,ss,tm,h,i,List.replicate ss.length false,by rw [Int.zero_add]; rfl,v2 _ _ eu2,v2 _ _ es2,v2 _ _ eh2,en,⟨nua,nna _ _ eu2,nsa,nna _ _ es2,nna _ _ eh2⟩,S.len,List.length_replicate,by omega,hi,S.near,?_,fun h' sn' H4 k4 e4 e5 G=>?_,fun sn' H4 k4 e4 e5 Fl=>?_⟩
    · rw [List.countP_replicate]; show ss.length < 25; omega
    · exact .inr ⟨true,rfl,_,_,rfl,rfl,h',i :: os,fs,_,_,rfl,kk k4,e4,S.seat G⟩
    · exact .inr ⟨false,rfl,_,_,rfl,rfl,h,os,i :: fs,_,_,rfl,kk k4,e4,S.miss Fl⟩
  · rintro σ H2 ⟨h,os,fs,o5,o6,rfl,k2,eh2,S⟩
    rw [lm,show ((us.length : Int)).toNat=us.length by omega] at S
    exact ⟨_,rfl,q h os fs H2 (fun b o e=>k2 b o (ne_of_none e h0) (u1 _ _ e)) S⟩
theorem ok_unit_row (F : Fun K "_law_unit_row" "_law_unit_row" s_unit_row f fd) : FnOk P w K mg base CX0 1 f fd p_unit_row spUnitRow:=by
  refine F.ok sc_unit_row (fun vs H Q E h=>?_) (fun cdv A outer s H vs Q E hr h=>?_)
  · obtain ⟨a,t,rs,ts,rfl,_⟩:=h; rfl
  obtain ⟨a,t,rs,ts,rfl,hR,h3,eT,lt,ht,ln,q⟩:=h
  refine ⟨_,(pss_cons (ps_set (i:=2) sc_unit_row.nd rfl (Or.inl rfl) (pe_lst pa_nil))
    (pss_cons (ps_for PassesOwn.never rfl (pi_range1 rfl B.range (pa_c (pe_callB call_len_seq rfl B.len PySem.boot_len (pa_c (pv 0) pa_nil)) pa_nil)) (pg_name (i:=3) sc_unit_row.nd rfl (Or.inl rfl)) (pss_one (ps_set (i:=2) sc_unit_row.nd rfl (Or.inl rfl) (pe_op op_cat (pv 2) (pe_op op_rep (pe_lst (pa_c (pe_ix ix_tup (pe_ix ix_list (pv 0) (pv 3) (fun _ _=>rfl)) pe_int (fun _ _=>rfl)) pa_nil)) (pe_ix ix_list (pv 1) (pv 3) (fun _ _=>rfl)))))))
    (pss_one (ps_ret (pv 2))))),?_⟩
  obtain ⟨xs,ex,hx⟩:=hR.tups
  have lx:=hx.1
  refine ⟨by show 0≤sizeLine; decide,fun p0 hp0=>?_⟩
  have u0:=same_new (H:=H) hp0 (.lst [])
  have e0 : L2.upd H p0 (.lst []) p0=some (.lst ((rowOf (lotsBy rs ts (uptoN 0))).map V.int)):=upd_same
  generalize L2.upd H p0 (.lst [])=H0 at *
  refine ⟨_,rfl,a,_,rfl,.inl (SqL.of (u0 _ _ ex)),_,rfl,by omega,by omega,?_⟩
  refine for_range (fun i σ H'=>∃ fl o3,σ=[some (.ref a),some (.ref t),some (.ref fl),o3]∧Same H H'∧H fl=none∧IntsAt H' fl (rowOf (lotsBy rs ts (uptoN i)))) ⟨p0,_,rfl,u0,hp0,e0⟩ ?_ ?_
  · rintro i σ H1 hi ⟨fl,o3,rfl,s1,hfl,e1⟩
    have hi : i < rs.length:=by omega
    have hi' : i < xs.length:=by omega
    obtain ⟨pr,r,epr,er,hpr⟩:=(hx.same s1).at (List.getElem?_eq_getElem hi')
    obtain ⟨d,c,u,rfl⟩:=len3 (h3 r (List.mem_of_getElem? er))
    have eat : atI xs (0 + (i : Int))=some (.ref pr):=atI_some (by omega) (by rw [show (0 + (i : Int)).toNat=i by omega,List.getElem?_eq_getElem hi',epr])
    have it : i < ts.length:=by omega
    have eav : atI (ts.map V.int) (0 + (i : Int))=some (.int ts[i]):=atI_ints (by omega) it
    have tb:=ht _ (List.getElem_mem it)
    refine ⟨_,rfl,_,rfl,_,rfl,a,_,_,_,rfl,rfl,SqL.of (s1 _ _ ex),eat,pr,_,_,.int d,rfl,rfl,SqT.of hpr,rfl,by show 1≤sizeLine; decide,fun p1 hp1=>?_⟩
    have u1:=same_new (H:=H1) hp1 (.lst [.int d])
    refine ⟨_,rfl,_,rfl,t,_,_,_,rfl,rfl,SqL.of (u1 _ _ (s1 _ _ eT)),eav,p1,_,[.int d],rfl,rfl,upd_same,by omega,by omega,by show 1 * _≤sizeLine; exact Nat.le_of_lt (small1000 (by omega)),fun p2 hp2=>?_⟩
    rw [rep_one]
    have u2:=u1.trans (same_new hp2 (.lst (List.replicate ts[i].toNat (V.int d))))
    have lr:=rowOf_len (m:=10) (L:=lotsBy rs ts (uptoN i)) fun p hp=>by
      obtain ⟨j,hj,rfl⟩:=List.mem_map.mp hp
      show (ts.getD j.toNat 0).toNat≤10
      rw [List.getD_eq_getElem?_getD]
      cases e : ts[j.toNat]? with
      | none=>exact Nat.zero_le _
      | some z=>have:=ht z (List.mem_of_getElem? e); show z.toNat≤10; omega
    have ll : (lotsBy rs ts (uptoN i)).length=i:=by unfold lotsBy uptoN; rw [List.length_map,List.length_map,List.length_range]
    refine ⟨fl,p2,_,_,rfl,rfl,u2 _ _ e1,upd_same,Nat.le_of_lt (small1000 (by rw [List.length_map,List.length_replicate]; omega)),fun p3 hp3=>?_⟩
    have u3:=u2.trans (same_new hp3 (.lst ((rowOf (lotsBy rs ts (uptoN i))).map V.int ++ List.replicate ts[i].toNat (V.int d))))
    refine ⟨p3,_,rfl,s1.trans u3,(s1.trans u2).free hp3,?_⟩
    show L2.upd _ _ _ _=_
    rw [upd_same,upto_next]
    unfold lotsBy
    rw [List.map_append]
    show _=some (HO.lst ((rowOf (lotsBy rs ts (uptoN i) ++ [(colAt rs 0 (i : Int),ts.getD (i : Int).toNat 0)])).map V.int))
    rw [rowOf_snoc,List.map_append,List.map_replicate]
    have c1 : colAt rs 0 (i : Int)=d:=by unfold colAt; rw [List.getD_eq_getElem?_getD (l:=rs),show (i : Int).toNat=i by omega,er]; rfl
    have c2 : ts.getD (i : Int).toNat 0=ts[i]:=by rw [List.getD_eq_getElem?_getD,show (i : Int).toNat=i by omega,List.getElem?_eq_getElem it]; rfl
    rw [c1,c2]
    rfl
  · rintro σ H1 ⟨fl,o3,rfl,s1,hfl,e1⟩
    rw [show ((xs.length : Int)).toNat=rs.length by omega] at e1
    exact ⟨_,rfl,q fl H1 hfl s1 e1⟩
theorem ok_seat_row (F : Fun K "_law_seat_row" "_law_seat_row" s_seat_row f fd) : FnOk P w K mg base CX0 1 f fd p_seat_row spSeatRow:=by
  refine F.ok sc_seat_row (fun vs H Q E h=>?_) (fun cdv A outer s H vs Q E hr h=>?_)
  · obtain ⟨b,os,rfl,_⟩:=h; rfl
  obtain ⟨b,os,rfl,hR,h2,hc,ln,q⟩:=h
  refine ⟨_,(pss_cons (ps_set (i:=1) sc_seat_row.nd rfl (Or.inl rfl) (pe_lst pa_nil))
    (pss_cons (ps_for PassesOwn.never rfl (pi_list (pv 0)) (pg_tup rfl (pgs_cons (pg_name (i:=2) sc_seat_row.nd rfl (Or.inl rfl)) (pgs_cons (pg_name (i:=3) sc_seat_row.nd rfl (Or.inl rfl)) pgs_nil))) (pss_one (ps_set (i:=1) sc_seat_row.nd rfl (Or.inl rfl) (pe_op op_cat (pv 1) (pe_op op_rep (pe_lst (pa_c (pv 2) pa_nil)) (pv 3))))))
    (pss_one (ps_ret (pv 1))))),?_⟩
  obtain ⟨xs,ex,hx⟩:=hR.tups
  have lx:=hx.1
  refine ⟨by show 0≤sizeLine; decide,fun p0 hp0=>?_⟩
  have u0:=same_new (H:=H) hp0 (.lst [])
  have e0 : L2.upd H p0 (.lst []) p0=some (.lst ((rowOf ((os.take 0).map fun r=>(r.getD 0 0,r.getD 1 0))).map V.int)):=upd_same
  generalize L2.upd H p0 (.lst [])=H0 at *
  refine ⟨_,rfl,b,rfl,⟨_,SqL.of (u0 _ _ ex)⟩,?_⟩
  refine for_list (xs:=xs) (fun i σ H'=>∃ fl o2 o3,σ=[some (.ref b),some (.ref fl),o2,o3]∧Same H H'∧H fl=none∧IntsAt H' fl (rowOf ((os.take i).map fun r=>(r.getD 0 0,r.getD 1 0)))) ⟨p0,_,_,rfl,u0,hp0,e0⟩ ?_ ?_ ?_
  · rintro k σ H' _ ⟨_,_,_,rfl,sm,_⟩
    exact SqL.of (sm _ _ ex)
  · rintro i x σ H1 ei ⟨fl,o2,o3,rfl,s1,hfl,e1⟩
    obtain ⟨pr,r,rfl,er,hpr⟩:=(hx.same s1).at ei
    obtain ⟨d,c,rfl⟩:=len2 (h2 r (List.mem_of_getElem? er))
    have tb : 0≤c∧c≤10:=hc _ (List.mem_of_getElem? er)
    have il : i < os.length:=(List.getElem?_eq_some_iff.mp er).1
    refine ⟨pr,_,rfl,SqT.of hpr,rfl,_,_,rfl,_,_,rfl,rfl,?_⟩
    refine ⟨_,rfl,_,rfl,by show 1≤sizeLine; decide,fun p1 hp1=>?_⟩
    have u1:=same_new (H:=H1) hp1 (.lst [.int d])
    refine ⟨_,rfl,p1,_,[.int d],rfl,rfl,upd_same,by omega,by omega,by show 1 * _≤sizeLine; exact Nat.le_of_lt (small1000 (by omega)),fun p2 hp2=>?_⟩
    rw [rep_one]
    have u2:=u1.trans (same_new hp2 (.lst (List.replicate c.toNat (V.int d))))
    have lr:=rowOf_len (m:=10) (L:=(os.take i).map fun r=>(r.getD 0 0,r.getD 1 0)) fun p hp=>by
      obtain ⟨r,hr,rfl⟩:=List.mem_map.mp hp
      have:=hc r (List.mem_of_mem_take hr)
      show (r.getD 1 0).toNat≤10
      omega
    rw [List.length_map,List.length_take] at lr
    refine ⟨fl,p2,_,_,rfl,rfl,u2 _ _ e1,upd_same,Nat.le_of_lt (small1000 (by rw [List.length_map,List.length_replicate]; omega)),fun p3 hp3=>?_⟩
    have u3:=u2.trans (same_new hp3 (.lst ((rowOf ((os.take i).map fun r=>(r.getD 0 0,r.getD 1 0))).map V.int ++ List.replicate c.toNat (V.int d))))
    refine ⟨p3,_,_,rfl,s1.trans u3,(s1.trans u2).free hp3,?_⟩
    show L2.upd _ _ _ _=_
    rw [upd_same,getElem_next er,List.map_append]
    show _=some (HO.lst ((rowOf ((os.take i).map (fun r=>(r.getD 0 0,r.getD 1 0)) ++ [(d,c)])).map V.int))
    rw [rowOf_snoc,List.map_append,List.map_replicate]
  · rintro σ H1 ⟨fl,o2,o3,rfl,s1,hfl,e1⟩
    rw [lx,List.take_length] at e1
    refine ⟨_,rfl,q fl H1 hfl s1 ?_⟩
    rw [outs_rows]
    exact e1
end
end K07
namespace L2
open PySem PyProof.Rows
section
variable {X : Cx} {tg : Expr}
end
end L2
namespace L2
open PySem
end L2
namespace L2
open PySem
end L2
namespace K07
open PySem L2
abbrev s_small : Stmt:=top 40
abbrev n_small : List Str:=["_law_draw","_law_most_here","_law_many","_law_days","_law_term","_law_lots"]
abbrev p_small : List Str:=["_law_draw","_law_most_here","_law_many"]
theorem sc_small : FnScope n_small p_small (defScope s_small):=⟨rfl,rfl,rfl,by decide +kernel,rfl,by decide +kernel,by decide +kernel⟩
def spSmall : Sp:=fun vs H Q _=>∃ (a c : Addr) (m sc : Int),vs=[.ref a,.int m,.int sc]∧DrawAt H a c∧0≤m∧m≤900∧1≤sc∧sc≤10000000000∧
  ∀ (q l o : Addr) (tm lo n : Int) ls os H',H l=none→H o=none→l≠o→0≤tm→tm≤400→1≤lo→lo + n≤1000→(∀ r∈ls,LotIn lo n sc r)→(∀ r∈os,OutIn lo n sc r)→(ls.length : Int)≤m→(os.length : Int)≤m→
    DrawAt H' a c→KeepBut a H H'→Rows H' l ls→Rows H' o os→H' q=some (.tup [.ref l,.ref o,.int tm])→Q (.ref q) H'
section
variable {P : Program} {w : World} {K : PySem.W.Frag} {mg : Str→Option Value} {base : Heap} {f : Addr} {fd : FuncData} (B : Bn mg)
include B
theorem ok_small (G_pick : Cal P w K mg base CX0 1 "_law_pick" p_pick spPick) (G_some_lots : Cal P w K mg base CX0 2 "_law_some_lots" p_some_lots spLots) (G_some_outs : Cal P w K mg base CX0 2 "_law_some_outs" p_some_outs spOuts)
    (F : Fun K "_law_small" "_law_small" s_small f fd) : FnOk P w K mg base CX0 3 f fd p_small spSmall:=by
  refine F.ok sc_small (fun vs H Q E h=>?_) (fun cdv A outer s H vs Q E hr h=>?_)
  · obtain ⟨a,c,m,sc,rfl,_⟩:=h; rfl
  obtain ⟨a,c,m,sc,rfl,d,m0,m1,v0,v1,q⟩:=h
  refine ⟨_,(pss_cons (ps_set (i:=3) sc_small.nd rfl (Or.inl rfl) (pe_tup (pa_c (pe_op op_add pe_int (pe_cal G_pick hr rfl pass0 (pa_c (pv 0) (pa_c pe_int pa_nil)))) (pa_c (pe_ix ix_tup (pe_tup (pa_c pe_int (pa_c pe_int (pa_c pe_int pa_nil)))) (pe_cal G_pick hr rfl pass0 (pa_c (pv 0) (pa_c pe_int pa_nil))) (fun _ _=>rfl)) pa_nil))))
    (pss_cons (ps_set (i:=4) sc_small.nd rfl (Or.inl rfl) (pe_cal G_pick hr rfl pass0 (pa_c (pv 0) (pa_c pe_int pa_nil))))
    (pss_cons (ps_set (i:=5) sc_small.nd rfl (Or.inl rfl) (pe_cal G_some_lots hr rfl pass0 (pa_c (pv 0) (pa_c (pv 1) (pa_c (pv 3) (pa_c (pv 2) pa_nil))))))
    (pss_one (ps_ret (pe_tup (pa_c (pv 5) (pa_c (pe_cal G_some_outs hr rfl pass0 (pa_c (pv 0) (pa_c (pv 1) (pa_c (pv 3) (pa_c (pv 2) pa_nil))))) (pa_c (pv 4) pa_nil))))))))),?_⟩
  refine ⟨_,rfl,a,c,990,rfl,d,by decide,by decide,fun x1 H1 a1 b1 d1 kb1=>⟨_,_,rfl,rfl,by show 3≤sizeLine; decide,fun p0 hp0=>?_⟩⟩
  refine ⟨_,rfl,a,c,3,rfl,d1.new hp0,by decide,by decide,fun r3 H3 a3 c3 d3 kb3=>?_⟩
  have ht:=kb3 p0 _ (d1.ne hp0) upd_same
  obtain ⟨n,ev,n0,n1⟩ : ∃ v,atI [V.int 3,.int 6,.int 9] r3=some (.int v)∧1≤v∧v≤9:=by
    have : r3=0∨r3=1∨r3=2:=by omega
    rcases this with rfl | rfl | rfl
    · exact ⟨3,rfl,by omega,by omega⟩
    · exact ⟨6,rfl,by omega,by omega⟩
    · exact ⟨9,rfl,by omega,by omega⟩
  refine ⟨p0,_,_,.int n,rfl,rfl,SqT.of ht,ev,by show 2≤sizeLine; decide,fun p hp=>?_⟩
  have k3 : KeepBut a H H3:=kb1.trans ((KeepBut.refl.new hp0).trans kb3)
  have pa : p≠a:=d3.ne hp
  have d4:=d3.new (o:=.tup [.int (1 + x1),.int n]) hp
  have k4:=k3.new (o:=.tup [.int (1 + x1),.int n]) hp
  have e4 : L2.upd H3 p (.tup [.int (1 + x1),.int n]) p=some (.tup [.int (1 + x1),.int n]):=upd_same
  generalize L2.upd H3 p (.tup [.int (1 + x1),.int n])=H4 at *
  refine ⟨_,rfl,a,c,5,rfl,d4,by decide,by decide,fun tm H5 t0 t1 d5 kb5=>?_⟩
  have e5:=kb5 p _ pa e4
  have k5:=k4.trans kb5
  refine ⟨_,rfl,_,rfl,_,rfl,_,rfl,a,c,p,m,_,n,sc,rfl,d5,m0,m1,e5,by omega,by omega,v0,v1,fun l ls H6 hl hls lsn d6 kb6 R6=>?_⟩
  refine ⟨_,rfl,_,rfl,_,rfl,_,rfl,_,rfl,a,c,p,m,_,n,sc,rfl,d6,m0,m1,kb6 p _ pa e5,by omega,by omega,v0,v1,fun o os H7 ho hos osn d7 kb7 R7=>?_⟩
  refine ⟨_,rfl,by show 3≤sizeLine; decide,fun t ht'=>?_⟩
  have nla : l≠a:=d5.ne hl
  have noa : o≠a:=d6.ne ho
  have nlo : l≠o:=by obtain ⟨z,e⟩:=R6.there; exact ne_of_none e ho
  exact q t l o tm _ n ls os _ (k5.none nla hl) ((k5.trans kb6).none noa ho) nlo t0 (by omega) (by omega) (by omega) hls hos lsn osn (d7.new ht') (((k5.trans kb6).trans kb7).new ht') ((R6.keep nla d6 kb7).same (same_new ht' _)) (R7.same (same_new ht' _)) upd_same
end
end K07
namespace K07
open PySem L2
abbrev s_law : Stmt:=top 52
abbrev n_law : List Str:=["_law_script","_law_draw","_law_lots","_law_outs","_law_term","_law_k","_law_taken","_law_units","_law_due"]
abbrev p_law : List Str:=["_law_script"]
theorem sc_law : FnScope n_law p_law (defScope s_law):=⟨rfl,rfl,rfl,by decide +kernel,rfl,by decide +kernel,by decide +kernel⟩
def spLaw (K : PySem.W.Frag) (tb : Tbs) : Sp:=fun vs H Q _=>∃ (a : Addr) (ns : List Int),vs=[.ref a]∧Tb tb H∧SqL K H a (ns.map V.int)∧ns.length≤63∧∀ H',Tb tb H'→Q (.bl true) H'
section
variable {P : Program} {w : World} {K : PySem.W.Frag} {mg : Str→Option Value} {base : Heap} {f : Addr} {fd : FuncData} {cl : Nat→Addr} {tb : Tbs} (B : Bn mg)
  (G_begin : Cal P w K mg base CX0 1 "_law_begin" p_begin (spBegin K)) (G_small : Cal P w K mg base CX0 3 "_law_small" p_small spSmall) (G_same : Cal P w K mg base CX0 3 "_law_same" n_same (spSame 3))
  (G_seat_row : Cal P w K mg base CX0 1 "_law_seat_row" p_seat_row spSeatRow) (G_unit_row : Cal P w K mg base CX0 1 "_law_unit_row" p_unit_row spUnitRow) (G_seated : Cal P w K mg base CX0 26 "_law_seated" p_seated spSeated)
  (G_some_counts : Cal P w K mg base CX0 5 "_law_some_counts" p_some_counts (spCountsT tb))
  (G_dealable : Cal P w K mg base (CXE P w) 5 "dealable" p_dealable (spDealable cl))
include B G_begin G_small G_same G_seat_row G_unit_row G_seated G_some_counts G_dealable
theorem ok_law (F : Fun K "law" "law" s_law f fd) : FnOk P w K mg base CX0 27 f fd p_law (spLaw K tb):=by
  refine F.ok sc_law (fun vs H Q E h=>?_) (fun cdv A outer s H vs Q E hr h=>?_)
  · obtain ⟨a,ns,rfl,_⟩:=h; rfl
  obtain ⟨a0,ns,rfl,hTb,hS,hlen,q⟩:=h
  refine ⟨_,(pss_cons (ps_set (i:=1) sc_law.nd rfl (Or.inl rfl) (pe_cal G_begin hr rfl pass0 (pa_c (pv 0) pa_nil)))
    (pss_cons (ps_asg (pe_cal G_small hr rfl pass0 (pa_c (pv 1) (pa_c pe_int (pa_c pe_int pa_nil)))) (pg_tup rfl (pgs_cons (pg_name (i:=2) sc_law.nd rfl (Or.inl rfl)) (pgs_cons (pg_name (i:=3) sc_law.nd rfl (Or.inl rfl)) (pgs_cons (pg_name (i:=4) sc_law.nd rfl (Or.inl rfl)) pgs_nil)))))
    (pss_cons (ps_for PassesOwn.never rfl (pi_range1 rfl B.range (pa_c pe_int pa_nil)) (pg_name (i:=5) sc_law.nd rfl (Or.inl rfl)) (pss_cons (ps_set (i:=6) sc_law.nd rfl (Or.inl rfl) (pe_cal G_some_counts hr rfl pass0 (pa_c (pv 1) (pa_c (pv 2) (pa_c (pv 3) (pa_c (pv 4) pa_nil))))))
      (pss_cons (ps_set (i:=7) sc_law.nd rfl (Or.inl rfl) (pe_cal G_unit_row hr rfl pass0 (pa_c (pv 2) (pa_c (pv 6) pa_nil))))
      (pss_cons (ps_set (i:=8) sc_law.nd rfl (Or.inl rfl) (pe_cmpR op_eq (pe_cal G_seated hr rfl pass0 (pa_c (pv 7) (pa_c (pe_cal G_seat_row hr rfl pass0 (pa_c (pv 3) pa_nil)) (pa_c (pv 4) pa_nil)))) (pe_callB call_len_seq rfl B.len PySem.boot_len (pa_c (pv 7) pa_nil)) (nomark _)))
      (pss_one (ps_if (pt_not (pt_truth (pe_cal G_same hr rfl pass0 (pa_c (pe_cal G_dealable hr rfl passN (pa_c (pv 2) (pa_c (pv 3) (pa_c (pv 4) (pa_c (pv 6) pa_nil))))) (pa_c (pv 8) pa_nil))) (fun _=>rfl))) (pss_one (ps_ret pe_bl)) pss_nil))))))
    (pss_one (ps_ret pe_bl))))),?_⟩
  refine ⟨_,rfl,a0,ns,rfl,hS,hlen,fun a c H1 ha hc s1 d1=>?_⟩
  have T1:=hTb.same s1
  clear hTb s1 hS
  refine ⟨_,rfl,a,c,5,4,rfl,d1,by decide,by decide,by decide,by decide,fun t l o tm lo n ls os H2 hl ho nlo t0 t4 lo1 h1000 hls hos lsn osn d2 kb2 R2l R2o ht=>?_⟩
  have T2:=T1.keep d1 kb2
  have nla : l≠a:=d1.ne hl
  have noa : o≠a:=d1.ne ho
  refine ⟨t,_,rfl,SqT.of ht,rfl,_,_,rfl,_,_,rfl,_,_,rfl,rfl,?_⟩
  have g : GoodC ls os tm:=⟨fun r hr=>(hls r hr).good lo1 h1000 (by decide),fun r hr=>(hos r hr).good lo1 h1000 (by decide),by omega,by omega,t0,t4⟩
  have bn:=g.both
  have ok:=g.ok
  have cl4 : ∀ r∈ls,∃ d c u,r=[d,c,u]∧1≤c∧c≤4:=fun r hr=>by
    obtain ⟨d,c,u,rfl,w1,w2,w3,w4,_⟩:=hls r hr
    exact ⟨d,c,u,rfl,w3,w4⟩
  have co4 : ∀ r∈os,0≤r.getD 1 0∧r.getD 1 0≤4:=fun r hr=>by
    obtain ⟨d,c,rfl,w1,w2,w3,w4⟩:=hos r hr
    show 0≤c∧c≤4
    omega
  have lss : (rowOf (outsBy os (uptoN os.length))).length≤24:=by
    have:=rowOf_len (m:=4) (L:=outsBy os (uptoN os.length)) fun p hp=>by
      rw [outs_rows] at hp
      obtain ⟨r,hr,rfl⟩:=List.mem_map.mp hp
      have:=co4 r hr
      show (r.getD 1 0).toNat≤4
      omega
    have e : (outsBy os (uptoN os.length)).length=os.length:=by rw [outs_rows,List.length_map]
    rw [e] at this
    omega
  clear T1 d1 kb2 ht
  refine ⟨4,rfl,by decide,by decide,for_range (n:=4) (fun _ σ H'=>∃ o5 o6 o7 o8,σ=[some (.ref a0),some (.ref a),some (.ref l),some (.ref o),some (.int tm),o5,o6,o7,o8]∧DrawAt H' a c∧KeepBut a H2 H') ⟨_,_,_,_,rfl,d2,KeepBut.refl⟩ ?_ ?_⟩
  · rintro ii σ H3 hii ⟨o5,o6,o7,o8,rfl,d3,k3⟩
    have T3:=T2.keep d2 k3
    have L3:=R2l.keep nla d2 k3
    have O3:=R2o.keep noa d2 k3
    refine ⟨_,rfl,_,rfl,_,rfl,_,rfl,a,c,l,o,tm,ls,os,rfl,d3,T3,L3,O3,nla,noa,ok,fun t ts H4 ht tk d4 kb4 I4=>?_⟩
    have L4:=L3.keep nla d3 kb4
    have O4:=O3.keep noa d3 kb4
    have tb4 : ∀ v∈ts,0≤v∧v≤4:=fun v hv=>by
      obtain ⟨i,hi,e⟩:=List.getElem_of_mem hv
      have hl : i < ls.length:=by have:=tk.1; omega
      obtain ⟨dd,cc,uu,er,w1,w2⟩:=cl4 _ (List.getElem_mem hl)
      have:=tk.at (List.getElem?_eq_getElem hl) (List.getElem?_eq_some_iff.mpr ⟨hi,e⟩)
      rw [er] at this
      have t2 : v≤cc:=this.2
      omega
    refine ⟨_,rfl,_,rfl,l,t,ls,ts,rfl,L4,g.h3,I4,tk.1,fun v hv=>(by have:=tb4 v hv; omega),by omega,fun ua H5 hua s5 I5=>?_⟩
    have L5:=L4.same s5
    have O5:=O4.same s5
    have t5 : IntsAt H5 t ts:=s5 _ _ I4
    have nts : ∀ i∈uptoN ls.length,0≤ts.getD i.toNat 0:=fun i hi=>by
      obtain ⟨h0,h1⟩:=uptoN_mem.mp hi
      have hl : i.toNat < ts.length:=by have:=tk.1; omega
      rw [List.getD_eq_getElem?_getD,List.getElem?_eq_getElem hl]
      exact (tb4 _ (List.getElem_mem hl)).1
    have lus : (rowOf (lotsBy ls ts (uptoN ls.length))).length≤900:=by
      have:=rowOf_len (m:=4) (L:=lotsBy ls ts (uptoN ls.length)) fun p hp=>by
        obtain ⟨j,hj,rfl⟩:=List.mem_map.mp hp
        show (ts.getD j.toNat 0).toNat≤4
        rw [List.getD_eq_getElem?_getD]
        cases e : ts[j.toNat]? with
        | none=>exact Nat.zero_le _
        | some z=>have:=tb4 z (List.mem_of_getElem? e); show z.toNat≤4; omega
      have e : (lotsBy ls ts (uptoN ls.length)).length=ls.length:=by unfold lotsBy uptoN; rw [List.length_map,List.length_map,List.length_range]
      rw [e] at this
      omega
    refine ⟨_,rfl,_,rfl,o,os,rfl,O5,g.h2,fun r hr=>(by have:=co4 r hr; omega),by omega,fun sa H6 hsa s6 I6=>?_⟩
    refine ⟨_,rfl,ua,sa,_,_,tm,rfl,s6 _ _ I5,I6,lus,lss,fun h okk fs H7 s7 S=>?_⟩
    have full:=S.full t0 (fun r hr=>(co4 r hr).1) nts rfl rfl
    have S7:=s6.trans s7
    refine ⟨_,rfl,ua,_,rfl,.inl (SqL.of (S7 _ _ I5)),rfl,?_⟩
    rw [List.length_map]
    have W7:=s5.trans S7
    have L7:=L4.same W7
    have O7:=O4.same W7
    refine ⟨_,rfl,_,rfl,_,rfl,_,rfl,l,o,t,tm,ls,os,ts,rfl,L7,g.h3,O7,g.h2,W7 _ _ I4,by have:=tk.1; omega,fun n e=>(by rw [bn] at e; cases e),fun _=>⟨fun z=>absurd tk z,fun _ ds H8 hds s8=>?_⟩⟩
    refine ⟨_,rfl,_,_,rfl,?_,fun H9 s9=>⟨_,rfl,iteF ⟨_,_,_,_,rfl,(d4.same W7).same (s8.trans s9),(k3.trans kb4).trans (KeepBut.of_same (W7.trans (s8.trans s9)))⟩⟩⟩
    have e1 : NoLack ls os tm ts↔∀ p∈strOf ds,0≤slackF ls os tm ts p.1 p.2:=⟨fun h=>h ds hds,fun h=>.of hds h⟩
    have e2 : decide (∀ p∈strOf ds,0≤slackF ls os tm ts p.1 p.2)=decide (V.int ((okk.length : Nat) : Int)=V.int (((rowOf (lotsBy ls ts (uptoN ls.length))).length : Nat) : Int)):=by
      by_cases c0 : okk.length=(rowOf (lotsBy ls ts (uptoN ls.length))).length
      · rw [decide_eq_true (show V.int ((okk.length : Nat) : Int)=V.int (((rowOf (lotsBy ls ts (uptoN ls.length))).length : Nat) : Int) by rw [c0]),decide_eq_true (e1.mp (full.mp c0))]
      · rw [decide_eq_false (show ¬ V.int ((okk.length : Nat) : Int)=V.int (((rowOf (lotsBy ls ts (uptoN ls.length))).length : Nat) : Int) from fun z=>c0 (Int.ofNat.inj (V.int.inj z))),decide_eq_false (fun z=>c0 (full.mpr (e1.mpr z)))]
    rw [e2]
    exact .flat rfl
  · rintro σ H3 ⟨o5,o6,o7,o8,rfl,d3,k3⟩
    exact q _ (T2.keep d2 k3)
end
end K07
namespace L2
open PySem PySem.Spec PySem.W PyProof.Rows
theorem law_callT {P : Program} {w : World} {K : PySem.W.Frag} {mg mb : Str→Option Value} {CX : CXT} {k : Nat} {fa a : Addr} {fd : FuncData} {x : Str} {sp : Sp} {s₁ : Shared} {vs : List Value} {ns : List Int} {tb : Tbs}
    (KX : K.In s₁.heap) (hns : s₁.heap.Ns mainGlobals mg) (hb : s₁.heap.Ns builtinsNs mb) (hbb : ∀ x : Str,x ≠ "__name__" → mb x=bootBuiltins x) (hlim : s₁.heap.NoLimit) (hbm : BMain mg s₁.heap) (hg : s₁.gens = #[])
    (ha : s₁.heap.get? a=some { cls:=.type "list",data:=.seq vs.toArray }) (hi : IntsAre vs ns) (hl : ns.length≤sizeLine) (hr : Room k callerA)
    (hnd : (tb.map (·.1)).Nodup) (htab : ∀ t∈tb,s₁.heap.get? t.1=some (tabObj #[])∧K.lookup t.1=none∧∃ c,codeHdIn K c t.1=true)
    (F : ∀ base : Heap,K.In base→base.Ns mainGlobals mg→BMain mg base→FnOk P w K mg base CX k fa fd [x] sp) (hbind : ∀ (s : Shared) (u : Value),BindsTo s fd ⟨[u],[]⟩ [(x,u)])
    (hsp : ∀ H : Hp,Tb tb H→SqL K H a (ns.map V.int)→sp [.ref a] H (fun v H'=>v = .bl true∧Tb tb H') fun _ _ _=>False)
    (hCX : ∀ H e s',CX [] H s₁ (fun _ _ _=>False) e s'→False) :
    codeAny (model P w) callerA (.call (.ref fa) ⟨[.ref a],[]⟩) (fun r s'=>r = .ok (.ret (.bool true))∧OldK s₁.heap s'.heap∧s'.os=s₁.os∧AllBare s'.gens) s₁:=by
  have rv:=vals_ints hi
  have lenV:=hi.length
  have core : ∀ H : Hp,(∀ b u,H b=some u→(b=a∧∃ o xs,u = .frz o (.lst xs))∨∃ t∈tb,b=t.1∧u = .cod t.2.1 t.2.2)→Tb tb H→SqL K H a (ns.map V.int)→HOk P w H s₁.heap→(H a≠none→K.lookup a=none)→
      codeAny (model P w) callerA (.call (.ref fa) ⟨[.ref a],[]⟩) (fun r s'=>r = .ok (.ret (.bool true))∧OldK s₁.heap s'.heap∧s'.os=s₁.os∧AllBare s'.gens) s₁:=by
    intro H hO hT hS hok hK
    have base_of : ∀ {b : Addr} {o : Obj},s₁.heap.get? b=some o→H b=none→(hidT s₁.heap H).get? b=some o:=fun e n=>hidT_get e n
    have noA : ∀ {b : Addr} {o : Obj},s₁.heap.get? b=some o→o≠{ cls:=.type "list",data:=.seq vs.toArray }→o≠tabObj #[]→H b=none:=fun {b o} e d1 d2=>by
      cases q : H b with
      | none=>rfl
      | some u=>
        rcases hO b u q with ⟨e',_⟩ | ⟨t,ht,e',_⟩
        · rw [e',ha] at e; exact absurd (Option.some.inj e).symm d1
        · rw [e',(htab t ht).1] at e; exact absurd (Option.some.inj e).symm d2
    have nsK : ∀ {b : Addr} {m : Str→Option Value},s₁.heap.Ns b m→(hidT s₁.heap H).Ns b m:=fun {b m} ⟨o,es,ep,e,d,r⟩=>⟨o,es,ep,base_of e (noA e (fun z=>by rw [z] at d; cases d) fun z=>by rw [z] at d; cases d),d,r⟩
    have hKb : K.In (hidT s₁.heap H):=fun b o e=>base_of (KX b o e) (by
      cases q : H b with
      | none=>rfl
      | some u=>
        rcases hO b u q with ⟨e',_⟩ | ⟨t,ht,e',_⟩
        · subst e'
          rw [hK (by rw [q]; simp)] at e; cases e
        · rw [e',(htab t ht).2.1] at e; cases e)
    have hM : Mod K mg (hidT s₁.heap H):=⟨hKb,nsK hns,⟨mb,nsK hb,hbb⟩,let ⟨mc,h1,h2⟩:=hlim; ⟨mc,nsK h1,h2⟩⟩
    have hBM : BMain mg (hidT s₁.heap H):=by
      obtain ⟨bm,ob,b1,b2,b3,b4,b5,b6⟩:=hbm
      exact ⟨bm,ob,b1,b2,base_of b3 (noA b3 (fun z=>by rw [z] at b6; cases b6) fun z=>by rw [z] at b6; cases b6),b4,b5,b6⟩
    have e0 : Env0 P w K mg (hidT s₁.heap H) callerA [] s₁ H:=⟨rfl,hM,fun b o e=>of_hidT e,Nat.le_of_eq (hidT_size _ _),trivial,fun b hb=>absurd (show b∈([] : List Addr) from hb) (by simp),hok,.of_eq hg⟩
    refine codeAny_mono ((F _ hKb (nsK hns) hBM).run callerA [] s₁ H ⟨[.ref a],[]⟩ [.ref a] [.ref a] _ _ hr e0 (hbind s₁ (.ref a)) (.cons rfl .nil) (hsp H hT hS)) fun r s' h=>?_
    cases r with
    | error e=>exact (hCX H e s' h).elim
    | ok fl=>
      cases fl with
      | next=>exact False.elim h
      | brk=>exact False.elim h
      | cont=>exact False.elim h
      | ret u=>
        obtain ⟨v,H',os,bare,un,hok',r',q⟩:=h
        have q' : v = .bl true∧Tb tb H':=q
        obtain ⟨rfl,hT'⟩:=q'
        obtain rfl : u=Value.bool true:=r'
        have old : ∀ b o,s₁.heap.get? b=some o→s'.heap.get? b=some o∨∃ t∈tb,b=t.1:=fun b o e=>by
          cases q : H b with
          | none=>exact .inl (un.keep b o e q (by intro z; exact absurd (show b∈([] : List Addr) from z) (by simp)) (by simp))
          | some u=>
            rcases hO b u q with ⟨e',ob,xs,z⟩ | ⟨t,ht,e',_⟩
            · subst z
              have z2:=un.frzs b ob _ q
              obtain ⟨e1,_⟩:=hok b _ q
              obtain ⟨e2,_⟩:=hok' b _ z2
              rw [e] at e1; cases e1
              exact .inl e2
            · exact .inr ⟨t,ht,e'⟩
        refine ⟨rfl,⟨fun b o e=>?_,fun b o e=>?_⟩,os,bare⟩
        · rcases old b o e with z | ⟨t,ht,rfl⟩
          · exact .inl z
          · obtain ⟨h1,_,c,hc⟩:=htab t ht
            rw [h1] at e; cases e
            have tt : s₁.heap.TableAt c t.1 #[]:=(codeHd_of_K KX hc).tab h1
            rcases (show ObjOk P w H' s'.heap t.1 (.cod t.2.1 t.2.2) from hok' _ _ (hT' t ht)) with z | ⟨c',z,_⟩
            · exact .inl z
            · exact .inr (.inl ⟨tt.isCodeTable,rfl,#[],_,rfl,by rw [z]; simp; rfl⟩)
        · rcases old b o e with z | ⟨t,ht,rfl⟩
          · exact ⟨o,z⟩
          · rcases (show ObjOk P w H' s'.heap t.1 (.cod t.2.1 t.2.2) from hok' _ _ (hT' t ht)) with z | ⟨c',z,_⟩
            · exact ⟨_,z⟩
            · exact ⟨_,z⟩
  have look : ∀ (l : Tbs) (b : Addr),(∃ t∈l,t.1=b∧(l.find? fun t=>t.1 == b)=some t)∨((∀ t∈l,t.1≠b)∧(l.find? fun t=>t.1 == b)=none):=fun l b=>by
    cases e : l.find? fun t=>t.1 == b with
    | none=>exact .inr ⟨fun t ht z=>by have:=List.find?_eq_none.mp e t ht; simp [z] at this,rfl⟩
    | some t=>exact .inl ⟨t,List.mem_of_find?_eq_some e,by simpa using List.find?_some e,rfl⟩
  have uniq : ∀ t∈tb,(tb.find? fun s=>s.1 == t.1)=some t:=fun t ht=>by
    rcases look tb t.1 with ⟨s,hs,e,f⟩ | ⟨n,_⟩
    · rw [f]
      have : s=t:=by
        obtain ⟨i,hi,ei⟩:=List.getElem_of_mem hs
        obtain ⟨j,hj,ej⟩:=List.getElem_of_mem ht
        have h1 : (tb.map (·.1))[i]'(by simpa using hi)=(tb.map (·.1))[j]'(by simpa using hj):=by simp [ei,ej,e]
        have:=(List.getElem_inj hnd).mp h1
        subst this
        rw [← ei,← ej]
      rw [this]
    · exact absurd rfl (n t ht)
  have nat : ∀ t∈tb,t.1≠a:=fun t ht z=>by
    have:=(htab t ht).1
    rw [z,ha] at this; cases this
  cases hk : K.lookup a with
  | some o=>
    have e:=KX a o hk
    rw [ha] at e
    cases e
    refine core (fun b=>(tb.find? fun t=>t.1 == b).map fun t=>.cod t.2.1 t.2.2) (fun b u h=>?_) (fun t ht=>by show (tb.find? fun s=>s.1 == t.1).map _=_; rw [uniq t ht]; rfl) (.inr ⟨_,vs.toArray,_,hk,rfl,rfl,rfl,by rw [List.size_toArray,lenV]; exact hl,by simpa using rv⟩) (fun b u h=>?_) fun z=>?_
    · rcases look tb b with ⟨t,ht,e,f⟩ | ⟨_,f⟩
      · have h' : (tb.find? fun t=>t.1 == b).map (fun t=>HO.cod t.2.1 t.2.2)=some u:=h
        rw [f] at h'; cases h'
        exact .inr ⟨t,ht,e.symm,rfl⟩
      · have h' : (tb.find? fun t=>t.1 == b).map (fun t=>HO.cod t.2.1 t.2.2)=some u:=h
        rw [f] at h'; cases h'
    · rcases look tb b with ⟨t,ht,e,f⟩ | ⟨_,f⟩
      · have h' : (tb.find? fun t=>t.1 == b).map (fun t=>HO.cod t.2.1 t.2.2)=some u:=h
        rw [f] at h'; cases h'
        exact .inl (by rw [← e]; exact (htab t ht).1)
      · have h' : (tb.find? fun t=>t.1 == b).map (fun t=>HO.cod t.2.1 t.2.2)=some u:=h
        rw [f] at h'; cases h'
    · rcases look tb a with ⟨t,ht,e,_⟩ | ⟨_,f⟩
      · exact absurd e (nat t ht)
      · exact absurd (show (tb.find? fun t=>t.1 == a).map (fun t=>HO.cod t.2.1 t.2.2)=none by rw [f]; rfl) z
  | none=>
    refine core (fun b=>if b=a then some (.frz { cls:=.type "list",data:=.seq vs.toArray } (.lst (ns.map V.int))) else (tb.find? fun t=>t.1 == b).map fun t=>.cod t.2.1 t.2.2) (fun b u h=>?_) (fun t ht=>?_) (.inl (.inr ⟨{ cls:=.type "list",data:=.seq vs.toArray },if_pos rfl⟩)) (fun b u h=>?_) fun _=>hk
    · by_cases hb : b=a
      · have h':=(if_pos hb).symm.trans h
        cases h'
        exact .inl ⟨hb,_,_,rfl⟩
      · have h' : (tb.find? fun t=>t.1 == b).map (fun t=>HO.cod t.2.1 t.2.2)=some u:=(if_neg hb).symm.trans h
        rcases look tb b with ⟨t,ht,e,f⟩ | ⟨_,f⟩
        · rw [f] at h'; cases h'
          exact .inr ⟨t,ht,e.symm,rfl⟩
        · rw [f] at h'; cases h'
    · show (if t.1=a then _ else (tb.find? fun s=>s.1 == t.1).map _)=_
      rw [if_neg (nat t ht),uniq t ht]; rfl
    · by_cases hb : b=a
      · have h':=(if_pos hb).symm.trans h
        cases h'
        subst hb
        exact ⟨ha,by rw [List.length_map]; exact hl,vs,_,rv,ha⟩
      · have h' : (tb.find? fun t=>t.1 == b).map (fun t=>HO.cod t.2.1 t.2.2)=some u:=(if_neg hb).symm.trans h
        rcases look tb b with ⟨t,ht,e,f⟩ | ⟨_,f⟩
        · rw [f] at h'; cases h'
          exact .inl (by rw [← e]; exact (htab t ht).1)
        · rw [f] at h'; cases h'
theorem walk_tab {l : PySem.W.OpenLaw} {n k : Nat} {q : Program} {loose : List Str} {XP : (Str→Option Value)→Heap→Prop} {YP : World→Heap→Prop} {d : DefRec} {K : Params→PySem.W.Frag} {ts : List Addr} {x : Str} {sp : PySem.W.Frag→Tbs→Sp}
    (hn : l.most=some n) (hn2 : n≤sizeLine) (hdf : d.params.defaults=[]) (hr : Room k callerA)
    (hY : ∀ (w : World) (h : Heap),YP w h→(K w.params).In h∧∀ P∈ts,h.get? P=some (tabObj #[]))
    (F : ∀ (w : World) (mg : Str→Option Value) (fa : Addr) (h : Heap),(K w.params).In h→h.Ns mainGlobals mg→mg d.name=some (.ref fa)→
      ∃ (fd : FuncData) (tb : Tbs),((tb.map (·.1)).Nodup∧∀ t∈tb,t.1∈ts∧(K w.params).lookup t.1=none∧∃ c,codeHdIn (K w.params) c t.1=true)∧(∀ (s : Shared) (u : Value),BindsTo s fd ⟨[u],[]⟩ [(x,u)])∧
        ∀ base : Heap,(K w.params).In base→base.Ns mainGlobals mg→BMain mg base→FnOk l.prog w (K w.params) mg base CX0 k fa fd [x] (sp (K w.params) tb))
    (hsp : ∀ (K : PySem.W.Frag) (tb : Tbs) (H : Hp) (a : Addr) (ns : List Int),ns.length≤n→Tb tb H→SqL K H a (ns.map V.int)→sp K tb [.ref a] H (fun v H'=>v = .bl true∧Tb tb H') fun _ _ _=>False) :
    PySem.W.WalkO q loose XP YP l.row.toRowW d [] (fun f vs=>PySem.call f vs):=by
  refine Att.attach_call hn hdf fun w s₀ s₁ mg mb fa o pm cd doc a vs ns G Y ho hd hcd hmg hobj hints hlen hg=>?_
  obtain ⟨KX,TX⟩:=hY w _ Y
  obtain ⟨fd,tb,⟨hnd,htb⟩,hb,hF⟩:=F w mg fa _ KX G.T.g hmg
  exact law_callT KX G.T.g G.T.b G.T.builtins G.T.nolimit G.T.bmain hg hobj hints (Nat.le_trans hlen hn2) hr hnd (fun t ht=>⟨TX _ (htb t ht).1,(htb t ht).2⟩) hF hb (fun H hT hS=>hsp (K w.params) tb H a ns hlen hT hS) fun H e s' h=>h
end L2
namespace K07
open PySem L2
def clF (c_0 c_1 c_2 c_3 c_4 c_5 c_7 : Addr) : Nat→Addr
  | 0=>c_0
  | 1=>c_1
  | 2=>c_2
  | 3=>c_3
  | 4=>c_4
  | 5=>c_5
  | 7=>c_7
  | _=>c_0
theorem all_mk {l : PySem.W.OpenLaw} {w : World} {K : PySem.W.Frag} {h : Heap} {mg : Str→Option Value} {fa f0 f1 f2 f3 f4 f5 f6 f7 f8 f9 f10 f11 f12 f13 f14 f15 f16 f17 f18 f19 f20 f21 f22 f23 f24 f25 f26 f27 f28 f29 f30 f31 f32 f33 f34 c_0 c_1 c_2 c_3 c_4 c_5 c_7 cc23 PP23 cc24 PP24 : Addr} {u_FIRST_DAY u_LAST_DAY u_MOST_TERM u_MOST_ROWS u_MOST_COUNT u_MOST_DUTY : Tok} (X : K.In h) (G : h.Ns mainGlobals mg) (hfa : mg "law" = some (.ref fa)) {ts : List Addr}
    {od0 an0 od1 an1 od2 an2 od3 an3 od4 an4 od5 an5 od6 an6 od7 an7 od8 an8 od9 an9 od10 an10 od11 an11 od12 an12 od13 an13 od14 an14 od15 an15 od16 an16 od17 an17 od18 an18 od19 an19 od20 an20 od21 an21 od22 an22 od23 an23 od24 an24 od25 an25 od26 an26 od27 an27 od28 an28 od29 an29 od30 an30 od31 an31 od32 an32 od33 an33 od34 an34 to23 to24 : Option Addr} {sl0 sl1 sl2 sl3 sl4 sl5 sl6 sl7 sl8 sl9 sl10 sl11 sl12 sl13 sl14 sl15 sl16 sl17 sl18 sl19 sl20 sl21 sl22 sl23 sl24 sl25 sl26 sl27 sl28 sl29 sl30 sl31 sl32 sl33 sl34 ts23 ts24 : Array (Option Value)} {tv23 tv24 : Array Value} {tc23 tc24 : Value} {oc0 kV0 dc0 pm0 cd0 ct0 oc1 kV1 dc1 pm1 cd1 ct1 oc2 kV2 dc2 pm2 cd2 ct2 oc3 kV3 dc3 pm3 cd3 ct3 oc4 kV4 dc4 pm4 cd4 ct4 oc5 kV5 dc5 pm5 cd5 ct5 oc6 kV6 dc6 pm6 cd6 ct6 oc7 kV7 dc7 pm7 cd7 ct7 oc8 kV8 dc8 pm8 cd8 ct8 oc9 kV9 dc9 pm9 cd9 ct9 oc10 kV10 dc10 pm10 cd10 ct10 oc11 kV11 dc11 pm11 cd11 ct11 oc12 kV12 dc12 pm12 cd12 ct12 oc13 kV13 dc13 pm13 cd13 ct13 oc14 kV14 dc14 pm14 cd14 ct14 oc15 kV15 dc15 pm15 cd15 ct15 oc16 kV16 dc16 pm16 cd16 ct16 oc17 kV17 dc17 pm17 cd17 ct17 oc18 kV18 dc18 pm18 cd18 ct18 oc19 kV19 dc19 pm19 cd19 ct19 oc20 kV20 dc20 pm20 cd20 ct20 oc21 kV21 dc21 pm21 cd21 ct21 oc22 kV22 dc22 pm22 cd22 ct22 oc23 kV23 dc23 pm23 ct23 oc24 kV24 dc24 pm24 ct24 oc25 kV25 dc25 pm25 cd25 ct25 oc26 kV26 dc26 pm26 cd26 ct26 oc27 kV27 dc27 pm27 cd27 ct27 oc28 kV28 dc28 pm28 cd28 ct28 oc29 kV29 dc29 pm29 cd29 ct29 oc30 kV30 dc30 pm30 cd30 ct30 oc31 kV31 dc31 pm31 cd31 ct31 oc32 kV32 dc32 pm32 cd32 ct32 oc33 kV33 dc33 pm33 cd33 ct33 oc34 kV34 dc34 pm34 cd34 ct34 : Value}
    (a0 : PySem.W.nsIn K mainGlobals "is_day" = some (some (.ref f0)))
    (l0 : K.lookup f0=some ⟨oc0,od0,.func (PySem.W.fnOf "is_day" "is_day" (defArgs s_is_day) (defBody s_is_day) (defScope s_is_day) .none kV0 dc0 pm0 an0 cd0 ct0),sl0⟩)
    (c0 : PySem.W.codeIn K cd0 "is_day" = true)
    (k0 : PySem.W.keepIn K (.ref f0)=true)
    (a1 : PySem.W.nsIn K mainGlobals "check_day" = some (some (.ref f1)))
    (l1 : K.lookup f1=some ⟨oc1,od1,.func (PySem.W.fnOf "check_day" "check_day" (defArgs s_check_day) (defBody s_check_day) (defScope s_check_day) .none kV1 dc1 pm1 an1 cd1 ct1),sl1⟩)
    (c1 : PySem.W.codeIn K cd1 "check_day" = true)
    (k1 : PySem.W.keepIn K (.ref f1)=true)
    (a2 : PySem.W.nsIn K mainGlobals "check_term" = some (some (.ref f2)))
    (l2 : K.lookup f2=some ⟨oc2,od2,.func (PySem.W.fnOf "check_term" "check_term" (defArgs s_check_term) (defBody s_check_term) (defScope s_check_term) .none kV2 dc2 pm2 an2 cd2 ct2),sl2⟩)
    (c2 : PySem.W.codeIn K cd2 "check_term" = true)
    (k2 : PySem.W.keepIn K (.ref f2)=true)
    (a3 : PySem.W.nsIn K mainGlobals "check_many" = some (some (.ref f3)))
    (l3 : K.lookup f3=some ⟨oc3,od3,.func (PySem.W.fnOf "check_many" "check_many" (defArgs s_check_many) (defBody s_check_many) (defScope s_check_many) .none kV3 dc3 pm3 an3 cd3 ct3),sl3⟩)
    (c3 : PySem.W.codeIn K cd3 "check_many" = true)
    (k3 : PySem.W.keepIn K (.ref f3)=true)
    (a4 : PySem.W.nsIn K mainGlobals "check_count" = some (some (.ref f4)))
    (l4 : K.lookup f4=some ⟨oc4,od4,.func (PySem.W.fnOf "check_count" "check_count" (defArgs s_check_count) (defBody s_check_count) (defScope s_check_count) .none kV4 dc4 pm4 an4 cd4 ct4),sl4⟩)
    (c4 : PySem.W.codeIn K cd4 "check_count" = true)
    (k4 : PySem.W.keepIn K (.ref f4)=true)
    (a5 : PySem.W.nsIn K mainGlobals "check_duty" = some (some (.ref f5)))
    (l5 : K.lookup f5=some ⟨oc5,od5,.func (PySem.W.fnOf "check_duty" "check_duty" (defArgs s_check_duty) (defBody s_check_duty) (defScope s_check_duty) .none kV5 dc5 pm5 an5 cd5 ct5),sl5⟩)
    (c5 : PySem.W.codeIn K cd5 "check_duty" = true)
    (k5 : PySem.W.keepIn K (.ref f5)=true)
    (a6 : PySem.W.nsIn K mainGlobals "checked_lots" = some (some (.ref f6)))
    (l6 : K.lookup f6=some ⟨oc6,od6,.func (PySem.W.fnOf "checked_lots" "checked_lots" (defArgs s_checked_lots) (defBody s_checked_lots) (defScope s_checked_lots) .none kV6 dc6 pm6 an6 cd6 ct6),sl6⟩)
    (c6 : PySem.W.codeIn K cd6 "checked_lots" = true)
    (k6 : PySem.W.keepIn K (.ref f6)=true)
    (a7 : PySem.W.nsIn K mainGlobals "checked_outs" = some (some (.ref f7)))
    (l7 : K.lookup f7=some ⟨oc7,od7,.func (PySem.W.fnOf "checked_outs" "checked_outs" (defArgs s_checked_outs) (defBody s_checked_outs) (defScope s_checked_outs) .none kV7 dc7 pm7 an7 cd7 ct7),sl7⟩)
    (c7 : PySem.W.codeIn K cd7 "checked_outs" = true)
    (k7 : PySem.W.keepIn K (.ref f7)=true)
    (a8 : PySem.W.nsIn K mainGlobals "checked_both" = some (some (.ref f8)))
    (l8 : K.lookup f8=some ⟨oc8,od8,.func (PySem.W.fnOf "checked_both" "checked_both" (defArgs s_checked_both) (defBody s_checked_both) (defScope s_checked_both) .none kV8 dc8 pm8 an8 cd8 ct8),sl8⟩)
    (c8 : PySem.W.codeIn K cd8 "checked_both" = true)
    (k8 : PySem.W.keepIn K (.ref f8)=true)
    (a9 : PySem.W.nsIn K mainGlobals "checked_taken" = some (some (.ref f9)))
    (l9 : K.lookup f9=some ⟨oc9,od9,.func (PySem.W.fnOf "checked_taken" "checked_taken" (defArgs s_checked_taken) (defBody s_checked_taken) (defScope s_checked_taken) .none kV9 dc9 pm9 an9 cd9 ct9),sl9⟩)
    (c9 : PySem.W.codeIn K cd9 "checked_taken" = true)
    (k9 : PySem.W.keepIn K (.ref f9)=true)
    (a10 : PySem.W.nsIn K mainGlobals "going" = some (some (.ref f10)))
    (l10 : K.lookup f10=some ⟨oc10,od10,.func (PySem.W.fnOf "going" "going" (defArgs s_going) (defBody s_going) (defScope s_going) .none kV10 dc10 pm10 an10 cd10 ct10),sl10⟩)
    (c10 : PySem.W.codeIn K cd10 "going" = true)
    (k10 : PySem.W.keepIn K (.ref f10)=true)
    (a11 : PySem.W.nsIn K mainGlobals "days_of" = some (some (.ref f11)))
    (l11 : K.lookup f11=some ⟨oc11,od11,.func (PySem.W.fnOf "days_of" "days_of" (defArgs s_days_of) (defBody s_days_of) (defScope s_days_of) .none kV11 dc11 pm11 an11 cd11 ct11),sl11⟩)
    (c11 : PySem.W.codeIn K cd11 "days_of" = true)
    (k11 : PySem.W.keepIn K (.ref f11)=true)
    (a12 : PySem.W.nsIn K mainGlobals "stretches_of" = some (some (.ref f12)))
    (l12 : K.lookup f12=some ⟨oc12,od12,.func (PySem.W.fnOf "stretches_of" "stretches_of" (defArgs s_stretches_of) (defBody s_stretches_of) (defScope s_stretches_of) .none kV12 dc12 pm12 an12 cd12 ct12),sl12⟩)
    (c12 : PySem.W.codeIn K cd12 "stretches_of" = true)
    (k12 : PySem.W.keepIn K (.ref f12)=true)
    (a13 : PySem.W.nsIn K mainGlobals "against_each" = some (some (.ref f13)))
    (l13 : K.lookup f13=some ⟨oc13,od13,.func (PySem.W.fnOf "against_each" "against_each" (defArgs s_against_each) (defBody s_against_each) (defScope s_against_each) .none kV13 dc13 pm13 an13 cd13 ct13),sl13⟩)
    (c13 : PySem.W.codeIn K cd13 "against_each" = true)
    (k13 : PySem.W.keepIn K (.ref f13)=true)
    (a14 : PySem.W.nsIn K mainGlobals "lessened" = some (some (.ref f14)))
    (l14 : K.lookup f14=some ⟨oc14,od14,.func (PySem.W.fnOf "lessened" "lessened" (defArgs s_lessened) (defBody s_lessened) (defScope s_lessened) .none kV14 dc14 pm14 an14 cd14 ct14),sl14⟩)
    (c14 : PySem.W.codeIn K cd14 "lessened" = true)
    (k14 : PySem.W.keepIn K (.ref f14)=true)
    (a15 : PySem.W.nsIn K mainGlobals "slacks_of" = some (some (.ref f15)))
    (l15 : K.lookup f15=some ⟨oc15,od15,.func (PySem.W.fnOf "slacks_of" "slacks_of" (defArgs s_slacks_of) (defBody s_slacks_of) (defScope s_slacks_of) .none kV15 dc15 pm15 an15 cd15 ct15),sl15⟩)
    (c15 : PySem.W.codeIn K cd15 "slacks_of" = true)
    (k15 : PySem.W.keepIn K (.ref f15)=true)
    (a16 : PySem.W.nsIn K mainGlobals "none_lacks" = some (some (.ref f16)))
    (l16 : K.lookup f16=some ⟨oc16,od16,.func (PySem.W.fnOf "none_lacks" "none_lacks" (defArgs s_none_lacks) (defBody s_none_lacks) (defScope s_none_lacks) .none kV16 dc16 pm16 an16 cd16 ct16),sl16⟩)
    (c16 : PySem.W.codeIn K cd16 "none_lacks" = true)
    (k16 : PySem.W.keepIn K (.ref f16)=true)
    (a17 : PySem.W.nsIn K mainGlobals "dealable" = some (some (.ref f17)))
    (l17 : K.lookup f17=some ⟨oc17,od17,.func (PySem.W.fnOf "dealable" "dealable" (defArgs s_dealable) (defBody s_dealable) (defScope s_dealable) .none kV17 dc17 pm17 an17 cd17 ct17),sl17⟩)
    (c17 : PySem.W.codeIn K cd17 "dealable" = true)
    (k17 : PySem.W.keepIn K (.ref f17)=true)
    (a18 : PySem.W.nsIn K mainGlobals "_law_begin" = some (some (.ref f18)))
    (l18 : K.lookup f18=some ⟨oc18,od18,.func (PySem.W.fnOf "_law_begin" "_law_begin" (defArgs s_begin) (defBody s_begin) (defScope s_begin) .none kV18 dc18 pm18 an18 cd18 ct18),sl18⟩)
    (c18 : PySem.W.codeIn K cd18 "_law_begin" = true)
    (k18 : PySem.W.keepIn K (.ref f18)=true)
    (a19 : PySem.W.nsIn K mainGlobals "_law_pick" = some (some (.ref f19)))
    (l19 : K.lookup f19=some ⟨oc19,od19,.func (PySem.W.fnOf "_law_pick" "_law_pick" (defArgs s_pick) (defBody s_pick) (defScope s_pick) .none kV19 dc19 pm19 an19 cd19 ct19),sl19⟩)
    (c19 : PySem.W.codeIn K cd19 "_law_pick" = true)
    (k19 : PySem.W.keepIn K (.ref f19)=true)
    (a20 : PySem.W.nsIn K mainGlobals "_law_some_lots" = some (some (.ref f20)))
    (l20 : K.lookup f20=some ⟨oc20,od20,.func (PySem.W.fnOf "_law_some_lots" "_law_some_lots" (defArgs s_some_lots) (defBody s_some_lots) (defScope s_some_lots) .none kV20 dc20 pm20 an20 cd20 ct20),sl20⟩)
    (c20 : PySem.W.codeIn K cd20 "_law_some_lots" = true)
    (k20 : PySem.W.keepIn K (.ref f20)=true)
    (a21 : PySem.W.nsIn K mainGlobals "_law_some_outs" = some (some (.ref f21)))
    (l21 : K.lookup f21=some ⟨oc21,od21,.func (PySem.W.fnOf "_law_some_outs" "_law_some_outs" (defArgs s_some_outs) (defBody s_some_outs) (defScope s_some_outs) .none kV21 dc21 pm21 an21 cd21 ct21),sl21⟩)
    (c21 : PySem.W.codeIn K cd21 "_law_some_outs" = true)
    (k21 : PySem.W.keepIn K (.ref f21)=true)
    (a22 : PySem.W.nsIn K mainGlobals "_law_small" = some (some (.ref f22)))
    (l22 : K.lookup f22=some ⟨oc22,od22,.func (PySem.W.fnOf "_law_small" "_law_small" (defArgs s_small) (defBody s_small) (defScope s_small) .none kV22 dc22 pm22 an22 cd22 ct22),sl22⟩)
    (c22 : PySem.W.codeIn K cd22 "_law_small" = true)
    (k22 : PySem.W.keepIn K (.ref f22)=true)
    (a23 : PySem.W.nsIn K mainGlobals "_law_dearest" = some (some (.ref f23)))
    (l23 : K.lookup f23=some ⟨oc23,od23,.func (PySem.W.fnOf "_law_dearest" "_law_dearest" (defArgs s_dearestL) (defBody s_dearestL) (defScope s_dearestL) .none kV23 dc23 pm23 an23 (.ref cc23) ct23),sl23⟩)
    (tl23 : K.lookup cc23=some ⟨tc23,to23,.fields tv23,ts23⟩)
    (tp23 : tv23[11]? = some (.ref PP23))
    (hd23 : PySem.W.codeHdIn K cc23 PP23=true)
    (nk23 : K.lookup PP23=none)
    (mt23 : PP23∈ts)
    (c23 : PySem.W.codeIn K (.ref cc23) "_law_dearest" = true)
    (k23 : PySem.W.keepIn K (.ref f23)=true)
    (a24 : PySem.W.nsIn K mainGlobals "_law_eldest" = some (some (.ref f24)))
    (l24 : K.lookup f24=some ⟨oc24,od24,.func (PySem.W.fnOf "_law_eldest" "_law_eldest" (defArgs s_eldestL) (defBody s_eldestL) (defScope s_eldestL) .none kV24 dc24 pm24 an24 (.ref cc24) ct24),sl24⟩)
    (tl24 : K.lookup cc24=some ⟨tc24,to24,.fields tv24,ts24⟩)
    (tp24 : tv24[11]? = some (.ref PP24))
    (hd24 : PySem.W.codeHdIn K cc24 PP24=true)
    (nk24 : K.lookup PP24=none)
    (mt24 : PP24∈ts)
    (c24 : PySem.W.codeIn K (.ref cc24) "_law_eldest" = true)
    (k24 : PySem.W.keepIn K (.ref f24)=true)
    (a25 : PySem.W.nsIn K mainGlobals "_law_deal" = some (some (.ref f25)))
    (l25 : K.lookup f25=some ⟨oc25,od25,.func (PySem.W.fnOf "_law_deal" "_law_deal" (defArgs s_deal) (defBody s_deal) (defScope s_deal) .none kV25 dc25 pm25 an25 cd25 ct25),sl25⟩)
    (c25 : PySem.W.codeIn K cd25 "_law_deal" = true)
    (k25 : PySem.W.keepIn K (.ref f25)=true)
    (a26 : PySem.W.nsIn K mainGlobals "_law_most" = some (some (.ref f26)))
    (l26 : K.lookup f26=some ⟨oc26,od26,.func (PySem.W.fnOf "_law_most" "_law_most" (defArgs s_most) (defBody s_most) (defScope s_most) .none kV26 dc26 pm26 an26 cd26 ct26),sl26⟩)
    (c26 : PySem.W.codeIn K cd26 "_law_most" = true)
    (k26 : PySem.W.keepIn K (.ref f26)=true)
    (a27 : PySem.W.nsIn K mainGlobals "_law_best" = some (some (.ref f27)))
    (l27 : K.lookup f27=some ⟨oc27,od27,.func (PySem.W.fnOf "_law_best" "_law_best" (defArgs s_bestL) (defBody s_bestL) (defScope s_bestL) .none kV27 dc27 pm27 an27 cd27 ct27),sl27⟩)
    (c27 : PySem.W.codeIn K cd27 "_law_best" = true)
    (k27 : PySem.W.keepIn K (.ref f27)=true)
    (a28 : PySem.W.nsIn K mainGlobals "_law_some_counts" = some (some (.ref f28)))
    (l28 : K.lookup f28=some ⟨oc28,od28,.func (PySem.W.fnOf "_law_some_counts" "_law_some_counts" (defArgs s_some_counts) (defBody s_some_counts) (defScope s_some_counts) .none kV28 dc28 pm28 an28 cd28 ct28),sl28⟩)
    (c28 : PySem.W.codeIn K cd28 "_law_some_counts" = true)
    (k28 : PySem.W.keepIn K (.ref f28)=true)
    (a29 : PySem.W.nsIn K mainGlobals "_law_unit_row" = some (some (.ref f29)))
    (l29 : K.lookup f29=some ⟨oc29,od29,.func (PySem.W.fnOf "_law_unit_row" "_law_unit_row" (defArgs s_unit_row) (defBody s_unit_row) (defScope s_unit_row) .none kV29 dc29 pm29 an29 cd29 ct29),sl29⟩)
    (c29 : PySem.W.codeIn K cd29 "_law_unit_row" = true)
    (k29 : PySem.W.keepIn K (.ref f29)=true)
    (a30 : PySem.W.nsIn K mainGlobals "_law_goes_over" = some (some (.ref f30)))
    (l30 : K.lookup f30=some ⟨oc30,od30,.func (PySem.W.fnOf "_law_goes_over" "_law_goes_over" (defArgs s_goes_over) (defBody s_goes_over) (defScope s_goes_over) .none kV30 dc30 pm30 an30 cd30 ct30),sl30⟩)
    (c30 : PySem.W.codeIn K cd30 "_law_goes_over" = true)
    (k30 : PySem.W.keepIn K (.ref f30)=true)
    (a31 : PySem.W.nsIn K mainGlobals "_law_seated" = some (some (.ref f31)))
    (l31 : K.lookup f31=some ⟨oc31,od31,.func (PySem.W.fnOf "_law_seated" "_law_seated" (defArgs s_seated) (defBody s_seated) (defScope s_seated) .none kV31 dc31 pm31 an31 cd31 ct31),sl31⟩)
    (c31 : PySem.W.codeIn K cd31 "_law_seated" = true)
    (k31 : PySem.W.keepIn K (.ref f31)=true)
    (a32 : PySem.W.nsIn K mainGlobals "_law_seat_row" = some (some (.ref f32)))
    (l32 : K.lookup f32=some ⟨oc32,od32,.func (PySem.W.fnOf "_law_seat_row" "_law_seat_row" (defArgs s_seat_row) (defBody s_seat_row) (defScope s_seat_row) .none kV32 dc32 pm32 an32 cd32 ct32),sl32⟩)
    (c32 : PySem.W.codeIn K cd32 "_law_seat_row" = true)
    (k32 : PySem.W.keepIn K (.ref f32)=true)
    (a33 : PySem.W.nsIn K mainGlobals "_law_same" = some (some (.ref f33)))
    (l33 : K.lookup f33=some ⟨oc33,od33,.func (PySem.W.fnOf "_law_same" "_law_same" (defArgs s_same) (defBody s_same) (defScope s_same) .none kV33 dc33 pm33 an33 cd33 ct33),sl33⟩)
    (c33 : PySem.W.codeIn K cd33 "_law_same" = true)
    (k33 : PySem.W.keepIn K (.ref f33)=true)
    (a34 : PySem.W.nsIn K mainGlobals "law" = some (some (.ref f34)))
    (l34 : K.lookup f34=some ⟨oc34,od34,.func (PySem.W.fnOf "law" "law" (defArgs s_law) (defBody s_law) (defScope s_law) .none kV34 dc34 pm34 an34 cd34 ct34),sl34⟩)
    (c34 : PySem.W.codeIn K cd34 "law" = true)
    (k34 : PySem.W.keepIn K (.ref f34)=true)
    (z_len : PySem.W.nsIn K mainGlobals "len" = some none)
    (z_list : PySem.W.nsIn K mainGlobals "list" = some none)
    (z_isi : PySem.W.nsIn K mainGlobals "isinstance" = some none)
    (z_bool : PySem.W.nsIn K mainGlobals "bool" = some none)
    (z_int : PySem.W.nsIn K mainGlobals "int" = some none)
    (z_str : PySem.W.nsIn K mainGlobals "str" = some none)
    (z_tuple : PySem.W.nsIn K mainGlobals "tuple" = some none)
    (z_all : PySem.W.nsIn K mainGlobals "all" = some none)
    (z_any : PySem.W.nsIn K mainGlobals "any" = some none)
    (z_zip : PySem.W.nsIn K mainGlobals "zip" = some none)
    (z_range : PySem.W.nsIn K mainGlobals "range" = some none)
    (z_max : PySem.W.nsIn K mainGlobals "max" = some none)
    (z_min : PySem.W.nsIn K mainGlobals "min" = some none)
    (z_enumerate : PySem.W.nsIn K mainGlobals "enumerate" = some none)
    (z_sum : PySem.W.nsIn K mainGlobals "sum" = some none)
    (z_sorted : PySem.W.nsIn K mainGlobals "sorted" = some none)
    (z_verr : PySem.W.nsIn K mainGlobals "ValueError" = some none)
    (g_FIRST_DAY : PySem.W.nsIn K mainGlobals "FIRST_DAY" = some (some (.int 1 u_FIRST_DAY)))
    (g_LAST_DAY : PySem.W.nsIn K mainGlobals "LAST_DAY" = some (some (.int 999 u_LAST_DAY)))
    (g_MOST_TERM : PySem.W.nsIn K mainGlobals "MOST_TERM" = some (some (.int 400 u_MOST_TERM)))
    (g_MOST_ROWS : PySem.W.nsIn K mainGlobals "MOST_ROWS" = some (some (.int 30 u_MOST_ROWS)))
    (g_MOST_COUNT : PySem.W.nsIn K mainGlobals "MOST_COUNT" = some (some (.int 10000000000 u_MOST_COUNT)))
    (g_MOST_DUTY : PySem.W.nsIn K mainGlobals "MOST_DUTY" = some (some (.int 1000000 u_MOST_DUTY)))
    (g_0 : PySem.W.nsIn K mainGlobals "CustomsError" = some (some (.ref c_0)))
    (g_1 : PySem.W.nsIn K mainGlobals "BadDay" = some (some (.ref c_1)))
    (g_2 : PySem.W.nsIn K mainGlobals "BadTerm" = some (some (.ref c_2)))
    (g_3 : PySem.W.nsIn K mainGlobals "BadCount" = some (some (.ref c_3)))
    (g_4 : PySem.W.nsIn K mainGlobals "BadDuty" = some (some (.ref c_4)))
    (g_5 : PySem.W.nsIn K mainGlobals "BadRows" = some (some (.ref c_5)))
    (g_6 : PySem.W.nsIn K mainGlobals "BadTaken" = some (some (.ref c_7)))
    (x_1 : PySem.W.excIn K c_1 vbm "ValueError.__new__" = true)
    (x_2 : PySem.W.excIn K c_2 vbm "ValueError.__new__" = true)
    (x_3 : PySem.W.excIn K c_3 vbm "ValueError.__new__" = true)
    (x_4 : PySem.W.excIn K c_4 vbm "ValueError.__new__" = true)
    (x_5 : PySem.W.excIn K c_5 vbm "ValueError.__new__" = true)
    (x_6 : PySem.W.excIn K c_7 vbm "ValueError.__new__" = true)
    (nn_L : PP23≠PP24)
    : ∃ (fd : FuncData) (tb : Tbs),((tb.map (·.1)).Nodup∧∀ t∈tb,t.1∈ts∧K.lookup t.1=none∧∃ c,PySem.W.codeHdIn K c t.1=true)∧(∀ (s : Shared) (v : Value),BindsTo s fd ⟨[v],[]⟩ [("_law_script",v)])∧∀ base : Heap,K.In base→base.Ns mainGlobals mg→BMain mg base→FnOk l.prog w K mg base CX0 27 fa fd ["_law_script"] (spLaw K tb):=by
  have e:=hfa.symm.trans (PySem.W.mg_of X G a34)
  cases e
  have F0:=fun_mk (st:=s_is_day) l0 c0 k0
  have F1:=fun_mk (st:=s_check_day) l1 c1 k1
  have F2:=fun_mk (st:=s_check_term) l2 c2 k2
  have F3:=fun_mk (st:=s_check_many) l3 c3 k3
  have F4:=fun_mk (st:=s_check_count) l4 c4 k4
  have F5:=fun_mk (st:=s_check_duty) l5 c5 k5
  have F6:=fun_mk (st:=s_checked_lots) l6 c6 k6
  have F7:=fun_mk (st:=s_checked_outs) l7 c7 k7
  have F8:=fun_mk (st:=s_checked_both) l8 c8 k8
  have F9:=fun_mk (st:=s_checked_taken) l9 c9 k9
  have F10:=fun_mk (st:=s_going) l10 c10 k10
  have F11:=fun_mk (st:=s_days_of) l11 c11 k11
  have F12:=fun_mk (st:=s_stretches_of) l12 c12 k12
  have F13:=fun_mk (st:=s_against_each) l13 c13 k13
  have F14:=fun_mk (st:=s_lessened) l14 c14 k14
  have F15:=fun_mk (st:=s_slacks_of) l15 c15 k15
  have F16:=fun_mk (st:=s_none_lacks) l16 c16 k16
  have F17:=fun_mk (st:=s_dealable) l17 c17 k17
  have F18:=fun_mk (st:=s_begin) l18 c18 k18
  have F19:=fun_mk (st:=s_pick) l19 c19 k19
  have F20:=fun_mk (st:=s_some_lots) l20 c20 k20
  have F21:=fun_mk (st:=s_some_outs) l21 c21 k21
  have F22:=fun_mk (st:=s_small) l22 c22 k22
  have F23:=fun_mk (st:=s_dearestL) l23 c23 k23
  have F24:=fun_mk (st:=s_eldestL) l24 c24 k24
  have F25:=fun_mk (st:=s_deal) l25 c25 k25
  have F26:=fun_mk (st:=s_most) l26 c26 k26
  have F27:=fun_mk (st:=s_bestL) l27 c27 k27
  have F28:=fun_mk (st:=s_some_counts) l28 c28 k28
  have F29:=fun_mk (st:=s_unit_row) l29 c29 k29
  have F30:=fun_mk (st:=s_goes_over) l30 c30 k30
  have F31:=fun_mk (st:=s_seated) l31 c31 k31
  have F32:=fun_mk (st:=s_seat_row) l32 c32 k32
  have F33:=fun_mk (st:=s_same) l33 c33 k33
  have F34:=fun_mk (st:=s_law) l34 c34 k34
  have b0:=F0.binds (ps:=p_is_day) fun _ _ _ _ _ _ us hl=>match us,hl with | [_],_=>rfl
  have m0:=PySem.W.mg_of X G a0
  have b1:=F1.binds (ps:=p_check_day) fun _ _ _ _ _ _ us hl=>match us,hl with | [_],_=>rfl
  have m1:=PySem.W.mg_of X G a1
  have b2:=F2.binds (ps:=p_check_term) fun _ _ _ _ _ _ us hl=>match us,hl with | [_],_=>rfl
  have m2:=PySem.W.mg_of X G a2
  have b3:=F3.binds (ps:=p_check_many) fun _ _ _ _ _ _ us hl=>match us,hl with | [_],_=>rfl
  have m3:=PySem.W.mg_of X G a3
  have b4:=F4.binds (ps:=p_check_count) fun _ _ _ _ _ _ us hl=>match us,hl with | [_],_=>rfl
  have m4:=PySem.W.mg_of X G a4
  have b5:=F5.binds (ps:=p_check_duty) fun _ _ _ _ _ _ us hl=>match us,hl with | [_],_=>rfl
  have m5:=PySem.W.mg_of X G a5
  have b6:=F6.binds (ps:=p_checked_lots) fun _ _ _ _ _ _ us hl=>match us,hl with | [_],_=>rfl
  have m6:=PySem.W.mg_of X G a6
  have b7:=F7.binds (ps:=p_checked_outs) fun _ _ _ _ _ _ us hl=>match us,hl with | [_],_=>rfl
  have m7:=PySem.W.mg_of X G a7
  have b8:=F8.binds (ps:=p_checked_both) fun _ _ _ _ _ _ us hl=>match us,hl with | [_,_,_],_=>rfl
  have m8:=PySem.W.mg_of X G a8
  have b9:=F9.binds (ps:=p_checked_taken) fun _ _ _ _ _ _ us hl=>match us,hl with | [_,_],_=>rfl
  have m9:=PySem.W.mg_of X G a9
  have b10:=F10.binds (ps:=p_going) fun _ _ _ _ _ _ us hl=>match us,hl with | [_,_,_],_=>rfl
  have m10:=PySem.W.mg_of X G a10
  have b11:=F11.binds (ps:=p_days_of) fun _ _ _ _ _ _ us hl=>match us,hl with | [_],_=>rfl
  have m11:=PySem.W.mg_of X G a11
  have b12:=F12.binds (ps:=p_stretches_of) fun _ _ _ _ _ _ us hl=>match us,hl with | [_],_=>rfl
  have m12:=PySem.W.mg_of X G a12
  have b13:=F13.binds (ps:=p_against_each) fun _ _ _ _ _ _ us hl=>match us,hl with | [_,_,_],_=>rfl
  have m13:=PySem.W.mg_of X G a13
  have b14:=F14.binds (ps:=p_lessened) fun _ _ _ _ _ _ us hl=>match us,hl with | [_,_,_],_=>rfl
  have m14:=PySem.W.mg_of X G a14
  have b15:=F15.binds (ps:=p_slacks_of) fun _ _ _ _ _ _ us hl=>match us,hl with | [_,_,_,_],_=>rfl
  have m15:=PySem.W.mg_of X G a15
  have b16:=F16.binds (ps:=p_none_lacks) fun _ _ _ _ _ _ us hl=>match us,hl with | [_],_=>rfl
  have m16:=PySem.W.mg_of X G a16
  have b17:=F17.binds (ps:=p_dealable) fun _ _ _ _ _ _ us hl=>match us,hl with | [_,_,_,_],_=>rfl
  have m17:=PySem.W.mg_of X G a17
  have b18:=F18.binds (ps:=p_begin) fun _ _ _ _ _ _ us hl=>match us,hl with | [_],_=>rfl
  have m18:=PySem.W.mg_of X G a18
  have b19:=F19.binds (ps:=p_pick) fun _ _ _ _ _ _ us hl=>match us,hl with | [_,_],_=>rfl
  have m19:=PySem.W.mg_of X G a19
  have b20:=F20.binds (ps:=p_some_lots) fun _ _ _ _ _ _ us hl=>match us,hl with | [_,_,_,_],_=>rfl
  have m20:=PySem.W.mg_of X G a20
  have b21:=F21.binds (ps:=p_some_outs) fun _ _ _ _ _ _ us hl=>match us,hl with | [_,_,_,_],_=>rfl
  have m21:=PySem.W.mg_of X G a21
  have b22:=F22.binds (ps:=p_small) fun _ _ _ _ _ _ us hl=>match us,hl with | [_,_,_],_=>rfl
  have m22:=PySem.W.mg_of X G a22
  have b23:=F23.binds (ps:=p_dearestL) fun _ _ _ _ _ _ us hl=>match us,hl with | [_],_=>rfl
  have m23:=PySem.W.mg_of X G a23
  have b24:=F24.binds (ps:=p_eldestL) fun _ _ _ _ _ _ us hl=>match us,hl with | [_],_=>rfl
  have m24:=PySem.W.mg_of X G a24
  have b25:=F25.binds (ps:=p_deal) fun _ _ _ _ _ _ us hl=>match us,hl with | [_,_,_,_],_=>rfl
  have m25:=PySem.W.mg_of X G a25
  have b26:=F26.binds (ps:=p_most) fun _ _ _ _ _ _ us hl=>match us,hl with | [_,_,_,_,_],_=>rfl
  have m26:=PySem.W.mg_of X G a26
  have b27:=F27.binds (ps:=p_bestL) fun _ _ _ _ _ _ us hl=>match us,hl with | [_,_,_],_=>rfl
  have m27:=PySem.W.mg_of X G a27
  have b28:=F28.binds (ps:=p_some_counts) fun _ _ _ _ _ _ us hl=>match us,hl with | [_,_,_,_],_=>rfl
  have m28:=PySem.W.mg_of X G a28
  have b29:=F29.binds (ps:=p_unit_row) fun _ _ _ _ _ _ us hl=>match us,hl with | [_,_],_=>rfl
  have m29:=PySem.W.mg_of X G a29
  have b30:=F30.binds (ps:=p_goes_over) fun _ _ _ _ _ _ us hl=>match us,hl with | [_,_,_,_,_,_],_=>rfl
  have m30:=PySem.W.mg_of X G a30
  have b31:=F31.binds (ps:=p_seated) fun _ _ _ _ _ _ us hl=>match us,hl with | [_,_,_],_=>rfl
  have m31:=PySem.W.mg_of X G a31
  have b32:=F32.binds (ps:=p_seat_row) fun _ _ _ _ _ _ us hl=>match us,hl with | [_],_=>rfl
  have m32:=PySem.W.mg_of X G a32
  have b33:=F33.binds (ps:=p_same) fun _ _ _ _ _ _ us hl=>match us,hl with | [_,_],_=>rfl
  have m33:=PySem.W.mg_of X G a33
  have B : Bn mg:=⟨PySem.W.mg_none_of X G z_len,PySem.W.mg_none_of X G z_list,PySem.W.mg_none_of X G z_isi,PySem.W.mg_none_of X G z_bool,PySem.W.mg_none_of X G z_int,PySem.W.mg_none_of X G z_str,PySem.W.mg_none_of X G z_tuple,PySem.W.mg_none_of X G z_all,PySem.W.mg_none_of X G z_any,PySem.W.mg_none_of X G z_zip,PySem.W.mg_none_of X G z_range,PySem.W.mg_none_of X G z_max,PySem.W.mg_none_of X G z_min,PySem.W.mg_none_of X G z_enumerate,PySem.W.mg_none_of X G z_sum,PySem.W.mg_none_of X G z_sorted,PySem.W.mg_none_of X G z_verr⟩
  have TY : ∃ cl : Nat→Addr,Txt K mg cl:=by
    refine ⟨(clF c_0 c_1 c_2 c_3 c_4 c_5 c_7),⟨⟨_,PySem.W.mg_of X G g_FIRST_DAY⟩,⟨_,PySem.W.mg_of X G g_LAST_DAY⟩,⟨_,PySem.W.mg_of X G g_MOST_TERM⟩,⟨_,PySem.W.mg_of X G g_MOST_ROWS⟩,⟨_,PySem.W.mg_of X G g_MOST_COUNT⟩,⟨_,PySem.W.mg_of X G g_MOST_DUTY⟩,PySem.W.mg_of X G g_0,PySem.W.mg_of X G g_1,PySem.W.mg_of X G g_2,PySem.W.mg_of X G g_3,PySem.W.mg_of X G g_4,PySem.W.mg_of X G g_5,PySem.W.mg_of X G g_6,x_1,x_2,x_3,x_4,x_5,x_6⟩⟩
  obtain ⟨cl,T⟩:=TY
  refine ⟨PySem.W.fnOf "law" "law" (defArgs s_law) (defBody s_law) (defScope s_law) .none kV34 dc34 pm34 an34 cd34 ct34,[(PP23,lq_dearestL,lp_dearestL),(PP24,lq_eldestL,lp_eldestL)],⟨by simp [nn_L],(List.forall_mem_cons.mpr ⟨⟨mt23,nk23,_,hd23⟩,(List.forall_mem_cons.mpr ⟨⟨mt24,nk24,_,hd24⟩,(fun _ h=>nomatch h)⟩)⟩)⟩,fun s v=>.of_eq rfl,fun base _ _ BM=>?_⟩
  have G0 : Cal l.prog w K mg base CX0 1 "is_day" p_is_day spIsDay:=⟨⟨_,_,ok_is_day T B F0,b0,k0,m0⟩⟩
  have G1 : Cal l.prog w K mg base (CXE l.prog w) 2 "check_day" p_check_day (spIn (cl 1) 999):=⟨⟨_,_,ok_check_day T B G0 F1,b1,k1,m1⟩⟩
  have G2 : Cal l.prog w K mg base (CXE l.prog w) 2 "check_term" p_check_term (spTerm (cl 2)):=⟨⟨_,_,ok_check_term T B F2,b2,k2,m2⟩⟩
  have G3 : Cal l.prog w K mg base (CXE l.prog w) 2 "check_many" p_check_many (spMany (cl 5)):=⟨⟨_,_,ok_check_many T B F3,b3,k3,m3⟩⟩
  have G4 : Cal l.prog w K mg base (CXE l.prog w) 2 "check_count" p_check_count (spIn (cl 3) 10000000000):=⟨⟨_,_,ok_check_count T B F4,b4,k4,m4⟩⟩
  have G5 : Cal l.prog w K mg base (CXE l.prog w) 2 "check_duty" p_check_duty (spIn (cl 4) 1000000):=⟨⟨_,_,ok_check_duty T B F5,b5,k5,m5⟩⟩
  have G6 : Cal l.prog w K mg base (CXE l.prog w) 3 "checked_lots" p_checked_lots (spChk (cl 5) (clCol cl) 3):=⟨⟨_,_,ok_checked_lots T B G3 G1 G4 G5 F6,b6,k6,m6⟩⟩
  have G7 : Cal l.prog w K mg base (CXE l.prog w) 3 "checked_outs" p_checked_outs (spChk (cl 5) (clCol cl) 2):=⟨⟨_,_,ok_checked_outs T B G3 G1 G4 F7,b7,k7,m7⟩⟩
  have G8 : Cal l.prog w K mg base (CXE l.prog w) 4 "checked_both" p_checked_both (spBoth cl):=⟨⟨_,_,ok_checked_both T B G6 G7 G2 F8,b8,k8,m8⟩⟩
  have G9 : Cal l.prog w K mg base (CXE l.prog w) 2 "checked_taken" p_checked_taken (spChkTaken (cl 7)):=⟨⟨_,_,ok_checked_taken T B F9,b9,k9,m9⟩⟩
  have G10 : Cal l.prog w K mg base CX0 1 "going" p_going spGoing:=⟨⟨_,_,ok_going T B F10,b10,k10,m10⟩⟩
  have G11 : Cal l.prog w K mg base CX0 1 "days_of" p_days_of spDaysOf:=⟨⟨_,_,ok_days_of T B F11,b11,k11,m11⟩⟩
  have G12 : Cal l.prog w K mg base CX0 2 "stretches_of" p_stretches_of spStretchesOf:=⟨⟨_,_,ok_stretches_of T B G11 F12,b12,k12,m12⟩⟩
  have G13 : Cal l.prog w K mg base CX0 3 "against_each" p_against_each spAgainstEach:=⟨⟨_,_,ok_against_each T B G12 G10 F13,b13,k13,m13⟩⟩
  have G14 : Cal l.prog w K mg base CX0 1 "lessened" p_lessened spLessened:=⟨⟨_,_,ok_lessened T B F14,b14,k14,m14⟩⟩
  have G15 : Cal l.prog w K mg base CX0 4 "slacks_of" p_slacks_of spSlacksOf:=⟨⟨_,_,ok_slacks_of T B G13 G14 F15,b15,k15,m15⟩⟩
  have G16 : Cal l.prog w K mg base CX0 1 "none_lacks" p_none_lacks spNoneLacks:=⟨⟨_,_,ok_none_lacks T B F16,b16,k16,m16⟩⟩
  have G17 : Cal l.prog w K mg base (CXE l.prog w) 5 "dealable" p_dealable (spDealable cl):=⟨⟨_,_,ok_dealable T B G8 G9 G15 G16 F17,b17,k17,m17⟩⟩
  have G18 : Cal l.prog w K mg base CX0 1 "_law_begin" p_begin (spBegin K):=⟨⟨_,_,ok_begin F18 B,b18,k18,m18⟩⟩
  have G19 : Cal l.prog w K mg base CX0 1 "_law_pick" p_pick spPick:=⟨⟨_,_,ok_pick F19 B,b19,k19,m19⟩⟩
  have G20 : Cal l.prog w K mg base CX0 2 "_law_some_lots" p_some_lots spLots:=⟨⟨_,_,ok_some_lots B G19 F20,b20,k20,m20⟩⟩
  have G21 : Cal l.prog w K mg base CX0 2 "_law_some_outs" p_some_outs spOuts:=⟨⟨_,_,ok_some_outs B G19 F21,b21,k21,m21⟩⟩
  have G22 : Cal l.prog w K mg base CX0 3 "_law_small" p_small spSmall:=⟨⟨_,_,ok_small B G19 G20 G21 F22,b22,k22,m22⟩⟩
  have G23 : Cal l.prog w K mg base CX0 1 "_law_dearest" p_dearestL (spOrdT [(PP23,lq_dearestL,lp_dearestL),(PP24,lq_eldestL,lp_eldestL)] keyD okD):=⟨⟨_,_,ok_dearestL B BM rfl hd23 (.head _) F23,b23,k23,m23⟩⟩
  have G24 : Cal l.prog w K mg base CX0 1 "_law_eldest" p_eldestL (spOrdT [(PP23,lq_dearestL,lp_dearestL),(PP24,lq_eldestL,lp_eldestL)] keyE okE):=⟨⟨_,_,ok_eldestL B BM rfl hd24 (.tail _ (.head _)) F24,b24,k24,m24⟩⟩
  have G25 : Cal l.prog w K mg base CX0 2 "_law_deal" p_deal (spDealT [(PP23,lq_dearestL,lp_dearestL),(PP24,lq_eldestL,lp_eldestL)]):=⟨⟨_,_,ok_deal B G24 F25,b25,k25,m25⟩⟩
  have G26 : Cal l.prog w K mg base CX0 3 "_law_most" p_most (spMostT [(PP23,lq_dearestL,lp_dearestL),(PP24,lq_eldestL,lp_eldestL)]):=⟨⟨_,_,ok_most B G25 F26,b26,k26,m26⟩⟩
  have G27 : Cal l.prog w K mg base CX0 4 "_law_best" p_bestL (spBestT [(PP23,lq_dearestL,lp_dearestL),(PP24,lq_eldestL,lp_eldestL)]):=⟨⟨_,_,ok_bestL B G23 G26 F27,b27,k27,m27⟩⟩
  have G28 : Cal l.prog w K mg base CX0 5 "_law_some_counts" p_some_counts (spCountsT [(PP23,lq_dearestL,lp_dearestL),(PP24,lq_eldestL,lp_eldestL)]):=⟨⟨_,_,ok_some_counts B G19 G27 F28,b28,k28,m28⟩⟩
  have G29 : Cal l.prog w K mg base CX0 1 "_law_unit_row" p_unit_row spUnitRow:=⟨⟨_,_,ok_unit_row B F29,b29,k29,m29⟩⟩
  have G30 : Cal l.prog w K mg base CX0 25 "_law_goes_over" p_goes_over (spGoes 25):=⟨⟨_,_,ok_goes B F30 b30 k30 m30 25,b30,k30,m30⟩⟩
  have G31 : Cal l.prog w K mg base CX0 26 "_law_seated" p_seated spSeated:=⟨⟨_,_,ok_seated B G30 F31,b31,k31,m31⟩⟩
  have G32 : Cal l.prog w K mg base CX0 1 "_law_seat_row" p_seat_row spSeatRow:=⟨⟨_,_,ok_seat_row B F32,b32,k32,m32⟩⟩
  have G33 : Cal l.prog w K mg base CX0 3 "_law_same" p_same (spSame 3):=⟨⟨_,_,ok_same F33 B b33 k33 m33 3,b33,k33,m33⟩⟩
  exact ok_law B G18 G22 G33 G32 G29 G31 G28 G17 F34
theorem walk {l : PySem.W.OpenLaw} {q : Program} {loose : List Str} {XP : (Str→Option Value)→Heap→Prop} {YP : World→Heap→Prop} {d : DefRec} {K : Params→PySem.W.Frag} {ts : List Addr} (hn : l.most=some 63) (hdf : d.params.defaults=[])
    (hY : ∀ (w : World) (h : Heap),YP w h→(K w.params).In h∧∀ P∈ts,h.get? P=some (PySem.W.tabObj #[]))
    (F : ∀ (w : World) (mg : Str→Option Value) (fa : Addr) (h : Heap),(K w.params).In h→h.Ns mainGlobals mg→mg d.name=some (.ref fa)→
      ∃ (fd : FuncData) (tb : Tbs),((tb.map (·.1)).Nodup∧∀ t∈tb,t.1∈ts∧(K w.params).lookup t.1=none∧∃ c,PySem.W.codeHdIn (K w.params) c t.1=true)∧(∀ (s : Shared) (u : Value),BindsTo s fd ⟨[u],[]⟩ [("_law_script",u)])∧∀ base : Heap,(K w.params).In base→base.Ns mainGlobals mg→BMain mg base→FnOk l.prog w (K w.params) mg base CX0 27 fa fd ["_law_script"] (spLaw (K w.params) tb)) :
    PySem.W.WalkO q loose XP YP l.row.toRowW d [] (fun f vs=>PySem.call f vs):=
  L2.walk_tab (n:=63) (k:=27) (x := "_law_script") (sp:=spLaw) hn (by decide) hdf ⟨rfl,by decide,by decide⟩ hY F fun _ _ _ a ns hl hT hS=>⟨a,ns,rfl,hT,hS,hl,fun _ T'=>⟨rfl,T'⟩⟩
end K07
def PySem.W.Fast.tw10452997971572693854 : Nat:=0
def PySem.W.Fast.tw16618201420080728376 : Nat:=0
def PySem.W.Fast.tw14757637669465604072 : Nat:=0
def PySem.W.Fast.tw17597961750634265253 : Nat:=0
def PySem.W.Fast.tw12429334968183736591 : Nat:=0
def PySem.W.Fast.tw15094531315409186054 : Nat:=0
def PySem.W.Fast.tw2413308478674009926 : Nat:=0
def PySem.W.Fast.tw13127966239048302757 : Nat:=0
def PySem.W.Fast.tw2667408043049108082 : Nat:=0
def PySem.W.Fast.tw3322264134597109629 : Nat:=0
def PySem.W.Fast.tw13592183365258831246 : Nat:=0
def PySem.W.Fast.tw4924106552428782499 : Nat:=0
def PySem.W.Fast.tw4857078579547249764 : Nat:=0
def PySem.W.Fast.tw16362382227042290717 : Nat:=0
def PySem.W.Fast.tw5169292587885982162 : Nat:=0
def PySem.W.Fast.tw17409349176743373590 : Nat:=0
def PySem.W.Fast.tw3360802148202545489 : Nat:=0
def PySem.W.Fast.tw1864907624135979517 : Nat:=0
def PySem.W.Fast.tw9533220914123423442 : Nat:=0
def PySem.W.Fast.tw4997741007224638508 : Nat:=0
def PySem.W.Fast.tw8414429721870369291 : Nat:=0
def PySem.W.Fast.tw8689561075559226925 : Nat:=0
def PySem.W.Fast.tw1843022688012889604 : Nat:=0
def PySem.W.Fast.tw7325719872813771564 : Nat:=0
def PySem.W.Fast.tw6582167205031872738 : Nat:=0
def PySem.W.Fast.tw2742577028668555644 : Nat:=0
def PySem.W.Fast.tw4494897323402705091 : Nat:=0
def PySem.W.Fast.tw2049190620995726656 : Nat:=0
def PySem.W.Fast.tw12702044265518968565 : Nat:=0
def PySem.W.Fast.tw17083777906361749024 : Nat:=0
def PySem.W.Fast.tw3729683978654504257 : Nat:=0
def PySem.W.Fast.tw17420739875943321643 : Nat:=0
def PySem.W.Fast.tw6111476040510670408 : Nat:=0
def PySem.W.Fast.tw13415805579587318777 : Nat:=0
def PySem.W.Fast.tw14536012131894809085 : Nat:=0
def PySem.W.Fast.tw11267873642688306396 : Nat:=0
def PySem.W.Fast.tw18366035284507974813 : Nat:=0
def PySem.W.Fast.tw1706046232193238528 : Nat:=0
def PySem.W.Fast.tw9603293541984916623 : Nat:=0
def PySem.W.Fast.tw87468286717041115 : Nat:=0
def PySem.W.Fast.tw12524985153916259405 : Nat:=0
def PySem.W.Fast.tw7832561151926481035 : Nat:=0
def PySem.W.Fast.tw587754434102697703 : Nat:=0
def PySem.W.Fast.tw7908220433033616396 : Nat:=0
def PySem.W.Fast.tw15694126021514414525 : Nat:=0
def PySem.W.Fast.tw2862220345804094590 : Nat:=0
def PySem.W.Fast.tw6885552368038413936 : Nat:=0
def PySem.W.Fast.tw3061384145229764747 : Nat:=0
def PySem.W.Fast.tw15098071990851378546 : Nat:=0
def PySem.W.Fast.tw16594249281880284497 : Nat:=0
def PySem.W.Fast.tw16020289484932239285 : Nat:=0
def PySem.W.Fast.tw2907294024296675309 : Nat:=0
def PySem.W.Fast.tw6577331334840194806 : Nat:=0
def PySem.W.Fast.tw14139336949636562621 : Nat:=0
def PySem.W.Fast.tw9571435190137235894 : Nat:=0
def PySem.W.Fast.tw3711251073275341872 : Nat:=0
def PySem.W.Fast.tw11394756681866882961 : Nat:=0
def PySem.W.Fast.tw6459716659097025643 : Nat:=0
def PySem.W.Fast.tw4860530190554330676 : Nat:=0
def PySem.W.Fast.tw6368232901594176877 : Nat:=0
def PySem.W.Fast.tw1703145419687531697 : Nat:=0
def PySem.W.Fast.tw18190520900524794973 : Nat:=0
def PySem.W.Fast.tw1409046498054419246 : Nat:=0
def PySem.W.Fast.tw11683814069331942242 : Nat:=0
def PySem.W.Fast.tw2853405549660328271 : Nat:=0
def PySem.W.Fast.tw6967149055634520478 : Nat:=0
def PySem.W.Fast.tw10583032479528214093 : Nat:=0
def PySem.W.Fast.tw10063575640137431473 : Nat:=0
def PySem.W.Fast.tw7602522527192511704 : Nat:=0
def PySem.W.Fast.tw7377477582161491694 : Nat:=0
def PySem.W.Fast.tw6686096388959579755 : Nat:=0
def PySem.W.Fast.tw2881743084165373916 : Nat:=0
def PySem.W.Fast.tw17399960144536948142 : Nat:=0
def PySem.W.Fast.tw805172936123814006 : Nat:=0
def PySem.W.Fast.tw7898723336655525680 : Nat:=0
def PySem.W.Fast.tw4947227015857616963 : Nat:=0
def PySem.W.Fast.tw3126719758697798579 : Nat:=0
def PySem.W.Fast.tw647365398094681504 : Nat:=0
def PySem.W.Fast.tw10532530003885322123 : Nat:=0
def PySem.W.Fast.tw5145439089703425244 : Nat:=0
def PySem.W.Fast.tw5716832472658190793 : Nat:=0
def PySem.W.Fast.tw11212406243243836868 : Nat:=0
def PySem.W.Fast.tw8954277633291358010 : Nat:=0
def PySem.W.Fast.tw7322852051795730967 : Nat:=0
def PySem.W.Fast.tw16814461952380436524 : Nat:=0
def PySem.W.Fast.tw8897739465462677914 : Nat:=0
def PySem.W.Fast.tw3440263435557808292 : Nat:=0
def PySem.W.Fast.tw11068211086791460207 : Nat:=0
def PySem.W.Fast.tw16553176516307682652 : Nat:=0
def PySem.W.Fast.tw12436205133798143875 : Nat:=0
def PySem.W.Fast.tw5234748136287486088 : Nat:=0
def PySem.W.Fast.tw1174536406080354277 : Nat:=0
def PySem.W.Fast.tw610671569668055583 : Nat:=0
def PySem.W.Fast.tw9969674978964891196 : Nat:=0
def PySem.W.Fast.tw926536288037433533 : Nat:=0
def PySem.W.Fast.tw767781150675177594 : Nat:=0
def PySem.W.Fast.tw8004850984490669354 : Nat:=0
def PySem.W.Fast.tw12752437246518398436 : Nat:=0
def PySem.W.Fast.tw2249142575055408525 : Nat:=0
def PySem.W.Fast.tw17976923461253758188 : Nat:=0
def PySem.W.Fast.tw17017249877997759359 : Nat:=0
def PySem.W.Fast.tw10601754488784657695 : Nat:=0
def PySem.W.Fast.tw14996885930757840116 : Nat:=0
def PySem.W.Fast.tw4880805870104409585 : Nat:=0
def PySem.W.Fast.tw4094694406283244263 : Nat:=0
def PySem.W.Fast.tw3741728568699122602 : Nat:=0
def PySem.W.Fast.tw5358355633519393347 : Nat:=0
def PySem.W.Fast.tw3785180217633166213 : Nat:=0
def PySem.W.Fast.tw10827690923862440692 : Nat:=0
def PySem.W.Fast.tw2126587384945707968 : Nat:=0
def PySem.W.Fast.tw7297059656399720792 : Nat:=0
def PySem.W.Fast.tw13375634603160163498 : Nat:=0
def PySem.W.Fast.tw7146091110306875947 : Nat:=0
def PySem.W.Fast.tw16386400568936488722 : Nat:=0
def PySem.W.Fast.tw11987838359220073290 : Nat:=0
def PySem.W.Fast.tw6816834932267118146 : Nat:=0
def PySem.W.Fast.tw14203021272055209851 : Nat:=0
def PySem.W.Fast.tw1687778310576224285 : Nat:=0
def PySem.W.Fast.tw16912968650550001933 : Nat:=0
def PySem.W.Fast.tw3666686648716044508 : Nat:=0
def PySem.W.Fast.tw296509616664114518 : Nat:=0
def PySem.W.Fast.tw537991624991763078 : Nat:=0
def PySem.W.Fast.tw5125649838674979898 : Nat:=0
def PySem.W.Fast.tw16198032369461314434 : Nat:=0
def PySem.W.Fast.tw12217558204223673731 : Nat:=0
def PySem.W.Fast.tw14529881685394203839 : Nat:=0
def PySem.W.Fast.tw4863894744383485345 : Nat:=0
def PySem.W.Fast.tw8118400011409560487 : Nat:=0
def PySem.W.Fast.tw2194856781455343462 : Nat:=0
def PySem.W.Fast.tw7451305149008468158 : Nat:=0
def PySem.W.Fast.tw274985762021074913 : Nat:=0
def PySem.W.Fast.tw9448577346560850819 : Nat:=0
def PySem.W.Fast.tw5775934740766124448 : Nat:=0
def PySem.W.Fast.tw5200501074762223650 : Nat:=0
def PySem.W.Fast.tw2443604342780239775 : Nat:=0
def PySem.W.Fast.tw2882279062448631400 : Nat:=0
def PySem.W.Fast.tw5464791804706585274 : Nat:=0
def PySem.W.Fast.tw8570483247527505429 : Nat:=0
def PySem.W.Fast.tw17850700972574210134 : Nat:=0
def PySem.W.Fast.tw5991049239769763469 : Nat:=0
def PySem.W.Fast.tw1741488173411553357 : Nat:=0
def PySem.W.Fast.tw3228514385140921592 : Nat:=0
def PySem.W.Fast.tw459324873220124658 : Nat:=0
def PySem.W.Fast.tw4207134456377853670 : Nat:=0
def PySem.W.Fast.tw18046781650578776692 : Nat:=0
def PySem.W.Fast.tw8214565164967720751 : Nat:=0
def PySem.W.Fast.tw3928907840826760767 : Nat:=0
def PySem.W.Fast.tw5071048422793473851 : Nat:=0
def PySem.W.Fast.tw15494503076511858060 : Nat:=0
def PySem.W.Fast.tw5854043222194343524 : Nat:=0
def PySem.W.Fast.tw17780189424218886663 : Nat:=0
def PySem.W.Fast.tw3613273965166073542 : Nat:=0
def PySem.W.Fast.tw14222986676026861982 : Nat:=0
def PySem.W.Fast.tw11008342442812969182 : Nat:=0
def PySem.W.Fast.tw5019098650926397668 : Nat:=0
def PySem.W.Fast.tw14000253978090530615 : Nat:=0
def PySem.W.Fast.tw10458988208692904421 : Nat:=0
def PySem.W.Fast.tw16918182932492616893 : Nat:=0
def PySem.W.Fast.tw1002561760453204148 : Nat:=0
def PySem.W.Fast.tw4494244126536652390 : Nat:=0
def PySem.W.Fast.tw1366820197468101163 : Nat:=0
def PySem.W.Fast.tw11843123521987924159 : Nat:=0
def PySem.W.Fast.tw15678755276065419447 : Nat:=0
def PySem.W.Fast.tw1234394474649083388 : Nat:=0
def PySem.W.Fast.tw5994421219249798907 : Nat:=0
def PySem.W.Fast.tw7270559796982130521 : Nat:=0
def PySem.W.Fast.tw17031534804491299005 : Nat:=0
def PySem.W.Fast.tw11665681952075008849 : Nat:=0
def PySem.W.Fast.tw6897304787179701531 : Nat:=0
def PySem.W.Fast.tw16075594488956425080 : Nat:=0
def PySem.W.Fast.tw3516492593433550983 : Nat:=0
def PySem.W.Fast.tw7781150772604399733 : Nat:=0
def PySem.W.Fast.tw12236770616692970711 : Nat:=0
def PySem.W.Fast.tw1224547493270038036 : Nat:=0
def PySem.W.Fast.tw9490499607026634027 : Nat:=0
def PySem.W.Fast.tw6185081484508546135 : Nat:=0
def PySem.W.Fast.tw669155538486200894 : Nat:=0
def PySem.W.Fast.tw11454482979986801928 : Nat:=0
def PySem.W.Fast.tw2756794158014026487 : Nat:=0
def PySem.W.Fast.tw3968691898996914730 : Nat:=0
def PySem.W.Fast.tw16804172193468394228 : Nat:=0
def PySem.W.Fast.tw11286798078033386820 : Nat:=0
def PySem.W.Fast.tw7964041377245653428 : Nat:=0
def PySem.W.Fast.tw6815528371262488147 : Nat:=0
def PySem.W.Fast.tw6620862842096427301 : Nat:=0
def PySem.W.Fast.tw16875969023424354885 : Nat:=0
def PySem.W.Fast.tw3474592714482746295 : Nat:=0
def PySem.W.Fast.tw428200579033407892 : Nat:=0
def PySem.W.Fast.tw17422396125725035362 : Nat:=0
def PySem.W.Fast.tw12417846046261179798 : Nat:=0
def PySem.W.Fast.tw7565005808664522468 : Nat:=0
def PySem.W.Fast.tw16876806789307597371 : Nat:=0
def PySem.W.Fast.tw12250764650523387979 : Nat:=0
def PySem.W.Fast.tw11670212773013103930 : Nat:=0
def PySem.W.Fast.tw8051598925665380807 : Nat:=0
def PySem.W.Fast.tw4641507138202588663 : Nat:=0
def PySem.W.Fast.tw18066311888399030643 : Nat:=0
def PySem.W.Fast.tw17142122527822991669 : Nat:=0
def PySem.W.Fast.tw16732121501300825515 : Nat:=0
def PySem.W.Fast.tw13479302194816929072 : Nat:=0
def PySem.W.Fast.tw8962049970457803311 : Nat:=0
def PySem.W.Fast.tw15868812383087067904 : Nat:=0
def PySem.W.Fast.tw10830946500680849309 : Nat:=0
def PySem.W.Fast.tw1655889341549312707 : Nat:=0
def PySem.W.Fast.tw5781812972859345836 : Nat:=0
def PySem.W.Fast.tw6700677541593869809 : Nat:=0
def PySem.W.Fast.tw11562422520779250300 : Nat:=0
def PySem.W.Fast.tw2780395696504091416 : Nat:=0
def PySem.W.Fast.tw11953679462218552655 : Nat:=0
def PySem.W.Fast.tw3914351170623161489 : Nat:=0
def PySem.W.Fast.tw11207222300387939819 : Nat:=0
def PySem.W.Fast.tw5194111311361351199 : Nat:=0
def PySem.W.Fast.tw6390339312157124348 : Nat:=0
def PySem.W.Fast.tw6327748674196215859 : Nat:=0
def PySem.W.Fast.tw895189044899001431 : Nat:=0
def PySem.W.Fast.tw4660004195266299289 : Nat:=0
def PySem.W.Fast.tw7961469242673008894 : Nat:=0
def PySem.W.Fast.tw245294804876815070 : Nat:=0
def PySem.W.Fast.tw2518875452851550864 : Nat:=0
def PySem.W.Fast.tw10480993719007880508 : Nat:=0
def PySem.W.Fast.tw16169667646729076488 : Nat:=0
def PySem.W.Fast.tw7262295143124442196 : Nat:=0
def PySem.W.Fast.tw9630002718057639429 : Nat:=0
def PySem.W.Fast.tw14111073438102282547 : Nat:=0
def PySem.W.Fast.tw10550145261800271531 : Nat:=0
def PySem.W.Fast.tw6892392824354646836 : Nat:=0
def PySem.W.Fast.tw11777857909324990681 : Nat:=0
def PySem.W.Fast.tw2539361080674816184 : Nat:=0
def PySem.W.Fast.tw6165953141253882165 : Nat:=0
def PySem.W.Fast.tw14037177594696020930 : Nat:=0
def PySem.W.Fast.tw11132650447051956530 : Nat:=0
def PySem.W.Fast.tw12289910469972773230 : Nat:=0
open PySem PySem.W PyProof.Rows
set_option maxRecDepth 100000 in
set_option maxHeartbeats 0 in
theorem PySem.Challenge.cw_drawback_k07_whole_dealt_unit_by_unit_holds : PySem.Challenge.rw_drawback_k07_whole_dealt_unit_by_unit.Holds := by
  w_on; o_law; k_head; (case hw=>w_witness2)
  k_fill
  refine K07.walk (l:=PySem.Challenge.rw_drawback_k07_whole_dealt_unit_by_unit) rfl rfl (fun w h Y=>⟨PySem.W.km_in_of Y,PySem.W.km_tabs_of Y⟩) ?F
  case F=>
    intro w mg fa h KX G hmg
    refine' K07.all_mk KX G hmg ?a0 ?l0 ?c0 ?k0 ?a1 ?l1 ?c1 ?k1 ?a2 ?l2 ?c2 ?k2 ?a3 ?l3 ?c3 ?k3 ?a4 ?l4 ?c4 ?k4 ?a5 ?l5 ?c5 ?k5 ?a6 ?l6 ?c6 ?k6 ?a7 ?l7 ?c7 ?k7 ?a8 ?l8 ?c8 ?k8 ?a9 ?l9 ?c9 ?k9 ?a10 ?l10 ?c10 ?k10 ?a11 ?l11 ?c11 ?k11 ?a12 ?l12 ?c12 ?k12 ?a13 ?l13 ?c13 ?k13 ?a14 ?l14 ?c14 ?k14 ?a15 ?l15 ?c15 ?k15 ?a16 ?l16 ?c16 ?k16 ?a17 ?l17 ?c17 ?k17 ?a18 ?l18 ?c18 ?k18 ?a19 ?l19 ?c19 ?k19 ?a20 ?l20 ?c20 ?k20 ?a21 ?l21 ?c21 ?k21 ?a22 ?l22 ?c22 ?k22 ?a23 ?l23 ?tl23 ?tp23 ?hd23 ?nk23 ?mt23 ?c23 ?k23 ?a24 ?l24 ?tl24 ?tp24 ?hd24 ?nk24 ?mt24 ?c24 ?k24 ?a25 ?l25 ?c25 ?k25 ?a26 ?l26 ?c26 ?k26 ?a27 ?l27 ?c27 ?k27 ?a28 ?l28 ?c28 ?k28 ?a29 ?l29 ?c29 ?k29 ?a30 ?l30 ?c30 ?k30 ?a31 ?l31 ?c31 ?k31 ?a32 ?l32 ?c32 ?k32 ?a33 ?l33 ?c33 ?k33 ?a34 ?l34 ?c34 ?k34 ?z_len ?z_list ?z_isi ?z_bool ?z_int ?z_str ?z_tuple ?z_all ?z_any ?z_zip ?z_range ?z_max ?z_min ?z_enumerate ?z_sum ?z_sorted ?z_verr ?g_FIRST_DAY ?g_LAST_DAY ?g_MOST_TERM ?g_MOST_ROWS ?g_MOST_COUNT ?g_MOST_DUTY ?g_0 ?g_1 ?g_2 ?g_3 ?g_4 ?g_5 ?g_6 ?x_1 ?x_2 ?x_3 ?x_4 ?x_5 ?x_6 ?nn_L
    (case a0=>k_is)
    (case l0=>k_is)
    (case c0=>k_is)
    (case k0=>k_is)
    (case a1=>k_is)
    (case l1=>k_is)
    (case c1=>k_is)
    (case k1=>k_is)
    (case a2=>k_is)
    (case l2=>k_is)
    (case c2=>k_is)
    (case k2=>k_is)
    (case a3=>k_is)
    (case l3=>k_is)
    (case c3=>k_is)
    (case k3=>k_is)
    (case a4=>k_is)
    (case l4=>k_is)
    (case c4=>k_is)
    (case k4=>k_is)
    (case a5=>k_is)
    (case l5=>k_is)
    (case c5=>k_is)
    (case k5=>k_is)
    (case a6=>k_is)
    (case l6=>k_is)
    (case c6=>k_is)
    (case k6=>k_is)
    (case a7=>k_is)
    (case l7=>k_is)
    (case c7=>k_is)
    (case k7=>k_is)
    (case a8=>k_is)
    (case l8=>k_is)
    (case c8=>k_is)
    (case k8=>k_is)
    (case a9=>k_is)
    (case l9=>k_is)
    (case c9=>k_is)
    (case k9=>k_is)
    (case a10=>k_is)
    (case l10=>k_is)
    (case c10=>k_is)
    (case k10=>k_is)
    (case a11=>k_is)
    (case l11=>k_is)
    (case c11=>k_is)
    (case k11=>k_is)
    (case a12=>k_is)
    (case l12=>k_is)
    (case c12=>k_is)
    (case k12=>k_is)
    (case a13=>k_is)
    (case l13=>k_is)
    (case c13=>k_is)
    (case k13=>k_is)
    (case a14=>k_is)
    (case l14=>k_is)
    (case c14=>k_is)
    (case k14=>k_is)
    (case a15=>k_is)
    (case l15=>k_is)
    (case c15=>k_is)
    (case k15=>k_is)
    (case a16=>k_is)
    (case l16=>k_is)
    (case c16=>k_is)
    (case k16=>k_is)
    (case a17=>k_is)
    (case l17=>k_is)
    (case c17=>k_is)
    (case k17=>k_is)
    (case a18=>k_is)
    (case l18=>k_is)
    (case c18=>k_is)
    (case k18=>k_is)
    (case a19=>k_is)
    (case l19=>k_is)
    (case c19=>k_is)
    (case k19=>k_is)
    (case a20=>k_is)
    (case l20=>k_is)
    (case c20=>k_is)
    (case k20=>k_is)
    (case a21=>k_is)
    (case l21=>k_is)
    (case c21=>k_is)
    (case k21=>k_is)
    (case a22=>k_is)
    (case l22=>k_is)
    (case c22=>k_is)
    (case k22=>k_is)
    (case a23=>k_is)
    (case l23=>k_is)
    (case tl23=>k_is)
    (case tp23=>exact rfl)
    (case hd23=>kernel_rfl)
    (case nk23=>kernel_rfl)
    (case mt23=>first | k_mem | decide)
    (case c23=>k_is)
    (case k23=>k_is)
    (case a24=>k_is)
    (case l24=>k_is)
    (case tl24=>k_is)
    (case tp24=>exact rfl)
    (case hd24=>kernel_rfl)
    (case nk24=>kernel_rfl)
    (case mt24=>first | k_mem | decide)
    (case c24=>k_is)
    (case k24=>k_is)
    (case a25=>k_is)
    (case l25=>k_is)
    (case c25=>k_is)
    (case k25=>k_is)
    (case a26=>k_is)
    (case l26=>k_is)
    (case c26=>k_is)
    (case k26=>k_is)
    (case a27=>k_is)
    (case l27=>k_is)
    (case c27=>k_is)
    (case k27=>k_is)
    (case a28=>k_is)
    (case l28=>k_is)
    (case c28=>k_is)
    (case k28=>k_is)
    (case a29=>k_is)
    (case l29=>k_is)
    (case c29=>k_is)
    (case k29=>k_is)
    (case a30=>k_is)
    (case l30=>k_is)
    (case c30=>k_is)
    (case k30=>k_is)
    (case a31=>k_is)
    (case l31=>k_is)
    (case c31=>k_is)
    (case k31=>k_is)
    (case a32=>k_is)
    (case l32=>k_is)
    (case c32=>k_is)
    (case k32=>k_is)
    (case a33=>k_is)
    (case l33=>k_is)
    (case c33=>k_is)
    (case k33=>k_is)
    (case a34=>k_is)
    (case l34=>k_is)
    (case c34=>k_is)
    (case k34=>k_is)
    (case z_len=>k_is)
    (case z_list=>k_is)
    (case z_isi=>k_is)
    (case z_bool=>k_is)
    (case z_int=>k_is)
    (case z_str=>k_is)
    (case z_tuple=>k_is)
    (case z_all=>k_is)
    (case z_any=>k_is)
    (case z_zip=>k_is)
    (case z_range=>k_is)
    (case z_max=>k_is)
    (case z_min=>k_is)
    (case z_enumerate=>k_is)
    (case z_sum=>k_is)
    (case z_sorted=>k_is)
    (case z_verr=>k_is)
    (case g_FIRST_DAY=>k_is)
    (case g_LAST_DAY=>k_is)
    (case g_MOST_TERM=>k_is)
    (case g_MOST_ROWS=>k_is)
    (case g_MOST_COUNT=>k_is)
    (case g_MOST_DUTY=>k_is)
    (case g_0=>k_is)
    (case g_1=>k_is)
    (case g_2=>k_is)
    (case g_3=>k_is)
    (case g_4=>k_is)
    (case g_5=>k_is)
    (case g_6=>k_is)
    (case x_1=>first | k_is | k_exc)
    (case x_2=>first | k_is | k_exc)
    (case x_3=>first | k_is | k_exc)
    (case x_4=>first | k_is | k_exc)
    (case x_5=>first | k_is | k_exc)
    (case x_6=>first | k_is | k_exc)
    (case nn_L=>decide)
